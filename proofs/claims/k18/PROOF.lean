import PyProof.Rows.All
import Wide.All
import OpenK.AllK
import Wide.FinOn
import HandS.ForMost
import HandS.More
import HandS.TupAny
import HandS.Star
import HandS.Evl
import PyProof.Rows.StrMeet
import HandS.Walk
import PyProof.StrLawsRepr
import HandS.SortRule
import HandS.Deep
import KE.GoesEnum
import KE.GoesMore
import HandS.IsInst
import HandS.StrMore
import HandS.OwnEq
import HandS.ExcInit
import HandS.ExcIs
import HandS.ExcField
import HandS.ExcValue
import KE.KExcIs
import KE.KExcInit
import KE.KExcMake
import HandS.TupSets
import HandS.SetKeys
import HandS.Strs
import KE.KeyNested
import KE.LtSeq
import HandS.OwnIter
import HandS.IterVal
import KE.KOwnIter
import OpenK.KOps
import HandS.Keys
import HandS.SortKw
import KE.KSortKeyAny
import HandS.Exc
import HandS.ExcOwn
import HandS.WordsExc
import PySem.Challenge.RW_narrowkeys_k18_whole_sharing
set_option Elab.async false
set_option linter.all false
set_option maxRecDepth 100000
set_option maxHeartbeats 4000000
namespace Qk
open PySem PySem.Spec PyProof.Rows L2
/-! rules of my own: a list's item read for an augmented store, repr of flat values, sorted of a list or a tuple of texts -/
section
variable {X : Cx}
theorem get_list : PGet X (fun o i H Q => ∃ p xs j v, o = .ref p ∧ i = .int ((j : Nat) : Int) ∧ SqL X.K H p xs ∧ xs[j]? = some v ∧ Q v H) := by
  intro pins s σ H o i ov iv Q I ro ri h
  obtain ⟨p, xs, j, v, rfl, rfl, hx, ha, q⟩ := h
  cases ro
  obtain ⟨t, rfl⟩ := ri
  obtain ⟨its, r, pl, hz⟩ := I.list hx
  obtain ⟨w, ew, rw'⟩ := r.get ha
  have hj : j < xs.length := (List.getElem?_eq_some_iff.mp ha).1
  have hn := line63
  exact wpAny_getItem_list pl.isList (by omega) (by omega) (by simpa using ew) ⟨v, H, I, rw', q⟩
def rSortedST (K : PySem.W.Frag) : List V → Hp → VK → Prop := fun vs H Q => ∃ (a : Addr) (ss : List Str), vs = [V.ref a] ∧ (SqL K H a (ss.map V.str) ∨ SqT K H a (ss.map V.str)) ∧ ss.length < 64 ∧
  ∀ (ys : List Str) (p : Addr), ys.Perm ss → sortedS ys = true → H p = none → Q (.ref p) (upd H p (.lst (ys.map V.str)))
theorem cr_sortedST : CallR X (.builtin "sorted") (rSortedST X.K) := by
  intro pins s σ H vs us Q I r h
  obtain ⟨a, ss, rfl, hs, h64, q⟩ := h
  rcases hs with hs | hs
  · exact cr_sortedS pins s σ H _ us Q I r ⟨a, ss, rfl, hs, h64, q⟩
  · obtain ⟨its, rv, ⟨o, ho, hc, n, hd⟩, hz⟩ := I.tuple hs
    rw [Vals.ref1 r]
    have hS : StrsAre its ss := rv.strs
    have hl : its.length = ss.length := by
      have z := rv.length
      rw [List.length_map] at z
      exact z.symm
    refine Calls.call_function_entry PyProof.Rows.kind_sorted PyProof.Rows.plain_sorted PyProof.Rows.entry_sorted (PyProof.Rows.args_sorted1 _) ?_
    unfold Builtin.«sorted»
    refine wpAny_bind (m := checkCount "sorted" 1 1 _) (wpAny_pure ?_)
    refine wpAny_bind (wpAny_collect_seq a (.inr rfl) ho hc hd (fun h' hk => ?_) (by rw [List.size_toArray, hl, sizeLine_eq]; omega))
    have e0 : its.toArray.toList = its := by simp
    rw [e0]
    have I1 : Inv X pins σ H { s with heap := h' } := I.kept (t' := s.toks) hk
    refine wpAny_bind (wpAny_newList ?_ (by rw [hl, sizeLine_eq]; omega))
    have hoL : (h'.push (seqObj "list" its.toArray 0)).get? h'.objs.size = some (seqObj "list" its.toArray 0) := Heap.get?_push_size _ rfl
    show wpAny _ _ _ _ _ { s with heap := h'.push (seqObj "list" its.toArray 0) }
    refine wpAny_bind (wpAny_holding (wpAny_call_entry PyProof.Rows.slot_list_sort ⟨_, hoL, rfl⟩ PyProof.Rows.entry_list_sort
      (list_sort_treeK strKind_oneLt (s := { s with heap := h'.push (seqObj "list" its.toArray 0) }) hoL hS.keysOf (fun v₁ v₂ rest e => keyKind_strs (by rw [← e]; exact hS)) (by rw [hl]; exact h64) fun st' hp hs => ⟨_, rfl, ?_⟩)
      (PyProof.Rows.args_list_sort _)))
    obtain ⟨ys, g1, g2, g3⟩ := sorted_out_str hS hp hs
    obtain ⟨ep, he'⟩ := PyProof.Rows.sortedHeap_at (vs := its) (out := (arrOf st').map (·.2)) hoL
    have hlen : (ys.map V.str).length ≤ sizeLine := by
      rw [List.length_map, g2.length_eq]
      exact Nat.le_trans (Nat.le_of_lt h64) (by decide)
    have hfresh : H h'.objs.size = none := I1.hok.fresh (Nat.le_refl _)
    refine wpAny_pure ⟨_, rfl, .ref h'.objs.size, upd H h'.objs.size (.lst (ys.map V.str)), I1.laid (t' := s.toks) (fun b u hu => ?_) (Nat.le_refl _)
      (show ObjOk X.prog X.w _ _ h'.objs.size (.lst (ys.map V.str)) from ⟨hlen, ((arrOf st').map (·.2)).toList, ep, vals_of_strs g1, by rw [Array.toArray_toList]; exact he'⟩), rfl, q ys _ g2 g3 hfresh⟩
    have hb : b ≠ h'.objs.size := Nat.ne_of_lt (Heap.lt_size hu)
    have hu2 : (h'.push (seqObj "list" its.toArray 0)).get? b = some u := Heap.get?_push_of_some _ hu
    rw [PyProof.Rows.sortedHeap_old hb (Heap.lt_size hu2)]
    exact hu2
end
end Qk
set_option maxRecDepth 100000
set_option maxHeartbeats 4000000
namespace Qk
open PySem PySem.Spec PyProof.Rows L2
/-! the law's bag of draws: what is known of it, and what a draw may touch -/
def Bag (H : Hp) (b l : Addr) : Prop := ∃ (h m : Int) (p : Nat) (ns : List Int), H b = some (.lst [.int h, .int m, .int (p : Int), .ref l]) ∧ H l = some (.lst (ns.map V.int)) ∧ l ≠ b ∧
  0 ≤ h ∧ 0 ≤ m ∧ m < 2147483647 ∧ ∀ n ∈ ns, 0 ≤ n
/-- all but b is kept -/
def Kp (b : Addr) (H H' : Hp) : Prop := ∀ c o, H c = some o → c ≠ b → H' c = some o
theorem Kp.refl (b : Addr) (H : Hp) : Kp b H H := fun _ _ e _ => e
theorem Kp.trans {b : Addr} {H H1 H2 : Hp} (x : Kp b H H1) (y : Kp b H1 H2) : Kp b H H2 := fun c o e n => y c o (x c o e n) n
theorem Kp.of {b : Addr} {H H' : Hp} (s : Same H H') : Kp b H H' := fun c o e _ => s c o e
theorem Kp.at_ (b : Addr) (H : Hp) (o : HO) : Kp b H (upd H b o) := fun c u e n => by rw [upd_ne n]; exact e
theorem Kp.new {b p : Addr} {H : Hp} {o : HO} (hp : H p = none) : Kp b H (L2.upd H p o) := fun c u e _ => by rw [upd_ne (ne_of_none e hp)]; exact e
theorem Bag.at_ {H : Hp} {b l : Addr} (B : Bag H b l) : ∃ o, H b = some o := by
  obtain ⟨h, m, p, ns, hb, _⟩ := B
  exact ⟨_, hb⟩
theorem Bag.same {H H' : Hp} {b l : Addr} (s : Same H H') (B : Bag H b l) : Bag H' b l := by
  obtain ⟨h, m, p, ns, hb, hl, r⟩ := B
  exact ⟨h, m, p, ns, s _ _ hb, s _ _ hl, r⟩
theorem same_new {H : Hp} {p : Addr} {o : HO} (h : H p = none) : Same H (upd H p o) := fun b x e => by
  rw [upd_ne (ne_of_none e h)]
  exact e
theorem Bag.new {H : Hp} {b l p : Addr} {o : HO} (B : Bag H b l) (h : H p = none) : Bag (upd H p o) b l := B.same (same_new h)
theorem Bag.ne {H : Hp} {b l p : Addr} (B : Bag H b l) (h : H p = none) : p ≠ b := by
  obtain ⟨o, e⟩ := B.at_
  exact (ne_of_none e h).symm
/-- the bag stands nowhere where something of another kind stands -/
theorem Bag.ne_tup {H : Hp} {b l p : Addr} {xs : List V} (B : Bag H b l) (h : H p = some (.tup xs)) : p ≠ b := by
  obtain ⟨h', m, q, ns, hb, _⟩ := B
  exact ne_of h hb (by intro z; cases z)
/-- what stands beside the bag and its list may change -/
theorem Bag.off {H H' : Hp} {b l p : Addr} (B : Bag H b l) (h : ∀ c o, H c = some o → c ≠ p → H' c = some o) (nb : b ≠ p) (nl : l ≠ p) : Bag H' b l := by
  obtain ⟨h', m, q, ns, hb, hl, r⟩ := B
  exact ⟨h', m, q, ns, h _ _ hb nb, h _ _ hl nl, r⟩
theorem Bag.list {H : Hp} {b l : Addr} (B : Bag H b l) : ∃ o, H l = some o := by
  obtain ⟨h, m, p, ns, hb, hl, _⟩ := B
  exact ⟨_, hl⟩
theorem Bag.nel {H : Hp} {b l p : Addr} (B : Bag H b l) (h : H p = none) : l ≠ p := by
  obtain ⟨o, e⟩ := B.list
  exact ne_of_none e h
theorem Bag.upd {H : Hp} {b l p : Addr} {o : HO} (B : Bag H b l) (nb : b ≠ p) (nl : l ≠ p) : Bag (L2.upd H p o) b l :=
  B.off (fun c u e n => by rw [upd_ne n]; exact e) nb nl
/-! promises of the law's own helpers -/
/-- a draw: a number below many, the bag moves on -/
def spTake : Sp := fun vs H Q _ => ∃ (b l : Addr) (n : Int), vs = [.ref b, .int n] ∧ Bag H b l ∧ 0 < n ∧ n < 1000000 ∧ ∀ (k : Nat) (H' : Hp), (k : Int) < n → Bag H' b l → Kp b H H' → Q (.int (k : Int)) H'
/-- one of a list -/
def spOne : Sp := fun vs H Q _ => ∃ (b l a : Addr) (xs : List V), vs = [.ref b, .ref a] ∧ Bag H b l ∧ a ≠ b ∧ H a = some (.lst xs) ∧ xs ≠ [] ∧ xs.length < 1000 ∧ ∀ (x : V) (H' : Hp), x ∈ xs → Bag H' b l → Kp b H H' → Q x H'
/-- a new list of the same things in some order -/
def spMixed : Sp := fun vs H Q _ => ∃ (b l a : Addr) (xs : List V), vs = [.ref b, .ref a] ∧ Bag H b l ∧ a ≠ b ∧ H a = some (.lst xs) ∧ xs.length < 1000 ∧
  ∀ (ys : List V) (p : Addr) (H' : Hp), ys.Perm xs → H p = none → p ≠ b → H' p = some (.lst ys) → Bag H' b l → Kp b H H' → Q (.ref p) H'
/-- the bag of a script -/
def spBag (K : PySem.W.Frag) : Sp := fun vs H Q _ => ∃ (a : Addr) (ns : List Int), vs = [.ref a] ∧ SqL K H a (ns.map V.int) ∧ ns.length ≤ 63 ∧ ∀ (b l : Addr) (H' : Hp), H b = none → Bag H' b l → Same H H' → Q (.ref b) H'
/-- a def that is called by its name -/
structure Cal (P : Program) (w : World) (K : PySem.W.Frag) (mg : Str → Option Value) (base : Heap) (k : Nat) (x : Str) (ps : List Str) (sp : Sp) where
  f : Addr
  fd : FuncData
  G : FnOk P w K mg base CX0 k f fd ps sp
  m : mg x = some (.ref f)
  kp : PySem.W.keepIn K (.ref f) = true
  b : Binds K fd ps []
theorem cut_to (k : Nat) (xs : List V) : cutV xs none (some (k : Int)) = xs.take k := by
  unfold cutV
  rw [HT.sIx_none, HT.sIx_nat, List.drop_zero, Nat.sub_zero]
  by_cases h : k ≤ xs.length
  · rw [Nat.min_eq_left h]
  · rw [Nat.min_eq_right (by omega), List.take_of_length_le (Nat.le_refl _), List.take_of_length_le (by omega)]
theorem take_mod {k n : Int} (hn : 0 < n) : ∃ j : Nat, k % n = (j : Int) ∧ (j : Int) < n := by
  have h1 := Int.emod_nonneg k (show n ≠ 0 by omega)
  have h2 := Int.emod_lt_of_pos k hn
  exact ⟨(k % n).toNat, by omega, by omega⟩
/-- the names that the laws draw from -/
def menu0 : List Str := ["a", "b", "ab", "ba", "job", "view", "pin", "quay", "stock", "golfer", "exhumed", "zzzzzzzz"]
/-- .. and others of other laws -/
def menu : List Str := menu0 ++ (["aa", "z", "power", "status", "ask", "quicklyx", "fghmndct", "q", "c", "d", "e", "f", "g", "h", "i", "j", "k", "l", "m"] : List Str)
theorem menu0_nodup : menu0.Nodup := by decide +kernel
theorem menu0_sub : ∀ c ∈ menu0, c ∈ menu := fun c h => List.mem_append_left _ h
theorem perm_strs {ys : List V} {xs : List Str} (h : ys.Perm (xs.map V.str)) : ∃ zs : List Str, ys = zs.map V.str ∧ zs.Perm xs := by
  have go : ∀ (ys : List V), (∀ y ∈ ys, ∃ z, y = V.str z) → ∃ zs : List Str, ys = zs.map V.str := by
    intro ys
    induction ys with
    | nil => intro _; exact ⟨[], rfl⟩
    | cons y ys ih =>
      intro h
      obtain ⟨z, rfl⟩ := h y List.mem_cons_self
      obtain ⟨zs, rfl⟩ := ih fun y hy => h y (List.mem_cons_of_mem _ hy)
      exact ⟨z :: zs, rfl⟩
  obtain ⟨zs, rfl⟩ := go ys fun y hy => by
    obtain ⟨z, _, e⟩ := List.mem_map.mp (h.mem_iff.mp hy)
    exact ⟨z, e.symm⟩
  refine ⟨zs, rfl, ?_⟩
  have unstr : ∀ l : List Str, (l.map V.str).map (fun v => match v with | .str z => z | _ => "") = l := fun l => by
    rw [List.map_map]
    exact (List.map_congr_left fun _ _ => rfl).trans (List.map_id _)
  have := h.map (fun v => match v with | .str z => z | _ => "")
  rwa [unstr, unstr] at this
/-- some of the menu's names, each once, n at most -/
structure Names (n : Nat) (xs : List Str) : Prop where
  nd : xs.Nodup
  sub : ∀ c ∈ xs, c ∈ menu
  len : xs.length = min n 12
def spNames : Sp := fun vs H Q _ => ∃ (b l : Addr) (n : Nat), vs = [.ref b, .int (n : Int)] ∧ Bag H b l ∧
  ∀ (xs : List Str) (p : Addr) (H' : Hp), Names n xs → H p = none → p ≠ b → H' p = some (.lst (xs.map V.str)) → Bag H' b l → Kp b H H' → Q (.ref p) H'
/-- a row of names -/
structure Row (xs : List Str) : Prop where
  nd : xs.Nodup
  sub : ∀ c ∈ xs, c ∈ menu
  pos : 0 < xs.length
  le : xs.length ≤ 12
theorem Names.row {n : Nat} {xs : List Str} (h : Names n xs) (hn : 0 < n) : Row xs := ⟨h.nd, h.sub, by rw [h.len]; omega, by rw [h.len]; omega⟩
/-- a question as it stands -/
def QAt (H : Hp) (q : Addr) (cols : List Str) (e : Str) : Prop := ∃ c, H q = some (.tup [.ref c, .str e]) ∧ H c = some (.tup (cols.map V.str))
theorem QAt.same {H H' : Hp} {q : Addr} {cols : List Str} {e : Str} (s : Same H H') (h : QAt H q cols e) : QAt H' q cols e := by
  obtain ⟨c, h1, h2⟩ := h
  exact ⟨c, s _ _ h1, s _ _ h2⟩
theorem QAt.kp {H H' : Hp} {q b l : Addr} {cols : List Str} {e : Str} (B : Bag H b l) (s : Kp b H H') (h : QAt H q cols e) : QAt H' q cols e := by
  obtain ⟨c, h1, h2⟩ := h
  exact ⟨c, s _ _ h1 (B.ne_tup h1), s _ _ h2 (B.ne_tup h2)⟩
structure Qok (xs cols : List Str) (e : Str) : Prop where
  nd : cols.Nodup
  srt : sortedS cols = true
  sub : ∀ c ∈ cols, c ∈ xs
  esub : e = "" ∨ e ∈ xs
  ne : e ∉ cols
  some : e = "" → cols ≠ []
  le : cols.length ≤ 12
def spQuestion : Sp := fun vs H Q _ => ∃ (b l a : Addr) (xs : List Str), vs = [.ref b, .ref a] ∧ Bag H b l ∧ a ≠ b ∧ H a = some (.lst (xs.map V.str)) ∧ Row xs ∧
  ∀ (q : Addr) (cols : List Str) (e : Str) (H' : Hp), QAt H' q cols e → Qok xs cols e → Bag H' b l → Kp b H H' → Q (.ref q) H'
def spBeginL : Sp := fun vs H Q _ => ∃ (b l a : Addr) (xs : List Str), vs = [.ref b, .ref a] ∧ Bag H b l ∧ a ≠ b ∧ H a = some (.lst (xs.map V.str)) ∧ Row xs ∧
  ∀ (q : Addr) (cols : List Str) (e : Str) (H' : Hp), QAt H' q cols e → Qok xs cols e → Bag H' b l → Kp b H H' → Q (.ref q) H'
theorem menu_ne : ∀ c ∈ menu, c ≠ "" := by decide +kernel
/-- out of a beginning of some order of a row -/
theorem qok_plain {xs ys zs : List Str} {k : Nat} (R : Row xs) (hp : ys.Perm xs) (hz : zs.Perm (ys.take (k + 1))) (hs : sortedS zs = true) : Qok xs zs "" := by
  have sl := List.take_sublist (k + 1) ys
  have hsub : ∀ c ∈ zs, c ∈ xs := fun c hc => hp.mem_iff.mp (sl.mem (hz.mem_iff.mp hc))
  have hl := R.le
  have hpos := R.pos
  have hyl := hp.length_eq
  have hzl := hz.length_eq
  rw [List.length_take] at hzl
  refine ⟨hz.nodup_iff.mpr ((hp.nodup_iff.mpr R.nd).sublist sl), hs, hsub, .inl rfl, fun h => menu_ne _ (R.sub _ (hsub _ h)) rfl, fun _ h => ?_, by omega⟩
  rw [h] at hzl
  simp at hzl
  omega
theorem qok_ranged {xs ys zs : List Str} {k : Nat} {e : Str} (R : Row xs) (hp : ys.Perm xs) (he : ys[k]? = some e) (hz : zs.Perm (ys.take k)) (hs : sortedS zs = true) : Qok xs zs e := by
  have sl := List.take_sublist k ys
  have hsub : ∀ c ∈ zs, c ∈ xs := fun c hc => hp.mem_iff.mp (sl.mem (hz.mem_iff.mp hc))
  have hmem : e ∈ xs := hp.mem_iff.mp (List.mem_of_getElem? he)
  have hl := R.le
  have hyl := hp.length_eq
  have hzl := hz.length_eq
  rw [List.length_take] at hzl
  have ndy := hp.nodup_iff.mpr R.nd
  refine ⟨hz.nodup_iff.mpr (ndy.sublist sl), hs, hsub, .inr hmem, fun h => ?_, fun h => absurd h (menu_ne _ (R.sub _ hmem)), by omega⟩
  have h1 := hz.mem_iff.mp h
  have hk : k < ys.length := (List.getElem?_eq_some_iff.mp he).1
  have e2 : ys = ys.take k ++ ys.drop k := (List.take_append_drop k ys).symm
  have e3 : e ∈ ys.drop k := by
    have : (ys.drop k)[0]? = some e := by rw [List.getElem?_drop]; exact he
    exact List.mem_of_getElem? this
  rw [e2] at ndy
  exact (List.nodup_append.mp ndy).2.2 _ h1 _ e3 rfl
end Qk
set_option maxRecDepth 100000
set_option maxHeartbeats 4000000
namespace Qk
open PySem PySem.Spec PyProof.Rows L2
/-! sorted lists of texts -/
def leS (a b : Str) : Prop := ltCps b.cps.toList a.cps.toList = false
theorem str_ext {a b : Str} (h : a.cps.toList = b.cps.toList) : a = b := by
  obtain ⟨x⟩ := a
  obtain ⟨y⟩ := b
  simp only at h
  congr 1
  exact Array.toList_inj.mp h
theorem leS_antisymm {a b : Str} (h1 : leS a b) (h2 : leS b a) : a = b := by
  unfold leS at h1 h2
  rw [ltCps_eq] at h1 h2
  have n1 := of_decide_eq_false h1
  have n2 := of_decide_eq_false h2
  exact str_ext (List.le_antisymm (List.not_lt.mp n1) (List.not_lt.mp n2))
theorem leS_refl (a : Str) : leS a a := by
  unfold leS
  rw [ltCps_eq]
  exact decide_eq_false (List.lt_irrefl _)
theorem leS_trans {a b c : Str} (h1 : leS a b) (h2 : leS b c) : leS a c := by
  unfold leS at *
  rw [ltCps_eq] at *
  have n1 := List.not_lt.mp (of_decide_eq_false h1)
  have n2 := List.not_lt.mp (of_decide_eq_false h2)
  exact decide_eq_false (List.not_lt.mpr (List.le_trans n1 n2))
theorem risingS_pw : ∀ (xs : List Str) (p : Str), risingS p xs = true → (p :: xs).Pairwise leS
  | [], p, _ => List.pairwise_singleton _ _
  | x :: r, p, h => by
    rw [risingS, Bool.and_eq_true] at h
    have h1 : leS p x := by
      have := h.1
      rw [Bool.not_eq_true'] at this
      exact this
    have ih := risingS_pw r x h.2
    refine List.pairwise_cons.mpr ⟨fun y hy => ?_, ih⟩
    rcases List.mem_cons.mp hy with rfl | hy
    · exact h1
    · exact leS_trans h1 ((List.pairwise_cons.mp ih).1 y hy)
theorem sortedS_pw {xs : List Str} (h : sortedS xs = true) : xs.Pairwise leS := by
  cases xs with
  | nil => exact List.Pairwise.nil
  | cons x r => exact risingS_pw r x h
theorem perm_sorted : ∀ {xs ys : List Str}, xs.Perm ys → xs.Pairwise leS → ys.Pairwise leS → xs = ys
  | [], ys, h, _, _ => (List.Perm.nil_eq h)
  | x :: xs, [], h, _, _ => absurd h.length_eq (by simp)
  | x :: xs, y :: ys, h, h1, h2 => by
    have e : x = y := by
      rcases List.mem_cons.mp (h.mem_iff.mp List.mem_cons_self) with e | m1
      · exact e
      · rcases List.mem_cons.mp (h.mem_iff.mpr List.mem_cons_self) with e | m2
        · exact e.symm
        · exact leS_antisymm ((List.pairwise_cons.mp h1).1 y m2) ((List.pairwise_cons.mp h2).1 x m1)
    subst e
    rw [perm_sorted (List.Perm.cons_inv h) (List.pairwise_cons.mp h1).2 (List.pairwise_cons.mp h2).2]
theorem sorted_unique {xs ys zs : List Str} (h1 : xs.Perm zs) (h2 : ys.Perm zs) (s1 : sortedS xs = true) (s2 : sortedS ys = true) : xs = ys :=
  perm_sorted (h1.trans h2.symm) (sortedS_pw s1) (sortedS_pw s2)
/-! == of lists and tuples of texts -/
theorem menu_ok : ∀ c ∈ menu, PyData.strOk c = true := by decide +kernel
theorem lay_strs : ∀ {xs : List Str}, (∀ c ∈ xs, PyData.strOk c = true) → PyData.canLayAll0 (xs.map PyData.str) = true
  | [], _ => rfl
  | x :: xs, h => by
    show (PyData.canLay0 (.str x) && PyData.canLayAll0 (xs.map PyData.str)) = true
    rw [lay_strs fun c hc => h c (List.mem_cons_of_mem _ hc), Bool.and_true]
    exact h x List.mem_cons_self
theorem depth_strs : ∀ (xs : List Str), PyData.depthAll (xs.map PyData.str) = 0
  | [] => rfl
  | x :: xs => by
    show max (PyData.depth (.str x)) (PyData.depthAll (xs.map PyData.str)) = 0
    rw [depth_strs xs]
    rfl
theorem eqv_strs : ∀ (xs ys : List Str), PyData.eqvAll (xs.map PyData.str) (ys.map PyData.str) = decide (xs = ys)
  | [], [] => by simp [PyData.eqvAll]
  | [], y :: ys => by simp [PyData.eqvAll]
  | x :: xs, [] => by simp [PyData.eqvAll]
  | x :: xs, y :: ys => by
    show PyData.eqvAll (PyData.str x :: xs.map PyData.str) (PyData.str y :: ys.map PyData.str) = _
    rw [PyData.eqvAll, eqv_strs xs ys, PyData.eqv]
    by_cases h1 : x = y
    · subst h1
      by_cases h2 : xs = ys
      · subst h2
        simp
      · simp [h2]
    · simp [h1]
theorem shaped_tuple {xs : List Str} (h : ∀ c ∈ xs, PyData.strOk c = true) : SeqAt.shaped (.tuple (xs.map PyData.str)) = true := by
  unfold SeqAt.shaped
  rw [Bool.and_eq_true]
  exact ⟨lay_strs h, decide_eq_true (by rw [PyData.depth, depth_strs]; decide)⟩
theorem dp_strs {K : PySem.W.Frag} {H : Hp} : ∀ (xs : List Str), DpAll K H (xs.map V.str) (xs.map PyData.str)
  | [] => .nil
  | x :: xs => .cons (.str x) (dp_strs xs)
theorem flat_strs (xs : List Str) : (xs.map V.str).all flatV = true := by
  rw [List.all_map]
  exact List.all_eq_true.mpr fun _ _ => rfl
theorem inV_strs (c : Str) (xs : List Str) : inV (.str c) (xs.map V.str) = decide (c ∈ xs) := by
  unfold inV
  rw [List.any_map]
  by_cases h : c ∈ xs
  · rw [decide_eq_true h]
    exact List.any_eq_true.mpr ⟨c, h, by show (c == c) = true; exact beq_self_eq_true c⟩
  · rw [decide_eq_false h]
    refine List.any_eq_false.mpr fun y hy e => h ?_
    have e' : (y == c) = true := e
    rw [← eq_of_beq e']
    exact hy
theorem perm_of_sub : ∀ {xs ys : List Str}, xs.Nodup → (∀ c ∈ xs, c ∈ ys) → ys.length ≤ xs.length → xs.Perm ys
  | [], ys, _, _, h => by
    have : ys = [] := List.eq_nil_of_length_eq_zero (by simpa using h)
    rw [this]
  | x :: xs, ys, nd, hs, h => by
    have hx := hs x List.mem_cons_self
    have hp := List.perm_cons_erase hx
    obtain ⟨nx, nd'⟩ := List.nodup_cons.mp nd
    have hl := hp.length_eq
    rw [List.length_cons] at hl h
    refine ((perm_of_sub (ys := ys.erase x) nd' (fun c hc => ?_) (by omega)).cons x).trans hp.symm
    have ne : c ≠ x := fun e => nx (e ▸ hc)
    exact (List.mem_erase_of_ne ne).mpr (hs c (List.mem_cons_of_mem _ hc))
/-! the least place of a fault -/
def goodAt (ix cols : List Str) (p : Nat) : Prop := ∃ c, ix[p]? = some c ∧ c ∈ cols
instance (ix cols : List Str) (p : Nat) : Decidable (goodAt ix cols p) :=
  match h : ix[p]? with
  | some c => if hc : c ∈ cols then isTrue ⟨c, h, hc⟩ else isFalse fun ⟨d, hd, hm⟩ => hc (by rw [h] at hd; cases hd; exact hm)
  | none => isFalse fun ⟨d, hd, _⟩ => by rw [h] at hd; cases hd
def fault (ix cols : List Str) (last : Str) : Option Nat :=
  match (List.range cols.length).find? (fun p => !decide (goodAt ix cols p)) with
  | some p => some p
  | none => if last ≠ "" ∧ ix[cols.length]? ≠ some last then some cols.length else none
theorem find_none {n : Nat} {g : Nat → Bool} (h : ∀ p, p < n → g p = false) : (List.range n).find? g = none :=
  List.find?_eq_none.mpr fun p hp e => by rw [h p (List.mem_range.mp hp)] at e; cases e
theorem find_at {n i : Nat} {g : Nat → Bool} (hi : i < n) (h : ∀ p, p < i → g p = false) (hg : g i = true) : (List.range n).find? g = some i := by
  refine List.find?_range_eq_some.mpr ⟨hg, List.mem_range.mpr hi, fun j hj => ?_⟩
  rw [h j hj]
  rfl
theorem fault_at {ix cols : List Str} {last : Str} {i : Nat} (hi : i < cols.length) (h : ∀ p, p < i → goodAt ix cols p) (hg : ¬ goodAt ix cols i) : fault ix cols last = some i := by
  unfold fault
  rw [find_at hi (fun p hp => by rw [decide_eq_true (h p hp)]; rfl) (by rw [decide_eq_false hg]; rfl)]
theorem fault_end {ix cols : List Str} {last : Str} (h : ∀ p, p < cols.length → goodAt ix cols p) : fault ix cols last = if last ≠ "" ∧ ix[cols.length]? ≠ some last then some cols.length else none := by
  unfold fault
  rw [find_none fun p hp => by rw [decide_eq_true (h p hp)]; rfl]
def optV : Option Nat → V
  | none => .non
  | some n => .int (n : Int)
/-- no fault just if the beginning is made of the columns, with the last one behind -/
theorem fault_none {ix cols ws : List Str} {last : Str} (hix : ix.Nodup) (hc : cols.Nodup) (hs : sortedS cols = true) (hw : ws.Perm (ix.take cols.length)) (hws : sortedS ws = true) :
    fault ix cols last = none ↔ ws = cols ∧ (last = "" ∨ ix[cols.length]? = some last) := by
  constructor
  · intro h
    unfold fault at h
    split at h
    · cases h
    · next e =>
      have good : ∀ p, p < cols.length → goodAt ix cols p := fun p hp => by
        have := List.find?_eq_none.mp e p (List.mem_range.mpr hp)
        simpa using this
      constructor
      · have hle : cols.length ≤ ix.length := by
          rcases Nat.lt_or_ge ix.length cols.length with hlt | hge
          · obtain ⟨c, h1, _⟩ := good ix.length hlt
            rw [List.getElem?_eq_none (Nat.le_refl _)] at h1
            cases h1
          · exact hge
        have hlen : (ix.take cols.length).length = cols.length := by rw [List.length_take]; omega
        have hsub : ix.take cols.length ⊆ cols := fun c hc' => by
          obtain ⟨p, hp, e⟩ := List.mem_iff_getElem.mp hc'
          rw [hlen] at hp
          obtain ⟨d, h1, h2⟩ := good p hp
          rw [List.getElem_take] at e
          rw [List.getElem?_eq_getElem (by omega)] at h1
          cases h1
          rw [← e]
          exact h2
        have hperm : (ix.take cols.length).Perm cols := perm_of_sub (hix.sublist (List.take_sublist _ _)) (fun c hc => hsub hc) (by omega)
        exact sorted_unique hw hperm.symm hws hs
      · by_cases h1 : last = ""
        · exact .inl h1
        · by_cases h2 : ix[cols.length]? = some last
          · exact .inr h2
          · rw [if_pos ⟨h1, h2⟩] at h
            cases h
  · rintro ⟨rfl, h2⟩
    rw [fault_end fun p hp => ?_]
    · rw [if_neg]
      rintro ⟨a1, a2⟩
      rcases h2 with h2 | h2
      · exact a1 h2
      · exact a2 h2
    · have hl := hw.length_eq
      rw [List.length_take] at hl
      have hp2 : p < ix.length := by omega
      refine ⟨ix[p], List.getElem?_eq_getElem hp2, hw.mem_iff.mpr ?_⟩
      exact List.mem_iff_getElem.mpr ⟨p, by rw [List.length_take]; omega, by rw [List.getElem_take]⟩
/-! promises about serving -/
def spFault : Sp := fun vs H Q _ => ∃ (t q : Addr) (ix cols : List Str) (e : Str), vs = [.ref t, .ref q] ∧ H t = some (.tup (ix.map V.str)) ∧ QAt H q cols e ∧ cols.length ≤ 12 ∧ ∀ H', Same H H' → Q (optV (fault ix cols e)) H'
def spServes : Sp := fun vs H Q _ => ∃ (t q : Addr) (ix cols : List Str) (e : Str), vs = [.ref t, .ref q] ∧ H t = some (.tup (ix.map V.str)) ∧ QAt H q cols e ∧ cols.length ≤ 12 ∧ ix.length ≤ 12 ∧ ix.Nodup ∧ (∀ c ∈ ix, c ∈ menu) ∧
  cols.Nodup ∧ sortedS cols = true ∧ (∀ c ∈ cols, c ∈ menu) ∧ (e = "" ∨ e ∈ menu) ∧ ∀ H', Same H H' → Q (.bl (decide (fault ix cols e = none))) H'
theorem slA {K : PySem.W.Frag} {H : Hp} {a : Addr} {xs : List Str} {lo hi : Option Int} {ys : List Str} {Q : VK} (h : H a = some (.tup (xs.map V.str))) (e : cutV (xs.map V.str) lo hi = ys.map V.str)
    (k : ∀ (r : Addr) (H' : Hp), Same H H' → H' r = some (.tup (ys.map V.str)) → Q (.ref r) H') : rSlA K (.ref a) lo hi H Q := by
  refine ⟨a, _, rfl, SqT.of h, fun hw => k a H (Same.refl _) ?_, fun _ p hp => ?_⟩
  · rw [h, ← e]
    unfold cutV
    rw [hw.1, hw.2, List.drop_zero, Nat.sub_zero, List.take_length]
  · rw [e]
    exact k p _ (same_new hp) upd_same
theorem cut_one (n : Nat) (xs : List Str) : cutV (xs.map V.str) (some (n : Int)) (some ((n : Int) + 1)) = ((xs.drop n).take 1).map V.str := by
  have e1 : (n : Int) + 1 = ((n + 1 : Nat) : Int) := by omega
  unfold cutV
  rw [e1, HT.sIx_nat, HT.sIx_nat, List.length_map]
  by_cases h : n < xs.length
  · rw [Nat.min_eq_left (by omega), Nat.min_eq_left (by omega), ← List.map_drop, ← List.map_take]
    congr 2
    omega
  · have e2 : min n xs.length = xs.length := Nat.min_eq_right (by omega)
    rw [e2, List.drop_of_length_le (show (xs.map V.str).length ≤ xs.length by rw [List.length_map]; exact Nat.le_refl _), List.drop_of_length_le (show xs.length ≤ n by omega), List.take_nil, List.take_nil, List.map_nil]
theorem take_one {xs : List Str} {n : Nat} {e : Str} : (xs.drop n).take 1 = [e] ↔ xs[n]? = some e := by
  have h0 : (xs.drop n)[0]? = xs[n]? := by rw [List.getElem?_drop]; rfl
  cases hd : xs.drop n with
  | nil =>
    rw [hd] at h0
    have h1 : none = xs[n]? := h0
    rw [← h1]
    simp
  | cons y ys =>
    rw [hd] at h0
    have h1 : some y = xs[n]? := h0
    rw [← h1]
    simp
/-! what a law knows of its index and its question -/
structure QM (cols : List Str) (e : Str) : Prop where
  nd : cols.Nodup
  srt : sortedS cols = true
  sub : ∀ c ∈ cols, c ∈ menu
  esub : e = "" ∨ e ∈ menu
  le : cols.length ≤ 12
  some : e = "" → cols ≠ []
theorem Qok.qm {xs cols : List Str} {e : Str} (h : Qok xs cols e) (R : ∀ c ∈ xs, c ∈ menu) : QM cols e :=
  ⟨h.nd, h.srt, fun c hc => R _ (h.sub _ hc), h.esub.imp id (fun m => R _ m), h.le, h.some⟩
theorem Row.take {xs : List Str} (R : Row xs) (k : Nat) : Row (xs.take (k + 1)) :=
  ⟨R.nd.sublist (List.take_sublist _ _), fun c hc => R.sub _ ((List.take_sublist _ _).mem hc), by have := R.pos; rw [List.length_take]; omega, by have := R.le; rw [List.length_take]; omega⟩
/-- two places exchanged -/
def sw (x y k : Nat) : Nat := if k = y then x else if k = x then y else k
end Qk
set_option maxRecDepth 100000
set_option maxHeartbeats 4000000
namespace Qk
open PySem PySem.Spec PyProof.Rows L2
/-! ### defs that may be told only where no repr is running: what stands around them has no guard -/
structure FnG (P : Program) (w : World) (K : PySem.W.Frag) (mg : Str → Option Value) (base : Heap) (k : Nat) (f : Addr) (fd : FuncData) (ps : List Str) (sp : Sp) : Prop where
  len : ∀ vs H Q E, sp vs H Q E → vs.length = ps.length
  run : ∀ (A : Around) (outer : List Env) (s : Shared) (H : Hp) (args : Args) (us : List Value) (vs : List V) (Q : VK) (E : XK), Room k A → A.guards = some [] → Env0 P w K mg base A outer s H →
    BindsTo s fd args (ps.zip us) → Vals vs us → sp vs H Q E → codeAny (model P w) A (.call (.ref f) args) (CR CX0 outer P w H s Q E) s
theorem FnG.of {P : Program} {w : World} {K : PySem.W.Frag} {mg : Str → Option Value} {base : Heap} {k : Nat} {f : Addr} {fd : FuncData} {ps : List Str} {sp : Sp} (F : FnOk P w K mg base CX0 k f fd ps sp) : FnG P w K mg base k f fd ps sp :=
  ⟨F.len, fun A o s H args us vs Q E hr _ e b v h => F.run A o s H args us vs Q E hr e b v h⟩
end Qk
set_option maxRecDepth 100000
set_option maxHeartbeats 4000000
namespace Qk
open PySem PySem.Spec PyProof.Rows L2
/-! ### the end of a law whose def is of that kind -/
/-! ### data that may be compared and shown -/
mutual
def fine : PyData → Bool
  | .none => true
  | .bool _ => true
  | .int i => decide (i.natAbs < 10 ^ 60)
  | .str x => PyData.strOk x && decide (x.cps.size ≤ 20)
  | .list xs => fineAll xs
  | .tuple xs => fineAll xs
  | .dict _ => false
def fineAll : List PyData → Bool
  | [] => true
  | x :: xs => fine x && fineAll xs
end
mutual
def cost : PyData → Nat
  | .none => 4
  | .bool _ => 5
  | .int _ => 64
  | .str _ => 210
  | .list xs => costAll xs + 3
  | .tuple xs => costAll xs + 3
  | .dict _ => 0
def costAll : List PyData → Nat
  | [] => 0
  | x :: xs => cost x + 2 + costAll xs
end
mutual
theorem fine_lay : ∀ d : PyData, fine d = true → d.canLay0 = true ∧ d.showable = true ∧ d.hasDict = false
  | .none, _ => ⟨rfl, rfl, rfl⟩
  | .bool _, _ => ⟨rfl, rfl, rfl⟩
  | .int i, h => by
    have hi : i.natAbs < 10 ^ 60 := of_decide_eq_true h
    refine ⟨rfl, ?_, rfl⟩
    show decide (i.natAbs.log2 < 1920) = true
    refine decide_eq_true ?_
    by_cases h0 : i.natAbs = 0
    · rw [h0]
      decide
    · exact Nat.lt_of_lt_of_le ((Nat.log2_lt h0).mpr (Nat.lt_of_lt_of_le hi (show 10 ^ 60 ≤ 2 ^ 200 by decide))) (by decide)
  | .str x, h => by
    have h' : (PyData.strOk x && decide (x.cps.size ≤ 20)) = true := h
    rw [Bool.and_eq_true] at h'
    exact ⟨h'.1, rfl, rfl⟩
  | .list xs, h => fine_layAll xs h
  | .tuple xs, h => fine_layAll xs h
  | .dict _, h => by cases h
theorem fine_layAll : ∀ xs : List PyData, fineAll xs = true → PyData.canLayAll0 xs = true ∧ PyData.showableAll xs = true ∧ PyData.hasDictAll xs = false
  | [], _ => ⟨rfl, rfl, rfl⟩
  | x :: xs, h => by
    have h' : (fine x && fineAll xs) = true := h
    rw [Bool.and_eq_true] at h'
    obtain ⟨a1, a2, a3⟩ := fine_lay x h'.1
    obtain ⟨b1, b2, b3⟩ := fine_layAll xs h'.2
    refine ⟨?_, ?_, ?_⟩
    · show (PyData.canLay0 x && PyData.canLayAll0 xs) = true
      rw [a1, b1]
      rfl
    · show (PyData.showable x && PyData.showableAll xs) = true
      rw [a2, b2]
      rfl
    · show (PyData.hasDict x || PyData.hasDictAll xs) = false
      rw [a3, b3]
      rfl
end
theorem listText_le (ts : List Str) : (listText ts).length ≤ piled ts + 2 := by
  cases ts with
  | nil => decide
  | cons t r =>
    have e : listText (t :: r) = textFrom 1 ("[" ++ "" ++ t) r ++ "]" := rfl
    rw [e, strLen_append, textFrom_length_pos r 1 _ (by decide), strLen_append, piled_cons]
    have e1 : (("[" : Str) ++ ("" : Str)).length = 1 := rfl
    have e2 : ((("]" : String) : Str)).length = 1 := rfl
    have e3 : (((("[" : String) : Str) ++ (("" : String) : Str)) : Str).length = 1 := rfl
    omega
theorem tupleText_le (ts : List Str) : (tupleText ts).length ≤ piled ts + 3 := by
  unfold tupleText
  rw [strLen_append, strLen_append]
  have e1 : (("(" : String) : Str).length = 1 := rfl
  have e2 : ((if (ts.length == 1) = true then ",)" else ")" : String) : Str).length ≤ 2 := by
    split
    · decide
    · decide
  cases ts with
  | nil =>
    have : (Str.join ", " ([] : List Str)).length = 0 := rfl
    omega
  | cons t r =>
    have := join_length_add (t :: r) (by simp)
    omega
mutual
theorem shown_le : ∀ d : PyData, fine d = true → d.shown.length ≤ cost d
  | .none, _ => by decide
  | .bool b, _ => by cases b <;> decide
  | .int i, h => by
    have hi : i.natAbs < 10 ^ 60 := of_decide_eq_true h
    have e := int_text_length_le10 (k := 60) (a := i) (by decide) hi
    show (Str.ofString (toString i)).length ≤ 64
    rw [PySem.ofString_length]
    omega
  | .str x, h => by
    have h' : (PyData.strOk x && decide (x.cps.size ≤ 20)) = true := h
    rw [Bool.and_eq_true] at h'
    have h2 : x.length ≤ 20 := of_decide_eq_true h'.2
    have h3 : ∀ c ∈ x.cps.toList, c < 16 ^ 8 := fun c hc => by
      have := Array.all_eq_true'.mp h'.1 c (by simpa using hc)
      have := of_decide_eq_true this
      omega
    have := PySem.StrLaws.reprText_len x h3
    show (reprText x).length ≤ 210
    omega
  | .list xs, h => by
    have := listText_le (PyData.shownAll xs)
    have h2 := shown_leAll xs h
    show (listText (PyData.shownAll xs)).length ≤ costAll xs + 3
    omega
  | .tuple xs, h => by
    have := tupleText_le (PyData.shownAll xs)
    have h2 := shown_leAll xs h
    show (tupleText (PyData.shownAll xs)).length ≤ costAll xs + 3
    omega
  | .dict _, h => by cases h
theorem shown_leAll : ∀ xs : List PyData, fineAll xs = true → piled (PyData.shownAll xs) ≤ costAll xs
  | [], _ => Nat.le_refl 0
  | x :: xs, h => by
    have h' : (fine x && fineAll xs) = true := h
    rw [Bool.and_eq_true] at h'
    have h1 := shown_le x h'.1
    have h2 := shown_leAll xs h'.2
    show piled (PyData.shown x :: PyData.shownAll xs) ≤ cost x + 2 + costAll xs
    rw [piled_cons]
    omega
end
structure DOk (d : PyData) : Prop where
  f : fine d = true
  dp : d.depth ≤ 50
  c : cost d ≤ 1000000
theorem DOk.shaped {d : PyData} (h : DOk d) : SeqAt.shaped d = true := by
  unfold SeqAt.shaped
  rw [(fine_lay d h.f).1]
  exact decide_eq_true (Nat.le_trans h.dp (by decide))
theorem DOk.len {d : PyData} (h : DOk d) : d.shown.length ≤ sizeLine := Nat.le_trans (shown_le d h.f) (Nat.le_trans h.c (by rw [sizeLine_eq]; decide))
mutual
theorem Dp.same {K : PySem.W.Frag} {H H' : Hp} (s : Same H H') : ∀ (d : PyData) (v : V), Dp K H v d → Dp K H' v d
  | .none, _, h => by cases h; exact .non
  | .bool _, _, h => by cases h; exact .bl _
  | .int _, _, h => by cases h; exact .int _
  | .str _, _, h => by cases h; exact .str _
  | .list ds, _, h => by
    cases h with
    | lst h1 h2 => exact .lst (s.seq h1) (Dp.sameAll s ds _ h2)
  | .tuple ds, _, h => by
    cases h with
    | tup h1 h2 => exact .tup (Evl.ex_t s h1) (Dp.sameAll s ds _ h2)
  | .dict _, _, h => by cases h
theorem Dp.sameAll {K : PySem.W.Frag} {H H' : Hp} (s : Same H H') : ∀ (ds : List PyData) (vs : List V), DpAll K H vs ds → DpAll K H' vs ds
  | [], _, h => by cases h; exact .nil
  | d :: ds, _, h => by
    cases h with
    | cons h1 h2 => exact .cons (Dp.same s d _ h1) (Dp.sameAll s ds _ h2)
end
/-- the names as data -/
def okS (c : Str) : Bool := PyData.strOk c && decide (c.cps.size ≤ 20)
theorem menu_okS : ∀ c ∈ menu, okS c = true := by decide +kernel
theorem fine_strs : ∀ {xs : List Str}, (∀ c ∈ xs, okS c = true) → fineAll (xs.map PyData.str) = true
  | [], _ => rfl
  | x :: xs, h => by
    show (fine (.str x) && fineAll (xs.map PyData.str)) = true
    rw [fine_strs fun c hc => h c (List.mem_cons_of_mem _ hc), Bool.and_true]
    exact h x List.mem_cons_self
theorem cost_strs : ∀ (xs : List Str), costAll (xs.map PyData.str) = 212 * xs.length
  | [] => rfl
  | x :: xs => by
    show cost (.str x) + 2 + costAll (xs.map PyData.str) = _
    rw [cost_strs xs, List.length_cons]
    show 210 + 2 + _ = _
    omega
/-- a question as data -/
def dQ (cols : List Str) (e : Str) : PyData := .tuple [.tuple (cols.map PyData.str), .str e]
theorem dp_q {K : PySem.W.Frag} {H : Hp} {q : Addr} {cols : List Str} {e : Str} (h : QAt H q cols e) : Dp K H (.ref q) (dQ cols e) := by
  obtain ⟨c, h1, h2⟩ := h
  exact .tup (SqT.of h1) (.cons (.tup (SqT.of h2) (dp_strs _)) (.cons (.str e) .nil))
end Qk
set_option maxRecDepth 100000
set_option maxHeartbeats 4000000
namespace Qk
open PySem PySem.Spec PyProof.Rows L2
/-! ### the order of texts, of tuples of texts, of questions -/
def ltS (a b : Str) : Bool := decide (a.cps.toList < b.cps.toList)
def lexS : List Str → List Str → Bool
  | [], [] => false
  | [], _ :: _ => true
  | _ :: _, [] => false
  | x :: xs, y :: ys => if x = y then lexS xs ys else ltS x y
theorem ltS_irrefl (a : Str) : ltS a a = false := decide_eq_false (List.lt_irrefl _)
theorem ltS_tri {a b : Str} (h : a ≠ b) : ltS a b = true ∨ ltS b a = true := by
  unfold ltS
  by_cases h1 : a.cps.toList < b.cps.toList
  · exact .inl (decide_eq_true h1)
  · by_cases h2 : b.cps.toList < a.cps.toList
    · exact .inr (decide_eq_true h2)
    · exact absurd (str_ext (List.le_antisymm (List.not_lt.mp h2) (List.not_lt.mp h1))) h
theorem ltS_trans {a b c : Str} (h1 : ltS a b = true) (h2 : ltS b c = true) : ltS a c = true := by
  unfold ltS at *
  exact decide_eq_true (List.lt_trans (of_decide_eq_true h1) (of_decide_eq_true h2))
theorem ltS_asym {a b : Str} (h1 : ltS a b = true) : ltS b a = false := by
  cases h2 : ltS b a with
  | false => rfl
  | true =>
    have := ltS_trans h1 h2
    rw [ltS_irrefl] at this
    cases this
theorem lexS_irrefl : ∀ a : List Str, lexS a a = false
  | [] => rfl
  | x :: xs => by
    rw [lexS, if_pos rfl]
    exact lexS_irrefl xs
theorem lexS_tri : ∀ {a b : List Str}, a ≠ b → lexS a b = true ∨ lexS b a = true
  | [], [], h => absurd rfl h
  | [], _ :: _, _ => .inl rfl
  | _ :: _, [], _ => .inr rfl
  | x :: xs, y :: ys, h => by
    rw [lexS, lexS]
    by_cases e : x = y
    · subst e
      rw [if_pos rfl, if_pos rfl]
      exact lexS_tri fun z => h (by rw [z])
    · rw [if_neg e, if_neg (Ne.symm e)]
      exact ltS_tri e
theorem lexS_trans : ∀ {a b c : List Str}, lexS a b = true → lexS b c = true → lexS a c = true
  | [], [], _, h, _ => by cases h
  | [], _ :: _, [], _, h => by cases h
  | [], _ :: _, _ :: _, _, _ => rfl
  | _ :: _, [], _, h, _ => by cases h
  | _ :: _, _ :: _, [], _, h => by cases h
  | x :: xs, y :: ys, z :: zs, h1, h2 => by
    rw [lexS] at h1 h2 ⊢
    by_cases e1 : x = y
    · subst e1
      rw [if_pos rfl] at h1
      by_cases e2 : x = z
      · rw [if_pos e2] at h2 ⊢
        exact lexS_trans h1 h2
      · rw [if_neg e2] at h2 ⊢
        exact h2
    · rw [if_neg e1] at h1
      by_cases e2 : y = z
      · subst e2
        rw [if_neg e1]
        exact h1
      · rw [if_neg e2] at h2
        have h3 := ltS_trans h1 h2
        have e3 : x ≠ z := fun e => by
          subst e
          rw [ltS_asym h1] at h2
          cases h2
        rw [if_neg e3]
        exact h3
theorem lexS_asym {a b : List Str} (h1 : lexS a b = true) : lexS b a = false := by
  cases h2 : lexS b a with
  | false => rfl
  | true =>
    have := lexS_trans h1 h2
    rw [lexS_irrefl] at this
    cases this
abbrev Qd := List Str × Str
def ltQ (p q : Qd) : Bool := if p.1 = q.1 then ltS p.2 q.2 else lexS p.1 q.1
theorem ltQ_irrefl (p : Qd) : ltQ p p = false := by
  unfold ltQ
  rw [if_pos rfl]
  exact ltS_irrefl _
theorem ltQ_tri {p q : Qd} (h : p ≠ q) : ltQ p q = true ∨ ltQ q p = true := by
  unfold ltQ
  by_cases e : p.1 = q.1
  · rw [if_pos e, if_pos e.symm]
    exact ltS_tri fun z => h (Prod.ext e z)
  · rw [if_neg e, if_neg (Ne.symm e)]
    exact lexS_tri e
theorem ltQ_trans {p q r : Qd} (h1 : ltQ p q = true) (h2 : ltQ q r = true) : ltQ p r = true := by
  unfold ltQ at *
  by_cases e1 : p.1 = q.1
  · rw [if_pos e1] at h1
    by_cases e2 : q.1 = r.1
    · rw [if_pos e2] at h2
      rw [if_pos (e1.trans e2)]
      exact ltS_trans h1 h2
    · rw [if_neg e2] at h2
      rw [if_neg (e1 ▸ e2), e1]
      exact h2
  · rw [if_neg e1] at h1
    by_cases e2 : q.1 = r.1
    · rw [if_pos e2] at h2
      rw [if_neg (e2 ▸ e1), ← e2]
      exact h1
    · rw [if_neg e2] at h2
      have h3 := lexS_trans h1 h2
      have e3 : p.1 ≠ r.1 := fun e => by
        rw [e] at h1
        rw [lexS_asym h1] at h2
        cases h2
      rw [if_neg e3]
      exact h3
theorem ltQ_asym {p q : Qd} (h1 : ltQ p q = true) : ltQ q p = false := by
  cases h2 : ltQ q p with
  | false => rfl
  | true =>
    have := ltQ_trans h1 h2
    rw [ltQ_irrefl] at this
    cases this
theorem swo_q {α : Type} (k : α → Qd) : SrtO.Swo fun x y => ltQ (k x) (k y) := by
  refine ⟨fun x y h => ltQ_asym h, fun x y z h1 h2 => ?_⟩
  -- not y < x, not z < y: not z < x
  cases h3 : ltQ (k z) (k x) with
  | false => rfl
  | true =>
    by_cases e : k x = k y
    · rw [e] at h3
      have : ltQ (k z) (k y) = false := h2
      rw [this] at h3
      cases h3
    · rcases ltQ_tri e with h | h
      · have h4 : ltQ (k z) (k y) = true := ltQ_trans h3 h
        rw [h2] at h4
        cases h4
      · have : ltQ (k y) (k x) = false := h1
        rw [this] at h
        cases h
theorem perm_ltQ : ∀ {xs ys : List Qd}, xs.Perm ys → xs.Pairwise (fun a b => ltQ b a = false) → ys.Pairwise (fun a b => ltQ b a = false) → xs = ys
  | [], ys, h, _, _ => List.Perm.nil_eq h
  | x :: xs, [], h, _, _ => absurd h.length_eq (by simp)
  | x :: xs, y :: ys, h, h1, h2 => by
    have e : x = y := by
      rcases List.mem_cons.mp (h.mem_iff.mp List.mem_cons_self) with e | m1
      · exact e
      · rcases List.mem_cons.mp (h.mem_iff.mpr List.mem_cons_self) with e | m2
        · exact e.symm
        · have a1 := (List.pairwise_cons.mp h1).1 y m2
          have a2 := (List.pairwise_cons.mp h2).1 x m1
          by_cases e : x = y
          · exact e
          · rcases ltQ_tri e with h | h
            · rw [a2] at h; cases h
            · rw [a1] at h; cases h
    subst e
    rw [perm_ltQ (List.Perm.cons_inv h) (List.pairwise_cons.mp h1).2 (List.pairwise_cons.mp h2).2]
/-! ### t < u of tuples of texts -/
section
open PySem.SeqAt
open PySem.AutoSeq1 (wpAny_loadPart')
open PySem.MeetsSeq PySem.MeetsSeq2 PySem.MeetsSeq3
theorem eqAt_str (A : Around) (s : Shared) (a : Str) (t : Tok) (c : Str) (u : Tok) : ∃ e, SeqAt.EqAt A s (.str a t) (.str c u) e ∧ (e = true ↔ a = c) :=
  ⟨(a == c), SeqAt.EqAt.str_str a t c u, by simp⟩
theorem rcLt_str (A : Around) (s : Shared) (a : Str) (t : Tok) (c : Str) (u : Tok) (prog : Program) (w : World) (E : Value → Shared → Prop) (Q : Value → Shared → Prop) (h : Q (.bool (ltS a c)) s) :
    wpAny (model prog w) A (richCompare .Lt (.str a t) (.str c u)) Q E s := by
  have z : wpAny (model prog w) A (compareOp .Lt (.str a t) (.str c u)) Q E s := PySem.P.lt_str h
  exact z
theorem tuple_lt_texts (l b : Addr) (us vs : Array Value) (n m : Nat) (d1 d2 : Option Addr) (sl1 sl2 : Array (Option Value)) (xs ys : List Str) (hx : StrsAre us.toList xs) (hy : StrsAre vs.toList ys) :
    Meets (Builtin.«tuple.__lt__» ⟨[.ref l, .ref b], []⟩)
      (fun _ R s => s.heap.get? l = some { cls := .type "tuple", dict := d1, data := .seq us n, slots := sl1 } ∧ s.heap.get? b = some { cls := .type "tuple", dict := d2, data := .seq vs m, slots := sl2 } ∧
        R (.ok (.ret (.bool (lexS xs ys)))) s) :=
  .of_wp fun prog w A R s h => by
    obtain ⟨hp, g, d, tk, os⟩ := s; obtain ⟨hl, hb, h⟩ := h
    have f2 := AutoSeq1.sub_tuple_tuple
    have z1 : us.size = xs.length := by rw [← hx.length]; simp
    have z2 : vs.size = ys.length := by rw [← hy.length]; simp
    wp_walk using wpAny_loadPart' hl, wpAny_loadPart' hb, wpAny_forIn_list _ (fun rest b s' => b.1 = none ∧ s' = ⟨hp, g, d, tk, os⟩ ∧ ∃ (as bs : List Value) (x' y' : List Str), rest = as.zip bs ∧
      StrsAre as x' ∧ StrsAre bs y' ∧ x'.length + vs.size = y'.length + us.size ∧ R (.ok (.ret (.bool (lexS x' y')))) ⟨hp, g, d, tk, os⟩) _
    case turn =>
      rintro ⟨u, v⟩ rest b s' ⟨hb', rfl, as, bs, x', y', hz, ha, hc, hlen, hR⟩
      cases ha with
      | nil => rw [List.zip_nil_left] at hz; cases hz
      | cons a t ha' =>
        cases hc with
        | nil => rw [List.zip_nil_right] at hz; cases hz
        | cons c t2 hc' =>
          rw [List.zip_cons_cons] at hz
          injection hz with e1 hrest
          injection e1 with eu ev
          subst eu ev
          rw [lexS] at hR
          simp only [List.length_cons] at hlen
          obtain ⟨e, he, hiff⟩ := eqAt_str A.in1 ⟨hp, g, d, tk, os⟩ a t c t2
          refine wpAny_bind (he prog w _ _ ?_)
          cases e with
          | true =>
            rw [if_pos (hiff.mp rfl)] at hR
            wp_walk
            exact ⟨rfl, rfl, _, _, _, _, hrest, ha', hc', by omega, hR⟩
          | false =>
            rw [if_neg (fun q => absurd (hiff.mpr q) Bool.false_ne_true)] at hR
            have hri := rcLt_str A.in1 ⟨hp, g, d, tk, os⟩ a t c t2 prog w
            wp_walk using hri
            exact ⟨_, rfl, by simpa using hR⟩
    case fin =>
      rintro ⟨b1, b2⟩ s' ⟨hb', rfl, as, bs, x', y', hz, ha, hc, hlen, hR⟩
      simp only at hb'
      subst hb'
      have hv : lexS x' y' = decide (us.size < vs.size) := by
        cases ha with
        | nil =>
          cases hc with
          | nil =>
            simp only [List.length_nil] at hlen
            exact (decide_eq_false (by omega)).symm
          | cons c u hw =>
            simp only [List.length_nil, List.length_cons] at hlen
            exact (decide_eq_true (by omega)).symm
        | cons a t hv =>
          cases hc with
          | nil =>
            simp only [List.length_nil, List.length_cons] at hlen
            exact (decide_eq_false (by omega)).symm
          | cons c u hw =>
            rw [List.zip_cons_cons] at hz
            cases hz
      rw [hv] at hR
      wp_walk
      exact ⟨_, rfl, by simpa [Builtin.Tuple.tupleCompareSizes] using hR⟩
    case h =>
      exact ⟨rfl, rfl, us.toList, vs.toList, xs, ys, rfl, hx, hy, by omega, h⟩
theorem lt_tupTexts {prog : Program} {w : World} {A : Around} {E : Value → Shared → Prop} {s : Shared} {l b : Addr} {us vs : Array Value} {xs ys : List Str} {Q : Value → Shared → Prop} (hl : IsTup s.heap l us) (hb : IsTup s.heap b vs)
    (hx : StrsAre us.toList xs) (hy : StrsAre vs.toList ys) (hu : A.units < cLine) (h : Q (.bool (lexS xs ys)) s) : wpAny (model prog w) A (compareOp .Lt (.ref l) (.ref b)) Q E s := by
  obtain ⟨⟨c1, d1, e1, sl1⟩, ho, hc, n, hd⟩ := id hl
  obtain ⟨⟨c2, d2, e2, sl2⟩, ho2, hc2, m, hd2⟩ := id hb
  simp only at hc hd hc2 hd2
  subst hc hd hc2 hd2
  exact richCompare_meets_room (op := .Lt) ⟨_, ho, rfl⟩ ⟨_, ho2, rfl⟩ PySem.F.slot_tuple_lt PySem.F.entry_tuple_lt (PySem.F.args_tuple_lt_2 _ _) (tuple_lt_texts l b us vs n m d1 d2 sl1 sl2 xs ys hx hy)
    ⟨ho, ho2, show Value.bool (lexS xs ys) ≠ Value.notImplemented ∧ Q (.bool (lexS xs ys)) s from ⟨(fun x => nomatch x), h⟩⟩ hu
end
/-! ### sorted of questions -/
/-- v is a question in the heap -/
def IsQ (h : Heap) (v : Value) (q : Qd) : Prop := ∃ (a c : Addr) (o oc : Obj) (t : Tok) (us : List Value) (n m : Nat), v = .ref a ∧ h.get? a = some o ∧ o.cls = .type "tuple" ∧ o.data = .seq #[.ref c, .str q.2 t] n ∧
  h.get? c = some oc ∧ oc.cls = .type "tuple" ∧ oc.data = .seq us.toArray m ∧ StrsAre us q.1
theorem IsQ.keeps {h h' : Heap} {v : Value} {q : Qd} (x : IsQ h v q) (k : ∀ b o, h.get? b = some o → o.cls = .type "tuple" → h'.get? b = some o) : IsQ h' v q := by
  obtain ⟨a, c, o, oc, t, us, n, m, e, ho, hc, hd, hoc, hcc, hdc, hs⟩ := x
  exact ⟨a, c, o, oc, t, us, n, m, e, k _ _ ho hc, hc, hd, k _ _ hoc hcc, hcc, hdc, hs⟩
section
variable {prog : Program} {w : World} {A : Around} {E : Value → Shared → Prop} {s : Shared}
theorem reads_strs {h : Heap} : ∀ {us : List Value} {xs : List Str}, StrsAre us xs → ∃ as, ReadsAll h us (xs.map PyData.str) as
  | _, _, .nil => ⟨_, ReadsAll.nil⟩
  | _, _, .cons x t r => by
    obtain ⟨as, q⟩ := reads_strs (h := h) r
    exact ⟨_, ReadsAll.cons (Reads.str x t) q⟩
theorem q_cmp {vs : List Value} {k : Value → Qd} (hu : A.units + 64 < cLine) (hm : ∀ v ∈ vs, ∀ c ∈ (k v).1, PyData.strOk c = true) (hp : ∀ v ∈ vs, IsQ s.heap v (k v)) : SrtO.Cmp prog w A s (tuples' false) (fun p => p.1 ∈ vs) (SrtO.lt2 fun v u => ltQ (k v) (k u)) := by
  intro p q hm1 hm2
  have h1 := hp _ hm1
  have h2 := hp _ hm2
  have m1 := hm _ hm1
  have m2 := hm _ hm2
  show wpAny (model prog w) A (keyLt' (tuples' false) p.1 q.1) (fun r s' => s' = s ∧ r = ltQ (k p.1) (k q.1)) (fun _ _ => False) s
  generalize k p.1 = x at h1 m1 ⊢
  generalize k q.1 = y at h2 m2 ⊢
  obtain ⟨xc, xe⟩ := x
  obtain ⟨yc, ye⟩ := y
  obtain ⟨a, c, o, oc, t, us, n, m, e, ho, hc, hd, hoc, hcc, hdc, hs⟩ := h1
  obtain ⟨a', c', o', oc', t', us', n', m', e', ho', hc', hd', hoc', hcc', hdc', hs'⟩ := h2
  rw [e, e']
  refine PySem.W.kat_lt ho hd ho' hd' ?_
  show PySem.W.KatLex prog w A false (decide (2 < 2)) _ [(.ref c, .ref c'), (.str xe t, .str ye t')] 0 s
  obtain ⟨as, r1⟩ := reads_strs (h := s.heap) hs
  obtain ⟨bs, r2⟩ := reads_strs (h := s.heap) hs'
  have rd1 : Reads s.heap (.ref c) (.tuple (xc.map PyData.str)) as := Reads.tuple hoc hcc hdc (by simpa using r1)
  have rd2 : Reads s.heap (.ref c') (.tuple (yc.map PyData.str)) bs := Reads.tuple hoc' hcc' hdc' (by simpa using r2)
  have l1 : (PyData.tuple (xc.map PyData.str)).canLay0 = true := lay_strs m1
  have l2 : (PyData.tuple (yc.map PyData.str)).canLay0 = true := lay_strs m2
  refine PySem.W.kat_cons (SeqAt.eqBoolOverData prog w A _ s _ _ _ _ as bs _ rd1 rd2 l1 l2 ?_ ?_)
  · have : (PyData.tuple (xc.map PyData.str)).depth = 1 := by
      show PyData.depthAll _ + 1 = 1
      rw [depth_strs]
    omega
  rw [PyData.eqv, eqv_strs]
  by_cases ex : xc = yc
  · rw [decide_eq_true ex]
    refine PySem.W.kat_yes (PySem.W.kat_cons (SeqAt.EqAt.str_str xe t ye t' prog w _ _ ?_))
    by_cases ey : xe = ye
    · have e3 : ltQ (xc, xe) (yc, ye) = false := by rw [ex, ey]; exact ltQ_irrefl _
      have e4 : (xe == ye) = true := beq_iff_eq.mpr ey
      rw [e4]
      exact PySem.W.kat_yes (PySem.W.kat_nil ⟨rfl, e3.symm⟩)
    · have e3 : ltQ (xc, xe) (yc, ye) = ltS xe ye := if_pos ex
      have e4 : (xe == ye) = false := beq_eq_false_iff_ne.mpr ey
      rw [e4]
      refine PySem.W.kat_no (PySem.W.kat_one _ _ (rcLt_str A s xe t ye t' prog w _ _ ?_))
      exact (show s = s ∧ ltS xe ye = ltQ (xc, xe) (yc, ye) from ⟨rfl, e3.symm⟩)
  · rw [decide_eq_false ex]
    have e3 : ltQ (xc, xe) (yc, ye) = lexS xc yc := if_neg ex
    refine PySem.W.kat_no (PySem.W.kat_one _ _ (lt_tupTexts (us := us.toArray) (vs := us'.toArray) ⟨oc, hoc, hcc, m, hdc⟩ ⟨oc', hoc', hcc', m', hdc'⟩ (by simpa using hs) (by simpa using hs') (by omega) ?_))
    exact (show s = s ∧ lexS xc yc = ltQ (xc, xe) (yc, ye) from ⟨rfl, e3.symm⟩)
theorem q_firsts {h : Heap} : ∀ {vs : List Value} {k : Value → Qd}, (∀ v ∈ vs, IsQ h v (k v)) → ∃ fs : List Value, PySem.W.KatTups h vs fs ∧ fs.length = vs.length ∧ ∀ f ∈ fs, ∃ c oc, f = Value.ref c ∧ h.get? c = some oc ∧ oc.cls = .type "tuple"
  | [], _, _ => ⟨[], PySem.W.KatTups.nil, rfl, fun _ hm => by simp at hm⟩
  | v :: vs, k, hp => by
    obtain ⟨fs, h1, h2, h3⟩ := q_firsts (vs := vs) (k := k) fun v' hm => hp v' (List.mem_cons_of_mem _ hm)
    obtain ⟨a, c, o, oc, t, us, n, m, e, ho, hc, hd, hoc, hcc, hdc, hs⟩ := hp v List.mem_cons_self
    subst e
    refine ⟨.ref c :: fs, PySem.W.KatTups.cons ho hc hd rfl h1, by rw [List.length_cons, List.length_cons, h2], fun f hm => ?_⟩
    rcases List.mem_cons.mp hm with rfl | hm
    · exact ⟨c, oc, rfl, hoc, hcc⟩
    · exact h3 f hm
theorem q_sortable {a : Addr} {vs : List Value} {k : Value → Qd} (hu : A.units + 64 < cLine) (h0 : 0 < vs.length) (hm : ∀ v ∈ vs, ∀ c ∈ (k v).1, PyData.strOk c = true) (hp : ∀ v ∈ vs, IsQ s.heap v (k v)) (ha : ∀ o, s.heap.get? a = some o → o.cls ≠ .type "tuple") :
    SrtO.SortableO prog w A s a vs fun v u => ltQ (k v) (k u) := by
  intro h' keep
  have hp' : ∀ v ∈ vs, IsQ h' v (k v) := fun v hm => (hp v hm).keeps fun b o e c => keep b o (fun z => by subst z; exact ha o e c) e
  obtain ⟨fs, h1, h2, h3⟩ := q_firsts hp'
  refine ⟨tuples' false, fun Q E hq => ?_, q_cmp hu hm hp'⟩
  refine PySem.W.kat_kind (T := .type "tuple") h1 (by omega) (fun f hf => ?_) (by rfl) ?_
  · obtain ⟨c, oc, rfl, hoc, hcc⟩ := h3 f hf
    rw [← hcc]
    exact (PySem.W.Looks.ld hoc).andThen PySem.W.Looks.now
  · have e : (Value.type "tuple" != Value.type "tuple") = false := by first | decide +kernel | rfl | decide
    rw [e]
    exact hq
end
section
variable {X : Cx}
/-- sorted(xs) of questions: a new list of the same ones, rising -/
def rSortedQ (K : PySem.W.Frag) : List V → Hp → VK → Prop := fun vs H Q => ∃ (a : Addr) (xs : List V) (k : V → Qd), vs = [V.ref a] ∧ SqL K H a xs ∧ (∀ x ∈ xs, ∃ t, x = V.ref t ∧ QAt H t (k x).1 (k x).2 ∧ ∀ c ∈ (k x).1, PyData.strOk c = true) ∧
  ∀ ys p, ys.Perm xs → (ys.map k).Pairwise (fun a b => ltQ b a = false) → H p = none → Q (.ref p) (upd H p (.lst ys))
theorem cr_sortedQ (hu : X.A.units + 80 < cLine) : CallR X (.builtin "sorted") (rSortedQ X.K) := by
  intro pins s σ H vs us Q I r h
  obtain ⟨a, xs, k, rfl, hs, hx, q⟩ := h
  obtain ⟨its, rv, hl, hz⟩ := I.list hs
  obtain ⟨u, rfl, ru⟩ := vals1 r
  obtain rfl : u = Value.ref a := ru
  obtain ⟨e1, e2⟩ := refs_back rv fun x m => by
    obtain ⟨t, e, _⟩ := hx x m
    exact ⟨t, e⟩
  have isq : ∀ v ∈ its, IsQ s.heap v (k (backV v)) ∧ ∀ c ∈ (k (backV v)).1, PyData.strOk c = true := fun v hv => by
    obtain ⟨t, rfl⟩ := e2 v hv
    have hmem : V.ref t ∈ xs := by rw [e1]; exact List.mem_map.mpr ⟨_, hv, rfl⟩
    obtain ⟨t', e, ⟨c, g1, g2⟩, g3⟩ := hx _ hmem
    cases e
    obtain ⟨_, i1, r1, o, ho, hc, n, hd⟩ := I.hok _ _ g1
    obtain ⟨_, i2, r2, oc, hoc, hcc, m, hdc⟩ := I.hok _ _ g2
    obtain ⟨u1, u2, rfl, ra, rb⟩ := vals2 r1
    obtain rfl : u1 = Value.ref c := ra
    obtain ⟨tk, rfl⟩ := rb
    exact ⟨⟨t, c, o, oc, tk, i2, n, m, rfl, ho, hc, hd, hoc, hcc, hdc, r2.strs⟩, g3⟩
  refine SrtO.sorted_ord (swo_q fun u => k (backV u)) hl.isList (by rw [← rv.length]; exact hz) (fun h2 h₁ b hb kk => ?_) fun out h1 h2 => ?_
  · refine q_sortable (s := { s with heap := h₁ }) (by show X.A.units + 1 + 1 + 64 < cLine; omega) (by omega) (fun v hv => (isq v hv).2) (fun v hv => (isq v hv).1.keeps fun c o e _ => (kk c o e).2) fun o e => ?_
    have e' : some o = some (seqObj "list" its.toArray 0) := e.symm.trans hb
    cases e'
    intro c
    exact absurd (Value.type.inj c) (by decide)
  · have h3 : ∀ u ∈ out, ∃ a, u = Value.ref a := fun u hu => e2 u (h2.perm.mem_iff.mp hu)
    obtain ⟨n, hn⟩ := sortedAll_at s.heap its out.toArray
    have hperm : (out.map backV).Perm xs := by
      rw [e1]
      exact h2.perm.map backV
    have hsrt : ((out.map backV).map k).Pairwise (fun a b => ltQ b a = false) := by
      rw [List.map_map]
      exact List.pairwise_map.mpr h1
    refine ⟨.ref (s.heap.objs.size + 1), upd H (s.heap.objs.size + 1) (.lst (out.map backV)), I.laid (t' := s.toks) (fun b o e => sortedAll_old e) (Nat.le_succ _) ⟨?_, out, n, vals_back h3, hn⟩, rfl, q _ _ hperm hsrt (I.hok.fresh (Nat.le_succ _))⟩
    rw [hperm.length_eq]
    exact hz
end
end Qk
set_option maxRecDepth 100000
set_option maxHeartbeats 4000000
namespace Qk
open PySem PySem.Spec PyProof.Rows L2 PySem.W
/-! ### enumerate of a tuple -/
set_option maxHeartbeats 1000000 in
theorem meets_enum1 {v : Value} {o : Obj} {H : Heap → Prop} (B : Begins v o H) :
    Meets (Builtin.«enumerate.__new__» ⟨[.type "enumerate", v], []⟩) (fun _ R s => H s.heap ∧
      R (.ok (.ret (.ref (s.heap.push o).objs.size))) { s with heap := (s.heap.push o).push { cls := .type "enumerate", data := .fields #[.none, .bool false, .ref s.heap.objs.size, rawInt 0, .none, .none] } }) :=
  .of_wp fun prog w A R s h => by
    obtain ⟨hp, g, d, tk, os⟩ := s
    obtain ⟨h1, h⟩ := h
    have hsub := sub_enumerate
    have q1 : ∀ {A' : Around} {E : Value → Shared → Prop} {Q : Value → Shared → Prop}, Q (.ref hp.objs.size) ⟨hp.push o, g, d, tk, os⟩ → wpAny (model prog w) A' (pyIter v) Q E ⟨hp, g, d, tk, os⟩ :=
      fun q => B.iter prog w _ _ ⟨hp, g, d, tk, os⟩ _ h1 q
    wp_walk using q1
    refine wpAny_stack_any fun st => wpAny_pure ?_
    split
    · rename_i c _ _ _ _ _
      cases (c == Value.type "enumerate")
      · wp_walk using q1
        exact ⟨_, rfl, h⟩
      · wp_walk using q1
        exact ⟨_, rfl, h⟩
    · wp_walk using q1
      exact ⟨_, rfl, h⟩
theorem call_enum1 {prog : Program} {w : World} {A : Around} {E : Value → Shared → Prop} {s : Shared} {v : Value} {o : Obj} {H : Heap → Prop} {Q : Value → Shared → Prop} (B : Begins v o H) (h1 : H s.heap)
    (h : ∀ h', IsEnum h' (s.heap.objs.size + 1) s.heap.objs.size 0 .none → h'.get? s.heap.objs.size = some o → (∀ b o, s.heap.get? b = some o → h'.get? b = some o) → Q (.ref (s.heap.objs.size + 1)) { s with heap := h' }) :
    wpAny (model prog w) A (call (.type "enumerate") [v]) Q E s := by
  refine callType_new F.called_enumerate (by decide) (F.typeCall_enumerate_1 _) (F.newCall_enumerate_1 _) (fun obj => F.args_object_init_2 obj _) F.entry_enumerate_new (meets_enum1 B) ⟨h1, ?_⟩
  have hz : (s.heap.push o).objs.size = s.heap.objs.size + 1 := Heap.size_push ..
  show _ ∧ _
  rw [hz]
  have he : IsEnum ((s.heap.push o).push { cls := .type "enumerate", data := .fields #[.none, .bool false, .ref s.heap.objs.size, rawInt 0, .none, .none] }) (s.heap.objs.size + 1) s.heap.objs.size 0 .none := by
    have q := Heap.get?_push_size (s.heap.push o) (o := { cls := .type "enumerate", data := .fields #[.none, .bool false, .ref s.heap.objs.size, rawInt 0, .none, .none] }) rfl
    rw [hz] at q
    exact q
  exact ⟨⟨_, he, rfl⟩, h _ he (Heap.get?_push_of_some _ (Heap.get?_push_size _ B.free)) fun b u x => Heap.get?_push_of_some _ (Heap.get?_push_of_some _ x)⟩
/-- the tuple at a, each item in a new pair -/
def IteT (K : PySem.W.Frag) (a : Addr) : It :=
  ⟨fun i H => ∃ (xs : List V) (x : V), SqT K H a xs ∧ xs[i]? = some x, fun i H v H' => ∃ T x, v = .ref T ∧ H T = none ∧ H' = upd H T (.tup [.int (i : Nat), x]) ∧ ∀ xs, SqT K H a xs → xs[i]? = some x, fun i H => ∃ xs : List V, SqT K H a xs ∧ xs.length = i⟩
theorem turn_enumT {P : Program} {w : World} {K : PySem.W.Frag} {elts : List Expr} {kk : Nat} {tpos : Pos} (a e it : Addr) :
    Turn P w K (.Tuple elts kk tpos) (IteT K a) [e, it] e (fun i h => (∃ old, IsEnum h e it ((i : Nat) : Int) old) ∧ h.IsTupleIter it a i ∧ e ≠ it ∧ a ≠ it ∧ a ≠ e) where
  mem := by simp
  obj := fun i h st b hb => by
    obtain ⟨⟨old, he⟩, ⟨o, ho, hc, hd⟩, _⟩ := st
    have e' : b = e ∨ b = it := by simpa using hb
    rcases e' with z | z
    · rw [z]; exact ⟨_, he, fun v q => nomatch q⟩
    · rw [z]; exact ⟨o, ho, fun v q => by rw [hd] at q; cases q⟩
  keep := fun i h h' st k => let ⟨⟨old, he⟩, hi, hne⟩ := st; ⟨⟨old, k e (by simp) _ he⟩, hi.at fun o q => k it (by simp) o q, hne⟩
  item := by
    intro X hP hw hK hc i pins s σ H E I hf st hg
    subst hP hw hK
    obtain ⟨⟨old, he⟩, hit, hne, hai, hae⟩ := st
    obtain ⟨xs, x, hq, hx⟩ := hg
    obtain ⟨its, rv, p, hz⟩ := I.tuple hq
    obtain ⟨u, hu, ru⟩ := rv.get hx
    have hel : e < s.heap.objs.size := Heap.lt_size he
    have hil : it < s.heap.objs.size := by obtain ⟨_, q, _⟩ := hit; exact Heap.lt_size q
    have hT0 : s.heap.IsTuple a its.toArray := p
    have hlt : i < its.toArray.size := by
      have := (List.getElem?_eq_some_iff.mp hu).1
      simpa using this
    refine wpAny_pyNext_enum_itemD (Draws.tuple (A := X.A.in1) (I.ok.hd hc) it a hai its.toArray) he ⟨hit, hT0⟩ hlt hne (by simp [Ne.symm hae, hne]) fun y h' tk hy ho hst hT hsz hk => ?_
    have hyu : y = u := by
      have h1 : its.toArray[i]? = some y := hy
      rw [List.getElem?_toArray, hu] at h1
      exact (Option.some.inj h1).symm
    subst hyu
    obtain ⟨hit', _⟩ := hst
    refine ⟨_, rfl, wpAny_letOwnedTupleGo_enum (s := { s with heap := h', toks := tk + 1 }) ho fun h'' he' sb => ?_⟩
    have hT2 : h''.get? s.heap.objs.size = some { cls := .type "tuple", data := .seq #[.int i tk, y] } := (sb.2 _ (Nat.ne_of_gt hel)).trans hT
    have new : ObjOk X.prog X.w (upd H s.heap.objs.size (.tup [.int (i : Nat), x])) h'' s.heap.objs.size (.tup [.int (i : Nat), x]) :=
      ⟨by show 2 ≤ sizeLine; decide, [.int i tk, y], .cons ⟨_, rfl⟩ (.cons ru .nil), ⟨_, hT2, rfl, _, rfl⟩⟩
    have I1 : Inv X pins σ (upd H s.heap.objs.size (.tup [.int (i : Nat), x])) { s with heap := h'', toks := tk + 1 } :=
      I.turnedNew (ch := [e, it]) (fun b ob hb q => (sb.2 b (fun z => hb (by simp [z]))).trans (hk b ob (fun z => hb (by simp [z])) (fun z => hb (by simp [z])) q)) hf (Nat.le_refl _) new
    refine ⟨.ref s.heap.objs.size, _, I1, rfl, ⟨_, x, rfl, I.hok.fresh (Nat.le_refl _), rfl, fun ys hy => by rw [I.tuple_inj hy hq]; exact hx⟩, ⟨⟨y, ?_⟩, hit'.at fun o q => (sb.2 it (Ne.symm hne)).trans q, hne, hai, hae⟩, fun b hb => ?_⟩
    · have e1 : ((i + 1 : Nat) : Int) = (i : Int) + 1 := by omega
      rw [e1]; exact he'
    · have hb' : b < s.heap.objs.size := by
        have e' : b = e ∨ b = it := by simpa using hb
        rcases e' with z | z
        · rw [z]; exact hel
        · rw [z]; exact hil
      rw [upd_ne (Nat.ne_of_lt hb')]
      exact (hf b hb).1
  done := by
    intro X hP hw hK hc i pins s σ H E I hf st hg
    subst hP hw hK
    obtain ⟨⟨old, he⟩, hit, hne, hai, hae⟩ := st
    obtain ⟨xs, hq, hx⟩ := hg
    obtain ⟨its, rv, p, hz⟩ := I.tuple hq
    obtain ⟨f0, f1, f2, f3, f4, f5⟩ := hf it (by simp)
    have hT0 : s.heap.IsTuple a its.toArray := p
    have hi : i = its.toArray.size := by
      rw [List.size_toArray, ← rv.length]
      exact hx.symm
    subst hi
    exact wpAny_pyNext_enum_endD (Draws.tuple (A := X.A.in1) (I.ok.hd hc) it a hai its.toArray) he ⟨hit, hT0⟩ fun h' eb => ⟨rfl, I.turned (t' := s.toks) (fun b o hb q => eb b o hb q) f0 f1 f3 f4 f5⟩
  self := fun A i s Q E st h => let ⟨⟨_, he⟩, _⟩ := st; wpAny_pyIter_enum he h
def iEnumT (K : PySem.W.Frag) (ta : TA) : TI := fun σ H R => ta σ H fun vs H1 => ∃ a xs, vs = [.ref a] ∧ SqT K H1 a xs ∧ R (IteT K a) H1
theorem pi_enumT {X : Cx} {e : Expr} {ta : TA} {p pos tpos : Pos} {elts : List Expr} {kk : Nat} (hg : Gl X "enumerate") (hm : X.mg "enumerate" = none) (ha : PA X [e] ta) (hs : starEach [e] X.env = [(false, eval e X.env)] := by rfl) :
    PI X (.Tuple elts kk tpos) (.Call (.Name "enumerate" p) [e] [] pos) (iEnumT X.K ta) := by
  refine ⟨fun pins s σ H R I h => ?_⟩
  refine Call_ (ld_blt I hg hm boot_enumerate (PyProof.Rows.callWith_type1 (thn (ha.run pos pins s σ H _ I h) fun us s1 ⟨vs, H1, I1, r1, q1⟩ => ?_) hs rfl))
  obtain ⟨a, xs, ex, hq, q⟩ := q1
  subst ex
  cases r1 with
  | cons r rr =>
    cases rr
    cases r
    obtain ⟨its, rv, p', hz⟩ := I1.tuple hq
    have al : a < s1.heap.objs.size := p'.lt
    refine call_enum1 (begins_tuple a its.toArray) p' fun h' he hit hk => wpAny_pyIter_enum he ?_
    have I2 : Inv X pins σ H1 { s1 with heap := h' } := I1.kept (t' := s1.toks) hk
    refine ⟨s1.heap.objs.size + 1, [s1.heap.objs.size + 1, s1.heap.objs.size], _, _, H1, rfl, I2, turn_enumT a (s1.heap.objs.size + 1) s1.heap.objs.size, ⟨⟨.none, he⟩, ⟨_, hit, rfl, rfl⟩, Nat.succ_ne_self _, Nat.ne_of_lt al, Nat.ne_of_lt (Nat.lt_succ_of_lt al)⟩, fun b hb => ?_, q⟩
    have e' : b = s1.heap.objs.size + 1 ∨ b = s1.heap.objs.size := by simpa using hb
    have hle : s1.heap.objs.size ≤ b := by
      rcases e' with z | z
      · rw [z]; exact Nat.le_add_right _ _
      · rw [z]; exact Nat.le_refl _
    exact I1.fpOk hle (I1.hok.fresh hle)
/-- for i, x in enumerate(t): a word of the turn, the slots, the heap -/
theorem for_enumT {K : PySem.W.Frag} {a : Addr} {xs : List V} {g : TG} {tb : TS} {D : Ends} {σ : L2.St} {H : Hp} (Pv : Nat → L2.St → Hp → Prop) (h0 : Pv 0 σ H) (hl : ∀ i σ H, i ≤ xs.length → Pv i σ H → SqT K H a xs)
    (hs : ∀ i x σ H, xs[i]? = some x → Pv i σ H → ∀ T, H T = none → g (.ref T) σ (upd H T (.tup [.int (i : Nat), x])) fun σ2 H2 => tb { D with nx := Pv (i + 1), ct := Pv (i + 1), bk := D.nx } σ2 H2) (hd : ∀ σ H, Pv xs.length σ H → D.nx σ H) :
    ∃ W : Nat → Nat → L2.St → Hp → Prop, (∃ m, W 0 m σ H) ∧ ∀ i m σ H, W i m σ H →
      ((IteT K a).stop i H ∧ D.nx σ H) ∨ ((IteT K a).go i H ∧ ∃ N : L2.St → Hp → Prop, (∀ σ' H', N σ' H' → ∃ m', m' < m ∧ W (i + 1) m' σ' H') ∧ ∀ x H', (IteT K a).yld i H x H' → g x σ H' fun σ2 H2 => tb { D with nx := N, ct := N, bk := D.nx } σ2 H2) := by
  refine ⟨fun i m σ H => m = xs.length - i ∧ i ≤ xs.length ∧ Pv i σ H, ⟨xs.length, by simp, Nat.zero_le _, h0⟩, ?_⟩
  rintro i m σ H ⟨rfl, hi, p⟩
  have q := hl i σ H hi p
  rcases Nat.lt_or_ge i xs.length with hlt | hge
  · have hx : xs[i]? = some xs[i] := List.getElem?_eq_getElem hlt
    refine .inr ⟨⟨xs, xs[i], q, hx⟩, Pv (i + 1), fun σ' H' p' => ⟨xs.length - (i + 1), by omega, rfl, hlt, p'⟩, fun x H' y => ?_⟩
    obtain ⟨T, z, rfl, hT, rfl, hz⟩ := y
    have e := hz xs q
    exact hs i z σ H e p T hT
  · have e : i = xs.length := by omega
    subst e
    exact .inl ⟨⟨xs, q, rfl⟩, hd σ H p⟩
end Qk
set_option maxRecDepth 100000
set_option maxHeartbeats 4000000
namespace Qk
open PySem PySem.Spec PyProof.Rows L2
/-! the sorted list of some texts -/
instance (a b : Str) : Decidable (leS a b) := by unfold leS; infer_instance
def srt (xs : List Str) : List Str := xs.mergeSort (fun a b => decide (leS a b))
theorem leS_total (a b : Str) : leS a b ∨ leS b a := by
  unfold leS
  rw [ltCps_eq, ltCps_eq]
  by_cases h : b.cps.toList < a.cps.toList
  · right
    refine decide_eq_false fun h2 => List.lt_irrefl _ (List.lt_trans h h2)
  · left
    exact decide_eq_false h
theorem srt_perm (xs : List Str) : (srt xs).Perm xs := List.mergeSort_perm _ _
theorem srt_pw (xs : List Str) : (srt xs).Pairwise leS := by
  have h := List.pairwise_mergeSort (le := fun a b => decide (leS a b)) (fun a b c h1 h2 => decide_eq_true (leS_trans (of_decide_eq_true h1) (of_decide_eq_true h2)))
    (fun a b => by
      rcases leS_total a b with h | h
      · simp [h]
      · simp [h]) xs
  exact h.imp fun h => of_decide_eq_true h
theorem srt_eq {ws xs : List Str} (h : ws.Perm xs) (hs : sortedS ws = true) : ws = srt xs := perm_sorted (h.trans (srt_perm xs).symm) (sortedS_pw hs) (srt_pw xs)
theorem srt_len (xs : List Str) : (srt xs).length = xs.length := (srt_perm xs).length_eq
/-! all questions that an index serves, as the index is walked -/
def qPair (ix : List Str) (j : Nat) : List Qd := [(srt (ix.take j), ix.getD j ""), (srt (ix.take (j + 1)), "")]
def allQ (ix : List Str) (n : Nat) : List Qd := (List.range n).flatMap (qPair ix)
theorem allQ_succ (ix : List Str) (n : Nat) : allQ ix (n + 1) = allQ ix n ++ qPair ix n := by
  unfold allQ
  rw [List.range_succ, List.flatMap_append]
  simp
theorem allQ_len (ix : List Str) : ∀ n, (allQ ix n).length = 2 * n
  | 0 => rfl
  | n + 1 => by
    rw [allQ_succ, List.length_append, allQ_len ix n]
    show 2 * n + 2 = _
    omega
theorem mem_allQ {ix : List Str} {n : Nat} {q : Qd} : q ∈ allQ ix n ↔ ∃ j, j < n ∧ (q = (srt (ix.take j), ix.getD j "") ∨ q = ((srt (ix.take (j + 1)), ("" : Str)) : Qd)) := by
  unfold allQ
  rw [List.mem_flatMap]
  constructor
  · rintro ⟨j, hj, h⟩
    refine ⟨j, List.mem_range.mp hj, ?_⟩
    simpa [qPair] using h
  · rintro ⟨j, hj, h⟩
    refine ⟨j, List.mem_range.mpr hj, ?_⟩
    simpa [qPair] using h
/-- a question is among them just if the index serves it -/
theorem allQ_serves {ix cols : List Str} {e : Str} (R : Row ix) (hc : cols.Nodup) (hs : sortedS cols = true) (hne : e = "" → cols ≠ []) : (cols, e) ∈ allQ ix ix.length ↔ fault ix cols e = none := by
  have hp := srt_perm (ix.take cols.length)
  have key : fault ix cols e = none ↔ srt (ix.take cols.length) = cols ∧ (e = "" ∨ ix[cols.length]? = some e) := by
    constructor
    · intro h
      have good := h
      unfold fault at good
      -- through the sorted list itself
      have e1 : ∃ ws : List Str, ws.Perm (ix.take cols.length) ∧ sortedS ws = true := by
        refine ⟨srt (ix.take cols.length), hp, sortedS_of_pairwise _ (srt_pw _)⟩
      obtain ⟨ws, w1, w2⟩ := e1
      have := (fault_none (last := e) R.nd hc hs w1 w2).mp h
      rw [← srt_eq w1 w2]
      exact this
    · rintro ⟨h1, h2⟩
      exact (fault_none (last := e) R.nd hc hs hp (sortedS_of_pairwise _ (srt_pw _))).mpr ⟨h1, h2⟩
  rw [mem_allQ, key]
  have getD_at : ∀ j, j < ix.length → ix[j]? = some (ix.getD j "") := fun j hj => by
    rw [List.getD_eq_getElem?_getD, List.getElem?_eq_getElem hj]
    rfl
  constructor
  · rintro ⟨j, hj, h | h⟩
    · injection h with h1 h2
      have hl : cols.length = j := by rw [h1, srt_len, List.length_take]; omega
      rw [hl]
      exact ⟨h1.symm, .inr (by rw [h2]; exact getD_at j hj)⟩
    · injection h with h1 h2
      have hl : cols.length = j + 1 := by rw [h1, srt_len, List.length_take]; omega
      rw [hl]
      exact ⟨h1.symm, .inl h2⟩
  · rintro ⟨h1, h2⟩
    have hl : cols.length ≤ ix.length := by
      have := congrArg List.length h1
      rw [srt_len, List.length_take] at this
      omega
    by_cases he : e = ""
    · have hpos : cols.length ≠ 0 := fun z => hne he (List.eq_nil_of_length_eq_zero z)
      refine ⟨cols.length - 1, by omega, .inr ?_⟩
      have e1 : cols.length - 1 + 1 = cols.length := by omega
      rw [e1, h1, he]
    · have h3 := h2.resolve_left he
      have hlt : cols.length < ix.length := (List.getElem?_eq_some_iff.mp h3).1
      refine ⟨cols.length, hlt, .inl ?_⟩
      rw [h1]
      have := getD_at _ hlt
      rw [h3] at this
      rw [← Option.some.inj this]
/-! lists of questions as they stand -/
def QL (H : Hp) (xs : List V) (qs : List Qd) : Prop := Paired (fun (x : V) (q : Qd) => ∃ t, x = .ref t ∧ QAt H t q.1 q.2) xs qs
theorem QL.len {H : Hp} {xs : List V} {qs : List Qd} (h : QL H xs qs) : xs.length = qs.length := Paired.length h
theorem QL.same {H H' : Hp} {xs : List V} {qs : List Qd} (s : Same H H') (h : QL H xs qs) : QL H' xs qs := Paired.mapP h fun x q ⟨t, e, z⟩ => ⟨t, e, z.same s⟩
theorem QL.kp {H H' : Hp} {b l : Addr} {xs : List V} {qs : List Qd} (B : Bag H b l) (s : Kp b H H') (h : QL H xs qs) : QL H' xs qs := Paired.mapP h fun x q ⟨t, e, z⟩ => ⟨t, e, z.kp B s⟩
theorem paired_app {α β : Type} {F : α → β → Prop} : ∀ {xs xs' : List α} {ys ys' : List β}, Paired F xs ys → Paired F xs' ys' → Paired F (xs ++ xs') (ys ++ ys')
  | _, _, _, _, .nil, h => h
  | _, _, _, _, .cons r t, h => .cons r (paired_app t h)
theorem QAt.uniq {H : Hp} {t : Addr} {c1 c2 : List Str} {e1 e2 : Str} (h1 : QAt H t c1 e1) (h2 : QAt H t c2 e2) : (c1, e1) = (c2, e2) := by
  obtain ⟨a, x1, x2⟩ := h1
  obtain ⟨b, y1, y2⟩ := h2
  rw [x1] at y1
  injection y1 with y1
  injection y1 with y1
  injection y1 with y1 y3
  injection y3 with y3 _
  injection y1 with y1
  injection y3 with y3
  subst y1
  rw [x2] at y2
  injection y2 with y2
  injection y2 with y2
  have : c1 = c2 := by
    have inj : ∀ {l m : List Str}, l.map V.str = m.map V.str → l = m := fun {l m} h => by
      induction l generalizing m with
      | nil => cases m with
        | nil => rfl
        | cons _ _ => cases h
      | cons x l ih => cases m with
        | nil => cases h
        | cons y m =>
          rw [List.map_cons, List.map_cons] at h
          injection h with h h'
          injection h with h
          rw [h, ih h']
    exact inj y2
  rw [this, y3]
open Classical in
noncomputable def keyQ (H : Hp) (x : V) : Qd := if h : ∃ q : Qd, ∃ t, x = .ref t ∧ QAt H t q.1 q.2 then h.choose else ([], "")
theorem keyQ_at {H : Hp} {t : Addr} {q : Qd} (h : QAt H t q.1 q.2) : keyQ H (.ref t) = q := by
  have ex : ∃ q : Qd, ∃ t', V.ref t = .ref t' ∧ QAt H t' q.1 q.2 := ⟨q, t, rfl, h⟩
  unfold keyQ
  rw [dif_pos ex]
  obtain ⟨t', e, z⟩ := ex.choose_spec
  injection e with e
  subst e
  exact z.uniq h
theorem QL.keys {H : Hp} : ∀ {xs : List V} {qs : List Qd}, QL H xs qs → xs.map (keyQ H) = qs
  | _, _, .nil => rfl
  | _, _, .cons ⟨t, e, z⟩ r => by
    subst e
    rw [List.map_cons, keyQ_at z, QL.keys r]
theorem QL.of_keys {H : Hp} : ∀ {xs : List V}, (∀ x ∈ xs, ∃ (t : Addr) (q : Qd), x = V.ref t ∧ QAt H t q.1 q.2) → QL H xs (xs.map (keyQ H))
  | [], _ => .nil
  | x :: xs, h => by
    obtain ⟨t, q, e, z⟩ := h x List.mem_cons_self
    subst e
    rw [List.map_cons, keyQ_at z]
    exact .cons ⟨t, rfl, z⟩ (QL.of_keys fun y hy => h y (List.mem_cons_of_mem _ hy))
theorem QL.mem {H : Hp} : ∀ {xs : List V} {qs : List Qd}, QL H xs qs → ∀ x ∈ xs, ∃ (t : Addr) (q : Qd), x = V.ref t ∧ QAt H t q.1 q.2 ∧ q ∈ qs
  | _, _, .nil, x, hx => by cases hx
  | _, _, .cons ⟨t, e, z⟩ r, x, hx => by
    rcases List.mem_cons.mp hx with rfl | hx
    · exact ⟨t, _, e, z, List.mem_cons_self⟩
    · obtain ⟨t', q', a, b, c⟩ := QL.mem r x hx
      exact ⟨t', q', a, b, List.mem_cons_of_mem _ c⟩
/-- no question stands behind a greater one -/
def rising (qs : List Qd) : Prop := qs.Pairwise (fun a b => ltQ b a = false)
def rSortedQL (K : PySem.W.Frag) : List V → Hp → VK → Prop := fun vs H Q => ∃ (a : Addr) (xs : List V) (qs : List Qd), vs = [V.ref a] ∧ SqL K H a xs ∧ QL H xs qs ∧ (∀ q ∈ qs, ∀ c ∈ q.1, PyData.strOk c = true) ∧
  ∀ (ys : List V) (rs : List Qd) (p : Addr), QL H ys rs → rs.Perm qs → rising rs → H p = none → Q (.ref p) (upd H p (.lst ys))
theorem cr_sortedQL {X : Cx} (hu : X.A.units + 80 < cLine) : CallR X (.builtin "sorted") (rSortedQL X.K) := by
  intro pins s σ H vs us Q I r h
  obtain ⟨a, xs, qs, rfl, hs, hq, hok, q⟩ := h
  refine cr_sortedQ hu pins s σ H _ us Q I r ⟨a, xs, keyQ H, rfl, hs, fun x hx => ?_, fun ys p hp hr hn => ?_⟩
  · obtain ⟨t, z, e, at_, hm⟩ := hq.mem x hx
    subst e
    rw [keyQ_at at_]
    exact ⟨t, rfl, at_, hok z hm⟩
  · refine q ys (ys.map (keyQ H)) p (QL.of_keys fun y hy => ?_) ?_ hr hn
    · obtain ⟨t, z, e, at_, _⟩ := hq.mem y (hp.mem_iff.mp hy)
      exact ⟨t, z, e, at_⟩
    · rw [← hq.keys]
      exact hp.map _
/-! .. as data -/
def dq (q : Qd) : PyData := dQ q.1 q.2
theorem QL.dp {K : PySem.W.Frag} {H : Hp} : ∀ {xs : List V} {qs : List Qd}, QL H xs qs → DpAll K H xs (qs.map dq)
  | _, _, .nil => .nil
  | _, _, .cons ⟨t, e, z⟩ r => by
    subst e
    exact .cons (dp_q z) (QL.dp r)
structure Qfine (q : Qd) : Prop where
  c : ∀ c ∈ q.1, okS c = true
  e : okS q.2 = true
  l : q.1.length ≤ 12
theorem okS_empty : okS "" = true := by decide +kernel
theorem fine_q {q : Qd} (h : Qfine q) : fine (dq q) = true := by
  show (fine (.tuple (q.1.map PyData.str)) && (fine (.str q.2) && true)) = true
  rw [Bool.and_true, Bool.and_eq_true]
  exact ⟨fine_strs h.c, h.e⟩
theorem cost_q {q : Qd} (h : Qfine q) : cost (dq q) ≤ 3000 := by
  have hl := h.l
  show costAll (q.1.map PyData.str) + 3 + 2 + (210 + 2 + 0) + 3 ≤ 3000
  rw [cost_strs]
  omega
theorem depth_q (q : Qd) : (dq q).depth = 2 := by
  show max (PyData.depthAll (q.1.map PyData.str) + 1) (max 0 0) + 1 = 2
  rw [depth_strs]
  rfl
theorem fine_qs : ∀ {qs : List Qd}, (∀ q ∈ qs, Qfine q) → fineAll (qs.map dq) = true
  | [], _ => rfl
  | q :: qs, h => by
    show (fine (dq q) && fineAll (qs.map dq)) = true
    rw [fine_qs fun q hq => h q (List.mem_cons_of_mem _ hq), Bool.and_true]
    exact fine_q (h q List.mem_cons_self)
theorem cost_qs : ∀ {qs : List Qd}, (∀ q ∈ qs, Qfine q) → costAll (qs.map dq) ≤ 3002 * qs.length
  | [], _ => Nat.le_refl 0
  | q :: qs, h => by
    have h1 := cost_q (h q List.mem_cons_self)
    have h2 := cost_qs fun q hq => h q (List.mem_cons_of_mem _ hq)
    show cost (dq q) + 2 + costAll (qs.map dq) ≤ _
    rw [List.length_cons]
    omega
theorem depth_qs : ∀ (qs : List Qd), PyData.depthAll (qs.map dq) ≤ 2
  | [] => Nat.zero_le _
  | q :: qs => by
    show max (dq q).depth (PyData.depthAll (qs.map dq)) ≤ 2
    rw [depth_q]
    exact Nat.max_le.mpr ⟨Nat.le_refl 2, depth_qs qs⟩
theorem dok_q {q : Qd} (h : Qfine q) : DOk (dq q) := ⟨fine_q h, by rw [depth_q]; decide, Nat.le_trans (cost_q h) (by decide)⟩
theorem dok_qs {qs : List Qd} (h : ∀ q ∈ qs, Qfine q) (hl : qs.length ≤ 100) : DOk (.list (qs.map dq)) :=
  ⟨fine_qs h, by show PyData.depthAll _ + 1 ≤ 50; have := depth_qs qs; omega, by show costAll _ + 3 ≤ _; have := cost_qs h; omega⟩
theorem eqv_q (p q : Qd) : PyData.eqv (dq p) (dq q) = decide (p = q) := by
  show PyData.eqv (.tuple [.tuple (p.1.map PyData.str), .str p.2]) (.tuple [.tuple (q.1.map PyData.str), .str q.2]) = _
  have e0 : PyData.eqv (.tuple (p.1.map PyData.str)) (.tuple (q.1.map PyData.str)) = decide (p.1 = q.1) := by rw [PyData.eqv, eqv_strs]
  rw [PyData.eqv, PyData.eqvAll, PyData.eqvAll, PyData.eqvAll, e0, PyData.eqv, Bool.and_true]
  by_cases h1 : p.1 = q.1
  · by_cases h2 : p.2 = q.2
    · rw [decide_eq_true h1, decide_eq_true (Prod.ext h1 h2), h2, beq_self_eq_true]
      rfl
    · rw [decide_eq_true h1, decide_eq_false (fun e => h2 (by rw [e]))]
      rw [beq_eq_false_iff_ne.mpr h2]
      rfl
  · rw [decide_eq_false h1, decide_eq_false (fun e => h1 (by rw [e]))]
    rfl
theorem allQ_fine {ix : List Str} (R : Row ix) {n : Nat} (hn : n ≤ ix.length) : ∀ q ∈ allQ ix n, Qfine q := by
  intro q hq
  obtain ⟨j, hj, h | h⟩ := mem_allQ.mp hq
  · subst h
    refine ⟨fun c hc => menu_okS _ (R.sub _ ((List.take_sublist _ _).mem ((srt_perm _).mem_iff.mp hc))), ?_, by show (srt _).length ≤ 12; rw [srt_len, List.length_take]; have := R.le; omega⟩
    show okS (ix.getD j "") = true
    rw [List.getD_eq_getElem?_getD, List.getElem?_eq_getElem (show j < ix.length by omega)]
    exact menu_okS _ (R.sub _ (List.getElem_mem _))
  · subst h
    exact ⟨fun c hc => menu_okS _ (R.sub _ ((List.take_sublist _ _).mem ((srt_perm _).mem_iff.mp hc))), okS_empty, by show (srt _).length ≤ 12; rw [srt_len, List.length_take]; have := R.le; omega⟩
theorem okS_strOk {c : Str} (h : okS c = true) : PyData.strOk c = true := by
  unfold okS at h
  rw [Bool.and_eq_true] at h
  exact h.1
theorem QM.fine {cols : List Str} {e : Str} (h : QM cols e) : Qfine (cols, e) :=
  ⟨fun c hc => menu_okS _ (h.sub c hc), by rcases h.esub with z | z
                                           · show okS e = true
                                             rw [z]
                                             exact okS_empty
                                           · exact menu_okS _ z, h.le⟩
/-! promises -/
def spQof : Sp := fun vs H Q _ => ∃ (t : Addr) (ix : List Str), vs = [.ref t] ∧ H t = some (.tup (ix.map V.str)) ∧ Row ix ∧
  ∀ (ys : List V) (rs : List Qd) (p : Addr) (H' : Hp), Same H H' → H p = none → H' p = some (.lst ys) → QL H' ys rs → rs.Perm (allQ ix ix.length) → rising rs → Q (.ref p) H'
end Qk
set_option maxRecDepth 100000
set_option maxHeartbeats 4000000
set_option maxRecDepth 100000
set_option maxHeartbeats 4000000
namespace PySem.W
open PySem PyProof.Rows
end PySem.W
set_option maxRecDepth 100000
set_option maxHeartbeats 4000000
namespace Qk
open PySem PySem.Spec PyProof.Rows L2
/-! ### own errors as values: made, asked for their class, their fields read -/
/-- an error of the class at C stands at a -/
def Er (H : Hp) (a C : Addr) : Prop := H a = some (exo a C none) ∨ ∃ d fs, H a = some (exo a C (some d)) ∧ H d = some (exd d fs)
theorem Er.same {H H' : Hp} {a C : Addr} (s : Same H H') (h : Er H a C) : Er H' a C := by
  rcases h with h | ⟨d, fs, h, hd⟩
  · exact .inl (s _ _ h)
  · exact .inr ⟨d, fs, s _ _ h, s _ _ hd⟩
/-- what the written part says of such a class -/
structure ErC (K : PySem.W.Frag) (C : Addr) : Prop where
  o : OexC K C
  x : XfC K C
  ha : PySem.W.findIn K (.ref C) "__class__" = some (some (.builtin "object.__class__"))
  hn : PySem.W.specialIn K (.builtin "object.__class__") "__get__" = some (some (.builtin "getset_descriptor.__get__"))
  ht : PySem.W.takesIn K (.builtin "object.__class__") = some true
  hm : PySem.W.mroIn K C (.type "object") = some true
end Qk
set_option maxRecDepth 100000
set_option maxHeartbeats 4000000
namespace Qk
open PySem PySem.Spec PyProof.Rows L2
/-! ### repr of lists of data, dicts among them: no list of them is sys.modules -/
mutual
inductive D1 (H : Hp) : V → PyData → Prop
  | non : D1 H .non .none
  | bl (b : Bool) : D1 H (.bl b) (.bool b)
  | int (i : Int) : D1 H (.int i) (.int i)
  | str (x : Str) : D1 H (.str x) (.str x)
  | lst {a : Addr} {xs : List V} {ds : List PyData} : H a = some (.lst xs) → a ≠ sysModules → D1A H xs ds → D1 H (.ref a) (.list ds)
  | tup {a : Addr} {xs : List V} {ds : List PyData} : H a = some (.tup xs) → D1A H xs ds → D1 H (.ref a) (.tuple ds)
inductive D1A (H : Hp) : List V → List PyData → Prop
  | nil : D1A H [] []
  | cons {v : V} {vs : List V} {d : PyData} {ds : List PyData} : D1 H v d → D1A H vs ds → D1A H (v :: vs) (d :: ds)
end
def kD : Key → PyData
  | .inl i => .int i
  | .inr x => .str x
inductive D2K (H : Hp) : List (Key × V) → List (PyData × PyData) → Prop
  | nil : D2K H [] []
  | cons {k : Key} {v : V} {d : PyData} {kvs : List (Key × V)} {D : List (PyData × PyData)} : D1 H v d → D2K H kvs D → D2K H ((k, v) :: kvs) ((kD k, d) :: D)
def D2 (H : Hp) (v : V) (d : PyData) : Prop := D1 H v d ∨ ∃ a kvs D, v = .ref a ∧ H a = some (.dK kvs) ∧ D2K H kvs D ∧ d = .dict D
end Qk
set_option maxRecDepth 100000
set_option maxHeartbeats 4000000
namespace Qk
open PySem PySem.Spec PyProof.Rows L2
/-! ### what the written part says of an error class, as a test -/
def oexB (K : PySem.W.Frag) (C : Addr) : Bool := match K.lookup C with
  | some ⟨.type "type", _, .cls cd, sl⟩ => (match cd.mro, sl.toList with
    | .ref C' :: bm, [_, _, _, _, some (.builtin n), _] => C' == C && n == "ValueError.__new__" && !cd.hasDel && cd.hasDict && PySem.HandSPX.refsVE bm
    | _, _ => false)
  | _ => false
def ercB (K : PySem.W.Frag) (C : Addr) : Bool := oexB K C && decide (PySem.W.findIn K (.ref C) "__setattr__" = some (some (.builtin "object.__setattr__"))) && decide (PySem.W.typeIn K (.ref C) = some (.type "type")) && PySem.W.keepIn K (.ref C) && xfB K C &&
  decide (PySem.W.findIn K (.ref C) "__class__" = some (some (.builtin "object.__class__"))) && decide (PySem.W.specialIn K (.builtin "object.__class__") "__get__" = some (some (.builtin "getset_descriptor.__get__"))) &&
  decide (PySem.W.takesIn K (.builtin "object.__class__") = some true) && decide (PySem.W.mroIn K C (.type "object") = some true)
theorem oexB_ok {K : PySem.W.Frag} {C : Addr} (q : oexB K C = true) : ∃ nm q N bs bm sn sub ab col dd k0 k1 k2 k3 k5, K.lookup C = some (excClassObj nm q C N bs bm true sn sub ab col dd k0 k1 k2 k3 k5 "ValueError.__new__") ∧ PySem.HandSPX.refsVE bm = true := by
  unfold oexB at q
  split at q
  · rename_i dd cd sl ho
    split at q
    · rename_i C' bm k0 k1 k2 k3 n k5 hm hs
      simp only [Bool.and_eq_true, beq_iff_eq, Bool.not_eq_true'] at q
      obtain ⟨⟨⟨⟨rfl, rfl⟩, hdel⟩, hd⟩, ht⟩ := q
      obtain ⟨nm, bs, mro, ns, qn, hd', sn, sub, ab, col, del⟩ := cd
      dsimp only at hm hdel hd
      subst hm hdel hd
      have hsl : sl = #[k0, k1, k2, k3, some (.builtin "ValueError.__new__"), k5] := by
        obtain ⟨l⟩ := sl
        simp only at hs
        rw [hs]
      subst hsl
      exact ⟨nm, qn, ns, bs, bm, sn, sub, ab, col, dd, k0, k1, k2, k3, k5, ho, ht⟩
    · cases q
  · cases q
theorem ercB_ok {K : PySem.W.Frag} {C : Addr} (q : ercB K C = true) : ErC K C := by
  unfold ercB at q
  simp only [Bool.and_eq_true, decide_eq_true_eq] at q
  obtain ⟨⟨⟨⟨⟨⟨⟨⟨h1, h2⟩, h3⟩, h4⟩, h5⟩, h6⟩, h7⟩, h8⟩, h9⟩ := q
  exact ⟨⟨oexB_ok h1, h2, (xfB_ok h5).exC, h3, h4⟩, xfB_ok h5, h6, h7, h8, h9⟩
/-! ### the sixteen classes, in the law's order -/
/-- an error with its one field -/
def ErF (H : Hp) (a C : Addr) (f : Str) (x : V) : Prop := ∃ d, H a = some (exo a C (some d)) ∧ H d = some (exd d [(f, x)])
theorem ErF.same {H H' : Hp} {a C : Addr} {f : Str} {x : V} (s : Same H H') (h : ErF H a C f x) : ErF H' a C f x := by
  obtain ⟨d, h1, h2⟩ := h
  exact ⟨d, s _ _ h1, s _ _ h2⟩
theorem ErF.er {H : Hp} {a C : Addr} {f : Str} {x : V} (h : ErF H a C f x) : Er H a C := by
  obtain ⟨d, h1, h2⟩ := h
  exact .inr ⟨d, _, h1, h2⟩
/-! ### data kept, their types -/
mutual
theorem D1.same {H H' : Hp} (s : Same H H') : ∀ (d : PyData) (v : V), D1 H v d → D1 H' v d
  | .none, _, h => by
    cases h
    exact .non
  | .bool b, _, h => by
    cases h
    exact .bl b
  | .int i, _, h => by
    cases h
    exact .int i
  | .str x, _, h => by
    cases h
    exact .str x
  | .list ds, _, h => by
    cases h with
    | lst a b c => exact .lst (s _ _ a) b (D1.sameAll s ds _ c)
  | .tuple ds, _, h => by
    cases h with
    | tup a c => exact .tup (s _ _ a) (D1.sameAll s ds _ c)
  | .dict _, _, h => by cases h
theorem D1.sameAll {H H' : Hp} (s : Same H H') : ∀ (ds : List PyData) (vs : List V), D1A H vs ds → D1A H' vs ds
  | [], _, h => by
    cases h
    exact .nil
  | d :: ds, _, h => by
    cases h with
    | cons a b => exact .cons (D1.same s d _ a) (D1.sameAll s ds _ b)
end
def tyD : PyData → String
  | .none => "NoneType"
  | .bool _ => "bool"
  | .int _ => "int"
  | .str _ => "str"
  | .list _ => "list"
  | .tuple _ => "tuple"
  | .dict _ => "dict"
theorem D1.ty {K : PySem.W.Frag} {H : Hp} {v : V} {d : PyData} (h : D1 H v d) : TyX K H v (.type (tyD d)) := by
  cases h with
  | non => exact .base .non
  | bl b => exact .base (.bl b)
  | int i => exact .base (.int i)
  | str x => exact .base (.str x)
  | lst a b c => exact .base (.lst a)
  | tup a c => exact .base (.tup a)
theorem ErF.off {H : Hp} {a b C : Addr} {f : Str} {x : V} {o u : HO} (h : ErF H a C f x) (hb : H b = some o) (ho : ∀ φ, o ≠ .ext φ) : ErF (L2.upd H b u) a C f x := by
  obtain ⟨d, h1, h2⟩ := h
  refine ⟨d, ?_, ?_⟩
  · rw [upd_ne (ne_of h1 hb fun z => ho _ z.symm)]
    exact h1
  · rw [upd_ne (ne_of h2 hb fun z => ho _ z.symm)]
    exact h2
theorem D2K.same {H H' : Hp} (s : Same H H') {kvs : List (Key × V)} {D : List (PyData × PyData)} (h : D2K H kvs D) : D2K H' kvs D := by
  induction h with
  | nil => exact .nil
  | cons h1 _ ih => exact .cons (D1.same s _ _ h1) ih
theorem D2.same {H H' : Hp} (s : Same H H') {v : V} {d : PyData} (h : D2 H v d) : D2 H' v d := by
  rcases h with h | ⟨a, kvs, D, rfl, ha, hk, rfl⟩
  · exact .inl (D1.same s _ _ h)
  · exact .inr ⟨a, kvs, D, rfl, s _ _ ha, hk.same s, rfl⟩
end Qk
set_option maxRecDepth 100000
set_option maxHeartbeats 4000000
namespace Qk
open PySem PySem.Spec PyProof.Rows L2
/-! ### a set's table laid anew: small tables have room for what is laid -/
def MaskS (m : Nat) : Prop := m = 7 ∨ m = 15 ∨ m = 31
theorem lcg_all15 : ((List.range 16).all fun j => (List.range 16).any fun b => lcgN 15 b == j) = true := by decide +kernel
theorem lcgS_all {m : Nat} (hm : MaskS m) {j : Nat} (hj : j ≤ m) : ∃ b, b ≤ m ∧ lcgN m b = j := by
  have key : ∀ n : Nat, ((List.range (n + 1)).all fun j => (List.range (n + 1)).any fun b => lcgN n b == j) = true → ∀ j, j ≤ n → ∃ b, b ≤ n ∧ lcgN n b = j := by
    intro n h j hj
    have h1 := List.all_eq_true.mp h j (List.mem_range.mpr (Nat.lt_succ_of_le hj))
    obtain ⟨b, hb, e⟩ := List.any_eq_true.mp h1
    exact ⟨b, Nat.le_of_lt_succ (List.mem_range.mp hb), beq_iff_eq.mp e⟩
  rcases hm with e | e | e
  · subst e; exact key 7 lcg_all7 j hj
  · subst e; exact key 15 lcg_all15 j hj
  · subst e; exact key 31 lcg_all31 j hj
theorem lcgS_round {m : Nat} (hm : MaskS m) : lcgN m (m + 1) = 0 := by
  rcases hm with e | e | e
  · subst e; decide +kernel
  · subst e; decide +kernel
  · subst e; decide +kernel
theorem lcgS_mod {m : Nat} (hm : MaskS m) : ∀ k, lcgN m (m + 1 + k) = lcgN m k
  | 0 => lcgS_round hm
  | k + 1 => by
    show (lcgN m (m + 1 + k) * 5 + 1) % (m + 1) = (lcgN m k * 5 + 1) % (m + 1)
    rw [lcgS_mod hm k]
theorem lcgSI_all {m : Nat} (hm : MaskS m) {i j : Nat} (hi : i ≤ m) (hj : j ≤ m) : ∃ k, k ≤ m ∧ lcgI m i k = j := by
  obtain ⟨a, ha, ea⟩ := lcgS_all hm hi
  obtain ⟨b, hb, eb⟩ := lcgS_all hm hj
  rw [← ea]
  rcases Nat.lt_or_ge b a with c | c
  · refine ⟨b + (m + 1) - a, by omega, ?_⟩
    rw [lcgN_add]
    have e : a + (b + (m + 1) - a) = m + 1 + b := by omega
    rw [e, lcgS_mod hm, eb]
  · refine ⟨b - a, by omega, ?_⟩
    rw [lcgN_add]
    have e : a + (b - a) = b := by omega
    rw [e, eb]
theorem runS_meets {m : Nat} (hm : MaskS m) (h : Int) {j : Nat} (hj : j ≤ m) : ∃ n, n ≤ m + 12 ∧ runI m (SetTable.bits h) n = j := by
  obtain ⟨k, hk, e⟩ := lcgSI_all hm (runI_le m (SetTable.bits h) 12) hj
  exact ⟨12 + k, by omega, by rw [runI_tail (bits_lt h)]; exact e⟩
/-- the search for a free slot -/
theorem free_go (owner : Array (Option Nat)) (m b : Nat) : ∀ f n, (∃ n', n ≤ n' ∧ n' < n + f ∧ (owner.getD (runI m b n') (some 0)).isNone = true) →
    ∃ j, SetTable.layClean.free m owner f (runI m b n) (b / 32 ^ n) = some j ∧ (owner.getD j (some 0)).isNone = true
  | 0, n, ⟨n', h1, h2, _⟩ => absurd h2 (by omega)
  | f + 1, n, ⟨n', h1, h2, h3⟩ => by
    unfold SetTable.layClean.free
    split
    · rename_i k hk
      exact ⟨_, rfl, by simpa using List.find?_some hk⟩
    · rename_i hk
      have hr := runEnd_bd (runI_le m b n)
      have h0 : ¬ (owner.getD (runI m b n) (some 0)).isNone = true := by
        have := List.find?_eq_none.mp hk 0 (List.mem_range.mpr (by omega))
        simpa using this
      have hne : n' ≠ n := fun e => h0 (by rw [← e]; exact h3)
      have ih := free_go owner m b f (n + 1) ⟨n', by omega, by omega, h3⟩
      have e1 : SetTable.leap m (runI m b n) (b / 32 ^ n) = (runI m b (n + 1), b / 32 ^ (n + 1)) := by
        show ((runI m b n * 5 + 1 + b / 32 ^ n / 32) % (m + 1), b / 32 ^ n / 32) = _
        rw [pow_div]
        rfl
      rw [e1]
      exact ih
theorem free_at {m : Nat} (hm : MaskS m) {owner : Array (Option Nat)} (hz : owner.size = m + 1) {j : Nat} (hj : owner.toList[j]? = some none) (h : Int) :
    ∃ j', SetTable.layClean.free m owner (SetTable.turns m) (SetTable.bits h % (m + 1)) (SetTable.bits h) = some j' ∧ owner.toList[j']? = some none := by
  have hjl : j < owner.size := by
    have := (List.getElem?_eq_some_iff.mp hj).1
    rwa [Array.length_toList] at this
  obtain ⟨n, hn, e⟩ := runS_meets hm h (j := j) (by omega)
  have hg : ∀ i, (owner.getD i (some 0)).isNone = true ↔ owner.toList[i]? = some none := fun i => by
    rw [Array.getElem?_toList]
    unfold Array.getD
    by_cases hi : i < owner.size
    · rw [dif_pos hi, Array.getElem?_eq_getElem hi]
      show (owner[i]).isNone = true ↔ some owner[i] = some none
      cases owner[i] <;> simp
    · rw [dif_neg hi, Array.getElem?_eq_none (by omega)]
      simp
  obtain ⟨j', q1, q2⟩ := free_go owner m (SetTable.bits h) (SetTable.turns m) 0 ⟨n, Nat.zero_le _, by unfold SetTable.turns; omega, by rw [e]; exact (hg j).mpr hj⟩
  refine ⟨j', ?_, (hg j').mp q2⟩
  rw [← q1]
  show SetTable.layClean.free m owner (SetTable.turns m) (SetTable.bits h % (m + 1)) (SetTable.bits h) = SetTable.layClean.free m owner (SetTable.turns m) (SetTable.bits h % (m + 1)) (SetTable.bits h / 32 ^ 0)
  rw [Nat.pow_zero, Nat.div_one]
theorem set_perm {k : Nat} : ∀ (l : List (Option Nat)) (j : Nat), l[j]? = some none → ((l.set j (some k)).filterMap id).Perm (k :: l.filterMap id)
  | [], j, h => by simp at h
  | x :: l, 0, h => by
    have e : x = none := by simpa using h
    subst e
    simp
  | x :: l, j + 1, h => by
    have ih := set_perm (k := k) l j (by simpa using h)
    rw [List.set_cons_succ]
    cases x with
    | none => simpa using ih
    | some y =>
      show (y :: (l.set j (some k)).filterMap id).Perm (k :: y :: l.filterMap id)
      exact (ih.cons y).trans (List.Perm.swap _ _ _)
theorem full_len : ∀ l : List (Option Nat), (∀ j : Nat, l[j]? ≠ some none) → (l.filterMap id).length = l.length
  | [], _ => rfl
  | x :: l, h => by
    have ih := full_len l fun j => by simpa using h (j + 1)
    cases x with
    | none => exact absurd rfl (h 0)
    | some y => simpa using ih
/-- so far laid -/
def Lay (m k : Nat) (a : Option (Array (Option Nat) × Nat)) : Prop := ∃ owner, a = some (owner, k) ∧ owner.size = m + 1 ∧ (owner.toList.filterMap id).Perm (List.range k)
def layStep (m : Nat) (acc : Option (Array (Option Nat) × Nat)) (h : Int) : Option (Array (Option Nat) × Nat) := do
  let (owner, k) ← acc
  let j ← SetTable.layClean.free m owner (SetTable.turns m) (SetTable.bits h % (m + 1)) (SetTable.bits h)
  pure (owner.setIfInBounds j (some k), k + 1)
theorem lay_step {m k : Nat} (hm : MaskS m) (hk : k ≤ m) {a : Option (Array (Option Nat) × Nat)} (L : Lay m k a) (h : Int) : Lay m (k + 1) (layStep m a h) := by
  obtain ⟨owner, rfl, hz, hp⟩ := L
  obtain ⟨j, hj⟩ : ∃ j : Nat, owner.toList[j]? = some none := by
    rcases Classical.em (∃ j : Nat, owner.toList[j]? = some none) with c | c
    · exact c
    · exfalso
      have e := full_len owner.toList fun j hj => c ⟨j, hj⟩
      rw [hp.length_eq, List.length_range, Array.length_toList, hz] at e
      omega
  obtain ⟨j', q1, q2⟩ := free_at hm hz hj h
  refine ⟨owner.setIfInBounds j' (some k), ?_, by simp [hz], ?_⟩
  · unfold layStep
    show (SetTable.layClean.free m owner (SetTable.turns m) (SetTable.bits h % (m + 1)) (SetTable.bits h) >>= fun j => pure (owner.setIfInBounds j (some k), k + 1)) = _
    rw [q1]
    rfl
  · rw [Array.toList_setIfInBounds, List.range_succ]
    exact (set_perm _ _ q2).trans ((hp.cons k).trans (List.perm_append_singleton k _).symm)
theorem lay_all {m : Nat} (hm : MaskS m) : ∀ (hs : List Int) (k : Nat) (a : Option (Array (Option Nat) × Nat)), k + hs.length ≤ m + 1 → Lay m k a → Lay m (k + hs.length) (hs.foldl (layStep m) a)
  | [], k, a, _, L => L
  | h :: hs, k, a, hl, L => by
    rw [List.length_cons] at hl
    have := lay_all hm hs (k + 1) (layStep m a h) (by omega) (lay_step hm (by omega) L h)
    rw [List.length_cons, List.foldl_cons]
    have e : k + (hs.length + 1) = k + 1 + hs.length := by omega
    rw [e]
    exact this
theorem range_getD (owner : Array (Option Nat)) : (List.range owner.size).map (fun j => owner.getD j none) = owner.toList := by
  refine List.ext_getElem? fun i => ?_
  by_cases hi : i < owner.size
  · rw [List.getElem?_map, List.getElem?_range hi, List.getElem?_eq_getElem (by rw [Array.length_toList]; exact hi)]
    show some (owner.getD i none) = some owner.toList[i]
    unfold Array.getD
    rw [dif_pos hi]
    rfl
  · rw [List.getElem?_eq_none (by rw [List.length_map, List.length_range]; omega), List.getElem?_eq_none (by rw [Array.length_toList]; omega)]
theorem fm_congr {α β : Type} {f g : α → Option β} : ∀ (l : List α), (∀ x ∈ l, f x = g x) → l.filterMap f = l.filterMap g
  | [], _ => rfl
  | x :: l, h => by
    rw [List.filterMap_cons, List.filterMap_cons, h x List.mem_cons_self, fm_congr l fun y hy => h y (List.mem_cons_of_mem _ hy)]
/-- a table is laid, and all that is laid stands in it -/
theorem laid_ok {m : Nat} (hm : MaskS m) (hs : Array Int) (hl : hs.size ≤ m + 1) (finger moves : Nat) (led plain : Bool) :
    ∃ t order, SetTable.laid m finger moves led plain hs = some (t, order) ∧ t.mask = m ∧ t.dummies = #[] ∧ t.place.size = hs.size ∧ t.led = led ∧ t.plain = plain ∧ order.toList.Perm (List.range hs.size) := by
  have L0 : Lay m 0 (some (Array.replicate (m + 1) none, 0)) := ⟨_, rfl, by simp, by
    have : ∀ n : Nat, (List.replicate n (none : Option Nat)).filterMap id = [] := fun n => by
      induction n with
      | zero => rfl
      | succ n ih => simpa [List.replicate_succ] using ih
    rw [Array.toList_replicate, this]
    simp⟩
  obtain ⟨owner, e, hz, hp⟩ := lay_all hm hs.toList 0 _ (by rw [Array.length_toList]; omega) L0
  rw [Nat.zero_add, Array.length_toList] at e hp
  have e2 : SetTable.layClean m hs = some owner := by
    unfold SetTable.layClean
    rw [← Array.foldl_toList]
    have : (List.foldl (layStep m) (some (Array.replicate (m + 1) none, 0)) hs.toList).map (·.1) = some owner := by rw [e]; rfl
    exact this
  have hlive : ((List.range (m + 1)).filterMap fun j => (owner.getD j none).map (j, ·)).map (·.2) = owner.toList.filterMap id := by
    rw [← range_getD owner, hz, List.map_filterMap, List.filterMap_map]
    refine fm_congr _ fun j _ => ?_
    show ((owner.getD j none).map (j, ·)).map (·.2) = id (owner.getD j none)
    cases owner.getD j none <;> rfl
  unfold SetTable.laid
  rw [e2]
  refine ⟨_, _, rfl, rfl, rfl, ?_, rfl, rfl, ?_⟩
  · show ((((List.range (m + 1)).filterMap fun j => (owner.getD j none).map (j, ·)).map (·.1)).toArray).size = hs.size
    rw [List.size_toArray, List.length_map, ← List.length_map (f := (·.2)), hlive, hp.length_eq, List.length_range]
  · show (((List.range (m + 1)).filterMap fun j => (owner.getD j none).map (j, ·)).map (·.2)).toArray.toList.Perm _
    rw [List.toList_toArray, hlive]
    exact hp
end Qk
set_option maxRecDepth 100000
set_option maxHeartbeats 4000000
namespace Qk
open PySem PySem.Spec PyProof.Rows L2
/-! ### the difference of two sets of texts -/
/-- the set at a holds just the texts of S -/
def TSet (P : Program) (w : World) (h : Heap) (a : Addr) (S : Str → Bool) (n : Nat) : Prop := h.SetOf (strKind P w) a S n
section
variable {P : Program} {w : World} {A : Around} {E : Value → Shared → Prop} {s : Shared} {a o r : Addr} {S T R : Str → Bool} {n m k : Nat}
theorem text_of {v : Value} {z : Str} (h : (strKind P w).is z v = true) : ∃ t, v = .str z t := by
  cases v with
  | str y t =>
    have e : (y == z) = true := h
    rw [beq_iff_eq.mp e]
    exact ⟨t, rfl⟩
  | _ => cases h
theorem quiet_texts (h1 : TSet P w s.heap a S n) (h2 : TSet P w s.heap o T m) (h3 : TSet P w s.heap r R k) {Q : Bool → Shared → Prop} (h : Q true s) : wpAny (model P w) A (setsQuiet [a, o, r]) Q E s := by
  have one : ∀ {b : Addr} {U : Str → Bool} {j : Nat}, TSet P w s.heap b U j → ∀ {Q : Array (Int × Value) → Shared → Prop}, (∀ es : Array (Int × Value), (∀ e ∈ es.toList, ∃ z t, e.2 = Value.str z t) → Q es s) → wpAny (model P w) A (setEntries b) Q E s := by
    intro b U j hb Q q
    obtain ⟨o, es, ep, t, ho, hex, hd, hel, hmem, hlt, hf, hn⟩ := hb
    refine wpAny_setEntries_of ho hd hf (q es fun e he => ?_)
    obtain ⟨⟨z, hz, _⟩, _⟩ := hel e he
    obtain ⟨t, e2⟩ := text_of hz
    exact ⟨z, t, e2⟩
  have any1 : ∀ c ∈ [a, o, r], ∀ {Q : Array (Int × Value) → Shared → Prop}, (∀ es : Array (Int × Value), (∀ e ∈ es.toList, ∃ z t, e.2 = Value.str z t) → Q es s) → wpAny (model P w) A (setEntries c) Q E s := by
    intro c hc
    simp only [List.mem_cons, List.not_mem_nil, or_false] at hc
    rcases hc with rfl | rfl | rfl
    · exact one h1
    · exact one h2
    · exact one h3
  unfold setsQuiet
  refine wpAny_bind (wpAny_forIn_list _ (fun rest b s' => b = (none, ()) ∧ s' = s ∧ ∀ c ∈ rest, c ∈ [a, o, r]) _ ?_ ?_ _ _ ⟨rfl, rfl, fun _ h => h⟩)
  · rintro c rest b s' ⟨rfl, rfl, hc⟩
    refine wpAny_bind (any1 c (hc c List.mem_cons_self) fun es hes => ?_)
    refine wpAny_bind (wpAny_forIn_array' _ (fun rest b s'' => b = (none, ()) ∧ s'' = s' ∧ ∀ e ∈ rest, ∃ z t, e.2 = Value.str z t) _ ?_ ?_ _ _ ⟨rfl, rfl, hes⟩)
    · rintro ⟨u, v⟩ rest2 b s'' ⟨rfl, rfl, he⟩
      obtain ⟨z, t, e2⟩ := he _ List.mem_cons_self
      dsimp only at e2
      subst e2
      exact wpAny_pure ⟨rfl, rfl, fun e h => he e (List.mem_cons_of_mem _ h)⟩
    · rintro b s'' ⟨rfl, rfl, _⟩
      exact wpAny_pure ⟨rfl, rfl, fun c h => hc c (List.mem_cons_of_mem _ h)⟩
  · rintro b s' ⟨rfl, rfl, _⟩
    exact wpAny_pure h
theorem quiet_texts2 (h1 : TSet P w s.heap a S n) (h3 : TSet P w s.heap r R k) {Q : Bool → Shared → Prop} (h : Q true s) : wpAny (model P w) A (setsQuiet [a, r]) Q E s := by
  have one : ∀ {b : Addr} {U : Str → Bool} {j : Nat}, TSet P w s.heap b U j → ∀ {Q : Array (Int × Value) → Shared → Prop}, (∀ es : Array (Int × Value), (∀ e ∈ es.toList, ∃ z t, e.2 = Value.str z t) → Q es s) → wpAny (model P w) A (setEntries b) Q E s := by
    intro b U j hb Q q
    obtain ⟨o, es, ep, t, ho, hex, hd, hel, hmem, hlt, hf, hn⟩ := hb
    refine wpAny_setEntries_of ho hd hf (q es fun e he => ?_)
    obtain ⟨⟨z, hz, _⟩, _⟩ := hel e he
    obtain ⟨t, e2⟩ := text_of hz
    exact ⟨z, t, e2⟩
  have any1 : ∀ c ∈ [a, r], ∀ {Q : Array (Int × Value) → Shared → Prop}, (∀ es : Array (Int × Value), (∀ e ∈ es.toList, ∃ z t, e.2 = Value.str z t) → Q es s) → wpAny (model P w) A (setEntries c) Q E s := by
    intro c hc
    simp only [List.mem_cons, List.not_mem_nil, or_false] at hc
    rcases hc with rfl | rfl
    · exact one h1
    · exact one h3
  unfold setsQuiet
  refine wpAny_bind (wpAny_forIn_list _ (fun rest b s' => b = (none, ()) ∧ s' = s ∧ ∀ c ∈ rest, c ∈ [a, r]) _ ?_ ?_ _ _ ⟨rfl, rfl, fun _ h => h⟩)
  · rintro c rest b s' ⟨rfl, rfl, hc⟩
    refine wpAny_bind (any1 c (hc c List.mem_cons_self) fun es hes => ?_)
    refine wpAny_bind (wpAny_forIn_array' _ (fun rest b s'' => b = (none, ()) ∧ s'' = s' ∧ ∀ e ∈ rest, ∃ z t, e.2 = Value.str z t) _ ?_ ?_ _ _ ⟨rfl, rfl, hes⟩)
    · rintro ⟨u, v⟩ rest2 b s'' ⟨rfl, rfl, he⟩
      obtain ⟨z, t, e2⟩ := he _ List.mem_cons_self
      dsimp only at e2
      subst e2
      exact wpAny_pure ⟨rfl, rfl, fun e h => he e (List.mem_cons_of_mem _ h)⟩
    · rintro b s'' ⟨rfl, rfl, _⟩
      exact wpAny_pure ⟨rfl, rfl, fun c h => hc c (List.mem_cons_of_mem _ h)⟩
  · rintro b s' ⟨rfl, rfl, _⟩
    exact wpAny_pure h
/-- what a walk over the set at a gives: all of it, in some order -/
def Walked (P : Program) (w : World) (S : Str → Bool) (l : List (Int × Value)) : Prop := (∀ e ∈ l, ∃ z t, e.2 = Value.str z t ∧ e.1 = (strKind P w).hash z ∧ S z = true) ∧ (∀ z, S z = true → ∃ e ∈ l, (strKind P w).is z e.2 = true) ∧ l.length < scanBound
theorem walked_of {es : Array (Int × Value)} {l : List (Int × Value)} (hel : ElemsOf (strKind P w) es.toList) (hmem : ∀ z, S z = true ↔ ∃ e ∈ es.toList, (strKind P w).is z e.2 = true) (hlt : es.size < scanBound) (p : l.Perm es.toList) : Walked P w S l := by
  refine ⟨fun e he => ?_, fun z hz => ?_, by rw [p.length_eq, Array.length_toList]; exact hlt⟩
  · have he' := p.mem_iff.mp he
    obtain ⟨⟨z, hz, hh⟩, _⟩ := hel e he'
    obtain ⟨t, e2⟩ := text_of hz
    exact ⟨z, t, e2, hh, (hmem z).mpr ⟨e, he', hz⟩⟩
  · obtain ⟨e, he, hz⟩ := (hmem z).mp hz
    exact ⟨e, p.mem_iff.mpr he, hz⟩
/-- the walk of setWalkUnseen, another set being filled -/
theorem walk_unseen (h1 : TSet P w s.heap a S n) (h2 : TSet P w s.heap o T m) (h3 : TSet P w s.heap r R k) {Q : Array (Int × Value) → Shared → Prop}
    (h : ∀ (arr : Array (Int × Value)) (h' : Heap) (d : Drawn), Walked P w S arr.toList → Heap.SameBut r s.heap h' → TSet P w h' r R k → Q arr { s with heap := h', drawn := d }) :
    wpAny (model P w) A (setWalkUnseen a [o, r] (some r)) Q E s := by
  obtain ⟨oa, es, ep, t, ho, hex, hd, hel, hmem, hlt, hf, hn⟩ := id h1
  have e0 : s = { s with heap := s.heap, drawn := s.drawn } := by cases s; rfl
  unfold setWalkUnseen
  refine wpAny_bind (wpAny_setState_of ho hd hf ?_)
  dsimp only
  refine wpAny_bind (wpAny_byText ?_)
  by_cases c : (w.params.followText "set-order" || (t.led && t.plain) || decide (es.size ≤ 1)) = true
  · rw [if_pos c]
    unfold setWalk
    refine wpAny_bind (wpAny_setState_of ho hd hf ?_)
    dsimp only
    refine wpAny_bind (wpAny_byText ?_)
    by_cases hbt : w.params.followText "set-order" = true
    · refine wp_if_pos hbt ?_
      refine wpAny_bind (wpAny_askSetting (wpAny_pure ?_))
      exact h _ s.heap s.drawn (walked_of hel hmem hlt (pick_perm _ es)) (Heap.SameBut.refl r s.heap) h3
    · refine wp_if_neg hbt ?_
      by_cases hdr : (!t.plain && decide (es.size > 1)) = true
      · refine wp_if_pos hdr ?_
        refine wpAny_bind (drawOrder_at _ _ _ _ (by rw [Array.length_toList]; exact Nat.le_refl _) fun ys d hy => ?_)
        exact wpAny_pure (h _ s.heap d (walked_of hel hmem hlt hy) (Heap.SameBut.refl r s.heap) h3)
      · refine wp_if_neg hdr ?_
        have hled : ¬ (!t.led && decide (es.size > 1)) = true := by
          intro z
          simp only [Bool.and_eq_true, Bool.not_eq_true', decide_eq_true_eq] at z
          simp only [Bool.or_eq_true, Bool.and_eq_true, decide_eq_true_eq] at c
          rcases c with (c | c) | c
          · exact hbt c
          · rw [c.1] at z
            cases z.1
          · omega
        refine wpAny_bind (wpAny_of_eq (a := ()) ?_ ?_)
        · show (if (!t.led && decide (es.size > 1)) = true then unsupported "set:maker-not-led" else pure ()) = pure ()
          rw [if_neg hled]
        · exact wpAny_pure (h _ s.heap s.drawn (walked_of hel hmem hlt (List.Perm.refl _)) (Heap.SameBut.refl r s.heap) h3)
  · rw [if_neg c]
    refine wpAny_bind (quiet_texts h1 h2 h3 ?_)
    refine wp_if_neg (by simp) ?_
    refine wpAny_bind (wpAny_rule ?_)
    obtain ⟨orr, er, epr, tr, hor, hexr, hdr, helr, hmemr, hltr, hfr, hnr⟩ := id h3
    refine wpAny_bind (wpAny_setState_of hor hdr hfr ?_)
    dsimp only
    by_cases c2 : (tr.led && !t.led || tr.plain && !t.plain) = true
    · refine wp_if_pos c2 ?_
      refine wpAny_bind (wpAny_storeSet_of hor hdr ?_ (fits_of_scanBound hltr))
      obtain ⟨_, hS⟩ := SetOf_store (knd := strKind P w) (t' := { tr with led := tr.led && t.led, plain := tr.plain && t.plain }) hor hexr hdr helr hmemr hltr (by cases tr; exact hfr)
      rw [hnr] at hS
      exact wpAny_pure (h es _ s.drawn (walked_of hel hmem hlt (List.Perm.refl _)) (Heap.SameBut.update s.heap r _) hS)
    · refine wp_if_neg c2 ?_
      exact wpAny_pure (h es s.heap s.drawn (walked_of hel hmem hlt (List.Perm.refl _)) (Heap.SameBut.refl r s.heap) h3)
theorem sub_set_self : isSubtype (.type "set") (.type "set") = pure true := by rw [isSubtype_type]; kernel_rfl
theorem any_set (h1 : TSet P w s.heap a S n) {Q : Bool → Shared → Prop} (h : Q true s) : wpAny (model P w) A (Builtin.Frozenset.isAnySet (.ref a)) Q E s := by
  unfold Builtin.Frozenset.isAnySet orM
  refine wpAny_bind (wpAny_isInstance (T := "set") h1.typeIs sub_set_self ?_)
  exact wpAny_pure h
theorem size_of (h1 : TSet P w s.heap a S n) {Q : Nat → Shared → Prop} (h : Q n s) : wpAny (model P w) A (Builtin.Frozenset.sizeOf a) Q E s := by
  obtain ⟨oa, es, ep, t, ho, hex, hd, hel, hmem, hlt, hf, hn⟩ := h1
  unfold Builtin.Frozenset.sizeOf
  refine wpAny_bind (wpAny_setEntries_of ho hd hf (wpAny_pure ?_))
  rw [hn]
  exact h
theorem base_of (h1 : TSet P w s.heap a S n) {Q : Value → Shared → Prop} (h : Q (.type "set") s) : wpAny (model P w) A (Builtin.Frozenset.baseOf a) Q E s := by
  unfold Builtin.Frozenset.baseOf
  refine wpAny_bind (wpAny_isInstance (T := "set") h1.typeIs sub_set_self ?_)
  exact wpAny_pure h
theorem epoch_of (h1 : TSet P w s.heap a S n) {Q : Nat → Shared → Prop} (h : ∀ ep, (∀ s' : Shared, (∀ u, s.heap.get? a = some u → s'.heap.get? a = some u) → ∀ {A : Around} {E : Value → Shared → Prop} {Q' : Unit → Shared → Prop} (id' : String), Q' () s' → wpAny (model P w) A (Builtin.Frozenset.unchanged id' a ep) Q' E s') → Q ep s) : wpAny (model P w) A (setEpoch a) Q E s := by
  obtain ⟨oa, es, ep, t, ho, hex, hd, hel, hmem, hlt, hf, hn⟩ := h1
  refine wpAny_setEpoch_of ho hd hf (h ep fun s' k A E Q' id' q => ?_)
  unfold Builtin.Frozenset.unchanged
  refine wpAny_bind (wpAny_setEpoch_of (k _ ho) hd hf ?_)
  refine wp_if_neg (by simp) (wpAny_pure q)
theorem TSet.keep {h h' : Heap} {a : Addr} {S : Str → Bool} {n : Nat} (x : TSet P w h a S n) (k : ∀ u, h.get? a = some u → h'.get? a = some u) : TSet P w h' a S n := by
  obtain ⟨oa, es, ep, t, ho, r⟩ := x
  exact ⟨oa, es, ep, t, k _ ho, r⟩
theorem TSet.lt {h : Heap} {a : Addr} {S : Str → Bool} {n : Nat} (x : TSet P w h a S n) : a < h.objs.size := by
  obtain ⟨oa, es, ep, t, ho, r⟩ := x
  exact Heap.lt_size ho
/-- where the first set is not much larger -/
theorem diff_near {id' : String} (h1 : TSet P w s.heap a S n) (h2 : TSet P w s.heap o T m) (hnm : ¬ n / 4 > m) {Q : Value → Shared → Prop}
    (h : ∀ (p : Addr) (j : Nat) (h' : Heap) (d : Drawn) (t : Nat), s.heap.get? p = none → (∀ b u, s.heap.get? b = some u → h'.get? b = some u) → TSet P w h' p (fun z => S z && !T z) j → Q (.ref p) { s with heap := h', drawn := d, toks := t }) :
    wpAny (model P w) A (Builtin.Frozenset.difference id' a (.ref o)) Q E s := by
  unfold Builtin.Frozenset.difference
  dsimp only
  refine wpAny_bind (any_set h2 ?_)
  refine wp_if_neg (by simp) ?_
  refine wpAny_bind (m := Builtin.Frozenset.addrOf (.ref o)) (wpAny_pure ?_)
  refine wp_if_neg (by simp) ?_
  refine wp_if_pos rfl ?_
  refine wpAny_bind (size_of h2 ?_)
  refine wpAny_bind (size_of h1 ?_)
  refine wp_if_neg hnm ?_
  refine wpAny_bind (base_of h1 ?_)
  refine wpAny_bind (wpAny_newSet_of (knd := strKind P w) fun led h3 => ?_)
  have hlt1 := h1.lt
  have hlt2 := h2.lt
  have hnew : s.heap.get? s.heap.objs.size = none := Heap.get?_none_of_le (Nat.le_refl _)
  generalize hr : s.heap.objs.size = r at *
  refine wpAny_bind (m := Builtin.Frozenset.addrOf (.ref r)) (wpAny_pure ?_)
  have kp : ∀ b u, s.heap.get? b = some u → (s.heap.push { cls := .type "set", dict := none, data := .set #[] 0 (.fresh 0 0 led) }).get? b = some u := fun b u e => Heap.get?_push_of_some _ e
  generalize s.heap.push { cls := .type "set", dict := none, data := .set #[] 0 (.fresh 0 0 led) } = hp at *
  have g1 : TSet P w hp a S n := h1.keep fun u e => kp _ _ e
  have g2 : TSet P w hp o T m := h2.keep fun u e => kp _ _ e
  refine wpAny_bind (epoch_of (s := { s with heap := hp }) g1 fun ep unch => ?_)
  refine wpAny_bind (wpAny_holding ?_)
  refine wpAny_bind ?_
  refine wp_if_pos rfl ?_
  refine walk_unseen (s := { s with heap := hp }) g1 g2 h3 fun arr h' d wk sb g3 => ?_
  have nra : a ≠ r := Nat.ne_of_lt hlt1
  have nro : o ≠ r := Nat.ne_of_lt hlt2
  refine wpAny_bind (wpAny_forIn_array' _ (fun rest b s' => (∀ e ∈ rest, ∃ z t, e.2 = Value.str z t ∧ e.1 = (strKind P w).hash z ∧ S z = true) ∧ ∃ (hh : Heap) (tk : Nat) (R : Str → Bool) (j : Nat), s' = { s with heap := hh, drawn := d, toks := tk } ∧
      (∀ b u, b ≠ r → hp.get? b = some u → hh.get? b = some u) ∧ TSet P w hh r R j ∧ j + rest.length ≤ arr.toList.length ∧ (∀ z, R z = true → S z = true ∧ T z = false) ∧ (∀ z, S z = true → T z = false → R z = true ∨ ∃ e ∈ rest, (strKind P w).is z e.2 = true)) _ ?_ ?_ _ _ ?_)
  · rintro ⟨hv, x⟩ rest b s' ⟨he, hh, tk, R, j, rfl, kp', gR, hj, r1, r2⟩
    obtain ⟨z, t, e2, e1, hz⟩ := he _ List.mem_cons_self
    dsimp only at e2 e1
    subst e2 e1
    have he' : ∀ e ∈ rest, ∃ z t, e.2 = Value.str z t ∧ e.1 = (strKind P w).hash z ∧ S z = true := fun e h => he e (List.mem_cons_of_mem _ h)
    rw [List.length_cons] at hj
    have u1 := @unch { s with heap := hh, drawn := d, toks := tk } (fun u e => kp' _ _ nra e)
    have g2' : TSet P w hh o T m := g2.keep fun u e => kp' _ _ nro e
    refine wpAny_bind (wpAny_holding ?_)
    refine wp_if_pos rfl ?_
    refine wpAny_bind (wpAny_setFind_of (knd := strKind P w) (k := z) (s := { s with heap := hh, drawn := d, toks := tk }) (strKind_is _ _ _ _) rfl g2' fun q hq => ?_)
    refine wpAny_bind (wpAny_pure ?_)
    rw [hq]
    by_cases ht : T z = true
    · refine wp_if_neg (by rw [ht]; simp) ?_
      refine wpAny_pure (wpAny_bind (u1 _ (wpAny_pure ⟨he', hh, tk, R, j, rfl, kp', gR, by omega, r1, fun y hy ty => ?_⟩)))
      rcases r2 y hy ty with c | ⟨e, hm, c⟩
      · exact .inl c
      · rcases List.mem_cons.mp hm with rfl | hm
        · exfalso
          have : y = z := by
            have e3 : (z == y) = true := c
            exact (beq_iff_eq.mp e3).symm
          rw [this, ht] at ty
          cases ty
        · exact .inr ⟨e, hm, c⟩
    · have tf : T z = false := by simpa using ht
      refine wp_if_pos (by rw [tf]; rfl) ?_
      refine wpAny_bind (wpAny_setAddHashed_of (knd := strKind P w) (k := z) (s := { s with heap := hh, drawn := d, toks := tk }) (strKind_is _ _ _ _) rfl gR (by have := wk.2.2; omega) fun h2 sb2 gR2 => ?_)
      have kp2 : ∀ b u, b ≠ r → hp.get? b = some u → h2.get? b = some u := fun b u nb e => (sb2.2 b nb).trans (kp' b u nb e)
      have u2 := @unch { s with heap := h2, drawn := d, toks := tk } (fun u e => kp2 _ _ nra e)
      refine wpAny_pure (wpAny_bind (u2 _ (wpAny_pure ⟨he', h2, tk, _, _, rfl, kp2, gR2, by split <;> omega, fun y hy => ?_, fun y hy ty => ?_⟩)))
      · simp only [Bool.or_eq_true, decide_eq_true_eq] at hy
        rcases hy with hy | rfl
        · exact r1 y hy
        · exact ⟨hz, tf⟩
      · rcases r2 y hy ty with c | ⟨e, hm, c⟩
        · exact .inl (by rw [c]; rfl)
        · rcases List.mem_cons.mp hm with rfl | hm
          · refine .inl ?_
            have e3 : (z == y) = true := c
            rw [decide_eq_true (beq_iff_eq.mp e3).symm, Bool.or_true]
          · exact .inr ⟨e, hm, c⟩
  · rintro b s' ⟨_, hh, tk, R, j, rfl, kp', gR, _, r1, r2⟩
    refine wpAny_pure (wpAny_pure (h r j hh d tk hnew (fun b u e => kp' b u ?_ (kp b u e)) (SetOf_congr gR (fun z => ?_) rfl)))
    · intro eb
      rw [eb, hnew] at e
      cases e
    · cases c1 : R z with
      | true =>
        obtain ⟨q1, q2⟩ := r1 z c1
        rw [q1, q2]
        rfl
      | false =>
        cases c2 : S z with
        | false => rfl
        | true =>
          cases c3 : T z with
          | true => rfl
          | false =>
            rcases r2 z c2 c3 with q | ⟨e, hm, _⟩
            · rw [q] at c1
              cases c1
            · cases hm
  · refine ⟨wk.1, h', s.toks, fun _ => false, 0, rfl, fun b u nb e => (sb.2 b nb).trans e, g3, by omega, fun z hz => (Bool.false_ne_true hz).elim, fun z hz _ => .inr (wk.2.1 z hz)⟩
end
end Qk
set_option maxRecDepth 100000
set_option maxHeartbeats 4000000
namespace Qk
open PySem PySem.Spec PyProof.Rows L2
/-! ### the difference of two sets of texts, by a copy -/
/-- a set of texts with its table's mask, and few dummies -/
def TM (P : Program) (w : World) (h : Heap) (a : Addr) (S : Str → Bool) (n M c : Nat) : Prop :=
  ∃ o es ep t, h.get? a = some o ∧ o.ExactSet ∧ o.data = .set es ep t ∧ ElemsOf (strKind P w) es.toList ∧ (∀ z, S z = true ↔ ∃ e ∈ es.toList, (strKind P w).is z e.2 = true) ∧ es.size < scanBound ∧ t.fits es.size = true ∧ es.size = n ∧ t.mask = M ∧ t.dummies.size ≤ c
theorem TM.t {P : Program} {w : World} {h : Heap} {a : Addr} {S : Str → Bool} {n M c : Nat} (x : TM P w h a S n M c) : TSet P w h a S n := by
  obtain ⟨o, es, ep, t, h1, h2, h3, h4, h5, h6, h7, h8, _⟩ := x
  exact ⟨o, es, ep, t, h1, h2, h3, h4, h5, h6, h7, h8⟩
theorem range_get (es : Array (Int × Value)) : (List.range es.size).filterMap (fun i => es[i]?) = es.toList := by
  have e1 : (List.range es.size).filterMap (fun i => es[i]?) = ((List.range es.size).map fun i => es[i]?).filterMap id := by rw [List.filterMap_map]; rfl
  have e2 : ((List.range es.size).map fun i => es[i]?) = es.toList.map some := by
    refine List.ext_getElem? fun i => ?_
    by_cases hi : i < es.size
    · rw [List.getElem?_map, List.getElem?_range hi, List.getElem?_map, Array.getElem?_toList, Array.getElem?_eq_getElem hi]
      show some es[i]? = some (some es[i])
      rw [Array.getElem?_eq_getElem hi]
    · rw [List.getElem?_eq_none (by rw [List.length_map, List.length_range]; omega), List.getElem?_eq_none (by rw [List.length_map, Array.length_toList]; omega)]
  rw [e1, e2, List.filterMap_map]
  exact (fm_congr (g := some) _ fun x _ => rfl).trans (List.filterMap_some ..)
theorem order_perm {es : Array (Int × Value)} {order : Array Nat} (hp : order.toList.Perm (List.range es.size)) : (order.filterMap (es[·]?)).toList.Perm es.toList := by
  rw [Array.toList_filterMap]
  exact (hp.filterMap _).trans (by rw [range_get])
section
variable {P : Program} {w : World} {A : Around} {E : Value → Shared → Prop} {s : Shared} {a o r : Addr} {S T R : Str → Bool} {n m k : Nat}
theorem size_tab : ∀ n, n < 13 → 5 ≤ n → MaskS (SetTable.sizeAbove ((0 + n) * 2) - 1) ∧ (8 ≤ n → SetTable.sizeAbove ((0 + n) * 2) - 1 = 31) ∧ ¬ SetTable.sizeAbove ((0 + n) * 2) > sizeLine := by
  intro n hn h5
  have key : ∀ n ∈ List.range 13, 5 ≤ n → (SetTable.sizeAbove ((0 + n) * 2) - 1 = 7 ∨ SetTable.sizeAbove ((0 + n) * 2) - 1 = 15 ∨ SetTable.sizeAbove ((0 + n) * 2) - 1 = 31) ∧ (8 ≤ n → SetTable.sizeAbove ((0 + n) * 2) - 1 = 31) ∧ ¬ SetTable.sizeAbove ((0 + n) * 2) > sizeLine := by decide +kernel
  exact key n (List.mem_range.mpr hn) h5
theorem room_at {led : Bool} (h4 : 4 ≤ n) (h12 : n ≤ 12) (hr : s.heap.get? r = some { cls := .type "set", dict := none, data := .set #[] 0 (.fresh 0 0 led) }) {Q : Unit → Shared → Prop}
    (h : ∀ (h' : Heap) (M ep : Nat) (t : SetTable), MaskS M → (8 ≤ n → M = 31) → Heap.SameBut r s.heap h' → h'.get? r = some { cls := .type "set", dict := none, data := .set #[] ep t } → t.mask = M → t.place = #[] → t.dummies = #[] → Q () { s with heap := h' }) :
    wpAny (model P w) A (setRoomFor r n) Q E s := by
  have hf0 : (SetTable.fresh 0 0 led).fits (#[] : Array (Int × Value)).size = true := by cases led <;> rfl
  unfold setRoomFor
  refine wpAny_bind (wpAny_setState_of hr rfl hf0 ?_)
  dsimp only
  have e0 : (SetTable.fresh 0 0 led).roomFor n = if (0 + n) * 5 ≥ 7 * 3 then some ((0 + n) * 2) else none := rfl
  rw [e0]
  by_cases h5 : n = 4
  · subst h5
    rw [if_neg (by decide)]
    exact wpAny_pure (h s.heap 7 0 _ (.inl rfl) (by omega) (Heap.SameBut.refl r s.heap) hr rfl rfl rfl)
  · rw [if_pos (by omega)]
    dsimp only
    obtain ⟨m1, m2, m3⟩ := size_tab n (by omega) (by omega)
    rw [setRelay_eq]
    refine wpAny_bind (wpAny_setState_of hr rfl hf0 ?_)
    dsimp only
    refine wp_if_neg m3 ?_
    obtain ⟨t, order, e1, e2, e3, e4, e5, e6, e7⟩ := laid_ok m1 ((#[] : Array (Int × Value)).map (·.1)) (by simp) (SetTable.fresh 0 0 led).finger ((SetTable.fresh 0 0 led).movedTo (SetTable.sizeAbove ((0 + n) * 2) - 1)) (SetTable.fresh 0 0 led).led (SetTable.fresh 0 0 led).plain
    have e8 : (SetTable.fresh 0 0 led).relaid ((#[] : Array (Int × Value)).map (·.1)) ((0 + n) * 2) = some (t, order) := e1
    have hes : order.filterMap ((#[] : Array (Int × Value))[·]?) = #[] := by
      have p := order_perm (es := (#[] : Array (Int × Value))) (order := order) (by simpa using e7)
      have := p.length_eq
      exact Array.eq_empty_of_size_eq_zero (by simpa using this)
    rw [e8]
    dsimp only
    rw [hes]
    refine wpAny_bind ?_
    refine wp_if_neg (by simp) (wpAny_pure ?_)
    have hfit : t.fits (#[] : Array (Int × Value)).size = true := by
      unfold SetTable.fits SetTable.fill
      rw [e3, e4]
      simp
    refine wpAny_storeSet_of hr rfl ?_
    obtain ⟨hg, _⟩ := SetOf_store (knd := strKind P w) (S' := fun _ => false) (es' := #[]) (t' := t) hr ⟨rfl, rfl, rfl⟩ rfl (fun e he => by simp at he) (fun z => by simp) (by decide) hfit
    exact h _ _ _ t m1 m2 (Heap.SameBut.update s.heap r _) hg e2 (Array.eq_empty_of_size_eq_zero (by rw [e4]; simp)) e3
theorem merge_at {led : Bool} (h1 : TSet P w s.heap a S n) (h4 : 4 ≤ n) (h12 : n ≤ 12) (hr : s.heap.get? r = some { cls := .type "set", dict := none, data := .set #[] 0 (.fresh 0 0 led) }) (nra : r ≠ a) {Q : Unit → Shared → Prop}
    (h : ∀ (h' : Heap) (M : Nat), MaskS M → (8 ≤ n → M = 31) → Heap.SameBut r s.heap h' → TM P w h' r S n M 0 → Q () { s with heap := h' }) : wpAny (model P w) A (setMerge r a) Q E s := by
  obtain ⟨oa, es, ep, t, ho, hex, hd, hel, hmem, hlt, hf, hn⟩ := id h1
  unfold setMerge
  refine wp_if_neg (by simpa using nra) ?_
  refine wpAny_bind (wpAny_setState_of ho hd hf ?_)
  dsimp only
  refine wp_if_neg (by rw [Array.isEmpty_iff_size_eq_zero]; omega) ?_
  have kp0 : ∀ h' : Heap, Heap.SameBut r s.heap h' → h'.get? a = some oa := fun h' sb => (sb.2 a nra.symm).trans ho
  refine wpAny_bind (room_at (n := es.size) (by omega) (by omega) hr fun h' M ep' ts hM hM8 sb hr' t1 t2 t3 => ?_)
  have hfs : ts.fits (#[] : Array (Int × Value)).size = true := by
    unfold SetTable.fits SetTable.fill
    rw [t2, t3]
    simp
  refine wpAny_bind (wpAny_setState_of (s := { s with heap := h' }) hr' rfl hfs ?_)
  dsimp only
  have hroad : ts.road t = if (ts.mask == t.mask && t.dummies.isEmpty) = true then .slotForSlot else .clean := by
    unfold SetTable.road SetTable.fill
    rw [t2, t3]
    rfl
  by_cases c : (ts.mask == t.mask && t.dummies.isEmpty) = true
  · rw [hroad, if_pos c]
    dsimp only
    obtain ⟨c1, c2⟩ := Bool.and_eq_true_iff.mp c
    refine wpAny_storeSet_of (s := { s with heap := h' }) hr' rfl ?_ (fits_of_scanBound hlt)
    have hft : ({ t with finger := ts.finger, led := ts.led && t.led, moves := ts.moves, plain := ts.plain && t.plain } : SetTable).fits es.size = true := by cases t; exact hf
    obtain ⟨hg, hS⟩ := SetOf_store (knd := strKind P w) (S' := S) (es' := es) (t' := { t with finger := ts.finger, led := ts.led && t.led, moves := ts.moves, plain := ts.plain && t.plain }) hr' ⟨rfl, rfl, rfl⟩ rfl hel hmem hlt hft
    refine h _ M hM (fun q => hM8 (by omega)) (sb.trans (Heap.SameBut.update h' r _)) ⟨_, es, _, _, hg, ⟨rfl, rfl, rfl⟩, rfl, hel, hmem, hlt, hft, hn, (beq_iff_eq.mp c1).symm.trans t1, ?_⟩
    rw [Array.isEmpty_iff_size_eq_zero] at c2
    exact Nat.le_of_eq c2
  · rw [hroad, if_neg c]
    dsimp only
    rw [t1]
    obtain ⟨tn, order, e1, e2, e3, e4, e5, e6, e7⟩ := laid_ok hM (es.map (·.1)) (by rw [Array.size_map]; rcases hM with z | z | z <;> omega) ts.finger ts.moves (ts.led && t.led) (ts.plain && t.plain)
    rw [e1]
    rw [Array.size_map] at e4 e7
    have hp := order_perm e7
    have hsz : (order.filterMap (es[·]?)).size = es.size := by
      have := hp.length_eq
      rwa [Array.length_toList, Array.length_toList] at this
    refine wpAny_bind ?_
    show wpAny _ _ (if ((order.filterMap (es[·]?)).size != es.size) = true then (unsupported "internal:set-table-lost-an-element" >>= fun _ => pure (order.filterMap (es[·]?), tn)) else pure (order.filterMap (es[·]?), tn)) _ _ _
    refine wp_if_neg (by rw [hsz]; simp) (wpAny_pure ?_)
    dsimp only
    have hel' : ElemsOf (strKind P w) (order.filterMap (es[·]?)).toList := hel.perm hp
    have hmem' : ∀ z, S z = true ↔ ∃ e ∈ (order.filterMap (es[·]?)).toList, (strKind P w).is z e.2 = true := fun z => (hmem z).trans ⟨fun ⟨e, he, q⟩ => ⟨e, hp.mem_iff.mpr he, q⟩, fun ⟨e, he, q⟩ => ⟨e, hp.mem_iff.mp he, q⟩⟩
    have hft : tn.fits (order.filterMap (es[·]?)).size = true := by
      unfold SetTable.fits SetTable.fill
      rw [e2, e3, e4, hsz]
      simp
      rcases hM with z | z | z <;> omega
    refine wpAny_storeSet_of (s := { s with heap := h' }) hr' rfl ?_ (fits_of_scanBound (by rw [hsz]; exact hlt))
    obtain ⟨hg, hS⟩ := SetOf_store (knd := strKind P w) (S' := S) (es' := order.filterMap (es[·]?)) (t' := tn) hr' ⟨rfl, rfl, rfl⟩ rfl hel' hmem' (by rw [hsz]; exact hlt) hft
    exact h _ M hM (fun q => hM8 (by omega)) (sb.trans (Heap.SameBut.update h' r _)) ⟨_, _, _, tn, hg, ⟨rfl, rfl, rfl⟩, rfl, hel', hmem', by rw [hsz]; exact hlt, hft, hsz.trans hn, e2, by rw [e3]; exact Nat.le_refl _⟩
theorem new_set {Q : Value → Shared → Prop} (h : ∀ led : Bool, Q (.ref s.heap.objs.size) { s with heap := s.heap.push { cls := .type "set", dict := none, data := .set #[] 0 (.fresh 0 0 led) } }) : wpAny (model P w) A (newSet (.type "set")) Q E s :=
  wpAny_newSet_of (knd := strKind P w) fun led _ => h led
/-- the walk over a set that is not the changed one -/
theorem walk_seen (h1 : TSet P w s.heap a S n) (h3 : TSet P w s.heap r R k) {Q : Array (Int × Value) → Shared → Prop}
    (h : ∀ (arr : Array (Int × Value)) (d : Drawn), Walked P w S arr.toList → arr.size = n → Q arr { s with drawn := d }) :
    wpAny (model P w) A (setWalkUnseen a [r] none) Q E s := by
  obtain ⟨oa, es, ep, t, ho, hex, hd, hel, hmem, hlt, hf, hn⟩ := id h1
  unfold setWalkUnseen
  refine wpAny_bind (wpAny_setState_of ho hd hf ?_)
  dsimp only
  refine wpAny_bind (wpAny_byText ?_)
  by_cases c : (w.params.followText "set-order" || (t.led && t.plain) || decide (es.size ≤ 1)) = true
  · rw [if_pos c]
    unfold setWalk
    refine wpAny_bind (wpAny_setState_of ho hd hf ?_)
    dsimp only
    refine wpAny_bind (wpAny_byText ?_)
    by_cases hbt : w.params.followText "set-order" = true
    · refine wp_if_pos hbt ?_
      refine wpAny_bind (wpAny_askSetting (wpAny_pure ?_))
      exact h _ s.drawn (walked_of hel hmem hlt (pick_perm _ es)) (by rw [← Array.length_toList, (pick_perm _ es).length_eq, Array.length_toList]; exact hn)
    · refine wp_if_neg hbt ?_
      by_cases hdr : (!t.plain && decide (es.size > 1)) = true
      · refine wp_if_pos hdr ?_
        refine wpAny_bind (drawOrder_at _ _ _ _ (by rw [Array.length_toList]; exact Nat.le_refl _) fun ys d hy => ?_)
        exact wpAny_pure (h _ d (walked_of hel hmem hlt hy) (by rw [List.size_toArray, hy.length_eq, Array.length_toList]; exact hn))
      · refine wp_if_neg hdr ?_
        have hled : ¬ (!t.led && decide (es.size > 1)) = true := by
          intro z
          simp only [Bool.and_eq_true, Bool.not_eq_true', decide_eq_true_eq] at z
          simp only [Bool.or_eq_true, Bool.and_eq_true, decide_eq_true_eq] at c
          rcases c with (c | c) | c
          · exact hbt c
          · rw [c.1] at z
            cases z.1
          · omega
        refine wpAny_bind (wpAny_of_eq (a := ()) ?_ ?_)
        · show (if (!t.led && decide (es.size > 1)) = true then unsupported "set:maker-not-led" else pure ()) = pure ()
          rw [if_neg hled]
        · exact wpAny_pure (h _ s.drawn (walked_of hel hmem hlt (List.Perm.refl _)) hn)
  · rw [if_neg c]
    refine wpAny_bind (quiet_texts2 h1 h3 ?_)
    refine wp_if_neg (by simp) ?_
    refine wpAny_bind (wpAny_rule ?_)
    exact wpAny_pure (h es s.drawn (walked_of hel hmem hlt (List.Perm.refl _)) hn)
theorem erase_list {α : Type} (xs : Array α) (j : Nat) : (SetTable.eraseAt xs j).toList = xs.toList.take j ++ xs.toList.drop (j + 1) := by
  unfold SetTable.eraseAt
  rw [Array.toList_append, Array.toList_extract, Array.toList_extract]
  simp [List.extract_eq_drop_take, List.take_of_length_le]
theorem erase_size {α : Type} (xs : Array α) {j : Nat} (h : j < xs.size) : (SetTable.eraseAt xs j).size + 1 = xs.size := by
  rw [← Array.length_toList, erase_list, List.length_append, List.length_take, List.length_drop, Array.length_toList]
  omega
theorem insert_size {α : Type} (xs : Array α) (j : Nat) (x : α) (h : j ≤ xs.size) : (SetTable.insertAt xs j x).size = xs.size + 1 := by
  unfold SetTable.insertAt
  simp
  omega
theorem below_le (xs : Array Nat) (j : Nat) : SetTable.below xs j ≤ xs.size := by
  have go : ∀ f lo hi, lo ≤ hi → hi ≤ xs.size → SetTable.below.go xs j f lo hi ≤ xs.size := by
    intro f
    induction f with
    | zero =>
      intro lo hi h1 h2
      unfold SetTable.below.go
      omega
    | succ f ih =>
      intro lo hi h1 h2
      unfold SetTable.below.go
      split
      · dsimp only
        split
        · exact ih _ _ (by omega) h2
        · exact ih _ _ (by omega) (by omega)
      · omega
  exact go _ _ _ (Nat.zero_le _) (Nat.le_refl _)
/-- one more is taken out, perhaps -/
theorem discard_at {M c : Nat} {z : Str} {t : Tok} (h1 : TM P w s.heap r R k M c) {Q : Bool → Shared → Prop}
    (h : ∀ (b : Bool) (h' : Heap) (R' : Str → Bool) (k' : Nat), Heap.SameBut r s.heap h' → TM P w h' r R' k' M (c + 1) → k ≤ k' + 1 → Q b { s with heap := h' }) :
    wpAny (model P w) A (setDiscardHashed r (.str z t) ((strKind P w).hash z)) Q E s := by
  obtain ⟨o, es, ep, tb, ho, hex, hd, hel, hmem, hlt, hf, hn, hM, hc⟩ := id h1
  unfold setDiscardHashed setFind setFindIn
  refine wpAny_bind (wpAny_bind (wpAny_setState_of ho hd hf ?_))
  dsimp only
  rw [byScan_of (knd := strKind P w) rfl hlt hel]
  simp only [↓reduceIte]
  refine wpAny_bind (wpAny_rule ?_)
  refine wpAny_bind (wpAny_setScan_of (knd := strKind P w) (k := z) (strKind_is _ _ _ _) ho hd hf hel ?_)
  cases hr : List.findIdx? (fun e => (strKind P w).is z e.2) es.toList with
  | none =>
    dsimp only
    refine wpAny_pure (wpAny_pure ?_)
    exact h false s.heap R k (Heap.SameBut.refl r s.heap) ⟨o, es, ep, tb, ho, hex, hd, hel, hmem, hlt, hf, hn, hM, Nat.le_succ_of_le hc⟩ (Nat.le_succ _)
  | some j =>
    dsimp only
    obtain ⟨hj, _, _⟩ := List.findIdx?_eq_some_iff_getElem.mp hr
    rw [Array.length_toList] at hj
    rw [Nat.zero_add]
    refine wpAny_pure ?_
    dsimp only
    refine wpAny_bind (wpAny_setState_of ho hd hf ?_)
    dsimp only
    have hsz := erase_size es hj
    obtain ⟨p1, p2⟩ : tb.place.size = es.size ∧ tb.fill ≤ tb.mask := by
      simp only [SetTable.fits, Bool.and_eq_true, beq_iff_eq, decide_eq_true_eq] at hf
      exact hf
    have hjp : j < tb.place.size := by omega
    have hdrop : tb.drop j = { tb with place := SetTable.eraseAt tb.place j, dummies := SetTable.insertAt tb.dummies (SetTable.below tb.dummies tb.place[j]) tb.place[j] } := by
      unfold SetTable.drop
      rw [Array.getElem?_eq_getElem hjp]
    have hdz : (tb.drop j).dummies.size = tb.dummies.size + 1 := by
      rw [hdrop]
      exact insert_size _ _ _ (below_le _ _)
    have hpz : (tb.drop j).place.size + 1 = tb.place.size := by
      rw [hdrop]
      exact erase_size _ hjp
    have hmz : (tb.drop j).mask = tb.mask := by rw [hdrop]
    have hfit : (tb.drop j).fits (SetTable.eraseAt es j).size = true := by
      unfold SetTable.fits SetTable.fill
      unfold SetTable.fill at p2
      simp only [Bool.and_eq_true, beq_iff_eq, decide_eq_true_eq]
      rw [hmz]
      omega
    have hlt' : (SetTable.eraseAt es j).size < scanBound := by omega
    have hel' : ElemsOf (strKind P w) (SetTable.eraseAt es j).toList := fun e he => by
      rw [erase_list] at he
      refine hel e ?_
      rcases List.mem_append.mp he with q | q
      · exact List.mem_of_mem_take q
      · exact List.mem_of_mem_drop q
    refine wpAny_bind (wpAny_storeSet_of ho hd ?_ (fits_of_scanBound hlt'))
    refine wpAny_bind (wpAny_point (wpAny_pure ?_))
    have hmem' : ∀ y, (SetTable.eraseAt es j).toList.any (fun e => (strKind P w).is y e.2) = true ↔ ∃ e ∈ (SetTable.eraseAt es j).toList, (strKind P w).is y e.2 = true := fun y => by rw [List.any_eq_true]
    obtain ⟨hg, _⟩ := SetOf_store (knd := strKind P w) (S' := fun y => (SetTable.eraseAt es j).toList.any fun e => (strKind P w).is y e.2) (t' := tb.drop j) ho hex hd hel' hmem' hlt' hfit
    exact h true _ _ (SetTable.eraseAt es j).size (Heap.SameBut.update s.heap r _) ⟨_, _, _, _, hg, hex, rfl, hel', hmem', hlt', hfit, rfl, hmz.trans hM, by omega⟩ (by omega)
/-- all of another set are taken out of the set at r -/
theorem update_at {M : Nat} {id' : String} (h1 : TM P w s.heap r R k M 0) (h2 : TSet P w s.heap o T m) (nro : o ≠ r) (hmk : ¬ m / 8 > k) (hM : m ≤ M / 4) {Q : Unit → Shared → Prop}
    (h : ∀ (h' : Heap) (R' : Str → Bool) (k' : Nat) (d : Drawn) (t : Nat), Heap.SameBut r s.heap h' → TSet P w h' r R' k' → k ≤ k' + m → Q () { s with heap := h', drawn := d, toks := t }) :
    wpAny (model P w) A (Builtin.Frozenset.differenceUpdate id' r (.ref o)) Q E s := by
  unfold Builtin.Frozenset.differenceUpdate
  refine wp_if_neg (by simpa using nro) ?_
  refine wpAny_bind (any_set h2 ?_)
  dsimp only
  refine wp_if_pos rfl ?_
  refine wpAny_bind (m := Builtin.Frozenset.addrOf (.ref o)) (wpAny_pure ?_)
  refine wpAny_bind (size_of h2 ?_)
  refine wpAny_bind (size_of h1.t ?_)
  refine wp_if_neg hmk ?_
  refine wpAny_bind (epoch_of h2 fun ep unch => ?_)
  refine wpAny_bind (wpAny_holding ?_)
  refine wpAny_bind (walk_seen h2 h1.t fun arr d wk hsz => ?_)
  refine wpAny_bind (wpAny_forIn_array' _ (fun rest b s' => (∀ e ∈ rest, ∃ z t, e.2 = Value.str z t ∧ e.1 = (strKind P w).hash z ∧ T z = true) ∧ ∃ (hh : Heap) (tk : Nat) (R' : Str → Bool) (k' c : Nat), s' = { s with heap := hh, drawn := d, toks := tk } ∧
      Heap.SameBut r s.heap hh ∧ TM P w hh r R' k' M c ∧ c + rest.length ≤ m ∧ k ≤ k' + c) _ ?_ ?_ _ _ ?_)
  · rintro ⟨hv, x⟩ rest b s' ⟨he, hh, tk, R', k', c, rfl, sb, gR, hc, hk⟩
    obtain ⟨z, t, e2, e1, hz⟩ := he _ List.mem_cons_self
    dsimp only at e2 e1
    subst e2 e1
    rw [List.length_cons] at hc
    refine wpAny_bind (wpAny_holding ?_)
    refine discard_at (s := { s with heap := hh, drawn := d, toks := tk }) gR fun b2 h' R2 k2 sb2 g2 hk2 => ?_
    have sb3 := sb.trans sb2
    have u1 := @unch { s with heap := h', drawn := d, toks := tk } (fun u e => (sb3.2 o nro).trans e)
    exact wpAny_bind (u1 _ (wpAny_pure ⟨fun e h => he e (List.mem_cons_of_mem _ h), h', tk, R2, k2, c + 1, rfl, sb3, g2, by omega, by omega⟩))
  · rintro b s' ⟨_, hh, tk, R', k', c, rfl, sb, gR, hc, hk⟩
    refine wpAny_pure ?_
    obtain ⟨o', es, ep', tb, ho, hex, hd, hel, hmem, hlt, hf, hn, hMm, hcc⟩ := id gR
    unfold setTidy
    refine wpAny_bind (wpAny_setState_of (s := { s with heap := hh, drawn := d, toks := tk }) ho hd hf ?_)
    dsimp only
    rw [List.length_nil] at hc
    refine wp_if_neg ?_ (wpAny_pure (h hh R' k' d tk sb gR.t (by omega)))
    unfold SetTable.tooManyDummies
    rw [hMm]
    simp
    omega
  · refine ⟨wk.1, s.heap, s.toks, R, k, 0, rfl, Heap.SameBut.refl r s.heap, h1, ?_, Nat.le_add_right _ _⟩
    rw [Array.length_toList, hsz]
    omega
/-- where the first set is much larger -/
theorem diff_far {id' : String} (h1 : TSet P w s.heap a S n) (h2 : TSet P w s.heap o T m) (hnm : n / 4 > m) (h12 : n ≤ 12) {Q : Value → Shared → Prop}
    (h : ∀ (p : Addr) (R : Str → Bool) (j : Nat) (h' : Heap) (d : Drawn) (t : Nat), s.heap.get? p = none → (∀ b u, s.heap.get? b = some u → h'.get? b = some u) → TSet P w h' p R j → n ≤ j + m → Q (.ref p) { s with heap := h', drawn := d, toks := t }) :
    wpAny (model P w) A (Builtin.Frozenset.difference id' a (.ref o)) Q E s := by
  unfold Builtin.Frozenset.difference
  dsimp only
  refine wpAny_bind (any_set h2 ?_)
  refine wp_if_neg (by simp) ?_
  refine wpAny_bind (m := Builtin.Frozenset.addrOf (.ref o)) (wpAny_pure ?_)
  refine wp_if_neg (by simp) ?_
  refine wp_if_pos rfl ?_
  refine wpAny_bind (size_of h2 ?_)
  refine wpAny_bind (size_of h1 ?_)
  refine wp_if_pos hnm ?_
  refine wpAny_bind (wpAny_rule ?_)
  unfold Builtin.Frozenset.copyOf
  refine wpAny_bind (wpAny_bind (base_of h1 ?_))
  refine wpAny_bind (new_set fun led => ?_)
  have hlt1 := h1.lt
  have hlt2 := h2.lt
  have hnew : s.heap.get? s.heap.objs.size = none := Heap.get?_none_of_le (Nat.le_refl _)
  have hget : (s.heap.push { cls := .type "set", dict := none, data := .set #[] 0 (.fresh 0 0 led) }).get? s.heap.objs.size = some { cls := .type "set", dict := none, data := .set #[] 0 (.fresh 0 0 led) } := Heap.get?_push_size _ rfl
  generalize hr : s.heap.objs.size = r at *
  refine wpAny_bind (m := Builtin.Frozenset.addrOf (.ref r)) (wpAny_pure ?_)
  have kp : ∀ b u, s.heap.get? b = some u → (s.heap.push { cls := .type "set", dict := none, data := .set #[] 0 (.fresh 0 0 led) }).get? b = some u := fun b u e => Heap.get?_push_of_some _ e
  generalize s.heap.push { cls := .type "set", dict := none, data := .set #[] 0 (.fresh 0 0 led) } = hp at *
  have g1 : TSet P w hp a S n := h1.keep fun u e => kp _ _ e
  have g2 : TSet P w hp o T m := h2.keep fun u e => kp _ _ e
  have nra : r ≠ a := (Nat.ne_of_lt hlt1).symm
  have nro : o ≠ r := Nat.ne_of_lt hlt2
  refine wpAny_bind (merge_at (s := { s with heap := hp }) g1 (by omega) h12 hget nra fun h' M hM hM8 sb gM => ?_)
  refine wpAny_pure ?_
  refine wpAny_bind (m := Builtin.Frozenset.addrOf (.ref r)) (wpAny_pure ?_)
  have g2' : TSet P w h' o T m := g2.keep fun u e => (sb.2 o nro).trans e
  have hmM : m ≤ M / 4 := by
    rcases hM with z | z | z
    · by_cases q : 8 ≤ n
      · rw [hM8 q]
        omega
      · omega
    · omega
    · omega
  refine wpAny_bind (wpAny_holding (update_at (s := { s with heap := h' }) gM g2' nro (by omega) hmM fun h2 R' k' d t sb2 gR hk => ?_))
  refine wpAny_pure (h r R' k' h2 d t hnew (fun b u e => ?_) gR hk)
  have nb : b ≠ r := fun z => by
    rw [z, hnew] at e
    cases e
  exact (sb2.2 b nb).trans ((sb.2 b nb).trans (kp b u e))
end
end Qk
set_option maxRecDepth 100000
set_option maxHeartbeats 4000000
namespace Qk
open PySem PySem.Spec PyProof.Rows L2
/-! ### sets of texts over the layer -/
def SetX (P : Program) (w : World) (a : Addr) (S : Str → Bool) (n : Nat) : HO := .ext fun h => TSet P w h a S n
theorem setX_new {P : Program} {w : World} {H : Hp} {h : Heap} {a : Addr} {S : Str → Bool} {n : Nat} (R : TSet P w h a S n) : ObjOk P w H h a (SetX P w a S n) := by
  have ⟨o, _, _, _, ho, _⟩ := R
  exact ⟨R, ⟨o, ho⟩, fun h1 h2 p k => TSet.keep p fun u e => k u e⟩
theorem entry_set_sub : entryFor table "set.__sub__" = some Builtin.«frozenset.__sub__» :=
  entryFor_alias (id' := "frozenset.__sub__") (by kernel_rfl) rfl (by decide +kernel) (by kernel_rfl)
section
variable {P : Program} {w : World} {A : Around} {E : Value → Shared → Prop} {s : Shared} {a o : Addr} {S T : Str → Bool} {n m : Nat}
theorem sub_call (h1 : TSet P w s.heap a S n) (h2 : TSet P w s.heap o T m) {Q : Value → Shared → Prop} (h : ∀ {A : Around} {E : Value → Shared → Prop} (id' : String), wpAny (model P w) A (Builtin.Frozenset.difference id' a (.ref o)) Q E s) :
    wpAny (model P w) A (call (.builtin "set.__sub__") [.ref a, .ref o]) Q E s := by
  refine wpAny_call_entry PySem.F.slot_set_sub h1.typeIs entry_set_sub ?_ (PySem.F.args_set_sub_2 _ _)
  unfold Builtin.«frozenset.__sub__»
  show wpAny (model P w) A.in1 (do
    let (self, other) ← Builtin.Frozenset.slot1 "__sub__" ⟨[.ref a, .ref o], []⟩
    let (l, r) := if false then (other, self) else (self, other)
    if !(← (Builtin.Frozenset.isAnySet l <&&> Builtin.Frozenset.isAnySet r)) then
      rule s!"frozenset.{"__sub__"}.declined"
      return ← ret .notImplemented
    ret (← Builtin.Frozenset.difference s!"frozenset.{"__sub__"}" (← Builtin.Frozenset.addrOf l) r)) _ _ _
  refine wpAny_bind (wpAny_of_eq (a := ((Value.ref a : Value), (Value.ref o : Value))) (by first | rfl | (simp only [Builtin.Frozenset.slot1, slotArgs]; rfl)) ?_)
  dsimp only
  refine wpAny_bind ?_
  unfold andM
  refine wpAny_bind (any_set h1 ?_)
  refine any_set h2 ?_
  refine wp_if_neg (by simp) ?_
  refine wpAny_bind (m := Builtin.Frozenset.addrOf (.ref a)) (wpAny_pure ?_)
  refine wpAny_bind (wpAny_mono (h _) (fun v s' hv => ?_) fun _ _ z => z)
  exact wpAny_pure ⟨_, rfl, hv⟩
end
/-- one - other, sets of texts -/
def rSub (P : Program) (w : World) : R2 := fun x y H Q => ∃ (a b : Addr) (S T : Str → Bool) (n m : Nat), x = .ref a ∧ y = .ref b ∧ H a = some (SetX P w a S n) ∧ H b = some (SetX P w b T m) ∧ n ≤ 12 ∧ ((∀ z, S z = true → T z = true) → n ≤ m) ∧
  ∀ (p : Addr) (U : Str → Bool) (j : Nat), H p = none → (j = 0 ↔ ∀ z, S z = true → T z = true) → Q (.ref p) (upd H p (SetX P w p U j))
section
variable {X : Cx}
theorem op_subX : OpR X (binaryOp .Sub) (rSub X.prog X.w) := by
  intro pins s σ H x y v u Q I rx ry h
  obtain ⟨a, b, S, T, n, m, rfl, rfl, ha, hb, h12, hc, q⟩ := h
  cases rx
  cases ry
  have h1 : TSet X.prog X.w s.heap a S n := (I.hok a _ ha).1
  have h2 : TSet X.prog X.w s.heap b T m := (I.hok b _ hb).1
  refine wpAny_binaryOp_same (T := "set") h1.typeIs h2.typeIs PySem.F.fills_set_sub PySem.F.slot_set_sub (sub_call h1 h2 fun id' => ?_)
  have fin : ∀ (p : Addr) (U : Str → Bool) (j : Nat) (h' : Heap) (d : Drawn) (t : Nat), s.heap.get? p = none → (∀ b u, s.heap.get? b = some u → h'.get? b = some u) → TSet X.prog X.w h' p U j → (j = 0 ↔ ∀ z, S z = true → T z = true) →
      Value.ref p ≠ .notImplemented ∧ EP X pins σ Q (.ref p) { s with heap := h', drawn := d, toks := t } := fun p U j h' d t hp k g e => by
    have hn : H p = none := I.hok.gone hp
    have J : Inv X pins σ (upd H p (SetX X.prog X.w p U j)) { s with heap := h', toks := t } := I.laidN k hp hn (setX_new g)
    exact ⟨(by intro z; cases z), .ref p, _, ⟨J.ok, J.os, J.bare, J.base, J.loc, J.cell, J.free, J.freeC, J.pin, J.hok, J.len⟩, rfl, q p U j hn e⟩
  by_cases c : n / 4 > m
  · refine diff_far h1 h2 c h12 fun p U j h' d t hp k g hj => fin p U j h' d t hp k g ⟨fun z => ?_, fun z => ?_⟩
    · omega
    · have := hc z
      omega
  · refine diff_near h1 h2 c fun p j h' d t hp k g => fin p _ j h' d t hp k g ?_
    obtain ⟨o, es, ep, tb, g1, g2, g3, g4, g5, g6, g7, g8⟩ := g
    constructor
    · intro z y hy
      cases hT : T y with
      | true => rfl
      | false =>
        obtain ⟨e, he, _⟩ := (g5 y).mp (by show (S y && !T y) = true; rw [hy, hT]; rfl)
        have := List.length_pos_of_mem he
        rw [Array.length_toList] at this
        omega
    · intro z
      rcases Nat.eq_zero_or_pos j with r | r
      · exact r
      · exfalso
        have hl : 0 < es.toList.length := by rw [Array.length_toList]; omega
        obtain ⟨⟨y, hy, _⟩, _⟩ := g4 _ (List.getElem_mem hl)
        have : (S y && !T y) = true := (g5 y).mpr ⟨_, List.getElem_mem hl, hy⟩
        rw [Bool.and_eq_true] at this
        rw [z y this.1] at this
        cases this.2
end
end Qk
set_option maxRecDepth 100000
set_option maxHeartbeats 4000000
namespace Qk
open PySem PySem.Spec PyProof.Rows L2
/-! ### set(xs) of a tuple of texts, len of it -/
section
variable {P : Program} {w : World} {A : Around} {R : Result → Shared → Prop} {I : Addr} {fp wr : List Addr} {G : Array GenState → Array GenState → Prop} {n : Nat} {Pv : Nat → Value → Prop} {St : Nat → Shared → Prop}
/-- what stands after i turns -/
def Fill (P : Program) (w : World) (xs : List Str) (S : Addr) (i : Nat) (h : Heap) : Prop := ∃ j, TSet P w h S (fun z => decide (z ∈ xs.take i)) j ∧ j ≤ i ∧ (xs.Nodup → j = i) ∧ (j = i → (xs.take i).Nodup)
theorem fill_loop (W : WalksS P w A.in1 I fp wr G n Pv St) (S : Addr) (hSf : S ∉ fp) (xs : List Str) (hsz : xs.length = n) (hn1 : n ≤ 1000) (hval : ∀ i v, Pv i v → ∃ t, v = .str (xs.getD i Str.empty) t) :
    ∀ (k i : Nat) (s : Shared), n - i = k → i ≤ n → St i s → Fill P w xs S i s.heap → (∀ s', Moved (S :: wr) G s s' → Fill P w xs S n s'.heap → R (.ok (.ret .none)) s') →
      codeAny (model P w) A (.builtin "set.update.loop" ⟨[.ref S, .ref I], []⟩) R s := by
  have hSw : S ∉ wr := fun h => hSf (W.sub _ h)
  have hsub : ∀ b ∈ wr, b ∈ S :: wr := fun b hb => List.mem_cons_of_mem _ hb
  have same : ∀ {s s' : Shared} {i : Nat}, Moved wr G s s' → Fill P w xs S i s.heap → Fill P w xs S i s'.heap := fun hm ⟨j, g, q⟩ => ⟨j, g.keep fun u e => hm.heap S _ hSw e, q⟩
  intro k
  induction k with
  | zero =>
    intro i s hk hi hst hS hR
    obtain rfl : i = n := by omega
    refine codeAny_builtin PyProof.Rows.F.entry_set_update_loop ?_
    rw [Around.under_plainId PyProof.Rows.F.plain_set_update_loop _]
    exact wpAny_bind (m := pyNext (.ref I)) (W.done s _ _ hst fun s' hm => wpAny_pure (hR s' (hm.mono hsub) (same hm hS)))
  | succ k ih =>
    intro i s hk hi hst hS hR
    have hlt : i < n := by omega
    refine codeAny_builtin PyProof.Rows.F.entry_set_update_loop ?_
    rw [Around.under_plainId PyProof.Rows.F.plain_set_update_loop _]
    refine wpAny_bind (m := pyNext (.ref I)) (W.item i s _ _ hlt hst fun v s' hP hst' hm => ?_)
    obtain ⟨t, rfl⟩ := hval i v hP
    obtain ⟨j, g, hj, hnd, hdn⟩ := same hm hS
    show wpAny _ A.in1 (holding [Value.str (xs.getD i Str.empty) t] (setAdd S (.str (xs.getD i Str.empty) t)) >>= _) _ _ s'
    refine wpAny_bind (wpAny_holding ?_)
    unfold setAdd
    refine wpAny_holding (wpAny_bind ((strKind P w).pyHash (k := xs.getD i Str.empty) (strKind_is _ _ _ _) ?_))
    refine wpAny_setAddHashed_of (knd := strKind P w) (s := { s' with toks := s'.toks + 1 }) (strKind_is _ _ _ _) rfl g (by unfold scanBound; omega) fun h' hsb g2 => ?_
    have hx : xs[i]? = some (xs.getD i Str.empty) := by
      rw [List.getD_eq_getElem?_getD, List.getElem?_eq_getElem (by omega)]
      rfl
    have ht : xs.take (i + 1) = xs.take i ++ [xs.getD i Str.empty] := by rw [List.take_add_one, hx]; rfl
    have g3 : Fill P w xs S (i + 1) h' := by
      refine ⟨_, SetOf_congr g2 (fun z => ?_) rfl, by split <;> omega, fun nd => ?_, fun e => ?_⟩
      · rw [ht]
        simp [Bool.decide_or]
      · have hni : xs.getD i Str.empty ∉ xs.take i := by
          have nd2 : (xs.take (i + 1)).Nodup := nd.sublist (List.take_sublist _ _)
          rw [ht] at nd2
          exact fun z => (List.nodup_append.mp nd2).2.2 _ z _ (List.mem_singleton.mpr rfl) rfl
        rw [if_neg (by simpa using hni), hnd nd]
      · split at e
        · omega
        · rename_i hni
          rw [ht, List.nodup_append]
          refine ⟨hdn (by omega), by simp, fun a ha b hb => ?_⟩
          rw [List.mem_singleton.mp hb]
          rintro rfl
          exact hni (by simpa using ha)
    refine wpAny_pure ⟨plainId_quiet PyProof.Rows.F.plain_set_update_loop _, ih (i + 1) _ (by omega) hlt (W.frame _ s' _ _ hst' (Nat.le_succ _) fun b hb o e => ?_) g3 fun s'' hm'' hS'' => ?_⟩
    · rw [hsb.2 b (fun h : b = S => hSf (by rw [← h]; exact hb))]
      exact e
    · refine hR s'' (Moved.trans W.gtrans ((hm.mono hsub).then_heap (Nat.le_succ _) fun b o hb e => ?_) hm'') hS''
      rw [hsb.2 b (fun h : b = S => hb (by rw [h]; exact List.mem_cons_self))]
      exact e
end
section
variable {P : Program} {w : World} {A : Around} {E : Value → Shared → Prop} {s : Shared}
set_option maxHeartbeats 3200000 in
theorem set_tuple {l : Addr} {items : Array Value} {xs : List Str} {Q : Value → Shared → Prop} (hh : A.handled = none) (hl : s.heap.IsTuple l items) (hi : PyProof.Rows.StrsAre items.toList xs) (hn1 : xs.length ≤ 1000)
    (h : ∀ (h' : Heap) (tk : Nat), Fill P w xs s.heap.objs.size items.size h' → (∀ b o, s.heap.get? b = some o → h'.get? b = some o) → Q (.ref s.heap.objs.size) { s with heap := h', toks := tk }) :
    wpAny (model P w) A (call (.type "set") [.ref l]) Q E s := by
  obtain ⟨c, tl, hmro⟩ := PySem.F.called_set.mro
  have hmade := PySem.F.called_set.made
  have hsub := PySem.F.called_set.sub
  refine wpAny_call (codeAny_of_tree ?_)
  show wpAny _ _ (callAny (.type "set") _) _ _ _
  refine wpAny_pure ⟨Code.quiet_builtin _ (by decide +kernel), codeAny_builtin PySem.F.entry_type_call ?_⟩
  rw [Around.under_plain (weight_type_call_type "set" [.ref l] []) rfl]
  have q1 := PySem.F.called_set.notType
  have q2 := PySem.F.called_set.canCreate
  have q3 := PySem.F.typeCall_set_1 (.ref l)
  repeat (any_goals (first | assumption | wp_step))
  obtain ⟨N, hN⟩ : ∃ N, N = s.heap.objs.size := ⟨_, rfl⟩
  refine codeAny_mono (code_set_new_1 (.ref l) (E := E) (Q₁ := fun v s₁ => ∃ led : Bool, v = .ref s.heap.objs.size ∧ s₁ = { s with heap := s.heap.push { cls := .type "set", dict := none, data := .set #[] 0 (.fresh 0 0 led) } }) fun led => ⟨led, rfl, rfl⟩) fun r s₁ hr => ?_
  cases r with
  | error e => exact hr
  | ok fl =>
    cases fl with
    | ret v =>
      obtain ⟨led, rfl, rfl⟩ := hr
      have hS : (s.heap.push { cls := .type "set", dict := none, data := .set #[] 0 (.fresh 0 0 led) }).get? s.heap.objs.size = some { cls := .type "set", dict := none, data := .set #[] 0 (.fresh 0 0 led) } := Heap.get?_push_size _ rfl
      have hT : Shared.TypeIs { s with heap := s.heap.push { cls := .type "set", dict := none, data := .set #[] 0 (.fresh 0 0 led) } } (.ref s.heap.objs.size) "set" := ⟨_, hS, rfl⟩
      have q4 := PySem.F.called_set.init.lookup
      have q5 := PySem.F.called_set.init.bind (.ref s.heap.objs.size)
      repeat (any_goals (first | assumption | wp_step))
      refine codeAny_mono (codeAny_call_builtin (R := wants (fun r s₂ => r = .none ∧ ∃ h' tk, s₂ = { s with heap := h', toks := tk } ∧ Fill P w xs s.heap.objs.size items.size h' ∧ (∀ b o, s.heap.get? b = some o → h'.get? b = some o)) E)
        PySem.F.called_set.init.plain PySem.F.entry_set_init (check_set_init_1 hT ?_)) fun r₂ s₂ hr₂ => ?_
      · have hlS : l < s.heap.objs.size := by
          obtain ⟨ol, hol, _⟩ := hl
          exact Heap.lt_size hol
        have hl1 : (s.heap.push { cls := .type "set", dict := none, data := .set #[] 0 (.fresh 0 0 led) }).IsTuple l items := hl.push _
        obtain ⟨ol, hol, hcl, nl, hdl⟩ := hl1
        obtain ⟨ocls, odict, odata, oslots⟩ := ol
        simp only at hcl hdl
        subst hcl; subst hdl
        have hol' := hol
        have q6 := PySem.F.sub_tuple_set
        have q7 := PySem.F.sub_tuple_frozenset
        have q8 : (Value.type "tuple" == Value.type "dict") = false := by decide
        have hl1 : (s.heap.push { cls := .type "set", dict := none, data := .set #[] 0 (.fresh 0 0 led) }).IsTuple l items := ⟨_, hol, rfl, nl, rfl⟩
        unfold Builtin.«set.__init__» noKeywords Builtin.Frozenset.updateFrom
        generalize hPI : pyIter = PI
        wp_walk
        subst hPI
        refine wpAny_pyIter_tuple hl1 ?_
        refine wpAny_bind (wpAny_runValue ?_)
        have hh3 : A.in1.in1.in1.handled = none := by simp [hh]
        have hps : (s.heap.push { cls := .type "set", dict := none, data := .set #[] 0 (.fresh 0 0 led) }).objs.size = s.heap.objs.size + 1 := Heap.size_push _ _
        have hneI : l ≠ (s.heap.push { cls := .type "set", dict := none, data := .set #[] 0 (.fresh 0 0 led) }).objs.size := by
          rw [hps]
          exact Nat.ne_of_lt (Nat.lt_succ_of_lt hlS)
        have hSf : s.heap.objs.size ∉ [(s.heap.push { cls := .type "set", dict := none, data := .set #[] 0 (.fresh 0 0 led) }).objs.size, l] := by
          rw [hps]
          simp only [List.mem_cons, List.not_mem_nil, or_false, not_or]
          exact ⟨Nat.ne_of_lt (Nat.lt_succ_self _), Nat.ne_of_gt hlS⟩
        have hsz : xs.length = items.size := by rw [← StrsAre.len_eq hi, Array.length_toList]
        have hval : ∀ (i : Nat) (v : Value), items[i]? = some v → ∃ t, v = .str (xs.getD i Str.empty) t := fun i v hv => SS.strs_at hi i v (by rw [Array.getElem?_toList]; exact hv)
        refine fill_loop ((Walks.tuple hh3 _ l hneI items).toS) s.heap.objs.size hSf xs hsz (by rw [← hsz]; exact hn1) hval (items.size - 0) 0 _ (by omega) (Nat.zero_le _)
          ⟨⟨_, Heap.get?_push_size _ rfl, rfl, rfl⟩, (hl1.push _)⟩ ?hS0 ?hR
        case hS0 =>
          have hget : ((s.heap.push { cls := .type "set", dict := none, data := .set #[] 0 (.fresh 0 0 led) }).push { cls := .type "tuple_iterator", data := .fields #[.ref l, .int 0 0] }).get? s.heap.objs.size
              = some { cls := .type "set", dict := none, data := .set #[] 0 (.fresh 0 0 led) } := Heap.get?_push_of_some _ hS
          exact ⟨0, SetOf_congr ((setObjOf_fresh (knd := strKind P w) led).setOf hget (by unfold scanBound; omega)) (fun z => by simp) rfl, Nat.le_refl _, fun _ => rfl, fun _ => by simp⟩
        case hR =>
          intro s' hm hF
          obtain ⟨h', g', d', tk', os'⟩ := s'
          have eg : g' = s.gens := hm.gens
          have ed : d' = s.drawn := hm.drawn
          have eo : os' = s.os := hm.os
          subst eg; subst ed; subst eo
          show wpAny _ _ _ _ _ _
          refine wpAny_pure ?_
          show wpAny _ _ (ret Value.none) _ _ _
          refine wpAny_pure ⟨rfl, h', tk', rfl, hF, fun b o e => ?_⟩
          have hb := Heap.lt_size e
          refine hm.heap b o ?_ (Heap.get?_push_of_some _ (Heap.get?_push_of_some _ e))
          rw [hps]
          simp only [List.mem_cons, List.mem_singleton, List.not_mem_nil, or_false, not_or]
          exact ⟨Nat.ne_of_lt hb, Nat.ne_of_lt (Nat.lt_succ_of_lt hb)⟩
      · cases r₂ with
        | error e => exact hr₂
        | ok fl₂ =>
          cases fl₂ with
          | ret r =>
            obtain ⟨rfl, h', tk, rfl, hF, hk'⟩ := hr₂
            repeat (any_goals (first | assumption | wp_step))
            exact h _ _ hF hk'
          | _ => exact hr₂.elim
    | _ => exact hr.elim
end
/-- set(xs), xs a tuple of texts -/
def rSetX (K : PySem.W.Frag) (P : Program) (w : World) : List V → Hp → VK → Prop := fun vs H Q => ∃ (l : Addr) (xs : List Str), vs = [.ref l] ∧ SqT K H l (xs.map V.str) ∧ xs.length ≤ 1000 ∧
  ∀ (p : Addr) (n : Nat), H p = none → n ≤ xs.length → (xs.Nodup → n = xs.length) → Q (.ref p) (upd H p (SetX P w p (fun z => decide (z ∈ xs)) n))
def rLenX (P : Program) (w : World) : List V → Hp → VK → Prop := fun vs H Q => ∃ (a : Addr) (S : Str → Bool) (n : Nat), vs = [.ref a] ∧ H a = some (SetX P w a S n) ∧ Q (.int (n : Int)) H
section
variable {X : Cx}
theorem set_any (hc : X.calm = true) {pins : List (Addr × Obj)} {σ : L2.St} {H : Hp} {s : Shared} {l : Addr} {xs : List Str} {Q : VK} (I : Inv X pins σ H s) (hq : SqT X.K H l (xs.map V.str)) (hz : xs.length ≤ 1000)
    (q : ∀ (p : Addr) (n : Nat), H p = none → n ≤ xs.length → (n = xs.length ↔ xs.Nodup) → Q (.ref p) (upd H p (SetX X.prog X.w p (fun z => decide (z ∈ xs)) n))) :
    wpAny (model X.prog X.w) X.A (call (.type "set") [.ref l]) (EP X pins σ Q) X.xe s := by
  obtain ⟨its, rv, pl, _⟩ := I.tuple hq
  have hlen : its.toArray.size = xs.length := by rw [List.size_toArray, ← rv.length, List.length_map]
  refine set_tuple (I.ok.hd hc) pl (by simpa using strsAre_of rv) hz fun h' tk ⟨j, g, hj, hnd, hdn⟩ hk => ?_
  rw [hlen] at g hj hnd hdn
  rw [List.take_of_length_le (Nat.le_refl _)] at g hdn
  have hn : H s.heap.objs.size = none := I.hok.fresh (Nat.le_refl _)
  exact ⟨.ref _, _, I.laidN hk (Heap.get?_none_of_le (Nat.le_refl _)) hn (setX_new g), rfl, q _ j hn hj ⟨hdn, hnd⟩⟩
theorem cr_setX (hc : X.calm = true) : CallR X (.type "set") (rSetX X.K X.prog X.w) := by
  intro pins s σ H vs us Q I r h
  obtain ⟨l, xs, rfl, hq, hz, q⟩ := h
  obtain ⟨u, rfl, rx⟩ := vals1 r
  cases rx
  exact set_any hc I hq hz fun p n hp hn e => q p n hp hn e.mpr
theorem cr_lenX : CallR X (.builtin "len") (rLenX X.prog X.w) := by
  intro pins s σ H vs us Q I r h
  obtain ⟨a, S, n, rfl, ha, q⟩ := h
  obtain ⟨u, rfl, rx⟩ := vals1 r
  cases rx
  have g : TSet X.prog X.w s.heap a S n := (I.hok a _ ha).1
  obtain ⟨o, es, ep, t, ho, hex, hd, _, _, hlt, hf, hn⟩ := g
  refine call_len_set ho hex hd hf (by unfold scanBound at hlt; omega) ⟨.int n, H, I.tok _, ⟨_, by rw [hn]⟩, q⟩
end
end Qk
set_option maxRecDepth 100000
set_option maxHeartbeats 4000000
/-! tables of sets up to 512 slots -/
namespace Qk
open PySem PySem.Spec PyProof.Rows L2
/-! ### the round of all slots -/
/-- the slots met by so many steps from x, as bits -/
def orbit (m : Nat) : Nat → Nat → Nat → Nat
  | 0, _, acc => acc
  | f + 1, x, acc => orbit m f ((x * 5 + 1) % (m + 1)) (acc ||| 2 ^ x)
theorem orbit_bit (m j : Nat) : ∀ f k acc, (orbit m f (lcgN m k) acc).testBit j = true → acc.testBit j = true ∨ ∃ b, b < k + f ∧ lcgN m b = j
  | 0, k, acc, h => .inl h
  | f + 1, k, acc, h => by
    rcases orbit_bit m j f (k + 1) (acc ||| 2 ^ lcgN m k) h with g | ⟨b, hb, e⟩
    · rw [Nat.testBit_or, Nat.testBit_two_pow] at g
      cases ha : acc.testBit j with
      | true => exact .inl rfl
      | false =>
        rw [ha, Bool.false_or, decide_eq_true_eq] at g
        exact .inr ⟨k, by omega, g⟩
    · exact .inr ⟨b, by omega, e⟩
def goF (m : Nat) : Nat → Nat → Nat
  | 0, x => x
  | f + 1, x => goF m f ((x * 5 + 1) % (m + 1))
theorem goF_eq (m : Nat) : ∀ f k, goF m f (lcgN m k) = lcgN m (k + f)
  | 0, _ => rfl
  | f + 1, k => by
    rw [show k + (f + 1) = k + 1 + f by omega]
    exact goF_eq m f (k + 1)
/-- each slot is met in a round -/
structure MaskB (m : Nat) : Prop where
  all : ∀ j, j ≤ m → ∃ b, b ≤ m ∧ lcgN m b = j
  rnd : lcgN m (m + 1) = 0
  is_ : m = 7 ∨ m = 31 ∨ m = 127 ∨ m = 511
theorem maskB_of {m : Nat} (h1 : orbit m (m + 1) 0 0 = 2 ^ (m + 1) - 1) (h2 : goF m (m + 1) 0 = 0) (h3 : m = 7 ∨ m = 31 ∨ m = 127 ∨ m = 511) : MaskB m := by
  refine ⟨fun j hj => ?_, ?_, h3⟩
  · have e : (orbit m (m + 1) (lcgN m 0) 0).testBit j = true := by
      show (orbit m (m + 1) 0 0).testBit j = true
      rw [h1, Nat.testBit_two_pow_sub_one]
      exact decide_eq_true (Nat.lt_succ_of_le hj)
    rcases orbit_bit m j (m + 1) 0 0 e with g | ⟨b, hb, e⟩
    · rw [Nat.zero_testBit] at g
      cases g
    · exact ⟨b, by omega, e⟩
  · have e := goF_eq m (m + 1) 0
    rw [Nat.zero_add] at e
    rw [← e]
    exact h2
theorem mb7 : MaskB 7 := maskB_of (by decide +kernel) (by decide +kernel) (by decide)
theorem mb31 : MaskB 31 := maskB_of (by decide +kernel) (by decide +kernel) (by decide)
theorem mb127 : MaskB 127 := maskB_of (by decide +kernel) (by decide +kernel) (by decide)
theorem mb511 : MaskB 511 := maskB_of (by decide +kernel) (by decide +kernel) (by decide)
theorem MaskB.odd {m : Nat} (hm : MaskB m) : m % 2 = 1 := by
  rcases hm.is_ with e | e | e | e <;> rw [e]
theorem MaskB.top {m : Nat} (hm : MaskB m) : m ≤ 511 := by
  rcases hm.is_ with e | e | e | e <;> omega
theorem MaskB.again {m : Nat} (hm : MaskB m) : ∀ k, lcgN m (m + 1 + k) = lcgN m k
  | 0 => hm.rnd
  | k + 1 => by
    have ih := hm.again k
    show (lcgN m (m + 1 + k) * 5 + 1) % (m + 1) = _
    rw [ih]
    rfl
theorem MaskB.to {m i j : Nat} (hm : MaskB m) (hi : i ≤ m) (hj : j ≤ m) : ∃ k, k ≤ m ∧ lcgI m i k = j := by
  obtain ⟨a, a1, rfl⟩ := hm.all i hi
  obtain ⟨b, b1, rfl⟩ := hm.all j hj
  by_cases c : a ≤ b
  · exact ⟨b - a, by omega, by rw [lcgN_add, show a + (b - a) = b by omega]⟩
  · exact ⟨m + 1 + b - a, by omega, by rw [lcgN_add, show a + (m + 1 + b - a) = m + 1 + b by omega, hm.again]⟩
theorem MaskB.meets {m : Nat} (hm : MaskB m) (h : Int) {j : Nat} (hj : j ≤ m) : ∃ n, n ≤ m + 12 ∧ runI m (SetTable.bits h) n = j := by
  obtain ⟨k, k1, k2⟩ := hm.to (runI_le m (SetTable.bits h) 12) hj
  refine ⟨12 + k, by omega, ?_⟩
  rw [runI_tail (bits_lt h), k2]
theorem way_in (m : Nat) (h : Int) (k : Nat) : way m h k ≤ m := by
  have r := runEnd_bd (show SetTable.bits h % (m + 1) ≤ m from Nat.le_of_lt_succ (Nat.mod_lt _ (Nat.succ_pos m)))
  have q := nth_in (m := m) k (runAt m (SetTable.bits h % (m + 1)) (SetTable.bits h))
    (show SetTable.bits h % (m + 1) + (SetTable.runEnd m (SetTable.bits h % (m + 1)) - SetTable.bits h % (m + 1)) ≤ m by omega)
  exact Nat.le_trans (Nat.le_add_right _ _) q
theorem MaskB.way_to {m : Nat} (hm : MaskB m) (h : Int) {j : Nat} (hj : j ≤ m) : ∃ n, n ≤ m + 12 ∧ way m h (off m (SetTable.bits h % (m + 1)) (SetTable.bits h) n) = j := by
  obtain ⟨n, n1, n2⟩ := hm.meets h hj
  refine ⟨n, n1, ?_⟩
  unfold way
  rw [nth_off, itL_run, n2]
  rfl
theorem off_le (m : Nat) : ∀ (n i b : Nat), i ≤ m → off m i b n ≤ 10 * n
  | 0, _, _, _ => Nat.le_refl _
  | n + 1, i, b, hi => by
    have r := runEnd_bd hi
    have ih := off_le m n (SetTable.leap m i b).1 (SetTable.leap m i b).2 (leap_le m i b)
    show SetTable.runEnd m i - i + 1 + off m (SetTable.leap m i b).1 (SetTable.leap m i b).2 n ≤ _
    omega
/-! ### tables -/
/-- on h's way, j comes behind places of ps alone -/
def OnWay (m : Nat) (ps : List Nat) (h : Int) (j : Nat) : Prop := ∃ k, way m h k = j ∧ ∀ c, c < k → way m h c ∈ ps
structure TabB (t : SetTable) (hs : List Int) : Prop where
  up : Ris t.place.toList
  noD : t.dummies = #[]
  many : t.place.toList.length = hs.length
  mB : MaskB t.mask
  in_ : ∀ x ∈ t.place.toList, x ≤ t.mask
  onW : ∀ (i : Nat) (h : Int) (j : Nat), hs[i]? = some h → t.place.toList[i]? = some j → OnWay t.mask t.place.toList h j
theorem TabB.sz {t : SetTable} {hs : List Int} (T : TabB t hs) : t.place.size = hs.length := by
  rw [← Array.length_toList]
  exact T.many
theorem TabB.stop {t : SetTable} {hs : List Int} (T : TabB t hs) (hl : hs.length ≤ t.mask) (h : Int) :
    ∃ K, K < 10 * SetTable.turns t.mask ∧ way t.mask h K ∉ t.place.toList ∧ ∀ k, k < K → way t.mask h k ∈ t.place.toList := by
  obtain ⟨j, j1, j2⟩ := st_missing t.place.toList (t.mask + 1) (by rw [T.many]; omega)
  obtain ⟨n, n1, n2⟩ := T.mB.way_to h (Nat.le_of_lt_succ j1)
  have ob := off_le t.mask n (SetTable.bits h % (t.mask + 1)) (SetTable.bits h) (Nat.le_of_lt_succ (Nat.mod_lt _ (Nat.succ_pos t.mask)))
  obtain ⟨K, K1, K2, K3⟩ := st_least (p := fun k => way t.mask h k ∉ t.place.toList) _ (n2 ▸ j2)
  refine ⟨K, ?_, K2, fun k hk => Classical.byContradiction fun q => K3 k hk q⟩
  unfold SetTable.turns
  omega
theorem TabB.ahead {t : SetTable} {hs : List Int} (T : TabB t hs) {h : Int} {K i j : Nat} (hK : way t.mask h K ∉ t.place.toList) (hi : hs[i]? = some h) (hj : t.place.toList[i]? = some j) :
    ∃ k, k < K ∧ way t.mask h k = j := by
  obtain ⟨k, e, b⟩ := T.onW i h j hi hj
  refine ⟨k, Nat.lt_of_not_le fun c => hK ?_, e⟩
  rcases Nat.lt_or_eq_of_le c with c | c
  · exact b K c
  · rw [c, e]
    exact List.mem_of_getElem? hj
theorem OnWay.more {m : Nat} {ps ps' : List Nat} {h : Int} {j : Nat} (W : OnWay m ps h j) (hp : ∀ x ∈ ps, x ∈ ps') : OnWay m ps' h j := by
  obtain ⟨k, e, b⟩ := W
  exact ⟨k, e, fun c hc => hp _ (b c hc)⟩
/-- one is put in -/
theorem TabB.add {t : SetTable} {hs : List Int} (T : TabB t hs) {h : Int} {K : Nat} (hK : way t.mask h K ∉ t.place.toList) (hb : ∀ k, k < K → way t.mask h k ∈ t.place.toList) :
    SetTable.below t.place (way t.mask h K) ≤ hs.length ∧
      TabB (t.put (way t.mask h K)).1 (hs.take (SetTable.below t.place (way t.mask h K)) ++ h :: hs.drop (SetTable.below t.place (way t.mask h K))) ∧
      (t.put (way t.mask h K)).1.fill = hs.length + 1 := by
  have wl := way_in t.mask h K
  have W0 : OnWay t.mask t.place.toList h (way t.mask h K) := ⟨K, rfl, hb⟩
  generalize way t.mask h K = j at hK wl W0
  have c1 := (below_cut T.up j).1
  have cl : SetTable.below t.place j ≤ t.place.toList.length := c1
  have pp := put_place t j
  have fresh : t.place[SetTable.below t.place j]? ≠ some j := fun e => hK (List.mem_of_getElem? (show t.place.toList[SetTable.below t.place j]? = some j by rw [Array.getElem?_toList, e]))
  have hl : SetTable.below t.place j ≤ hs.length := by rw [← T.many]; exact cl
  have all : ∀ x ∈ t.place.toList, x ∈ (t.put j).1.place.toList := fun x hx => by rw [pp]; exact mem_ins.mpr (.inr hx)
  have ln : (t.put j).1.place.toList.length = hs.length + 1 := by rw [pp, len_ins _ cl, T.many]
  refine ⟨hl, ⟨ris_insert T.up fresh, put_dm T.noD j, ln.trans (len_ins _ hl h).symm, T.mB, fun x hx => ?_, fun i g k e1 e2 => ?_⟩, ?_⟩
  · rw [pp] at hx
    exact (mem_ins.mp hx).elim (fun e => e ▸ wl) (T.in_ x)
  · rw [pp, tins_get _ cl] at e2
    rw [tins_get _ hl] at e1
    show OnWay t.mask _ g k
    split at e1
    · rename_i q
      rw [if_pos q] at e2
      exact (T.onW i g k e1 e2).more all
    · rename_i q
      rw [if_neg q] at e2
      split at e1
      · rename_i q2
        rw [if_pos q2] at e2
        cases e1
        cases e2
        exact W0.more all
      · rename_i q2
        rw [if_neg q2] at e2
        exact (T.onW (i - 1) g k e1 e2).more all
  · unfold SetTable.fill
    rw [put_dm T.noD j, ← Array.length_toList, ln]
    rfl
/-! ### laid anew -/
theorem MaskB.free {m : Nat} (hm : MaskB m) (owner : Array (Option Nat)) (h : Int) {j : Nat} (hj : j ≤ m) (hf : oAt owner j = none) :
    ∃ K, SetTable.layClean.free m owner (SetTable.turns m) (SetTable.bits h % (m + 1)) (SetTable.bits h) = some (way m h K) ∧ oAt owner (way m h K) = none ∧ ∀ k, k < K → oAt owner (way m h k) ≠ none := by
  obtain ⟨n, n1, n2⟩ := hm.way_to h hj
  obtain ⟨K, K1, K2, K3⟩ := st_least (p := fun k => oAt owner (way m h k) = none) _ (by rw [← n2] at hf; exact hf)
  refine ⟨K, free_spec m owner _ n _ _ K (by unfold SetTable.turns; omega) K1 (fun k hk => ?_) (by rw [show oAt owner (nth m (runAt m _ _) K).j = none from K2]; rfl), K2, K3⟩
  cases e : oAt owner (way m h k) with
  | none => exact absurd e (K3 k hk)
  | some x => rfl
theorem own_step {m : Nat} (hm : MaskB m) {done : List Int} {owner : Array (Option Nat)} (W : Own m done owner) (hl : done.length ≤ m) (h : Int) :
    ∃ o', stepF m (some (owner, done.length)) h = some (o', done.length + 1) ∧ Own m (done ++ [h]) o' := by
  obtain ⟨ps, p1, p2⟩ := W.ps
  obtain ⟨i, i1, i2⟩ := st_missing ps (m + 1) (by omega)
  have il := Nat.le_of_lt_succ i1
  obtain ⟨K, e1, e2, e3⟩ := hm.free owner h il (Classical.byContradiction fun q => i2 (p2 i il q))
  have wl := way_in m h K
  have W0 : ∀ k, k < K → oAt owner (way m h k) ≠ none := e3
  refine ⟨_, stepF_some e1, ?_⟩
  generalize ew : way m h K = v at e1 e2 wl
  have self : oAt (owner.setIfInBounds v (some done.length)) v = some done.length := oAt_set_self _ (by rw [W.sz]; omega)
  have othr : ∀ {y}, y ≠ v → oAt (owner.setIfInBounds v (some done.length)) y = oAt owner y := fun q => oAt_set_ne _ q
  have keep : ∀ {y}, oAt owner y ≠ none → oAt (owner.setIfInBounds v (some done.length)) y ≠ none := fun {y} q => by
    rcases Classical.em (y = v) with c | c
    · rw [c, e2] at q
      exact absurd rfl q
    · rw [othr c]
      exact q
  have dl : (done ++ [h]).length = done.length + 1 := by simp
  constructor
  · simp [W.sz]
  · intro y k yl e
    rcases Classical.em (y = v) with c | c
    · rw [c, self] at e
      cases e
      exact ⟨h, K, by simp, ew.trans c.symm, fun k hk => keep (W0 k hk)⟩
    · rw [othr c] at e
      obtain ⟨g, L, a1, a2, a3⟩ := W.at_ y k yl e
      have kl := (List.getElem?_eq_some_iff.mp a1).1
      exact ⟨g, L, by rw [List.getElem?_append_left kl, a1], a2, fun k hk => keep (a3 k hk)⟩
  · intro k hk
    rw [dl] at hk
    rcases Nat.lt_or_eq_of_le (Nat.le_of_lt_succ hk) with c | c
    · obtain ⟨y, y1, y2⟩ := W.all k c
      exact ⟨y, y1, by rw [othr (fun z => by rw [z, e2] at y2; cases y2), y2]⟩
    · exact ⟨v, wl, by rw [c, self]⟩
  · refine ⟨v :: ps, by rw [dl, List.length_cons, p1], fun y yl q => ?_⟩
    rcases Classical.em (y = v) with c | c
    · rw [c]
      exact List.mem_cons_self
    · rw [othr c] at q
      exact List.mem_cons_of_mem _ (p2 y yl q)
theorem own_all {m : Nat} (hm : MaskB m) : ∀ (rest done : List Int) (owner : Array (Option Nat)), Own m done owner → done.length + rest.length ≤ m →
    ∃ o', rest.foldl (stepF m) (some (owner, done.length)) = some (o', done.length + rest.length) ∧ Own m (done ++ rest) o'
  | [], done, owner, W, _ => ⟨owner, rfl, by simpa using W⟩
  | h :: rest, done, owner, W, hl => by
    rw [List.length_cons] at hl
    obtain ⟨o1, q1, W1⟩ := own_step hm W (by omega) h
    have dl : (done ++ [h]).length = done.length + 1 := by simp
    obtain ⟨o2, q2, W2⟩ := own_all hm rest (done ++ [h]) o1 W1 (by omega)
    refine ⟨o2, ?_, by simpa using W2⟩
    rw [List.foldl_cons, q1, ← dl, q2, dl, List.length_cons]
    congr 2
    omega
/-- all is found again behind the laying -/
theorem laid_anew (t : SetTable) {hs : Array Int} {wanted M : Nat} (hw : SetTable.sizeAbove wanted = M + 1) (hM : MaskB M) (hn : hs.size ≤ M) :
    ∃ t2 order, t.relaid hs wanted = some (t2, order) ∧ order.toList.Perm (List.range hs.size) ∧ TabB t2 (order.toList.map fun i => hs.getD i 0) ∧ t2.mask = M ∧ t2.led = t.led := by
  have hw' : SetTable.sizeAbove wanted - 1 = M := by omega
  obtain ⟨owner, f, W⟩ := own_all hM hs.toList [] _ (Own.init M) (by rw [Array.length_toList]; simpa using hn)
  rw [List.nil_append] at W
  have lc : SetTable.layClean M hs = some owner := by
    rw [layClean_eq]
    exact congrArg (Option.map Prod.fst) f
  have ml : ∀ {j k}, (j, k) ∈ liveOf M owner ↔ j ≤ M ∧ oAt owner j = some k := fun {j k} => mem_live W.sz
  obtain ⟨r1, r2⟩ := ris_live (fun j => owner.getD j none) (List.range (M + 1)) (by unfold Ris; exact List.pairwise_lt_range)
  have r1 : Ris ((liveOf M owner).map Prod.fst) := r1
  have zs : hs.toList.length = hs.size := rfl
  have lv : (liveOf M owner).length = hs.size := by
    obtain ⟨ps, p1, p2⟩ := W.ps
    refine Nat.le_antisymm ?_ ?_
    · rw [← zs, ← p1, ← List.length_map (f := Prod.fst)]
      refine nat_nodup_len _ ps (r1.imp fun q => Nat.ne_of_lt q) fun x hx => ?_
      obtain ⟨⟨y, k⟩, hy, rfl⟩ := List.mem_map.mp hx
      have := ml.mp hy
      exact p2 y this.1 (by rw [this.2]; simp)
    · rw [← List.length_map (f := Prod.snd)]
      refine Nat.le_trans (Nat.le_of_eq List.length_range.symm) (nat_nodup_len (List.range hs.size) _ List.nodup_range fun k hk => ?_)
      obtain ⟨j, j1, j2⟩ := W.all k (List.mem_range.mp hk)
      exact List.mem_map.mpr ⟨(j, k), ml.mpr ⟨j1, j2⟩, rfl⟩
  refine ⟨tabOf t M owner, ((liveOf M owner).map (·.2)).toArray, by rw [relaid_eq, hw', lc]; rfl, ?_, ?_, rfl, rfl⟩
  · refine perm_range _ _ ((List.length_map _).trans lv) fun k hk => ?_
    obtain ⟨j, j1, j2⟩ := W.all k (by rw [zs]; exact hk)
    exact List.mem_map.mpr ⟨(j, k), ml.mpr ⟨j1, j2⟩, rfl⟩
  · have ep : (tabOf t M owner).place.toList = (liveOf M owner).map Prod.fst := rfl
    constructor
    · exact r1
    · rfl
    · rw [ep, List.length_map, List.length_map, List.length_map]
    · exact hM
    · intro x hx
      exact Nat.le_of_lt_succ (List.mem_range.mp (r2 x hx))
    · intro i h j e1 e2
      rw [ep] at e2 ⊢
      show OnWay M _ h j
      rw [List.toList_toArray, List.getElem?_map, List.getElem?_map] at e1
      rw [List.getElem?_map] at e2
      obtain ⟨⟨y, k⟩, hy, rfl⟩ := Option.map_eq_some_iff.mp e2
      rw [hy] at e1
      have e1 : hs.getD k 0 = h := Option.some.inj e1
      obtain ⟨y1, y2⟩ := ml.mp (List.mem_of_getElem? hy)
      obtain ⟨g, K, a1, a2, a3⟩ := W.at_ y k y1 y2
      have eg : hs.getD k 0 = g := by
        rw [Array.getD_eq_getD_getElem?, ← Array.getElem?_toList, a1]
        rfl
      rw [← e1, eg]
      refine ⟨K, a2, fun c hc => ?_⟩
      cases z : oAt owner (way M g c) with
      | none => exact absurd z (a3 c hc)
      | some k2 => exact List.mem_map.mpr ⟨(way M g c, k2), ml.mpr ⟨way_in M g c, z⟩, rfl⟩
theorem size_308 : SetTable.sizeAbove (SetTable.grown 77) = 512 := by decide +kernel
end Qk
set_option maxRecDepth 100000
set_option maxHeartbeats 4000000
namespace Qk
open PySem PySem.Spec PyProof.Rows L2
/-! ### sets whose members are tuples of texts, of tuples, of any depth to 8 -/
/-- the key k stands at a -/
def KAt (h : Heap) (k : NestedKey) (a : Addr) : Prop := NestedIs h k (.ref a) ∧ k.depth ≤ 8
theorem parts_of {h : Heap} : ∀ {ks : List NestedKey} {vs : List Value} {n : Nat}, NestedAll h ks vs → NestedKey.depthAll ks ≤ n → ∀ v ∈ vs, ∃ k, NestedIs h k v ∧ k.depth ≤ n
  | _, _, _, .nil, _, v, m => nomatch m
  | _, _, n, .cons (k := k0) x y, hd, v, m => by
    simp only [NestedKey.depthAll] at hd
    rcases List.mem_cons.mp m with rfl | m
    · exact ⟨k0, x, by omega⟩
    · exact parts_of y (by omega) v m
section
variable {P : Program} {w : World} {A : Around} {E : Value → Shared → Prop} {s : Shared}
theorem notClass : ∀ (n : Nat) {k : NestedKey} {v : Value} {Q : Bool → Shared → Prop}, NestedIs s.heap k v → k.depth ≤ n → Q false s → wpAny (model P w) A (ofAClassStatement n v) Q E s := by
  intro n
  induction n with
  | zero =>
    intro k v Q hv hn hq
    cases hv with
    | tup => simp only [NestedKey.depth] at hn; omega
    | _ => exact wpAny_pure hq
  | succ n ih =>
    intro k v Q hv hn hq
    cases hv with
    | @tup b ob arr m ks hb hc hd hall =>
      simp only [NestedKey.depth] at hn
      have hps := parts_of hall (Nat.le_of_succ_le_succ hn)
      unfold ofAClassStatement
      refine wpAny_bind (wpAny_typeOf (T := "tuple") ⟨ob, hb, hc⟩ ?_)
      dsimp only
      rw [show (("tuple" : String) == "tuple") = true from by decide]
      simp only [if_true, Bool.not_true, Bool.false_eq_true, if_false]
      try refine wpAny_bind (wpAny_pure ?_)
      try simp only [Bool.not_true, Bool.false_eq_true, if_false]
      show wpAny _ _ (seqItems? (.ref b) >>= _) _ _ s
      refine wpAny_bind (wpAny_seqItems hb hd ?_)
      dsimp only
      refine wpAny_bind ?_
      show wpAny _ _ (forIn arr _ _) _ _ s
      rw [← Array.forIn_toList]
      refine wpAny_forIn_list _ (fun rest z s' => (z.1 = none ∧ s' = s) ∧ ∀ u ∈ rest, ∃ k, NestedIs s.heap k u ∧ k.depth ≤ n) _ ?_ ?_ _ _ ⟨⟨rfl, rfl⟩, hps⟩
      · rintro u rest z s' ⟨⟨hz, rfl⟩, hr⟩
        obtain ⟨k', g1, g2⟩ := hr u List.mem_cons_self
        refine wpAny_bind (ih g1 g2 ?_)
        simp only [Bool.false_eq_true, if_false]
        exact wpAny_pure ⟨⟨rfl, rfl⟩, fun u' hu' => hr u' (List.mem_cons_of_mem _ hu')⟩
      · rintro ⟨z1, z2⟩ s' ⟨⟨hz, rfl⟩, _⟩
        dsimp only at hz
        subst hz
        exact wpAny_pure hq
    | _ => exact wpAny_pure hq
theorem byValueOr : ∀ (n : Nat) {k : NestedKey} {v : Value} {Q : Bool → Shared → Prop}, NestedIs s.heap k v → (∀ b, Q b s) → wpAny (model P w) A (hashByValue n v) Q E s := by
  intro n
  induction n with
  | zero =>
    intro k v Q hv hq
    cases hv <;> exact wpAny_pure (hq _)
  | succ n ih =>
    intro k v Q hv hq
    cases hv with
    | @tup b ob arr m ks hb hc hd hall =>
      have hps := parts_of hall (Nat.le_refl _)
      unfold hashByValue
      refine wpAny_bind (wpAny_specialOf (T := "tuple") ⟨ob, hb, hc⟩ PySem.F.slot_tuple_hash.lookup ?_)
      show wpAny _ _ (seqItems? (.ref b) >>= _) _ _ s
      refine wpAny_bind (wpAny_seqItems hb hd ?_)
      refine wpAny_bind ?_
      show wpAny _ _ (forIn arr _ _) _ _ s
      rw [← Array.forIn_toList]
      refine wpAny_forIn_list _ (fun rest z s' => (z.1 = none ∧ s' = s) ∧ ∀ u ∈ rest, ∃ k, NestedIs s.heap k u ∧ k.depth ≤ NestedKey.depthAll ks) _ ?_ ?_ _ _ ⟨⟨rfl, rfl⟩, hps⟩
      · rintro u rest z s' ⟨⟨hz, rfl⟩, hr⟩
        obtain ⟨k', g1, g2⟩ := hr u List.mem_cons_self
        refine wpAny_bind (ih g1 fun b => ?_)
        cases b with
        | true =>
          simp only [Bool.not_true, Bool.false_eq_true, if_false]
          exact wpAny_pure ⟨⟨rfl, rfl⟩, fun u' hu' => hr u' (List.mem_cons_of_mem _ hu')⟩
        | false =>
          simp only [Bool.not_false, if_true]
          exact wpAny_pure (wpAny_pure (hq false))
      · rintro ⟨z1, z2⟩ s' ⟨⟨hz, rfl⟩, _⟩
        dsimp only at hz
        subst hz
        exact wpAny_pure (hq _)
    | _ => exact wpAny_pure (hq _)
/-- no member shows anything while it is looked for -/
theorem unseen {k : NestedKey} {x : Addr} {ys : List Value} {Q : Bool → Shared → Prop} (hx : KAt s.heap k x) (hy : ∀ y ∈ ys, ∃ k' c, y = .ref c ∧ KAt s.heap k' c) (hq : Q false s) :
    wpAny (model P w) A (searchCouldBeSeen (.ref x) ys) Q E s := by
  unfold searchCouldBeSeen
  refine wpAny_bind (wpAny_forIn_list _ (fun rest z s' => (z.1 = none ∧ s' = s) ∧ ∀ y ∈ rest, ∃ k' c, y = .ref c ∧ KAt s.heap k' c) _ ?_ ?_ _ _ ⟨⟨rfl, rfl⟩, hy⟩)
  · rintro y rest z s' ⟨⟨hz, rfl⟩, hr⟩
    obtain ⟨k', c, rfl, hc⟩ := hr y List.mem_cons_self
    have go : ∀ y ∈ rest, ∃ k' c, y = .ref c ∧ KAt s'.heap k' c := fun u m => hr u (List.mem_cons_of_mem _ m)
    dsimp only
    by_cases hv : (x == c || (carriedByValue (.ref x) && carriedByValue (.ref c))) = true
    · exact wp_if_pos hv (wpAny_pure ⟨⟨rfl, rfl⟩, go⟩)
    · refine wp_if_neg hv (wpAny_bind ((nestedKind P w).quiet hx ?_))
      simp only [Bool.not_true, Bool.false_eq_true, if_false]
      refine wpAny_bind ((nestedKind P w).quiet hc ?_)
      simp only [Bool.not_true, Bool.false_eq_true, if_false]
      refine wpAny_bind (notClass 8 hx.1 hx.2 ?_)
      simp only [Bool.false_eq_true, if_false]
      refine wpAny_bind (notClass 8 hc.1 hc.2 ?_)
      simp only [Bool.false_eq_true, if_false]
      exact wpAny_pure ⟨⟨rfl, rfl⟩, go⟩
  · rintro ⟨z1, z2⟩ s' ⟨⟨hz, rfl⟩, _⟩
    dsimp only at hz
    subst hz
    exact wpAny_pure hq
end
/-! ### where a probe gets to -/
abbrev pr (m : Nat) (h : Int) (c : Nat) : SetTable.Probe := nth m (runAt m (SetTable.bits h % (m + 1)) (SetTable.bits h)) c
theorem pr_clean (m : Nat) (h : Int) : ∀ c, (pr m h c).dummy = none
  | 0 => rfl
  | c + 1 => by
    show (nth m _ (c + 1)).dummy = none
    rw [nth_succ]
    have ih := pr_clean m h c
    unfold adv
    split <;> exact ih
theorem probe_at {t : SetTable} {hs : List Int} (T : TabB t hs) {h : Int} {K c : Nat} (hf : K < 10 * SetTable.turns t.mask) (hK : way t.mask h K ∉ t.place.toList) (hb : ∀ c, c < K → way t.mask h c ∈ t.place.toList) (ha : Nat → Int) (hc : c ≤ K) :
    (∃ d i, (c ≤ d ∧ d < K) ∧ t.place.toList[i]? = some (way t.mask h d) ∧ ha i = h ∧ (∀ e j, c ≤ e → e < d → t.place.toList[j]? = some (way t.mask h e) → ha j ≠ h) ∧ t.probe ha h (pr t.mask h c) = some (.candidate (way t.mask h d) i (pr t.mask h (d + 1)))) ∨
    (∀ e j, c ≤ e → e < K → t.place.toList[j]? = some (way t.mask h e) → ha j ≠ h) ∧ t.probe ha h (pr t.mask h c) = some (.empty (way t.mask h K) none) := by
  have sh : ∀ q, nth t.mask (pr t.mask h c) q = pr t.mask h (c + q) := fun q => (nth_add t.mask c _ q).symm
  have at_ : ∀ q, (nth t.mask (pr t.mask h c) q).j = way t.mask h (c + q) := fun q => congrArg SetTable.Probe.j (sh q)
  have eK : c + (K - c) = K := by omega
  rcases go_spec t T.up T.noD ha h (10 * SetTable.turns t.mask) (K - c) _ (pr_clean t.mask h c) (by omega) (fun q hq => by rw [at_]; exact hb _ (by omega)) (by rw [at_, eK]; exact hK) with ⟨q, i, g1, g2, g3, g4, g5⟩ | ⟨g1, g2⟩
  · refine .inl ⟨c + q, i, ⟨Nat.le_add_right _ _, by omega⟩, by rw [← at_]; exact g2, g3, fun e j he1 he2 hj => g4 (e - c) j (by omega) (by rw [at_, show c + (e - c) = e by omega]; exact hj), ?_⟩
    rw [← at_, show pr t.mask h (c + q + 1) = nth t.mask (pr t.mask h c) (q + 1) from (sh (q + 1)).symm]
    exact g5
  · refine .inr ⟨fun e j he1 he2 hj => g1 (e - c) j (by omega) (by rw [at_, show c + (e - c) = e by omega]; exact hj), ?_⟩
    rw [show way t.mask h K = (nth t.mask (pr t.mask h c) (K - c)).j by rw [at_, eK]]
    exact g2
/-! ### the set -/
abbrev Kp2 := NestedKey × Addr
/-- what the table has for a member -/
def ent (w : World) (p : Kp2) : Int × Value := (p.1.hash w, .ref p.2)
def hashesK (w : World) (L : List Kp2) : List Int := L.map fun p => p.1.hash w
/-- the set at a: L are its members (key and address), as the table has them -/
structure KSet (w : World) (h : Heap) (a : Addr) (L : List Kp2) (es : Array (Int × Value)) (ep : Nat) (t : SetTable) : Prop where
  ob : ∃ o, h.get? a = some o ∧ o.ExactSet ∧ o.data = .set es ep t
  rows : es.toList = L.map (ent w)
  tab : TabB t (hashesK w L)
  nd : (L.map Prod.fst).Nodup
  led : w.params.followText "set-order" = true ∨ t.led = true
  room : L.length * 5 < t.mask * 3
  few : L.length < 300
def KeysAt (h : Heap) (L : List Kp2) : Prop := ∀ p ∈ L, KAt h p.1 p.2
section
variable {P : Program} {w : World} {A : Around} {E : Value → Shared → Prop} {s : Shared} {h : Heap} {a : Addr} {L : List Kp2} {es : Array (Int × Value)} {ep : Nat} {t : SetTable}
theorem sz_rows (hr : es.toList = L.map (ent w)) : es.size = L.length := by
  rw [← Array.length_toList, hr, List.length_map]
theorem KSet.at_ (R : KSet w h a L es ep t) {i : Nat} {p : Kp2} (hi : L[i]? = some p) : es[i]? = some (ent w p) := by
  rw [← Array.getElem?_toList, R.rows, List.getElem?_map, hi]
  rfl
theorem len_h (L : List Kp2) : (hashesK w L).length = L.length := List.length_map _
theorem fits_of {hs : List Int} (T : TabB t hs) {n : Nat} (hn : hs.length = n) (hm : n ≤ t.mask) : t.fits n = true := by
  unfold SetTable.fits SetTable.fill
  have e : t.dummies.size = 0 := by rw [T.noD]; rfl
  rw [T.sz, hn, e]
  simp
  omega
theorem KSet.fits (R : KSet w h a L es ep t) : t.fits es.size = true := by
  rw [sz_rows R.rows]
  have := R.room
  exact fits_of R.tab (len_h L) (by omega)
theorem look (R : KSet w s.heap a L es ep t) (M : KeysAt s.heap L) {x : Addr} {k : NestedKey} (hx : KAt s.heap k x) (hu : A.units + 8 < cLine) {K : Nat} (hf : K < 10 * SetTable.turns t.mask)
    (hK : way t.mask (k.hash w) K ∉ t.place.toList) (hb : ∀ c, c < K → way t.mask (k.hash w) c ∈ t.place.toList) {Q : SetFound → Shared → Prop}
    (yes : k ∈ L.map Prod.fst → Q (.there none) s) (no : k ∉ L.map Prod.fst → Q (.free (way t.mask (k.hash w) K) false) s) :
    ∀ (f c : Nat) (stand : Option SetTable.Probe), stand.getD (t.probeStart (k.hash w)) = pr t.mask (k.hash w) c → c ≤ K → K < f + c →
      (∀ (i : Nat) (p : Kp2), L[i]? = some p → p.1 = k → ∃ d, c ≤ d ∧ d < K ∧ t.place.toList[i]? = some (way t.mask (k.hash w) d)) → wpAny (model P w) A (setSearchFrom a (.ref x) (k.hash w) true f stand) Q E s := by
  intro f
  induction f with
  | zero => intro c stand _ h1 h2; omega
  | succ f ih =>
    intro c stand hs h1 h2 hw
    obtain ⟨o, ho, hex, hd⟩ := R.ob
    rw [setSearchFrom_succ]
    refine wpAny_bind (wpAny_setState_of ho hd R.fits ?_)
    dsimp only
    refine wp_if_neg (by unfold SetTable.gaveWay; rw [R.tab.mB.odd]; decide) ?_
    try refine wpAny_bind (wpAny_pure ?_)
    have hh : ∀ (i : Nat) (p : Kp2), L[i]? = some p → (es[i]?.map (·.1)).getD 0 = p.1.hash w := fun i p hi => by rw [R.at_ hi]; rfl
    rcases probe_at R.tab hf hK hb (fun i => (es[i]?.map (·.1)).getD 0) h1 with ⟨d, i, ⟨d1, d2⟩, hi, _, hno, hp⟩ | ⟨hno, hp⟩
    · rw [hs, hp]
      dsimp only
      have hl : i < L.length := by
        have := (List.getElem?_eq_some_iff.mp hi).1
        rw [Array.length_toList, R.tab.sz, len_h] at this
        exact this
      obtain ⟨p, hpi⟩ : ∃ p, L[i]? = some p := ⟨_, List.getElem?_eq_getElem hl⟩
      have hpm := List.mem_of_getElem? hpi
      have tail : wpAny (model P w) A (searchRest a (.ref x) (k.hash w) true f es t (way t.mask (k.hash w) d) i (pr t.mask (k.hash w) (d + 1))) Q E s := by
        unfold searchRest
        rw [R.at_ hpi]
        unfold ent
        dsimp only
        refine wpAny_bind (wpAny_holding ((nestedKind P w).eqBool hu (M p hpm) hx ?_))
        refine wpAny_bind (wpAny_setState_of ho hd R.fits ?_)
        dsimp only
        by_cases hk : p.1 = k
        · refine wp_if_pos (by simp [hk]) (wpAny_pure (yes ?_))
          exact hk ▸ List.mem_map_of_mem hpm
        · refine wp_if_neg (by simp [hk]) ?_
          try refine wpAny_bind (wpAny_pure ?_)
          have live := slot_live R.tab.up hi
          rw [sameMem]
          simp only [if_true, live, R.at_ hpi, ent]
          refine wpAny_bind (wpAny_isSame_ref_self (wpAny_bind (wpAny_pure ?_)))
          simp only [if_true]
          refine wp_if_neg (by simp [hk]) (ih (d + 1) _ rfl d2 (by omega) fun j q hj hq => ?_)
          obtain ⟨e, e1, e2, e3⟩ := hw j q hj hq
          refine ⟨e, ?_, e2, e3⟩
          rcases Nat.lt_trichotomy e d with z | z | z
          · exact absurd ((hh j q hj).trans (by rw [hq])) (hno e j e1 z e3)
          · have l2 := slot_live R.tab.up (z ▸ e3)
            rw [live] at l2
            injection l2 with l2
            rw [← l2, hpi] at hj
            exact absurd ((congrArg Prod.fst (Option.some.inj hj)).trans hq) hk
          · exact z
      by_cases hl : t.led = true
      · refine wp_if_neg (by simp [hl]) ?_
        try refine wpAny_bind (wpAny_pure ?_)
        exact tail
      · refine wp_if_pos (by simp [hl]) (wpAny_bind (unseen hx (fun y hy => ?_) ?_))
        · obtain ⟨e, he, rfl⟩ := List.mem_map.mp hy
          have he2 : e ∈ es.toList := by
            have := (show e ∈ es ∧ _ by simpa using he).1
            simpa using this
          rw [R.rows] at he2
          obtain ⟨q, hq, rfl⟩ := List.mem_map.mp he2
          exact ⟨q.1, q.2, rfl, M q hq⟩
        · refine wp_if_neg (by decide) ?_
          try refine wpAny_bind (wpAny_pure ?_)
          exact tail
    · rw [hs, hp]
      dsimp only
      refine wpAny_pure (no fun hm => ?_)
      obtain ⟨q, hq, hk⟩ := List.mem_map.mp hm
      obtain ⟨j, hj⟩ := List.mem_iff_getElem?.mp hq
      obtain ⟨e, e1, e2, e3⟩ := hw j q hj hk
      exact hno e j e1 e2 e3 ((hh j q hj).trans (by rw [hk]))
theorem look_at (R : KSet w s.heap a L es ep t) (M : KeysAt s.heap L) {x : Addr} {k : NestedKey} (hx : KAt s.heap k x) (hu : A.units + 8 < cLine) {Q : SetFound → Shared → Prop}
    (yes : k ∈ L.map Prod.fst → Q (.there none) s)
    (no : ∀ K, k ∉ L.map Prod.fst → way t.mask (k.hash w) K ∉ t.place.toList → (∀ c, c < K → way t.mask (k.hash w) c ∈ t.place.toList) → Q (.free (way t.mask (k.hash w) K) false) s) :
    wpAny (model P w) A (setSearch a (.ref x) (k.hash w) true) Q E s := by
  have hr := R.room
  obtain ⟨K, f1, f2, f3⟩ := R.tab.stop (by rw [len_h]; omega) (k.hash w)
  have big : SetTable.turns t.mask ≤ 5000 := by
    have := R.tab.mB.top
    unfold SetTable.turns
    omega
  refine look R M hx hu f1 f2 f3 yes (fun hn => no K hn f2 f3) 100000 0 none rfl (Nat.zero_le _) (by omega) fun i p hi hp => ?_
  have h1 : (hashesK w L)[i]? = some (k.hash w) := by
    unfold hashesK
    rw [List.getElem?_map, hi, ← hp]
    rfl
  have h2 : i < t.place.toList.length := by
    rw [Array.length_toList, R.tab.sz, len_h]
    exact (List.getElem?_eq_some_iff.mp hi).1
  obtain ⟨d, d1, d2⟩ := R.tab.ahead f2 h1 (List.getElem?_eq_getElem h2)
  exact ⟨d, Nat.zero_le _, d1, by rw [d2]; exact List.getElem?_eq_getElem h2⟩
end
end Qk
set_option maxRecDepth 100000
set_option maxHeartbeats 4000000
namespace Qk
open PySem PySem.Spec PyProof.Rows L2
/-! ### putting a member in -/
theorem KAt.off {h h' : Heap} {k : NestedKey} {x a : Addr} {o : Obj} {es : Array (Int × Value)} {ep : Nat} {t : SetTable} (hx : KAt h k x) (ho : h.get? a = some o) (hd : o.data = .set es ep t) (hs : Heap.SameBut a h h') : KAt h' k x :=
  ⟨NestedIs.at (fun b ob vs n hb hv => (hs.2 b fun e => by
    subst e
    rw [ho] at hb
    cases hb
    rw [hd] at hv
    cases hv).trans hb) _ _ hx.1, hx.2⟩
theorem KAt.keep {h h' : Heap} {k : NestedKey} {x : Addr} (hx : KAt h k x) (hk : ∀ b o, h.get? b = some o → h'.get? b = some o) : KAt h' k x :=
  ⟨NestedIs.at (fun b ob vs n hb hv => hk b ob hb) _ _ hx.1, hx.2⟩
/-- rows taken in another order -/
theorem pick_rows {α β : Type} (g : α → β) (L : List α) (es : Array β) (hr : es.toList = L.map g) (order : Array Nat) (hp : order.toList.Perm (List.range L.length)) :
    ∃ L2 : List α, (order.filterMap (es[·]?)).toList = L2.map g ∧ L2.Perm L ∧ ∀ {γ : Type} (u : α → γ) (v : Nat → γ), (∀ i x, L[i]? = some x → v i = u x) → L2.map u = order.toList.map v := by
  have eg : ∀ i, es[i]? = (L[i]?).map g := fun i => by rw [← Array.getElem?_toList, hr, List.getElem?_map]
  refine ⟨order.toList.filterMap (L[·]?), ?_, ?_, fun u v huv => ?_⟩
  · rw [Array.toList_filterMap, List.map_filterMap]
    exact congrArg (fun f => List.filterMap f order.toList) (funext eg)
  · refine (hp.filterMap _).trans ?_
    have key : ∀ n, n ≤ L.length → (List.range n).filterMap (L[·]?) = L.take n := by
      intro n
      induction n with
      | zero => intro _; rfl
      | succ n ih =>
        intro hn
        rw [List.range_succ, List.filterMap_append, ih (by omega), List.take_add_one, List.getElem?_eq_getElem (show n < L.length by omega)]
        exact congrArg (List.take n L ++ ·) (List.filterMap_cons_some (List.getElem?_eq_getElem (show n < L.length by omega)))
    rw [key _ (Nat.le_refl _), List.take_length]
  · have : ∀ l : List Nat, (∀ i ∈ l, i < L.length) → (l.filterMap (L[·]?)).map u = l.map v := by
      intro l
      induction l with
      | nil => intro _; rfl
      | cons i l ih =>
        intro hl
        have hi := List.getElem?_eq_getElem (hl i List.mem_cons_self)
        rw [List.filterMap_cons_some hi, List.map_cons, List.map_cons, ih fun j hj => hl j (List.mem_cons_of_mem _ hj), huv i _ hi]
    exact this _ fun i hi => List.mem_range.mp (hp.mem_iff.mp hi)
section
variable {P : Program} {w : World} {A : Around} {E : Value → Shared → Prop} {s : Shared} {a : Addr} {L : List Kp2} {es : Array (Int × Value)} {ep : Nat} {t : SetTable}
/-- the table laid anew with more room -/
theorem relay {o : Obj} (ho : s.heap.get? a = some o) (hex : o.ExactSet) (hd : o.data = .set es ep t) (hr : es.toList = L.map (ent w)) (T : TabB t (hashesK w L)) (hm : L.length ≤ t.mask) (nd : (L.map Prod.fst).Nodup)
    (ld : w.params.followText "set-order" = true ∨ t.led = true) (few : L.length < 300) {wanted M : Nat} (hw : SetTable.sizeAbove wanted = M + 1) (hM : MaskB M) (hn : L.length * 5 < M * 3) {Q : Unit → Shared → Prop}
    (hQ : ∀ h' L' es' ep' t', Heap.SameBut a s.heap h' → KSet w h' a L' es' ep' t' → L'.Perm L → Q () { s with heap := h' }) : wpAny (model P w) A (setRelay a wanted) Q E s := by
  have hz := sz_rows hr
  have hfit : t.fits es.size = true := by rw [hz]; exact fits_of T (len_h L) hm
  have hM2 := hM.top
  obtain ⟨t2, order, q1, q2, q3, q4, q5⟩ := laid_anew t (hs := es.map (·.1)) (wanted := wanted) hw hM (by rw [Array.size_map, hz]; omega)
  rw [Array.size_map, hz] at q2
  obtain ⟨L2, r1, r2, r3⟩ := pick_rows (ent w) L es hr order q2
  rw [← r3 (fun p => p.1.hash w) (fun i => (es.map (·.1)).getD i 0) fun i p hp => by
    have e : es[i]? = some (ent w p) := by rw [← Array.getElem?_toList, hr, List.getElem?_map, hp]; rfl
    rw [Array.getD_eq_getD_getElem?, Array.getElem?_map, e]
    rfl] at q3
  have z2 : (order.filterMap (es[·]?)).size = L.length := by rw [sz_rows r1, r2.length_eq]
  rw [setRelay_eq]
  refine wpAny_bind (wpAny_setState_of ho hd hfit ?_)
  dsimp only
  refine wp_if_neg (by rw [sizeLine_eq]; omega) ?_
  try refine wpAny_bind (wpAny_pure ?_)
  rw [q1]
  dsimp only
  refine wpAny_bind (wp_if_neg (by rw [z2, hz]; simp) ?_)
  try refine wpAny_bind (wpAny_pure ?_)
  refine wpAny_pure ?_
  dsimp only
  refine wpAny_storeSet_of ho hd (hQ _ L2 (order.filterMap (es[·]?)) (ep + 1) t2 (Heap.SameBut.update ..) ?_ r2) (by rw [z2, sizeLine_eq]; omega)
  refine ⟨⟨_, store_at ho hd, ⟨hex.1, hex.2.1, hex.2.2⟩, rfl⟩, r1, q3, (r2.map Prod.fst).nodup_iff.mpr nd, by rw [q5]; exact ld, ?_, ?_⟩
  · rw [r2.length_eq, q4]; exact hn
  · rw [r2.length_eq]; exact few
theorem put_in (R : KSet w s.heap a L es ep t) (M : KeysAt s.heap L) {x : Addr} {k : NestedKey} (hx : KAt s.heap k x) (hu : A.units + 8 < cLine) (hfew : L.length + 1 < 300) {Q : Bool → Shared → Prop}
    (hQ : ∀ b h' L' es' ep' t', Heap.SameBut a s.heap h' → KSet w h' a L' es' ep' t' → (k ∈ L.map Prod.fst → L' = L) → (k ∉ L.map Prod.fst → L'.Perm ((k, x) :: L)) → Q b { s with heap := h' }) :
    wpAny (model P w) A (setAddHashed a (.ref x) (k.hash w)) Q E s := by
  obtain ⟨o, ho, hex, hd⟩ := id R.ob
  have hz := sz_rows R.rows
  have hroom := R.room
  unfold setAddHashed
  refine wpAny_holding ?_
  rw [show (100000 : Nat) = 99999 + 1 from rfl, setAddHashedIn_succ]
  refine wpAny_bind (wpAny_setState_of ho hd R.fits ?_)
  dsimp only
  refine wp_if_neg (by simp [byScan, Value.scannable]) ?_
  try refine wpAny_bind (wpAny_pure ?_)
  refine wpAny_bind (look_at R M hx hu (fun hm => ?_) fun K hm f2 f3 => ?_)
  · exact wpAny_pure (hQ false s.heap L es ep t (.refl a s.heap) R (fun _ => rfl) fun z => absurd hm z)
  · dsimp only
    refine wpAny_bind (wpAny_setState_of ho hd R.fits ?_)
    dsimp only
    obtain ⟨q2, q3, q9⟩ := R.tab.add f2 f3
    have q1 : (t.put (way t.mask (k.hash w) K)).2 = SetTable.below t.place (way t.mask (k.hash w) K) := rfl
    have q4 : (t.put (way t.mask (k.hash w) K)).1.mask = t.mask := rfl
    have q5 : (t.put (way t.mask (k.hash w) K)).1.led = t.led := rfl
    rw [len_h] at q2 q9
    generalize t.put (way t.mask (k.hash w) K) = pt at q1 q3 q4 q5 q9 ⊢
    obtain ⟨t1, pos⟩ := pt
    dsimp only at q1 q3 q4 q5 q9 ⊢
    subst q1
    generalize SetTable.below t.place (way t.mask (k.hash w) K) = pos at q2 q3 ⊢
    have eL : List.take pos (hashesK w L) ++ k.hash w :: List.drop pos (hashesK w L) = hashesK w (L.take pos ++ (k, x) :: L.drop pos) := by
      unfold hashesK
      rw [List.map_append, List.map_cons, List.map_take, List.map_drop]
    have er : (SetTable.insertAt es pos (k.hash w, Value.ref x)).toList = (L.take pos ++ (k, x) :: L.drop pos).map (ent w) := by
      rw [SetTable.toList_insertAt, R.rows, List.map_append, List.map_cons, List.map_take, List.map_drop]
      rfl
    rw [eL] at q3
    have pm : (L.take pos ++ (k, x) :: L.drop pos).Perm ((k, x) :: L) := by
      have z := List.perm_middle (a := (k, x)) (l₁ := L.take pos) (l₂ := L.drop pos)
      rw [List.take_append_drop] at z
      exact z
    generalize L.take pos ++ (k, x) :: L.drop pos = L1 at er pm q3
    generalize SetTable.insertAt es pos (k.hash w, Value.ref x) = es1 at er ⊢
    have l1 : L1.length = L.length + 1 := pm.length_eq
    have z1 := sz_rows er
    have nd1 : (L1.map Prod.fst).Nodup := (pm.map Prod.fst).nodup_iff.mpr (List.nodup_cons.mpr ⟨hm, R.nd⟩)
    have go : ∀ t2 : SetTable, t2.mask = t.mask → t2.led = t.led → t2.fill = L.length + 1 → TabB t2 (hashesK w L1) → wpAny (model P w) A (do
        storeSet a es1 t2
        if (!false && t2.tooFull) = true then do
          setRelay a (SetTable.grown (es.size + 1))
          pure true
        else pure true) Q E s := by
      intro t2 m1 m2 m3 T2
      have ld2 : w.params.followText "set-order" = true ∨ t2.led = true := by rw [m2]; exact R.led
      refine wpAny_bind (wpAny_storeSet_of ho hd ?_ (by rw [z1, l1, sizeLine_eq]; omega))
      have sb : Heap.SameBut a s.heap (s.heap.update a (Obj.putSet es1 t2)) := Heap.SameBut.update ..
      have ho1 := store_at (es' := es1) (t' := t2) ho hd
      generalize s.heap.update a (Obj.putSet es1 t2) = h1 at sb ho1 ⊢
      have ful : t2.tooFull = decide ((L.length + 1) * 5 ≥ t.mask * 3) := by
        unfold SetTable.tooFull
        rw [m3, m1]
      rw [ful, hz]
      by_cases c : (L.length + 1) * 5 ≥ t.mask * 3
      · refine wp_if_pos (by simpa using c) (wpAny_bind ?_)
        have nx : (t.mask = 7 ∧ L.length = 4) ∨ (t.mask = 31 ∧ L.length = 18) ∨ (t.mask = 127 ∧ L.length = 76) := by
          rcases R.tab.mB.is_ with e | e | e | e
          · exact .inl ⟨e, by omega⟩
          · exact .inr (.inl ⟨e, by omega⟩)
          · exact .inr (.inr ⟨e, by omega⟩)
          · omega
        have lay : ∀ N, SetTable.sizeAbove (SetTable.grown (L.length + 1)) = N + 1 → MaskB N → (L.length + 1) * 5 < N * 3 →
            wpAny (model P w) A (setRelay a (SetTable.grown (L.length + 1))) (fun _ s' => wpAny (model P w) A (pure true) Q E s') E { s with heap := h1 } := fun N e1 e2 e4 =>
          relay (s := { s with heap := h1 }) ho1 ⟨hex.1, hex.2.1, hex.2.2⟩ rfl er T2 (by rw [l1, m1]; rcases nx with ⟨_, _⟩ | ⟨_, _⟩ | ⟨_, _⟩ <;> omega) nd1 ld2 (by omega) (M := N) e1 e2 (by rw [l1]; exact e4)
            fun h2 L2 es2 ep2 t3 sb2 R2 p2 => wpAny_pure (hQ true h2 L2 es2 ep2 t3 (sb.trans sb2) R2 (fun z => absurd z hm) fun _ => p2.trans pm)
        rcases nx with ⟨_, e⟩ | ⟨_, e⟩ | ⟨_, e⟩
        · exact lay 31 (by rw [e]; exact size_20) mb31 (by omega)
        · exact lay 127 (by rw [e]; exact size_76) mb127 (by omega)
        · exact lay 511 (by rw [e]; exact size_308) mb511 (by omega)
      · refine wp_if_neg (by simpa using c) (wpAny_pure (hQ true h1 L1 es1 (ep + 1) t2 sb ⟨⟨_, ho1, ⟨hex.1, hex.2.1, hex.2.2⟩, rfl⟩, er, T2, nd1, ld2, by rw [l1, m1]; omega, by omega⟩ (fun z => absurd z hm) fun _ => pm))
    have g1 := go t1 q4 q5 q9 q3
    have g2 := go { t1 with plain := false } q4 q5 q9 ⟨q3.up, q3.noD, q3.many, q3.mB, q3.in_, q3.onW⟩
    by_cases hp : t1.plain = true
    · refine wp_if_pos hp (wpAny_bind (byValueOr 8 hx.1 fun b => ?_))
      cases b with
      | true => exact g1
      | false => exact g2
    · exact wp_if_neg hp (wpAny_bind (wpAny_pure g1))
/-! ### set(xs) -/
theorem KSet.keep {h h' : Heap} (R : KSet w h a L es ep t) (ha : ∀ o, h.get? a = some o → h'.get? a = some o) : KSet w h' a L es ep t := by
  obtain ⟨o, ho, r⟩ := R.ob
  exact ⟨⟨o, ha o ho, r⟩, R.rows, R.tab, R.nd, R.led, R.room, R.few⟩
theorem kset_new {h : Heap} (ho : h.get? a = some { cls := .type "set", dict := none, data := .set #[] 0 (.fresh 0 0 (!w.params.followText "set-order")) }) : KSet w h a [] #[] 0 (.fresh 0 0 (!w.params.followText "set-order")) where
  ob := ⟨_, ho, ⟨rfl, rfl, rfl⟩, rfl⟩
  rows := rfl
  tab := ⟨List.Pairwise.nil, rfl, rfl, mb7, (fun x hx => nomatch hx), (fun i h j hi => nomatch hi)⟩
  nd := List.nodup_nil
  led := by
    show _ ∨ (!w.params.followText "set-order") = true
    cases w.params.followText "set-order" <;> simp
  room := by
    show 0 * 5 < 7 * 3
    decide
  few := by
    show 0 < 300
    decide
/-- L has what the first i of ks have -/
structure Has (ks : List Kp2) (i : Nat) (L : List Kp2) : Prop where
  sub : ∀ p ∈ L, p ∈ ks.take i
  all : ∀ p ∈ ks.take i, p.1 ∈ L.map Prod.fst
  len : L.length ≤ i
theorem Has.next {ks L L' : List Kp2} {i : Nat} {p : Kp2} (g : Has ks i L) (hi : ks[i]? = some p) (c1 : p.1 ∈ L.map Prod.fst → L' = L) (c2 : p.1 ∉ L.map Prod.fst → L'.Perm (p :: L)) : Has ks (i + 1) L' := by
  have et : ks.take (i + 1) = ks.take i ++ [p] := by rw [List.take_add_one, hi]; rfl
  by_cases c : p.1 ∈ L.map Prod.fst
  · rw [c1 c]
    refine ⟨fun q hq => ?_, fun q hq => ?_, Nat.le_succ_of_le g.len⟩
    · rw [et]; exact List.mem_append_left _ (g.sub q hq)
    · rw [et] at hq
      rcases List.mem_append.mp hq with z | z
      · exact g.all q z
      · rw [List.mem_singleton.mp z]; exact c
  · have pm := c2 c
    refine ⟨fun q hq => ?_, fun q hq => ?_, by rw [pm.length_eq]; exact Nat.succ_le_succ g.len⟩
    · rw [et]
      rcases List.mem_cons.mp (pm.mem_iff.mp hq) with z | z
      · rw [z]; exact List.mem_append_right _ (List.mem_singleton.mpr rfl)
      · exact List.mem_append_left _ (g.sub q z)
    · rw [(pm.map Prod.fst).mem_iff, List.map_cons]
      rw [et] at hq
      rcases List.mem_append.mp hq with z | z
      · exact List.mem_cons_of_mem _ (g.all q z)
      · rw [List.mem_singleton.mp z]; exact List.mem_cons_self
end
end Qk
set_option maxRecDepth 100000
set_option maxHeartbeats 4000000
namespace Qk
open PySem PySem.Spec PyProof.Rows L2
section
variable {P : Program} {w : World} {A : Around} {R : Result → Shared → Prop} {I : Addr} {fp wr : List Addr} {G : Array GenState → Array GenState → Prop} {n : Nat} {Pv : Nat → Value → Prop} {St : Nat → Shared → Prop}
/-- the set is filled from what is walked over -/
theorem fillK (W : WalksS P w A.in1 I fp wr G n Pv St) (S : Addr) (hSf : S ∉ fp) (ks : List Kp2) (hn : n = ks.length) (hfew : ks.length < 300) (hval : ∀ i v, Pv i v → ∃ p, ks[i]? = some p ∧ v = .ref p.2)
    (h0 : Heap) (hk : KeysAt h0 ks) (hS0 : h0.get? S = none) (hw0 : ∀ b ∈ wr, h0.get? b = none) (hu : A.in1.units + 8 < cLine) :
    ∀ (k i : Nat) (s : Shared), n - i = k → i ≤ n → St i s → (∀ b o, h0.get? b = some o → s.heap.get? b = some o) → (∃ L es ep t, KSet w s.heap S L es ep t ∧ Has ks i L) →
      (∀ s' L es ep t, Moved (S :: wr) G s s' → KSet w s'.heap S L es ep t → Has ks n L → (∀ b o, h0.get? b = some o → s'.heap.get? b = some o) → R (.ok (.ret .none)) s') →
      codeAny (model P w) A (.builtin "set.update.loop" ⟨[.ref S, .ref I], []⟩) R s := by
  have hSw : S ∉ wr := fun h => hSf (W.sub _ h)
  have hsub : ∀ b ∈ wr, b ∈ S :: wr := fun b hb => List.mem_cons_of_mem _ hb
  have old : ∀ {s s' : Shared}, Moved wr G s s' → (∀ b o, h0.get? b = some o → s.heap.get? b = some o) → ∀ b o, h0.get? b = some o → s'.heap.get? b = some o := fun hm q b o e =>
    hm.heap b o (fun m => by rw [hw0 b m] at e; cases e) (q b o e)
  intro k
  induction k with
  | zero =>
    rintro i s e hi hst q ⟨L, es, ep, t, g, gh⟩ hR
    obtain rfl : i = n := by omega
    refine codeAny_builtin PyProof.Rows.F.entry_set_update_loop ?_
    rw [Around.under_plainId PyProof.Rows.F.plain_set_update_loop _]
    exact wpAny_bind (m := pyNext (.ref I)) (W.done s _ _ hst fun s' hm => wpAny_pure (hR s' L es ep t (hm.mono hsub) (g.keep fun o e => hm.heap S o hSw e) gh (old hm q)))
  | succ k ih =>
    rintro i s e hi hst q ⟨L, es, ep, t, g, gh⟩ hR
    have hlt : i < n := by omega
    refine codeAny_builtin PyProof.Rows.F.entry_set_update_loop ?_
    rw [Around.under_plainId PyProof.Rows.F.plain_set_update_loop _]
    refine wpAny_bind (m := pyNext (.ref I)) (W.item i s _ _ hlt hst fun v s' hP hst' hm => ?_)
    obtain ⟨p, hp, rfl⟩ := hval i v hP
    have q' := old hm q
    have at' : KeysAt s'.heap ks := fun u m => (hk u m).keep q'
    have in' : KeysAt s'.heap L := fun u m => at' u (List.mem_of_mem_take (gh.sub u m))
    have hx := at' p (List.mem_of_getElem? hp)
    show wpAny _ A.in1 (holding [Value.ref p.2] (setAdd S (.ref p.2)) >>= _) _ _ s'
    refine wpAny_bind (wpAny_holding ?_)
    unfold setAdd
    refine wpAny_holding (wpAny_bind ((nestedKind P w).pyHash hu hx ?_))
    refine put_in (s := { s' with toks := s'.toks + (nestedKind P w).draws p.1 }) (g.keep fun o e => hm.heap S o hSw e) in' hx hu (by have := gh.len; omega) fun b h' L' es' ep' t' sb g2 c1 c2 => ?_
    have q2 : ∀ b o, h0.get? b = some o → h'.get? b = some o := fun b o e => (sb.2 b fun z => by rw [z, hS0] at e; cases e).trans (q' b o e)
    refine wpAny_pure ⟨plainId_quiet PyProof.Rows.F.plain_set_update_loop _, ih (i + 1) _ (by omega) hlt (W.frame _ s' _ _ hst' (Nat.le_add_right _ _) fun b hb o e => ?_) q2 ⟨L', es', ep', t', g2, gh.next hp c1 c2⟩ fun s'' L2 es2 ep2 t2 hm2 g3 gh3 q3 => ?_⟩
    · rw [sb.2 b fun z => hSf (z ▸ hb)]
      exact e
    · refine hR s'' L2 es2 ep2 t2 (Moved.trans W.gtrans ((hm.mono hsub).then_heap (Nat.le_add_right _ _) fun b o hb e => ?_) hm2) g3 gh3 q3
      rw [sb.2 b fun z => hb (by rw [z]; exact List.mem_cons_self)]
      exact e
end
section
variable {P : Program} {w : World} {A : Around} {E : Value → Shared → Prop} {s : Shared}
set_option maxHeartbeats 8000000 in
theorem setK_list {l : Addr} {items : Array Value} (ks : List Kp2) {Q : Value → Shared → Prop} (hh : A.handled = none) (hl : s.heap.IsList l items) (hi : items.toList = ks.map fun p => Value.ref p.2) (hk : KeysAt s.heap ks) (hf : ks.length < 300) (hu : A.units + 16 < cLine)
    (h : ∀ (h' : Heap) (tk : Nat) L es ep t, KSet w h' s.heap.objs.size L es ep t → Has ks ks.length L → (∀ b o, s.heap.get? b = some o → h'.get? b = some o) → Q (.ref s.heap.objs.size) { s with heap := h', toks := tk }) :
    wpAny (model P w) A (call (.type "set") [.ref l]) Q E s := by
  obtain ⟨c, tl, hmro⟩ := PySem.F.called_set.mro
  have hmade := PySem.F.called_set.made
  have hsub := PySem.F.called_set.sub
  have hsz : items.size = ks.length := by rw [← Array.length_toList, hi, List.length_map]
  refine wpAny_call (codeAny_of_tree ?_)
  show wpAny _ _ (callAny (.type "set") _) _ _ _
  refine wpAny_pure ⟨Code.quiet_builtin _ (by decide +kernel), codeAny_builtin PySem.F.entry_type_call ?_⟩
  rw [Around.under_plain (weight_type_call_type "set" [.ref l] []) rfl]
  have q1 := PySem.F.called_set.notType
  have q2 := PySem.F.called_set.canCreate
  have q3 := PySem.F.typeCall_set_1 (.ref l)
  repeat (any_goals (first | assumption | wp_step))
  obtain ⟨B, hB⟩ : ∃ B : Bool, B = !w.params.followText "set-order" := ⟨_, rfl⟩
  refine codeAny_mono (code_set_led1 (.ref l) (E := E) (Q₁ := fun v s₁ => v = .ref s.heap.objs.size ∧ s₁ = { s with heap := s.heap.push { cls := .type "set", dict := none, data := .set #[] 0 (.fresh 0 0 B) } }) ⟨rfl, by rw [hB]⟩) fun r s₁ hr => ?_
  cases r with
  | error e => exact hr
  | ok fl =>
    cases fl with
    | ret v =>
      obtain ⟨rfl, rfl⟩ := hr
      have hS : (s.heap.push { cls := .type "set", dict := none, data := .set #[] 0 (.fresh 0 0 B) }).get? s.heap.objs.size = some { cls := .type "set", dict := none, data := .set #[] 0 (.fresh 0 0 B) } := Heap.get?_push_size _ rfl
      have hT : Shared.TypeIs { s with heap := s.heap.push { cls := .type "set", dict := none, data := .set #[] 0 (.fresh 0 0 B) } } (.ref s.heap.objs.size) "set" := ⟨_, hS, rfl⟩
      have q4 := PySem.F.called_set.init.lookup
      have q5 := PySem.F.called_set.init.bind (.ref s.heap.objs.size)
      repeat (any_goals (first | assumption | wp_step))
      refine codeAny_mono (codeAny_call_builtin (R := wants (fun r s₂ => r = .none ∧ ∃ h' tk L es ep t, s₂ = { s with heap := h', toks := tk } ∧ KSet w h' s.heap.objs.size L es ep t ∧ Has ks ks.length L ∧ (∀ b o, s.heap.get? b = some o → h'.get? b = some o)) E)
        PySem.F.called_set.init.plain PySem.F.entry_set_init (check_set_init_1 hT ?_)) fun r₂ s₂ hr₂ => ?_
      · have hlS : l < s.heap.objs.size := by
          obtain ⟨ol, hol, _⟩ := hl
          exact Heap.lt_size hol
        have hl1 : (s.heap.push { cls := .type "set", dict := none, data := .set #[] 0 (.fresh 0 0 B) }).IsList l items := hl.push _
        obtain ⟨ol, hol, hcl, nl, hdl⟩ := hl1
        obtain ⟨ocls, odict, odata, oslots⟩ := ol
        simp only at hcl hdl
        subst hcl; subst hdl
        have hol' := hol
        have q6 := PySem.F.sub_list_set
        have q7 := PySem.F.sub_list_frozenset
        have q8 : (Value.type "list" == Value.type "dict") = false := by decide
        have hl1 : (s.heap.push { cls := .type "set", dict := none, data := .set #[] 0 (.fresh 0 0 B) }).IsList l items := ⟨_, hol, rfl, nl, rfl⟩
        unfold Builtin.«set.__init__» noKeywords Builtin.Frozenset.updateFrom
        generalize hPI : pyIter = PI
        wp_walk
        subst hPI
        refine wpAny_pyIter_list hl1 ?_
        refine wpAny_bind (wpAny_runValue ?_)
        have hh3 : A.in1.in1.in1.handled = none := by simp [hh]
        have hps : (s.heap.push { cls := .type "set", dict := none, data := .set #[] 0 (.fresh 0 0 B) }).objs.size = s.heap.objs.size + 1 := Heap.size_push _ _
        have hneI : l ≠ (s.heap.push { cls := .type "set", dict := none, data := .set #[] 0 (.fresh 0 0 B) }).objs.size := by
          rw [hps]
          exact Nat.ne_of_lt (Nat.lt_succ_of_lt hlS)
        have hSf : s.heap.objs.size ∉ [(s.heap.push { cls := .type "set", dict := none, data := .set #[] 0 (.fresh 0 0 B) }).objs.size, l] := by
          rw [hps]
          simp only [List.mem_cons, List.not_mem_nil, or_false, not_or]
          exact ⟨Nat.ne_of_lt (Nat.lt_succ_self _), Nat.ne_of_gt hlS⟩
        have hval : ∀ (i : Nat) (v : Value), items[i]? = some v → ∃ p, ks[i]? = some p ∧ v = .ref p.2 := fun i v hv => by
          rw [← Array.getElem?_toList, hi, List.getElem?_map] at hv
          obtain ⟨p, hp, e⟩ := Option.map_eq_some_iff.mp hv
          exact ⟨p, hp, e.symm⟩
        refine fillK ((Walks.list hh3 _ l hneI items).toS) s.heap.objs.size hSf ks hsz hf hval s.heap hk (Heap.get?_none_of_le (Nat.le_refl _)) (fun b hb => Heap.get?_none_of_le (by rw [List.mem_singleton.mp hb, hps]; exact Nat.le_succ _))
          (by simp only [Around.in1_units]; omega) (items.size - 0) 0 _ (by omega) (Nat.zero_le _) ⟨⟨_, Heap.get?_push_size _ rfl, rfl, rfl⟩, (hl1.push _)⟩ (fun b o e => Heap.get?_push_of_some _ (Heap.get?_push_of_some _ e)) ?hS0 ?hR
        case hS0 =>
          have hget : ((s.heap.push { cls := .type "set", dict := none, data := .set #[] 0 (.fresh 0 0 B) }).push { cls := .type "list_iterator", data := .fields #[.ref l, .int 0 0] }).get? s.heap.objs.size
              = some { cls := .type "set", dict := none, data := .set #[] 0 (.fresh 0 0 B) } := Heap.get?_push_of_some _ hS
          refine ⟨[], #[], 0, .fresh 0 0 B, ?_, ⟨(fun p hp => nomatch hp), (fun p hp => by simp at hp), Nat.le_refl _⟩⟩
          subst hB
          exact kset_new hget
        case hR =>
          intro s' L es ep t hm hF g hk'
          obtain ⟨h', g', d', tk', os'⟩ := s'
          have eg : g' = s.gens := hm.gens
          have ed : d' = s.drawn := hm.drawn
          have eo : os' = s.os := hm.os
          subst eg; subst ed; subst eo
          show wpAny _ _ _ _ _ _
          refine wpAny_pure ?_
          show wpAny _ _ (ret Value.none) _ _ _
          rw [hsz] at g
          exact wpAny_pure ⟨rfl, h', tk', L, es, ep, t, rfl, hF, g, hk'⟩
      · cases r₂ with
        | error e => exact hr₂
        | ok fl₂ =>
          cases fl₂ with
          | ret r =>
            obtain ⟨rfl, h', tk, L, es, ep, t, rfl, hF, g, hk'⟩ := hr₂
            repeat (any_goals (first | assumption | wp_step))
            exact h _ _ _ _ _ _ hF g hk'
          | _ => exact hr₂.elim
    | _ => exact hr.elim
set_option maxHeartbeats 8000000 in
theorem setK_tuple {l : Addr} {items : Array Value} (ks : List Kp2) {Q : Value → Shared → Prop} (hh : A.handled = none) (hl : s.heap.IsTuple l items) (hi : items.toList = ks.map fun p => Value.ref p.2) (hk : KeysAt s.heap ks) (hf : ks.length < 300) (hu : A.units + 16 < cLine)
    (h : ∀ (h' : Heap) (tk : Nat) L es ep t, KSet w h' s.heap.objs.size L es ep t → Has ks ks.length L → (∀ b o, s.heap.get? b = some o → h'.get? b = some o) → Q (.ref s.heap.objs.size) { s with heap := h', toks := tk }) :
    wpAny (model P w) A (call (.type "set") [.ref l]) Q E s := by
  obtain ⟨c, tl, hmro⟩ := PySem.F.called_set.mro
  have hmade := PySem.F.called_set.made
  have hsub := PySem.F.called_set.sub
  have hsz : items.size = ks.length := by rw [← Array.length_toList, hi, List.length_map]
  refine wpAny_call (codeAny_of_tree ?_)
  show wpAny _ _ (callAny (.type "set") _) _ _ _
  refine wpAny_pure ⟨Code.quiet_builtin _ (by decide +kernel), codeAny_builtin PySem.F.entry_type_call ?_⟩
  rw [Around.under_plain (weight_type_call_type "set" [.ref l] []) rfl]
  have q1 := PySem.F.called_set.notType
  have q2 := PySem.F.called_set.canCreate
  have q3 := PySem.F.typeCall_set_1 (.ref l)
  repeat (any_goals (first | assumption | wp_step))
  obtain ⟨B, hB⟩ : ∃ B : Bool, B = !w.params.followText "set-order" := ⟨_, rfl⟩
  refine codeAny_mono (code_set_led1 (.ref l) (E := E) (Q₁ := fun v s₁ => v = .ref s.heap.objs.size ∧ s₁ = { s with heap := s.heap.push { cls := .type "set", dict := none, data := .set #[] 0 (.fresh 0 0 B) } }) ⟨rfl, by rw [hB]⟩) fun r s₁ hr => ?_
  cases r with
  | error e => exact hr
  | ok fl =>
    cases fl with
    | ret v =>
      obtain ⟨rfl, rfl⟩ := hr
      have hS : (s.heap.push { cls := .type "set", dict := none, data := .set #[] 0 (.fresh 0 0 B) }).get? s.heap.objs.size = some { cls := .type "set", dict := none, data := .set #[] 0 (.fresh 0 0 B) } := Heap.get?_push_size _ rfl
      have hT : Shared.TypeIs { s with heap := s.heap.push { cls := .type "set", dict := none, data := .set #[] 0 (.fresh 0 0 B) } } (.ref s.heap.objs.size) "set" := ⟨_, hS, rfl⟩
      have q4 := PySem.F.called_set.init.lookup
      have q5 := PySem.F.called_set.init.bind (.ref s.heap.objs.size)
      repeat (any_goals (first | assumption | wp_step))
      refine codeAny_mono (codeAny_call_builtin (R := wants (fun r s₂ => r = .none ∧ ∃ h' tk L es ep t, s₂ = { s with heap := h', toks := tk } ∧ KSet w h' s.heap.objs.size L es ep t ∧ Has ks ks.length L ∧ (∀ b o, s.heap.get? b = some o → h'.get? b = some o)) E)
        PySem.F.called_set.init.plain PySem.F.entry_set_init (check_set_init_1 hT ?_)) fun r₂ s₂ hr₂ => ?_
      · have hlS : l < s.heap.objs.size := by
          obtain ⟨ol, hol, _⟩ := hl
          exact Heap.lt_size hol
        have hl1 : (s.heap.push { cls := .type "set", dict := none, data := .set #[] 0 (.fresh 0 0 B) }).IsTuple l items := hl.push _
        obtain ⟨ol, hol, hcl, nl, hdl⟩ := hl1
        obtain ⟨ocls, odict, odata, oslots⟩ := ol
        simp only at hcl hdl
        subst hcl; subst hdl
        have hol' := hol
        have q6 := PySem.F.sub_tuple_set
        have q7 := PySem.F.sub_tuple_frozenset
        have q8 : (Value.type "tuple" == Value.type "dict") = false := by decide
        have hl1 : (s.heap.push { cls := .type "set", dict := none, data := .set #[] 0 (.fresh 0 0 B) }).IsTuple l items := ⟨_, hol, rfl, nl, rfl⟩
        unfold Builtin.«set.__init__» noKeywords Builtin.Frozenset.updateFrom
        generalize hPI : pyIter = PI
        wp_walk
        subst hPI
        refine wpAny_pyIter_tuple hl1 ?_
        refine wpAny_bind (wpAny_runValue ?_)
        have hh3 : A.in1.in1.in1.handled = none := by simp [hh]
        have hps : (s.heap.push { cls := .type "set", dict := none, data := .set #[] 0 (.fresh 0 0 B) }).objs.size = s.heap.objs.size + 1 := Heap.size_push _ _
        have hneI : l ≠ (s.heap.push { cls := .type "set", dict := none, data := .set #[] 0 (.fresh 0 0 B) }).objs.size := by
          rw [hps]
          exact Nat.ne_of_lt (Nat.lt_succ_of_lt hlS)
        have hSf : s.heap.objs.size ∉ [(s.heap.push { cls := .type "set", dict := none, data := .set #[] 0 (.fresh 0 0 B) }).objs.size, l] := by
          rw [hps]
          simp only [List.mem_cons, List.not_mem_nil, or_false, not_or]
          exact ⟨Nat.ne_of_lt (Nat.lt_succ_self _), Nat.ne_of_gt hlS⟩
        have hval : ∀ (i : Nat) (v : Value), items[i]? = some v → ∃ p, ks[i]? = some p ∧ v = .ref p.2 := fun i v hv => by
          rw [← Array.getElem?_toList, hi, List.getElem?_map] at hv
          obtain ⟨p, hp, e⟩ := Option.map_eq_some_iff.mp hv
          exact ⟨p, hp, e.symm⟩
        refine fillK ((Walks.tuple hh3 _ l hneI items).toS) s.heap.objs.size hSf ks hsz hf hval s.heap hk (Heap.get?_none_of_le (Nat.le_refl _)) (fun b hb => Heap.get?_none_of_le (by rw [List.mem_singleton.mp hb, hps]; exact Nat.le_succ _))
          (by simp only [Around.in1_units]; omega) (items.size - 0) 0 _ (by omega) (Nat.zero_le _) ⟨⟨_, Heap.get?_push_size _ rfl, rfl, rfl⟩, (hl1.push _)⟩ (fun b o e => Heap.get?_push_of_some _ (Heap.get?_push_of_some _ e)) ?hS0 ?hR
        case hS0 =>
          have hget : ((s.heap.push { cls := .type "set", dict := none, data := .set #[] 0 (.fresh 0 0 B) }).push { cls := .type "tuple_iterator", data := .fields #[.ref l, .int 0 0] }).get? s.heap.objs.size
              = some { cls := .type "set", dict := none, data := .set #[] 0 (.fresh 0 0 B) } := Heap.get?_push_of_some _ hS
          refine ⟨[], #[], 0, .fresh 0 0 B, ?_, ⟨(fun p hp => nomatch hp), (fun p hp => by simp at hp), Nat.le_refl _⟩⟩
          subst hB
          exact kset_new hget
        case hR =>
          intro s' L es ep t hm hF g hk'
          obtain ⟨h', g', d', tk', os'⟩ := s'
          have eg : g' = s.gens := hm.gens
          have ed : d' = s.drawn := hm.drawn
          have eo : os' = s.os := hm.os
          subst eg; subst ed; subst eo
          show wpAny _ _ _ _ _ _
          refine wpAny_pure ?_
          show wpAny _ _ (ret Value.none) _ _ _
          rw [hsz] at g
          exact wpAny_pure ⟨rfl, h', tk', L, es, ep, t, rfl, hF, g, hk'⟩
      · cases r₂ with
        | error e => exact hr₂
        | ok fl₂ =>
          cases fl₂ with
          | ret r =>
            obtain ⟨rfl, h', tk, L, es, ep, t, rfl, hF, g, hk'⟩ := hr₂
            repeat (any_goals (first | assumption | wp_step))
            exact h _ _ _ _ _ _ hF g hk'
          | _ => exact hr₂.elim
    | _ => exact hr.elim
end
end Qk
set_option maxRecDepth 100000
set_option maxHeartbeats 4000000
namespace Qk
open PySem PySem.Spec PyProof.Rows L2
/-! ### over the layer: set(xs) of questions, sorted(..) of it -/
def keyS (x : Str) : NestedKey := .text x
def nkQ (q : Qd) : NestedKey := .tup [.tup (q.1.map keyS), .text q.2]
theorem map_keyS_inj : ∀ {xs ys : List Str}, xs.map keyS = ys.map keyS → xs = ys
  | [], [], _ => rfl
  | [], _ :: _, h => nomatch h
  | _ :: _, [], h => nomatch h
  | x :: xs, y :: ys, h => by
    injection h with h1 h2
    injection h1 with h1
    rw [h1, map_keyS_inj h2]
theorem keyQ_inj {p q : Qd} (h : nkQ p = nkQ q) : p = q := by
  unfold nkQ at h
  injection h with h
  injection h with h1 h2
  injection h1 with h1
  injection h2 with h2
  injection h2 with h2
  exact Prod.ext (map_keyS_inj h1) h2
theorem depth_keyS : ∀ xs : List Str, NestedKey.depthAll (xs.map keyS) = 0
  | [] => rfl
  | _ :: xs => by
    rw [List.map_cons, NestedKey.depthAll, depth_keyS xs]
    rfl
theorem depth_keyQ (q : Qd) : (nkQ q).depth ≤ 8 := by
  unfold nkQ
  simp only [NestedKey.depth, NestedKey.depthAll, depth_keyS]
  decide
theorem all_keyS {h : Heap} : ∀ {us : List Value} {xs : List Str}, PyProof.Rows.StrsAre us xs → NestedAll h (xs.map keyS) us
  | _, _, .nil => .nil
  | _, _, .cons x t r => .cons (.text x t) (all_keyS r)
theorem IsQ.key {h : Heap} {a : Addr} {q : Qd} (x : IsQ h (.ref a) q) : KAt h (nkQ q) a := by
  obtain ⟨a', c, o, oc, t, us, n, m, e, ho, hc, hd, hoc, hcc, hdc, hs⟩ := x
  cases e
  exact ⟨.tup ho hc hd (.cons (.tup hoc hcc hdc (by simpa using all_keyS hs)) (.cons (.text _ _) .nil)), depth_keyQ q⟩
/-- the pairs of a question and where it stands -/
abbrev QPs := List (Qd × Addr)
def toK (L : QPs) : List Kp2 := L.map fun p => (nkQ p.1, p.2)
def KSet0 (w : World) (h : Heap) (a : Addr) (L : QPs) : Prop := ∃ es ep t, KSet w h a (toK L) es ep t
/-- the set of questions at a -/
def SetQ (w : World) (a : Addr) (L : QPs) : HO := .ext fun h => KSet0 w h a L
theorem setQ_new {P : Program} {w : World} {H : Hp} {h : Heap} {a : Addr} {L : QPs} (R : KSet0 w h a L) : ObjOk P w H h a (SetQ w a L) := by
  have ⟨es, ep, t, g⟩ := R
  have ⟨o, ho, _⟩ := g.ob
  exact ⟨R, ⟨o, ho⟩, fun h1 h2 p k => by
    have ⟨es', ep', t', g'⟩ : KSet0 w h1 a L := p
    exact ⟨es', ep', t', g'.keep fun u e => k u e⟩⟩
theorem fst_toK (L : QPs) : (toK L).map Prod.fst = L.map fun p => nkQ p.1 := by
  unfold toK
  rw [List.map_map]
  rfl
theorem mem_keys {L : QPs} {q : Qd} : nkQ q ∈ (toK L).map Prod.fst ↔ q ∈ L.map Prod.fst := by
  rw [fst_toK, List.mem_map, List.mem_map]
  exact ⟨fun ⟨p, hp, e⟩ => ⟨p, hp, keyQ_inj e⟩, fun ⟨p, hp, e⟩ => ⟨p, hp, by rw [e]⟩⟩
theorem nodup_keys {L : QPs} (h : ((toK L).map Prod.fst).Nodup) : (L.map Prod.fst).Nodup := by
  rw [fst_toK] at h
  have e : (L.map fun p => nkQ p.1) = (L.map Prod.fst).map nkQ := by rw [List.map_map]; rfl
  rw [e] at h
  exact List.Pairwise.of_map nkQ (fun a b hne e => hne (congrArg nkQ e)) h
theorem refs_q : ∀ {L : QPs} {us : List Value}, Vals (L.map fun p => V.ref p.2) us → us = (toK L).map fun p => Value.ref p.2
  | [], _, .nil => rfl
  | p :: L, _, .cons r t => by
    cases r
    show _ = Value.ref p.2 :: _
    rw [refs_q t]
    rfl
section
variable {X : Cx}
theorem Inv.isQ {pins : List (Addr × Obj)} {σ : L2.St} {H : Hp} {s : Shared} {a : Addr} {q : Qd} (I : Inv X pins σ H s) (h : QAt H a q.1 q.2) : IsQ s.heap (.ref a) q := by
  obtain ⟨c, g1, g2⟩ := h
  obtain ⟨_, i1, r1, o, ho, hc, n, hd⟩ := I.hok _ _ g1
  obtain ⟨_, i2, r2, oc, hoc, hcc, m, hdc⟩ := I.hok _ _ g2
  obtain ⟨u1, u2, rfl, ra, rb⟩ := vals2 r1
  obtain rfl : u1 = Value.ref c := ra
  obtain ⟨tk, rfl⟩ := rb
  exact ⟨a, c, o, oc, tk, i2, n, m, rfl, ho, hc, hd, hoc, hcc, hdc, r2.strs⟩
theorem QL.pairs {H : Hp} : ∀ {xs : List V} {qs : List Qd}, QL H xs qs → ∃ L : QPs, xs = L.map (fun p => V.ref p.2) ∧ qs = L.map Prod.fst ∧ ∀ p ∈ L, QAt H p.2 p.1.1 p.1.2
  | _, _, .nil => ⟨[], rfl, rfl, fun p hp => nomatch hp⟩
  | _, _, .cons (b := q) ⟨t, e, z⟩ r => by
    obtain ⟨L, rfl, rfl, h⟩ := QL.pairs r
    refine ⟨(q, t) :: L, by rw [e]; rfl, rfl, fun p hp => ?_⟩
    rcases List.mem_cons.mp hp with rfl | hp
    · exact z
    · exact h p hp
/-- the members of set(xs): questions of xs, each of them once -/
structure SetOfQ (H : Hp) (xs : List V) (qs : List Qd) (M : QPs) : Prop where
  at_ : ∀ p ∈ M, QAt H p.2 p.1.1 p.1.2
  sub : ∀ p ∈ M, V.ref p.2 ∈ xs
  mem : ∀ q, q ∈ M.map Prod.fst ↔ q ∈ qs
  nd : (M.map Prod.fst).Nodup
def rSetQ (K : PySem.W.Frag) (w : World) : List V → Hp → VK → Prop := fun vs H Q => ∃ (l : Addr) (xs : List V) (qs : List Qd), vs = [.ref l] ∧ (SqL K H l xs ∨ SqT K H l xs) ∧ QL H xs qs ∧ xs.length < 300 ∧
  ∀ (p : Addr) (M : QPs), H p = none → SetOfQ H xs qs M → Q (.ref p) (upd H p (SetQ w p M))
theorem cr_setQ (hc : X.calm = true) (hu : X.A.units + 16 < cLine) : CallR X (.type "set") (rSetQ X.K X.w) := by
  intro pins s σ H vs us Q I r h
  obtain ⟨l, xs, qs, rfl, hs, hq, hz, q⟩ := h
  obtain ⟨u, rfl, rx⟩ := vals1 r
  cases rx
  obtain ⟨L, rfl, rfl, at_⟩ := hq.pairs
  have keys : KeysAt s.heap (toK L) := fun p hp => by
    obtain ⟨x, hx, rfl⟩ := List.mem_map.mp hp
    exact (Inv.isQ I (at_ x hx)).key
  have hn : H s.heap.objs.size = none := I.hok.fresh (Nat.le_refl _)
  have len : (toK L).length < 300 := by
    unfold toK
    rw [List.length_map] at hz ⊢
    exact hz
  have fin : ∀ (h' : Heap) (tk : Nat) M es ep t, KSet X.w h' s.heap.objs.size M es ep t → Has (toK L) (toK L).length M → (∀ b o, s.heap.get? b = some o → h'.get? b = some o) →
      EP X pins σ Q (.ref s.heap.objs.size) { s with heap := h', toks := tk } := fun h' tk M es ep t g gh hk => by
    have back : ∀ M : List Kp2, (∀ p ∈ M, p ∈ toK L) → ∃ M' : QPs, (∀ p ∈ M', p ∈ L) ∧ M = toK M' := by
      intro M
      induction M with
      | nil => exact fun _ => ⟨[], (fun p hp => nomatch hp), rfl⟩
      | cons x M ih =>
        intro hM
        obtain ⟨M', m1, m2⟩ := ih fun p hp => hM p (List.mem_cons_of_mem _ hp)
        obtain ⟨y, hy, e⟩ := List.mem_map.mp (hM x List.mem_cons_self)
        refine ⟨y :: M', fun p hp => ?_, ?_⟩
        · rcases List.mem_cons.mp hp with z | z
          · rw [z]; exact hy
          · exact m1 p z
        · rw [m2, ← e]; rfl
    obtain ⟨M', m1, rfl⟩ := back M fun p hp => List.mem_of_mem_take (gh.sub p hp)
    refine ⟨.ref s.heap.objs.size, _, I.laid (t' := tk) hk (Nat.le_refl _) (setQ_new ⟨es, ep, t, g⟩), rfl, q _ M' hn ⟨fun p hp => at_ p (m1 p hp), fun p hp => List.mem_map.mpr ⟨p, m1 p hp, rfl⟩, fun z => ⟨fun hz => ?_, fun hz => ?_⟩, nodup_keys g.nd⟩⟩
    · obtain ⟨p, hp, e⟩ := List.mem_map.mp hz
      exact List.mem_map.mpr ⟨p, m1 p hp, e⟩
    · obtain ⟨p, hp, rfl⟩ := List.mem_map.mp hz
      refine mem_keys.mp (gh.all (nkQ p.1, p.2) ?_)
      rw [List.take_length]
      exact List.mem_map.mpr ⟨p, hp, rfl⟩
  rcases hs with hs | hs
  · obtain ⟨its, rv, pl, _⟩ := I.list hs
    exact setK_list (toK L) (I.ok.hd hc) pl.isList (by simpa using refs_q rv) keys len hu fin
  · obtain ⟨its, rv, pl, _⟩ := I.tuple hs
    exact setK_tuple (toK L) (I.ok.hd hc) pl (by simpa using refs_q rv) keys len hu fin
/-! ### sorted of such a set -/
/-- the question of a value that is a member -/
def kOf (M : QPs) : Value → Qd
  | .ref a => ((M.find? fun p => decide (p.2 = a)).map Prod.fst).getD ([], "")
  | _ => ([], "")
theorem kOf_at {M : QPs} {p : Qd × Addr} (hp : p ∈ M) : ∃ q ∈ M, q.2 = p.2 ∧ kOf M (.ref p.2) = q.1 := by
  cases hf : M.find? fun q => decide (q.2 = p.2) with
  | none => exact absurd (decide_eq_true rfl) (List.find?_eq_none.mp hf p hp)
  | some q =>
    refine ⟨q, List.mem_of_find?_eq_some hf, (by have := List.find?_some hf; simpa using this), ?_⟩
    show ((M.find? fun q => decide (q.2 = p.2)).map Prod.fst).getD _ = _
    rw [hf]
    rfl
def rSortSetQ (w : World) : List V → Hp → VK → Prop := fun vs H Q => ∃ (a : Addr) (M : QPs), vs = [.ref a] ∧ H a = some (SetQ w a M) ∧ (∀ p ∈ M, QAt H p.2 p.1.1 p.1.2) ∧ (∀ p ∈ M, ∀ c ∈ p.1.1, PyData.strOk c = true) ∧
  ∀ (ys : List V) (zs : List Qd) (p : Addr), H p = none → QL H ys zs → zs.Perm (M.map Prod.fst) → rising zs → (∀ y ∈ ys, ∃ q ∈ M, y = V.ref q.2) → Q (.ref p) (upd H p (.lst ys))
theorem cr_sortSetQ (hc : X.calm = true) (hu : X.A.units + 80 < cLine) : CallR X (.builtin "sorted") (rSortSetQ X.w) := by
  intro pins s σ H vs us Q I r h
  obtain ⟨a, M, rfl, ha, hm, ho, q⟩ := h
  obtain ⟨u, rfl, rx⟩ := vals1 r
  cases rx
  have ⟨es, ep, t, g⟩ : KSet0 X.w s.heap a M := (I.hok a _ ha).1
  obtain ⟨ob, gob, gex, gd⟩ := g.ob
  have hzs : es.size = M.length := by rw [sz_rows g.rows]; exact List.length_map _
  have hfew : M.length < 300 := by
    have := g.few
    unfold toK at this
    rw [List.length_map] at this
    exact this
  have hes : es.toList.map (·.2) = M.map fun p => Value.ref p.2 := by
    rw [g.rows, toK, List.map_map, List.map_map]
    rfl
  have isq : ∀ v, v ∈ (M.map fun p => Value.ref p.2) → IsQ s.heap v (kOf M v) ∧ (∀ c ∈ (kOf M v).1, PyData.strOk c = true) := fun v hv => by
    obtain ⟨p, hp, rfl⟩ := List.mem_map.mp hv
    obtain ⟨p', h1, h2, h3⟩ := kOf_at hp
    rw [h3, ← h2]
    exact ⟨Inv.isQ I (hm p' h1), ho p' h1⟩
  refine Calls.call_function_entry PyProof.Rows.kind_sorted PyProof.Rows.plain_sorted PyProof.Rows.entry_sorted (args_sorted1 _) ?_
  unfold Builtin.«sorted»
  refine wpAny_bind (m := checkCount "sorted" 1 1 _) (wpAny_pure ?_)
  refine wpAny_bind (collect_set (A := X.A.in1) (I.ok.hd hc) ⟨ob, gob, gex.1, gd⟩ g.fits (by unfold scanBound; omega) g.tab.up g.led fun s1 vs k1 hz g1 o1 pm => ?_)
  rw [hes] at pm
  have hvl : vs.length = M.length := by rw [pm.length_eq, List.length_map]
  refine wpAny_bind (wpAny_newList ?_ (by rw [sizeLine_eq]; omega))
  have hoL : (s1.heap.push (seqObj "list" vs.toArray 0)).get? s1.heap.objs.size = some (seqObj "list" vs.toArray 0) := Heap.get?_push_size _ rfl
  refine wpAny_bind (wpAny_holding (wpAny_call_entry PyProof.Rows.slot_list_sort ⟨_, hoL, rfl⟩ PyProof.Rows.entry_list_sort
    (SrtO.list_sort_ord (s := { s1 with heap := s1.heap.push (seqObj "list" vs.toArray 0) }) (swo_q (kOf M)) hoL (by rw [sizeLine_eq]; omega) (fun h2 => ?_) fun out h1 h2 => ⟨_, rfl, ?_⟩) (args_list_sort _)))
  · refine q_sortable (by show X.A.units + 1 + 1 + 64 < cLine; omega) (by omega) (fun v hv => (isq v (pm.mem_iff.mp hv)).2) (fun v hv => (isq v (pm.mem_iff.mp hv)).1.keeps fun b o e _ => Heap.get?_push_of_some _ (k1 b o e)) fun o e => ?_
    have e' : some o = some (seqObj "list" vs.toArray 0) := e.symm.trans hoL
    cases e'
    intro c
    exact absurd (Value.type.inj c) (by decide)
  · have pmO : out.Perm (M.map fun p => Value.ref p.2) := h2.perm.trans pm
    have h3 : ∀ u ∈ out, ∃ a, u = Value.ref a := fun u hu' => by
      obtain ⟨p, _, e⟩ := List.mem_map.mp (pmO.mem_iff.mp hu')
      exact ⟨p.2, e.symm⟩
    obtain ⟨n, hnO⟩ := sortedHeap_at (vs := vs) (out := out.toArray) hoL
    have old : ∀ b o, s.heap.get? b = some o → (sortedHeap (s1.heap.push (seqObj "list" vs.toArray 0)) s1.heap.objs.size vs out.toArray).get? b = some o := fun b o e => by
      have e1 := k1 b o e
      have lt := Heap.lt_size e1
      rw [sortedHeap_old (Nat.ne_of_lt lt) (by rw [size_push']; exact Nat.lt_succ_of_lt lt)]
      exact Heap.get?_push_of_some _ e1
    have hn : H s1.heap.objs.size = none := I.hok.fresh hz
    have lo : (out.map backV).length ≤ sizeLine := by rw [List.length_map, pmO.length_eq, List.length_map, sizeLine_eq]; omega
    have J : Inv X pins σ (upd H s1.heap.objs.size (.lst (out.map backV))) { s with heap := sortedHeap (s1.heap.push (seqObj "list" vs.toArray 0)) s1.heap.objs.size vs out.toArray, gens := s1.gens, drawn := s1.drawn, toks := s1.toks } :=
      I.call (ch := []) (Un.laid old hz hn) (I.hok.laid old hz ⟨lo, out, n, vals_back h3, hnO⟩) (by rw [g1]; exact I.bare) (fun _ z => nomatch z)
    have qat : ∀ v ∈ out, ∃ t, backV v = V.ref t ∧ QAt H t (kOf M v).1 (kOf M v).2 := fun v hv => by
      obtain ⟨p, hp, rfl⟩ := List.mem_map.mp (pmO.mem_iff.mp hv)
      obtain ⟨p', h1, h2, h3⟩ := kOf_at hp
      refine ⟨p.2, rfl, ?_⟩
      rw [h3, ← h2]
      exact hm p' h1
    have ql : ∀ {l : List Value}, (∀ v ∈ l, ∃ t, backV v = V.ref t ∧ QAt H t (kOf M v).1 (kOf M v).2) → QL H (l.map backV) (l.map (kOf M)) := by
      intro l
      induction l with
      | nil => exact fun _ => .nil
      | cons v l ih => exact fun hl => .cons (hl v List.mem_cons_self) (ih fun u hu' => hl u (List.mem_cons_of_mem _ hu'))
    have kk : (M.map fun p => Value.ref p.2).map (kOf M) = M.map Prod.fst := by
      rw [List.map_map]
      refine List.map_congr_left fun p hp => ?_
      obtain ⟨p', h1, h2, h3⟩ := kOf_at hp
      show kOf M (.ref p.2) = p.1
      rw [h3]
      have a1 := hm p' h1
      rw [h2] at a1
      exact QAt.uniq a1 (hm p hp)
    have hQ := q (out.map backV) (out.map (kOf M)) s1.heap.objs.size hn (ql qat) (by rw [← kk]; exact pmO.map (kOf M)) (List.pairwise_map.mpr h1) fun y hy => by
      obtain ⟨v, hv, rfl⟩ := List.mem_map.mp hy
      obtain ⟨p, hp, rfl⟩ := List.mem_map.mp (pmO.mem_iff.mp hv)
      exact ⟨p, hp, rfl⟩
    have eS : { s1 with heap := sortedHeap (s1.heap.push (seqObj "list" vs.toArray 0)) s1.heap.objs.size vs out.toArray } = { s with heap := sortedHeap (s1.heap.push (seqObj "list" vs.toArray 0)) s1.heap.objs.size vs out.toArray, gens := s1.gens, drawn := s1.drawn, toks := s1.toks } := by
      cases s1
      cases s
      cases o1
      rfl
    show wpAny _ _ _ _ _ _
    exact wpAny_pure ⟨_, rfl, by rw [eS]; exact ⟨.ref s1.heap.objs.size, _, J, rfl, hQ⟩⟩
end
end Qk
set_option maxRecDepth 100000
set_option maxHeartbeats 4000000
namespace Qk
open PySem PySem.Spec PyProof.Rows L2
/-! ### one question < another one -/
/-! ### enumerate of a list -/
theorem for_enumL {K : PySem.W.Frag} {a : Addr} {xs : List V} {g : TG} {tb : TS} {D : Ends} {σ : L2.St} {H : Hp} (Pv : Nat → L2.St → Hp → Prop) (h0 : Pv 0 σ H) (hl : ∀ i σ H, i ≤ xs.length → Pv i σ H → SqL K H a xs)
    (hs : ∀ i x σ H, xs[i]? = some x → Pv i σ H → ∀ T, H T = none → g (.ref T) σ (upd H T (.tup [.int (i : Nat), x])) fun σ2 H2 => tb { D with nx := Pv (i + 1), ct := Pv (i + 1), bk := D.nx } σ2 H2) (hd : ∀ σ H, Pv xs.length σ H → D.nx σ H) :
    ∃ W : Nat → Nat → L2.St → Hp → Prop, (∃ m, W 0 m σ H) ∧ ∀ i m σ H, W i m σ H →
      ((Ite K a).stop i H ∧ D.nx σ H) ∨ ((Ite K a).go i H ∧ ∃ N : L2.St → Hp → Prop, (∀ σ' H', N σ' H' → ∃ m', m' < m ∧ W (i + 1) m' σ' H') ∧ ∀ x H', (Ite K a).yld i H x H' → g x σ H' fun σ2 H2 => tb { D with nx := N, ct := N, bk := D.nx } σ2 H2) := by
  refine ⟨fun i m σ H => m = xs.length - i ∧ i ≤ xs.length ∧ Pv i σ H, ⟨xs.length, by simp, Nat.zero_le _, h0⟩, ?_⟩
  rintro i m σ H ⟨rfl, hi, p⟩
  have q := hl i σ H hi p
  rcases Nat.lt_or_ge i xs.length with hlt | hge
  · have hx : xs[i]? = some xs[i] := List.getElem?_eq_getElem hlt
    refine .inr ⟨⟨xs, xs[i], q, hx⟩, Pv (i + 1), fun σ' H' p' => ⟨xs.length - (i + 1), by omega, rfl, hlt, p'⟩, fun x H' y => ?_⟩
    obtain ⟨T, z, rfl, hT, rfl, hz⟩ := y
    have e := hz xs q
    exact hs i z σ H e p T hT
  · have e : i = xs.length := by omega
    subst e
    exact .inl ⟨⟨xs, q, Nat.le_refl _⟩, hd σ H p⟩
/-! ### the questions of a list, each once, ascending -/
structure Dist (qs zs : List Qd) : Prop where
  nd : zs.Nodup
  up : rising zs
  mem : ∀ q, q ∈ zs ↔ q ∈ qs
theorem Dist.uniq {qs rs zs ys : List Qd} (h1 : Dist qs zs) (h2 : Dist rs ys) (h : ∀ q, q ∈ qs ↔ q ∈ rs) : zs = ys :=
  perm_ltQ ((List.perm_ext_iff_of_nodup h1.nd h2.nd).mpr fun q => ((h1.mem q).trans (h q)).trans (h2.mem q).symm) h1.up h2.up
/-- the first two of them that cannot share -/
def firstP (f : Qd → Qd → Bool) : List Qd → Option (Qd × Qd)
  | [] => none
  | p :: zs => match zs.find? fun q => !f p q with
    | some q => some (p, q)
    | none => firstP f zs
/-- what is behind place i -/
theorem cut_behind (i : Nat) (xs : List V) : cutV xs (some ((i : Int) + 1)) none = xs.drop (i + 1) := by
  have e1 : ((i : Int) + 1) = ((i + 1 : Nat) : Int) := by omega
  rw [e1]
  unfold cutV
  rw [HT.sIx_none, HT.sIx_nat]
  by_cases h : i + 1 ≤ xs.length
  · rw [Nat.min_eq_left h]
    exact List.take_of_length_le (by rw [List.length_drop]; omega)
  · rw [Nat.min_eq_right (by omega), List.drop_of_length_le (Nat.le_refl _), List.drop_of_length_le (by omega)]
    simp
end Qk
set_option maxRecDepth 100000
set_option maxHeartbeats 4000000
set_option maxRecDepth 100000
set_option maxHeartbeats 4000000
namespace Qk
open PySem PySem.Spec PyProof.Rows L2
/-! questions as the laws have them: their columns, what is below what -/
/-- all columns of a question, ascending -/
def allC (cols : List Str) (e : Str) : List Str := if e = "" then cols else srt (cols ++ [e])
theorem srt_self {xs : List Str} (h : sortedS xs = true) : srt xs = xs := (srt_eq (List.Perm.refl _) h).symm
theorem mem_all {cols : List Str} {e z : Str} (h : z ∈ allC cols e) : z ∈ cols ∨ (z = e ∧ e ≠ "") := by
  unfold allC at h
  split at h
  · exact .inl h
  · rename_i ne
    have := (srt_perm _).mem_iff.mp h
    rcases List.mem_append.mp this with q | q
    · exact .inl q
    · exact .inr ⟨List.mem_singleton.mp q, ne⟩
/-- a question as k13 has it -/
structure QZ (cols : List Str) (e : Str) : Prop where
  m : QM cols e
  ne : e ∉ cols
  le : cols.length + (if e = "" then 0 else 1) ≤ 12
theorem QZ.all_nd {cols : List Str} {e : Str} (h : QZ cols e) : (allC cols e).Nodup := by
  unfold allC
  split
  · exact h.m.nd
  · refine (srt_perm _).nodup_iff.mpr ?_
    rw [List.nodup_append]
    exact ⟨h.m.nd, by simp, fun a ha b hb => by rw [List.mem_singleton.mp hb]; exact fun q => h.ne (q ▸ ha)⟩
theorem QZ.all_le {cols : List Str} {e : Str} (h : QZ cols e) : (allC cols e).length ≤ 12 := by
  have := h.le
  unfold allC
  split
  · rename_i q
    rw [if_pos q] at this
    omega
  · rename_i q
    rw [if_neg q] at this
    rw [srt_len, List.length_append]
    simpa using this
theorem QZ.menu {cols : List Str} {e : Str} (h : QZ cols e) : ∀ z ∈ allC cols e, z ∈ menu := fun z hz => by
  rcases mem_all hz with q | ⟨rfl, ne⟩
  · exact h.m.sub _ q
  · exact h.m.esub.resolve_left ne
theorem nodup_len : ∀ (l D : List Str), l.Nodup → (∀ x ∈ l, x ∈ D) → l.length ≤ D.length
  | [], _, _, _ => Nat.zero_le _
  | x :: l, D, hn, hs => by
    obtain ⟨h1, h2⟩ := List.nodup_cons.mp hn
    have hx : x ∈ D := hs x List.mem_cons_self
    have ih := nodup_len l (D.erase x) h2 fun y hy => (List.mem_erase_of_ne (by rintro rfl; exact h1 hy)).2 (hs y (List.mem_cons_of_mem _ hy))
    have e := List.length_erase_of_mem hx
    have hp : 0 < D.length := List.length_pos_of_mem hx
    rw [List.length_cons]
    omega
theorem Qok.qz {xs cols : List Str} {e : Str} (h : Qok xs cols e) (R : Row xs) : QZ cols e := by
  refine ⟨h.qm R.sub, h.ne, ?_⟩
  have hsub : ∀ z ∈ (if e = "" then cols else cols ++ [e]), z ∈ xs := fun z hz => by
    split at hz
    · exact h.sub _ hz
    · rename_i ne
      rcases List.mem_append.mp hz with q | q
      · exact h.sub _ q
      · rw [List.mem_singleton.mp q]
        exact h.esub.resolve_left ne
  have hnd : (if e = "" then cols else cols ++ [e]).Nodup := by
    split
    · exact h.nd
    · rw [List.nodup_append]
      exact ⟨h.nd, by simp, fun a ha b hb => by rw [List.mem_singleton.mp hb]; exact fun q => h.ne (q ▸ ha)⟩
  have hle := nodup_len _ _ hnd hsub
  have := R.le
  split
  · rename_i q
    rw [if_pos q] at hle
    omega
  · rename_i q
    rw [if_neg q, List.length_append] at hle
    simp at hle
    omega
/-- the columns of a question as they stand -/
def rowC (cols : List Str) (e : Str) : List Str := if e = "" then cols else cols ++ [e]
theorem mem_row {cols : List Str} {e z : Str} : z ∈ rowC cols e ↔ z ∈ allC cols e := by
  unfold rowC allC
  split
  · exact Iff.rfl
  · exact (srt_perm _).mem_iff.symm
theorem row_len {cols : List Str} {e : Str} : (rowC cols e).length = (allC cols e).length := by
  unfold rowC allC
  split
  · rfl
  · rw [srt_len]
theorem QZ.row_le {cols : List Str} {e : Str} (h : QZ cols e) : (rowC cols e).length ≤ 12 := by
  rw [row_len]
  exact h.all_le
theorem QZ.row_nd {cols : List Str} {e : Str} (h : QZ cols e) : (rowC cols e).Nodup := by
  have := h.all_nd
  unfold rowC
  unfold allC at this
  split
  · rename_i q
    rw [if_pos q] at this
    exact this
  · rename_i q
    rw [if_neg q] at this
    exact (srt_perm _).nodup_iff.mp this
def spRow : Sp := fun vs H Q _ => ∃ (q : Addr) (cols : List Str) (e : Str), vs = [.ref q] ∧ QAt H q cols e ∧ QZ cols e ∧ ∀ (t : Addr) (H' : Hp), Same H H' → H' t = some (.tup ((rowC cols e).map V.str)) → Q (.ref t) H'
def spCols : Sp := fun vs H Q _ => ∃ (q : Addr) (cols : List Str) (e : Str), vs = [.ref q] ∧ QAt H q cols e ∧ QZ cols e ∧ ∀ (t : Addr) (H' : Hp), Same H H' → H' t = some (.tup ((allC cols e).map V.str)) → Q (.ref t) H'
def spWidth : Sp := fun vs H Q _ => ∃ (q : Addr) (cols : List Str) (e : Str), vs = [.ref q] ∧ QAt H q cols e ∧ QZ cols e ∧ ∀ (H' : Hp), Same H H' → Q (.int ((allC cols e).length : Int)) H'
/-- what k13 asks of two questions -/
def belowQ (p q : Qd) : Bool := !decide (p = q) && decide (∀ z ∈ allC p.1 p.2, z ∈ q.1)
def shareQ (p q : Qd) : Bool := decide (p = q) || (belowQ p q || belowQ q p)
def spTwo (f : Qd → Qd → Bool) : Sp := fun vs H Q _ => ∃ (q r : Addr) (c1 : List Str) (e1 : Str) (c2 : List Str) (e2 : Str), vs = [.ref q, .ref r] ∧ QAt H q c1 e1 ∧ QAt H r c2 e2 ∧ QZ c1 e1 ∧ QZ c2 e2 ∧ ∀ H', Same H H' → Q (.bl (f (c1, e1) (c2, e2))) H'
theorem QZ.fine {cols : List Str} {e : Str} (h : QZ cols e) : Qfine (cols, e) := ⟨fun c hc => menu_okS _ (h.m.sub _ hc), h.m.esub.elim (fun q => by show okS e = true; rw [q]; exact okS_empty) (fun m => menu_okS _ m), h.m.le⟩
def QZs (qs : List Qd) : Prop := ∀ q ∈ qs, QZ q.1 q.2
theorem QZ.strOk {cols : List Str} {e : Str} (h : QZ cols e) : ∀ c ∈ cols, PyData.strOk c = true := fun c hc => menu_ok _ (h.m.sub _ hc)
end Qk
set_option maxRecDepth 100000
set_option maxHeartbeats 4000000
namespace Qk
open PySem PySem.Spec PyProof.Rows L2
/-! ### all parts of a row, all questions over it -/
/-- the columns that a part leaves -/
def left (ns p : List Str) : List Str := ns.filter fun c => !decide (c ∈ p)
end Qk
set_option maxRecDepth 100000
set_option maxHeartbeats 4000000
set_option maxRecDepth 100000
set_option maxHeartbeats 4000000
namespace Qk
open PySem PySem.Spec PyProof.Rows L2 ItX
/-! ### len(o), list(o) of such an instance -/
/-- an instance of C whose list f stands at l and has xs -/
def HasL (H : Hp) (C a : Addr) (f : Str) (l : Addr) (xs : List V) : Prop := ∃ (dx : Addr) (fs : List (Str × V)), H a = some (.ins C dx fs) ∧ fs.lookup f = some (.ref l) ∧ H l = some (.lst xs)
section
variable {X : Cx} {pins : List (Addr × Obj)} {σ : L2.St} {H : Hp} {s : Shared} {A1 : Around} {C a l fi fl : Addr} {f : Str} {fdI fdL : FuncData} {n : Nat} {xs : List V}
theorem env_sub (sb : Sub X n A1) (I : Inv X pins σ H s) : Env0 X.prog X.w X.K X.mg X.base A1 X.stack s H := by
  have e := I.env0
  constructor
  case frames => rw [sb.fr]; exact e.frames
  all_goals first | exact e.mod | exact e.bs | exact e.bsz | exact e.funs | exact e.frf | exact e.hok | exact e.bare
theorem HasL.off {q : Addr} {o : HO} (h : HasL H C a f l xs) (hq : H q = none) : HasL (upd H q o) C a f l xs := by
  obtain ⟨dx, fs, ha, hl, hx⟩ := h
  exact ⟨dx, fs, by rw [upd_ne (ne_of_none ha hq)]; exact ha, hl, by rw [upd_ne (ne_of_none hx hq)]; exact hx⟩
end
end Qk
set_option maxRecDepth 100000
set_option maxHeartbeats 4000000
namespace Qk
open PySem PySem.Spec PyProof.Rows L2
/-! comprehensions with two fors, turn by turn -/
/-! lists of rows of names -/
def TL (H : Hp) (vs : List V) (rs : List (List Str)) : Prop := Paired (fun (x : V) (r : List Str) => ∃ t, x = .ref t ∧ H t = some (.tup (r.map V.str))) vs rs
theorem TL.len {H : Hp} {vs : List V} {rs : List (List Str)} (h : TL H vs rs) : vs.length = rs.length := Paired.length h
theorem TL.same {H H' : Hp} {vs : List V} {rs : List (List Str)} (s : Same H H') (h : TL H vs rs) : TL H' vs rs := Paired.mapP h fun x r ⟨t, e, z⟩ => ⟨t, e, s _ _ z⟩
theorem TL.off {H : Hp} {p : Addr} {xs zs : List V} {vs : List V} {rs : List (List Str)} (hp : H p = some (.lst xs)) (h : TL H vs rs) : TL (upd H p (.lst zs)) vs rs := Paired.mapP h fun x r ⟨t, e, z⟩ => ⟨t, e, by
  rw [upd_ne fun g => by rw [g, hp] at z; cases z]
  exact z⟩
theorem TL.at_ {H : Hp} {vs : List V} {rs : List (List Str)} (h : TL H vs rs) {i : Nat} {x : V} (hi : vs[i]? = some x) : ∃ (t : Addr) (r : List Str), x = .ref t ∧ rs[i]? = some r ∧ H t = some (.tup (r.map V.str)) := by
  induction h generalizing i with
  | nil => simp at hi
  | @cons x0 r0 vs' rs' h1 _ ih =>
    cases i with
    | zero =>
      simp only [List.getElem?_cons_zero, Option.some.injEq] at hi
      subst hi
      obtain ⟨t, e, z⟩ := h1
      exact ⟨t, r0, e, rfl, z⟩
    | succ i => exact ih hi
theorem TL.snoc {H : Hp} {vs : List V} {rs : List (List Str)} {t : Addr} {r : List Str} (h : TL H vs rs) (ht : H t = some (.tup (r.map V.str))) : TL H (vs ++ [.ref t]) (rs ++ [r]) := paired_app h (.cons ⟨t, rfl, ht⟩ .nil)
theorem QL.off {H : Hp} {p : Addr} {xs zs : List V} {vs : List V} {qs : List Qd} (hp : H p = some (.lst xs)) (h : QL H vs qs) : QL (upd H p (.lst zs)) vs qs := Paired.mapP h fun x r ⟨t, e, c, z1, z2⟩ => ⟨t, e, c, by
  rw [upd_ne fun g => by rw [g, hp] at z1; cases z1]
  exact z1, by
  rw [upd_ne fun g => by rw [g, hp] at z2; cases z2]
  exact z2⟩
theorem QL.snoc {H : Hp} {vs : List V} {qs : List Qd} {t : Addr} {q : Qd} (h : QL H vs qs) (ht : QAt H t q.1 q.2) : QL H (vs ++ [.ref t]) (qs ++ [q]) := paired_app h (.cons ⟨t, rfl, ht⟩ .nil)
theorem QL.at_ {H : Hp} {xs : List V} {qs : List Qd} (h : QL H xs qs) {i : Nat} {x : V} (hi : xs[i]? = some x) : ∃ (t : Addr) (q : Qd), x = .ref t ∧ qs[i]? = some q ∧ QAt H t q.1 q.2 := by
  induction h generalizing i with
  | nil => simp at hi
  | @cons x0 q0 xs' qs' h1 _ ih =>
    cases i with
    | zero =>
      simp only [List.getElem?_cons_zero, Option.some.injEq] at hi
      subst hi
      obtain ⟨t, e, z⟩ := h1
      exact ⟨t, q0, e, rfl, z⟩
    | succ i => exact ih hi
end Qk
set_option maxRecDepth 100000
set_option maxHeartbeats 4000000
/-! sorted(xs, key=f), f a definition of the program that answers with an integer and changes nothing -/
namespace Qk
open PySem PySem.Spec PyProof.Rows L2
section
variable {prog : Program} {w : World} {A : Around} {E : Value → Shared → Prop} {s : Shared} {a kS : Addr} {vs : List Value} {kz : List Int} {keys : Array Value} {e e1 : Nat} {P : PySem.Fin → Shared → Prop}
/-- what the heap is at the end of the sort -/
def kEndH (h : Heap) (kS a : Addr) (out : Array Value) : Heap := (h.update kS (Obj.mapSeq fun _ => (#[] : Array Value))).update a (Obj.mapSeq fun _ => out)
theorem kf_tail {st : SortSt} (nk : s.heap.get? kS = some (seqObj "list" keys e)) (na : s.heap.get? a = some (seqObj "list" #[] e1)) (hka : kS ≠ a)
    (hk : IntsAre keys.toList kz) (hlen : kz.length = vs.length) (hZ : vs.length ≤ 1000) (hp : (arrOf st).Perm (keys.zip vs.toArray)) (hs : SortedTo (arrOf st) (arrOf st).size) (hfl : failedOf st = none)
    (h : ∀ tk (out : Array Value), KskOut false kz vs out.toList → P (.done (.ret .none)) { s with heap := kEndH s.heap kS a out, toks := tk }) :
    wpAny (model prog w) A (ksk_tail a false e1 (.ref kS) st) P E s := by
  have hsz : keys.size = vs.length := by
    have h1 := hk.length
    rw [Array.length_toList] at h1
    omega
  have hsz2 : (arrOf st).size = vs.length := by rw [hp.size_eq, Array.size_zip, hsz, List.size_toArray, Nat.min_self]
  have s1 := Heap.SameBut.update s.heap kS (Obj.mapSeq fun _ => (#[] : Array Value))
  have na1 : (s.heap.update kS (Obj.mapSeq fun _ => (#[] : Array Value))).get? a = some (seqObj "list" #[] e1) := (s1.2 a hka.symm).trans na
  unfold ksk_tail
  try dsimp only
  refine wpAny_bind (listUpdate_at nk rfl ?_ (by rw [hsz, sizeLine_eq]; omega) (Nat.zero_le _))
  refine wpAny_bind (wpAny_letGo ?_)
  refine wpAny_bind (seqEpoch_at na1 rfl ?_)
  refine wpAny_bind (listUpdate_at na1 rfl ?_ (Nat.zero_le _) (by
    simp only [Bool.false_eq_true, if_false, Array.size_map]
    rw [hsz2, sizeLine_eq]
    omega))
  rw [hfl]
  simp only [bne_self_eq_false, Bool.false_eq_true, if_false]
  exact wpAny_pure (h _ _ (ksk_out (b := false) hk hp hs))
theorem kf_end (nk : s.heap.get? kS = some (seqObj "list" keys e)) (na : s.heap.get? a = some (seqObj "list" #[] e1)) (hka : kS ≠ a)
    (hk : IntsAre keys.toList kz) (hlen : kz.length = vs.length) (hZ : vs.length ≤ 1000)
    (h : ∀ tk (out : Array Value), KskOut false kz vs out.toList → P (.done (.ret .none)) { s with heap := kEndH s.heap kS a out, toks := tk }) :
    wpAny (model prog w) A (ksk_end a false vs.toArray e1 (.ref kS) keys) P E s := by
  have hsz : keys.size = vs.length := by
    have h1 := hk.length
    rw [Array.length_toList] at h1
    omega
  have hzs : (keys.zip vs.toArray).size = vs.length := by rw [Array.size_zip, hsz, List.size_toArray, Nat.min_self]
  have step : ∀ t : Sem PySem.Fin, wpAny (model prog w) A t P E s → wpAny (model prog w) A (if false = true then (do let _ ← rule "list.sort.reverse"; t) else t) P E s := by
    intro t ht
    split
    · exact wpAny_bind (wpAny_rule ht)
    · exact ht
  unfold ksk_end
  try dsimp only
  refine step _ ?_
  by_cases h2 : vs.toArray.size < 2
  · rw [if_pos h2, if_pos h2]
    refine wpAny_bind (wpAny_pure ?_)
    rw [StateT.run_pure]
    refine wpAny_bind (wpAny_pure ?_)
    try dsimp only
    refine kf_tail (st := SortSt.mk' general' (if false = true then (keys.zip vs.toArray).reverse else keys.zip vs.toArray) #[] 7 none) nk na hka hk hlen hZ (Array.Perm.refl _) ?_ rfl h
    intro i j hij hj
    have hj2 : j < (keys.zip vs.toArray).size := hj
    rw [hzs] at hj2
    rw [List.size_toArray] at h2
    have : i = j := by omega
    subst this
    exact Int.le_refl _
  · rw [if_neg h2, if_neg h2]
    rw [List.size_toArray] at h2
    rw [ksk_kind hk (by rw [hsz]; omega)]
    refine wpAny_bind (wpAny_pure ?_)
    refine wpAny_bind (wpAny_mono (wpS_sortRunsAny (κ := intKind) (a₀ := keys.zip vs.toArray) (st := SortSt.mk' oneType' (if false = true then (keys.zip vs.toArray).reverse else keys.zip vs.toArray) #[] 7 none)
      (Q := fun _ st' => (arrOf st').Perm (keys.zip vs.toArray) ∧ failedOf st' = none ∧ SortedTo (arrOf st') (keys.zip vs.toArray).size)
      intKind_oneLt (ksk_keysOfInt (ksk_intKeys hk)) ⟨Array.Perm.refl _, rfl, rfl⟩ rfl (by rw [hzs]; omega) fun st' a1 a2 a3 => ⟨a1, a2, sortedTo_of_int a3⟩) ?_ fun _ _ e => e)
    rintro ⟨⟨⟩, st'⟩ s' ⟨rfl, hp, hf, hs⟩
    try dsimp only
    exact kf_tail nk na hka hk hlen hZ hp (by rw [hp.size_eq]; exact hs) hf h
end
/-- the values sorted by their keys, as abstract ones -/
theorem kf_lift {xs : List V} {vs out : List Value} {g : V → Int} (rv : Vals xs vs) (h : KskOut false (xs.map g) vs out) : ∃ ys : List V, Vals ys out ∧ ys.Perm xs ∧ ys.Pairwise (fun x y => g x ≤ g y) := by
  obtain ⟨ps, hp, rfl, hs⟩ := h
  have l1 : xs.length = vs.length := rv.length
  have lz : ((xs.map g).zip vs).length = vs.length := by rw [List.length_zip, List.length_map, l1, Nat.min_self]
  have m2 : (xs.zip ((xs.map g).zip vs)).map Prod.snd = (xs.map g).zip vs := List.map_snd_zip (by rw [lz, l1]; exact Nat.le_refl _)
  have m1 : (xs.zip ((xs.map g).zip vs)).map Prod.fst = xs := List.map_fst_zip (by rw [lz, l1]; exact Nat.le_refl _)
  obtain ⟨zs, p, q⟩ := perm_lift Prod.snd hp _ m2
  have all : ∀ z ∈ zs, RelV z.1 z.2.2 ∧ z.2.1 = g z.1 := by
    intro z hz
    obtain ⟨j, hj⟩ := List.mem_iff_getElem?.mp (p.mem_iff.mp hz)
    obtain ⟨h1, h2⟩ := List.getElem?_zip_eq_some.mp hj
    obtain ⟨h3, h4⟩ := List.getElem?_zip_eq_some.mp h2
    obtain ⟨u, h5, h6⟩ := rv.get h1
    have e : u = z.2.2 := Option.some.inj (h5.symm.trans h4)
    rw [e] at h6
    rw [List.getElem?_map, h1] at h3
    exact ⟨h6, (Option.some.inj h3).symm⟩
  refine ⟨zs.map Prod.fst, ?_, ?_, ?_⟩
  · have e : ps.map Prod.snd = zs.map fun z => z.2.2 := by rw [← q, List.map_map]; rfl
    rw [e]
    exact vals_maps Prod.fst (fun z => z.2.2) zs fun z hz => (all z hz).1
  · have h := p.map Prod.fst
    rw [m1] at h
    exact h
  · rw [← q, List.pairwise_map] at hs
    rw [List.pairwise_map]
    refine List.Pairwise.imp_of_mem (fun {x y} hx hy h => ?_) hs
    have h' : x.2.1 ≤ y.2.1 := by simpa using h
    rw [(all x hx).2, (all y hy).2] at h'
    exact h'
section
variable {X : Cx} {n : Nat} {f : Addr} {fd : FuncData} {p : Str} {sp : Sp}
/-- sorted(xs, key=f) -/
def rSortF (K : PySem.W.Frag) (f : Addr) (sp : Sp) : List V → List V → Hp → VK → Prop := fun vs zs H Q => ∃ (l : Addr) (xs : List V) (g : V → Int), vs = [.ref l] ∧ zs = [.ref f] ∧ (SqL K H l xs ∨ SqT K H l xs) ∧ xs.length ≤ 1000 ∧
  (∀ x ∈ xs, ∀ H', Same H H' → ∀ Q' : VK, Q' (.int (g x)) H' → sp [x] H' Q' (fun _ _ _ => False)) ∧ ∀ (ys : List V) (q : Addr) (H' : Hp), ys.Perm xs → ys.Pairwise (fun x y => g x ≤ g y) → Same H H' → H q = none → H' q = some (.lst ys) → Q (.ref q) H'
theorem cr_sortF (F : FnOk X.prog X.w X.K X.mg X.base CX0 n f fd [p] sp) (b : Binds X.K fd [p] []) (hr : Room (n + 2) X.A) : CallRK X (.builtin "sorted") [Str.ofString "key"] (rSortF X.K f sp) := by
  intro pins s σ H vs zs us ws Q I r rz h
  obtain ⟨l, xs, g, rfl, rfl, hs, hx, hg, q⟩ := h
  obtain rfl := Vals.ref1 r
  obtain ⟨w1, rfl, e1⟩ := vals1 rz
  obtain rfl : w1 = Value.ref f := e1
  obtain ⟨its, rv, o, T, n0, hT, ho, hc, hd, hz⟩ : ∃ (its : List Value) (_ : Vals xs its) (o : Obj) (T : String) (n0 : Nat), (T = "list" ∨ T = "tuple") ∧ s.heap.get? l = some o ∧ o.cls = .type T ∧ o.data = .seq its.toArray n0 ∧ xs.length ≤ sizeLine := by
    rcases hs with hs | hs
    · obtain ⟨its, rv, hl, hz⟩ := I.list hs
      obtain ⟨o, ho, hc, n0, hd⟩ := hl.isList
      exact ⟨its, rv, o, "list", n0, .inl rfl, ho, hc, hd, hz⟩
    · obtain ⟨its, rv, ⟨o, ho, hc, n0, hd⟩, hz⟩ := I.tuple hs
      exact ⟨its, rv, o, "tuple", n0, .inr rfl, ho, hc, hd, hz⟩
  have hlen : its.length = xs.length := rv.length.symm
  have sb : Sub X n X.A.in1.in1 := Sub.in1 (Sub.in1 (⟨hr, rfl⟩ : Sub X (n + 2) X.A))
  refine call_function_entry_kw kind_sorted plain_sorted entry_sorted (PyProof.Rows.ksk_s1 _ _) ?_
  unfold Builtin.«sorted»
  refine wpAny_bind (m := checkCount "sorted" 1 1 _) (wpAny_pure ?_)
  refine wpAny_bind (wpAny_collect_seq l hT ho hc hd (fun h0 k0 => ?_) (by rw [List.size_toArray, sizeLine_eq]; omega))
  have e0 : its.toArray.toList = its := by simp
  rw [e0]
  refine wpAny_bind (wpAny_newList ?_ (by rw [sizeLine_eq]; omega))
  have Ih : Inv X pins σ H { s with heap := h0 } := I.kept (t' := s.toks) k0
  -- the list that is sorted
  have ea0 : (h0.push (seqObj "list" its.toArray 0)).get? h0.objs.size = some (seqObj "list" its.toArray 0) := Heap.get?_push_size _ rfl
  show wpAny _ _ _ _ _ { s with heap := h0.push (seqObj "list" its.toArray 0) }
  refine wpAny_bind (wpAny_holding (wpAny_call_entry_kw slot_list_sort ⟨_, ea0, rfl⟩ entry_list_sort ?body (PyProof.Rows.ksk_l1 _ _)))
  case body =>
    show wpAny (model X.prog X.w) X.A.in1.in1 (Builtin.«list.sort» ⟨[.ref h0.objs.size], [(Str.ofString "key", .ref f)]⟩) _ _ _
    rw [ksk_t1]
    unfold ksk_tree
    obtain ⟨e1, ho1⟩ : ∃ e1, ((h0.push (seqObj "list" its.toArray 0)).update h0.objs.size (Obj.mapSeq fun _ => (#[] : Array Value))).get? h0.objs.size = some (seqObj "list" #[] e1) := ⟨_, get?_update_seq ea0 fun _ => #[]⟩
    refine wpAny_bind (listItems_at ea0 rfl ?_)
    refine wpAny_bind (listUpdate_at ea0 rfl ?_ (by rw [List.size_toArray, sizeLine_eq]; omega) (Nat.zero_le _))
    refine wpAny_bind (seqEpoch_at ho1 rfl ?_)
    refine wpAny_bind (wpAny_newTuple ?_ (by show its.length ≤ _; rw [sizeLine_eq]; omega))
    refine wpAny_bind (wpAny_newList ?_ (Nat.zero_le _))
    refine wpAny_holding ?_
    generalize hh1 : ((h0.push (seqObj "list" its.toArray 0)).update h0.objs.size (Obj.mapSeq fun _ => (#[] : Array Value))).push (seqObj "tuple" its.toArray 0) = h1
    have k1 : ∀ b o, h0.get? b = some o → h1.get? b = some o := fun b o e => by
      have hlt : b < h0.objs.size := Heap.lt_size e
      rw [← hh1]
      refine Heap.get?_push_of_some _ ?_
      rw [Heap.get?_update_ne _ _ _ _ (Nat.ne_of_lt hlt), Heap.get?_push_ne _ _ _ (Nat.ne_of_lt hlt)]
      exact e
    have z1 : h0.objs.size < h1.objs.size := by
      rw [← hh1, size_push', Heap.size_update, size_push']
      omega
    have ea1 : h1.get? h0.objs.size = some (seqObj "list" #[] e1) := by
      rw [← hh1]
      exact Heap.get?_push_of_some _ ho1
    have I1 : Inv X pins σ H { s with heap := h1 } := Ih.kept (t' := s.toks) k1
    have hka : h1.objs.size ≠ h0.objs.size := Nat.ne_of_gt z1
    have na : H h0.objs.size = none := Ih.hok.fresh (Nat.le_refl _)
    have nk : H h1.objs.size = none := Ih.hok.fresh (Nat.le_of_lt z1)
    have I2 : Inv X pins σ (upd H h1.objs.size (.lst [])) { s with heap := h1.push (seqObj "list" #[] 0) } := I1.lnew (its := []) (t' := s.toks) .nil (Nat.zero_le _)
    have ea2 : (h1.push (seqObj "list" #[] 0)).get? h0.objs.size = some (seqObj "list" #[] e1) := Heap.get?_push_of_some _ ea1
    show wpAny (model X.prog X.w) X.A.in1.in1 (ksk_rest h0.objs.size (.ref f) false its.toArray e1 (.ref h1.objs.size)) _ _ { s with heap := h1.push (seqObj "list" #[] 0) }
    have fpA : ∀ H' : Hp, H' h0.objs.size = none → FpOk X pins H' h0.objs.size := fun H' e => Ih.fpOk (Nat.le_refl _) e
    have aFr : h0.objs.size ∉ frs X.stack := fun hb => by
      rcases List.mem_cons.mp (Ih.stkSub _ hb) with e | e
      · exact absurd e (Nat.ne_of_gt Ih.lt)
      · exact Ih.nofs (Nat.le_refl _) e
    generalize ha : h0.objs.size = a at *
    generalize hk : h1.objs.size = kS at *
    unfold ksk_rest
    refine wpAny_bind (wpAny_rule ?_)
    first
      | rw [List.forIn_toArray]
      | (rw [← Array.forIn_toList]; simp only [List.toList_toArray])
      | rw [← Array.forIn_toList]
    have sH : ∀ ks : List V, Same H (upd H kS (.lst ks)) := fun ks b o e => by
      rw [upd_ne fun z => by rw [z, nk] at e; cases e]
      exact e
    have naU : ∀ ks : List V, (upd H kS (.lst ks)) a = none := fun ks => by rw [upd_ne hka.symm]; exact na
    have uu : ∀ xs ys : List V, upd (upd H kS (.lst xs)) kS (.lst ys) = upd H kS (.lst ys) := fun xs ys => by
      funext b
      by_cases hb : b = kS
      · rw [hb, upd_same, upd_same]
      · rw [upd_ne hb, upd_ne hb, upd_ne hb]
    refine wpAny_bind (ksk_fold (fun i s' => Inv X pins σ (upd H kS (.lst (((xs.take i).map g).map V.int))) s' ∧ s'.heap.get? a = some (seqObj "list" #[] e1)) its 0 _ ⟨I2, ea2⟩ ?step ?done)
    case step =>
      rintro j x s' hxj ⟨Ij, eaj⟩
      simp only [Nat.zero_add] at Ij ⊢
      have hj : j < its.length := (List.getElem?_eq_some_iff.mp hxj).1
      obtain ⟨y, hy⟩ : ∃ y, xs[j]? = some y := ⟨_, List.getElem?_eq_getElem (by omega)⟩
      obtain ⟨u, hu, ru⟩ := rv.get hy
      obtain rfl : u = x := Option.some.inj (hu.symm.trans hxj)
      have et : xs.take (j + 1) = xs.take j ++ [y] := by rw [List.take_add_one, hy]; rfl
      have hsp : sp [y] (upd H kS (.lst (((xs.take j).map g).map V.int))) (fun v H' => v = .int (g y) ∧ H' = upd H kS (.lst (((xs.take j).map g).map V.int))) (fun _ _ _ => False) := hg y (List.mem_of_getElem? hy) _ (sH _) _ ⟨rfl, rfl⟩
      refine wpAny_bind (wpAny_attempt (wpAny_call (codeAny_mono (F.run X.A.in1.in1 X.stack s' _ ⟨[u], []⟩ [u] [y] _ _ sb.room (env_sub sb Ij) (by
        have := b s' [u] Ij.kIn (by rfl)
        simpa using this) (.cons ru .nil) hsp) fun r s2 hq' => ?_)))
      cases r with
      | error e => exact False.elim hq'
      | ok fl =>
        cases fl with
        | next => exact False.elim hq'
        | brk => exact False.elim hq'
        | cont => exact False.elim hq'
        | ret u2 =>
          obtain ⟨v0, H0, os0, bare0, un0, hok0, rv0, ev0, eH0⟩ := id hq'
          have ea2' : s2.heap.get? a = some (seqObj "list" #[] e1) := un0.keep a _ eaj (naU _) aFr (by simp)
          obtain ⟨v, H', I', rv', ev, eH⟩ := Ij.after hq'
          subst ev
          rw [eH] at I'
          obtain ⟨t, rfl⟩ := rv'
          obtain ⟨zz, its2, n2, r2, hl2, ek⟩ := I'.lstM (l := kS) upd_same
          have l2 : its2.length = j := by rw [← hl2, List.length_map, List.length_map, List.length_take]; omega
          try dsimp only
          refine wpAny_bind (listUpdate_at ek rfl ?_ (by rw [List.size_toArray, sizeLine_eq]; omega) (Nat.le_trans (Nat.le_of_eq (Array.size_push ..)) (by rw [List.size_toArray, sizeLine_eq]; omega)))
          refine wpAny_pure ⟨rfl, ?_, (Heap.get?_update_ne _ _ _ _ hka.symm).trans ea2'⟩
          have I3 := I'.lset (l := kS) (its' := its2 ++ [.int (g y) t]) (ys := ((xs.take j).map g).map V.int ++ [V.int (g y)]) (f := (·.push (.int (g y) t))) (t' := s2.toks) upd_same ek (by simp) (r2.append (.cons ⟨t, rfl⟩ .nil)) (by
            rw [List.length_append, List.length_map, List.length_map, List.length_take, sizeLine_eq]
            simp
            omega)
          rw [uu] at I3
          rw [et, List.map_append, List.map_append]
          exact I3
    case done =>
      rintro s' ⟨Ie, eae⟩
      have e3 : xs.take (0 + its.length) = xs := List.take_of_length_le (by omega)
      rw [e3] at Ie
      obtain ⟨zz, its2, n2, r2, hl2, ek⟩ := Ie.lstM (l := kS) upd_same
      try dsimp only
      refine wpAny_bind (listItems_at ek rfl ?_)
      refine kf_end (kz := xs.map g) (vs := its) ek eae hka r2.ints (by rw [List.length_map]; omega) (by omega) fun tk out ko => ⟨_, rfl, ?_⟩
      obtain ⟨ys, rys, hp, hw⟩ := kf_lift rv ko
      have hly : ys.length ≤ sizeLine := by rw [hp.length_eq, sizeLine_eq]; omega
      have I3 := Ie.lset (l := kS) (its' := []) (ys := []) (f := fun _ => #[]) (t' := s'.toks) upd_same ek rfl .nil (Nat.zero_le _)
      rw [uu] at I3
      have ea3 : (s'.heap.update kS (Obj.mapSeq fun _ => (#[] : Array Value))).get? a = some (seqObj "list" #[] e1) := (Heap.get?_update_ne _ _ _ _ hka.symm).trans eae
      obtain ⟨c2, hc2⟩ : ∃ c2, (kEndH s'.heap kS a out).get? a = some (seqObj "list" out c2) := ⟨_, get?_update_seq ea3 fun _ => out⟩
      have I4 := I3.take (t' := tk) (it := a) (o := .lst ys) (h' := kEndH s'.heap kS a out) (fun b ob hb e => (Heap.get?_update_ne _ _ _ _ hb).trans e) (fpA _ (naU _)) ⟨hly, out.toList, c2, rys, by rw [Array.toArray_toList]; exact hc2⟩
      refine wpAny_pure ⟨_, rfl, .ref a, _, I4, rfl, q ys a _ hp hw (fun b o e => ?_) na upd_same⟩
      rw [upd_ne fun z => by rw [z, na] at e; cases e]
      exact sH _ b o e
end
end Qk
set_option maxRecDepth 100000
set_option maxHeartbeats 4000000
/-! the least index for all questions: the mathematics -/
namespace Qk
open PySem PySem.Spec PyProof.Rows L2
/-- c is put behind, once -/
def addC (f : List Str) (c : Str) : List Str := if c ≠ "" ∧ c ∉ f then f ++ [c] else f
def lengQ (f : List Str) (q : Qd) : List Str := (q.1 ++ [q.2]).foldl addC f
def leng (f : List Str) (qs : List Qd) : List Str := qs.foldl lengQ f
/-- r serves q -/
def srv (r : List Str) (q : Qd) : Prop := (r.take q.1.length).Perm q.1 ∧ (q.2 = "" ∨ r[q.1.length]? = some q.2)
theorem fault_srv {r : List Str} {q : Qd} (hr : r.Nodup) (z : QZ q.1 q.2) : fault r q.1 q.2 = none ↔ srv r q := by
  rw [fault_none hr z.m.nd z.m.srt (srt_perm (r.take q.1.length)) (pw_sortedS' (srt_pw _))]
  unfold srv
  constructor
  · rintro ⟨h1, h2⟩
    have t := (srt_perm (r.take q.1.length)).symm
    rw [h1] at t
    exact ⟨t, h2⟩
  · rintro ⟨h1, h2⟩
    exact ⟨(srt_eq (h1.symm) z.m.srt).symm, h2⟩
where
  pw_risingS' : ∀ (r : List Str) (p : Str), (p :: r).Pairwise leS → risingS p r = true
    | [], _, _ => rfl
    | x :: r, p, h => by
      obtain ⟨h1, h2⟩ := List.pairwise_cons.mp h
      have h3 : ltCps x.cps.toList p.cps.toList = false := h1 x List.mem_cons_self
      show (!ltCps x.cps.toList p.cps.toList && risingS x r) = true
      rw [h3, pw_risingS' r x h2]
      rfl
  pw_sortedS' {xs : List Str} (h : xs.Pairwise leS) : sortedS xs = true := by
    cases xs with
    | nil => rfl
    | cons x r => exact pw_risingS' r x h
theorem mem_allC {cols : List Str} {e z : Str} : z ∈ allC cols e ↔ z ∈ cols ∨ (z = e ∧ e ≠ "") := by
  rw [← mem_row]
  unfold rowC
  by_cases h : e = ""
  · rw [if_pos h]
    exact ⟨fun q => .inl q, fun q => q.elim id fun q => absurd h q.2⟩
  · rw [if_neg h, List.mem_append, List.mem_singleton]
    exact ⟨fun q => q.imp id fun q => ⟨q, h⟩, fun q => q.imp id fun q => q.1⟩
theorem addC_fold : ∀ (cs f : List Str), (∀ c ∈ cs, c ≠ "") → cs.Nodup → cs.foldl addC f = f ++ cs.filter fun c => !decide (c ∈ f)
  | [], f, _, _ => by simp
  | c :: cs, f, hne, hnd => by
    obtain ⟨h1, h2⟩ := List.nodup_cons.mp hnd
    rw [List.foldl_cons, addC_fold cs _ (fun x hx => hne x (List.mem_cons_of_mem _ hx)) h2]
    unfold addC
    by_cases hc : c ∈ f
    · rw [if_neg (fun z => z.2 hc), List.filter_cons, if_neg (by simp [hc])]
    · rw [if_pos ⟨hne c List.mem_cons_self, hc⟩, List.filter_cons, if_pos (by simp [hc]), List.append_assoc]
      congr 1
      rw [List.singleton_append]
      congr 1
      refine List.filter_congr fun x hx => ?_
      have ne : x ≠ c := fun e => h1 (e ▸ hx)
      simp [ne]
/-- what stands behind some questions -/
structure LI (f : List Str) (done : List Qd) : Prop where
  nd : f.Nodup
  sub : ∀ c ∈ f, c ∈ menu
  sv : ∀ p ∈ done, srv f p
  top : f = [] ∧ done = [] ∨ ∃ t ∈ done, ∀ c, c ∈ f ↔ c ∈ allC t.1 t.2
  least : ∀ r, (∀ p ∈ done, srv r p) → ∀ (i : Nat) (c d : Str), f[i]? = some d → r[i]? = some c → c ∉ f.take i → leS d c
theorem srv_more {f x : List Str} {p : Qd} (h : srv f p) : srv (f ++ x) p := by
  obtain ⟨h1, h2⟩ := h
  have hl : p.1.length ≤ f.length := by
    have := h1.length_eq
    rw [List.length_take] at this
    omega
  refine ⟨?_, h2.imp id fun h => ?_⟩
  · rw [List.take_append_of_le_length hl]
    exact h1
  · rw [List.getElem?_append_left (List.getElem?_eq_some_iff.mp h).1]
    exact h
theorem perm_of {a b : List Str} (ha : a.Nodup) (hs : ∀ x ∈ a, x ∈ b) (hb : b.Nodup) (hl : b.length ≤ a.length) : a.Perm b := by
  refine (List.perm_ext_iff_of_nodup ha hb).mpr fun x => ⟨hs x, fun hx => ?_⟩
  apply Classical.byContradiction
  intro hn
  have h1 : (x :: a).Nodup := List.nodup_cons.mpr ⟨hn, ha⟩
  have := nodup_len (x :: a) b h1 fun y hy => (List.mem_cons.mp hy).elim (fun e => e ▸ hx) (hs y)
  rw [List.length_cons] at this
  omega
theorem LI.next {f : List Str} {done : List Qd} {q : Qd} (L : LI f done) (z : QZ q.1 q.2) (hd : ∀ p ∈ done, QZ p.1 p.2 ∧ shareQ p q = true ∧ p.1.length ≤ q.1.length) : LI (lengQ f q) (done ++ [q]) := by
  obtain ⟨c, e⟩ := q
  have cne : ∀ x ∈ c, x ≠ "" := fun x hx => menu_ne _ (z.m.sub x hx)
  have ef : lengQ f (c, e) = addC (f ++ c.filter fun x => !decide (x ∈ f)) e := by
    show (c ++ [e]).foldl addC f = _
    rw [List.foldl_append, addC_fold c f cne z.m.nd]
    rfl
  rw [ef]
  -- where all is there
  have caseA : (∀ x ∈ allC c e, x ∈ f) → srv f (c, e) → LI (addC (f ++ c.filter fun x => !decide (x ∈ f)) e) (done ++ [(c, e)]) := fun ha hs => by
    have e1 : (c.filter fun x => !decide (x ∈ f)) = [] := List.filter_eq_nil_iff.mpr fun x hx => by simp [ha x (mem_allC.mpr (.inl hx))]
    have e2 : addC f e = f := by
      unfold addC
      refine if_neg fun h => h.2 (ha e (mem_allC.mpr (.inr ⟨rfl, h.1⟩)))
    rw [e1, List.append_nil, e2]
    refine ⟨L.nd, L.sub, fun p hp => ?_, .inr ?_, fun r hr => L.least r fun p hp => hr p (List.mem_append_left _ hp)⟩
    · rcases List.mem_append.mp hp with h | h
      · exact L.sv p h
      · rw [List.mem_singleton.mp h]
        exact hs
    · rcases L.top with ⟨h1, h2⟩ | ⟨t, ht, h⟩
      · refine ⟨(c, e), List.mem_append_right _ (List.mem_singleton.mpr rfl), fun x => ⟨fun h => ?_, ha x⟩⟩
        rw [h1] at h
        cases h
      · exact ⟨t, List.mem_append_left _ ht, h⟩
  have caseB : (∀ x ∈ f, x ∈ c) → LI (addC (f ++ c.filter fun x => !decide (x ∈ f)) e) (done ++ [(c, e)]) := fun hb => by
    generalize hx : (c.filter fun x => !decide (x ∈ f)) = x
    have xm : ∀ y, y ∈ x ↔ y ∈ c ∧ y ∉ f := fun y => by rw [← hx, List.mem_filter]; simp
    have gnd : (f ++ x).Nodup := List.nodup_append.mpr ⟨L.nd, by rw [← hx]; exact z.m.nd.filter _, fun a ha b hb e => ((xm b).mp hb).2 (e ▸ ha)⟩
    have gp : (f ++ x).Perm c := (List.perm_ext_iff_of_nodup gnd z.m.nd).mpr fun y => by
      rw [List.mem_append, xm]
      constructor
      · exact fun h => h.elim (hb y) fun h => h.1
      · intro h
        by_cases hy : y ∈ f
        · exact .inl hy
        · exact .inr ⟨h, hy⟩
    have gl : (f ++ x).length = c.length := gp.length_eq
    have xpw : x.Pairwise leS := by rw [← hx]; exact (sortedS_pw z.m.srt).filter _
    have eg : e ∉ f ++ x := fun h => z.ne (gp.mem_iff.mp h)
    obtain ⟨u, hu, hu2⟩ : ∃ u : List Str, addC (f ++ x) e = (f ++ x) ++ u ∧ ((e = "" ∧ u = []) ∨ (e ≠ "" ∧ u = [e])) := by
      unfold addC
      by_cases he : e = ""
      · exact ⟨[], by rw [if_neg fun h => h.1 he, List.append_nil], .inl ⟨he, rfl⟩⟩
      · exact ⟨[e], by rw [if_pos ⟨he, eg⟩], .inr ⟨he, rfl⟩⟩
    rw [hu]
    have um : ∀ y, y ∈ u ↔ y = e ∧ e ≠ "" := fun y => by
      rcases hu2 with ⟨h1, h2⟩ | ⟨h1, h2⟩
      · rw [h2]
        exact ⟨fun h => (nomatch h), fun h => absurd h1 h.2⟩
      · rw [h2, List.mem_singleton]
        exact ⟨fun h => ⟨h, h1⟩, fun h => h.1⟩
    have fm : ∀ y, y ∈ (f ++ x) ++ u ↔ y ∈ allC c e := fun y => by
      rw [List.mem_append, um, mem_allC, gp.mem_iff]
    refine ⟨?_, fun y hy => z.menu y ((fm y).mp hy), fun p hp => ?_, .inr ⟨(c, e), List.mem_append_right _ (List.mem_singleton.mpr rfl), fm⟩, fun r hr i a d hd1 hr1 hn => ?_⟩
    · refine List.nodup_append.mpr ⟨gnd, ?_, fun a ha b hb q => eg (by rw [← ((um b).mp hb).1, ← q]; exact ha)⟩
      rcases hu2 with ⟨_, h2⟩ | ⟨_, h2⟩
      · rw [h2]; exact List.nodup_nil
      · rw [h2]; simp
    · rcases List.mem_append.mp hp with h | h
      · rw [List.append_assoc]
        exact srv_more (L.sv p h)
      · rw [List.mem_singleton.mp h]
        refine ⟨?_, ?_⟩
        · show (((f ++ x) ++ u).take c.length).Perm c
          rw [← gl, List.take_left']
          · exact gp
          · rfl
        · rcases hu2 with ⟨h1, _⟩ | ⟨_, h2⟩
          · exact .inl h1
          · refine .inr ?_
            show ((f ++ x) ++ u)[c.length]? = some e
            rw [h2, ← gl, List.getElem?_append_right (Nat.le_refl _), Nat.sub_self]
            rfl
    · have rq : srv r (c, e) := hr (c, e) (List.mem_append_right _ (List.mem_singleton.mpr rfl))
      by_cases hi : i < f.length
      · rw [List.append_assoc, List.getElem?_append_left hi] at hd1
        rw [List.append_assoc, List.take_append_of_le_length (Nat.le_of_lt hi)] at hn
        exact L.least r (fun p hp => hr p (List.mem_append_left _ hp)) i a d hd1 hr1 hn
      · by_cases hg : i < (f ++ x).length
        · rw [List.getElem?_append_left hg, List.getElem?_append_right (by omega)] at hd1
          rw [List.take_append_of_le_length (Nat.le_of_lt hg)] at hn
          have ac : a ∈ c := by
            refine rq.1.mem_iff.mp ?_
            refine List.mem_of_getElem? (i := i) ?_
            rw [List.getElem?_take_of_lt (by show i < c.length; omega)]
            exact hr1
          rw [List.take_append, List.take_of_length_le (by omega)] at hn
          have an : a ∉ f := fun h => hn (List.mem_append_left _ h)
          have ax : a ∉ x.take (i - f.length) := fun h => hn (List.mem_append_right _ h)
          have amx : a ∈ x := (xm a).mpr ⟨ac, an⟩
          have hlt : i - f.length < x.length := (List.getElem?_eq_some_iff.mp hd1).1
          have ed := (List.getElem?_eq_some_iff.mp hd1).2
          have cut : x = x.take (i - f.length) ++ d :: x.drop (i - f.length + 1) := by
            have e1 := List.drop_eq_getElem_cons hlt
            rw [ed] at e1
            rw [← e1, List.take_append_drop]
          rw [cut] at amx xpw
          rcases List.mem_append.mp amx with h | h
          · exact absurd h ax
          · rcases List.mem_cons.mp h with h | h
            · rw [h]
              exact leS_refl d
            · exact (List.pairwise_cons.mp (List.pairwise_append.mp xpw).2.1).1 a h
        · rw [List.getElem?_append_right (by omega)] at hd1
          have hdu : d ∈ u := List.mem_of_getElem? hd1
          obtain ⟨h1, h2⟩ := (um d).mp hdu
          have hu1 : u.length ≤ 1 := by
            rcases hu2 with ⟨_, q⟩ | ⟨_, q⟩ <;> rw [q] <;> simp
          have hi2 := (List.getElem?_eq_some_iff.mp hd1).1
          have ei : i = c.length := by omega
          have := rq.2.resolve_left h2
          rw [ei] at hr1
          rw [show r[c.length]? = some e from this] at hr1
          rw [h1, ← Option.some.inj hr1]
          exact leS_refl e
  rcases L.top with ⟨h1, h2⟩ | ⟨t, ht, h⟩
  · exact caseB fun x hx => by rw [h1] at hx; cases hx
  · obtain ⟨zt, hs, hl⟩ := hd t ht
    have hl : t.1.length ≤ c.length := hl
    unfold shareQ at hs
    simp only [Bool.or_eq_true, decide_eq_true_eq] at hs
    rcases hs with hs | hs | hs
    · rw [hs] at h
      have := L.sv t ht
      rw [hs] at this
      exact caseA (fun x hx => (h x).mpr hx) this
    · unfold belowQ at hs
      simp only [Bool.and_eq_true, decide_eq_true_eq] at hs
      exact caseB fun x hx => hs.2 x ((h x).mp hx)
    · unfold belowQ at hs
      simp only [Bool.and_eq_true, decide_eq_true_eq] at hs
      have hs2 : ∀ x ∈ allC c e, x ∈ t.1 := hs.2
      have cp : c.Perm t.1 := perm_of z.m.nd (fun x hx => hs2 x (mem_allC.mpr (.inl hx))) zt.m.nd hl
      have he : e = "" := Classical.byContradiction fun ne => z.ne (cp.mem_iff.mpr (hs2 e (mem_allC.mpr (.inr ⟨rfl, ne⟩))))
      refine caseA (fun x hx => (h x).mpr (mem_allC.mpr (.inl (hs2 x hx)))) ⟨?_, .inl he⟩
      show (f.take c.length).Perm c
      rw [cp.length_eq]
      exact (L.sv t ht).1.trans cp.symm
theorem LI.all : ∀ (ys : List Qd) (f : List Str) (done : List Qd), LI f done → QZs ys → (∀ p ∈ done, QZ p.1 p.2) → (∀ p ∈ done, ∀ q ∈ ys, shareQ p q = true ∧ p.1.length ≤ q.1.length) → ys.Pairwise (fun p q => shareQ p q = true ∧ p.1.length ≤ q.1.length) → LI (leng f ys) (done ++ ys)
  | [], f, done, L, _, _, _, _ => by rw [List.append_nil]; exact L
  | q :: ys, f, done, L, hz, hd, hs, hp => by
    obtain ⟨p1, p2⟩ := List.pairwise_cons.mp hp
    have L2 := L.next (q := q) (hz q List.mem_cons_self) fun p hp => ⟨hd p hp, hs p hp q List.mem_cons_self⟩
    have := LI.all ys (lengQ f q) (done ++ [q]) L2 (fun x hx => hz x (List.mem_cons_of_mem _ hx)) (fun p hp => by
        rcases List.mem_append.mp hp with h | h
        · exact hd p h
        · rw [List.mem_singleton.mp h]; exact hz q List.mem_cons_self)
      (fun p hp x hx => by
        rcases List.mem_append.mp hp with h | h
        · exact hs p h x (List.mem_cons_of_mem _ hx)
        · rw [List.mem_singleton.mp h]; exact p1 x hx) p2
    rw [List.append_assoc] at this
    exact this
theorem LI.nil : LI [] [] := ⟨List.nodup_nil, fun c h => (nomatch h), fun p h => (nomatch h), .inl ⟨rfl, rfl⟩, fun r _ i c d h => by simp at h⟩
theorem leng_ok {ys : List Qd} (hz : QZs ys) (hs : ∀ p ∈ ys, ∀ q ∈ ys, shareQ p q = true) (hp : ys.Pairwise fun p q => p.1.length ≤ q.1.length) : LI (leng [] ys) ys := by
  have := LI.all ys [] [] LI.nil hz (fun p h => (nomatch h)) (fun p h => (nomatch h)) (List.Pairwise.imp_of_mem (fun {a b} ha hb h => ⟨hs a ha b hb, h⟩) hp)
  rwa [List.nil_append] at this
/-! ### all rows of some columns, in order -/
/-! ### questions that one index serves can share -/
theorem shareQ_comm (p q : Qd) : shareQ p q = shareQ q p := by
  unfold shareQ
  rw [Bool.or_comm (belowQ p q)]
  congr 1
  exact decide_eq_decide.mpr ⟨Eq.symm, Eq.symm⟩
theorem shareQ_refl (p : Qd) : shareQ p p = true := by
  unfold shareQ
  rw [decide_eq_true rfl]
  rfl
theorem firstP_none : ∀ {zs : List Qd}, firstP shareQ zs = none → ∀ p ∈ zs, ∀ q ∈ zs, shareQ p q = true
  | [], _, p, hp, _, _ => (nomatch hp)
  | x :: zs, h, p, hp, q, hq => by
    unfold firstP at h
    cases hf : zs.find? (fun q => !shareQ x q) with
    | some y =>
      rw [hf] at h
      cases h
    | none =>
      rw [hf] at h
      have all := List.find?_eq_none.mp hf
      have one : ∀ y ∈ zs, shareQ x y = true := fun y hy => by simpa using all y hy
      rcases List.mem_cons.mp hp with e1 | h1
      · rcases List.mem_cons.mp hq with e2 | h2
        · rw [e1, e2]; exact shareQ_refl x
        · rw [e1]; exact one q h2
      · rcases List.mem_cons.mp hq with e2 | h2
        · rw [e2, shareQ_comm]; exact one p h1
        · exact firstP_none h p h1 q h2
theorem firstP_some : ∀ {zs : List Qd} {p q : Qd}, firstP shareQ zs = some (p, q) → shareQ p q = false ∧ p ∈ zs ∧ q ∈ zs
  | [], _, _, h => nomatch h
  | x :: zs, p, q, h => by
    unfold firstP at h
    cases hf : zs.find? (fun q => !shareQ x q) with
    | some y =>
      rw [hf] at h
      cases h
      have := List.find?_some hf
      exact ⟨by simpa using this, List.mem_cons_self, List.mem_cons_of_mem _ (List.mem_of_find?_eq_some hf)⟩
    | none =>
      rw [hf] at h
      obtain ⟨h1, h2, h3⟩ := firstP_some h
      exact ⟨h1, List.mem_cons_of_mem _ h2, List.mem_cons_of_mem _ h3⟩
/-! ### what is due -/
end Qk
set_option maxRecDepth 100000
set_option maxHeartbeats 4000000
/-! try with several clauses whose first one, as n, takes whatever the body raises: the others are never asked -/
set_option maxRecDepth 100000
set_option maxHeartbeats 4000000
/-! a caught error that is handed out: `except A as e: return e` -/
namespace Qk
open PySem PySem.Spec PyProof.Rows L2
/-- an error that was raised: its class and its dict -/
def erx (a : Addr) (cls : Value) (d : Option Addr) : HO := .ext fun h => ∃ (oe : Obj) (vs : Array Value), h.get? a = some oe ∧ Zc cls d oe ∧ oe.data = .fields vs
def wRet (K : PySem.W.Frag) (c : Value) (D : Ends) : WX := fun cls d _ H => PySem.W.exmOne K cls c = some true ∧ ∀ a, H a = none → D.rt (.ref a) (upd H a (erx a cls d))
section
variable {X : Cx} {x n : Str} {c : Value} {i : Nat} {body suite : List Stmt} {b₀ : Stmt} {np pos pos' : Pos} {hds : List ExceptHandler} {tb : WX → TS}
theorem Inv_track {pins : List (Addr × Obj)} {σ : L2.St} {H : Hp} {s : Shared} {a : Addr} {oe : Obj} {cls : Value} {d : Option Addr} {vs : Array Value} (I : Inv X pins σ H s) (ha : s.heap.get? a = some oe) (hz : Zc cls d oe) (hd : oe.data = .fields vs)
    (na : H a = none) (n0 : X.s_0.heap.get? a = none) (nL : a ≠ X.env.locals) (np : ∀ p ∈ X.pn ++ pins, p.1 ≠ a) : Inv X pins σ (upd H a (erx a cls d)) s := by
  have up : ∀ b u, H b = some u → upd H a (erx a cls d) b = some u := fun b u e => by rw [upd_ne fun z => by rw [z, na] at e; cases e]; exact e
  refine ⟨I.ok, I.os, I.bare, ⟨I.base.keep, I.base.slot, fun b o e1 e2 e3 => ?_, I.base.there, fun b xs e => up _ _ (I.base.tups b xs e), fun b o u e => up _ _ (I.base.frzs b o u e), fun b ps e => ?_⟩, I.loc, I.cell, by rw [upd_ne (Ne.symm nL)]; exact I.free, fun y c e => ?_, fun p hp => ?_, fun b o e => ?_, I.len⟩
  · rw [upd_ne fun z => by rw [z, n0] at e1; cases e1]
    exact I.base.free b o e1 e2 e3
  · obtain ⟨more, e⟩ := I.base.tbls b ps e
    exact ⟨more, up _ _ e⟩
  · obtain ⟨v, hc⟩ := I.cell y c e
    have nc : c ≠ a := fun z => by
      obtain ⟨o, ho, hv⟩ := hc
      rw [z, ha] at ho
      cases ho
      rw [hd] at hv
      cases hv
    rw [upd_ne nc]
    exact I.freeC y c e
  · obtain ⟨p1, p2, p3⟩ := I.pin p hp
    exact ⟨p1, by rw [upd_ne (np p hp)]; exact p2, p3⟩
  · by_cases hb : b = a
    · rw [hb, upd_same] at e
      cases e
      rw [hb]
      exact ⟨⟨oe, vs, ha, hz, hd⟩, ⟨_, ha⟩, fun h1 h2 ⟨o, v, q1, q2⟩ k => ⟨o, v, k _ q1, q2⟩⟩
    · rw [upd_ne hb] at e
      exact (I.hok b o e).stay (fun c v hc q => q) (fun c q => up c _ q) fun c _ q => up c _ q
theorem ps_try_ret (hs : X.stack = X.env :: X.outer) (hf : X.env.frame = some X.env.locals) (hN : X.N.Nodup) (hi : X.N[i]? = some n) (hln : X.env.kindOf n = some .local) (hc : L2.Names X x c) (hex : X.ex = [])
    (hb : ∀ (W : WX) (pn : List (Addr × Obj)) (xe : Value → Shared → Prop), Takes (X.tr pn xe) W → PassesOwn (model X.prog X.w) X.A X.env xe → PSs (X.tr pn xe) body (tb W))
    (hsu : ∀ (a : Addr) (oe : Obj) (cls : Value) (d : Option Addr) (pn : List (Addr × Obj)), Zc cls d oe → (∃ vs, oe.data = .fields vs) → PSs (X.suite a ((a, oe) :: pn)) (b₀ :: suite) (tRet (tVar i))) :
    PS X (.Try body (.ExceptHandler (some (.Name x np)) (some n) (b₀ :: suite) pos' :: hds) [] [] pos) (fun D σ H => tb (wRet X.K c D) D σ H) := by
  refine ⟨fun pins s σ H D I h => ?_⟩
  have ok := I.ok
  have hfr : X.A.frames = some (X.env :: X.outer) := by rw [ok.frames, hs]
  have hloc : Loc X.env.scope n := .inl hln
  refine wpAny_Try_except ?_
  refine wpAny_mono ((hb (wRet X.K c D) (X.pn ++ pins) (fun e s₁ => wpAny (model X.prog X.w) X.A (noteFrame e X.env) (fun _ s₂ => wpAny (model X.prog X.w) X.A (setFlight e none) (fun _ s₃ =>
    wpAny (model X.prog X.w) X.A (handleBy e X.env (.ExceptHandler (some (.Name x np)) (some n) (b₀ :: suite) pos' :: hds)) (SP X pins D) X.xe s₃) X.xe s₂) X.xe s₁) (fun u s' xx => ?_) PassesOwn.looking).run [] s σ H D (I.toTry _) h) (fun f s1 hsp => ?_) (fun e s1 he => he)
  · obtain ⟨a, B, sI, pins', σ', H', cls, d, rfl, J', nb, up, sky, na, os, ag, hb1, hyes⟩ := xx
    have J : Inv X pins σ' H' sI := J'.ofTry ok
    have sky' : Sky B (X.env :: X.outer) a (Zc cls d) X.env.locals s'.heap := by rw [← hs]; exact sky
    show wpAny (model X.prog X.w) X.A (noteFrame (.ref a) X.env) _ _ _
    refine Sky.land Zc.steady hfr hf sky' fun h3 fl3 up3 => ?_
    have J3 : Inv X pins σ' H' { s' with heap := h3 } := J.landed nb fl3.1 (up.trans up3) os ag
    obtain ⟨oe3, vs3, he3, hz3, hd3⟩ := fl3.there
    have notFr : ∀ {h : Heap} {o : Obj} {vs : Array Value}, h.FunFrames B (X.env :: X.outer) → h.get? a = some o → o.data = .fields vs → a ∉ frs (X.env :: X.outer) := fun {h o vs} ff e dd hm => by
      obtain ⟨_, o', e', hnf⟩ := ff.mem hm
      rw [e] at e'
      cases e'
      exact hnf _ dd
    have nfr := notFr fl3.2.2.1 he3 hd3
    have nL : a ≠ X.env.locals := fun z => nfr (List.mem_filterMap.mpr ⟨X.env, List.mem_cons_self, by rw [hf, z]⟩)
    have nF : a ∉ X.fs := fun hm => by
      obtain ⟨e, he, q⟩ := List.mem_filterMap.mp hm
      exact nfr (List.mem_filterMap.mpr ⟨e, List.mem_cons_of_mem _ he, q⟩)
    have S3 := J3.suite he3 hd3 na nL nF
    refine wpAny_handleBy_cons (codeAny_handlers_test ?_) (by intro q; cases q)
    have LT : PySem.W.Looks (model X.prog X.w) h3 (typeOf (.ref a)) cls := fun A Q E s k q => wpAny_typeOf_ref (k _ _ he3) (by rw [hz3.1]; exact q)
    have LM := PySem.W.exm_one (M := model X.prog X.w) (J3.kIn) LT hb1
    have test : ∀ {Q : Value → Shared → Prop} {E : Value → Shared → Prop}, Q c { s' with heap := h3 } → wpAny (model X.prog X.w) (X.A.mark (some (.ref a))) (eval (.Name x np) X.env) Q E { s' with heap := h3 } := fun {Q E} q => by
      obtain ⟨hg, hdbg, hm | ⟨hm, hv, hnn⟩⟩ := hc
      · exact ld_glob (X := X.suite a ((a, oe3) :: (X.pn ++ pins))) S3 hg hm q hdbg
      · exact ld_blt (X := X.suite a ((a, oe3) :: (X.pn ++ pins))) S3 hg hm hv q hnn hdbg
    refine test (LM.here ?_)
    refine codeAny_handlers_suite_as ?_
    refine HandSPX.lands_againZ fl3 fun h4 fl4 up4 => ?_
    have J4 : Inv X pins σ' H' { s' with heap := h4 } := J.landed nb fl4.1 ((up.trans up3).trans up4) os ag
    obtain ⟨oe4, vs4, he4, hz4, hd4⟩ := fl4.there
    have S4 := J4.suite he4 hd4 na nL nF
    refine store_ok (X := X.suite a ((a, oe4) :: (X.pn ++ pins))) (v := .ref a) S4 hN hi hloc rfl (fun s5 S5 => ?_) (.inr hln)
    have hBa : B.get? a = none := fl3.2.1
    have nst : a ∉ frs X.stack := by rw [hs]; exact nfr
    have nI : sI.heap.get? a = none := by
      cases e : sI.heap.get? a with
      | none => rfl
      | some o =>
        have := nb a o e nst
        rw [hBa] at this
        cases this
    have n0 : X.s_0.heap.get? a = none := by
      cases e : X.s_0.heap.get? a with
      | none => rfl
      | some o =>
        obtain ⟨o', e'⟩ := J.base.there a o e (by rw [hex]; simp)
        rw [nI] at e'
        cases e'
    have npA : ∀ p ∈ X.pn ++ pins, p.1 ≠ a := fun p hp z => by
      have := (J.pin p hp).1
      rw [z, nI] at this
      cases this
    have hil : i < σ'.length := by
      rw [J.len]
      exact (List.getElem?_eq_some_iff.mp hi).1
    refine wpAny_mono ((hsu a oe4 cls d (X.pn ++ pins) hz4 ⟨_, hd4⟩).run [] s5 _ H' { nx := fun _ _ => False, rt := fun v H6 => v = .ref a ∧ H6 = H' } S5 ⟨.ref a, by rw [List.getElem?_set_self hil], rfl, rfl⟩) (fun f s6 hsp => ?_) (fun _ _ z => False.elim z)
    cases f with
    | next =>
      obtain ⟨σ6, H6, S6, q6⟩ := hsp
      exact q6.elim
    | brk =>
      obtain ⟨σ6, H6, S6, q6⟩ := hsp
      exact q6.elim
    | cont =>
      obtain ⟨σ6, H6, S6, q6⟩ := hsp
      exact q6.elim
    | ret u =>
      obtain ⟨v6, σ6, H6, S6, r6, e6, eH⟩ := hsp
      subst e6 eH
      have p6 := S6.pin (a, oe4) (List.mem_append_left _ List.mem_cons_self)
      have J6 : Inv X ((a, oe4) :: pins) σ6 H6 s6 := (S6.unsuite ok).pins_of fun p hp => by
        rcases List.mem_cons.mp hp with z | z
        · rw [z]; exact p6
        · exact (S6.unsuite ok).pin p (List.mem_append_right _ z)
      refine gone_ok J6 hN hi hln fun s7 J7 => ?_
      have p7 := J7.pin (a, oe4) (List.mem_append_right _ List.mem_cons_self)
      have J8 : Inv X pins (σ6.set i none) H6 s7 := J7.pins_of fun p hp => J7.pin p (List.mem_append_right _ (List.mem_cons_of_mem _ hp))
      exact ⟨.ref a, _, _, Inv_track J8 p7.1 hz4 hd4 p7.2.1 n0 nL npA, r6, hyes a na⟩
  · cases f with
    | next =>
      obtain ⟨σ', H', J', q⟩ := hsp
      exact wpAny_execs_nil ⟨σ', H', J'.ofTry ok, q⟩
    | brk =>
      obtain ⟨σ', H', J', q⟩ := hsp
      exact ⟨σ', H', J'.ofTry ok, q⟩
    | cont =>
      obtain ⟨σ', H', J', q⟩ := hsp
      exact ⟨σ', H', J'.ofTry ok, q⟩
    | ret u =>
      obtain ⟨v, σ', H', J', r, q⟩ := hsp
      exact ⟨v, σ', H', J'.ofTry ok, r, q⟩
end
end Qk
set_option maxRecDepth 100000
set_option maxHeartbeats 4000000
/-! isinstance and the fields of an error that was raised and handed out -/
namespace Qk
open PySem PySem.Spec PyProof.Rows L2
section
variable {X : Cx} {pins : List (Addr × Obj)} {σ : L2.St} {H : Hp} {s : Shared}
/-- an error of the class C that was raised, its fields -/
def Erx (H : Hp) (a C d : Addr) (fs : List (Str × V)) : Prop := H a = some (erx a (.ref C) (some d)) ∧ H d = some (.xd fs)
theorem Erx.same {H H' : Hp} {a C d : Addr} {fs : List (Str × V)} (s : Same H H') (h : Erx H a C d fs) : Erx H' a C d fs := ⟨s _ _ h.1, s _ _ h.2⟩
theorem erx_at {P : Program} {w : World} {H : Hp} {h : Heap} {a : Addr} {cls : Value} {d : Option Addr} (hok : HOk P w H h) (e : H a = some (erx a cls d)) : ∃ (oe : Obj) (vs : Array Value), h.get? a = some oe ∧ Zc cls d oe ∧ oe.data = .fields vs := by
  have x : ObjOk P w H h a (.ext fun h => ∃ (oe : Obj) (vs : Array Value), h.get? a = some oe ∧ Zc cls d oe ∧ oe.data = .fields vs) := hok a _ e
  exact x.1
theorem erx_inst {a C d : Addr} {fs : List (Str × V)} (I : Inv X pins σ H s) (h : Erx H a C d fs) : ∃ oe mA, (∃ od, PySem.W.InstAt s.heap a oe C (some od) ∧ s.heap.get? d = some od) ∧ s.heap.Ns1 d mA ∧ ∀ f, RelO (fs.lookup f) (mA f) := by
  obtain ⟨oe, vs, ha, hz, hd⟩ := erx_at I.hok h.1
  have hx : ObjOk X.prog X.w H s.heap d (.xd fs) := I.hok d _ h.2
  obtain ⟨mA, hns, hr⟩ := hx
  obtain ⟨od, ho, hl⟩ := lookIn_ns hns
  exact ⟨oe, mA, ⟨od, ⟨ha, hz.1, by unfold PySem.W.notCls; rw [hd] <;> rfl, by rw [hz.2]; exact ho⟩, ho⟩, hns, hr⟩
end
/-- isinstance(e, c), e such an error -/
def rIsErx (K : PySem.W.Frag) : List V → Hp → VK → Prop := fun xs H Q => ∃ (a C d : Addr) (fs : List (Str × V)) (c : V) (u : Value) (b : Bool), xs = [.ref a, c] ∧ ClsV c u ∧ Erx H a C d fs ∧ ErC K C ∧ PySem.W.kitOne K (.ref C) u = some b ∧ Q (.bl b) H
theorem call_isErx {X : Cx} : CallR X (.builtin "isinstance") (rIsErx X.K) := by
  intro pins s σ H xs us Q I r h
  obtain ⟨a, C, d, fs, c, u, b, rfl, k, he, T, e, q⟩ := h
  obtain ⟨u1, u2, rfl, r1, r2⟩ := vals2 r
  have e2 := k.eq r2
  subst e2
  cases (show u1 = Value.ref a from r1)
  obtain ⟨oe, mA, ⟨od, J, _⟩, _⟩ := erx_inst I he
  obtain ⟨cd, hc, _⟩ := PySem.W.any_some T.x.hdC
  exact PySem.W.kia_one (PySem.W.kitx_exc (by rw [hc]; rfl) T.x.ga T.x.gg T.x.exC T.ha T.hn T.ht T.hm) I.kIn J e (fun z => nomatch z) fun tk => ⟨.bl b, H, I.tok tk, rfl, q⟩
/-- e.f -/
def tXfx (K : PySem.W.Frag) (n : Str) (te : TE) : TE := fun σ H Q => te σ H fun x H1 => ∃ (a C d : Addr) (fs : List (Str × V)) (v : V), x = .ref a ∧ XfC K C ∧ PySem.W.findIn K (.ref C) n = some none ∧ Erx H1 a C d fs ∧ fs.lookup n = some v ∧ Q v H1
theorem pe_xfx {X : Cx} {e : Expr} {te : TE} {pos : Pos} {n : Str} (he : PE X e te) (hb : attributeBase e n X.env (eval e X.env) = eval e X.env := by rfl) : PE X (.Attribute e n pos) (tXfx X.K n te) := by
  refine ⟨fun pins s σ H Q I h => ?_⟩
  refine attr_of hb (thn (he.run pins s σ H _ I h) fun u s1 hh => ?_)
  obtain ⟨x, H1, I1, rx, a, C, d, fs, v, ex, T, hno, ea, l, q⟩ := hh
  subst ex
  obtain rfl : u = Value.ref a := rx
  obtain ⟨oe, vs, ha, hz, hd⟩ := erx_at I1.hok ea.1
  have hx : ObjOk X.prog X.w H1 s1.heap d (.xd fs) := I1.hok d _ ea.2
  obtain ⟨mA, hns, hr⟩ := hx
  obtain ⟨od, ho, hl⟩ := lookIn_ns hns
  obtain ⟨u, hu, ru⟩ := RelO.some_of (v := v) (o := mA n) (by rw [← l]; exact hr n)
  have J : PySem.W.InstAt s1.heap a oe C (some od) := ⟨ha, hz.1, by unfold PySem.W.notCls; rw [hd] <;> rfl, by rw [hz.2]; exact ho⟩
  exact PySem.HandSPX.exc_get I1.kIn J T.ga T.gg T.exC (PySem.W.findObj_own T.hdC hno rfl (by rw [hl, hu])) (handed_of ru) ⟨v, H1, I1.tok _, ru, q⟩
end Qk
set_option maxRecDepth 100000
set_option maxHeartbeats 4000000
/-! questions that can share: the greatest one, the row made of them, the row without its end -/
namespace Qk
open PySem PySem.Spec PyProof.Rows L2
theorem below_iff {p q : Qd} : belowQ p q = true ↔ p ≠ q ∧ ∀ z ∈ allC p.1 p.2, z ∈ q.1 := by
  unfold belowQ
  rw [Bool.and_eq_true, decide_eq_true_eq, Bool.not_eq_true', decide_eq_false_iff_not]
theorem share_or {p q : Qd} (h : shareQ p q = true) : p = q ∨ belowQ p q = true ∨ belowQ q p = true := by
  unfold shareQ at h
  simpa only [Bool.or_eq_true, decide_eq_true_eq] using h
theorem sub_allC {p : Qd} : ∀ z ∈ p.1, z ∈ allC p.1 p.2 := fun z hz => mem_allC.mpr (.inl hz)
/-- one of them that all others are below -/
theorem greatest_ex : ∀ {qs : List Qd}, qs ≠ [] → (∀ p ∈ qs, ∀ q ∈ qs, shareQ p q = true) → ∃ g ∈ qs, ∀ q ∈ qs, q = g ∨ belowQ q g = true
  | [], h, _ => absurd rfl h
  | [x], _, _ => ⟨x, List.mem_cons_self, fun q hq => .inl (List.mem_singleton.mp hq)⟩
  | x :: y :: r, _, hs => by
    obtain ⟨g, hg, hall⟩ := greatest_ex (qs := y :: r) (by simp) fun p hp q hq => hs p (List.mem_cons_of_mem _ hp) q (List.mem_cons_of_mem _ hq)
    have hg' := List.mem_cons_of_mem x hg
    rcases share_or (hs x List.mem_cons_self g hg') with e | h | h
    · exact ⟨g, hg', fun q hq => (List.mem_cons.mp hq).elim (fun z => .inl (z.trans e)) (hall q)⟩
    · exact ⟨g, hg', fun q hq => (List.mem_cons.mp hq).elim (fun z => .inr (by rw [z]; exact h)) (hall q)⟩
    · refine ⟨x, List.mem_cons_self, fun q hq => ?_⟩
      rcases List.mem_cons.mp hq with z | hq
      · exact .inl z
      · by_cases e : q = x
        · exact .inl e
        · refine .inr (below_iff.mpr ⟨e, ?_⟩)
          have h2 := (below_iff.mp h).2
          rcases hall q hq with z | z
          · rw [z]
            exact h2
          · exact fun c hc => h2 c (sub_allC c ((below_iff.mp z).2 c hc))
theorem allC_pw {q : Qd} (z : QZ q.1 q.2) : (allC q.1 q.2).Pairwise leS := by
  unfold allC
  split
  · exact sortedS_pw z.m.srt
  · exact srt_pw _
/-- two questions of the same columns tell the same list of columns -/
theorem allC_eq {p q : Qd} (zp : QZ p.1 p.2) (zq : QZ q.1 q.2) (hs : ∀ c ∈ allC p.1 p.2, c ∈ allC q.1 q.2) (hl : (allC q.1 q.2).length ≤ (allC p.1 p.2).length) : allC p.1 p.2 = allC q.1 q.2 :=
  perm_sorted (perm_of zp.all_nd hs zq.all_nd hl) (allC_pw zp) (allC_pw zq)
/-- the columns of the greatest one are those of the widest one -/
theorem greatest_cols {qs : List Qd} {g w : Qd} (hz : QZs qs) (hg : g ∈ qs) (hw : w ∈ qs) (hall : ∀ q ∈ qs, q = g ∨ belowQ q g = true) (hmax : ∀ q ∈ qs, (allC q.1 q.2).length ≤ (allC w.1 w.2).length) : allC g.1 g.2 = allC w.1 w.2 := by
  rcases hall w hw with e | h
  · rw [e]
  · exact (allC_eq (hz w hw) (hz g hg) (fun c hc => sub_allC c ((below_iff.mp h).2 c hc)) (hmax g hg)).symm
/-- the row's columns are those of the widest one -/
theorem row_perm {qs : List Qd} {R : List Str} {w : Qd} (hz : QZs qs) (L : LI R qs) (hw : w ∈ qs) (hmax : ∀ q ∈ qs, (allC q.1 q.2).length ≤ (allC w.1 w.2).length) : R.Perm (allC w.1 w.2) := by
  have sw : srv R w := L.sv w hw
  have wsub : ∀ c ∈ allC w.1 w.2, c ∈ R := fun c hc => by
    rcases mem_allC.mp hc with h | ⟨h1, h2⟩
    · exact (List.take_sublist _ _).mem (sw.1.mem_iff.mpr h)
    · rw [h1]
      exact List.mem_of_getElem? (sw.2.resolve_left h2)
  have hle : R.length ≤ (allC w.1 w.2).length := by
    rcases L.top with ⟨h1, _⟩ | ⟨t, ht, h⟩
    · rw [h1]
      exact Nat.zero_le _
    · have h1 := nodup_len R (allC t.1 t.2) L.nd fun c hc => (h c).mp hc
      have h2 := hmax t ht
      omega
  exact (perm_of (hz w hw).all_nd wsub L.nd hle).symm
theorem LI.of_mem {R : List Str} {ys qs : List Qd} (L : LI R ys) (h : ∀ q, q ∈ ys ↔ q ∈ qs) (hn : qs ≠ []) : LI R qs := by
  refine ⟨L.nd, L.sub, fun p hp => L.sv p ((h p).mpr hp), ?_, fun r hr => L.least r fun p hp => hr p ((h p).mp hp)⟩
  rcases L.top with ⟨_, h2⟩ | ⟨t, ht, h3⟩
  · exfalso
    cases qs with
    | nil => exact hn rfl
    | cons q r =>
      have := (h q).mpr List.mem_cons_self
      rw [h2] at this
      cases this
  · exact .inr ⟨t, (h t).mp ht, h3⟩
/-- without its end the row doesn't serve the widest one -/
theorem cut_fails {R : List Str} {w : Qd} (hp : R.Perm (allC w.1 w.2)) (hpos : 0 < R.length) : ¬ srv R.dropLast w := fun h => by
  have hl : R.length = (rowC w.1 w.2).length := by rw [row_len]; exact hp.length_eq
  have h1 := h.1.length_eq
  rw [List.length_take, List.length_dropLast] at h1
  unfold rowC at hl
  split at hl
  · omega
  · rename_i ne
    rw [List.length_append, List.length_singleton] at hl
    have h2 := (List.getElem?_eq_some_iff.mp (h.2.resolve_left ne)).1
    rw [List.length_dropLast] at h2
    omega
end Qk
set_option maxRecDepth 100000
set_option maxHeartbeats 4000000
namespace Qk
open PySem PySem.Spec PyProof.Rows L2
def top (i : Nat) : Stmt := PySem.Challenge.pw_narrowkeys_k18_whole_sharing.main.body.getD i (.Pass ⟨0, 0, 0, 0⟩)
abbrev sInit : Stmt := inClass (top 2) 0
abbrev sRow : Stmt := top 4
abbrev sCols : Stmt := top 5
abbrev sWidth : Stmt := top 6
abbrev sBelow : Stmt := top 7
abbrev sCan : Stmt := top 8
abbrev sSplit : Stmt := top 9
abbrev sFault : Stmt := top 11
abbrev sServ : Stmt := top 12
abbrev sQof : Stmt := top 13
abbrev sMany : Stmt := top 14
abbrev sLeng : Stmt := top 15
abbrev sIFor : Stmt := top 16
abbrev sBag : Stmt := top 18
abbrev sTake : Stmt := top 19
abbrev sOne : Stmt := top 20
abbrev sMixed : Stmt := top 21
abbrev sNames : Stmt := top 22
abbrev sQuestion : Stmt := top 23
abbrev sBeginning : Stmt := top 24
abbrev sTold : Stmt := top 25
abbrev sOneServes : Stmt := top 26
abbrev sLaw : Stmt := top 27
structure Txt (K : PySem.W.Frag) (mg : Str → Option Value) : Prop where
  len : mg "len" = none
  int : mg "int" = none
  abs : mg "abs" = none
  tuple : mg "tuple" = none
  sorted : mg "sorted" = none
  range : mg "range" = none
  repr : mg "repr" = none
  list : mg "list" = none
  set : mg "set" = none
  enumerate : mg "enumerate" = none
  max : mg "max" = none
  isinstance : mg "isinstance" = none
/-- the error Apart -/
structure TxE (K : PySem.W.Frag) (mg : Str → Option Value) (C : Addr) : Prop where
  er : ErC K C
  no : PySem.W.findIn K (.ref C) "pair" = some none
  m : mg "Apart" = some (.ref C)
  te : PySem.W.exmOne K (.ref C) (.ref C) = some true
  ty : PySem.W.kitOne K (.type "tuple") (.ref C) = some false
  et : PySem.W.kitOne K (.ref C) (.type "tuple") = some false
theorem TxE.kc {K : PySem.W.Frag} {mg : Str → Option Value} {C : Addr} (_T : TxE K mg C) : PySem.W.kitOne K (.ref C) (.ref C) = some true := by
  unfold PySem.W.kitOne
  exact if_pos (beq_iff_eq.mpr rfl)
section
variable {P : Program} {w : World} {K : PySem.W.Frag} {mg : Str → Option Value} {base : Heap}
theorem scBag : FnScope ["_law_script", "_law_cell"] ["_law_script"] (defScope sBag) := ⟨rfl, rfl, rfl, by decide +kernel, rfl, by decide +kernel, by decide +kernel⟩
theorem ok_bag {f : Addr} {fd : FuncData} (F : Fun K "_law_bag" "_law_bag" sBag f fd) (T : Txt K mg) : FnOk P w K mg base CX0 1 f fd ["_law_script"] (spBag K) := by
  refine F.ok scBag (fun vs H Q E h => ?_) (fun cdv A outer s H vs Q E hr h => ?_)
  · obtain ⟨a, ns, rfl, _⟩ := h
    rfl
  · obtain ⟨a, ns, rfl, hS, hz, k⟩ := h
    have nd := scBag.nd
    refine ⟨_, pss_one (ps_ret (pe_lst (pa_cons pe_int (pa_cons pe_int (pa_cons pe_int (pa_cons (pe_lc (own := [("_law_cell", 1)]) (g := gName 1) (tt := tYes) rfl nd
      (pi_list (pe_slice sl_list (pv 0) po_none (po_some pe_int))) (blkOk_by (N := ["_law_script", "_law_cell"]) (sc := defScope sBag) (by decide +kernel)) (fun _ _ _ _ _ => pg_name (i := 1) nd rfl (Or.inl rfl)) (fun _ _ _ _ _ => pts_nil)
      (fun _ _ _ _ _ => pe_callB call_abs (by rfl) T.abs (by decide +kernel) (pa_cons (pv 1) pa_nil))) pa_nil)))))), ?_⟩
    refine ⟨_, rfl, _, rfl, a, _, rfl, hS, fun p hp => ⟨p, rfl, ⟨_, SqL.of upd_same⟩, fun D hD => ?_⟩⟩
    have e0 : cutV (ns.map V.int) none (some 63) = (ns.take 63).map V.int := (cut_to 63 _).trans List.map_take.symm
    have npD : p ≠ D := ne_of_none upd_same hD
    have s0 : Same H (upd H p (.lst (cutV (ns.map V.int) none (some 63)))) := same_new hp
    have nD : H D = none := s0.free hD
    refine lc_list (K := K) (a := p) (xs := (ns.take 63).map V.int) (fun i H' => Same H H' ∧ H' p = some (.lst ((ns.take 63).map V.int)) ∧ ∃ ms : List Int, H' D = some (.lst (ms.map V.int)) ∧ ms.length ≤ i ∧ ∀ n ∈ ms, 0 ≤ n)
      ⟨s0.trans (same_new hD), by rw [upd_ne npD, upd_same, e0], [], upd_same, Nat.le_refl _, by simp⟩ (fun i H' _ h => SqL.of h.2.1) ?_ ?_
    · rintro i x H' hi ⟨s1, h1, ms, h2, hl, hm⟩
      rw [List.getElem?_map] at hi
      cases e : (ns.take 63)[i]? with
      | none => rw [e] at hi; cases hi
      | some z =>
        rw [e] at hi
        obtain rfl : V.int z = x := Option.some.inj hi
        have hlt : i < 63 := by
          have := (List.getElem?_eq_some_iff.mp e).1
          rw [List.length_take] at this
          omega
        refine ⟨rfl, Exists.intro _ ⟨rfl, z, rfl, _, h2, by rw [List.length_map, sizeLine_eq]; omega, fun b o q => ?_, ?_, ms ++ [if z < 0 then -z else z], by rw [upd_same]; simp, by simp; omega, ?_⟩⟩
        · have : b ≠ D := ne_of_none q nD
          rw [upd_ne this]
          exact s1 _ _ q
        · rw [upd_ne npD]
          exact h1
        · intro n hn
          rcases List.mem_append.mp hn with hn | hn
          · exact hm n hn
          · obtain rfl := List.mem_singleton.mp hn
            split <;> omega
    · rintro H' ⟨s1, h1, ms, h2, hl, hm⟩
      refine ⟨by show 4 ≤ sizeLine; decide, fun q hq => ?_⟩
      have nDq : D ≠ q := ne_of_none h2 hq
      exact k q D _ (s1.free hq) ⟨0, 1234567891, 0, ms, upd_same, by rw [upd_ne nDq]; exact h2, nDq, by decide, by decide, by decide, hm⟩ (s1.trans (same_new hq))
theorem scTake : FnScope ["_law_bag_here", "_law_many", "_law_cell", "_law_mixed_here", "_law_drawn", "_law_begin", "_law_second"] ["_law_bag_here", "_law_many"] (defScope sTake) := ⟨rfl, rfl, rfl, by decide +kernel, rfl, by decide +kernel, by decide +kernel⟩
theorem ok_take {f : Addr} {fd : FuncData} (F : Fun K "_law_take" "_law_take" sTake f fd) (T : Txt K mg) : FnOk P w K mg base CX0 1 f fd ["_law_bag_here", "_law_many"] spTake := by
  refine F.ok scTake (fun vs H Q E h => ?_) (fun cdv A outer s H vs Q E hr h => ?_)
  · obtain ⟨b, l, n, rfl, _⟩ := h
    rfl
  · obtain ⟨b, l, n, rfl, B, n0, n1, k⟩ := h
    have nd := scTake.nd
    obtain ⟨h, m, p, ns, hb, hl, nlb, h0, m0, m1, hns⟩ := id B
    refine ⟨_, Evl.pss_cut (ps_if (pt_cmpR op_eq (pe_ix ix_list (pv 0) pe_int fun _ _ => rfl) pe_int (nomark _))
        (pss_cons (ps_set (i := 2) nd rfl (Or.inl rfl) pe_int)
        (Evl.pss_cut (ps_if (pt_cmpR op_lt (pe_ix ix_list (pv 0) pe_int fun _ _ => rfl) (pe_callB call_len_seq (by rfl) T.len PySem.boot_len (pa_cons (pe_ix ix_list (pv 0) pe_int fun _ _ => rfl) pa_nil)) (nomark _))
          (pss_one (ps_set (i := 2) nd rfl (Or.inl rfl) (pe_ix ix_list (pe_ix ix_list (pv 0) pe_int fun _ _ => rfl) (pe_ix ix_list (pv 0) pe_int fun _ _ => rfl) fun _ _ => rfl))) pss_nil)
        (pss_cons (ps_augS (pv 0) pe_int get_list pe_int ip_add set_list)
        (Evl.pss_cut (ps_if (pt_cmpR op_ge (pv 2) pe_int (nomark _)) (pss_one (ps_asg (pv 2) (pg_sub (pv 0) pe_int set_list))) pss_nil)
        (pss_cons (ps_set (i := 3) nd rfl (Or.inl rfl) (pe_op op_add (pe_op op_add (pe_op op_mul (pe_ix ix_list (pv 0) pe_int fun _ _ => rfl) pe_int)
            (pe_op op_mod (pe_callTy call_int1 (by rfl) T.int (by decide +kernel) (pa_cons (pv 2) pa_nil)) pe_int)) (pe_op op_mul pe_int (pe_ix ix_list (pv 0) pe_int fun _ _ => rfl))))
        (pss_one (ps_asg (pe_op op_mod (pe_callTy call_int1 (by rfl) T.int (by decide +kernel) (pa_cons (pv 3) pa_nil)) pe_int) (pg_sub (pv 0) pe_int set_list)))))))) pss_nil)
      (Evl.pss_cut (ps_if (pt_cmpR op_gt (pe_ix ix_list (pv 0) pe_int fun _ _ => rfl) pe_int (nomark _))
        (pss_cons (ps_set (i := 4) nd rfl (Or.inl rfl) (pe_op op_mod (pe_callTy call_int1 (by rfl) T.int (by decide +kernel) (pa_cons (pe_ix ix_list (pv 0) pe_int fun _ _ => rfl) pa_nil)) (pv 1)))
        (pss_cons (ps_asg (pe_op op_fdivN (pe_callTy call_int1 (by rfl) T.int (by decide +kernel) (pa_cons (pe_ix ix_list (pv 0) pe_int fun _ _ => rfl) pa_nil)) (pv 1)) (pg_sub (pv 0) pe_int set_list))
        (pss_one (ps_ret (pv 4))))) pss_nil)
      (pss_cons (ps_set (i := 5) nd rfl (Or.inl rfl) (pe_op op_mod (pe_callTy call_int1 (by rfl) T.int (by decide +kernel) (pa_cons (pe_op op_mul (pe_op op_add (pe_ix ix_list (pv 0) pe_int fun _ _ => rfl) pe_int) pe_int) pa_nil)) pe_int))
      (pss_cons (ps_set (i := 6) nd rfl (Or.inl rfl) (pe_op op_mod (pe_callTy call_int1 (by rfl) T.int (by decide +kernel) (pa_cons (pe_op op_mul (pe_op op_mod (pe_callTy call_int1 (by rfl) T.int (by decide +kernel) (pa_cons (pe_op op_mul (pv 5) (pv 5)) pa_nil)) pe_int) pe_int) pa_nil)) pe_int))
      (pss_one (ps_ret (pe_op op_mod (pe_callTy call_int1 (by rfl) T.int (by decide +kernel) (pa_cons (pe_op op_fdiv (pv 6) pe_int) pa_nil)) (pv 1)))))))
      , ?_⟩
    refine ⟨fun σ' H' => ∃ c2 c3, σ' = [some (.ref b), some (.int n), c2, c3, none, none, none] ∧ Bag H' b l ∧ Kp b H H', ?_, ?_⟩
    · refine ⟨_, rfl, b, _, _, _, rfl, rfl, SqL.of hb, rfl, rfl, _, rfl, ?_⟩
      refine ite2 (fun _ => ?_) (fun _ => ⟨_, _, rfl, B, Kp.refl _ _⟩)
      refine ⟨fun σ' H' => ∃ c : Int, 0 ≤ c ∧ σ' = [some (.ref b), some (.int n), some (.int c), none, none, none, none] ∧ H' = H, ?_, ?_⟩
      · refine ⟨_, rfl, b, _, _, _, rfl, rfl, SqL.of hb, rfl, _, rfl, b, _, _, _, rfl, rfl, SqL.of hb, rfl, _, _, rfl, .inl (SqL.of hl), _, _, rfl, rfl, _, rfl, ?_⟩
        refine ite2 (fun hc => ?_) (fun _ => ⟨0, Int.le_refl 0, rfl, rfl⟩)
        have hp : p < ns.length := by
          have := of_decide_eq_true hc
          rw [List.length_map] at this
          omega
        refine ⟨_, rfl, b, _, _, _, rfl, rfl, SqL.of hb, rfl, _, rfl, b, _, _, _, rfl, rfl, SqL.of hb, rfl, l, _, _, .int ns[p], rfl, rfl, SqL.of hl, atI_nat (by rw [List.getElem?_map, List.getElem?_eq_getElem hp]; rfl), ?_⟩
        exact ⟨ns[p], hns _ (List.getElem_mem hp), rfl, rfl⟩
      · rintro σ' H' ⟨c, hc, rfl, rfl⟩
        refine ⟨_, rfl, b, _, 2, _, rfl, rfl, SqL.of hb, rfl, _, _, rfl, rfl, b, _, _, 2, rfl, rfl, hb, rfl, ?_⟩
        have hl1 : (upd H' b (HO.lst [.int h, .int m, .int ((p + 1 : Nat) : Int), .ref l])) l = some (HO.lst (ns.map V.int)) := by rw [upd_ne nlb]; exact hl
        refine ⟨fun σ' H2 => ∃ h' : Int, 0 ≤ h' ∧ σ' = [some (.ref b), some (.int n), some (.int c), none, none, none, none] ∧ H2 b = some (.lst [.int h', .int m, .int ((p + 1 : Nat) : Int), .ref l]) ∧ Kp b H' H2, ?_, ?_⟩
        · refine ⟨_, rfl, _, _, rfl, rfl, _, rfl, ?_⟩
          refine ite2 (fun _ => ?_) (fun _ => ⟨h, h0, rfl, upd_same, Kp.at_ _ _ _⟩)
          refine ⟨_, rfl, _, rfl, b, _, 0, 0, rfl, rfl, upd_same, rfl, ?_⟩
          exact ⟨c, hc, rfl, upd_same, (Kp.at_ _ _ _).trans (Kp.at_ _ _ _)⟩
        · rintro σ' H2 ⟨h', h0', rfl, hb2, k2⟩
          have hl2 : H2 l = some (.lst (ns.map V.int)) := k2 _ _ hl nlb
          refine ⟨_, rfl, b, _, 1, _, rfl, rfl, SqL.of hb2, rfl, _, _, rfl, rfl, .inl ⟨by omega, by omega⟩, _, rfl, .inl ⟨_, rfl, _, _, rfl, rfl, (by show (0 : Int) < 2147483647; decide), _, _, rfl, rfl,
            _, rfl, b, _, 2, _, rfl, rfl, SqL.of hb2, rfl, _, _, rfl, rfl, .inl ⟨by decide, by decide⟩, _, _, rfl, rfl, _, rfl, .inl ⟨_, rfl, _, _, rfl, rfl, (by show (0 : Int) < 2147483647; decide), _, rfl, b, _, 1, 1, rfl, rfl, hb2, rfl, ?_⟩⟩⟩
          exact ⟨_, _, rfl, ⟨h', _, p + 1, ns, upd_same, (by rw [upd_ne nlb]; exact hl2), nlb, h0', Int.emod_nonneg _ (by decide), Int.emod_lt_of_pos _ (by decide), hns⟩, k2.trans (Kp.at_ _ _ _)⟩
    · rintro σ1 H1 ⟨c2, c3, rfl, B1, k1⟩
      clear hb hl hns h0 m0 m1
      obtain ⟨h, m, p, ns, hb, hl, nlb, h0, m0, m1, hns⟩ := id B1
      refine ⟨fun σ' H' => σ' = [some (.ref b), some (.int n), c2, c3, none, none, none] ∧ H' = H1, ?_, ?_⟩
      · refine ⟨_, rfl, b, _, 0, _, rfl, rfl, SqL.of hb, rfl, _, _, rfl, rfl, _, rfl, ?_⟩
        refine ite2 (fun _ => ?_) (fun _ => ⟨rfl, rfl⟩)
        obtain ⟨j, ej, hj⟩ := take_mod (k := h) n0
        refine ⟨_, rfl, b, _, 0, _, rfl, rfl, SqL.of hb, rfl, .inl ⟨_, rfl, _, rfl, _, _, rfl, rfl, n0, _, rfl, b, _, 0, _, rfl, rfl, SqL.of hb, rfl, .inl ⟨_, rfl, _, rfl, _, _, rfl, rfl, ⟨by omega, by omega⟩, _, rfl, b, _, 0, 0, rfl, rfl, hb, rfl, _, rfl, ?_⟩⟩⟩
        show Q (.int (h % n)) _
        rw [ej]
        refine k j _ hj ⟨_, m, p, ns, upd_same, (by rw [upd_ne nlb]; exact hl), nlb, ?_, m0, m1, hns⟩ (k1.trans (Kp.at_ _ _ _))
        show 0 ≤ h.fdiv n
        rw [Int.fdiv_eq_ediv_of_nonneg h (by omega)]
        exact Int.ediv_nonneg h0 (by omega)
      · rintro σ' H' ⟨rfl, rfl⟩
        have q1 : ∀ x : Int, 0 ≤ x % 1000000007 ∧ x % 1000000007 < 1000000007 := fun x => ⟨Int.emod_nonneg _ (by decide), Int.emod_lt_of_pos _ (by decide)⟩
        have q2 : ∀ x : Int, 0 ≤ x % 998244353 ∧ x % 998244353 < 998244353 := fun x => ⟨Int.emod_nonneg _ (by decide), Int.emod_lt_of_pos _ (by decide)⟩
        obtain ⟨u, eu⟩ : ∃ u, u = ((m + 1) * 39373) % 1000000007 := ⟨_, rfl⟩
        have hu := q1 ((m + 1) * 39373)
        rw [← eu] at hu
        obtain ⟨j, ej, hj⟩ := take_mod (k := (u * u % 998244353 * 30011 % 998244353) / 7) n0
        have hv := q2 (u * u)
        refine ⟨_, rfl, b, _, 1, _, rfl, rfl, SqL.of hb, rfl, _, _, rfl, rfl, _, _, rfl, rfl, .inl ⟨by omega, by omega⟩, .inl ⟨_, rfl, _, _, rfl, rfl, (by show (0 : Int) < 1000000007; decide), ?_⟩⟩
        show tSeq _ _ _ [some (.ref b), some (.int n), c2, c3, none, some (.int (((m + 1) * 39373) % 1000000007)), none] _
        rw [← eu]
        refine ⟨_, rfl, _, rfl, _, _, rfl, rfl, .inl ⟨by omega, by omega⟩, .inl ⟨_, rfl, _, _, rfl, rfl, (by show (0 : Int) < 998244353; decide), _, _, rfl, rfl, .inl ⟨by omega, by omega⟩, .inl ⟨_, rfl, _, _, rfl, rfl, (by show (0 : Int) < 998244353; decide), _, rfl, _, _, rfl, rfl, ⟨by decide, by decide⟩, .inl ⟨_, rfl, _, rfl, _, _, rfl, rfl, n0, ?_⟩⟩⟩⟩
        show Q (.int ((u * u % 998244353 * 30011 % 998244353) / 7 % n)) _
        rw [ej]
        exact k j _ hj B1 k1
theorem scOne : FnScope ["_law_bag_here", "_law_some"] ["_law_bag_here", "_law_some"] (defScope sOne) := ⟨rfl, rfl, rfl, by decide +kernel, rfl, by decide +kernel, by decide +kernel⟩
theorem ok_one {f : Addr} {fd : FuncData} (F : Fun K "_law_one" "_law_one" sOne f fd) (T : Txt K mg) (cT : Cal P w K mg base 1 "_law_take" ["_law_bag_here", "_law_many"] spTake) : FnOk P w K mg base CX0 2 f fd ["_law_bag_here", "_law_some"] spOne := by
  refine F.ok scOne (fun vs H Q E h => ?_) (fun cdv A outer s H vs Q E hr h => ?_)
  · obtain ⟨b, l, a, xs, rfl, _⟩ := h
    rfl
  · obtain ⟨b, l, a, xs, rfl, B, nab, ha, hne, hz, k⟩ := h
    refine ⟨_, pss_one (ps_ret (pe_ix ix_list (pv 1) (pe_call cT.G hr rfl cT.m cT.kp cT.b .nil pass0 (pa_cons (pv 0) (pa_cons (pe_callB call_len_seq (by rfl) T.len PySem.boot_len (pa_cons (pv 1) pa_nil)) pa_nil))) fun _ _ => rfl)), ?_⟩
    have hpos : 0 < xs.length := List.length_pos_iff.mpr hne
    refine ⟨_, rfl, _, rfl, _, rfl, _, _, rfl, .inl (SqL.of ha), b, l, _, rfl, B, by omega, by omega, fun j H' hj B' k' => ?_⟩
    have hj' : j < xs.length := by omega
    exact ⟨a, xs, j, xs[j], rfl, rfl, SqL.of (k' _ _ ha nab), atI_nat (List.getElem?_eq_getElem hj'), k _ _ (List.getElem_mem hj') B' k'⟩
theorem scMixed : FnScope ["_law_bag_here", "_law_things", "_law_found", "_law_thing"] ["_law_bag_here", "_law_things"] (defScope sMixed) := ⟨rfl, rfl, rfl, by decide +kernel, rfl, by decide +kernel, by decide +kernel⟩
theorem ok_mixed {f : Addr} {fd : FuncData} (F : Fun K "_law_mixed" "_law_mixed" sMixed f fd) (T : Txt K mg) (cT : Cal P w K mg base 1 "_law_take" ["_law_bag_here", "_law_many"] spTake) : FnOk P w K mg base CX0 2 f fd ["_law_bag_here", "_law_things"] spMixed := by
  refine F.ok scMixed (fun vs H Q E h => ?_) (fun cdv A outer s H vs Q E hr h => ?_)
  · obtain ⟨b, l, a, xs, rfl, _⟩ := h
    rfl
  · obtain ⟨b, l, a, xs, rfl, B, nab, ha, hz, k⟩ := h
    have nd := scMixed.nd
    refine ⟨_, pss_cons (ps_set (i := 2) nd rfl (Or.inl rfl) (pe_lst pa_nil)) (pss_cons (ps_for PassesOwn.never rfl (pi_list (pv 1)) (pg_name (i := 3) nd rfl (Or.inl rfl))
      (pss_one (ps_expr (pe_bm PySem.F.plainAttrs_list PySem.F.slot_list_insert PySem.F.type_list_insert mt_insert (pv 2)
        (pa_cons (pe_call cT.G hr rfl cT.m cT.kp cT.b .nil pass0 (pa_cons (pv 0) (pa_cons (pe_op op_add (pe_callB call_len_seq (by rfl) T.len PySem.boot_len (pa_cons (pv 2) pa_nil)) pe_int) pa_nil))) (pa_cons (pv 3) pa_nil))))))
      (pss_one (ps_ret (pv 2)))), ?_⟩
    refine ⟨by decide, fun p hp => ?_⟩
    have npb : p ≠ b := B.ne hp
    have nap : a ≠ p := ne_of_none ha hp
    refine ⟨_, rfl, a, rfl, ⟨_, SqL.of (by rw [upd_ne nap]; exact ha)⟩, for_list (K := K) (a := a) (xs := xs) (fun i σ H' => ∃ (ys : List V) (v : Option V), σ = [some (.ref b), some (.ref a), some (.ref p), v] ∧ ys.Perm (xs.take i) ∧ H' p = some (.lst ys) ∧ Bag H' b l ∧ Kp b H H')
      ⟨[], none, rfl, by simp, upd_same, B.new hp, Kp.new hp⟩ (fun i σ H' _ ⟨_, _, _, _, _, _, k'⟩ => SqL.of (k' _ _ ha nab)) ?_ ?_⟩
    · rintro i x σ H' hi ⟨ys, v, rfl, hp1, h1, B1, k1⟩
      have hil : i < xs.length := (List.getElem?_eq_some_iff.mp hi).1
      have hyl : ys.length = i := by
        rw [hp1.length_eq, List.length_take]
        omega
      refine ⟨_, rfl, .inl ⟨rfl, _, SqL.of h1⟩, _, rfl, _, rfl, _, _, rfl, .inl (SqL.of h1), _, _, rfl, rfl, b, l, _, rfl, B1, by omega, by omega, fun j H2 hj B2 k2 => ?_⟩
      refine ⟨_, rfl, p, ys, (j : Int), x, rfl, rfl, k2 _ _ h1 npb, Nat.lt_of_lt_of_le (show ys.length < 1000 by omega) (by rw [sizeLine_eq]; decide), by omega, by omega, ?_⟩
      refine ⟨ys.take j ++ [x] ++ ys.drop j, _, rfl, ?_, ?_, ?_, ?_⟩
      · have e1 : xs.take (i + 1) = xs.take i ++ [x] := by
          rw [List.take_add_one, hi]
          rfl
        rw [e1]
        have q1 : (ys.take j ++ [x] ++ ys.drop j).Perm (ys ++ [x]) := by
          have q2 : (ys.take j ++ ([x] ++ ys.drop j)).Perm (ys.take j ++ (ys.drop j ++ [x])) := List.Perm.append_left _ List.perm_append_comm
          rw [List.append_assoc]
          refine q2.trans ?_
          rw [← List.append_assoc, List.take_append_drop]
        exact q1.trans (hp1.append_right _)
      · rw [upd_same]
        simp
      · exact B2.upd npb.symm (B.nel hp)
      · intro c o hc ncb
        have : c ≠ p := ne_of_none hc hp
        rw [upd_ne this]
        exact k2 _ _ (k1 _ _ hc ncb) ncb
    · rintro σ H' ⟨ys, v, rfl, hp1, h1, B1, k1⟩
      rw [List.take_length] at hp1
      exact ⟨_, rfl, k ys p H' hp1 hp npb h1 B1 k1⟩
theorem scNames : FnScope ["_law_bag_here", "_law_many", "_law_menu"] ["_law_bag_here", "_law_many"] (defScope sNames) := ⟨rfl, rfl, rfl, by decide +kernel, rfl, by decide +kernel, by decide +kernel⟩
theorem ok_names {f : Addr} {fd : FuncData} (F : Fun K "_law_names" "_law_names" sNames f fd) (T : Txt K mg) (cM : Cal P w K mg base 2 "_law_mixed" ["_law_bag_here", "_law_things"] spMixed) : FnOk P w K mg base CX0 3 f fd ["_law_bag_here", "_law_many"] spNames := by
  refine F.ok scNames (fun vs H Q E h => ?_) (fun cdv A outer s H vs Q E hr h => ?_)
  · obtain ⟨b, l, n, rfl, _⟩ := h
    rfl
  · obtain ⟨b, l, n, rfl, B, k⟩ := h
    have nd := scNames.nd
    refine ⟨_, pss_cons (ps_set (i := 2) nd rfl (Or.inl rfl) (pe_lst (pa_cons pe_str (pa_cons pe_str (pa_cons pe_str (pa_cons pe_str (pa_cons pe_str (pa_cons pe_str (pa_cons pe_str (pa_cons pe_str (pa_cons pe_str (pa_cons pe_str (pa_cons pe_str (pa_cons pe_str pa_nil))))))))))))))
      (pss_one (ps_ret (pe_slice sl_list (pe_call cM.G hr rfl cM.m cM.kp cM.b .nil pass0 (pa_cons (pv 0) (pa_cons (pv 2) pa_nil))) po_none (po_some (pv 1))))), ?_⟩
    refine ⟨by show 12 ≤ sizeLine; decide, fun p hp => ?_⟩
    have npb : p ≠ b := B.ne hp
    refine ⟨_, rfl, _, rfl, b, l, p, menu0.map V.str, rfl, B.new hp, npb, upd_same, by show 12 < 1000; decide, fun ys q H' hp1 hq nqb h1 B1 k1 => ?_⟩
    refine ⟨_, rfl, _, rfl, q, ys, rfl, SqL.of h1, fun r hr => ?_⟩
    have e0 : cutV ys none (some (n : Int)) = ys.take n := cut_to n ys
    rw [e0]
    obtain ⟨zs, rfl, hzs⟩ := perm_strs hp1
    have hsub := (List.take_sublist n zs)
    have nrH : H r = none := by
      cases e : H r with
      | none => rfl
      | some o =>
        have ner : r ≠ p := ne_of_none e hp
        by_cases erb : r = b
        · subst erb
          obtain ⟨o', e'⟩ := B1.at_
          rw [e'] at hr
          cases hr
        · have := k1 r o (by rw [upd_ne ner]; exact e) erb
          rw [this] at hr
          cases hr
    refine k (zs.take n) r _ ⟨(hzs.nodup_iff.mpr menu0_nodup).sublist hsub, fun c hc => menu0_sub _ (hzs.mem_iff.mp (hsub.mem hc)), by rw [List.length_take, hzs.length_eq]; rfl⟩ nrH (B1.ne hr) (by rw [upd_same, List.map_take]) (B1.new hr) ((Kp.new hp).trans (k1.trans (Kp.new hr)))
theorem scQuestion : FnScope ["_law_bag_here", "_law_names_here", "_law_some", "_law_end"] ["_law_bag_here", "_law_names_here"] (defScope sQuestion) := ⟨rfl, rfl, rfl, by decide +kernel, rfl, by decide +kernel, by decide +kernel⟩
theorem ok_question {f : Addr} {fd : FuncData} (F : Fun K "_law_question" "_law_question" sQuestion f fd) (T : Txt K mg) (cT : Cal P w K mg base 1 "_law_take" ["_law_bag_here", "_law_many"] spTake) (cM : Cal P w K mg base 2 "_law_mixed" ["_law_bag_here", "_law_things"] spMixed) : FnOk P w K mg base CX0 3 f fd ["_law_bag_here", "_law_names_here"] spQuestion := by
  refine F.ok scQuestion (fun vs H Q E h => ?_) (fun cdv A outer s H vs Q E hr h => ?_)
  · obtain ⟨b, l, a, xs, rfl, _⟩ := h
    rfl
  · obtain ⟨b, l, a, xs, rfl, B, nab, ha, R, k⟩ := h
    have nd := scQuestion.nd
    have hr1 : Room 1 _ := hr.mono (by decide)
    refine ⟨_, pss_cons (ps_set (i := 2) nd rfl (Or.inl rfl) (pe_slice sl_list (pe_call cM.G hr rfl cM.m cM.kp cM.b .nil pass0 (pa_cons (pv 0) (pa_cons (pv 1) pa_nil))) po_none
        (po_some (pe_op op_add pe_int (pe_call cT.G hr1 rfl cT.m cT.kp cT.b .nil pass0 (pa_cons (pv 0) (pa_cons (pe_callB call_len_seq (by rfl) T.len PySem.boot_len (pa_cons (pv 1) pa_nil)) pa_nil)))))))
      (Evl.pss_cut (ps_set (i := 3) nd rfl (Or.inl rfl) (pe_ifExp (pt_cmpR op_eq (pe_call cT.G hr1 rfl cT.m cT.kp cT.b .nil pass0 (pa_cons (pv 0) (pa_cons pe_int pa_nil))) pe_int (nomark _))
        (pe_bm0 PySem.F.plainAttrs_list PySem.F.slot_list_pop PySem.F.type_list_pop mt_pop (pv 2)) pe_str))
      (pss_one (ps_ret (pe_tup (pa_cons (pe_callTy call_tuple_of (by rfl) T.tuple (by decide +kernel) (pa_cons (pe_callB cr_sortedST (by rfl) T.sorted (by decide +kernel) (pa_cons (pv 2) pa_nil)) pa_nil)) (pa_cons (pv 3) pa_nil)))))), ?_⟩
    have hl := R.le
    have hpos := R.pos
    refine ⟨_, rfl, _, rfl, b, l, a, _, rfl, B, nab, ha, by rw [List.length_map]; omega, fun ys0 p H1 hp0 hp hpb h1 B1 k1 => ?_⟩
    obtain ⟨ys, rfl, hy⟩ := perm_strs hp0
    have ha1 := k1 _ _ ha nab
    refine ⟨_, rfl, _, rfl, _, _, rfl, .inl (SqL.of ha1), b, l, _, rfl, B1, by rw [List.length_map]; omega, by rw [List.length_map]; omega, fun j H2 hj B2 k2 => ?_⟩
    rw [List.length_map] at hj
    refine ⟨_, _, rfl, rfl, _, rfl, p, _, rfl, SqL.of (k2 _ _ h1 hpb), fun r hr => ?_⟩
    have ec : cutV (ys.map V.str) none (some (1 + (j : Int))) = (ys.take (j + 1)).map V.str := by
      have e1 : (1 + (j : Int)) = ((j + 1 : Nat) : Int) := by omega
      rw [e1, cut_to, List.map_take]
    rw [ec]
    have hrb : r ≠ b := B2.ne hr
    have hyl := hy.length_eq
    refine ⟨fun σ' H' => ∃ (zs : List Str) (e : Str), σ' = [some (.ref b), some (.ref a), some (.ref r), some (.str e)] ∧ H' r = some (.lst (zs.map V.str)) ∧ zs.length ≤ 12 ∧ (∀ ws, ws.Perm zs → sortedS ws = true → Qok xs ws e) ∧ Bag H' b l ∧ Kp b H H', ?_, ?_⟩
    · refine ⟨_, rfl, b, l, 2, rfl, B2.new hr, by decide, by decide, fun j2 H3 hj2 B3 k3 => ?_⟩
      have kH3 : Kp b H H3 := k1.trans (k2.trans ((Kp.new hr).trans k3))
      have hr3 := k3 _ _ upd_same hrb
      refine ⟨rfl, _, rfl, ?_⟩
      refine ite2 (fun _ => ?_) (fun _ => ?_)
      · have hlt : j < ys.length := by omega
        have el : ((ys.take (j + 1)).map V.str)[((ys.take (j + 1)).map V.str).length - 1]? = some (V.str ys[j]) := by
          rw [List.length_map, List.length_take, Nat.min_eq_left (by omega), Nat.add_sub_cancel, List.getElem?_map, List.getElem?_take_of_lt (by omega), List.getElem?_eq_getElem hlt]
          rfl
        refine ⟨_, rfl, .inl ⟨rfl, _, SqL.of hr3⟩, r, _, _, rfl, rfl, hr3, el, ?_⟩
        have ed : ((ys.take (j + 1)).map V.str).dropLast = (ys.take j).map V.str := by
          rw [← List.map_dropLast, List.take_add_one, List.getElem?_eq_getElem hlt, Option.toList_some, List.dropLast_concat]
        rw [ed]
        refine ⟨ys.take j, ys[j], rfl, upd_same, by rw [List.length_take]; omega, fun ws hw hs => qok_ranged R hy (List.getElem?_eq_getElem hlt) hw hs, B3.upd hrb.symm (B2.nel hr), fun c o hc ncb => ?_⟩
        have ncr : c ≠ r := ne_of_none (k2 _ _ (k1 _ _ hc ncb) ncb) hr
        rw [upd_ne ncr]
        exact kH3 _ _ hc ncb
      · exact ⟨ys.take (j + 1), "", rfl, hr3, by rw [List.length_take]; omega, fun ws hw hs => qok_plain R hy hw hs, B3, kH3⟩
    · rintro σ' H' ⟨zs, e, rfl, h2, hz, hq, B4, k4⟩
      refine ⟨_, rfl, r, zs, rfl, .inl (SqL.of h2), by omega, fun ws p1 hw hs hp1 => ⟨p1, _, rfl, .inl ⟨SqL.of upd_same, fun p2 hp2 => ⟨_, rfl, by show 2 ≤ sizeLine; decide, fun p3 hp3 => ?_⟩⟩⟩⟩
      have s3 : Same H' _ := (same_new (o := .lst (ws.map V.str)) hp1).trans ((same_new (o := .tup (ws.map V.str)) hp2).trans (same_new (o := .tup [.ref p2, .str e]) hp3))
      exact k p3 ws e _ ⟨p2, upd_same, same_new hp3 _ _ upd_same⟩ (hq ws hw hs) (B4.same s3) (k4.trans (Kp.of s3))
theorem scBeginning : FnScope ["_law_bag_here", "_law_row", "_law_many"] ["_law_bag_here", "_law_row"] (defScope sBeginning) := ⟨rfl, rfl, rfl, by decide +kernel, rfl, by decide +kernel, by decide +kernel⟩
theorem ok_beginning {f : Addr} {fd : FuncData} (F : Fun K "_law_beginning" "_law_beginning" sBeginning f fd) (T : Txt K mg) (cT : Cal P w K mg base 1 "_law_take" ["_law_bag_here", "_law_many"] spTake) : FnOk P w K mg base CX0 2 f fd ["_law_bag_here", "_law_row"] spBeginL := by
  refine F.ok scBeginning (fun vs H Q E h => ?_) (fun cdv A outer s H vs Q E hr h => ?_)
  · obtain ⟨b, l, a, xs, rfl, _⟩ := h
    rfl
  · obtain ⟨b, l, a, xs, rfl, B, nab, ha, R, k⟩ := h
    have nd := scBeginning.nd
    refine ⟨_, pss_cons (ps_set (i := 2) nd rfl (Or.inl rfl) (pe_op op_add pe_int (pe_call cT.G hr rfl cT.m cT.kp cT.b .nil pass0 (pa_cons (pv 0) (pa_cons (pe_callB call_len_seq (by rfl) T.len PySem.boot_len (pa_cons (pv 1) pa_nil)) pa_nil)))))
      (pss_cons (ps_if (pt_cmpR op_eq (pe_call cT.G hr rfl cT.m cT.kp cT.b .nil pass0 (pa_cons (pv 0) (pa_cons pe_int pa_nil))) pe_int (nomark _))
        (pss_one (ps_ret (pe_tup (pa_cons (pe_callTy call_tuple_of (by rfl) T.tuple (by decide +kernel) (pa_cons (pe_callB cr_sortedST (by rfl) T.sorted (by decide +kernel)
          (pa_cons (pe_slice sl_list (pv 1) po_none (po_some (pe_op op_sub (pv 2) pe_int))) pa_nil)) pa_nil)) (pa_cons (pe_ix ix_list (pv 1) (pe_op op_sub (pv 2) pe_int) fun _ _ => rfl) pa_nil))))) pss_nil)
      (pss_one (ps_ret (pe_tup (pa_cons (pe_callTy call_tuple_of (by rfl) T.tuple (by decide +kernel) (pa_cons (pe_callB cr_sortedST (by rfl) T.sorted (by decide +kernel)
          (pa_cons (pe_slice sl_list (pv 1) po_none (po_some (pv 2))) pa_nil)) pa_nil)) (pa_cons pe_str pa_nil)))))), ?_⟩
    have hl := R.le
    have hpos := R.pos
    have hlen : (xs.map V.str).length = xs.length := List.length_map _
    refine ⟨_, rfl, _, rfl, _, _, rfl, .inl (SqL.of ha), b, l, _, rfl, B, by omega, by omega, fun j H1 hj B1 k1 => ⟨_, _, rfl, rfl, ?_⟩⟩
    have hj' : j < xs.length := by omega
    have ha1 := k1 _ _ ha nab
    refine ⟨_, rfl, b, l, 2, rfl, B1, by decide, by decide, fun j2 H2 hj2 B2 k2 => ⟨rfl, _, rfl, ?_⟩⟩
    have ha2 := k2 _ _ ha1 nab
    have kH2 : Kp b H H2 := k1.trans k2
    refine ite2 (fun _ => ?_) (fun _ => ?_)
    · have em : (1 + (j : Int)) - 1 = (j : Int) := by omega
      refine ⟨_, rfl, _, rfl, _, _, rfl, rfl, _, rfl, a, _, rfl, SqL.of ha2, fun r hr => ?_⟩
      have ec : cutV (xs.map V.str) none (some ((1 + (j : Int)) - 1)) = (xs.take j).map V.str := by rw [em, cut_to, List.map_take]
      show (fun (Hx : Hp) => _) (upd H2 r (.lst (cutV (xs.map V.str) none (some ((1 + (j : Int)) - 1)))))
      rw [ec]
      refine ⟨r, xs.take j, rfl, .inl (SqL.of upd_same), by rw [List.length_take]; omega, fun ws p1 hw hs hp1 => ⟨p1, _, rfl, .inl ⟨SqL.of upd_same, fun p2 hp2 => ?_⟩⟩⟩
      have s2 : Same H2 _ := (same_new (o := .lst ((xs.take j).map V.str)) hr).trans ((same_new (o := .lst (ws.map V.str)) hp1).trans (same_new (o := .tup (ws.map V.str)) hp2))
      refine ⟨_, rfl, _, rfl, _, _, rfl, rfl, a, _, _, .str xs[j], rfl, rfl, SqL.of (s2 _ _ ha2), ?_, by show 2 ≤ sizeLine; decide, fun p3 hp3 => ?_⟩
      · show atI (xs.map V.str) ((1 + (j : Int)) - 1) = _
        rw [em]
        exact atI_nat (by rw [List.getElem?_map, List.getElem?_eq_getElem hj']; rfl)
      · have s3 := s2.trans (same_new (o := .tup [.ref p2, .str xs[j]]) hp3)
        exact k p3 ws xs[j] _ ⟨p2, upd_same, same_new hp3 _ _ upd_same⟩ (qok_ranged R (List.Perm.refl _) (List.getElem?_eq_getElem hj') hw hs) (B2.same s3) (kH2.trans (Kp.of s3))
    · have em : (1 + (j : Int)) = ((j + 1 : Nat) : Int) := by omega
      have hsm : (xs.take (j + 1)).length < 64 := by rw [List.length_take]; omega
      refine ⟨_, rfl, _, rfl, _, rfl, a, _, rfl, SqL.of ha2, fun r hr => ?_⟩
      have ec : cutV (xs.map V.str) none (some (1 + (j : Int))) = (xs.take (j + 1)).map V.str := by rw [em, cut_to, List.map_take]
      show (fun (Hx : Hp) => _) (upd H2 r (.lst (cutV (xs.map V.str) none (some (1 + (j : Int))))))
      rw [ec]
      refine ⟨r, xs.take (j + 1), rfl, .inl (SqL.of upd_same), hsm, fun ws p1 hw hs hp1 => ⟨p1, _, rfl, .inl ⟨SqL.of upd_same, fun p2 hp2 => ⟨by show 2 ≤ sizeLine; decide, fun p3 hp3 => ?_⟩⟩⟩⟩
      have s3 : Same H2 _ := (same_new (o := .lst ((xs.take (j + 1)).map V.str)) hr).trans ((same_new (o := .lst (ws.map V.str)) hp1).trans ((same_new (o := .tup (ws.map V.str)) hp2).trans (same_new (o := .tup [.ref p2, .str ""]) hp3)))
      exact k p3 ws "" _ ⟨p2, upd_same, same_new hp3 _ _ upd_same⟩ (qok_plain R (List.Perm.refl _) hw hs) (B2.same s3) (kH2.trans (Kp.of s3))
theorem scRow : FnScope ["question", "columns", "last"] ["question"] (defScope sRow) := ⟨rfl, rfl, rfl, by decide +kernel, rfl, by decide +kernel, by decide +kernel⟩
theorem ok_row {f : Addr} {fd : FuncData} (F : Fun K "row_of" "row_of" sRow f fd) (T : Txt K mg) : FnOk P w K mg base CX0 1 f fd ["question"] spRow := by
  refine F.ok scRow (fun vs H Q E h => ?_) (fun cdv A outer s H vs Q E hr h => ?_)
  · obtain ⟨q, cols, e, rfl, _⟩ := h
    rfl
  · obtain ⟨q, cols, e, rfl, ⟨c, hq, hc⟩, Z, k⟩ := h
    have nd := scRow.nd
    refine ⟨_, pss_cons (ps_asg (pv 0) (pg_tup (by rfl) (pgs_cons (pg_name (i := 1) nd rfl (Or.inl rfl)) (pgs_cons (pg_name (i := 2) nd rfl (Or.inl rfl)) pgs_nil))))
      (pss_cons (ps_if (pt_cmpR op_eq (pv 2) pe_str (nomark _)) (pss_one (ps_ret (pv 1))) pss_nil)
      (pss_one (ps_ret (pe_tup (StX.pa_star (pv 1) (pa_cons (pv 2) pa_nil)))))), ?_⟩
    refine ⟨_, rfl, q, _, rfl, SqT.of hq, rfl, _, _, rfl, _, _, rfl, rfl, _, rfl, rfl, _, rfl, ?_⟩
    by_cases he : e = ""
    · rw [decide_eq_true (congrArg V.str he)]
      refine iteT ?_
      refine ⟨_, rfl, k c H (Same.refl _) ?_⟩
      unfold rowC
      rw [if_pos he]
      exact hc
    · rw [decide_eq_false (fun h => he (by injection h))]
      refine iteF ?_
      have hz := Z.le
      rw [if_neg he] at hz
      refine ⟨_, rfl, c, _, rfl, .inl (SqT.of hc), _, rfl, ?_, fun d1 hd1 => ?_⟩
      · show (cols.map V.str ++ [V.str e]).length ≤ sizeLine
        rw [List.length_append, List.length_map, sizeLine_eq]
        simp
        omega
      refine k d1 _ (same_new hd1) ?_
      unfold rowC
      rw [if_neg he, List.map_append]
      exact upd_same
theorem scCols : FnScope ["question"] ["question"] (defScope sCols) := ⟨rfl, rfl, rfl, by decide +kernel, rfl, by decide +kernel, by decide +kernel⟩
theorem ok_cols {f : Addr} {fd : FuncData} (F : Fun K "columns_of" "columns_of" sCols f fd) (T : Txt K mg) (cR : Cal P w K mg base 1 "row_of" ["question"] spRow) : FnOk P w K mg base CX0 2 f fd ["question"] spCols := by
  refine F.ok scCols (fun vs H Q E h => ?_) (fun cdv A outer s H vs Q E hr h => ?_)
  · obtain ⟨q, cols, e, rfl, _⟩ := h
    rfl
  · obtain ⟨q, cols, e, rfl, hq, Z, k⟩ := h
    refine ⟨_, pss_one (ps_ret (pe_callTy call_tuple_of (by rfl) T.tuple (by decide +kernel) (pa_cons (pe_callB cr_sortedST (by rfl) T.sorted (by decide +kernel)
      (pa_cons (pe_call cR.G hr rfl cR.m cR.kp cR.b .nil pass0 (pa_cons (pv 0) pa_nil)) pa_nil)) pa_nil))), ?_⟩
    refine ⟨_, rfl, q, cols, e, rfl, hq, Z, fun t H1 s1 ht => ⟨t, rowC cols e, rfl, .inr (SqT.of ht), by have := Z.row_le; omega, fun us d2 hu2 hs2 hd2 => ⟨d2, _, rfl, .inl ⟨SqL.of upd_same, fun d3 hd3 => ?_⟩⟩⟩⟩
    refine k d3 _ (s1.trans ((same_new hd2).trans (same_new hd3))) ?_
    have eu : us = allC cols e := by
      rw [srt_eq hu2 hs2]
      unfold allC rowC
      split
      · exact srt_self Z.m.srt
      · rfl
    rw [eu]
    exact upd_same
theorem scWidth : FnScope ["question"] ["question"] (defScope sWidth) := ⟨rfl, rfl, rfl, by decide +kernel, rfl, by decide +kernel, by decide +kernel⟩
theorem ok_width {f : Addr} {fd : FuncData} (F : Fun K "width" "width" sWidth f fd) (T : Txt K mg) (cR : Cal P w K mg base 1 "row_of" ["question"] spRow) : FnOk P w K mg base CX0 2 f fd ["question"] spWidth := by
  refine F.ok scWidth (fun vs H Q E h => ?_) (fun cdv A outer s H vs Q E hr h => ?_)
  · obtain ⟨q, cols, e, rfl, _⟩ := h
    rfl
  · obtain ⟨q, cols, e, rfl, hq, Z, k⟩ := h
    refine ⟨_, pss_one (ps_ret (pe_callB call_len_seq (by rfl) T.len PySem.boot_len (pa_cons (pe_call cR.G hr rfl cR.m cR.kp cR.b .nil pass0 (pa_cons (pv 0) pa_nil)) pa_nil))), ?_⟩
    refine ⟨_, rfl, q, cols, e, rfl, hq, Z, fun t H' s1 ht => ⟨_, _, rfl, .inr (SqT.of ht), ?_⟩⟩
    rw [List.length_map, row_len]
    exact k H' s1
theorem scBelow : FnScope ["one", "other"] ["one", "other"] (defScope sBelow) := ⟨rfl, rfl, rfl, by decide +kernel, rfl, by decide +kernel, by decide +kernel⟩
theorem ok_below {f : Addr} {fd : FuncData} (F : Fun K "is_below" "is_below" sBelow f fd) (T : Txt K mg) (cR : Cal P w K mg base 1 "row_of" ["question"] spRow) : FnOk P w K mg base CX0 2 f fd ["one", "other"] (spTwo belowQ) := by
  refine F.ok scBelow (fun vs H Q E h => ?_) (fun cdv A outer s H vs Q E hr h => ?_)
  · obtain ⟨q, r, c1, e1, c2, e2, rfl, _⟩ := h
    rfl
  · obtain ⟨q, r, c1, e1, c2, e2, rfl, h1, h2, Z1, Z2, k⟩ := h
    refine ⟨_, pss_one (ps_ret (pe_and (pe_cmpR (op_neD hr.units) (pv 0) (pv 1) (nomark _)) (pe_one (pe_cmpR op_eq (pe_callB cr_lenX (by rfl) T.len PySem.boot_len
      (pa_cons (pe_op op_subX (pe_callTy (cr_setX rfl) (by rfl) T.set (by decide +kernel) (pa_cons (pe_call cR.G hr rfl cR.m cR.kp cR.b .nil pass0 (pa_cons (pv 0) pa_nil)) pa_nil))
        (pe_callTy (cr_setX rfl) (by rfl) T.set (by decide +kernel) (pa_cons (pe_ix ix_tup (pv 1) pe_int fun _ _ => rfl) pa_nil))) pa_nil)) pe_int (nomark _))))), ?_⟩
    refine ⟨_, rfl, _, rfl, dq (c1, e1), dq (c2, e2), dp_q h1, dp_q h2, (dok_q Z1.fine).shaped, (dok_q Z2.fine).shaped, _, rfl, ?_⟩
    have kk := k
    unfold belowQ at kk
    rw [eqv_q]
    by_cases he : ((c1, e1) : Qd) = (c2, e2)
    · rw [decide_eq_true he]
      refine iteF ?_
      have := kk H (Same.refl _)
      rw [decide_eq_true he] at this
      exact this
    · rw [decide_eq_false he] at kk ⊢
      refine iteT ?_
      refine ⟨_, rfl, q, c1, e1, rfl, h1, Z1, fun t H1 s1 ht => ⟨t, rowC c1 e1, rfl, SqT.of ht, by have := Z1.row_le; omega, fun p n hp hn hnd => ?_⟩⟩
      have s2 := s1.trans (same_new (o := SetX P w p (fun z => decide (z ∈ rowC c1 e1)) n) hp)
      obtain ⟨c, hq2, hc2⟩ := h2.same s2
      refine ⟨_, rfl, r, _, 0, _, rfl, rfl, SqT.of hq2, rfl, c, c2, rfl, SqT.of hc2, by have := Z2.m.le; omega, fun p2 n2 hp2 hn2 hnd2 => ?_⟩
      have s3 := s2.trans (same_new (o := SetX P w p2 (fun z => decide (z ∈ c2)) n2) hp2)
      have en := hnd Z1.row_nd
      have en2 := hnd2 Z2.m.nd
      refine ⟨p, p2, _, _, n, n2, rfl, rfl, same_new hp2 _ _ upd_same, upd_same, by have := Z1.row_le; omega, fun hs => ?_, fun p3 U j hp3 hj => ?_⟩
      · rw [en, en2]
        exact nodup_len _ _ Z1.row_nd fun z hz => by simpa using hs z (by simpa using hz)
      refine ⟨p3, U, j, rfl, upd_same, rfl, ?_⟩
      have s4 := s3.trans (same_new (o := SetX P w p3 U j) hp3)
      have e5 : decide (V.int (j : Int) = V.int 0) = decide (∀ z ∈ rowC c1 e1, z ∈ c2) := by
        refine decide_eq_decide.mpr ⟨fun h => ?_, fun h => ?_⟩
        · have h0 : j = 0 := by
            injection h with h
            omega
          intro z hz
          simpa using hj.mp h0 z (by simpa using hz)
        · rw [hj.mpr fun z hz => by simpa using h z (by simpa using hz)]
          rfl
      have e6 : decide (∀ z ∈ rowC c1 e1, z ∈ c2) = decide (∀ z ∈ allC c1 e1, z ∈ c2) := decide_eq_decide.mpr ⟨fun h z hz => h z (mem_row.mpr hz), fun h z hz => h z (mem_row.mp hz)⟩
      rw [e5, e6]
      have := kk _ s4
      exact this
theorem scCan : FnScope ["one", "other"] ["one", "other"] (defScope sCan) := ⟨rfl, rfl, rfl, by decide +kernel, rfl, by decide +kernel, by decide +kernel⟩
theorem ok_can {f : Addr} {fd : FuncData} (F : Fun K "can_share" "can_share" sCan f fd) (T : Txt K mg) (cB : Cal P w K mg base 2 "is_below" ["one", "other"] (spTwo belowQ)) : FnOk P w K mg base CX0 3 f fd ["one", "other"] (spTwo shareQ) := by
  refine F.ok scCan (fun vs H Q E h => ?_) (fun cdv A outer s H vs Q E hr h => ?_)
  · obtain ⟨q, r, c1, e1, c2, e2, rfl, _⟩ := h
    rfl
  · obtain ⟨q, r, c1, e1, c2, e2, rfl, h1, h2, Z1, Z2, k⟩ := h
    refine ⟨_, pss_one (ps_ret (pe_or (pe_cmpR (op_eqD hr.units) (pv 0) (pv 1) (nomark _)) (pe_or (pe_call cB.G hr rfl cB.m cB.kp cB.b .nil pass0 (pa_cons (pv 0) (pa_cons (pv 1) pa_nil)))
      (pe_one (pe_call cB.G hr rfl cB.m cB.kp cB.b .nil pass0 (pa_cons (pv 1) (pa_cons (pv 0) pa_nil))))))), ?_⟩
    refine ⟨_, rfl, _, rfl, dq (c1, e1), dq (c2, e2), dp_q h1, dp_q h2, (dok_q Z1.fine).shaped, (dok_q Z2.fine).shaped, _, rfl, ?_⟩
    have kk := k
    unfold shareQ at kk
    rw [eqv_q]
    by_cases he : ((c1, e1) : Qd) = (c2, e2)
    · rw [decide_eq_true he] at kk ⊢
      refine iteT ?_
      exact kk H (Same.refl _)
    · rw [decide_eq_false he] at kk ⊢
      refine iteF ?_
      refine ⟨_, rfl, _, rfl, q, r, c1, e1, c2, e2, rfl, h1, h2, Z1, Z2, fun H1 s1 => ⟨_, rfl, ?_⟩⟩
      cases hb : belowQ (c1, e1) (c2, e2) with
      | true =>
        refine iteT ?_
        have := kk H1 s1
        rw [hb] at this
        exact this
      | false =>
        refine iteF ?_
        refine ⟨_, rfl, _, rfl, r, q, c2, e2, c1, e1, rfl, h2.same s1, h1.same s1, Z2, Z1, fun H2 s2 => ?_⟩
        have := kk H2 (s1.trans s2)
        rw [hb] at this
        exact this
/-- what is told: the pair, or None -/
def PairV (H : Hp) (v : V) : Option (Qd × Qd) → Prop
  | none => v = .non
  | some (p, q) => ∃ t a b, v = .ref t ∧ H t = some (.tup [.ref a, .ref b]) ∧ QAt H a p.1 p.2 ∧ QAt H b q.1 q.2
def pairD : Option (Qd × Qd) → PyData
  | none => .none
  | some (p, q) => .tuple [dq p, dq q]
theorem PairV.dp {H : Hp} {v : V} : ∀ {o : Option (Qd × Qd)}, PairV H v o → Dp K H v (pairD o)
  | none, h => by
    cases h
    exact .non
  | some (p, q), ⟨t, a, b, e, ht, h1, h2⟩ => by
    subst e
    exact .tup (SqT.of ht) (.cons (dp_q h1) (.cons (dp_q h2) .nil))
theorem PairV.same {H H' : Hp} {v : V} (s : Same H H') : ∀ {o : Option (Qd × Qd)}, PairV H v o → PairV H' v o
  | none, h => h
  | some (p, q), ⟨t, a, b, e, ht, h1, h2⟩ => ⟨t, a, b, e, s _ _ ht, h1.same s, h2.same s⟩
theorem dok_pair {o : Option (Qd × Qd)} (h : ∀ p q, o = some (p, q) → Qfine p ∧ Qfine q) : DOk (pairD o) := by
  cases o with
  | none => exact ⟨rfl, by decide, by decide⟩
  | some x =>
    obtain ⟨p, q⟩ := x
    obtain ⟨h1, h2⟩ := h p q rfl
    refine ⟨?_, ?_, ?_⟩
    · show fineAll [dq p, dq q] = true
      rw [fineAll, fineAll, fine_q h1, fine_q h2]
      rfl
    · show PyData.depthAll [dq p, dq q] + 1 ≤ 50
      rw [PyData.depthAll, PyData.depthAll, depth_q, depth_q]
      decide
    · show costAll [dq p, dq q] + 3 ≤ 1000000
      have c1 := cost_q h1
      have c2 := cost_q h2
      rw [costAll, costAll, costAll]
      omega
def spSplit (K : PySem.W.Frag) : Sp := fun vs H Q _ => ∃ (a : Addr) (xs : List V) (qs : List Qd), vs = [.ref a] ∧ (H a = some (.lst xs) ∨ H a = some (.tup xs)) ∧ QL H xs qs ∧ xs.length < 64 ∧ QZs qs ∧
  ∀ (H' : Hp) (v : V) (zs : List Qd), Same H H' → Dist qs zs → PairV H' v (firstP shareQ zs) → Q v H'
theorem firstP_drop {f : Qd → Qd → Bool} {zs : List Qd} {i : Nat} {p : Qd} (hi : zs[i]? = some p) : firstP f (zs.drop i) = match (zs.drop (i + 1)).find? fun q => !f p q with
    | some q => some (p, q)
    | none => firstP f (zs.drop (i + 1)) := by
  obtain ⟨hl, e⟩ := List.getElem?_eq_some_iff.mp hi
  rw [List.drop_eq_getElem_cons hl, e]
  rfl
theorem scSplit : FnScope ["questions", "different", "place", "one", "other"] ["questions"] (defScope sSplit) := ⟨rfl, rfl, rfl, by decide +kernel, rfl, by decide +kernel, by decide +kernel⟩
theorem ok_split {f : Addr} {fd : FuncData} (F : Fun K "split_pair" "split_pair" sSplit f fd) (T : Txt K mg) (cS : Cal P w K mg base 3 "can_share" ["one", "other"] (spTwo shareQ)) : FnOk P w K mg base CX0 4 f fd ["questions"] (spSplit K) := by
  refine F.ok scSplit (fun vs H Q E h => ?_) (fun cdv A outer s H vs Q E hr h => ?_)
  · obtain ⟨a, xs, qs, rfl, _⟩ := h
    rfl
  · obtain ⟨a, xs, qs, rfl, hs, hq, hl, hz, k⟩ := h
    have nd := scSplit.nd
    have hu80 : A.units + 3 + 80 < cLine := by
      have := hr.un
      have e : (A.deeper (envOfC "split_pair" (defScope sSplit) s.heap.objs.size f cdv)).units = A.units + 3 := rfl
      omega
    have hu16 : A.units + 3 + 16 < cLine := by omega
    refine ⟨_, pss_cons (ps_set (i := 1) nd rfl (Or.inl rfl) (pe_callB (cr_sortSetQ rfl hu80) (by rfl) T.sorted (by decide +kernel) (pa_cons (pe_callTy (cr_setQ rfl hu16) (by rfl) T.set (by decide +kernel) (pa_cons (pv 0) pa_nil)) pa_nil)))
      (pss_cons (ps_for PassesOwn.never rfl (pi_enum (by rfl) T.enumerate (pa_cons (pv 1) pa_nil)) (pg_tup (by rfl) (pgs_cons (pg_name (i := 2) nd rfl (Or.inl rfl)) (pgs_cons (pg_name (i := 3) nd rfl (Or.inl rfl)) pgs_nil)))
        (pss_one (ps_for PassesOwn.never rfl (pi_list (pe_slice sl_list (pv 1) (po_some (pe_op op_add (pv 2) pe_int)) po_none)) (pg_name (i := 4) nd rfl (Or.inl rfl))
          (pss_one (ps_if (pt_not (pt_val (pe_call cS.G hr rfl cS.m cS.kp cS.b .nil pass0 (pa_cons (pv 3) (pa_cons (pv 4) pa_nil))))) (pss_one (ps_ret (pe_tup (pa_cons (pv 3) (pa_cons (pv 4) pa_nil))))) pss_nil)))))
      (pss_one (ps_ret pe_non))), ?_⟩
    refine ⟨_, rfl, a, xs, qs, rfl, hs.imp SqL.of SqT.of, hq, by omega, fun p M hp S => ?_⟩
    have sp := same_new (o := SetQ w p M) hp
    refine ⟨p, M, rfl, upd_same, fun m hm => (S.at_ m hm).same sp, fun m hm => (hz _ ((S.mem _).mp (List.mem_map_of_mem hm))).strOk, fun ys zs d hd hql hpm hup hsub => ?_⟩
    have D : Dist qs zs := ⟨hpm.nodup_iff.mpr S.nd, hup, fun q => hpm.mem_iff.trans (S.mem q)⟩
    have sd := sp.trans (same_new (o := .lst ys) hd)
    have hy : QL (upd (upd H p (SetQ w p M)) d (.lst ys)) ys zs := hql.same (same_new hd)
    have hdl : (upd (upd H p (SetQ w p M)) d (.lst ys)) d = some (.lst ys) := upd_same
    have zz : QZs zs := fun q hq => hz q ((D.mem q).mp hq)
    refine ⟨_, rfl, d, ys, rfl, SqL.of hdl, for_enumL (K := K) (a := d) (xs := ys) (fun i σ H' => (∃ v2 v3 v4, σ = [some (.ref a), some (.ref d), v2, v3, v4]) ∧ Same (upd (upd H p (SetQ w p M)) d (.lst ys)) H' ∧ firstP shareQ zs = firstP shareQ (zs.drop i))
      ⟨⟨_, _, _, rfl⟩, Same.refl _, rfl⟩ (fun i σ H' _ h => SqL.of (h.2.1 _ _ hdl)) ?_ ?_⟩
    · rintro i x σ H2 hx ⟨⟨v2, v3, v4, rfl⟩, s2, e⟩ t ht
      obtain ⟨o, q, rfl, hqi, hqa⟩ := (hy.same s2).at_ hx
      have st := same_new (o := .tup [.int (i : Nat), .ref o]) ht
      refine ⟨t, _, rfl, SqT.of upd_same, rfl, _, _, rfl, _, _, rfl, rfl, ?_⟩
      have s3 := s2.trans st
      have hqa3 := hqa.same st
      generalize upd H2 t (.tup [.int (i : Nat), .ref o]) = H3 at s3 hqa3
      refine ⟨_, rfl, _, rfl, _, _, rfl, rfl, _, rfl, d, ys, rfl, SqL.of (s3 _ _ hdl), fun c hc => ?_⟩
      rw [cut_behind]
      have sc := same_new (o := .lst (ys.drop (i + 1))) hc
      refine ⟨_, rfl, ⟨_, SqL.of upd_same⟩, ?_⟩
      have s4 := s3.trans sc
      have hqa4 := hqa3.same sc
      have hc4 : (upd H3 c (.lst (ys.drop (i + 1)))) c = some (.lst (ys.drop (i + 1))) := upd_same
      generalize upd H3 c (.lst (ys.drop (i + 1))) = H4 at s4 hqa4 hc4
      have mq : q ∈ zs := List.mem_of_getElem? hqi
      have ef := firstP_drop (f := shareQ) hqi
      refine for_list (K := K) (a := c) (xs := ys.drop (i + 1)) (fun j σ H' => (∃ v4, σ = [some (.ref a), some (.ref d), some (.int (i : Nat)), some (.ref o), v4]) ∧ Same H4 H' ∧ ((zs.drop (i + 1)).take j).find? (fun r => !shareQ q r) = none)
        ⟨⟨_, rfl⟩, Same.refl _, rfl⟩ (fun j σ H' _ h => SqL.of (h.2.1 _ _ hc4)) ?_ ?_
      · rintro j x σ H5 hx5 ⟨⟨v4, rfl⟩, s5, e5⟩
        rw [List.getElem?_drop] at hx5
        obtain ⟨o2, r, rfl, hri, hra⟩ := (hy.same (s4.trans s5)).at_ hx5
        have mr : r ∈ zs := List.mem_of_getElem? hri
        have hri2 : (zs.drop (i + 1))[j]? = some r := by rw [List.getElem?_drop]; exact hri
        have et : (zs.drop (i + 1)).take (j + 1) = (zs.drop (i + 1)).take j ++ [r] := by rw [List.take_add_one, hri2]; rfl
        refine ⟨_, rfl, _, rfl, o, o2, q.1, q.2, r.1, r.2, rfl, hqa4.same s5, hra, zz q mq, zz r mr, fun H6 s6 => ⟨_, rfl, ?_⟩⟩
        cases hsh : shareQ (q.1, q.2) (r.1, r.2) with
        | true =>
          refine iteF ?_
          refine ⟨⟨_, rfl⟩, s5.trans s6, ?_⟩
          rw [et, List.find?_append, e5, Option.none_or, List.find?_cons]
          rw [show shareQ q r = true from hsh]
          rfl
        | false =>
          refine iteT ?_
          refine ⟨_, rfl, _, rfl, by show 2 ≤ sizeLine; decide, fun t2 ht2 => ?_⟩
          have s7 := same_new (o := .tup [.ref o, .ref o2]) ht2
          refine k _ _ zs (sd.trans (s4.trans (s5.trans (s6.trans s7)))) D ?_
          have ff : (zs.drop (i + 1)).find? (fun r => !shareQ q r) = some r := by
            rw [← List.take_append_drop (j + 1) (zs.drop (i + 1)), List.find?_append, et, List.find?_append, e5, Option.none_or, List.find?_cons]
            rw [show shareQ q r = false from hsh]
            rfl
          rw [e, ef, ff]
          exact ⟨t2, o, o2, rfl, upd_same, (hqa4.same (s5.trans s6)).same s7, (hra.same s6).same s7⟩
      · rintro σ H5 ⟨⟨v4, rfl⟩, s5, e5⟩
        refine ⟨⟨_, _, _, rfl⟩, s4.trans s5, ?_⟩
        have hlen : (ys.drop (i + 1)).length = (zs.drop (i + 1)).length := by rw [List.length_drop, List.length_drop, hy.len]
        rw [hlen, List.take_of_length_le (Nat.le_refl _)] at e5
        rw [e, ef, e5]
    · rintro σ H2 ⟨⟨v2, v3, v4, rfl⟩, s2, e⟩
      rw [hy.len, List.drop_of_length_le (Nat.le_refl _)] at e
      refine k _ _ zs (sd.trans s2) D ?_
      rw [e]
      rfl
theorem scFault : FnScope ["index", "question", "columns", "last", "many", "place"] ["index", "question"] (defScope sFault) := ⟨rfl, rfl, rfl, by decide +kernel, rfl, by decide +kernel, by decide +kernel⟩
theorem ok_fault {f : Addr} {fd : FuncData} (F : Fun K "first_fault" "first_fault" sFault f fd) (T : Txt K mg) : FnOk P w K mg base CX0 1 f fd ["index", "question"] spFault := by
  refine F.ok scFault (fun vs H Q E h => ?_) (fun cdv A outer s H vs Q E hr h => ?_)
  · obtain ⟨t, q, ix, cols, e, rfl, _⟩ := h
    rfl
  · obtain ⟨t, q, ix, cols, e, rfl, ht, ⟨c, hq, hc⟩, hl, k⟩ := h
    have nd := scFault.nd
    refine ⟨_, pss_cons (ps_asg (pv 1) (pg_tup (by rfl) (pgs_cons (pg_name (i := 2) nd rfl (Or.inl rfl)) (pgs_cons (pg_name (i := 3) nd rfl (Or.inl rfl)) pgs_nil))))
      (pss_cons (ps_set (i := 4) nd rfl (Or.inl rfl) (pe_callB call_len_seq (by rfl) T.len PySem.boot_len (pa_cons (pv 2) pa_nil)))
      (pss_cons (ps_for PassesOwn.never rfl (pi_range1 (by rfl) T.range (pa_cons (pv 4) pa_nil)) (pg_name (i := 5) nd rfl (Or.inl rfl))
        (pss_one (ps_if (PW.pt (pw_or (pt_cmpR op_ge (pv 5) (pe_callB call_len_seq (by rfl) T.len PySem.boot_len (pa_cons (pv 0) pa_nil)) (nomark _)) (pw_or1 (pt_cmpR op_notIn_seq (pe_ix ix_tup (pv 0) (pv 5) fun _ _ => rfl) (pv 2) (by rfl)))))
          (pss_one (ps_ret (pv 5))) pss_nil)))
      (pss_cons (ps_if (PW.pt (pw_and (pt_cmpR op_ne (pv 3) pe_str (nomark _)) (pw_and1 (PW.pt (pw_or (pt_cmpR op_ge (pv 4) (pe_callB call_len_seq (by rfl) T.len PySem.boot_len (pa_cons (pv 0) pa_nil)) (nomark _)) (pw_or1 (pt_cmpR op_ne (pe_ix ix_tup (pv 0) (pv 4) fun _ _ => rfl) (pv 3) (nomark _))))))))
        (pss_one (ps_ret (pv 4))) pss_nil)
      (pss_one (ps_ret pe_non))))), ?_⟩
    have hlm : (cols.map V.str).length = cols.length := List.length_map _
    have hlx : (ix.map V.str).length = ix.length := List.length_map _
    refine ⟨_, rfl, q, _, rfl, SqT.of hq, rfl, _, _, rfl, _, _, rfl, rfl, _, rfl, _, _, rfl, .inr (SqT.of hc), _, rfl, _, rfl, by omega, by omega, ?_⟩
    rw [hlm]
    refine for_range (lo := 0) (n := cols.length) (fun i σ H' => H' = H ∧ (∃ v, σ = [some (.ref t), some (.ref q), some (.ref c), some (.str e), some (.int (cols.length : Int)), v]) ∧ ∀ p, p < i → goodAt ix cols p)
      ⟨rfl, ⟨none, rfl⟩, fun p hp => absurd hp (Nat.not_lt_zero p)⟩ ?_ ?_
    · rintro i σ H' hi ⟨rfl, ⟨v, rfl⟩, hg⟩
      have e0 : (0 : Int) + (i : Int) = (i : Int) := Int.zero_add _
      rw [e0]
      refine ⟨_, rfl, _, rfl, _, _, rfl, .inr (SqT.of ht), _, _, rfl, rfl, _, rfl, ?_⟩
      rw [hlx]
      refine ite2 (fun h1 => ?_) (fun h1 => ?_)
      · refine ⟨_, rfl, ?_⟩
        have hle : ix.length ≤ i := by
          have := of_decide_eq_true h1
          omega
        have hb : ¬ goodAt ix cols i := fun ⟨c', h2, _⟩ => by rw [List.getElem?_eq_none hle] at h2; cases h2
        have := k H' (Same.refl _)
        rw [fault_at hi hg hb] at this
        exact this
      · have hlt : i < ix.length := by
          by_cases hh : i < ix.length
          · exact hh
          · exact absurd (decide_eq_true (by omega)) h1
        refine ⟨_, rfl, _, rfl, t, _, (i : Int), .str ix[i], rfl, rfl, SqT.of ht, atI_nat (by rw [List.getElem?_map, List.getElem?_eq_getElem hlt]; rfl), _, rfl, c, _, rfl, .inr (SqT.of hc), rfl, flat_strs _, _, rfl, ?_⟩
        show if (!inV (.str ix[i]) (cols.map V.str)) = true then _ else _
        rw [inV_strs]
        by_cases hm : ix[i] ∈ cols
        · rw [decide_eq_true hm]
          refine iteF ?_
          refine ⟨rfl, ⟨_, rfl⟩, fun p hp => ?_⟩
          by_cases hpi : p = i
          · subst hpi
            exact ⟨ix[p], List.getElem?_eq_getElem hlt, hm⟩
          · exact hg p (by omega)
        · rw [decide_eq_false hm]
          refine iteT ?_
          refine ⟨_, rfl, ?_⟩
          have hb : ¬ goodAt ix cols i := fun ⟨c', h2, h3⟩ => by
            rw [List.getElem?_eq_getElem hlt] at h2
            cases h2
            exact hm h3
          have := k H' (Same.refl _)
          rw [fault_at hi hg hb] at this
          exact this
    · rintro σ H' ⟨rfl, ⟨v, rfl⟩, hg⟩
      have kk := k H' (Same.refl _)
      rw [fault_end hg] at kk
      refine ⟨_, rfl, rfl, _, rfl, ?_⟩
      show if (!decide (V.str e = V.str "")) = true then _ else _
      by_cases he : e = ""
      · rw [decide_eq_true (congrArg V.str he)]
        refine iteF ?_
        rw [if_neg (fun h => h.1 he)] at kk
        refine iteF ?_
        exact kk
      · rw [decide_eq_false (fun h => he (by injection h))]
        refine iteT ?_
        refine ⟨_, rfl, _, rfl, _, _, rfl, .inr (SqT.of ht), _, _, rfl, rfl, _, rfl, ?_⟩
        rw [hlx]
        refine ite2 (fun h1 => ?_) (fun h1 => ?_)
        · have hle : ix.length ≤ cols.length := by
            have := of_decide_eq_true h1
            omega
          rw [if_pos ⟨he, by rw [List.getElem?_eq_none hle]; intro h; cases h⟩] at kk
          refine iteT ?_
          exact ⟨_, rfl, kk⟩
        · have hlt : cols.length < ix.length := by
            by_cases hh : cols.length < ix.length
            · exact hh
            · exact absurd (decide_eq_true (by omega)) h1
          refine ⟨_, rfl, _, rfl, t, _, (cols.length : Int), .str ix[cols.length], rfl, rfl, SqT.of ht, atI_nat (by rw [List.getElem?_map, List.getElem?_eq_getElem hlt]; rfl), _, rfl, rfl, _, rfl, ?_⟩
          show if (!decide (V.str ix[cols.length] = V.str e)) = true then _ else _
          by_cases hm : ix[cols.length] = e
          · rw [decide_eq_true (congrArg V.str hm)]
            rw [if_neg (fun h => h.2 (by rw [List.getElem?_eq_getElem hlt, hm]))] at kk
            refine iteF ?_
            exact kk
          · rw [decide_eq_false (fun h => hm (by injection h))]
            rw [if_pos ⟨he, fun h => hm (by rw [List.getElem?_eq_getElem hlt] at h; exact Option.some.inj h)⟩] at kk
            refine iteT ?_
            exact ⟨_, rfl, kk⟩
theorem pw_risingS : ∀ (r : List Str) (p : Str), (p :: r).Pairwise leS → risingS p r = true
  | [], _, _ => rfl
  | x :: r, p, h => by
    obtain ⟨h1, h2⟩ := List.pairwise_cons.mp h
    have h3 : ltCps x.cps.toList p.cps.toList = false := h1 x List.mem_cons_self
    show (!ltCps x.cps.toList p.cps.toList && risingS x r) = true
    rw [h3, pw_risingS r x h2]
    rfl
theorem pw_sortedS {xs : List Str} (h : xs.Pairwise leS) : sortedS xs = true := by
  cases xs with
  | nil => rfl
  | cons x r => exact pw_risingS r x h
theorem exists_sorted (xs : List Str) : ∃ ws : List Str, ws.Perm xs ∧ sortedS ws = true := ⟨srt xs, srt_perm xs, pw_sortedS (srt_pw xs)⟩
theorem scServ : FnScope ["index", "question", "columns", "last", "many"] ["index", "question"] (defScope sServ) := ⟨rfl, rfl, rfl, by decide +kernel, rfl, by decide +kernel, by decide +kernel⟩
theorem ok_serv {f : Addr} {fd : FuncData} (F : Fun K "serves" "serves" sServ f fd) (T : Txt K mg) : FnOk P w K mg base CX0 1 f fd ["index", "question"] spServes := by
  refine F.ok scServ (fun vs H Q E h => ?_) (fun cdv A outer s H vs Q E hr h => ?_)
  · obtain ⟨t, q, ix, cols, e, rfl, _⟩ := h
    rfl
  · obtain ⟨t, q, ix, cols, e, rfl, ht, ⟨c, hq, hc⟩, hl, hxl, hxn, hxm, hcn, hcs, hcm, hem, k⟩ := h
    have nd := scServ.nd
    refine ⟨_, pss_cons (ps_asg (pv 1) (pg_tup (by rfl) (pgs_cons (pg_name (i := 2) nd rfl (Or.inl rfl)) (pgs_cons (pg_name (i := 3) nd rfl (Or.inl rfl)) pgs_nil))))
      (pss_cons (ps_set (i := 4) nd rfl (Or.inl rfl) (pe_callB call_len_seq (by rfl) T.len PySem.boot_len (pa_cons (pv 2) pa_nil)))
      (Evl.pss_cut (ps_if (PW.pt (pw_and (pt_cmpR op_ne (pv 3) pe_str (nomark _)) (pw_and1 (pt_cmpR (op_neD hr.units) (pe_slice sl_tupA (pv 0) (po_some (pv 4)) (po_some (pe_op op_add (pv 4) pe_int)))
          (pe_tup (pa_cons (pv 3) pa_nil)) (nomark _))))) (pss_one (ps_ret pe_bl)) pss_nil)
      (pss_one (ps_ret (pe_cmpR (op_eqD hr.units) (pe_callTy call_tuple_of (by rfl) T.tuple (by decide +kernel) (pa_cons (pe_callB cr_sortedST (by rfl) T.sorted (by decide +kernel)
        (pa_cons (pe_slice sl_tupA (pv 0) po_none (po_some (pv 4))) pa_nil)) pa_nil)) (pv 2) (nomark _)))))), ?_⟩
    have hlm : (cols.map V.str).length = cols.length := List.length_map _
    have fn : ∀ ws : List Str, ws.Perm (ix.take cols.length) → sortedS ws = true → (fault ix cols e = none ↔ ws = cols ∧ (e = "" ∨ ix[cols.length]? = some e)) := fun ws hw hs => fault_none hxn hcn hcs hw hs
    have cm : ∀ c ∈ cols, PyData.strOk c = true := fun c hc => menu_ok _ (hcm _ hc)
    refine ⟨_, rfl, q, _, rfl, SqT.of hq, rfl, _, _, rfl, _, _, rfl, rfl, _, rfl, _, _, rfl, .inr (SqT.of hc), ?_⟩
    rw [hlm]
    refine ⟨fun σ' H' => σ' = [some (.ref t), some (.ref q), some (.ref c), some (.str e), some (.int (cols.length : Int))] ∧ Same H H' ∧ (e = "" ∨ ix[cols.length]? = some e), ?_, ?_⟩
    · refine ⟨_, rfl, rfl, _, rfl, ?_⟩
      show if (!decide (V.str e = V.str "")) = true then _ else _
      by_cases he : e = ""
      · rw [decide_eq_true (congrArg V.str he)]
        refine iteF ?_
        refine iteF ?_
        exact ⟨rfl, Same.refl _, .inl he⟩
      · rw [decide_eq_false (fun h => he (by injection h))]
        refine iteT ?_
        refine ⟨_, rfl, _, rfl, _, rfl, _, rfl, _, _, rfl, rfl, _, rfl, ?_⟩
        refine slA ht (cut_one cols.length ix) fun r2 H4 s4 h4 => ?_
        refine ⟨_, rfl, by show 1 ≤ sizeLine; decide, fun p5 hp5 => ?_⟩
        have em : e ∈ menu := hem.resolve_left he
        have lm : ∀ c ∈ (ix.drop cols.length).take 1, PyData.strOk c = true := fun c hc => menu_ok _ (hxm _ ((List.drop_sublist _ _).mem ((List.take_sublist _ _).mem hc)))
        have s5 := s4.trans (same_new (o := .tup [.str e]) hp5)
        refine ⟨.tuple (((ix.drop cols.length).take 1).map PyData.str), .tuple ([e].map PyData.str), .tup (SqT.of (same_new hp5 _ _ h4)) (dp_strs _), .tup (SqT.of upd_same) (dp_strs [e]), shaped_tuple lm,
          shaped_tuple (fun c hc => by rw [List.mem_singleton.mp hc]; exact menu_ok _ em), _, rfl, ?_⟩
        show if (!PyData.eqv (.tuple (((ix.drop cols.length).take 1).map PyData.str)) (.tuple ([e].map PyData.str))) = true then _ else _
        rw [PyData.eqv, eqv_strs]
        by_cases hm : (ix.drop cols.length).take 1 = [e]
        · rw [decide_eq_true hm]
          refine iteF ?_
          exact ⟨rfl, s5, .inr (take_one.mp hm)⟩
        · rw [decide_eq_false hm]
          refine iteT ?_
          have kk := k _ s5
          have hf : ¬ fault ix cols e = none := fun h => by
            obtain ⟨ws, hw, hs⟩ := exists_sorted (ix.take cols.length)
            rcases ((fn ws hw hs).mp h).2 with q | q
            · exact he q
            · exact hm (take_one.mpr q)
          rw [decide_eq_false hf] at kk
          exact kk
    · rintro σ' H1 ⟨rfl, s1, hd⟩
      refine ⟨_, rfl, _, rfl, _, rfl, ?_⟩
      refine slA (s1 _ _ ht) ((cut_to cols.length _).trans List.map_take.symm) fun r H2 s2 h2 => ?_
      refine ⟨r, ix.take cols.length, rfl, .inr (SqT.of h2), by rw [List.length_take]; omega, fun ws p hw hs hp => ?_⟩
      refine ⟨p, _, rfl, .inl ⟨SqL.of upd_same, fun d hd2 => ?_⟩⟩
      have s5 := (s1.trans s2).trans ((same_new (o := .lst (ws.map V.str)) hp).trans (same_new (o := .tup (ws.map V.str)) hd2))
      have wm : ∀ c ∈ ws, PyData.strOk c = true := fun c hc => menu_ok _ (hxm _ ((List.take_sublist _ _).mem (hw.mem_iff.mp hc)))
      refine ⟨_, rfl, .tuple (ws.map PyData.str), .tuple (cols.map PyData.str), .tup (SqT.of upd_same) (dp_strs _), .tup (SqT.of (s5 _ _ hc)) (dp_strs _), shaped_tuple wm, shaped_tuple cm, ?_⟩
      have kk := k _ s5
      rw [PyData.eqv, eqv_strs]
      have e3 : decide (fault ix cols e = none) = decide (ws = cols) := decide_eq_decide.mpr ⟨fun h => ((fn ws hw hs).mp h).1, fun h => (fn ws hw hs).mpr ⟨h, hd⟩⟩
      rw [e3] at kk
      exact kk
theorem scQof : FnScope ["index", "found", "many", "column", "front"] ["index"] (defScope sQof) := ⟨rfl, rfl, rfl, by decide +kernel, rfl, by decide +kernel, by decide +kernel⟩
theorem ok_qof {f : Addr} {fd : FuncData} (F : Fun K "questions_of" "questions_of" sQof f fd) (T : Txt K mg) : FnOk P w K mg base CX0 1 f fd ["index"] spQof := by
  refine F.ok scQof (fun vs H Q E h => ?_) (fun cdv A outer s H vs Q E hr h => ?_)
  · obtain ⟨t, ix, rfl, _⟩ := h
    rfl
  · obtain ⟨t, ix, rfl, ht, R, k⟩ := h
    have nd := scQof.nd
    have hu : A.units + 3 + 80 < cLine := by
      have := hr.un
      show A.units + 3 + 80 < cLine
      have e : (A.deeper (envOfC "questions_of" (defScope sQof) s.heap.objs.size f cdv)).units = A.units + 3 := rfl
      omega
    refine ⟨_, pss_cons (ps_set (i := 1) nd rfl (Or.inl rfl) (pe_lst pa_nil))
      (pss_cons (ps_for PassesOwn.never rfl (pi_enumT (by rfl) T.enumerate (pa_cons (pv 0) pa_nil)) (pg_tup (by rfl) (pgs_cons (pg_name (i := 2) nd rfl (Or.inl rfl)) (pgs_cons (pg_name (i := 3) nd rfl (Or.inl rfl)) pgs_nil)))
        (pss_cons (ps_set (i := 4) nd rfl (Or.inl rfl) (pe_callTy call_tuple_of (by rfl) T.tuple (by decide +kernel) (pa_cons (pe_callB cr_sortedST (by rfl) T.sorted (by decide +kernel) (pa_cons (pe_slice sl_tupA (pv 0) po_none (po_some (pv 2))) pa_nil)) pa_nil)))
        (pss_cons (ps_expr (pe_bm PySem.F.plainAttrs_list PySem.F.slot_list_append PySem.F.type_list_append mt_append (pv 1) (pa_cons (pe_tup (pa_cons (pv 4) (pa_cons (pv 3) pa_nil))) pa_nil)))
        (pss_one (ps_expr (pe_bm PySem.F.plainAttrs_list PySem.F.slot_list_append PySem.F.type_list_append mt_append (pv 1) (pa_cons (pe_tup (pa_cons
          (pe_callTy call_tuple_of (by rfl) T.tuple (by decide +kernel) (pa_cons (pe_callB cr_sortedST (by rfl) T.sorted (by decide +kernel) (pa_cons (pe_lst (StX.pa_star (pv 4) (pa_cons (pv 3) pa_nil))) pa_nil)) pa_nil)) (pa_cons pe_str pa_nil))) pa_nil)))))))
      (pss_one (ps_ret (pe_callB (cr_sortedQL hu) (by rfl) T.sorted (by decide +kernel) (pa_cons (pv 1) pa_nil))))), ?_⟩
    have hle := R.le
    refine ⟨by decide, fun p hp => ?_⟩
    have s0 : Same H (upd H p (.lst [])) := same_new hp
    have hlx : (ix.map V.str).length = ix.length := List.length_map _
    refine ⟨_, rfl, t, _, rfl, SqT.of (s0 _ _ ht), for_enumT (K := K) (a := t) (xs := ix.map V.str) (fun i σ H' => ∃ (v2 v3 v4 : Option V) (ys : List V), σ = [some (.ref t), some (.ref p), v2, v3, v4] ∧ Same H H' ∧ H' p = some (.lst ys) ∧ QL H' ys (allQ ix i))
      ⟨none, none, none, [], rfl, s0, upd_same, .nil⟩ (fun i σ H' _ ⟨_, _, _, _, _, s1, _⟩ => SqT.of (s1 _ _ ht)) ?_ ?_⟩
    · rintro i x σ H' hi ⟨v2, v3, v4, ys, rfl, s1, hpl, hq⟩ T1 hT1
      have hil : i < ix.length := by
        have := (List.getElem?_eq_some_iff.mp hi).1
        omega
      obtain rfl : V.str ix[i] = x := by
        rw [List.getElem?_map, List.getElem?_eq_getElem hil] at hi
        exact Option.some.inj hi
      have hgd : ix.getD i "" = ix[i] := by
        rw [List.getD_eq_getElem?_getD, List.getElem?_eq_getElem hil]
        rfl
      have sT : Same H' (upd H' T1 (.tup [.int (i : Nat), .str ix[i]])) := same_new hT1
      have hyl : ys.length = 2 * i := by rw [hq.len, allQ_len]
      refine ⟨T1, _, rfl, SqT.of upd_same, rfl, _, _, rfl, _, _, rfl, rfl, ?_⟩
      refine ⟨_, rfl, _, rfl, _, rfl, ?_⟩
      refine slA (sT _ _ (s1 _ _ ht)) ((cut_to i _).trans List.map_take.symm) fun r H2 s2 h2 => ?_
      refine ⟨r, ix.take i, rfl, .inr (SqT.of h2), by rw [List.length_take]; omega, fun ws q1 hw hs hq1 => ⟨q1, _, rfl, .inl ⟨SqL.of upd_same, fun fr hfr => ?_⟩⟩⟩
      have s3 : Same H' _ := sT.trans (s2.trans ((same_new (o := .lst (ws.map V.str)) hq1).trans (same_new (o := .tup (ws.map V.str)) hfr)))
      have ew : ws = srt (ix.take i) := srt_eq hw hs
      -- found.append((front, column))
      refine ⟨_, rfl, .inl ⟨rfl, _, SqL.of (s3 _ _ hpl)⟩, _, rfl, _, rfl, by show 2 ≤ sizeLine; decide, fun q2 hq2 => ⟨p, _, _, rfl, rfl, same_new hq2 _ _ (s3 _ _ hpl), small1000 (by omega), ?_⟩⟩
      have s4 := s3.trans (same_new (o := .tup [.ref fr, .str ix[i]]) hq2)
      have hfr4 : (upd (upd (upd H2 q1 (.lst (ws.map V.str))) fr (.tup (ws.map V.str))) q2 (.tup [.ref fr, .str ix[i]])) fr = some (.tup (ws.map V.str)) := same_new hq2 _ _ upd_same
      have nfrp : fr ≠ p := ne_of hfr4 (s4 _ _ hpl) (by intro z; cases z)
      have nq2p : q2 ≠ p := ne_of upd_same (s4 _ _ hpl) (by intro z; cases z)
      have hq4 : QL _ ys (allQ ix i) := hq.same s4
      -- all questions that stand are tuples: they stay when p's list changes
      have keepP : ∀ {H0 : Hp} {o : HO} {zs : List V} {qs : List Qd} {w0 : List V}, H0 p = some (.lst w0) → QL H0 zs qs → QL (upd H0 p o) zs qs := by
        intro H0 o zs qs w0 hp0 hz
        refine Paired.mapP hz fun x q ⟨t', e, c, g1, g2⟩ => ⟨t', e, c, ?_, ?_⟩
        · rw [upd_ne (ne_of g1 hp0 (by intro z; cases z))]
          exact g1
        · rw [upd_ne (ne_of g2 hp0 (by intro z; cases z))]
          exact g2
      have hA : QL (upd (upd (upd (upd H2 q1 (.lst (ws.map V.str))) fr (.tup (ws.map V.str))) q2 (.tup [.ref fr, .str ix[i]])) p (.lst (ys ++ [.ref q2]))) (ys ++ [.ref q2]) (allQ ix i ++ [(srt (ix.take i), ix.getD i "")]) := by
        refine keepP (s4 _ _ hpl) (paired_app hq4 (.cons ⟨q2, rfl, fr, ?_, ?_⟩ .nil))
        · show (_ : Option HO) = some (HO.tup [.ref fr, .str (ix.getD i "")])
          rw [hgd]
          exact upd_same
        · show (_ : Option HO) = some (HO.tup ((srt (ix.take i)).map V.str))
          rw [← ew]
          exact hfr4
      have hfr5 : (upd (upd (upd (upd H2 q1 (.lst (ws.map V.str))) fr (.tup (ws.map V.str))) q2 (.tup [.ref fr, .str ix[i]])) p (.lst (ys ++ [.ref q2]))) fr = some (.tup (ws.map V.str)) := by
        rw [upd_ne nfrp]
        exact hfr4
      -- found.append((tuple(sorted([*front, column])), ''))
      refine ⟨_, rfl, .inl ⟨rfl, _, SqL.of upd_same⟩, _, rfl, fr, _, rfl, .inl (SqT.of hfr5), _, rfl, ?_, fun d1 hd1 => ?_⟩
      · show (ws.map V.str ++ [V.str ix[i]]).length ≤ sizeLine
        have hwl := hw.length_eq
        rw [List.length_take] at hwl
        rw [List.length_append, List.length_map, sizeLine_eq]
        simp
        omega
      have e6 : ws.map V.str ++ [V.str ix[i]] = (ws ++ [ix[i]]).map V.str := by rw [List.map_append]; rfl
      show (fun (Hx : Hp) => _) (upd _ d1 (.lst (ws.map V.str ++ [V.str ix[i]])))
      rw [e6]
      refine ⟨d1, ws ++ [ix[i]], rfl, .inl (SqL.of upd_same), ?_, fun us d2 hu2 hs2 hd2 => ⟨d2, _, rfl, .inl ⟨SqL.of upd_same, fun d3 hd3 => ⟨by show 2 ≤ sizeLine; decide, fun d4 hd4 => ?_⟩⟩⟩⟩
      · have hwl := hw.length_eq
        rw [List.length_take] at hwl
        rw [List.length_append]
        simp
        omega
      have eu : us = srt (ix.take (i + 1)) := by
        refine srt_eq (hu2.trans ?_) hs2
        rw [List.take_add_one, List.getElem?_eq_getElem hil]
        exact hw.append_right _
      have sB : Same (upd (upd (upd (upd H2 q1 (.lst (ws.map V.str))) fr (.tup (ws.map V.str))) q2 (.tup [.ref fr, .str ix[i]])) p (.lst (ys ++ [.ref q2]))) _ :=
        (same_new (o := .lst ((ws ++ [ix[i]]).map V.str)) hd1).trans ((same_new (o := .lst (us.map V.str)) hd2).trans ((same_new (o := .tup (us.map V.str)) hd3).trans (same_new (o := .tup [.ref d3, .str ""]) hd4)))
      have hpB := sB _ _ (upd_same (H := (upd (upd (upd H2 q1 (.lst (ws.map V.str))) fr (.tup (ws.map V.str))) q2 (.tup [.ref fr, .str ix[i]]))) (a := p) (o := .lst (ys ++ [.ref q2])))
      refine ⟨p, _, _, rfl, rfl, hpB, small1000 (by rw [List.length_append]; simp; omega), ?_⟩
      refine ⟨_, _, _, _, rfl, fun c o hc => ?_, upd_same, ?_⟩
      · have ncp : c ≠ p := ne_of_none hc hp
        rw [upd_ne ncp]
        refine sB _ _ ?_
        rw [upd_ne ncp]
        exact s4 _ _ (s1 _ _ hc)
      · rw [allQ_succ]
        show QL _ (ys ++ [.ref q2] ++ [.ref d4]) (allQ ix i ++ [(srt (ix.take i), ix.getD i ""), (srt (ix.take (i + 1)), "")])
        have e7 : allQ ix i ++ [(srt (ix.take i), ix.getD i ""), ((srt (ix.take (i + 1)), ("" : Str)) : Qd)] = allQ ix i ++ [(srt (ix.take i), ix.getD i "")] ++ [((srt (ix.take (i + 1)), ("" : Str)) : Qd)] := by
          rw [List.append_assoc]
          rfl
        rw [e7]
        refine keepP hpB (paired_app (hA.same sB) (.cons ⟨d4, rfl, d3, upd_same, ?_⟩ .nil))
        show (_ : Option HO) = some (HO.tup ((srt (ix.take (i + 1))).map V.str))
        rw [← eu]
        exact same_new hd4 _ _ upd_same
    · rintro σ H' ⟨v2, v3, v4, ys, rfl, s1, hpl, hq⟩
      rw [hlx] at hq
      refine ⟨_, rfl, p, ys, _, rfl, SqL.of hpl, hq, fun q hq' c hc => okS_strOk ((allQ_fine R (Nat.le_refl _) q hq').c c hc), fun zs rs p2 h1 h2 h3 h4 => ?_⟩
      have sN := same_new (o := .lst zs) h4
      exact k zs rs p2 _ (s1.trans sN) (s1.free h4) upd_same (h1.same sN) h2 h3
/-- self.f = x -/
def spInitE (K : PySem.W.Frag) (f : Str) : Sp := fun vs H Q _ => ∃ (a C : Addr) (x : V), vs = [.ref a, x] ∧ OexC K C ∧ PySem.W.findIn K (.ref C) f = some none ∧ H a = some (exo a C none) ∧
  ∀ d, H d = none → d ≠ a → Q .non (upd (upd H d (exd d [(f, x)])) a (exo a C (some d)))
theorem scInit : FnScope ["self", "pair"] ["self", "pair"] (defScope sInit) := ⟨rfl, rfl, rfl, by decide +kernel, rfl, by decide +kernel, by decide +kernel⟩
theorem ok_init {f : Addr} {fd : FuncData} (F : Fun K "__init__" "Apart.__init__" sInit f fd) : FnOk P w K mg base CX0 1 f fd ["self", "pair"] (spInitE K "pair") := by
  refine F.ok scInit (fun vs H Q E h => ?_) (fun cdv A outer s H vs Q E hr h => ?_)
  · obtain ⟨a, C, x, rfl, _⟩ := h
    rfl
  · obtain ⟨a, C, x, rfl, T, no, ha, q⟩ := h
    exact ⟨_, pss_one (ps_ost (pv 0) (pv 1)), _, rfl, _, rfl, a, C, rfl, T, no, .inl ⟨ha, fun d hd hda => q d hd hda⟩⟩
def spMany : Sp := fun vs H Q _ => ∃ (q : Addr) (cols : List Str) (e : Str), vs = [.ref q] ∧ QAt H q cols e ∧ Q (.int (cols.length : Int)) H
theorem scMany : FnScope ["question"] ["question"] (defScope sMany) := ⟨rfl, rfl, rfl, by decide +kernel, rfl, by decide +kernel, by decide +kernel⟩
theorem ok_many {f : Addr} {fd : FuncData} (F : Fun K "many_by_equality" "many_by_equality" sMany f fd) (T : Txt K mg) : FnOk P w K mg base CX0 1 f fd ["question"] spMany := by
  refine F.ok scMany (fun vs H Q E h => ?_) (fun cdv A outer s H vs Q E hr h => ?_)
  · obtain ⟨q, cols, e, rfl, _⟩ := h
    rfl
  · obtain ⟨q, cols, e, rfl, ⟨c, hq, hc⟩, k⟩ := h
    refine ⟨_, pss_one (ps_ret (pe_callB call_len_seq (by rfl) T.len PySem.boot_len (pa_cons (pe_ix ix_tup (pv 0) pe_int fun _ _ => rfl) pa_nil))), ?_⟩
    refine ⟨_, rfl, q, _, 0, _, rfl, rfl, SqT.of hq, rfl, _, _, rfl, .inr (SqT.of hc), ?_⟩
    show Q (.int ((cols.map V.str).length : Int)) H
    rw [List.length_map]
    exact k
theorem addC_len (f : List Str) (c : Str) : (addC f c).length ≤ f.length + 1 := by
  unfold addC
  split
  · rw [List.length_append]; exact Nat.le_refl _
  · omega
theorem addF_len : ∀ (cs f : List Str), (cs.foldl addC f).length ≤ f.length + cs.length
  | [], f => Nat.le_refl _
  | c :: cs, f => by
    have h1 := addF_len cs (addC f c)
    have h2 := addC_len f c
    rw [List.foldl_cons, List.length_cons]
    omega
theorem leng_snoc (f : List Str) (qs : List Qd) (q : Qd) : leng f (qs ++ [q]) = (q.1 ++ [q.2]).foldl addC (leng f qs) := by
  unfold leng
  rw [List.foldl_append]
  rfl
def spLeng : Sp := fun vs H Q _ => ∃ (t a : Addr) (xs : List V) (qs : List Qd) (fr : List Str), vs = [.ref t, .ref a] ∧ H t = some (.tup (fr.map V.str)) ∧ H a = some (.lst xs) ∧ QL H xs qs ∧ xs.length < 64 ∧ fr.length ≤ 12 ∧ QZs qs ∧
  ∀ (r : Addr) (H' : Hp), Same H H' → H' r = some (.tup ((leng fr qs).map V.str)) → Q (.ref r) H'
abbrev nLeng : List Str := ["front", "questions", "found", "columns", "last", "column"]
theorem scLeng : FnScope nLeng ["front", "questions"] (defScope sLeng) := ⟨rfl, rfl, rfl, by decide +kernel, rfl, by decide +kernel, by decide +kernel⟩
theorem ok_leng {f : Addr} {fd : FuncData} (F : Fun K "lengthened" "lengthened" sLeng f fd) (T : Txt K mg) : FnOk P w K mg base CX0 1 f fd ["front", "questions"] spLeng := by
  refine F.ok scLeng (fun vs H Q E h => ?_) (fun cdv A outer s H vs Q E hr h => ?_)
  · obtain ⟨t, a, xs, qs, fr, rfl, _⟩ := h
    rfl
  · obtain ⟨t, a, xs, qs, fr, rfl, ht, ha, hq, hl, hf, hz, k⟩ := h
    have nd := scLeng.nd
    refine ⟨_, pss_cons (ps_set (i := 2) nd rfl (Or.inl rfl) (pe_callTy call_list_of (by rfl) T.list (by decide +kernel) (pa_cons (pv 0) pa_nil)))
      (pss_cons (ps_for PassesOwn.never rfl (pi_list (pv 1)) (pg_tup (by rfl) (pgs_cons (pg_name (i := 3) nd rfl (Or.inl rfl)) (pgs_cons (pg_name (i := 4) nd rfl (Or.inl rfl)) pgs_nil)))
        (pss_one (ps_for PassesOwn.never rfl (pi_list (pe_lst (StX.pa_star (pv 3) (pa_cons (pv 4) pa_nil)))) (pg_name (i := 5) nd rfl (Or.inl rfl))
          (pss_one (ps_if (PW.pt (pw_and (pt_cmpR op_ne (pv 5) pe_str (nomark _)) (pw_and1 (pt_cmpR op_notIn_seq (pv 5) (pv 2) (by rfl)))))
            (pss_one (ps_expr (pe_bm PySem.F.plainAttrs_list PySem.F.slot_list_append PySem.F.type_list_append mt_append (pv 2) (pa_cons (pv 5) pa_nil)))) pss_nil)))))
      (pss_one (ps_ret (pe_callTy call_tuple_of (by rfl) T.tuple (by decide +kernel) (pa_cons (pv 2) pa_nil))))), ?_⟩
    refine ⟨_, rfl, t, _, rfl, .inr (SqT.of ht), fun p hp => ?_⟩
    have s0 : Same H _ := same_new (o := .lst (fr.map V.str)) hp
    refine ⟨_, rfl, a, rfl, ⟨_, SqL.of (s0 _ _ ha)⟩, for_list (K := K) (a := a) (xs := xs) (fun i σ H' => (∃ v3 v4 v5, σ = [some (.ref t), some (.ref a), some (.ref p), v3, v4, v5]) ∧ Same H H' ∧ H' p = some (.lst ((leng fr (qs.take i)).map V.str)) ∧ (leng fr (qs.take i)).length ≤ 12 + 13 * i)
      ⟨⟨_, _, _, rfl⟩, s0, upd_same, hf⟩ (fun i σ H' _ h => SqL.of (h.2.1 _ _ ha)) ?_ ?_⟩
    · rintro i x σ H1 hx ⟨⟨v3, v4, v5, rfl⟩, s1, hp1, hb1⟩
      have hil : i < xs.length := (List.getElem?_eq_some_iff.mp hx).1
      obtain ⟨o, q, rfl, hqi, c, hqt, hct⟩ := (hq.same s1).at_ hx
      have zq : QZ q.1 q.2 := hz q (List.mem_of_getElem? hqi)
      have hm := zq.m.le
      have et : qs.take (i + 1) = qs.take i ++ [q] := by rw [List.take_add_one, hqi]; rfl
      generalize hg : leng fr (qs.take i) = g at hp1 hb1
      refine ⟨o, _, rfl, SqT.of hqt, rfl, _, _, rfl, _, _, rfl, rfl, ?_⟩
      refine ⟨_, rfl, c, _, rfl, .inl (SqT.of hct), _, rfl, ?_, fun d hd => ?_⟩
      · show (q.1.map V.str ++ [V.str q.2]).length ≤ sizeLine
        rw [List.length_append, List.length_map, sizeLine_eq]
        simp
        omega
      have el : q.1.map V.str ++ [V.str q.2] = (q.1 ++ [q.2]).map V.str := by rw [List.map_append]; rfl
      have hd1 : (upd H1 d (.lst (q.1.map V.str ++ [V.str q.2]))) d = some (.lst ((q.1 ++ [q.2]).map V.str)) := by rw [← el]; exact upd_same
      have s2 : Same H1 _ := same_new (o := .lst (q.1.map V.str ++ [V.str q.2])) hd
      have npd : p ≠ d := ne_of_none hp1 hd
      generalize hH2 : upd H1 d (.lst (q.1.map V.str ++ [V.str q.2])) = H2 at hd1 s2
      have hp2 := s2 _ _ hp1
      have s12 := s1.trans s2
      refine ⟨d, rfl, ⟨_, SqL.of hd1⟩, for_list (K := K) (a := d) (xs := (q.1 ++ [q.2]).map V.str) (fun j σ H' => (∃ v5, σ = [some (.ref t), some (.ref a), some (.ref p), some (.ref c), some (.str q.2), v5]) ∧ (∀ b o, H2 b = some o → b ≠ p → H' b = some o) ∧
          H' p = some (.lst ((((q.1 ++ [q.2]).take j).foldl addC g).map V.str))) ⟨⟨_, rfl⟩, fun b o hb _ => hb, hp2⟩ (fun j σ H' _ h => SqL.of (h.2.1 _ _ hd1 npd.symm)) ?_ ?_⟩
      · rintro j y σ H3 hy ⟨⟨v5, rfl⟩, s3, hp3⟩
        rw [List.getElem?_map] at hy
        obtain ⟨z, hzj, rfl⟩ := Option.map_eq_some_iff.mp hy
        have hjl : j < (q.1 ++ [q.2]).length := (List.getElem?_eq_some_iff.mp hzj).1
        have ej : ((q.1 ++ [q.2]).take (j + 1)).foldl addC g = addC (((q.1 ++ [q.2]).take j).foldl addC g) z := by
          rw [List.take_add_one, hzj, List.foldl_append]
          rfl
        have gl := addF_len ((q.1 ++ [q.2]).take j) g
        rw [List.length_take] at gl
        generalize ((q.1 ++ [q.2]).take j).foldl addC g = u at hp3 ej gl
        rw [ej]
        refine ⟨_, rfl, rfl, _, rfl, ?_⟩
        by_cases he : z = ""
        · rw [decide_eq_true (congrArg V.str he)]
          refine iteF ?_
          refine ⟨⟨_, rfl⟩, s3, ?_⟩
          unfold addC
          rw [if_neg fun h => h.1 he]
          exact hp3
        · rw [decide_eq_false (fun h => he (by injection h))]
          refine iteT ?_
          refine ⟨_, rfl, _, rfl, p, _, rfl, .inl (SqL.of hp3), rfl, flat_strs _, _, rfl, ?_⟩
          show if (!inV (.str z) (u.map V.str)) = true then _ else _
          rw [inV_strs]
          by_cases hm : z ∈ u
          · rw [decide_eq_true hm]
            refine iteF ?_
            refine ⟨⟨_, rfl⟩, s3, ?_⟩
            unfold addC
            rw [if_neg fun h => h.2 hm]
            exact hp3
          · rw [decide_eq_false hm]
            refine iteT ?_
            refine ⟨_, rfl, .inl ⟨rfl, _, SqL.of hp3⟩, _, rfl, p, _, _, rfl, rfl, hp3, small1000 ?_, ?_⟩
            · rw [List.length_map]
              rw [List.length_append] at gl
              simp at gl
              omega
            · refine ⟨⟨_, rfl⟩, fun b o hb nb => by rw [upd_ne nb]; exact s3 b o hb nb, ?_⟩
              unfold addC
              rw [if_pos ⟨he, hm⟩, upd_same, List.map_append]
              rfl
      · rintro σ H3 ⟨⟨v5, rfl⟩, s3, hp3⟩
        rw [List.length_map, List.take_length] at hp3
        rw [et, leng_snoc, hg]
        refine ⟨⟨_, _, _, rfl⟩, fun b o hb => ?_, hp3, ?_⟩
        · exact s3 b o (s12 _ _ hb) (ne_of_none hb hp)
        · have gl := addF_len (q.1 ++ [q.2]) g
          rw [List.length_append] at gl
          simp at gl
          simp
          omega
    · rintro σ H1 ⟨⟨v3, v4, v5, rfl⟩, s1, hp1, hb1⟩
      have e1 : qs.take xs.length = qs := List.take_of_length_le (by rw [hq.len]; exact Nat.le_refl _)
      rw [e1] at hp1
      refine ⟨_, rfl, p, _, rfl, .inl ⟨SqL.of hp1, fun r hr => ?_⟩⟩
      exact k r _ (s1.trans (same_new hr)) upd_same
def spIFor (C : Addr) : Sp := fun vs H Q E => ∃ (a : Addr) (xs : List V) (qs : List Qd), vs = [.ref a] ∧ (H a = some (.lst xs) ∨ H a = some (.tup xs)) ∧ QL H xs qs ∧ xs.length < 64 ∧ QZs qs ∧
  (∀ (H' : Hp) (r : Addr) (ys zs : List Qd), Same H H' → Dist qs zs → firstP shareQ zs = none → ys.Perm qs → ys.Pairwise (fun p q => p.1.length ≤ q.1.length) → H' r = some (.tup ((leng [] ys).map V.str)) → Q (.ref r) H') ∧
  (∀ (H' : Hp) (v : V) (zs : List Qd) (p q : Qd) (d : Addr), Same H H' → Dist qs zs → firstP shareQ zs = some (p, q) → PairV H' v (some (p, q)) → H' d = none → E (.ref C) (some d) (upd H' d (.xd [("pair", v)])))
theorem scIFor : FnScope ["questions", "pair"] ["questions"] (defScope sIFor) := ⟨rfl, rfl, rfl, by decide +kernel, rfl, by decide +kernel, by decide +kernel⟩
theorem QL.permQ {H : Hp} {xs ys : List V} {qs : List Qd} (h : QL H xs qs) (hp : ys.Perm xs) : ∃ rs, QL H ys rs ∧ rs.Perm qs := by
  refine ⟨ys.map (keyQ H), QL.of_keys fun y hy => ?_, by rw [← h.keys]; exact hp.map _⟩
  obtain ⟨t, z, e, at_, _⟩ := h.mem y (hp.mem_iff.mp hy)
  exact ⟨t, z, e, at_⟩
/-- how many columns by equality a value of the list has -/
noncomputable def manyOf (H : Hp) (x : V) : Int := ((keyQ H x).1.length : Int)
theorem QL.pwMany {H : Hp} : ∀ {ys : List V} {rs : List Qd}, QL H ys rs → ys.Pairwise (fun x y => manyOf H x ≤ manyOf H y) → rs.Pairwise (fun p q => p.1.length ≤ q.1.length) := fun {ys rs} h hp => by
  have e := h.keys
  rw [← e, List.pairwise_map]
  exact hp.imp fun {a b} h => by
    unfold manyOf at h
    omega
theorem ok_ifor {f C fI : Addr} {fd fdI : FuncData} (F : Fun K "index_for" "index_for" sIFor f fd) (T : Txt K mg) (TE : TxE K mg C) (iC : PySem.W.findIn K (.ref C) "__init__" = some (some (.ref fI))) (tI : PySem.W.typeIn K (.ref fI) = some (.type "function"))
    (FI : FnOk P w K mg base CX0 1 fI fdI ["self", "pair"] (spInitE K "pair")) (bI : Binds K fdI ["self", "pair"] [])
    (cS : Cal P w K mg base 4 "split_pair" ["questions"] (spSplit K)) (cM : Cal P w K mg base 1 "many_by_equality" ["question"] spMany) (cL : Cal P w K mg base 1 "lengthened" ["front", "questions"] spLeng) :
    FnOk P w K mg base (L2.CX P w) 5 f fd ["questions"] (spIFor C) := by
  refine F.okX scIFor (fun vs H Q E h => ?_) (fun cdv A outer s H vs Q E hr h => ?_)
  · obtain ⟨a, xs, qs, rfl, _⟩ := h
    rfl
  · obtain ⟨a, xs, qs, rfl, ha, hq, hl, hz, k1, k2⟩ := h
    have nd := scIFor.nd
    have hr1 : Room 1 _ := hr.mono (by decide)
    have hr2 : Room 2 _ := hr.mono (by decide)
    have hr3 : Room 3 _ := hr.mono (by decide)
    refine ⟨_, pss_cons (ps_set (i := 1) nd rfl (Or.inl rfl) (pe_call cS.G hr rfl cS.m cS.kp cS.b .nil pass0 (pa_cons (pv 0) pa_nil)))
      (pss_cons (ps_if (pt_cmp (pc_notN (pv 1))) (pss_one (ps_raise rfl (takes_of rfl rfl rfl rfl) (pmk_oex TE.er.o iC tI FI hr2 bI .nil pass0 rfl TE.m (pa_cons (pv 1) pa_nil)))) pss_nil)
      (pss_one (ps_ret (pe_call cL.G hr1 rfl cL.m cL.kp cL.b .nil pass0 (pa_cons (pe_tup pa_nil) (pa_cons
        (pe_callBK (id := "sorted") (ks := ["key"]) (r := rSortF K cM.f spMany) (cr_sortF cM.G cM.b hr3) (by rfl) T.sorted (by decide +kernel) (pa_cons (pv 0) pa_nil) (pk_cons (pe_glob (v := .ref cM.f) rfl cM.m rfl) pk_nil)) pa_nil)))))), ?_⟩
    refine ⟨_, rfl, a, xs, qs, rfl, ha, hq, hl, hz, fun H1 v zs s1 D hv => ?_⟩
    refine ⟨_, rfl, _, rfl, ?_⟩
    cases hf : firstP shareQ zs with
    | some pq =>
      obtain ⟨p, q⟩ := pq
      rw [hf] at hv
      have e1 : decide (v = V.non) = false := by
        obtain ⟨t, _, _, e, _⟩ := id hv
        rw [e]
        rfl
      rw [e1]
      refine iteT ?_
      refine ⟨_, rfl, by show 1 ≤ 1000; decide, fun e he => ⟨e, C, v, rfl, TE.er.o, TE.no, upd_same, fun d hd hda => ⟨rfl, d, [("pair", v)], upd_same, by rw [upd_ne hda]; exact upd_same, ?_, ?_⟩⟩⟩
      · rw [upd_ne hda] at hd
        exact hd
      · rw [upd_ne hda] at hd
        have eH : upd (del (upd (upd (upd H1 e (exo e C none)) d (exd d [("pair", v)])) e (exo e C (some d))) e) d (.xd [("pair", v)]) = upd H1 d (.xd [("pair", v)]) := by
          funext b
          by_cases hbd : b = d
          · rw [hbd, upd_same, upd_same]
          · rw [upd_ne hbd, upd_ne hbd]
            by_cases hbe : b = e
            · rw [hbe, del_same, he]
            · rw [del_ne hbe, upd_ne hbe, upd_ne hbd, upd_ne hbe]
        rw [eH]
        exact k2 H1 v zs p q d s1 D hf hv hd
    | none =>
      rw [hf] at hv
      have e1 : v = V.non := hv
      rw [decide_eq_true e1]
      refine iteF ?_
      refine ⟨by decide, fun e he => ?_⟩
      have s2 : Same H1 _ := same_new (o := .tup []) he
      have he2 : (upd H1 e (.tup [])) e = some (.tup (([] : List Str).map V.str)) := upd_same
      generalize upd H1 e (.tup []) = H2 at s2 he2 ⊢
      have s12 := s1.trans s2
      have hq2 := hq.same s12
      refine ⟨_, rfl, a, xs, manyOf H2, rfl, rfl, ha.imp (fun h => SqL.of (s12 _ _ h)) (fun h => SqT.of (s12 _ _ h)), by omega, fun x hx H' s' Q' q' => ?_, fun ys r H3 hp hw s3 hr0 hr3 => ?_⟩
      · obtain ⟨t, z, rfl, at_, hk⟩ := hq2.mem x hx
        refine ⟨t, z.1, z.2, rfl, at_.same s', ?_⟩
        unfold manyOf at q'
        rw [keyQ_at at_] at q'
        exact q'
      · obtain ⟨rs, hrs, hpr⟩ := hq2.permQ hp
        have hw2 := hrs.pwMany hw
        have hl2 : ys.length < 64 := by rw [hp.length_eq]; exact hl
        refine ⟨e, r, ys, rs, [], rfl, s3 _ _ he2, hr3, hrs.same s3, hl2, by decide, fun q hq => hz q (hpr.mem_iff.mp hq), fun t H4 s4 ht => ?_⟩
        exact k1 H4 t rs zs (s12.trans (s3.trans s4)) D hf hpr hw2 ht
structure CalX (P : Program) (w : World) (K : PySem.W.Frag) (mg : Str → Option Value) (base : Heap) (k : Nat) (x : Str) (ps : List Str) (sp : Sp) where
  f : Addr
  fd : FuncData
  G : FnOk P w K mg base (L2.CX P w) k f fd ps sp
  m : mg x = some (.ref f)
  kp : PySem.W.keepIn K (.ref f) = true
  b : Binds K fd ps []
def spTold (C : Addr) : Sp := fun vs H Q _ => ∃ (a : Addr) (xs : List V) (qs : List Qd), vs = [.ref a] ∧ (H a = some (.lst xs) ∨ H a = some (.tup xs)) ∧ QL H xs qs ∧ xs.length < 64 ∧ QZs qs ∧
  (∀ (H' : Hp) (r : Addr) (ys zs : List Qd), Same H H' → Dist qs zs → firstP shareQ zs = none → ys.Perm qs → ys.Pairwise (fun p q => p.1.length ≤ q.1.length) → H' r = some (.tup ((leng [] ys).map V.str)) → Q (.ref r) H') ∧
  (∀ (H' : Hp) (t d : Addr) (v : V) (zs : List Qd) (p q : Qd), Same H H' → Dist qs zs → firstP shareQ zs = some (p, q) → PairV H' v (some (p, q)) → Erx H' t C d [("pair", v)] → Q (.ref t) H')
theorem scTold : FnScope ["_law_some", "e"] ["_law_some"] (defScope sTold) := ⟨rfl, rfl, rfl, by decide +kernel, rfl, by decide +kernel, by decide +kernel⟩
theorem ok_told {f C : Addr} {fd : FuncData} (F : Fun K "_law_told" "_law_told" sTold f fd) (T : Txt K mg) (TE : TxE K mg C) (cI : CalX P w K mg base 5 "index_for" ["questions"] (spIFor C)) : FnOk P w K mg base CX0 6 f fd ["_law_some"] (spTold C) := by
  refine F.ok scTold (fun vs H Q E h => ?_) (fun cdv A outer s H vs Q E hr h => ?_)
  · obtain ⟨a, xs, qs, rfl, _⟩ := h
    rfl
  · obtain ⟨a, xs, qs, rfl, ha, hq, hl, hz, k1, k2⟩ := h
    have nd := scTold.nd
    refine ⟨_, pss_one (ps_try_ret (i := 1) (c := .ref C) (tb := fun W => tRet (tCallS (spIFor C) (WE W) (tCons (tVar 0) tNil))) rfl rfl nd rfl rfl ⟨rfl, by decide, .inl TE.m⟩ rfl
      (fun W pn xe tk _ => pss_one (ps_ret (pe_callS cI.G hr rfl cI.m cI.kp cI.b (fun σ => passAt tk σ) (pa_cons (pv 0) pa_nil))))
      (fun a oe cls d pn hz hf => pss_one (ps_ret (pv 1)))), ?_⟩
    refine ⟨_, rfl, a, xs, qs, rfl, ha, hq, hl, hz, fun H1 r ys zs s1 D hf hp hw hr => k1 H1 r ys zs s1 D hf hp hw hr, fun H1 v zs p q d s1 D hf hv hd => ⟨TE.te, fun e he => ?_⟩⟩
    have s2 := same_new (o := .xd [("pair", v)]) hd
    have s3 := same_new (o := erx e (.ref C) (some d)) he
    exact k2 _ e d v zs p q (s1.trans (s2.trans s3)) D hf (PairV.same (s2.trans s3) hv) ⟨upd_same, s3 _ _ upd_same⟩
abbrev nOne : List Str := ["_law_index", "_law_some", "_law_tops", "_law_greatest", "_law_one_here", "_law_other"]
theorem scOneS : FnScope nOne ["_law_index", "_law_some"] (defScope sOneServes) := ⟨rfl, rfl, rfl, by decide +kernel, rfl, by decide +kernel, by decide +kernel⟩
theorem widest_ex : ∀ (qs : List Qd), 0 < qs.length → ∃ w ∈ qs, ∀ q ∈ qs, (allC q.1 q.2).length ≤ (allC w.1 w.2).length
  | [], h => absurd h (by decide)
  | [x], _ => ⟨x, List.mem_cons_self, fun q hq => by rw [List.mem_singleton.mp hq]; exact Nat.le_refl _⟩
  | x :: y :: r, _ => by
    obtain ⟨w, hw, h⟩ := widest_ex (y :: r) (Nat.succ_pos _)
    rcases Nat.le_total (allC x.1 x.2).length (allC w.1 w.2).length with hl | hl
    · exact ⟨w, List.mem_cons_of_mem _ hw, fun q hq => (List.mem_cons.mp hq).elim (fun e => by rw [e]; exact hl) (h q)⟩
    · exact ⟨x, List.mem_cons_self, fun q hq => (List.mem_cons.mp hq).elim (fun e => by rw [e]; exact Nat.le_refl _) fun hq => Nat.le_trans (h q hq) hl⟩
theorem eqv_nilQ (qs : List Qd) : PyData.eqv (.list (qs.map dq)) (.list []) = decide (qs = []) := by
  cases qs with
  | nil => rfl
  | cons q qs => rfl
/-- all others are below it -/
def grB (qs : List Qd) (q : Qd) : Bool := decide ((qs.filter fun r => !decide (r = q) && !belowQ r q) = [])
theorem grB_iff {qs : List Qd} {q : Qd} : grB qs q = true ↔ ∀ r ∈ qs, r = q ∨ belowQ r q = true := by
  unfold grB
  rw [decide_eq_true_eq, List.filter_eq_nil_iff]
  constructor
  · intro h r hr
    have := h r hr
    by_cases e : r = q
    · exact .inl e
    · right
      rw [decide_eq_false e] at this
      cases hb : belowQ r q with
      | true => rfl
      | false =>
        rw [hb] at this
        exact absurd rfl this
  · intro h r hr
    rcases h r hr with e | e
    · simp [e]
    · simp [e]
def asScope (d : Scope) : Stmt → Scope
  | .Assign _ (.ListComp _ _ sc _) _ => sc
  | _ => d
abbrev scT : Scope := relS (asScope (defScope sOneServes) ((defBody sOneServes).getD 0 (.Pass ⟨0, 0, 0, 0⟩))) (defScope sOneServes)
abbrev scG : Scope := relS (asScope (defScope sOneServes) ((defBody sOneServes).getD 2 (.Pass ⟨0, 0, 0, 0⟩))) (defScope sOneServes)
def spOneS : Sp := fun vs H Q _ => ∃ (t a : Addr) (R : List Str) (xs : List V) (qs : List Qd), vs = [.ref t, .ref a] ∧ H t = some (.tup (R.map V.str)) ∧ H a = some (.lst xs) ∧ QL H xs qs ∧ 0 < xs.length ∧ xs.length < 64 ∧ QZs qs ∧ LI R qs ∧ R.length ≤ 12 ∧ 0 < R.length ∧
  (∀ p ∈ qs, ∀ q ∈ qs, shareQ p q = true) ∧ ∀ H', Same H H' → Q (.bl true) H'
theorem ok_ones {f : Addr} {fd : FuncData} (F : Fun K "_law_one_serves" "_law_one_serves" sOneServes f fd) (T : Txt K mg) (cW : Cal P w K mg base 2 "width" ["question"] spWidth) (cC : Cal P w K mg base 2 "columns_of" ["question"] spCols)
    (cB : Cal P w K mg base 2 "is_below" ["one", "other"] (spTwo belowQ)) (cQ : Cal P w K mg base 1 "questions_of" ["index"] spQof) (cF : Cal P w K mg base 1 "first_fault" ["index", "question"] spFault) (cV : Cal P w K mg base 1 "serves" ["index", "question"] spServes) :
    FnOk P w K mg base CX0 3 f fd ["_law_index", "_law_some"] spOneS := by
  refine F.ok scOneS (fun vs H Q E h => ?_) (fun cdv A outer s H vs Q E hr h => ?_)
  · obtain ⟨t, a, R, xs, qs, rfl, _⟩ := h
    rfl
  · obtain ⟨t, a, R, xs, qs, rfl, ht, ha, hq, hpos, hl, hz, L, hR12, hRpos, hsh, k⟩ := h
    have nd := scOneS.nd
    have hr1 : Room 1 _ := hr.mono (by decide)
    have hu65 : A.units + 3 + 65 < cLine := by
      have := hr.un
      have e : (A.deeper (envOfC "_law_one_serves" (defScope sOneServes) s.heap.objs.size f cdv)).units = A.units + 3 := rfl
      omega
    refine ⟨_, pss_cons (ps_setLc (i := 2) (own := [("_law_one_here", 4)]) (g := gName 4) rfl nd rfl (by rfl) (sw_true rfl (by rfl) rfl (by decide)) (pi_list (pv 1)) (blkOk_by (N := nOne) (sc := defScope sOneServes) (by decide +kernel)) (fun _ _ _ _ _ => pg_name (i := 4) nd rfl (by first | exact Or.inl rfl | exact Or.inr rfl))
        (fun _ _ _ _ _ => pts_one (pt_cmpR (r := rEq) op_eq (pe_call cW.G hr rfl cW.m cW.kp cW.b .nil pass0 (pa_cons (pv 4) pa_nil)) (by exact (pe_callB (id := "max") (r := rMax K) (cr_max rfl) (by rfl) T.max (by decide +kernel) (pa_cons
          (pe_lc (own := [("_law_other", 5)]) (wi := iList K (tVar 1)) (g := gName 5) (tt := tYes) rfl nd (pi_list (pv 1)) (blkOk_by (N := nOne) (sc := scT) (by decide +kernel)) (fun _ _ _ _ _ => pg_name (i := 5) nd rfl (by first | exact Or.inl rfl | exact Or.inr rfl)) (fun _ _ _ _ _ => pts_nil)
            (fun _ _ _ _ _ => pe_call cW.G hr rfl cW.m cW.kp cW.b .nil pass0 (pa_cons (pv 5) pa_nil))) pa_nil))) (nomark _))) (fun _ _ _ _ _ => pv 4))
      (pss_cons (ps_if (pt_cmpR (op_neD hr.units) (pe_callTy call_tuple_of (by rfl) T.tuple (by decide +kernel) (pa_cons (pe_callB cr_sortedST (by rfl) T.sorted (by decide +kernel) (pa_cons (pv 0) pa_nil)) pa_nil))
          (pe_call cC.G hr rfl cC.m cC.kp cC.b .nil pass0 (pa_cons (pe_ix ix_list (pv 2) pe_int fun _ _ => rfl) pa_nil)) (nomark _)) (pss_one (ps_ret pe_bl)) pss_nil)
      (pss_cons (ps_setLc (i := 3) (own := [("_law_one_here", 4)]) (g := gName 4) rfl nd rfl (by rfl) (sw_true rfl (by rfl) rfl (by decide)) (pi_list (pv 1)) (blkOk_by (N := nOne) (sc := defScope sOneServes) (by decide +kernel)) (fun _ _ _ _ _ => pg_name (i := 4) nd rfl (by first | exact Or.inl rfl | exact Or.inr rfl))
        (fun _ _ _ _ _ => pts_one (pt_cmpR (r := rEqD K) (op_eqD hr.units) (by exact (pe_lc (own := [("_law_other", 5)]) (wi := iList K (tVar 1)) (g := gName 5) rfl nd (pi_list (pv 1)) (blkOk_by (N := nOne) (sc := scG) (by decide +kernel)) (fun _ _ _ _ _ => pg_name (i := 5) nd rfl (by first | exact Or.inl rfl | exact Or.inr rfl))
            (fun _ _ _ _ _ => pts_one (PW.pt (pw_and (pt_cmpR (r := rNeD K) (op_neD hr.units) (pv 5) (pv 4) (nomark _)) (pw_and1 (pt_not (pt_val (pe_call cB.G hr rfl cB.m cB.kp cB.b .nil pass0 (pa_cons (pv 5) (pa_cons (pv 4) pa_nil))))))))) (fun _ _ _ _ _ => pv 5))) (pe_lst pa_nil) (nomark _))) (fun _ _ _ _ _ => pv 4))
      (pss_cons (ps_if (PW.pt (pw_or (pt_cmpR (op_eqD hr.units) (pv 3) (pe_lst pa_nil) (nomark _)) (pw_or1 (pt_cmpR (op_neD hr.units) (pe_call cC.G hr rfl cC.m cC.kp cC.b .nil pass0 (pa_cons (pe_ix ix_list (pv 3) pe_int fun _ _ => rfl) pa_nil))
          (pe_call cC.G hr rfl cC.m cC.kp cC.b .nil pass0 (pa_cons (pe_ix ix_list (pv 2) pe_int fun _ _ => rfl) pa_nil)) (nomark _))))) (pss_one (ps_ret pe_bl)) pss_nil)
      (pss_cons (ps_if (pt_cmpR (op_neD hr.units) (pe_lc (own := [("_law_one_here", 4)]) (g := gName 4) rfl nd (pi_list (pv 1)) (blkOk_by (N := nOne) (sc := defScope sOneServes) (by decide +kernel)) (fun _ _ _ _ _ => pg_name (i := 4) nd rfl (by first | exact Or.inl rfl | exact Or.inr rfl))
            (fun _ _ _ _ _ => pts_one (PW.pt (pw_or (pt_cmpR (r := rNotInD K) (op_notInD hu65) (pv 4) (pe_call cQ.G hr1 rfl cQ.m cQ.kp cQ.b .nil pass0 (pa_cons (pv 0) pa_nil)) (by rfl)) (pw_or1 (pt_cmp (pc_notN (pe_call cF.G hr1 rfl cF.m cF.kp cF.b .nil pass0 (pa_cons (pv 0) (pa_cons (pv 4) pa_nil))))))))) (fun _ _ _ _ _ => pv 4)) (pe_lst pa_nil) (nomark _)) (pss_one (ps_ret pe_bl)) pss_nil)
      (pss_one (ps_ret (pe_or (pe_cmpR op_eq (pe_callB call_len_seq (by rfl) T.len PySem.boot_len (pa_cons (pv 0) pa_nil)) pe_int (nomark _))
        (pe_one (pe_cmpR (op_neD hr.units) (pe_lc (own := [("_law_one_here", 4)]) (g := gName 4) rfl nd (pi_list (pv 1)) (blkOk_by (N := nOne) (sc := defScope sOneServes) (by decide +kernel)) (fun _ _ _ _ _ => pg_name (i := 4) nd rfl (by first | exact Or.inl rfl | exact Or.inr rfl))
            (fun _ _ _ _ _ => pts_one (pt_not (pt_val (pe_call cV.G hr1 rfl cV.m cV.kp cV.b .nil pass0 (pa_cons (pe_slice (r := rSlA K) sl_tupA (pv 0) po_none (po_some (pe_un (r := rU fun i => .int (-i)) un_neg pe_int))) (pa_cons (pv 4) pa_nil)))))) (fun _ _ _ _ _ => pv 4)) (pe_lst pa_nil) (nomark _)))))))))), ?_⟩
    have hql : qs.length = xs.length := hq.len.symm
    have qpos : 0 < qs.length := by omega
    obtain ⟨w, wq, hmax⟩ : ∃ w ∈ qs, ∀ q ∈ qs, (allC q.1 q.2).length ≤ (allC w.1 w.2).length := widest_ex qs qpos
    have rp := row_perm hz L wq hmax
    have ns : ∀ {n : List Str}, (∀ c ∈ n, c ∈ menu) → ∀ c ∈ n, PyData.strOk c = true := fun h c hc => menu_ok _ (h c hc)
    -- the widest ones
    refine ⟨_, rfl, a, rfl, ⟨_, SqL.of ha⟩, fun D hD => ?_⟩
    refine lc_list (K := K) (a := a) (xs := xs) (fun i H' => ∃ zs : List V, Same H H' ∧ H' D = some (.lst zs) ∧ zs.length ≤ i ∧ QL H' zs ((qs.take i).filter fun q => decide ((allC q.1 q.2).length = (allC w.1 w.2).length))) ⟨[], same_new hD, upd_same, Nat.le_refl _, .nil⟩ (fun i H' _ ⟨_, s, _⟩ => SqL.of (s _ _ ha)) ?_ ?_
    · rintro i x H1 hx ⟨zs, s1, hDl, zl, qz⟩
      have hil : i < xs.length := (List.getElem?_eq_some_iff.mp hx).1
      obtain ⟨o, q, rfl, hqi, hqa⟩ := (hq.same s1).at_ hx
      have et : qs.take (i + 1) = qs.take i ++ [q] := by rw [List.take_add_one, hqi]; rfl
      refine ⟨rfl, Exists.intro _ ⟨rfl, o, q.1, q.2, rfl, hqa, hz q (List.mem_of_getElem? hqi), fun H2 s2 => ⟨_, rfl, a, rfl, ⟨_, SqL.of (s2 _ _ (s1 _ _ ha))⟩, fun D2 hD2 => ?_⟩⟩⟩
      have s12 := s1.trans s2
      have ha2 := s12 _ _ ha
      have hq2 := hq.same s12
      refine lc_list (K := K) (a := a) (xs := xs) (fun j H' => Same H2 H' ∧ H' D2 = some (.lst (((qs.take j).map fun q => ((allC q.1 q.2).length : Int)).map V.int))) ⟨same_new hD2, upd_same⟩ (fun j H' _ h => SqL.of (h.1 _ _ ha2)) ?_ ?_
      · rintro j y H3 hy ⟨s3, hD3⟩
        obtain ⟨o2, r, rfl, hrj, hra⟩ := (hq2.same s3).at_ hy
        have er : qs.take (j + 1) = qs.take j ++ [r] := by rw [List.take_add_one, hrj]; rfl
        have hjl : j < xs.length := (List.getElem?_eq_some_iff.mp hy).1
        refine ⟨rfl, Exists.intro _ ⟨rfl, o2, r.1, r.2, rfl, hra, hz r (List.mem_of_getElem? hrj), fun H4 s4 => ⟨_, s4 _ _ hD3, small1000 ?_, fun b o hb => ?_, ?_⟩⟩⟩
        · rw [List.length_map, List.length_map, List.length_take]
          omega
        · rw [upd_ne (ne_of_none hb hD2)]
          exact s4 _ _ (s3 _ _ hb)
        · rw [upd_same, er, List.map_append, List.map_append]
          rfl
      · rintro H3 ⟨s3, hD3⟩
        rw [← hql, List.take_of_length_le (Nat.le_refl _)] at hD3
        refine ⟨D2, _, rfl, SqL.of hD3, by rw [List.length_map]; omega, fun m hm hmx => ⟨rfl, _, rfl, ?_⟩⟩
        obtain ⟨w1, hw1, em⟩ := List.mem_map.mp hm
        have e1 : m = ((allC w.1 w.2).length : Int) := by
          have h1 := hmx _ (List.mem_map_of_mem wq)
          have h2 := hmax w1 hw1
          omega
        have ed : decide (V.int ((allC q.1 q.2).length : Int) = V.int m) = decide ((allC q.1 q.2).length = (allC w.1 w.2).length) := decide_eq_decide.mpr ⟨fun h => by injection h with h; omega, fun h => by rw [e1, h]⟩
        rw [ed, et, List.filter_append]
        have s13 := s2.trans s3
        cases hc : decide ((allC q.1 q.2).length = (allC w.1 w.2).length) with
        | false =>
          refine iteF ?_
          refine ⟨zs, s1.trans s13, s13 _ _ hDl, by omega, ?_⟩
          rw [List.filter_cons, hc, if_neg (by decide), List.filter_nil, List.append_nil]
          exact qz.same s13
        | true =>
          refine iteT ?_
          refine ⟨_, rfl, zs, s13 _ _ hDl, small1000 (by omega), zs ++ [.ref o], fun b o hb => ?_, upd_same, by rw [List.length_append]; simp; omega, ?_⟩
          · rw [upd_ne (ne_of_none hb hD)]
            exact s13 _ _ (s1 _ _ hb)
          · rw [List.filter_cons, hc, if_pos rfl, List.filter_nil]
            exact QL.off (xs := zs) (s13 _ _ hDl) ((qz.same s13).snoc (q := q) (hqa.same s13))
    rintro H1 ⟨zs, s1, hDl, zl, qz⟩
    rw [← hql, List.take_of_length_le (Nat.le_refl _)] at qz
    have wf : w ∈ qs.filter fun q => decide ((allC q.1 q.2).length = (allC w.1 w.2).length) := List.mem_filter.mpr ⟨wq, by simp⟩
    obtain ⟨v, W, hW⟩ : ∃ v W, (qs.filter fun q => decide ((allC q.1 q.2).length = (allC w.1 w.2).length)) = v :: W := by
      cases hc : qs.filter fun q => decide ((allC q.1 q.2).length = (allC w.1 w.2).length) with
      | nil => rw [hc] at wf; cases wf
      | cons v W => exact ⟨v, W, rfl⟩
    rw [hW] at qz
    obtain ⟨vq, ve⟩ := List.mem_filter.mp (show v ∈ qs.filter fun q => decide ((allC q.1 q.2).length = (allC w.1 w.2).length) by rw [hW]; exact List.mem_cons_self)
    have ve : (allC v.1 v.2).length = (allC w.1 w.2).length := by simpa using ve
    have vmax : ∀ q ∈ qs, (allC q.1 q.2).length ≤ (allC v.1 v.2).length := fun q hq => by rw [ve]; exact hmax q hq
    have rv := row_perm hz L vq vmax
    obtain ⟨x0, zs', rfl, tv, rfl, hva⟩ : ∃ x0 zs', zs = x0 :: zs' ∧ ∃ t, x0 = V.ref t ∧ QAt H1 t v.1 v.2 := by
      cases qz with
      | cons h1 h2 => exact ⟨_, _, rfl, h1⟩
    have zv := hz v vq
    -- the row's columns
    refine ⟨_, rfl, t, R, rfl, .inr (SqT.of (s1 _ _ ht)), by omega, fun ws p hw hs hp => ⟨p, _, rfl, .inl ⟨SqL.of upd_same, fun c hc => ?_⟩⟩⟩
    have ew : ws = allC v.1 v.2 := perm_sorted (hw.trans rv) (sortedS_pw hs) (allC_pw zv)
    subst ew
    have s2 := same_new (o := .lst ((allC v.1 v.2).map V.str)) hp
    have s3 := same_new (o := .tup ((allC v.1 v.2).map V.str)) hc
    have s23 := s2.trans s3
    have hc3 : (upd (upd H1 p (.lst ((allC v.1 v.2).map V.str))) c (.tup ((allC v.1 v.2).map V.str))) c = some (.tup ((allC v.1 v.2).map V.str)) := upd_same
    generalize upd (upd H1 p (.lst ((allC v.1 v.2).map V.str))) c (.tup ((allC v.1 v.2).map V.str)) = H2 at s23 hc3 ⊢
    have vm := ns (fun c hc => zv.menu c hc)
    refine ⟨_, rfl, D, _, 0, _, rfl, rfl, SqL.of (s23 _ _ hDl), (by exact atI_nat (j := 0) rfl), tv, v.1, v.2, rfl, hva.same s23, zv, fun c2 H3 s4 hc4 => ?_⟩
    refine ⟨.tuple ((allC v.1 v.2).map PyData.str), .tuple ((allC v.1 v.2).map PyData.str), .tup (SqT.of (s4 _ _ hc3)) (dp_strs _), .tup (SqT.of hc4) (dp_strs _), shaped_tuple vm, shaped_tuple vm, _, rfl, ?_⟩
    show if (!PyData.eqv (.tuple ((allC v.1 v.2).map PyData.str)) (.tuple ((allC v.1 v.2).map PyData.str))) = true then _ else _
    rw [PyData.eqv, eqv_strs, decide_eq_true rfl]
    refine iteF ?_
    have s03 := s1.trans (s23.trans s4)
    have ha3 := s03 _ _ ha
    have hq3 := hq.same s03
    have hD3 := (s23.trans s4) _ _ hDl
    have hv3 := hva.same (s23.trans s4)
    have ht3 := s03 _ _ ht
    clear s23 s2 s3 hc3 hc4 s4 hp hc
    -- the greatest ones
    refine ⟨_, rfl, a, rfl, ⟨_, SqL.of ha3⟩, fun G hG => ?_⟩
    refine lc_list (K := K) (a := a) (xs := xs) (fun i H' => ∃ zs : List V, Same H3 H' ∧ H' G = some (.lst zs) ∧ zs.length ≤ i ∧ QL H' zs ((qs.take i).filter (grB qs))) ⟨[], same_new hG, upd_same, Nat.le_refl _, .nil⟩ (fun i H' _ ⟨_, s, _⟩ => SqL.of (s _ _ ha3)) ?_ ?_
    · rintro i x H4 hx ⟨zs, s4, hGl, zl, qz⟩
      have hil : i < xs.length := (List.getElem?_eq_some_iff.mp hx).1
      obtain ⟨o, q, rfl, hqi, hqa⟩ := (hq3.same s4).at_ hx
      have zq := hz q (List.mem_of_getElem? hqi)
      have et : qs.take (i + 1) = qs.take i ++ [q] := by rw [List.take_add_one, hqi]; rfl
      have ha4 := s4 _ _ ha3
      have hq4 := hq3.same s4
      refine ⟨rfl, Exists.intro _ ⟨rfl, a, rfl, ⟨_, SqL.of ha4⟩, fun D2 hD2 => ?_⟩⟩
      refine lc_list (K := K) (a := a) (xs := xs) (fun j H' => ∃ us : List V, Same H4 H' ∧ H' D2 = some (.lst us) ∧ us.length ≤ j ∧ QL H' us ((qs.take j).filter fun r => !decide (r = q) && !belowQ r q)) ⟨[], same_new hD2, upd_same, Nat.le_refl _, .nil⟩ (fun j H' _ ⟨_, s, _⟩ => SqL.of (s _ _ ha4)) ?_ ?_
      · rintro j y H5 hy ⟨us, s5, hUl, ul, qu⟩
        have hjl : j < xs.length := (List.getElem?_eq_some_iff.mp hy).1
        obtain ⟨o2, r, rfl, hrj, hra⟩ := (hq4.same s5).at_ hy
        have zr := hz r (List.mem_of_getElem? hrj)
        have er : qs.take (j + 1) = qs.take j ++ [r] := by rw [List.take_add_one, hrj]; rfl
        have hqa5 := hqa.same s5
        rw [er, List.filter_append]
        refine ⟨rfl, Exists.intro _ ⟨rfl, _, rfl, dq r, dq q, dp_q hra, dp_q hqa5, (dok_q zr.fine).shaped, (dok_q zq.fine).shaped, _, rfl, ?_⟩⟩
        show if (!PyData.eqv (dq r) (dq q)) = true then _ else _
        rw [eqv_q]
        by_cases e : r = q
        · rw [decide_eq_true e]
          refine iteF ?_
          refine ⟨us, s5, hUl, by omega, ?_⟩
          rw [List.filter_cons, decide_eq_true e, Bool.not_true, Bool.false_and, if_neg (by decide), List.filter_nil, List.append_nil]
          exact qu
        · rw [decide_eq_false e]
          refine iteT ?_
          refine ⟨_, rfl, _, rfl, o2, o, r.1, r.2, q.1, q.2, rfl, hra, hqa5, zr, zq, fun H6 s6 => ⟨_, rfl, ?_⟩⟩
          have s56 := s5.trans s6
          cases hb : belowQ (r.1, r.2) (q.1, q.2) with
          | true =>
            refine iteF ?_
            refine ⟨us, s56, s6 _ _ hUl, by omega, ?_⟩
            rw [List.filter_cons, decide_eq_false e, show belowQ r q = true from hb, Bool.not_true, Bool.and_false, if_neg (by decide), List.filter_nil, List.append_nil]
            exact qu.same s6
          | false =>
            refine iteT ?_
            refine ⟨_, rfl, us, s6 _ _ hUl, small1000 (by omega), us ++ [.ref o2], fun b o hb => ?_, upd_same, by rw [List.length_append]; simp; omega, ?_⟩
            · rw [upd_ne (ne_of_none hb hD2)]
              exact s56 _ _ hb
            · rw [List.filter_cons, decide_eq_false e, show belowQ r q = false from hb, Bool.not_false, Bool.and_self, if_pos rfl, List.filter_nil]
              exact QL.off (xs := us) (s6 _ _ hUl) ((qu.same s6).snoc (q := r) (hra.same s6))
      · rintro H5 ⟨us, s5, hUl, ul, qu⟩
        rw [← hql, List.take_of_length_le (Nat.le_refl _)] at qu
        refine ⟨by decide, fun e0 he0 => ?_⟩
        have s6 := same_new (o := .lst []) he0
        have uf : ∀ r ∈ qs.filter (fun r => !decide (r = q) && !belowQ r q), Qfine r := fun r hr => (hz r (List.mem_filter.mp hr).1).fine
        have ufl : (qs.filter (fun r => !decide (r = q) && !belowQ r q)).length ≤ 100 := Nat.le_trans (List.length_filter_le _ _) (by omega)
        refine ⟨.list ((qs.filter fun r => !decide (r = q) && !belowQ r q).map dq), .list (([] : List Qd).map dq), .lst (SqL.of (s6 _ _ hUl)) (qu.same s6).dp, .lst (SqL.of upd_same) .nil, (dok_qs uf ufl).shaped, (dok_qs (qs := []) (fun q h => (nomatch h)) (by decide)).shaped, _, rfl, ?_⟩
        show if PyData.eqv (.list ((qs.filter fun r => !decide (r = q) && !belowQ r q).map dq)) (.list []) = true then _ else _
        rw [eqv_nilQ, et, List.filter_append]
        have s46 := s5.trans s6
        have gr : grB qs q = decide ((qs.filter fun r => !decide (r = q) && !belowQ r q) = []) := rfl
        rw [← gr]
        cases hc : grB qs q with
        | false =>
          refine iteF ?_
          refine ⟨zs, s4.trans s46, s46 _ _ hGl, by omega, ?_⟩
          rw [List.filter_cons, hc, if_neg (by decide), List.filter_nil, List.append_nil]
          exact qz.same s46
        | true =>
          refine iteT ?_
          refine ⟨_, rfl, zs, s46 _ _ hGl, small1000 (by omega), zs ++ [.ref o], fun b o hb => ?_, upd_same, by rw [List.length_append]; simp; omega, ?_⟩
          · rw [upd_ne (ne_of_none hb hG)]
            exact s46 _ _ (s4 _ _ hb)
          · rw [List.filter_cons, hc, if_pos rfl, List.filter_nil]
            exact QL.off (xs := zs) (s46 _ _ hGl) ((qz.same s46).snoc (q := q) (hqa.same s46))
    rintro H4 ⟨zs, s4, hGl, zl, qz⟩
    rw [← hql, List.take_of_length_le (Nat.le_refl _)] at qz
    obtain ⟨g0, g0q, g0all⟩ := greatest_ex (qs := qs) (by intro e; rw [e] at qpos; exact absurd qpos (by decide)) hsh
    obtain ⟨g, W2, hW2⟩ : ∃ g W2, qs.filter (grB qs) = g :: W2 := by
      have gm : g0 ∈ qs.filter (grB qs) := List.mem_filter.mpr ⟨g0q, grB_iff.mpr g0all⟩
      cases hc : qs.filter (grB qs) with
      | nil => rw [hc] at gm; cases gm
      | cons g W2 => exact ⟨g, W2, rfl⟩
    obtain ⟨gq, gb⟩ := List.mem_filter.mp (show g ∈ qs.filter (grB qs) by rw [hW2]; exact List.mem_cons_self)
    have gc := greatest_cols hz gq vq (grB_iff.mp gb) vmax
    have zfG : ∀ q ∈ qs.filter (grB qs), Qfine q := fun q hq => (hz q (List.mem_filter.mp hq).1).fine
    have zflG : (qs.filter (grB qs)).length ≤ 100 := Nat.le_trans (List.length_filter_le _ _) (by omega)
    refine ⟨_, rfl, by decide, fun e0 he0 => ?_⟩
    have s5 := same_new (o := .lst []) he0
    refine ⟨.list ((qs.filter (grB qs)).map dq), .list (([] : List Qd).map dq), .lst (SqL.of (s5 _ _ hGl)) (qz.same s5).dp, .lst (SqL.of upd_same) .nil, (dok_qs zfG zflG).shaped, (dok_qs (qs := []) (fun q h => (nomatch h)) (by decide)).shaped, _, rfl, ?_⟩
    show if PyData.eqv (.list ((qs.filter (grB qs)).map dq)) (.list []) = true then _ else _
    rw [eqv_nilQ, decide_eq_false (by rw [hW2]; simp)]
    refine iteF ?_
    rw [hW2] at qz
    obtain ⟨x1, zs1, rfl, tg, rfl, hga⟩ : ∃ x1 zs1, zs = x1 :: zs1 ∧ ∃ t, x1 = V.ref t ∧ QAt H4 t g.1 g.2 := by
      cases qz with
      | cons h1 h2 => exact ⟨_, _, rfl, h1⟩
    have zg := hz g gq
    refine ⟨_, rfl, G, _, 0, _, rfl, rfl, SqL.of (s5 _ _ hGl), (by exact atI_nat (j := 0) rfl), tg, g.1, g.2, rfl, hga.same s5, zg, fun c3 H6 s6 hc6 => ?_⟩
    have s36 := s4.trans (s5.trans s6)
    refine ⟨_, rfl, D, _, 0, _, rfl, rfl, SqL.of (s36 _ _ hD3), (by exact atI_nat (j := 0) rfl), tv, v.1, v.2, rfl, hv3.same s36, zv, fun c4 H7 s7 hc7 => ?_⟩
    rw [gc] at hc6
    refine ⟨.tuple ((allC v.1 v.2).map PyData.str), .tuple ((allC v.1 v.2).map PyData.str), .tup (SqT.of (s7 _ _ hc6)) (dp_strs _), .tup (SqT.of hc7) (dp_strs _), shaped_tuple vm, shaped_tuple vm, _, rfl, ?_⟩
    show if (!PyData.eqv (.tuple ((allC v.1 v.2).map PyData.str)) (.tuple ((allC v.1 v.2).map PyData.str))) = true then _ else _
    rw [PyData.eqv, eqv_strs, decide_eq_true rfl]
    refine iteF ?_
    have s37 := s36.trans s7
    have ha7 := s37 _ _ ha3
    have hq7 := hq3.same s37
    have ht7 := s37 _ _ ht3
    have s07 := s03.trans s37
    have RR : Row R := ⟨L.nd, L.sub, hRpos, hR12⟩
    -- each is among the questions of the row
    refine ⟨_, rfl, a, rfl, ⟨_, SqL.of ha7⟩, fun F2 hF2 => ?_⟩
    refine lc_list (K := K) (a := a) (xs := xs) (fun i H' => Same H7 H' ∧ H' F2 = some (.lst [])) ⟨same_new hF2, upd_same⟩ (fun i H' _ h => SqL.of (h.1 _ _ ha7)) ?_ ?_
    · rintro i x H8 hx ⟨s8, hFl⟩
      obtain ⟨o, q, rfl, hqi, hqa⟩ := (hq7.same s8).at_ hx
      have mq := List.mem_of_getElem? hqi
      have zq := hz q mq
      have hf : fault R q.1 q.2 = none := (fault_srv L.nd zq).mpr (L.sv q mq)
      refine ⟨rfl, Exists.intro _ ⟨rfl, _, rfl, t, R, rfl, s8 _ _ ht7, RR, fun ys rs p H9 s9 hp0 hp9 hqr hperm hris => ?_⟩⟩
      have rl : rs.length ≤ 100 := by rw [hperm.length_eq, allQ_len]; omega
      have rf : ∀ r ∈ rs, Qfine r := fun r hr => allQ_fine RR (Nat.le_refl _) r (hperm.mem_iff.mp hr)
      refine ⟨dq q, rs.map dq, dp_q (hqa.same s9), .lst (SqL.of hp9) hqr.dp, (dok_q zq.fine).shaped, (dok_qs rf rl).shaped, _, rfl, ?_⟩
      have qr : q ∈ rs := hperm.mem_iff.mpr ((allQ_serves (cols := q.1) (e := q.2) RR zq.m.nd zq.m.srt zq.m.some).mpr hf)
      have ha_ : (rs.map dq).any (fun z => PyData.eqv z (dq q)) = true := List.any_eq_true.mpr ⟨dq q, List.mem_map_of_mem qr, by rw [eqv_q]; exact decide_eq_true rfl⟩
      show if (!(rs.map dq).any fun z => PyData.eqv z (dq q)) = true then _ else _
      rw [ha_]
      refine iteF ?_
      refine ⟨_, rfl, _, rfl, t, o, R, q.1, q.2, rfl, s9 _ _ (s8 _ _ ht7), hqa.same s9, zq.m.le, fun H10 s10 => ⟨_, rfl, ?_⟩⟩
      rw [hf]
      show if (!decide (V.non = V.non)) = true then _ else _
      rw [decide_eq_true rfl]
      refine iteF ?_
      exact ⟨s8.trans (s9.trans s10), s10 _ _ (s9 _ _ hFl)⟩
    rintro H8 ⟨s8, hFl⟩
    refine ⟨by decide, fun e1 he1 => ?_⟩
    have s9 := same_new (o := .lst []) he1
    refine ⟨.list (([] : List Qd).map dq), .list (([] : List Qd).map dq), .lst (SqL.of (s9 _ _ hFl)) .nil, .lst (SqL.of upd_same) .nil, (dok_qs (qs := []) (fun q h => (nomatch h)) (by decide)).shaped, (dok_qs (qs := []) (fun q h => (nomatch h)) (by decide)).shaped, _, rfl, ?_⟩
    show if (!PyData.eqv (.list (([] : List Qd).map dq)) (.list [])) = true then _ else _
    rw [eqv_nilQ, decide_eq_true rfl]
    refine iteF ?_
    have s79 := s8.trans s9
    generalize upd H8 e1 (.lst []) = H9 at s79 ⊢
    have ha9 := s79 _ _ ha7
    have hq9 := hq7.same s79
    have ht9 := s79 _ _ ht7
    have s09 := s07.trans s79
    refine ⟨_, rfl, t, _, rfl, .inr (SqT.of ht9), rfl, _, rfl, ?_⟩
    show if decide (V.int ((R.map V.str).length : Int) = V.int 1) = true then _ else _
    rw [List.length_map]
    by_cases h1 : R.length = 1
    · rw [decide_eq_true (by rw [h1]; rfl)]
      refine iteT ?_
      exact k _ s09
    · rw [decide_eq_false (fun h => h1 (by injection h with h; omega))]
      refine iteF ?_
      refine ⟨_, rfl, a, rfl, ⟨_, SqL.of ha9⟩, fun U hU => ?_⟩
      have cd : cutV (R.map V.str) none (some (-1)) = R.dropLast.map V.str := by
        have e1 : HT.sIx (R.map V.str).length 0 none = 0 := rfl
        have e2 : HT.sIx (R.map V.str).length (R.map V.str).length (some (-1)) = R.length - 1 := by
          show (if (-1 : Int) < 0 then ((-1 : Int) + ((R.map V.str).length : Int)).toNat else min (-1 : Int).toNat (R.map V.str).length) = _
          rw [if_pos (by decide), List.length_map]
          omega
        unfold cutV
        rw [e1, e2, List.drop_zero, Nat.sub_zero, List.dropLast_eq_take, List.map_take]
      refine lc_list (K := K) (a := a) (xs := xs) (fun i H' => ∃ us : List V, Same H9 H' ∧ H' U = some (.lst us) ∧ us.length ≤ i ∧ QL H' us ((qs.take i).filter fun q => !decide (fault R.dropLast q.1 q.2 = none))) ⟨[], same_new hU, upd_same, Nat.le_refl _, .nil⟩ (fun i H' _ ⟨_, s, _⟩ => SqL.of (s _ _ ha9)) ?_ ?_
      · rintro i x H10 hx ⟨us, s10, hUl, ul, qu⟩
        have hil : i < xs.length := (List.getElem?_eq_some_iff.mp hx).1
        obtain ⟨o, q, rfl, hqi, hqa⟩ := (hq9.same s10).at_ hx
        have zq := hz q (List.mem_of_getElem? hqi)
        have et : qs.take (i + 1) = qs.take i ++ [q] := by rw [List.take_add_one, hqi]; rfl
        rw [et, List.filter_append]
        refine ⟨rfl, Exists.intro _ ⟨rfl, _, rfl, _, rfl, ?_⟩⟩
        refine slA (s10 _ _ ht9) cd fun r H11 s11 hr11 => ?_
        refine ⟨_, rfl, r, o, R.dropLast, q.1, q.2, rfl, hr11, hqa.same s11, zq.m.le, by rw [List.length_dropLast]; omega, L.nd.sublist (List.dropLast_sublist _), fun c hc => L.sub c ((List.dropLast_sublist _).mem hc), zq.m.nd, zq.m.srt, zq.m.sub, zq.m.esub, fun H12 s12 => ⟨_, rfl, ?_⟩⟩
        have s02 := s11.trans s12
        cases hc : decide (fault R.dropLast q.1 q.2 = none) with
        | true =>
          refine iteF ?_
          refine ⟨us, s10.trans s02, s02 _ _ hUl, by omega, ?_⟩
          rw [List.filter_cons, hc, if_neg (by decide), List.filter_nil, List.append_nil]
          exact qu.same s02
        | false =>
          refine iteT ?_
          refine ⟨_, rfl, us, s02 _ _ hUl, small1000 (by omega), us ++ [.ref o], fun b o hb => ?_, upd_same, by rw [List.length_append]; simp; omega, ?_⟩
          · rw [upd_ne (ne_of_none hb hU)]
            exact s02 _ _ (s10 _ _ hb)
          · rw [List.filter_cons, hc, if_pos (by decide), List.filter_nil]
            exact QL.off (xs := us) (s02 _ _ hUl) ((qu.same s02).snoc (q := q) (hqa.same s02))
      · rintro H10 ⟨us, s10, hUl, ul, qu⟩
        rw [← hql, List.take_of_length_le (Nat.le_refl _)] at qu
        refine ⟨by decide, fun e2 he2 => ?_⟩
        have s11 := same_new (o := .lst []) he2
        have uf : ∀ q ∈ qs.filter (fun q => !decide (fault R.dropLast q.1 q.2 = none)), Qfine q := fun q hq => (hz q (List.mem_filter.mp hq).1).fine
        have ufl : (qs.filter (fun q => !decide (fault R.dropLast q.1 q.2 = none))).length ≤ 100 := Nat.le_trans (List.length_filter_le _ _) (by omega)
        refine ⟨.list ((qs.filter fun q => !decide (fault R.dropLast q.1 q.2 = none)).map dq), .list (([] : List Qd).map dq), .lst (SqL.of (s11 _ _ hUl)) (qu.same s11).dp, .lst (SqL.of upd_same) .nil, (dok_qs uf ufl).shaped, (dok_qs (qs := []) (fun q h => (nomatch h)) (by decide)).shaped, ?_⟩
        have nv : fault R.dropLast v.1 v.2 ≠ none := fun h => cut_fails rv hRpos ((fault_srv (L.nd.sublist (List.dropLast_sublist _)) zv).mp h)
        have ne : (qs.filter fun q => !decide (fault R.dropLast q.1 q.2 = none)) ≠ [] := fun h => by
          have hm : v ∈ qs.filter fun q => !decide (fault R.dropLast q.1 q.2 = none) := List.mem_filter.mpr ⟨vq, by simp [nv]⟩
          rw [h] at hm
          cases hm
        have ee : (!PyData.eqv (.list ((qs.filter fun q => !decide (fault R.dropLast q.1 q.2 = none)).map dq)) (.list (([] : List Qd).map dq))) = true := by
          show (!PyData.eqv (.list ((qs.filter fun q => !decide (fault R.dropLast q.1 q.2 = none)).map dq)) (.list [])) = true
          rw [eqv_nilQ, decide_eq_false ne]
          rfl
        rw [ee]
        exact k _ (s09.trans (s10.trans s11))
theorem QZs.fine {qs : List Qd} (h : QZs qs) : ∀ q ∈ qs, Qfine q := fun q hq => (h q hq).fine
theorem Row.perm {xs ys : List Str} (R : Row xs) (hp : ys.Perm xs) : Row ys := ⟨hp.nodup_iff.mpr R.nd, fun c hc => R.sub _ (hp.mem_iff.mp hc), by rw [hp.length_eq]; exact R.pos, by rw [hp.length_eq]; exact R.le⟩
theorem push_q {H : Hp} {b l p q : Addr} {ys : List V} {qs : List Qd} {c : List Str} {e : Str} (B : Bag H b l) (hpb : p ≠ b) (hp : H p = some (.lst ys)) (hq : QL H ys qs) (hz : QZs qs) (ha : QAt H q c e) (z : QZ c e) (hpl : l ≠ p) :
    Bag (upd H p (.lst (ys ++ [.ref q]))) b l ∧ QL (upd H p (.lst (ys ++ [.ref q]))) (ys ++ [.ref q]) (qs ++ [(c, e)]) ∧ QZs (qs ++ [(c, e)]) ∧ (∀ c o, H c = some o → c ≠ p → (upd H p (.lst (ys ++ [.ref q]))) c = some o) := by
  have kp : ∀ c o, H c = some o → c ≠ p → (upd H p (.lst (ys ++ [.ref q]))) c = some o := fun c o hc n => by rw [upd_ne n]; exact hc
  have qk : ∀ {v : Addr} {r : Qd}, QAt H v r.1 r.2 → QAt (upd H p (.lst (ys ++ [.ref q]))) v r.1 r.2 := fun {v r} ⟨c0, g1, g2⟩ => by
    refine ⟨c0, kp _ _ g1 fun e => ?_, kp _ _ g2 fun e => ?_⟩
    · rw [e, hp] at g1; cases g1
    · rw [e, hp] at g2; cases g2
  refine ⟨B.upd (Ne.symm hpb) hpl, paired_app (Paired.mapP hq fun x r ⟨v, e, z⟩ => ⟨v, e, qk z⟩) (.cons ⟨q, rfl, qk (r := (c, e)) ha⟩ .nil), fun r hr => ?_, kp⟩
  rcases List.mem_append.mp hr with m | m
  · exact hz r m
  · rw [List.mem_singleton.mp m]
    exact z
/-- a list of questions -/
def LQ (H : Hp) (p : Addr) (qs : List Qd) : Prop := ∃ ys, H p = some (.lst ys) ∧ QL H ys qs ∧ QZs qs
theorem LQ.same {H H' : Hp} {p : Addr} {qs : List Qd} (s : Same H H') (h : LQ H p qs) : LQ H' p qs := by
  obtain ⟨ys, h1, h2, h3⟩ := h
  exact ⟨ys, s _ _ h1, h2.same s, h3⟩
theorem LQ.kp {H H' : Hp} {b l p : Addr} {qs : List Qd} (B : Bag H b l) (nb : p ≠ b) (s : Kp b H H') (h : LQ H p qs) : LQ H' p qs := by
  obtain ⟨ys, h1, h2, h3⟩ := h
  exact ⟨ys, s _ _ h1 nb, h2.kp B s, h3⟩
theorem LQ.fine {H : Hp} {p : Addr} {qs : List Qd} (h : LQ H p qs) : ∀ q ∈ qs, Qfine q := by
  obtain ⟨_, _, _, z⟩ := h
  exact z.fine
/-- what the beginnings drawn so far are -/
def Drawn (b l r : Addr) (D : Addr) (xs : List Str) (i : Nat) (H : Hp) : Prop := Bag H b l ∧ H r = some (.lst (xs.map V.str)) ∧ ∃ qs, LQ H D qs ∧ qs.length = i
theorem Drawn.next {b l r D q : Addr} {xs : List Str} {i : Nat} {H H' : Hp} {c : List Str} {e : Str} (d : Drawn b l r D xs i H) (hDb : D ≠ b) (hDl : l ≠ D) (hrD : r ≠ D) (hrb : r ≠ b) (R : Row xs) (B : Bag H' b l) (k : Kp b H H') (hq : QAt H' q c e) (ok : Qok xs c e) (hi : i < 100) :
    ∃ acc, H' D = some (.lst acc) ∧ acc.length < sizeLine ∧ Drawn b l r D xs (i + 1) (upd H' D (.lst (acc ++ [.ref q]))) := by
  obtain ⟨B0, h1, qs, L, hl⟩ := d
  obtain ⟨ys, g1, g2, g3⟩ := L.kp B0 hDb k
  obtain ⟨p1, p2, p3, p4⟩ := push_q B hDb g1 g2 g3 hq (ok.qz R) hDl
  refine ⟨ys, g1, small1000 (by rw [g2.len]; omega), p1, p4 _ _ (k _ _ h1 hrb) hrD, qs ++ [(c, e)], ⟨_, upd_same, p2, p3⟩, by rw [List.length_append, hl]; rfl⟩
/-- it can't share with one of them -/
def loneB (qs : List Qd) (q : Qd) : Bool := !decide ((qs.filter fun r => !shareQ q r) = [])
theorem dp_ones {H : Hp} : ∀ n, DpAll K H (List.replicate n (.int 1)) (List.replicate n (.int 1))
  | 0 => .nil
  | n + 1 => .cons (.int 1) (dp_ones n)
theorem ones_shaped : ∀ n, n < 9 → SeqAt.shaped (.list (List.replicate n (.int 1))) = true := by decide +kernel
theorem ones_eqv {n : Nat} (h : n ≠ 0) : PyData.eqv (.list (List.replicate n (.int 1))) (.list []) = false := by
  cases n with
  | zero => exact absurd rfl h
  | succ n => rfl
theorem dne_self {d : PyData} (h : DOk d) : (!PyData.eqv d d) = false := by
  rw [SeqAt.eqv_refl d (fine_lay d h.f).1]
  rfl
theorem LI.len18 {R : List Str} {qs : List Qd} (L : LI R qs) (hz : QZs qs) (hp : 0 < qs.length) : R.length ≤ 12 ∧ 0 < R.length := by
  rcases L.top with ⟨_, e⟩ | ⟨t, ht, h⟩
  · rw [e] at hp
    exact absurd hp (by decide)
  · have z := hz t ht
    refine ⟨Nat.le_trans (nodup_len R _ L.nd fun c hc => (h c).mp hc) z.all_le, ?_⟩
    have ex : ∃ c, c ∈ allC t.1 t.2 := by
      by_cases e : t.2 = ""
      · cases hc : t.1 with
        | nil => exact absurd hc (z.m.some e)
        | cons c r => exact ⟨c, mem_allC.mpr (.inl List.mem_cons_self)⟩
      · exact ⟨t.2, mem_allC.mpr (.inr ⟨rfl, e⟩)⟩
    obtain ⟨c, hc⟩ := ex
    exact List.length_pos_of_mem ((h c).mpr hc)
/-- what was told of them: an index and no pair, or an error and its pair -/
def Told18 (K : PySem.W.Frag) (C : Addr) (H : Hp) (qs : List Qd) (v6 v7 : V) : Prop := (∃ (r : Addr) (R : List Str), v6 = .ref r ∧ v7 = .non ∧ H r = some (.tup (R.map V.str)) ∧ LI R qs ∧ (R.length ≤ 12 ∧ 0 < R.length) ∧ ∀ p ∈ qs, ∀ q ∈ qs, shareQ p q = true) ∨
  (∃ (t d tp qa qb : Addr) (v : V) (p1 p2 : Qd), v6 = .ref t ∧ v7 = .ref tp ∧ Erx H t C d [("pair", v)] ∧ Dp K H v (.tuple [dq p1, dq p2]) ∧ H tp = some (.tup [.ref qa, .ref qb]) ∧ QAt H qa p1.1 p1.2 ∧ QAt H qb p2.1 p2.2 ∧ p1 ∈ qs ∧ p2 ∈ qs ∧ shareQ p1 p2 = false)
theorem Told18.same {C : Addr} {H H' : Hp} {qs : List Qd} {v6 v7 : V} (s : Same H H') (h : Told18 K C H qs v6 v7) : Told18 K C H' qs v6 v7 := by
  rcases h with ⟨r, R, h1, h2, h3, h4⟩ | ⟨t, d, tp, qa, qb, v, p1, p2, h1, h2, h3, h4, h5, h6, h7, h8⟩
  · exact .inl ⟨r, R, h1, h2, s _ _ h3, h4⟩
  · exact .inr ⟨t, d, tp, qa, qb, v, p1, p2, h1, h2, h3.same s, Dp.same s _ _ h4, s _ _ h5, h6.same s, h7.same s, h8⟩
abbrev nLaw : List Str := ["_law_script", "_law_bag_here", "_law_turn", "_law_names_here", "_law_row", "_law_some", "_law_found", "_law_pair", "_law_lone", "_law_k", "_law_one_here", "_law_other"]
theorem scLaw : FnScope nLaw ["_law_script"] (defScope sLaw) := ⟨rfl, rfl, rfl, by decide +kernel, rfl, by decide +kernel, by decide +kernel⟩
def forBody : Stmt → List Stmt
  | .For _ _ b _ _ => b
  | _ => []
abbrev scL : Scope := relS (asScope (defScope sLaw) ((forBody ((defBody sLaw).getD 1 (.Pass ⟨0, 0, 0, 0⟩))).getD 5 (.Pass ⟨0, 0, 0, 0⟩))) (defScope sLaw)
def spLaw (K : PySem.W.Frag) : Sp := fun vs H Q _ => ∃ (a : Addr) (ns : List Int), vs = [.ref a] ∧ SqL K H a (ns.map V.int) ∧ ns.length ≤ 63 ∧ ∀ H', Q (.bl true) H'
/-- isinstance of a tuple or of an error that was handed out -/
def rIsAny (K : PySem.W.Frag) : List V → Hp → VK → Prop := fun xs H Q => rIsErx K xs H Q ∨ rIsi K xs H Q
theorem call_isAny {X : Cx} : CallR X (.builtin "isinstance") (rIsAny X.K) := fun pins s σ H xs us Q I r h => h.elim (call_isErx pins s σ H xs us Q I r) (call_isi pins s σ H xs us Q I r)
theorem ok_law {f C : Addr} {fd : FuncData} (F : Fun K "law" "law" sLaw f fd) (T : Txt K mg) (TE : TxE K mg C)
    (cB : Cal P w K mg base 1 "_law_bag" ["_law_script"] (spBag K))
    (cT : Cal P w K mg base 1 "_law_take" ["_law_bag_here", "_law_many"] spTake)
    (cO : Cal P w K mg base 2 "_law_one" ["_law_bag_here", "_law_some"] spOne)
    (cM : Cal P w K mg base 2 "_law_mixed" ["_law_bag_here", "_law_things"] spMixed)
    (cN : Cal P w K mg base 3 "_law_names" ["_law_bag_here", "_law_many"] spNames)
    (cQ : Cal P w K mg base 3 "_law_question" ["_law_bag_here", "_law_names_here"] spQuestion)
    (cG : Cal P w K mg base 2 "_law_beginning" ["_law_bag_here", "_law_row"] spBeginL)
    (cI : Cal P w K mg base 6 "_law_told" ["_law_some"] (spTold C))
    (cP : Cal P w K mg base 4 "split_pair" ["questions"] (spSplit K))
    (cS : Cal P w K mg base 3 "can_share" ["one", "other"] (spTwo shareQ))
    (cV : Cal P w K mg base 3 "_law_one_serves" ["_law_index", "_law_some"] spOneS) : FnOk P w K mg base CX0 7 f fd ["_law_script"] (spLaw K) := by
  refine F.ok scLaw (fun vs H Q E h => ?_) (fun cdv A outer s H vs Q E hr h => ?_)
  · obtain ⟨a, ns, rfl, _⟩ := h
    rfl
  · obtain ⟨a, ns, rfl, hS, hlen, k⟩ := h
    have nd := scLaw.nd
    have hr1 : Room 1 _ := hr.mono (by decide)
    have hr2 : Room 2 _ := hr.mono (by decide)
    have hr3 : Room 3 _ := hr.mono (by decide)
    have hr4 : Room 4 _ := hr.mono (by decide)
    have hu65 : A.units + 3 + 65 < cLine := by
      have := hr.un
      have e : (A.deeper (envOfC "law" (defScope sLaw) s.heap.objs.size f cdv)).units = A.units + 3 := rfl
      omega
    refine ⟨_, pss_cons (ps_set (i := 1) nd rfl (by first | exact Or.inl rfl | exact Or.inr rfl) (pe_call cB.G hr1 rfl cB.m cB.kp cB.b .nil pass0 (pa_cons (pv 0) pa_nil)))
      (pss_cons (ps_for PassesOwn.never rfl (pi_range1 (by rfl) T.range (pa_cons pe_int pa_nil)) (pg_name (i := 2) nd rfl (by first | exact Or.inl rfl | exact Or.inr rfl))
        (pss_cons (ps_set (i := 3) nd rfl (by first | exact Or.inl rfl | exact Or.inr rfl) (pe_call cN.G hr3 rfl cN.m cN.kp cN.b .nil pass0 (pa_cons (pv 1) (pa_cons (pe_op op_add pe_int (pe_call cT.G hr1 rfl cT.m cT.kp cT.b .nil pass0 (pa_cons (pv 1) (pa_cons (pe_call cO.G hr2 rfl cO.m cO.kp cO.b .nil pass0 (pa_cons (pv 1) (pa_cons (pe_lst (pa_cons pe_int (pa_cons pe_int (pa_cons pe_int pa_nil)))) pa_nil))) pa_nil)))) pa_nil))))
        (pss_cons (ps_set (i := 4) nd rfl (by first | exact Or.inl rfl | exact Or.inr rfl) (pe_call cM.G hr2 rfl cM.m cM.kp cM.b .nil pass0 (pa_cons (pv 1) (pa_cons (pv 3) pa_nil))))
        (pss_cons (ps_set (i := 5) nd rfl (Or.inr rfl) (pe_lc (own := [("_law_k", 9)]) (g := gName 9) (tt := tYes) rfl nd (pi_range1 (by rfl) T.range (pa_cons (pe_op op_add pe_int (pe_call cT.G hr1 rfl cT.m cT.kp cT.b .nil pass0 (pa_cons (pv 1) (pa_cons pe_int pa_nil)))) pa_nil)) (blkOk_by (N := nLaw) (sc := defScope sLaw) (by decide +kernel)) (fun _ _ _ _ _ => pg_name (i := 9) nd rfl (by first | exact Or.inl rfl | exact Or.inr rfl)) (fun _ _ _ _ _ => pts_nil) (fun _ _ _ _ _ => (pe_call cG.G hr2 rfl cG.m cG.kp cG.b .nil pass0 (pa_cons (pv 1) (pa_cons (pv 4) pa_nil))))))
        (Evl.pss_cut (ps_if (pt_cmpR op_eq (pe_call cT.G hr1 rfl cT.m cT.kp cT.b .nil pass0 (pa_cons (pv 1) (pa_cons pe_int pa_nil))) pe_int (nomark _)) (pss_one (ps_set (i := 5) nd rfl (by first | exact Or.inl rfl | exact Or.inr rfl) (pe_call cM.G hr2 rfl cM.m cM.kp cM.b .nil pass0 (pa_cons (pv 1) (pa_cons (pe_op op_cat (pv 5) (pe_lst (pa_cons (pe_call cQ.G hr3 rfl cQ.m cQ.kp cQ.b .nil pass0 (pa_cons (pv 1) (pa_cons (pv 3) pa_nil))) pa_nil))) pa_nil))))) pss_nil)
        (Evl.pss_cut (ps_par (i := 6) (j := 7) rfl nd rfl rfl (by decide) rfl rfl (pa_cons (pe_call cI.G hr rfl cI.m cI.kp cI.b .nil pass0 (pa_cons (pv 5) pa_nil)) (pa_cons (pe_call cP.G hr4 rfl cP.m cP.kp cP.b .nil pass0 (pa_cons (pv 5) pa_nil)) pa_nil)) (by rfl))
        (pss_cons (ps_setLc (i := 8) (own := [("_law_one_here", 10)]) (g := gName 10) rfl nd rfl (by rfl) (sw_true rfl (by rfl) rfl (by decide)) (pi_list (pv 5)) (blkOk_by (N := nLaw) (sc := defScope sLaw) (by decide +kernel)) (fun _ _ _ _ _ => pg_name (i := 10) nd rfl (by first | exact Or.inl rfl | exact Or.inr rfl)) (fun _ _ _ _ _ => pts_one (pt_cmpR (r := rNeD K) (op_neD hr.units) (by exact (pe_lc (own := [("_law_other", 11)]) (wi := iList K (tVar 5)) (g := gName 11) rfl nd (pi_list (pv 5)) (blkOk_by (N := nLaw) (sc := scL) (by decide +kernel)) (fun _ _ _ _ _ => pg_name (i := 11) nd rfl (by first | exact Or.inl rfl | exact Or.inr rfl)) (fun _ _ _ _ _ => pts_one (pt_not (pt_val (pe_call cS.G hr3 rfl cS.m cS.kp cS.b .nil pass0 (pa_cons (pv 10) (pa_cons (pv 11) pa_nil)))))) (fun _ _ _ _ _ => pv 11))) (pe_lst pa_nil) (nomark _))) (fun _ _ _ _ _ => pe_int))
        (pss_one (ps_if (pt_val (pe_callB (id := "isinstance") (r := rIsAny K) call_isAny (by rfl) T.isinstance (by decide +kernel) (pa_cons (pv 6) (pa_cons (pe_glob (v := .ref C) rfl TE.m rfl) pa_nil)))) (Evl.pss_cut (ps_if (PW.pt (pw_or (pt_cmp (pc_isN (pv 7))) (pw_or (pt_cmpR (op_neD hr.units) (pe_xfx (pv 6)) (pv 7) (nomark _)) (pw_or (pt_val (pe_call cS.G hr3 rfl cS.m cS.kp cS.b .nil pass0 (pa_cons (pe_ix ix_tup (pv 7) pe_int fun _ _ => rfl) (pa_cons (pe_ix ix_tup (pv 7) pe_int fun _ _ => rfl) pa_nil)))) (pw_or1 (pt_cmpR (op_eqD hr.units) (pv 8) (pe_lst pa_nil) (nomark _))))))) (pss_one (ps_ret pe_bl)) pss_nil) (pss_one (ps_if (PW.pt (pw_or (pt_cmpR (op_notInD hu65) (pe_ix ix_tup (pv 7) pe_int fun _ _ => rfl) (pv 5) (by rfl)) (pw_or (pt_cmpR (op_notInD hu65) (pe_ix ix_tup (pv 7) pe_int fun _ _ => rfl) (pv 5) (by rfl)) (pw_or1 (pt_val (pe_callB (id := "isinstance") (r := rIsErx K) call_isErx (by rfl) T.isinstance (by decide +kernel) (pa_cons (pe_call cI.G hr rfl cI.m cI.kp cI.b .nil pass0 (pa_cons (pe_callTy call_list_of (by rfl) T.list (by decide +kernel) (pa_cons (pv 7) pa_nil)) pa_nil)) (pa_cons (pe_bltn (v := .ty "tuple") (by rfl) T.tuple (by decide +kernel) rfl) pa_nil)))))))) (pss_one (ps_ret pe_bl)) pss_nil))) (pss_one (ps_if (PW.pt (pw_or (pt_cmp (pc_notN (pv 7))) (pw_or (pt_cmpR (op_neD hr.units) (pv 8) (pe_lst pa_nil) (nomark _)) (pw_or1 (pt_not (pt_val (pe_call cV.G hr3 rfl cV.m cV.kp cV.b .nil pass0 (pa_cons (pv 6) (pa_cons (pv 5) pa_nil))))))))) (pss_one (ps_ret pe_bl)) pss_nil)))))))))))
      (pss_one (ps_ret pe_bl))), ?_⟩
    refine ⟨_, rfl, a, ns, rfl, hS, hlen, fun b l H1 hb B1 s1 => ?_⟩
    refine ⟨8, rfl, by decide, by decide, ?_⟩
    refine for_range (lo := 0) (n := 8) (fun i σ H' => Bag H' b l ∧ ∃ (v2 v3 v4 v5 v6 v7 v8 v9 v10 v11 : Option V), σ = [some (.ref a), some (.ref b), v2, v3, v4, v5, v6, v7, v8, v9, v10, v11])
      ⟨B1, none, none, none, none, none, none, none, none, none, none, rfl⟩ ?_ (fun σ H' _ => k H')
    rintro i σ H0 hi ⟨B, v2, v3, v4, v5, v6, v7, v8, v9, v10, v11, rfl⟩
    refine ⟨_, rfl, _, rfl, _, rfl, by show 3 ≤ sizeLine; decide, fun p0 hp0 => ?_⟩
    refine ⟨b, l, p0, _, rfl, B.new hp0, B.ne hp0, upd_same, by simp, by show 3 < 1000; decide, fun x H2 hx B2 k2 => ?_⟩
    obtain ⟨m0, rfl, hm0, hm1⟩ : ∃ m : Int, x = V.int m ∧ 0 < m ∧ m ≤ 12 := by
      simp only [List.mem_cons, List.not_mem_nil, or_false] at hx
      rcases hx with rfl | rfl | rfl
      · exact ⟨9, rfl, by decide, by decide⟩
      · exact ⟨9, rfl, by decide, by decide⟩
      · exact ⟨12, rfl, by decide, by decide⟩
    refine ⟨b, l, m0, rfl, B2, hm0, by omega, fun j H3 hj B3 k3 => ⟨_, _, rfl, rfl, b, l, 1 + j, rfl, B3, fun xs nm H4 hN hn0 hnb h4 B4 k4 => ?_⟩⟩
    have R := hN.row (by omega)
    have hx12 := R.le
    refine ⟨_, rfl, _, rfl, b, l, nm, _, rfl, B4, hnb, h4, by rw [List.length_map]; omega, fun ys0 rw' H5 hp1 hr0 hrb hr5 B5 k5 => ?_⟩
    obtain ⟨ys1, rfl, hpp⟩ := perm_strs hp1
    have Ry := R.perm hpp
    have hnm5 := k5 _ _ h4 hnb
    refine ⟨_, rfl, b, l, 5, rfl, B5, by decide, by decide, fun m H6 hm B6 k6 => ⟨_, _, rfl, rfl, ((2 + m : Nat) : Int), rfl, by omega, by omega, fun D hD => ?_⟩⟩
    have hr6 := k6 _ _ hr5 hrb
    have hnm6 := k6 _ _ hnm5 hnb
    have hDb := B6.ne hD
    have hDl := B6.nel hD
    have hrD : rw' ≠ D := ne_of_none hr6 hD
    have hnD : nm ≠ D := ne_of_none hnm6 hD
    have s7 := same_new (o := .lst []) hD
    refine lc_range (lo := 0) (n := 2 + m) (fun i H' => Drawn b l rw' D ys1 i H' ∧ H' nm = some (.lst (xs.map V.str))) ⟨⟨B6.same s7, s7 _ _ hr6, [], ⟨[], upd_same, .nil, fun q hq => nomatch hq⟩, rfl⟩, s7 _ _ hnm6⟩ ?_ ?_
    · rintro i2 H8 hi2 ⟨d, hn8⟩
      have B8 := d.1
      have hr8 := d.2.1
      refine ⟨rfl, Exists.intro _ ⟨rfl, Exists.intro _ ⟨rfl, b, l, rw', ys1, rfl, B8, hrb, hr8, Ry, fun q c e H9 hq9 ok9 B9 k9 => ?_⟩⟩⟩
      obtain ⟨acc, g1, g2, g3⟩ := d.next hDb hDl hrD hrb Ry B9 k9 hq9 ok9 (by omega)
      exact ⟨acc, g1, g2, g3, by rw [upd_ne hnD]; exact k9 _ _ hn8 hnb⟩
    rintro H7 ⟨⟨B7, hr7, qs, L7, hl7⟩, hn7⟩
    refine ⟨fun σ' H8 => ∃ (p : Addr) (qs : List Qd), σ' = [some (.ref a), some (.ref b), some (.int (0 + (i : Int))), some (.ref nm), some (.ref rw'), some (.ref p), v6, v7, v8, v9, v10, v11] ∧ Bag H8 b l ∧ LQ H8 p qs ∧ 2 ≤ qs.length ∧ qs.length ≤ 8, ?_, ?_⟩
    · refine ⟨_, rfl, b, l, 2, rfl, B7, by decide, by decide, fun j2 H8 hj2 B8 k8 => ⟨rfl, _, rfl, ?_⟩⟩
      have L8 := LQ.kp B7 hDb k8 L7
      refine ite2 (fun _ => ?_) (fun _ => ⟨D, qs, rfl, B8, L8, by omega, by omega⟩)
      have hn8 := k8 _ _ hn7 hnb
      refine ⟨_, rfl, _, rfl, _, rfl, _, rfl, b, l, nm, xs, rfl, B8, hnb, hn8, R, fun q c e H9 hq9 ok9 B9 k9 => ⟨by show 1 ≤ sizeLine; decide, fun D2 hD2 => ?_⟩⟩
      obtain ⟨y5, a5, b5, c5⟩ := LQ.kp B8 hDb k9 L8
      have s10 := same_new (o := .lst [.ref q]) hD2
      have e5 : y5.length = 2 + m := by rw [b5.len]; exact hl7
      refine ⟨D, D2, y5, [.ref q], rfl, rfl, s10 _ _ a5, upd_same, by rw [e5, sizeLine_eq]; show 2 + m + 1 ≤ _; omega, fun p hp => ?_⟩
      have s11 := same_new (o := .lst (y5 ++ [.ref q])) hp
      have B10 := B9.same s10
      have B11 := B10.same s11
      have hpb := B10.ne hp
      have hq11 : QL (upd (upd H9 D2 (.lst [.ref q])) p (.lst (y5 ++ [.ref q]))) (y5 ++ [.ref q]) (qs ++ [(c, e)]) := paired_app (b5.same (s10.trans s11)) (.cons ⟨q, rfl, hq9.same (s10.trans s11)⟩ .nil)
      refine ⟨b, l, p, _, rfl, B11, hpb, upd_same, by rw [List.length_append, e5]; show 2 + m + 1 < 1000; omega, fun ym mm H12 hpm hmn hmb hm12 B12 k12 => ?_⟩
      obtain ⟨rm, hqm, hpm2⟩ := (hq11.kp B11 k12).permQ hpm
      have hlr : rm.length = qs.length + 1 := by rw [hpm2.length_eq, List.length_append]; rfl
      refine ⟨mm, rm, rfl, B12, ⟨ym, hm12, hqm, fun q' hq' => ?_⟩, by omega, by omega⟩
      rcases List.mem_append.mp (hpm2.mem_iff.mp hq') with h | h
      · exact c5 q' h
      · rw [List.mem_singleton.mp h]
        exact ok9.qz R
    rintro σ2 H8 ⟨p, qs, rfl, B8, ⟨ys, hp8, hq8, hz8⟩, hpos, hl8⟩
    have hyl : ys.length = qs.length := hq8.len
    -- found, pair
    refine ⟨fun σ' H9 => ∃ v6' v7' : V, σ' = [some (.ref a), some (.ref b), some (.int (0 + (i : Int))), some (.ref nm), some (.ref rw'), some (.ref p), some v6', some v7', v8, v9, v10, v11] ∧ Same H8 H9 ∧ Told18 K C H9 qs v6' v7', ?_, ?_⟩
    · refine ⟨_, rfl, p, ys, qs, rfl, .inl hp8, hq8, by omega, hz8, fun H9 r yq zs s9 D hf hpm hpw hr9 => ?_, fun H9 t d v zs p1 p2 s9 D hf hv hd => ?_⟩
      · refine ⟨_, rfl, p, ys, qs, rfl, .inl (s9 _ _ hp8), hq8.same s9, by omega, hz8, fun H10 v zs2 s10 D2 pv => ⟨_, _, rfl, ?_⟩⟩
        rw [← D.uniq D2 (fun q => Iff.rfl), hf] at pv
        have e7 : v = .non := pv
        subst e7
        have zq : ∀ q ∈ yq, q ∈ qs := fun q hq => hpm.mem_iff.mp hq
        have sh : ∀ p ∈ qs, ∀ q ∈ qs, shareQ p q = true := fun p hp q hq => firstP_none hf p ((D.mem p).mpr hp) q ((D.mem q).mpr hq)
        have L : LI (leng [] yq) qs := LI.of_mem (leng_ok (fun q hq => hz8 q (zq q hq)) (fun p hp q hq => sh p (zq p hp) q (zq q hq)) hpw) (fun q => hpm.mem_iff) (by intro e; rw [e] at hpos; exact absurd hpos (by decide))
        exact ⟨_, _, rfl, s9.trans s10, .inl ⟨r, leng [] yq, rfl, rfl, s10 _ _ hr9, L, LI.len18 L hz8 (by omega), sh⟩⟩
      · refine ⟨_, rfl, p, ys, qs, rfl, .inl (s9 _ _ hp8), hq8.same s9, by omega, hz8, fun H10 v2 zs2 s10 D2 pv => ⟨_, _, rfl, ?_⟩⟩
        rw [← D.uniq D2 (fun q => Iff.rfl), hf] at pv
        obtain ⟨tp, qa, qb, rfl, h1, h2, h3⟩ := pv
        obtain ⟨f1, f2, f3⟩ := firstP_some hf
        exact ⟨_, _, rfl, s9.trans s10, .inr ⟨t, d, tp, qa, qb, v, p1, p2, rfl, rfl, hd.same s10, (PairV.same s10 hv).dp, h1, h2, h3, (D.mem _).mp f2, (D.mem _).mp f3, f1⟩⟩
    rintro σ3 H9 ⟨v6', v7', rfl, s9, TT⟩
    -- lone
    have hp9 := s9 _ _ hp8
    have hq9 := hq8.same s9
    refine ⟨_, rfl, p, rfl, ⟨_, SqL.of hp9⟩, fun D hD => ?_⟩
    refine lc_list (K := K) (a := p) (xs := ys) (fun j H' => ∃ n : Nat, Same H9 H' ∧ H' D = some (.lst (List.replicate n (.int 1))) ∧ n ≤ j ∧ (n = 0 ↔ ∀ q ∈ qs.take j, loneB qs q = false)) ⟨0, same_new hD, upd_same, Nat.le_refl _, by simp⟩ (fun j H' _ ⟨_, s, _⟩ => SqL.of (s _ _ hp9)) ?_ ?_
    · rintro j x H10 hx ⟨n, s10, hDl, hn, hn0⟩
      have hjl : j < ys.length := (List.getElem?_eq_some_iff.mp hx).1
      obtain ⟨o, q, rfl, hqi, hqa⟩ := (hq9.same s10).at_ hx
      have zq := hz8 q (List.mem_of_getElem? hqi)
      have et : qs.take (j + 1) = qs.take j ++ [q] := by rw [List.take_add_one, hqi]; rfl
      have hp10 := s10 _ _ hp9
      have hq10 := hq9.same s10
      refine ⟨rfl, Exists.intro _ ⟨rfl, p, rfl, ⟨_, SqL.of hp10⟩, fun D2 hD2 => ?_⟩⟩
      refine lc_list (K := K) (a := p) (xs := ys) (fun l H' => ∃ us : List V, Same H10 H' ∧ H' D2 = some (.lst us) ∧ us.length ≤ l ∧ QL H' us ((qs.take l).filter fun r => !shareQ q r)) ⟨[], same_new hD2, upd_same, Nat.le_refl _, .nil⟩ (fun l H' _ ⟨_, s, _⟩ => SqL.of (s _ _ hp10)) ?_ ?_
      · rintro l y H11 hy ⟨us, s11, hUl, ul, qu⟩
        have hll : l < ys.length := (List.getElem?_eq_some_iff.mp hy).1
        obtain ⟨o2, r, rfl, hri, hra⟩ := (hq10.same s11).at_ hy
        have zr := hz8 r (List.mem_of_getElem? hri)
        have er : qs.take (l + 1) = qs.take l ++ [r] := by rw [List.take_add_one, hri]; rfl
        rw [er, List.filter_append]
        refine ⟨rfl, Exists.intro _ ⟨rfl, _, rfl, o, o2, q.1, q.2, r.1, r.2, rfl, hqa.same s11, hra, zq, zr, fun H12 s12 => ⟨_, rfl, ?_⟩⟩⟩
        have s112 := s11.trans s12
        cases hb : shareQ (q.1, q.2) (r.1, r.2) with
        | true =>
          refine iteF ?_
          refine ⟨us, s112, s12 _ _ hUl, by omega, ?_⟩
          rw [List.filter_cons, show shareQ q r = true from hb, if_neg (by decide), List.filter_nil, List.append_nil]
          exact qu.same s12
        | false =>
          refine iteT ?_
          refine ⟨_, rfl, us, s12 _ _ hUl, small1000 (by omega), us ++ [.ref o2], fun b o hb => ?_, upd_same, by rw [List.length_append]; simp; omega, ?_⟩
          · rw [upd_ne (ne_of_none hb hD2)]
            exact s112 _ _ hb
          · rw [List.filter_cons, show shareQ q r = false from hb, if_pos (by decide), List.filter_nil]
            exact QL.off (xs := us) (s12 _ _ hUl) ((qu.same s12).snoc (q := r) (hra.same s12))
      · rintro H11 ⟨us, s11, hUl, ul, qu⟩
        rw [hyl, List.take_of_length_le (Nat.le_refl _)] at qu
        refine ⟨by decide, fun e0 he0 => ?_⟩
        have s12 := same_new (o := .lst []) he0
        have uf : ∀ r ∈ qs.filter (fun r => !shareQ q r), Qfine r := fun r hr => (hz8 r (List.mem_filter.mp hr).1).fine
        have ufl : (qs.filter (fun r => !shareQ q r)).length ≤ 100 := Nat.le_trans (List.length_filter_le _ _) (by omega)
        refine ⟨.list ((qs.filter fun r => !shareQ q r).map dq), .list (([] : List Qd).map dq), .lst (SqL.of (s12 _ _ hUl)) (qu.same s12).dp, .lst (SqL.of upd_same) .nil, (dok_qs uf ufl).shaped, (dok_qs (qs := []) (fun q h => (nomatch h)) (by decide)).shaped, _, rfl, ?_⟩
        show if (!PyData.eqv (.list ((qs.filter fun r => !shareQ q r).map dq)) (.list [])) = true then _ else _
        have gr : loneB qs q = !decide ((qs.filter fun r => !shareQ q r) = []) := rfl
        rw [eqv_nilQ, ← gr, et]
        have s1012 := s10.trans (s11.trans s12)
        cases hc : loneB qs q with
        | false =>
          refine iteF ?_
          refine ⟨n, s1012, (s11.trans s12) _ _ hDl, by omega, hn0.trans ⟨fun h z hz => ?_, fun h z hz => h z (List.mem_append_left _ hz)⟩⟩
          rcases List.mem_append.mp hz with h1 | h1
          · exact h z h1
          · rw [List.mem_singleton.mp h1]; exact hc
        | true =>
          refine iteT ?_
          refine ⟨_, (s11.trans s12) _ _ hDl, small1000 (by rw [List.length_replicate]; omega), n + 1, fun b o hb => ?_, ?_, by omega, ?_⟩
          · rw [upd_ne (ne_of_none hb hD)]
            exact s1012 _ _ hb
          · rw [upd_same, List.replicate_succ']
          · refine ⟨fun h => absurd h (by omega), fun h => ?_⟩
            have := h q (List.mem_append_right _ (List.mem_singleton.mpr rfl))
            rw [hc] at this
            cases this
    rintro H10 ⟨n, s10, hDl, hn, hn0⟩
    rw [hyl, List.take_of_length_le (Nat.le_refl _)] at hn0
    have hn8 : n < 9 := by omega
    have hp10 := s10 _ _ hp9
    have hq10 := hq9.same s10
    have T10 : Told18 K C H10 qs v6' v7' := TT.same s10
    have fin : ∀ {H' : Hp} {v8' : Option V}, Same H8 H' → Bag H' b l ∧ ∃ (u2 u3 u4 u5 u6 u7 u8 u9 u10 u11 : Option V), [some (.ref a), some (.ref b), some (.int (0 + (i : Int))), some (.ref nm), some (.ref rw'), some (.ref p), some v6', some v7', v8', v9, v10, v11] = [some (V.ref a), some (.ref b), u2, u3, u4, u5, u6, u7, u8, u9, u10, u11] := fun {H' v8'} s => ⟨B8.same s, _, _, _, _, _, _, _, _, _, _, rfl⟩
    have s810 := s9.trans s10
    rcases T10 with ⟨r, R, rfl, rfl, hr, L, hRl, sh⟩ | ⟨t, d, tp, qa, qb, v, p1, p2, rfl, rfl, hx, hv, htp, hqa, hqb, m1, m2, sh⟩
    · have n0 : n = 0 := hn0.mpr fun q hq => by
        unfold loneB
        rw [Bool.not_eq_false', decide_eq_true_eq, List.filter_eq_nil_iff]
        intro r hr
        rw [sh q hq r hr]
        decide
      subst n0
      refine ⟨_, rfl, .inr ⟨_, _, .type "tuple", .ref C, false, rfl, .own C, .base (.tup hr), TE.ty, _, rfl, ?_⟩⟩
      refine iteF ?_
      refine ⟨_, rfl, _, rfl, ?_⟩
      show if (!decide (V.non = V.non)) = true then _ else _
      rw [decide_eq_true rfl]
      refine iteF ?_
      refine ⟨_, rfl, by decide, fun e0 he0 => ?_⟩
      have s11 := same_new (o := .lst []) he0
      refine ⟨.list [], .list [], .lst (SqL.of (s11 _ _ hDl)) .nil, .lst (SqL.of upd_same) .nil, by decide +kernel, by decide +kernel, _, rfl, ?_⟩
      refine iteF ?_
      have s811 := s810.trans s11
      refine ⟨_, rfl, _, rfl, r, p, R, ys, qs, rfl, s11 _ _ hr, s811 _ _ hp8, hq8.same s811, by omega, by omega, hz8, L, hRl.1, hRl.2, sh, fun H12 s12 => ⟨_, rfl, ?_⟩⟩
      refine iteF ?_
      exact fin (s811.trans s12)
    · have n0 : n ≠ 0 := fun h => by
        have h1 := hn0.mp h p1 m1
        unfold loneB at h1
        rw [Bool.not_eq_false', decide_eq_true_eq, List.filter_eq_nil_iff] at h1
        exact h1 p2 m2 (by rw [sh]; rfl)
      have z1 := hz8 p1 m1
      have z2 := hz8 p2 m2
      have pok : DOk (PyData.tuple [dq p1, dq p2]) := dok_pair (o := some (p1, p2)) fun p q e => by
        cases e
        exact ⟨z1.fine, z2.fine⟩
      have dtp : Dp K H10 (.ref tp) (PyData.tuple [dq p1, dq p2]) := .tup (SqT.of htp) (.cons (dp_q hqa) (.cons (dp_q hqb) .nil))
      refine ⟨_, rfl, .inl ⟨t, C, d, _, .ref C, .ref C, true, rfl, .own C, hx, TE.er, TE.kc, _, rfl, ?_⟩⟩
      refine iteT ?_
      refine ⟨fun σ' H' => σ' = [some (.ref a), some (.ref b), some (.int (0 + (i : Int))), some (.ref nm), some (.ref rw'), some (.ref p), some (.ref t), some (.ref tp), some (.ref D), v9, v10, v11] ∧ Same H10 H', ?_, ?_⟩
      · refine ⟨_, rfl, _, rfl, ?_⟩
        show if decide (V.ref tp = V.non) = true then _ else _
        rw [decide_eq_false (fun h => nomatch h)]
        refine iteF ?_
        refine ⟨_, rfl, t, C, d, _, v, rfl, TE.er.x, TE.no, hx, rfl, _, rfl, _, _, hv, dtp, pok.shaped, pok.shaped, _, rfl, ?_⟩
        rw [dne_self pok]
        refine iteF ?_
        refine ⟨_, rfl, tp, _, 0, _, rfl, rfl, SqT.of htp, (by exact atI_nat (j := 0) rfl), _, rfl, tp, _, 1, _, rfl, rfl, SqT.of htp, (by exact atI_nat (j := 1) rfl), qa, qb, p1.1, p1.2, p2.1, p2.2, rfl, hqa, hqb, z1, z2, fun H11 s11 => ⟨_, rfl, ?_⟩⟩
        rw [show shareQ (p1.1, p1.2) (p2.1, p2.2) = false from sh]
        refine iteF ?_
        refine ⟨_, rfl, by decide, fun e0 he0 => ?_⟩
        have s12 := same_new (o := .lst []) he0
        refine ⟨.list (List.replicate n (.int 1)), .list [], .lst (SqL.of (s12 _ _ (s11 _ _ hDl))) (dp_ones n), .lst (SqL.of upd_same) .nil, ones_shaped n hn8, by decide +kernel, _, rfl, ?_⟩
        rw [ones_eqv n0]
        refine iteF ?_
        exact ⟨rfl, s11.trans s12⟩
      · rintro σ4 H11 ⟨rfl, s11⟩
        have htp11 := s11 _ _ htp
        have hq11 := hq10.same s11
        have hp11 := s11 _ _ hp10
        have qf : ∀ q ∈ qs, Qfine q := fun q hq => (hz8 q hq).fine
        have ql : qs.length ≤ 100 := by omega
        have inq : ∀ {q : Qd}, q ∈ qs → (!(qs.map dq).any fun z => PyData.eqv z (dq q)) = false := fun {q} hq => by
          rw [List.any_eq_true.mpr ⟨dq q, List.mem_map_of_mem hq, by rw [eqv_q]; exact decide_eq_true rfl⟩]
          rfl
        refine ⟨_, rfl, tp, _, 0, _, rfl, rfl, SqT.of htp11, (by exact atI_nat (j := 0) rfl), _, rfl, dq p1, qs.map dq, dp_q (hqa.same s11), .lst (SqL.of hp11) hq11.dp, (dok_q z1.fine).shaped, (dok_qs qf ql).shaped, _, rfl, ?_⟩
        rw [inq m1]
        refine iteF ?_
        refine ⟨_, rfl, tp, _, 1, _, rfl, rfl, SqT.of htp11, (by exact atI_nat (j := 1) rfl), _, rfl, dq p2, qs.map dq, dp_q (hqb.same s11), .lst (SqL.of hp11) hq11.dp, (dok_q z2.fine).shaped, (dok_qs qf ql).shaped, _, rfl, ?_⟩
        rw [inq m2]
        refine iteF ?_
        refine ⟨_, rfl, tp, _, rfl, .inr (SqT.of htp11), fun l hl => ?_⟩
        have s12 := same_new (o := .lst [.ref qa, .ref qb]) hl
        have s112 := s11.trans s12
        have zz : QZs [p1, p2] := fun q hq => by
          rcases List.mem_cons.mp hq with e | hq
          · rw [e]; exact z1
          · rw [List.mem_singleton.mp hq]; exact z2
        refine ⟨l, _, [p1, p2], rfl, .inl upd_same, .cons ⟨qa, rfl, hqa.same s112⟩ (.cons ⟨qb, rfl, hqb.same s112⟩ .nil), by show 2 < 64; decide, zz, fun H12 r yq zs s13 D2 hf hpm hpw hr9 => ?_, fun H12 t2 d2 v2 zs p3 p4 s13 D2 hf hv2 hd2 => ?_⟩
        · have := firstP_none hf p1 ((D2.mem p1).mpr List.mem_cons_self) p2 ((D2.mem p2).mpr (List.mem_cons_of_mem _ List.mem_cons_self))
          rw [sh] at this
          cases this
        · refine ⟨t2, C, d2, _, .ty "tuple", .type "tuple", false, rfl, .ty "tuple", hd2, TE.er, TE.et, _, rfl, ?_⟩
          refine iteF ?_
          exact fin (s810.trans (s112.trans s13))
end
theorem all_mk {l : PySem.W.OpenLaw} {w : World} {K : PySem.W.Frag} {h : Heap} {mg : Str → Option Value} {fa f1 f2 f3 f4 f5 f6 f7 f8 f9 f10 f11 f12 f13 f14 f15 f16 f17 f18 f19 f20 f21 f22 C fI : Addr} (X : K.In h) (G : h.Ns mainGlobals mg) (hfa : mg "law" = some (.ref fa))
    {od1 an1 od2 an2 od3 an3 od4 an4 od5 an5 od6 an6 od7 an7 od8 an8 od9 an9 od10 an10 od11 an11 od12 an12 od13 an13 od14 an14 od15 an15 od16 an16 od17 an17 od18 an18 od19 an19 od20 an20 od21 an21 od22 an22 odI anI : Option Addr} {slI sl1 sl2 sl3 sl4 sl5 sl6 sl7 sl8 sl9 sl10 sl11 sl12 sl13 sl14 sl15 sl16 sl17 sl18 sl19 sl20 sl21 sl22 : Array (Option Value)} {oc1 kV1 dc1 pm1 cd1 ct1 oc2 kV2 dc2 pm2 cd2 ct2 oc3 kV3 dc3 pm3 cd3 ct3 oc4 kV4 dc4 pm4 cd4 ct4 oc5 kV5 dc5 pm5 cd5 ct5 oc6 kV6 dc6 pm6 cd6 ct6 oc7 kV7 dc7 pm7 cd7 ct7 oc8 kV8 dc8 pm8 cd8 ct8 oc9 kV9 dc9 pm9 cd9 ct9 oc10 kV10 dc10 pm10 cd10 ct10 oc11 kV11 dc11 pm11 cd11 ct11 oc12 kV12 dc12 pm12 cd12 ct12 oc13 kV13 dc13 pm13 cd13 ct13 oc14 kV14 dc14 pm14 cd14 ct14 oc15 kV15 dc15 pm15 cd15 ct15 oc16 kV16 dc16 pm16 cd16 ct16 oc17 kV17 dc17 pm17 cd17 ct17 oc18 kV18 dc18 pm18 cd18 ct18 oc19 kV19 dc19 pm19 cd19 ct19 oc20 kV20 dc20 pm20 cd20 ct20 oc21 kV21 dc21 pm21 cd21 ct21 oc22 kV22 dc22 pm22 cd22 ct22 ocI kVI dcI pmI cdI ctI : Value}
    (a1 : PySem.W.nsIn K mainGlobals "row_of" = some (some (.ref f1))) (l1 : K.lookup f1 = some ⟨oc1, od1, .func (PySem.W.fnOf "row_of" "row_of" (defArgs sRow) (defBody sRow) (defScope sRow) .none kV1 dc1 pm1 an1 cd1 ct1), sl1⟩) (c1 : PySem.W.codeIn K cd1 "row_of" = true) (k1 : PySem.W.keepIn K (.ref f1) = true)
    (a2 : PySem.W.nsIn K mainGlobals "columns_of" = some (some (.ref f2))) (l2 : K.lookup f2 = some ⟨oc2, od2, .func (PySem.W.fnOf "columns_of" "columns_of" (defArgs sCols) (defBody sCols) (defScope sCols) .none kV2 dc2 pm2 an2 cd2 ct2), sl2⟩) (c2 : PySem.W.codeIn K cd2 "columns_of" = true) (k2 : PySem.W.keepIn K (.ref f2) = true)
    (a3 : PySem.W.nsIn K mainGlobals "width" = some (some (.ref f3))) (l3 : K.lookup f3 = some ⟨oc3, od3, .func (PySem.W.fnOf "width" "width" (defArgs sWidth) (defBody sWidth) (defScope sWidth) .none kV3 dc3 pm3 an3 cd3 ct3), sl3⟩) (c3 : PySem.W.codeIn K cd3 "width" = true) (k3 : PySem.W.keepIn K (.ref f3) = true)
    (a4 : PySem.W.nsIn K mainGlobals "is_below" = some (some (.ref f4))) (l4 : K.lookup f4 = some ⟨oc4, od4, .func (PySem.W.fnOf "is_below" "is_below" (defArgs sBelow) (defBody sBelow) (defScope sBelow) .none kV4 dc4 pm4 an4 cd4 ct4), sl4⟩) (c4 : PySem.W.codeIn K cd4 "is_below" = true) (k4 : PySem.W.keepIn K (.ref f4) = true)
    (a5 : PySem.W.nsIn K mainGlobals "can_share" = some (some (.ref f5))) (l5 : K.lookup f5 = some ⟨oc5, od5, .func (PySem.W.fnOf "can_share" "can_share" (defArgs sCan) (defBody sCan) (defScope sCan) .none kV5 dc5 pm5 an5 cd5 ct5), sl5⟩) (c5 : PySem.W.codeIn K cd5 "can_share" = true) (k5 : PySem.W.keepIn K (.ref f5) = true)
    (a6 : PySem.W.nsIn K mainGlobals "split_pair" = some (some (.ref f6))) (l6 : K.lookup f6 = some ⟨oc6, od6, .func (PySem.W.fnOf "split_pair" "split_pair" (defArgs sSplit) (defBody sSplit) (defScope sSplit) .none kV6 dc6 pm6 an6 cd6 ct6), sl6⟩) (c6 : PySem.W.codeIn K cd6 "split_pair" = true) (k6 : PySem.W.keepIn K (.ref f6) = true)
    (a7 : PySem.W.nsIn K mainGlobals "first_fault" = some (some (.ref f7))) (l7 : K.lookup f7 = some ⟨oc7, od7, .func (PySem.W.fnOf "first_fault" "first_fault" (defArgs sFault) (defBody sFault) (defScope sFault) .none kV7 dc7 pm7 an7 cd7 ct7), sl7⟩) (c7 : PySem.W.codeIn K cd7 "first_fault" = true) (k7 : PySem.W.keepIn K (.ref f7) = true)
    (a8 : PySem.W.nsIn K mainGlobals "serves" = some (some (.ref f8))) (l8 : K.lookup f8 = some ⟨oc8, od8, .func (PySem.W.fnOf "serves" "serves" (defArgs sServ) (defBody sServ) (defScope sServ) .none kV8 dc8 pm8 an8 cd8 ct8), sl8⟩) (c8 : PySem.W.codeIn K cd8 "serves" = true) (k8 : PySem.W.keepIn K (.ref f8) = true)
    (a9 : PySem.W.nsIn K mainGlobals "questions_of" = some (some (.ref f9))) (l9 : K.lookup f9 = some ⟨oc9, od9, .func (PySem.W.fnOf "questions_of" "questions_of" (defArgs sQof) (defBody sQof) (defScope sQof) .none kV9 dc9 pm9 an9 cd9 ct9), sl9⟩) (c9 : PySem.W.codeIn K cd9 "questions_of" = true) (k9 : PySem.W.keepIn K (.ref f9) = true)
    (a10 : PySem.W.nsIn K mainGlobals "many_by_equality" = some (some (.ref f10))) (l10 : K.lookup f10 = some ⟨oc10, od10, .func (PySem.W.fnOf "many_by_equality" "many_by_equality" (defArgs sMany) (defBody sMany) (defScope sMany) .none kV10 dc10 pm10 an10 cd10 ct10), sl10⟩) (c10 : PySem.W.codeIn K cd10 "many_by_equality" = true) (k10 : PySem.W.keepIn K (.ref f10) = true)
    (a11 : PySem.W.nsIn K mainGlobals "lengthened" = some (some (.ref f11))) (l11 : K.lookup f11 = some ⟨oc11, od11, .func (PySem.W.fnOf "lengthened" "lengthened" (defArgs sLeng) (defBody sLeng) (defScope sLeng) .none kV11 dc11 pm11 an11 cd11 ct11), sl11⟩) (c11 : PySem.W.codeIn K cd11 "lengthened" = true) (k11 : PySem.W.keepIn K (.ref f11) = true)
    (a12 : PySem.W.nsIn K mainGlobals "index_for" = some (some (.ref f12))) (l12 : K.lookup f12 = some ⟨oc12, od12, .func (PySem.W.fnOf "index_for" "index_for" (defArgs sIFor) (defBody sIFor) (defScope sIFor) .none kV12 dc12 pm12 an12 cd12 ct12), sl12⟩) (c12 : PySem.W.codeIn K cd12 "index_for" = true) (k12 : PySem.W.keepIn K (.ref f12) = true)
    (a13 : PySem.W.nsIn K mainGlobals "_law_bag" = some (some (.ref f13))) (l13 : K.lookup f13 = some ⟨oc13, od13, .func (PySem.W.fnOf "_law_bag" "_law_bag" (defArgs sBag) (defBody sBag) (defScope sBag) .none kV13 dc13 pm13 an13 cd13 ct13), sl13⟩) (c13 : PySem.W.codeIn K cd13 "_law_bag" = true) (k13 : PySem.W.keepIn K (.ref f13) = true)
    (a14 : PySem.W.nsIn K mainGlobals "_law_take" = some (some (.ref f14))) (l14 : K.lookup f14 = some ⟨oc14, od14, .func (PySem.W.fnOf "_law_take" "_law_take" (defArgs sTake) (defBody sTake) (defScope sTake) .none kV14 dc14 pm14 an14 cd14 ct14), sl14⟩) (c14 : PySem.W.codeIn K cd14 "_law_take" = true) (k14 : PySem.W.keepIn K (.ref f14) = true)
    (a15 : PySem.W.nsIn K mainGlobals "_law_one" = some (some (.ref f15))) (l15 : K.lookup f15 = some ⟨oc15, od15, .func (PySem.W.fnOf "_law_one" "_law_one" (defArgs sOne) (defBody sOne) (defScope sOne) .none kV15 dc15 pm15 an15 cd15 ct15), sl15⟩) (c15 : PySem.W.codeIn K cd15 "_law_one" = true) (k15 : PySem.W.keepIn K (.ref f15) = true)
    (a16 : PySem.W.nsIn K mainGlobals "_law_mixed" = some (some (.ref f16))) (l16 : K.lookup f16 = some ⟨oc16, od16, .func (PySem.W.fnOf "_law_mixed" "_law_mixed" (defArgs sMixed) (defBody sMixed) (defScope sMixed) .none kV16 dc16 pm16 an16 cd16 ct16), sl16⟩) (c16 : PySem.W.codeIn K cd16 "_law_mixed" = true) (k16 : PySem.W.keepIn K (.ref f16) = true)
    (a17 : PySem.W.nsIn K mainGlobals "_law_names" = some (some (.ref f17))) (l17 : K.lookup f17 = some ⟨oc17, od17, .func (PySem.W.fnOf "_law_names" "_law_names" (defArgs sNames) (defBody sNames) (defScope sNames) .none kV17 dc17 pm17 an17 cd17 ct17), sl17⟩) (c17 : PySem.W.codeIn K cd17 "_law_names" = true) (k17 : PySem.W.keepIn K (.ref f17) = true)
    (a18 : PySem.W.nsIn K mainGlobals "_law_question" = some (some (.ref f18))) (l18 : K.lookup f18 = some ⟨oc18, od18, .func (PySem.W.fnOf "_law_question" "_law_question" (defArgs sQuestion) (defBody sQuestion) (defScope sQuestion) .none kV18 dc18 pm18 an18 cd18 ct18), sl18⟩) (c18 : PySem.W.codeIn K cd18 "_law_question" = true) (k18 : PySem.W.keepIn K (.ref f18) = true)
    (a19 : PySem.W.nsIn K mainGlobals "_law_beginning" = some (some (.ref f19))) (l19 : K.lookup f19 = some ⟨oc19, od19, .func (PySem.W.fnOf "_law_beginning" "_law_beginning" (defArgs sBeginning) (defBody sBeginning) (defScope sBeginning) .none kV19 dc19 pm19 an19 cd19 ct19), sl19⟩) (c19 : PySem.W.codeIn K cd19 "_law_beginning" = true) (k19 : PySem.W.keepIn K (.ref f19) = true)
    (a20 : PySem.W.nsIn K mainGlobals "_law_told" = some (some (.ref f20))) (l20 : K.lookup f20 = some ⟨oc20, od20, .func (PySem.W.fnOf "_law_told" "_law_told" (defArgs sTold) (defBody sTold) (defScope sTold) .none kV20 dc20 pm20 an20 cd20 ct20), sl20⟩) (c20 : PySem.W.codeIn K cd20 "_law_told" = true) (k20 : PySem.W.keepIn K (.ref f20) = true)
    (a21 : PySem.W.nsIn K mainGlobals "_law_one_serves" = some (some (.ref f21))) (l21 : K.lookup f21 = some ⟨oc21, od21, .func (PySem.W.fnOf "_law_one_serves" "_law_one_serves" (defArgs sOneServes) (defBody sOneServes) (defScope sOneServes) .none kV21 dc21 pm21 an21 cd21 ct21), sl21⟩) (c21 : PySem.W.codeIn K cd21 "_law_one_serves" = true) (k21 : PySem.W.keepIn K (.ref f21) = true)
    (a22 : PySem.W.nsIn K mainGlobals "law" = some (some (.ref f22))) (l22 : K.lookup f22 = some ⟨oc22, od22, .func (PySem.W.fnOf "law" "law" (defArgs sLaw) (defBody sLaw) (defScope sLaw) .none kV22 dc22 pm22 an22 cd22 ct22), sl22⟩) (c22 : PySem.W.codeIn K cd22 "law" = true) (k22 : PySem.W.keepIn K (.ref f22) = true)
    (aC : PySem.W.nsIn K mainGlobals "Apart" = some (some (.ref C))) (eb : ercB K C = true) (no : PySem.W.findIn K (.ref C) "pair" = some none) (te : PySem.W.exmOne K (.ref C) (.ref C) = some true) (ty : PySem.W.kitOne K (.type "tuple") (.ref C) = some false) (et : PySem.W.kitOne K (.ref C) (.type "tuple") = some false)
    (aI : PySem.W.findIn K (.ref C) "__init__" = some (some (.ref fI))) (tI : PySem.W.typeIn K (.ref fI) = some (.type "function")) (lI : K.lookup fI = some ⟨ocI, odI, .func (PySem.W.fnOf "__init__" "Apart.__init__" (defArgs sInit) (defBody sInit) (defScope sInit) .none kVI dcI pmI anI cdI ctI), slI⟩) (cI : PySem.W.codeIn K cdI "Apart.__init__" = true) (kI : PySem.W.keepIn K (.ref fI) = true)
    (zlen : PySem.W.nsIn K mainGlobals "len" = some none) (zint : PySem.W.nsIn K mainGlobals "int" = some none) (zabs : PySem.W.nsIn K mainGlobals "abs" = some none) (ztuple : PySem.W.nsIn K mainGlobals "tuple" = some none) (zsorted : PySem.W.nsIn K mainGlobals "sorted" = some none) (zrange : PySem.W.nsIn K mainGlobals "range" = some none) (zrepr : PySem.W.nsIn K mainGlobals "repr" = some none) (zlist : PySem.W.nsIn K mainGlobals "list" = some none) (zset : PySem.W.nsIn K mainGlobals "set" = some none) (zenumerate : PySem.W.nsIn K mainGlobals "enumerate" = some none) (zmax : PySem.W.nsIn K mainGlobals "max" = some none) (zisinstance : PySem.W.nsIn K mainGlobals "isinstance" = some none) :
    ∃ fd : FuncData, (∀ (s : Shared) (v : Value), BindsTo s fd ⟨[v], []⟩ [("_law_script", v)]) ∧ ∀ base : Heap, K.In base → base.Ns mainGlobals mg → FnOk l.prog w K mg base CX0 7 fa fd ["_law_script"] (spLaw K) := by
  have e := hfa.symm.trans (PySem.W.mg_of X G a22)
  cases e
  have T : Txt K mg := ⟨PySem.W.mg_none_of X G zlen, PySem.W.mg_none_of X G zint, PySem.W.mg_none_of X G zabs, PySem.W.mg_none_of X G ztuple, PySem.W.mg_none_of X G zsorted, PySem.W.mg_none_of X G zrange, PySem.W.mg_none_of X G zrepr, PySem.W.mg_none_of X G zlist, PySem.W.mg_none_of X G zset, PySem.W.mg_none_of X G zenumerate, PySem.W.mg_none_of X G zmax, PySem.W.mg_none_of X G zisinstance⟩
  have TE : TxE K mg C := ⟨ercB_ok eb, no, PySem.W.mg_of X G aC, te, ty, et⟩
  have FI := fun_mk (st := sInit) lI cI kI
  have bI := FI.binds (ps := ["self", "pair"]) fun _ _ _ _ _ _ us hl => match us, hl with | [_, _], _ => rfl
  have F1 := fun_mk (st := sRow) l1 c1 k1
  have b1 := F1.binds (ps := ["question"]) fun _ _ _ _ _ _ us hl => match us, hl with | [_], _ => rfl
  have F2 := fun_mk (st := sCols) l2 c2 k2
  have b2 := F2.binds (ps := ["question"]) fun _ _ _ _ _ _ us hl => match us, hl with | [_], _ => rfl
  have F3 := fun_mk (st := sWidth) l3 c3 k3
  have b3 := F3.binds (ps := ["question"]) fun _ _ _ _ _ _ us hl => match us, hl with | [_], _ => rfl
  have F4 := fun_mk (st := sBelow) l4 c4 k4
  have b4 := F4.binds (ps := ["one", "other"]) fun _ _ _ _ _ _ us hl => match us, hl with | [_, _], _ => rfl
  have F5 := fun_mk (st := sCan) l5 c5 k5
  have b5 := F5.binds (ps := ["one", "other"]) fun _ _ _ _ _ _ us hl => match us, hl with | [_, _], _ => rfl
  have F6 := fun_mk (st := sSplit) l6 c6 k6
  have b6 := F6.binds (ps := ["questions"]) fun _ _ _ _ _ _ us hl => match us, hl with | [_], _ => rfl
  have F7 := fun_mk (st := sFault) l7 c7 k7
  have b7 := F7.binds (ps := ["index", "question"]) fun _ _ _ _ _ _ us hl => match us, hl with | [_, _], _ => rfl
  have F8 := fun_mk (st := sServ) l8 c8 k8
  have b8 := F8.binds (ps := ["index", "question"]) fun _ _ _ _ _ _ us hl => match us, hl with | [_, _], _ => rfl
  have F9 := fun_mk (st := sQof) l9 c9 k9
  have b9 := F9.binds (ps := ["index"]) fun _ _ _ _ _ _ us hl => match us, hl with | [_], _ => rfl
  have F10 := fun_mk (st := sMany) l10 c10 k10
  have b10 := F10.binds (ps := ["question"]) fun _ _ _ _ _ _ us hl => match us, hl with | [_], _ => rfl
  have F11 := fun_mk (st := sLeng) l11 c11 k11
  have b11 := F11.binds (ps := ["front", "questions"]) fun _ _ _ _ _ _ us hl => match us, hl with | [_, _], _ => rfl
  have F12 := fun_mk (st := sIFor) l12 c12 k12
  have b12 := F12.binds (ps := ["questions"]) fun _ _ _ _ _ _ us hl => match us, hl with | [_], _ => rfl
  have F13 := fun_mk (st := sBag) l13 c13 k13
  have b13 := F13.binds (ps := ["_law_script"]) fun _ _ _ _ _ _ us hl => match us, hl with | [_], _ => rfl
  have F14 := fun_mk (st := sTake) l14 c14 k14
  have b14 := F14.binds (ps := ["_law_bag_here", "_law_many"]) fun _ _ _ _ _ _ us hl => match us, hl with | [_, _], _ => rfl
  have F15 := fun_mk (st := sOne) l15 c15 k15
  have b15 := F15.binds (ps := ["_law_bag_here", "_law_some"]) fun _ _ _ _ _ _ us hl => match us, hl with | [_, _], _ => rfl
  have F16 := fun_mk (st := sMixed) l16 c16 k16
  have b16 := F16.binds (ps := ["_law_bag_here", "_law_things"]) fun _ _ _ _ _ _ us hl => match us, hl with | [_, _], _ => rfl
  have F17 := fun_mk (st := sNames) l17 c17 k17
  have b17 := F17.binds (ps := ["_law_bag_here", "_law_many"]) fun _ _ _ _ _ _ us hl => match us, hl with | [_, _], _ => rfl
  have F18 := fun_mk (st := sQuestion) l18 c18 k18
  have b18 := F18.binds (ps := ["_law_bag_here", "_law_names_here"]) fun _ _ _ _ _ _ us hl => match us, hl with | [_, _], _ => rfl
  have F19 := fun_mk (st := sBeginning) l19 c19 k19
  have b19 := F19.binds (ps := ["_law_bag_here", "_law_row"]) fun _ _ _ _ _ _ us hl => match us, hl with | [_, _], _ => rfl
  have F20 := fun_mk (st := sTold) l20 c20 k20
  have b20 := F20.binds (ps := ["_law_some"]) fun _ _ _ _ _ _ us hl => match us, hl with | [_], _ => rfl
  have F21 := fun_mk (st := sOneServes) l21 c21 k21
  have b21 := F21.binds (ps := ["_law_index", "_law_some"]) fun _ _ _ _ _ _ us hl => match us, hl with | [_, _], _ => rfl
  have F22 := fun_mk (st := sLaw) l22 c22 k22
  have b22 := F22.binds (ps := ["_law_script"]) fun _ _ _ _ _ _ us hl => match us, hl with | [_], _ => rfl
  refine ⟨PySem.W.fnOf "law" "law" (defArgs sLaw) (defBody sLaw) (defScope sLaw) .none kV22 dc22 pm22 an22 cd22 ct22, fun s v => .of_eq rfl, fun base _ _ => ?_⟩
  let c_1 : Cal l.prog w K mg base 1 "row_of" ["question"] (spRow) := ⟨_, _, ok_row F1 T, PySem.W.mg_of X G a1, k1, b1⟩
  let c_2 : Cal l.prog w K mg base 2 "columns_of" ["question"] (spCols) := ⟨_, _, ok_cols F2 T c_1, PySem.W.mg_of X G a2, k2, b2⟩
  let c_3 : Cal l.prog w K mg base 2 "width" ["question"] (spWidth) := ⟨_, _, ok_width F3 T c_1, PySem.W.mg_of X G a3, k3, b3⟩
  let c_4 : Cal l.prog w K mg base 2 "is_below" ["one", "other"] (spTwo belowQ) := ⟨_, _, ok_below F4 T c_1, PySem.W.mg_of X G a4, k4, b4⟩
  let c_5 : Cal l.prog w K mg base 3 "can_share" ["one", "other"] (spTwo shareQ) := ⟨_, _, ok_can F5 T c_4, PySem.W.mg_of X G a5, k5, b5⟩
  let c_6 : Cal l.prog w K mg base 4 "split_pair" ["questions"] (spSplit K) := ⟨_, _, ok_split F6 T c_5, PySem.W.mg_of X G a6, k6, b6⟩
  let c_7 : Cal l.prog w K mg base 1 "first_fault" ["index", "question"] (spFault) := ⟨_, _, ok_fault F7 T, PySem.W.mg_of X G a7, k7, b7⟩
  let c_8 : Cal l.prog w K mg base 1 "serves" ["index", "question"] (spServes) := ⟨_, _, ok_serv F8 T, PySem.W.mg_of X G a8, k8, b8⟩
  let c_9 : Cal l.prog w K mg base 1 "questions_of" ["index"] (spQof) := ⟨_, _, ok_qof F9 T, PySem.W.mg_of X G a9, k9, b9⟩
  let c_10 : Cal l.prog w K mg base 1 "many_by_equality" ["question"] (spMany) := ⟨_, _, ok_many F10 T, PySem.W.mg_of X G a10, k10, b10⟩
  let c_11 : Cal l.prog w K mg base 1 "lengthened" ["front", "questions"] (spLeng) := ⟨_, _, ok_leng F11 T, PySem.W.mg_of X G a11, k11, b11⟩
  have GI : FnOk l.prog w K mg base CX0 1 fI _ ["self", "pair"] (spInitE K "pair") := ok_init FI
  let c_12 : CalX l.prog w K mg base 5 "index_for" ["questions"] (spIFor C) := ⟨_, _, ok_ifor F12 T TE aI tI GI bI c_6 c_10 c_11, PySem.W.mg_of X G a12, k12, b12⟩
  let c_13 : Cal l.prog w K mg base 1 "_law_bag" ["_law_script"] (spBag K) := ⟨_, _, ok_bag F13 T, PySem.W.mg_of X G a13, k13, b13⟩
  let c_14 : Cal l.prog w K mg base 1 "_law_take" ["_law_bag_here", "_law_many"] (spTake) := ⟨_, _, ok_take F14 T, PySem.W.mg_of X G a14, k14, b14⟩
  let c_15 : Cal l.prog w K mg base 2 "_law_one" ["_law_bag_here", "_law_some"] (spOne) := ⟨_, _, ok_one F15 T c_14, PySem.W.mg_of X G a15, k15, b15⟩
  let c_16 : Cal l.prog w K mg base 2 "_law_mixed" ["_law_bag_here", "_law_things"] (spMixed) := ⟨_, _, ok_mixed F16 T c_14, PySem.W.mg_of X G a16, k16, b16⟩
  let c_17 : Cal l.prog w K mg base 3 "_law_names" ["_law_bag_here", "_law_many"] (spNames) := ⟨_, _, ok_names F17 T c_16, PySem.W.mg_of X G a17, k17, b17⟩
  let c_18 : Cal l.prog w K mg base 3 "_law_question" ["_law_bag_here", "_law_names_here"] (spQuestion) := ⟨_, _, ok_question F18 T c_14 c_16, PySem.W.mg_of X G a18, k18, b18⟩
  let c_19 : Cal l.prog w K mg base 2 "_law_beginning" ["_law_bag_here", "_law_row"] (spBeginL) := ⟨_, _, ok_beginning F19 T c_14, PySem.W.mg_of X G a19, k19, b19⟩
  let c_20 : Cal l.prog w K mg base 6 "_law_told" ["_law_some"] (spTold C) := ⟨_, _, ok_told F20 T TE c_12, PySem.W.mg_of X G a20, k20, b20⟩
  let c_21 : Cal l.prog w K mg base 3 "_law_one_serves" ["_law_index", "_law_some"] (spOneS) := ⟨_, _, ok_ones F21 T c_3 c_2 c_4 c_9 c_7 c_8, PySem.W.mg_of X G a21, k21, b21⟩
  exact ok_law F22 T TE c_13 c_14 c_15 c_16 c_17 c_18 c_19 c_20 c_6 c_5 c_21
theorem walk {l : PySem.W.OpenLaw} {q : Program} {loose : List Str} {XP : (Str → Option Value) → Heap → Prop} {YP : World → Heap → Prop} {d : DefRec} {K : Params → PySem.W.Frag} (hn : l.most = some 63) (hdf : d.params.defaults = [])
    (hY : ∀ (w : World) (h : Heap), YP w h → (K w.params).In h)
    (F : ∀ (w : World) (mg : Str → Option Value) (fa : Addr) (h : Heap), (K w.params).In h → h.Ns mainGlobals mg → mg d.name = some (.ref fa) →
      ∃ fd : FuncData, (∀ (s : Shared) (u : Value), BindsTo s fd ⟨[u], []⟩ [("_law_script", u)]) ∧ ∀ base : Heap, (K w.params).In base → base.Ns mainGlobals mg → FnOk l.prog w (K w.params) mg base CX0 7 fa fd ["_law_script"] (spLaw (K w.params))) :
    PySem.W.WalkO q loose XP YP l.row.toRowW d [] (fun f vs => PySem.call f vs) :=
  L2.walk_of (n := 63) (k := 7) (x := "_law_script") (CX := fun _ => CX0) (sp := fun w => spLaw (K w.params)) hn (by decide) hdf ⟨rfl, by decide, by decide⟩ hY F (fun _ _ a ns hl _ hS => ⟨a, ns, rfl, hS, hl, fun _ => rfl⟩) fun _ _ _ _ _ z => z
end Qk
open PySem PySem.W PyProof.Rows
set_option maxRecDepth 100000 in
set_option maxHeartbeats 0 in
theorem PySem.Challenge.cw_narrowkeys_k18_whole_sharing_holds : PySem.Challenge.rw_narrowkeys_k18_whole_sharing.Holds := by
  w_on; o_law; k_head; (case hw => w_witness2)
  k_fill
  refine Qk.walk (l := PySem.Challenge.rw_narrowkeys_k18_whole_sharing) rfl rfl (fun w h Y => PySem.W.kIn_of Y) ?F
  case F =>
    intro w mg fa h KX G hmg
    refine' Qk.all_mk KX G hmg ?a1 ?l1 ?c1 ?k1 ?a2 ?l2 ?c2 ?k2 ?a3 ?l3 ?c3 ?k3 ?a4 ?l4 ?c4 ?k4 ?a5 ?l5 ?c5 ?k5 ?a6 ?l6 ?c6 ?k6 ?a7 ?l7 ?c7 ?k7 ?a8 ?l8 ?c8 ?k8 ?a9 ?l9 ?c9 ?k9 ?a10 ?l10 ?c10 ?k10 ?a11 ?l11 ?c11 ?k11 ?a12 ?l12 ?c12 ?k12 ?a13 ?l13 ?c13 ?k13 ?a14 ?l14 ?c14 ?k14 ?a15 ?l15 ?c15 ?k15 ?a16 ?l16 ?c16 ?k16 ?a17 ?l17 ?c17 ?k17 ?a18 ?l18 ?c18 ?k18 ?a19 ?l19 ?c19 ?k19 ?a20 ?l20 ?c20 ?k20 ?a21 ?l21 ?c21 ?k21 ?a22 ?l22 ?c22 ?k22 ?aC ?eb ?no ?te ?ty ?et ?aI ?tI ?lI ?cI ?kI ?zlen ?zint ?zabs ?ztuple ?zsorted ?zrange ?zrepr ?zlist ?zset ?zenumerate ?zmax ?zisinstance
    (case a1 => k_is)
    (case l1 => k_is)
    (case c1 => k_is)
    (case k1 => k_is)
    (case a2 => k_is)
    (case l2 => k_is)
    (case c2 => k_is)
    (case k2 => k_is)
    (case a3 => k_is)
    (case l3 => k_is)
    (case c3 => k_is)
    (case k3 => k_is)
    (case a4 => k_is)
    (case l4 => k_is)
    (case c4 => k_is)
    (case k4 => k_is)
    (case a5 => k_is)
    (case l5 => k_is)
    (case c5 => k_is)
    (case k5 => k_is)
    (case a6 => k_is)
    (case l6 => k_is)
    (case c6 => k_is)
    (case k6 => k_is)
    (case a7 => k_is)
    (case l7 => k_is)
    (case c7 => k_is)
    (case k7 => k_is)
    (case a8 => k_is)
    (case l8 => k_is)
    (case c8 => k_is)
    (case k8 => k_is)
    (case a9 => k_is)
    (case l9 => k_is)
    (case c9 => k_is)
    (case k9 => k_is)
    (case a10 => k_is)
    (case l10 => k_is)
    (case c10 => k_is)
    (case k10 => k_is)
    (case a11 => k_is)
    (case l11 => k_is)
    (case c11 => k_is)
    (case k11 => k_is)
    (case a12 => k_is)
    (case l12 => k_is)
    (case c12 => k_is)
    (case k12 => k_is)
    (case a13 => k_is)
    (case l13 => k_is)
    (case c13 => k_is)
    (case k13 => k_is)
    (case a14 => k_is)
    (case l14 => k_is)
    (case c14 => k_is)
    (case k14 => k_is)
    (case a15 => k_is)
    (case l15 => k_is)
    (case c15 => k_is)
    (case k15 => k_is)
    (case a16 => k_is)
    (case l16 => k_is)
    (case c16 => k_is)
    (case k16 => k_is)
    (case a17 => k_is)
    (case l17 => k_is)
    (case c17 => k_is)
    (case k17 => k_is)
    (case a18 => k_is)
    (case l18 => k_is)
    (case c18 => k_is)
    (case k18 => k_is)
    (case a19 => k_is)
    (case l19 => k_is)
    (case c19 => k_is)
    (case k19 => k_is)
    (case a20 => k_is)
    (case l20 => k_is)
    (case c20 => k_is)
    (case k20 => k_is)
    (case a21 => k_is)
    (case l21 => k_is)
    (case c21 => k_is)
    (case k21 => k_is)
    (case a22 => k_is)
    (case l22 => k_is)
    (case c22 => k_is)
    (case k22 => k_is)
    (case aC => first | k_is | rfl)
    (case eb => first | k_is | rfl)
    (case no => first | k_is | rfl)
    (case te => first | k_is | rfl)
    (case ty => first | k_is | rfl)
    (case et => first | k_is | rfl)
    (case aI => first | k_is | rfl)
    (case tI => first | k_is | rfl)
    (case lI => first | k_is | rfl)
    (case cI => first | k_is | rfl)
    (case kI => first | k_is | rfl)
    (case zlen => k_is)
    (case zint => k_is)
    (case zabs => k_is)
    (case ztuple => k_is)
    (case zsorted => k_is)
    (case zrange => k_is)
    (case zrepr => k_is)
    (case zlist => k_is)
    (case zset => k_is)
    (case zenumerate => k_is)
    (case zmax => k_is)
    (case zisinstance => k_is)
#print axioms PySem.Challenge.cw_narrowkeys_k18_whole_sharing_holds
