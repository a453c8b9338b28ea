import PyProof.Rows.All
import Wide.All
import OpenK.AllK
import Wide.FinOn
import HandS.ForMost
import HandS.More
import HandS.TupAny
import HandS.Star
import HandS.Evl
import PyProof.Rows.StrMeet
import HandS.Walk
import PyProof.StrLawsRepr
import HandS.SortRule
import HandS.Deep
import KE.GoesEnum
import KE.GoesMore
import HandS.IsInst
import HandS.StrMore
import HandS.OwnEq
import HandS.ExcInit
import HandS.ExcIs
import HandS.ExcField
import HandS.ExcValue
import KE.KExcIs
import KE.KExcInit
import KE.KExcMake
import HandS.TupSets
import HandS.SetKeys
import HandS.Strs
import KE.KeyNested
import KE.LtSeq
import HandS.OwnIter
import HandS.IterVal
import KE.KOwnIter
import OpenK.KOps
import HandS.Comp
import HandS.SetBool
import OpenK.KMeth
import HandS.Exc
import HandS.ExcOwn
import HandS.WordsExc
import HandS.TryElse
import PyProof.NeKinds
import HandS.Style
import HandS.StrSplit
import HandS.Zip
import HandS.Defaults
import HandS.CallRecv
import PySem.Challenge.RW_narrowkeys_k25_serving_told
set_option Elab.async false
set_option linter.all false
set_option maxRecDepth 100000
set_option maxHeartbeats 4000000
namespace Qk
open PySem PySem.Spec PyProof.Rows L2
/-! rules of my own: a list's item read for an augmented store, repr of flat values, sorted of a list or a tuple of texts -/
section
variable {X : Cx}
theorem get_list : PGet X (fun o i H Q => ∃ p xs j v, o = .ref p ∧ i = .int ((j : Nat) : Int) ∧ SqL X.K H p xs ∧ xs[j]? = some v ∧ Q v H) := by
  intro pins s σ H o i ov iv Q I ro ri h
  obtain ⟨p, xs, j, v, rfl, rfl, hx, ha, q⟩ := h
  cases ro
  obtain ⟨t, rfl⟩ := ri
  obtain ⟨its, r, pl, hz⟩ := I.list hx
  obtain ⟨w, ew, rw'⟩ := r.get ha
  have hj : j < xs.length := (List.getElem?_eq_some_iff.mp ha).1
  have hn := line63
  exact wpAny_getItem_list pl.isList (by omega) (by omega) (by simpa using ew) ⟨v, H, I, rw', q⟩
def rSortedST (K : PySem.W.Frag) : List V → Hp → VK → Prop := fun vs H Q => ∃ (a : Addr) (ss : List Str), vs = [V.ref a] ∧ (SqL K H a (ss.map V.str) ∨ SqT K H a (ss.map V.str)) ∧ ss.length < 64 ∧
  ∀ (ys : List Str) (p : Addr), ys.Perm ss → sortedS ys = true → H p = none → Q (.ref p) (upd H p (.lst (ys.map V.str)))
theorem cr_sortedST : CallR X (.builtin "sorted") (rSortedST X.K) := by
  intro pins s σ H vs us Q I r h
  obtain ⟨a, ss, rfl, hs, h64, q⟩ := h
  rcases hs with hs | hs
  · exact cr_sortedS pins s σ H _ us Q I r ⟨a, ss, rfl, hs, h64, q⟩
  · obtain ⟨its, rv, ⟨o, ho, hc, n, hd⟩, hz⟩ := I.tuple hs
    rw [Vals.ref1 r]
    have hS : StrsAre its ss := rv.strs
    have hl : its.length = ss.length := by
      have z := rv.length
      rw [List.length_map] at z
      exact z.symm
    refine Calls.call_function_entry PyProof.Rows.kind_sorted PyProof.Rows.plain_sorted PyProof.Rows.entry_sorted (PyProof.Rows.args_sorted1 _) ?_
    unfold Builtin.«sorted»
    refine wpAny_bind (m := checkCount "sorted" 1 1 _) (wpAny_pure ?_)
    refine wpAny_bind (wpAny_collect_seq a (.inr rfl) ho hc hd (fun h' hk => ?_) (by rw [List.size_toArray, hl, sizeLine_eq]; omega))
    have e0 : its.toArray.toList = its := by simp
    rw [e0]
    have I1 : Inv X pins σ H { s with heap := h' } := I.kept (t' := s.toks) hk
    refine wpAny_bind (wpAny_newList ?_ (by rw [hl, sizeLine_eq]; omega))
    have hoL : (h'.push (seqObj "list" its.toArray 0)).get? h'.objs.size = some (seqObj "list" its.toArray 0) := Heap.get?_push_size _ rfl
    show wpAny _ _ _ _ _ { s with heap := h'.push (seqObj "list" its.toArray 0) }
    refine wpAny_bind (wpAny_holding (wpAny_call_entry PyProof.Rows.slot_list_sort ⟨_, hoL, rfl⟩ PyProof.Rows.entry_list_sort
      (list_sort_treeK strKind_oneLt (s := { s with heap := h'.push (seqObj "list" its.toArray 0) }) hoL hS.keysOf (fun v₁ v₂ rest e => keyKind_strs (by rw [← e]; exact hS)) (by rw [hl]; exact h64) fun st' hp hs => ⟨_, rfl, ?_⟩)
      (PyProof.Rows.args_list_sort _)))
    obtain ⟨ys, g1, g2, g3⟩ := sorted_out_str hS hp hs
    obtain ⟨ep, he'⟩ := PyProof.Rows.sortedHeap_at (vs := its) (out := (arrOf st').map (·.2)) hoL
    have hlen : (ys.map V.str).length ≤ sizeLine := by
      rw [List.length_map, g2.length_eq]
      exact Nat.le_trans (Nat.le_of_lt h64) (by decide)
    have hfresh : H h'.objs.size = none := I1.hok.fresh (Nat.le_refl _)
    refine wpAny_pure ⟨_, rfl, .ref h'.objs.size, upd H h'.objs.size (.lst (ys.map V.str)), I1.laid (t' := s.toks) (fun b u hu => ?_) (Nat.le_refl _)
      (show ObjOk X.prog X.w _ _ h'.objs.size (.lst (ys.map V.str)) from ⟨hlen, ((arrOf st').map (·.2)).toList, ep, vals_of_strs g1, by rw [Array.toArray_toList]; exact he'⟩), rfl, q ys _ g2 g3 hfresh⟩
    have hb : b ≠ h'.objs.size := Nat.ne_of_lt (Heap.lt_size hu)
    have hu2 : (h'.push (seqObj "list" its.toArray 0)).get? b = some u := Heap.get?_push_of_some _ hu
    rw [PyProof.Rows.sortedHeap_old hb (Heap.lt_size hu2)]
    exact hu2
end
end Qk
set_option maxRecDepth 100000
set_option maxHeartbeats 4000000
namespace Qk
open PySem PySem.Spec PyProof.Rows L2
/-! the law's bag of draws: what is known of it, and what a draw may touch -/
def Bag (H : Hp) (b l : Addr) : Prop := ∃ (h m : Int) (p : Nat) (ns : List Int), H b = some (.lst [.int h, .int m, .int (p : Int), .ref l]) ∧ H l = some (.lst (ns.map V.int)) ∧ l ≠ b ∧
  0 ≤ h ∧ 0 ≤ m ∧ m < 2147483647 ∧ ∀ n ∈ ns, 0 ≤ n
/-- all but b is kept -/
def Kp (b : Addr) (H H' : Hp) : Prop := ∀ c o, H c = some o → c ≠ b → H' c = some o
theorem Kp.refl (b : Addr) (H : Hp) : Kp b H H := fun _ _ e _ => e
theorem Kp.trans {b : Addr} {H H1 H2 : Hp} (x : Kp b H H1) (y : Kp b H1 H2) : Kp b H H2 := fun c o e n => y c o (x c o e n) n
theorem Kp.of {b : Addr} {H H' : Hp} (s : Same H H') : Kp b H H' := fun c o e _ => s c o e
theorem Kp.at_ (b : Addr) (H : Hp) (o : HO) : Kp b H (upd H b o) := fun c u e n => by rw [upd_ne n]; exact e
theorem Kp.new {b p : Addr} {H : Hp} {o : HO} (hp : H p = none) : Kp b H (L2.upd H p o) := fun c u e _ => by rw [upd_ne (ne_of_none e hp)]; exact e
theorem Bag.at_ {H : Hp} {b l : Addr} (B : Bag H b l) : ∃ o, H b = some o := by
  obtain ⟨h, m, p, ns, hb, _⟩ := B
  exact ⟨_, hb⟩
theorem Bag.same {H H' : Hp} {b l : Addr} (s : Same H H') (B : Bag H b l) : Bag H' b l := by
  obtain ⟨h, m, p, ns, hb, hl, r⟩ := B
  exact ⟨h, m, p, ns, s _ _ hb, s _ _ hl, r⟩
theorem same_new {H : Hp} {p : Addr} {o : HO} (h : H p = none) : Same H (upd H p o) := fun b x e => by
  rw [upd_ne (ne_of_none e h)]
  exact e
theorem Bag.new {H : Hp} {b l p : Addr} {o : HO} (B : Bag H b l) (h : H p = none) : Bag (upd H p o) b l := B.same (same_new h)
theorem Bag.ne {H : Hp} {b l p : Addr} (B : Bag H b l) (h : H p = none) : p ≠ b := by
  obtain ⟨o, e⟩ := B.at_
  exact (ne_of_none e h).symm
/-- the bag stands nowhere where something of another kind stands -/
theorem Bag.ne_tup {H : Hp} {b l p : Addr} {xs : List V} (B : Bag H b l) (h : H p = some (.tup xs)) : p ≠ b := by
  obtain ⟨h', m, q, ns, hb, _⟩ := B
  exact ne_of h hb (by intro z; cases z)
theorem Bag.ne_strs {H : Hp} {b l p : Addr} {xs : List Str} (B : Bag H b l) (h : H p = some (.lst (xs.map V.str))) : p ≠ b := by
  obtain ⟨h', m, q, ns, hb, _⟩ := B
  refine ne_of h hb fun z => ?_
  injection z with z
  cases xs with
  | nil => cases z
  | cons x xs =>
    rw [List.map_cons] at z
    injection z with z _
    cases z
/-- what stands beside the bag and its list may change -/
theorem Bag.off {H H' : Hp} {b l p : Addr} (B : Bag H b l) (h : ∀ c o, H c = some o → c ≠ p → H' c = some o) (nb : b ≠ p) (nl : l ≠ p) : Bag H' b l := by
  obtain ⟨h', m, q, ns, hb, hl, r⟩ := B
  exact ⟨h', m, q, ns, h _ _ hb nb, h _ _ hl nl, r⟩
theorem Bag.list {H : Hp} {b l : Addr} (B : Bag H b l) : ∃ o, H l = some o := by
  obtain ⟨h, m, p, ns, hb, hl, _⟩ := B
  exact ⟨_, hl⟩
theorem Bag.nel {H : Hp} {b l p : Addr} (B : Bag H b l) (h : H p = none) : l ≠ p := by
  obtain ⟨o, e⟩ := B.list
  exact ne_of_none e h
theorem Bag.upd {H : Hp} {b l p : Addr} {o : HO} (B : Bag H b l) (nb : b ≠ p) (nl : l ≠ p) : Bag (L2.upd H p o) b l :=
  B.off (fun c u e n => by rw [upd_ne n]; exact e) nb nl
theorem rIx {K : PySem.W.Frag} {H : Hp} {b : Addr} {xs : List V} {v : V} {Q : VK} (j : Nat) (h : H b = some (.lst xs)) (e : xs[j]? = some v) (q : Q v H) : rIxL K (.ref b) (.int (j : Int)) H Q :=
  ⟨b, xs, (j : Int), v, rfl, rfl, SqL.of h, atI_nat e, q⟩
/-! promises of the law's own helpers -/
/-- a draw: a number below many, the bag moves on -/
def spTake : Sp := fun vs H Q _ => ∃ (b l : Addr) (n : Int), vs = [.ref b, .int n] ∧ Bag H b l ∧ 0 < n ∧ n < 1000000 ∧ ∀ (k : Nat) (H' : Hp), (k : Int) < n → Bag H' b l → Kp b H H' → Q (.int (k : Int)) H'
/-- one of a list -/
def spOne : Sp := fun vs H Q _ => ∃ (b l a : Addr) (xs : List V), vs = [.ref b, .ref a] ∧ Bag H b l ∧ a ≠ b ∧ H a = some (.lst xs) ∧ xs ≠ [] ∧ xs.length < 1000 ∧ ∀ (x : V) (H' : Hp), x ∈ xs → Bag H' b l → Kp b H H' → Q x H'
/-- a new list of the same things in some order -/
def spMixed : Sp := fun vs H Q _ => ∃ (b l a : Addr) (xs : List V), vs = [.ref b, .ref a] ∧ Bag H b l ∧ a ≠ b ∧ H a = some (.lst xs) ∧ xs.length < 1000 ∧
  ∀ (ys : List V) (p : Addr) (H' : Hp), ys.Perm xs → H p = none → p ≠ b → H' p = some (.lst ys) → Bag H' b l → Kp b H H' → Q (.ref p) H'
/-- the bag of a script -/
def spBag (K : PySem.W.Frag) : Sp := fun vs H Q _ => ∃ (a : Addr) (ns : List Int), vs = [.ref a] ∧ SqL K H a (ns.map V.int) ∧ ns.length ≤ 63 ∧ ∀ (b l : Addr) (H' : Hp), H b = none → Bag H' b l → Same H H' → Q (.ref b) H'
/-- a def that is called by its name -/
structure Cal (P : Program) (w : World) (K : PySem.W.Frag) (mg : Str → Option Value) (base : Heap) (k : Nat) (x : Str) (ps : List Str) (sp : Sp) where
  f : Addr
  fd : FuncData
  G : FnOk P w K mg base CX0 k f fd ps sp
  m : mg x = some (.ref f)
  kp : PySem.W.keepIn K (.ref f) = true
  b : Binds K fd ps []
theorem cut_to (k : Nat) (xs : List V) : cutV xs none (some (k : Int)) = xs.take k := by
  unfold cutV
  rw [HT.sIx_none, HT.sIx_nat, List.drop_zero, Nat.sub_zero]
  by_cases h : k ≤ xs.length
  · rw [Nat.min_eq_left h]
  · rw [Nat.min_eq_right (by omega), List.take_of_length_le (Nat.le_refl _), List.take_of_length_le (by omega)]
theorem take_mod {k n : Int} (hn : 0 < n) : ∃ j : Nat, k % n = (j : Int) ∧ (j : Int) < n := by
  have h1 := Int.emod_nonneg k (show n ≠ 0 by omega)
  have h2 := Int.emod_lt_of_pos k hn
  exact ⟨(k % n).toNat, by omega, by omega⟩
/-- the names that the laws draw from -/
def menu0 : List Str := ["a", "b", "ab", "ba", "job", "view", "pin", "quay", "stock", "golfer", "exhumed", "zzzzzzzz"]
/-- .. and others of other laws -/
def menu : List Str := menu0 ++ (["aa", "z", "power", "status", "ask", "quicklyx", "fghmndct", "q", "c", "d", "e", "f", "g", "h", "i", "j", "k", "l", "m"] : List Str)
theorem perm_strs {ys : List V} {xs : List Str} (h : ys.Perm (xs.map V.str)) : ∃ zs : List Str, ys = zs.map V.str ∧ zs.Perm xs := by
  have go : ∀ (ys : List V), (∀ y ∈ ys, ∃ z, y = V.str z) → ∃ zs : List Str, ys = zs.map V.str := by
    intro ys
    induction ys with
    | nil => intro _; exact ⟨[], rfl⟩
    | cons y ys ih =>
      intro h
      obtain ⟨z, rfl⟩ := h y List.mem_cons_self
      obtain ⟨zs, rfl⟩ := ih fun y hy => h y (List.mem_cons_of_mem _ hy)
      exact ⟨z :: zs, rfl⟩
  obtain ⟨zs, rfl⟩ := go ys fun y hy => by
    obtain ⟨z, _, e⟩ := List.mem_map.mp (h.mem_iff.mp hy)
    exact ⟨z, e.symm⟩
  refine ⟨zs, rfl, ?_⟩
  have unstr : ∀ l : List Str, (l.map V.str).map (fun v => match v with | .str z => z | _ => "") = l := fun l => by
    rw [List.map_map]
    exact (List.map_congr_left fun _ _ => rfl).trans (List.map_id _)
  have := h.map (fun v => match v with | .str z => z | _ => "")
  rwa [unstr, unstr] at this
/-- some of the menu's names, each once, n at most -/
structure Names (n : Nat) (xs : List Str) : Prop where
  nd : xs.Nodup
  sub : ∀ c ∈ xs, c ∈ menu
  len : xs.length = min n 12
/-- a row of names -/
structure Row (xs : List Str) : Prop where
  nd : xs.Nodup
  sub : ∀ c ∈ xs, c ∈ menu
  pos : 0 < xs.length
  le : xs.length ≤ 12
theorem Names.row {n : Nat} {xs : List Str} (h : Names n xs) (hn : 0 < n) : Row xs := ⟨h.nd, h.sub, by rw [h.len]; omega, by rw [h.len]; omega⟩
/-- a question as it stands -/
def QAt (H : Hp) (q : Addr) (cols : List Str) (e : Str) : Prop := ∃ c, H q = some (.tup [.ref c, .str e]) ∧ H c = some (.tup (cols.map V.str))
theorem QAt.same {H H' : Hp} {q : Addr} {cols : List Str} {e : Str} (s : Same H H') (h : QAt H q cols e) : QAt H' q cols e := by
  obtain ⟨c, h1, h2⟩ := h
  exact ⟨c, s _ _ h1, s _ _ h2⟩
theorem QAt.kp {H H' : Hp} {q b l : Addr} {cols : List Str} {e : Str} (B : Bag H b l) (s : Kp b H H') (h : QAt H q cols e) : QAt H' q cols e := by
  obtain ⟨c, h1, h2⟩ := h
  exact ⟨c, s _ _ h1 (B.ne_tup h1), s _ _ h2 (B.ne_tup h2)⟩
structure Qok (xs cols : List Str) (e : Str) : Prop where
  nd : cols.Nodup
  srt : sortedS cols = true
  sub : ∀ c ∈ cols, c ∈ xs
  esub : e = "" ∨ e ∈ xs
  ne : e ∉ cols
  some : e = "" → cols ≠ []
  le : cols.length ≤ 12
def spIndex : Sp := fun vs H Q _ => ∃ (b l a : Addr) (xs : List Str), vs = [.ref b, .ref a] ∧ Bag H b l ∧ a ≠ b ∧ H a = some (.lst (xs.map V.str)) ∧ Row xs ∧
  ∀ (t : Addr) (ys : List Str) (H' : Hp), H' t = some (.tup (ys.map V.str)) → Row ys → (∀ c ∈ ys, c ∈ xs) → Bag H' b l → Kp b H H' → Q (.ref t) H'
theorem menu_ne : ∀ c ∈ menu, c ≠ "" := by decide +kernel
/-- out of a beginning of some order of a row -/
theorem qok_plain {xs ys zs : List Str} {k : Nat} (R : Row xs) (hp : ys.Perm xs) (hz : zs.Perm (ys.take (k + 1))) (hs : sortedS zs = true) : Qok xs zs "" := by
  have sl := List.take_sublist (k + 1) ys
  have hsub : ∀ c ∈ zs, c ∈ xs := fun c hc => hp.mem_iff.mp (sl.mem (hz.mem_iff.mp hc))
  have hl := R.le
  have hpos := R.pos
  have hyl := hp.length_eq
  have hzl := hz.length_eq
  rw [List.length_take] at hzl
  refine ⟨hz.nodup_iff.mpr ((hp.nodup_iff.mpr R.nd).sublist sl), hs, hsub, .inl rfl, fun h => menu_ne _ (R.sub _ (hsub _ h)) rfl, fun _ h => ?_, by omega⟩
  rw [h] at hzl
  simp at hzl
  omega
theorem qok_ranged {xs ys zs : List Str} {k : Nat} {e : Str} (R : Row xs) (hp : ys.Perm xs) (he : ys[k]? = some e) (hz : zs.Perm (ys.take k)) (hs : sortedS zs = true) : Qok xs zs e := by
  have sl := List.take_sublist k ys
  have hsub : ∀ c ∈ zs, c ∈ xs := fun c hc => hp.mem_iff.mp (sl.mem (hz.mem_iff.mp hc))
  have hmem : e ∈ xs := hp.mem_iff.mp (List.mem_of_getElem? he)
  have hl := R.le
  have hyl := hp.length_eq
  have hzl := hz.length_eq
  rw [List.length_take] at hzl
  have ndy := hp.nodup_iff.mpr R.nd
  refine ⟨hz.nodup_iff.mpr (ndy.sublist sl), hs, hsub, .inr hmem, fun h => ?_, fun h => absurd h (menu_ne _ (R.sub _ hmem)), by omega⟩
  have h1 := hz.mem_iff.mp h
  have hk : k < ys.length := (List.getElem?_eq_some_iff.mp he).1
  have e2 : ys = ys.take k ++ ys.drop k := (List.take_append_drop k ys).symm
  have e3 : e ∈ ys.drop k := by
    have : (ys.drop k)[0]? = some e := by rw [List.getElem?_drop]; exact he
    exact List.mem_of_getElem? this
  rw [e2] at ndy
  exact (List.nodup_append.mp ndy).2.2 _ h1 _ e3 rfl
end Qk
set_option maxRecDepth 100000
set_option maxHeartbeats 4000000
namespace Qk
open PySem PySem.Spec PyProof.Rows L2
/-! sorted lists of texts -/
def leS (a b : Str) : Prop := ltCps b.cps.toList a.cps.toList = false
theorem str_ext {a b : Str} (h : a.cps.toList = b.cps.toList) : a = b := by
  obtain ⟨x⟩ := a
  obtain ⟨y⟩ := b
  simp only at h
  congr 1
  exact Array.toList_inj.mp h
theorem leS_antisymm {a b : Str} (h1 : leS a b) (h2 : leS b a) : a = b := by
  unfold leS at h1 h2
  rw [ltCps_eq] at h1 h2
  have n1 := of_decide_eq_false h1
  have n2 := of_decide_eq_false h2
  exact str_ext (List.le_antisymm (List.not_lt.mp n1) (List.not_lt.mp n2))
theorem leS_trans {a b c : Str} (h1 : leS a b) (h2 : leS b c) : leS a c := by
  unfold leS at *
  rw [ltCps_eq] at *
  have n1 := List.not_lt.mp (of_decide_eq_false h1)
  have n2 := List.not_lt.mp (of_decide_eq_false h2)
  exact decide_eq_false (List.not_lt.mpr (List.le_trans n1 n2))
theorem risingS_pw : ∀ (xs : List Str) (p : Str), risingS p xs = true → (p :: xs).Pairwise leS
  | [], p, _ => List.pairwise_singleton _ _
  | x :: r, p, h => by
    rw [risingS, Bool.and_eq_true] at h
    have h1 : leS p x := by
      have := h.1
      rw [Bool.not_eq_true'] at this
      exact this
    have ih := risingS_pw r x h.2
    refine List.pairwise_cons.mpr ⟨fun y hy => ?_, ih⟩
    rcases List.mem_cons.mp hy with rfl | hy
    · exact h1
    · exact leS_trans h1 ((List.pairwise_cons.mp ih).1 y hy)
theorem sortedS_pw {xs : List Str} (h : sortedS xs = true) : xs.Pairwise leS := by
  cases xs with
  | nil => exact List.Pairwise.nil
  | cons x r => exact risingS_pw r x h
theorem perm_sorted : ∀ {xs ys : List Str}, xs.Perm ys → xs.Pairwise leS → ys.Pairwise leS → xs = ys
  | [], ys, h, _, _ => (List.Perm.nil_eq h)
  | x :: xs, [], h, _, _ => absurd h.length_eq (by simp)
  | x :: xs, y :: ys, h, h1, h2 => by
    have e : x = y := by
      rcases List.mem_cons.mp (h.mem_iff.mp List.mem_cons_self) with e | m1
      · exact e
      · rcases List.mem_cons.mp (h.mem_iff.mpr List.mem_cons_self) with e | m2
        · exact e.symm
        · exact leS_antisymm ((List.pairwise_cons.mp h1).1 y m2) ((List.pairwise_cons.mp h2).1 x m1)
    subst e
    rw [perm_sorted (List.Perm.cons_inv h) (List.pairwise_cons.mp h1).2 (List.pairwise_cons.mp h2).2]
theorem sorted_unique {xs ys zs : List Str} (h1 : xs.Perm zs) (h2 : ys.Perm zs) (s1 : sortedS xs = true) (s2 : sortedS ys = true) : xs = ys :=
  perm_sorted (h1.trans h2.symm) (sortedS_pw s1) (sortedS_pw s2)
/-! == of lists and tuples of texts -/
theorem menu_ok : ∀ c ∈ menu, PyData.strOk c = true := by decide +kernel
theorem lay_strs : ∀ {xs : List Str}, (∀ c ∈ xs, PyData.strOk c = true) → PyData.canLayAll0 (xs.map PyData.str) = true
  | [], _ => rfl
  | x :: xs, h => by
    show (PyData.canLay0 (.str x) && PyData.canLayAll0 (xs.map PyData.str)) = true
    rw [lay_strs fun c hc => h c (List.mem_cons_of_mem _ hc), Bool.and_true]
    exact h x List.mem_cons_self
theorem depth_strs : ∀ (xs : List Str), PyData.depthAll (xs.map PyData.str) = 0
  | [] => rfl
  | x :: xs => by
    show max (PyData.depth (.str x)) (PyData.depthAll (xs.map PyData.str)) = 0
    rw [depth_strs xs]
    rfl
theorem eqv_strs : ∀ (xs ys : List Str), PyData.eqvAll (xs.map PyData.str) (ys.map PyData.str) = decide (xs = ys)
  | [], [] => by simp [PyData.eqvAll]
  | [], y :: ys => by simp [PyData.eqvAll]
  | x :: xs, [] => by simp [PyData.eqvAll]
  | x :: xs, y :: ys => by
    show PyData.eqvAll (PyData.str x :: xs.map PyData.str) (PyData.str y :: ys.map PyData.str) = _
    rw [PyData.eqvAll, eqv_strs xs ys, PyData.eqv]
    by_cases h1 : x = y
    · subst h1
      by_cases h2 : xs = ys
      · subst h2
        simp
      · simp [h2]
    · simp [h1]
theorem shaped_list {xs : List Str} (h : ∀ c ∈ xs, PyData.strOk c = true) : SeqAt.shaped (.list (xs.map PyData.str)) = true := by
  unfold SeqAt.shaped
  rw [Bool.and_eq_true]
  exact ⟨lay_strs h, decide_eq_true (by rw [PyData.depth, depth_strs]; decide)⟩
theorem shaped_tuple {xs : List Str} (h : ∀ c ∈ xs, PyData.strOk c = true) : SeqAt.shaped (.tuple (xs.map PyData.str)) = true := by
  unfold SeqAt.shaped
  rw [Bool.and_eq_true]
  exact ⟨lay_strs h, decide_eq_true (by rw [PyData.depth, depth_strs]; decide)⟩
theorem dp_strs {K : PySem.W.Frag} {H : Hp} : ∀ (xs : List Str), DpAll K H (xs.map V.str) (xs.map PyData.str)
  | [] => .nil
  | x :: xs => .cons (.str x) (dp_strs xs)
theorem flat_strs (xs : List Str) : (xs.map V.str).all flatV = true := by
  rw [List.all_map]
  exact List.all_eq_true.mpr fun _ _ => rfl
theorem inV_strs (c : Str) (xs : List Str) : inV (.str c) (xs.map V.str) = decide (c ∈ xs) := by
  unfold inV
  rw [List.any_map]
  by_cases h : c ∈ xs
  · rw [decide_eq_true h]
    exact List.any_eq_true.mpr ⟨c, h, by show (c == c) = true; exact beq_self_eq_true c⟩
  · rw [decide_eq_false h]
    refine List.any_eq_false.mpr fun y hy e => h ?_
    have e' : (y == c) = true := e
    rw [← eq_of_beq e']
    exact hy
theorem perm_of_sub : ∀ {xs ys : List Str}, xs.Nodup → (∀ c ∈ xs, c ∈ ys) → ys.length ≤ xs.length → xs.Perm ys
  | [], ys, _, _, h => by
    have : ys = [] := List.eq_nil_of_length_eq_zero (by simpa using h)
    rw [this]
  | x :: xs, ys, nd, hs, h => by
    have hx := hs x List.mem_cons_self
    have hp := List.perm_cons_erase hx
    obtain ⟨nx, nd'⟩ := List.nodup_cons.mp nd
    have hl := hp.length_eq
    rw [List.length_cons] at hl h
    refine ((perm_of_sub (ys := ys.erase x) nd' (fun c hc => ?_) (by omega)).cons x).trans hp.symm
    have ne : c ≠ x := fun e => nx (e ▸ hc)
    exact (List.mem_erase_of_ne ne).mpr (hs c (List.mem_cons_of_mem _ hc))
/-! the least place of a fault -/
def goodAt (ix cols : List Str) (p : Nat) : Prop := ∃ c, ix[p]? = some c ∧ c ∈ cols
instance (ix cols : List Str) (p : Nat) : Decidable (goodAt ix cols p) :=
  match h : ix[p]? with
  | some c => if hc : c ∈ cols then isTrue ⟨c, h, hc⟩ else isFalse fun ⟨d, hd, hm⟩ => hc (by rw [h] at hd; cases hd; exact hm)
  | none => isFalse fun ⟨d, hd, _⟩ => by rw [h] at hd; cases hd
def fault (ix cols : List Str) (last : Str) : Option Nat :=
  match (List.range cols.length).find? (fun p => !decide (goodAt ix cols p)) with
  | some p => some p
  | none => if last ≠ "" ∧ ix[cols.length]? ≠ some last then some cols.length else none
theorem find_none {n : Nat} {g : Nat → Bool} (h : ∀ p, p < n → g p = false) : (List.range n).find? g = none :=
  List.find?_eq_none.mpr fun p hp e => by rw [h p (List.mem_range.mp hp)] at e; cases e
theorem find_at {n i : Nat} {g : Nat → Bool} (hi : i < n) (h : ∀ p, p < i → g p = false) (hg : g i = true) : (List.range n).find? g = some i := by
  refine List.find?_range_eq_some.mpr ⟨hg, List.mem_range.mpr hi, fun j hj => ?_⟩
  rw [h j hj]
  rfl
theorem fault_at {ix cols : List Str} {last : Str} {i : Nat} (hi : i < cols.length) (h : ∀ p, p < i → goodAt ix cols p) (hg : ¬ goodAt ix cols i) : fault ix cols last = some i := by
  unfold fault
  rw [find_at hi (fun p hp => by rw [decide_eq_true (h p hp)]; rfl) (by rw [decide_eq_false hg]; rfl)]
theorem fault_end {ix cols : List Str} {last : Str} (h : ∀ p, p < cols.length → goodAt ix cols p) : fault ix cols last = if last ≠ "" ∧ ix[cols.length]? ≠ some last then some cols.length else none := by
  unfold fault
  rw [find_none fun p hp => by rw [decide_eq_true (h p hp)]; rfl]
theorem fault_le {ix cols : List Str} {last : Str} {p : Nat} (h : fault ix cols last = some p) : p ≤ cols.length := by
  unfold fault at h
  split at h
  · next q e =>
    cases h
    have := List.mem_range.mp (List.mem_of_find?_eq_some e)
    omega
  · split at h
    · cases h
      omega
    · cases h
def optV : Option Nat → V
  | none => .non
  | some n => .int (n : Int)
/-- no fault just if the beginning is made of the columns, with the last one behind -/
theorem fault_none {ix cols ws : List Str} {last : Str} (hix : ix.Nodup) (hc : cols.Nodup) (hs : sortedS cols = true) (hw : ws.Perm (ix.take cols.length)) (hws : sortedS ws = true) :
    fault ix cols last = none ↔ ws = cols ∧ (last = "" ∨ ix[cols.length]? = some last) := by
  constructor
  · intro h
    unfold fault at h
    split at h
    · cases h
    · next e =>
      have good : ∀ p, p < cols.length → goodAt ix cols p := fun p hp => by
        have := List.find?_eq_none.mp e p (List.mem_range.mpr hp)
        simpa using this
      constructor
      · have hle : cols.length ≤ ix.length := by
          rcases Nat.lt_or_ge ix.length cols.length with hlt | hge
          · obtain ⟨c, h1, _⟩ := good ix.length hlt
            rw [List.getElem?_eq_none (Nat.le_refl _)] at h1
            cases h1
          · exact hge
        have hlen : (ix.take cols.length).length = cols.length := by rw [List.length_take]; omega
        have hsub : ix.take cols.length ⊆ cols := fun c hc' => by
          obtain ⟨p, hp, e⟩ := List.mem_iff_getElem.mp hc'
          rw [hlen] at hp
          obtain ⟨d, h1, h2⟩ := good p hp
          rw [List.getElem_take] at e
          rw [List.getElem?_eq_getElem (by omega)] at h1
          cases h1
          rw [← e]
          exact h2
        have hperm : (ix.take cols.length).Perm cols := perm_of_sub (hix.sublist (List.take_sublist _ _)) (fun c hc => hsub hc) (by omega)
        exact sorted_unique hw hperm.symm hws hs
      · by_cases h1 : last = ""
        · exact .inl h1
        · by_cases h2 : ix[cols.length]? = some last
          · exact .inr h2
          · rw [if_pos ⟨h1, h2⟩] at h
            cases h
  · rintro ⟨rfl, h2⟩
    rw [fault_end fun p hp => ?_]
    · rw [if_neg]
      rintro ⟨a1, a2⟩
      rcases h2 with h2 | h2
      · exact a1 h2
      · exact a2 h2
    · have hl := hw.length_eq
      rw [List.length_take] at hl
      have hp2 : p < ix.length := by omega
      refine ⟨ix[p], List.getElem?_eq_getElem hp2, hw.mem_iff.mpr ?_⟩
      exact List.mem_iff_getElem.mpr ⟨p, by rw [List.length_take]; omega, by rw [List.getElem_take]⟩
/-! promises about serving -/
def spFault : Sp := fun vs H Q _ => ∃ (t q : Addr) (ix cols : List Str) (e : Str), vs = [.ref t, .ref q] ∧ H t = some (.tup (ix.map V.str)) ∧ QAt H q cols e ∧ cols.length ≤ 12 ∧ ∀ H', Same H H' → Q (optV (fault ix cols e)) H'
def spServes : Sp := fun vs H Q _ => ∃ (t q : Addr) (ix cols : List Str) (e : Str), vs = [.ref t, .ref q] ∧ H t = some (.tup (ix.map V.str)) ∧ QAt H q cols e ∧ cols.length ≤ 12 ∧ ix.length ≤ 12 ∧ ix.Nodup ∧ (∀ c ∈ ix, c ∈ menu) ∧
  cols.Nodup ∧ sortedS cols = true ∧ (∀ c ∈ cols, c ∈ menu) ∧ (e = "" ∨ e ∈ menu) ∧ ∀ H', Same H H' → Q (.bl (decide (fault ix cols e = none))) H'
theorem slA {K : PySem.W.Frag} {H : Hp} {a : Addr} {xs : List Str} {lo hi : Option Int} {ys : List Str} {Q : VK} (h : H a = some (.tup (xs.map V.str))) (e : cutV (xs.map V.str) lo hi = ys.map V.str)
    (k : ∀ (r : Addr) (H' : Hp), Same H H' → H' r = some (.tup (ys.map V.str)) → Q (.ref r) H') : rSlA K (.ref a) lo hi H Q := by
  refine ⟨a, _, rfl, SqT.of h, fun hw => k a H (Same.refl _) ?_, fun _ p hp => ?_⟩
  · rw [h, ← e]
    unfold cutV
    rw [hw.1, hw.2, List.drop_zero, Nat.sub_zero, List.take_length]
  · rw [e]
    exact k p _ (same_new hp) upd_same
theorem cut_one (n : Nat) (xs : List Str) : cutV (xs.map V.str) (some (n : Int)) (some ((n : Int) + 1)) = ((xs.drop n).take 1).map V.str := by
  have e1 : (n : Int) + 1 = ((n + 1 : Nat) : Int) := by omega
  unfold cutV
  rw [e1, HT.sIx_nat, HT.sIx_nat, List.length_map]
  by_cases h : n < xs.length
  · rw [Nat.min_eq_left (by omega), Nat.min_eq_left (by omega), ← List.map_drop, ← List.map_take]
    congr 2
    omega
  · have e2 : min n xs.length = xs.length := Nat.min_eq_right (by omega)
    rw [e2, List.drop_of_length_le (show (xs.map V.str).length ≤ xs.length by rw [List.length_map]; exact Nat.le_refl _), List.drop_of_length_le (show xs.length ≤ n by omega), List.take_nil, List.take_nil, List.map_nil]
theorem take_one {xs : List Str} {n : Nat} {e : Str} : (xs.drop n).take 1 = [e] ↔ xs[n]? = some e := by
  have h0 : (xs.drop n)[0]? = xs[n]? := by rw [List.getElem?_drop]; rfl
  cases hd : xs.drop n with
  | nil =>
    rw [hd] at h0
    have h1 : none = xs[n]? := h0
    rw [← h1]
    simp
  | cons y ys =>
    rw [hd] at h0
    have h1 : some y = xs[n]? := h0
    rw [← h1]
    simp
/-! what a law knows of its index and its question -/
structure QM (cols : List Str) (e : Str) : Prop where
  nd : cols.Nodup
  srt : sortedS cols = true
  sub : ∀ c ∈ cols, c ∈ menu
  esub : e = "" ∨ e ∈ menu
  le : cols.length ≤ 12
  some : e = "" → cols ≠ []
theorem Qok.qm {xs cols : List Str} {e : Str} (h : Qok xs cols e) (R : ∀ c ∈ xs, c ∈ menu) : QM cols e :=
  ⟨h.nd, h.srt, fun c hc => R _ (h.sub _ hc), h.esub.imp id (fun m => R _ m), h.le, h.some⟩
theorem Row.take {xs : List Str} (R : Row xs) (k : Nat) : Row (xs.take (k + 1)) :=
  ⟨R.nd.sublist (List.take_sublist _ _), fun c hc => R.sub _ ((List.take_sublist _ _).mem hc), by have := R.pos; rw [List.length_take]; omega, by have := R.le; rw [List.length_take]; omega⟩
end Qk
set_option maxRecDepth 100000
set_option maxHeartbeats 4000000
namespace Qk
open PySem PySem.Spec PyProof.Rows L2
/-! ### defs that may be told only where no repr is running: what stands around them has no guard -/
structure FnG (P : Program) (w : World) (K : PySem.W.Frag) (mg : Str → Option Value) (base : Heap) (k : Nat) (f : Addr) (fd : FuncData) (ps : List Str) (sp : Sp) : Prop where
  len : ∀ vs H Q E, sp vs H Q E → vs.length = ps.length
  run : ∀ (A : Around) (outer : List Env) (s : Shared) (H : Hp) (args : Args) (us : List Value) (vs : List V) (Q : VK) (E : XK), Room k A → A.guards = some [] → Env0 P w K mg base A outer s H →
    BindsTo s fd args (ps.zip us) → Vals vs us → sp vs H Q E → codeAny (model P w) A (.call (.ref f) args) (CR CX0 outer P w H s Q E) s
theorem FnG.of {P : Program} {w : World} {K : PySem.W.Frag} {mg : Str → Option Value} {base : Heap} {k : Nat} {f : Addr} {fd : FuncData} {ps : List Str} {sp : Sp} (F : FnOk P w K mg base CX0 k f fd ps sp) : FnG P w K mg base k f fd ps sp :=
  ⟨F.len, fun A o s H args us vs Q E hr _ e b v h => F.run A o s H args us vs Q E hr e b v h⟩
section
variable {P : Program} {w : World} {K : PySem.W.Frag} {mg : Str → Option Value} {base : Heap}
theorem okG {x qual : Str} {st : Stmt} {f : Addr} {fd : FuncData} {N ps : List Str} {k : Nat} {sp : Sp} (F : Fun K x qual st f fd) (S : FnScope N ps (defScope st)) (len : ∀ vs H Q E, sp vs H Q E → vs.length = ps.length)
    (body : ∀ (cdv : Value) (A : Around) (outer : List Env) (s : Shared) (H : Hp) (vs : List V) (Q : VK) (E : XK), Room k (A.deeper (envOfC qual (defScope st) s.heap.objs.size f cdv)) → A.guards = some [] → sp vs H Q E →
      ∃ t, PSs (cxOf CX0 P w K mg base N qual (defScope st) f cdv A outer s H E).nox (defBody st) t ∧ t { nx := fun _ H' => Q .non H', rt := Q } (start N vs) H) : FnG P w K mg base (k + 1) f fd ps sp := by
  obtain ⟨oc, od, kV, doc, pm, an, cdv, ct, osl, rfl, lk, hcd⟩ := F.ex
  constructor
  · exact len
  intro A outer s H args us vs Q E hr hg e0 hb rv hsp
  have hlen := len _ _ _ _ hsp
  have kept : ∀ b o, base.get? b = some o → s.heap.get? b = some o := fun b o e => (e0.bs b o e).1
  have KX : K.In s.heap := e0.mod.kin.keeps kept
  have par : ∀ y ∈ ps.zip us, (defScope st).names.lookup y.1 = some .local ∨ ((defScope st).names.lookup y.1 = some .cell ∧ ((cellsFrom (s.heap.objs.size + 1) (defScope st).names []).lookup y.1).isSome = true) := by
    rintro ⟨n, v⟩ hy
    exact (S.par n (List.of_mem_zip hy).1).imp id fun q => ⟨q, PySem.W.cellsFrom_some _ _ _ (.inl q)⟩
  refine codeAny_call_function hr.depth (KX _ _ lk) rfl S.co S.gen rfl (PySem.W.codeRec_of KX hcd) (hb _ _ _ _ ?_)
  refine wpAny_newFunctionEnv_cells S.kind par fun env he s1 xe => ?_
  subst he
  refine ⟨(e0.mod.nolimit.keeps kept).keeps xe.toInCall.keep, codeAny_func ?_⟩
  obtain ⟨t, ht, hq⟩ := body cdv A outer s H vs Q E (hr.deeper _) hg hsp
  refine wpAny_mono (ht.nox.run [] s1 (start N vs) H _ (inv_start S hr.hd e0 hlen rv xe) hq) (fun fl s' hs => ?_) fun _ _ z => z
  cases fl with
  | ret u =>
    obtain ⟨v, σ', H', J, r, q⟩ := hs
    exact ⟨v, H', J.os, J.bare, J.base, J.hok, r, q⟩
  | next =>
    obtain ⟨σ', H', J, q⟩ := hs
    exact ⟨V.non, H', J.os, J.bare, J.base, J.hok, rfl, q⟩
  | brk => exact hs.elim fun _ z => z.elim fun _ z => z.2.elim
  | cont => exact hs.elim fun _ z => z.elim fun _ z => z.2.elim
end
section
variable {X : Cx} {k : Nat} {f : Addr} {fd : FuncData} {ps : List Str} {sp : Sp} {x : Str} {p pos : Pos} {e : Expr} {es : List Expr} {t : TA}
theorem run_g {pins : List (Addr × Obj)} {σ : L2.St} {H : Hp} {s : Shared} {Q : VK} {us : List Value} {vs : List V} (F : FnG X.prog X.w X.K X.mg X.base k f fd ps sp) (hr : Room k X.A) (hg : X.A.guards = some []) (hb : Binds X.K fd ps [])
    (I : Inv X pins σ H s) (r : Vals vs us) (h : sp vs H Q E0) : wpAny (model X.prog X.w) X.A (call (.ref f) us) (EP X pins σ Q) X.xe s := by
  have hl : (us ++ ([] : List Value)).length = ps.length := by
    rw [List.append_nil, ← r.length]
    exact F.len _ _ _ _ h
  have hbd := hb s us I.kIn hl
  rw [List.append_nil] at hbd
  have c := F.run X.A X.stack s H ⟨us, []⟩ us vs Q E0 hr hg I.env0 hbd r h
  refine wpAny_call (codeAny_mono c fun r s' hq => ?_)
  cases r with
  | error e => exact False.elim hq
  | ok fl =>
    cases fl with
    | ret u => exact I.after hq
    | _ => exact False.elim hq
/-- a call by name of such a def, all arguments given -/
theorem pe_callg (F : FnG X.prog X.w X.K X.mg X.base k f fd ps sp) (hr : Room k X.A) (hg : X.A.guards = some []) (hgl : Gl X x) (hm : X.mg x = some (.ref f)) (hk : PySem.W.keepIn X.K (.ref f) = true) (hb : Binds X.K fd ps [])
    (ha : PA X (e :: es) t) (hdb : (x == ("__debug__" : Str)) = false := by decide) (he : starEach (e :: es) X.env = (false, eval e X.env) :: starEach es X.env := by rfl) (hpl : (backTo pos (starEach es X.env)).any (·.1) = false := by rfl) :
    PE X (.Call (.Name x p) (e :: es) [] pos) (fun σ H Q => t σ H fun vs H1 => sp vs H1 Q E0) := by
  constructor
  intro pins s σ H Q I h
  refine wpAny_Call_Name_kw (ld_glob I hgl hm ?_ hdb)
  refine PySem.W.callWith_K (h₀ := X.base) I.ok.mod.kin hk ?_ he hpl
  exact thn (ha.run pos pins s σ H _ I h) fun us s1 ⟨vs, H1, I1, r, q⟩ => ⟨I1.kIn, run_g F hr hg hb I1 r q⟩
/-- repr of data, where no repr is running -/
def rReprD (K : PySem.W.Frag) : List V → Hp → VK → Prop := fun vs H Q => ∃ (x : V) (d : PyData), vs = [x] ∧ Dp K H x d ∧ d.showable = true ∧ d.hasDict = false ∧ d.shown.length ≤ sizeLine ∧ d.depth ≤ 60 ∧ Q (.str d.shown) H
theorem call_reprD (hg : X.A.guards = some []) (hu : X.A.units + 64 < cLine) : CallR X (.builtin "repr") (rReprD X.K) := by
  intro pins s σ H xs us Q I r h
  obtain ⟨x, d, rfl, hd, h1, h2, h3, h4, q⟩ := h
  obtain ⟨u, rfl, rx⟩ := vals1 r
  obtain ⟨as, rd⟩ := Dp.reads I d x u hd rx
  cases hd with
  | non =>
    cases rx
    exact PySem.P.repr_of_none ⟨.str _, H, I.tok _, ⟨_, rfl⟩, q⟩
  | bl b =>
    cases rx
    exact PySem.P.repr_of_bool ⟨.str _, H, I.tok _, ⟨_, rfl⟩, q⟩
  | int i =>
    obtain ⟨tk, rfl⟩ := rx
    exact PySem.P.repr_of_int (by simpa [PyData.showable] using h1) ⟨.str _, H, I.tok _, ⟨_, rfl⟩, q⟩
  | str z =>
    obtain ⟨tk, rfl⟩ := rx
    exact PySem.P.repr_of_str ⟨.str _, H, I.tok _, ⟨_, rfl⟩, q⟩ h3
  | lst hs ha =>
    cases rx
    exact repr_of_reads' rd h1 (fun z => by rw [h2] at z; cases z) hg (by omega) (fun _ _ z => z) (fun h' u tk hk => ⟨.str _, H, I.kept hk, ⟨_, rfl⟩, q⟩) h3
  | tup hs ha =>
    cases rx
    exact repr_of_reads' rd h1 (fun z => by rw [h2] at z; cases z) hg (by omega) (fun _ _ z => z) (fun h' u tk hk => ⟨.str _, H, I.kept hk, ⟨_, rfl⟩, q⟩) h3
end
end Qk
set_option maxRecDepth 100000
set_option maxHeartbeats 4000000
namespace Qk
open PySem PySem.Spec PyProof.Rows L2
/-! ### the end of a law whose def is of that kind -/
theorem law_g {P : Program} {w : World} {K : PySem.W.Frag} {mg mb : Str → Option Value} {k : Nat} {fa a : Addr} {fd : FuncData} {x : Str} {sp : Sp} {s₁ : Shared} {vs : List Value} {ns : List Int}
    (KX : K.In s₁.heap) (hns : s₁.heap.Ns mainGlobals mg) (hb : s₁.heap.Ns builtinsNs mb) (hbb : ∀ x : Str, x ≠ "__name__" → mb x = bootBuiltins x) (hlim : s₁.heap.NoLimit) (hg : s₁.gens = #[])
    (ha : s₁.heap.get? a = some { cls := .type "list", data := .seq vs.toArray }) (hi : IntsAre vs ns) (hl : ns.length ≤ sizeLine) (hr : Room k callerA)
    (F : ∀ base : Heap, K.In base → base.Ns mainGlobals mg → FnG P w K mg base k fa fd [x] sp) (hbind : ∀ (s : Shared) (u : Value), BindsTo s fd ⟨[u], []⟩ [(x, u)])
    (hsp : ∀ H : Hp, Only H → SqL K H a (ns.map V.int) → sp [.ref a] H (fun v _ => v = .bl true) fun _ _ _ => False) :
    codeAny (model P w) callerA (.call (.ref fa) ⟨[.ref a], []⟩) (fun r s' => r = .ok (.ret (.bool true)) ∧ OldK s₁.heap s'.heap ∧ s'.os = s₁.os ∧ AllBare s'.gens) s₁ := by
  let o : Obj := { cls := .type "list", data := .seq vs.toArray }
  have rv : Vals (ns.map V.int) vs := vals_ints hi
  have lenV : vs.length = ns.length := hi.length
  -- the abstract heap: the script alone, where the top does not know it
  let H : Hp := fun b => if b = a ∧ K.lookup a = none then some (.frz o (.lst (ns.map V.int))) else none
  have Hsome : ∀ {b u}, H b = some u → b = a ∧ K.lookup a = none ∧ u = .frz o (.lst (ns.map V.int)) := fun {b u} z => by
    by_cases c : b = a ∧ K.lookup a = none
    · have z2 : some (HO.frz o (.lst (ns.map V.int))) = some u := (if_pos c).symm.trans z
      exact ⟨c.1, c.2, (Option.some.inj z2).symm⟩
    · have z2 : (none : Option HO) = some u := (if_neg c).symm.trans z
      cases z2
  have hO : Only H := fun b => by
    cases q : H b with
    | none => exact .inl rfl
    | some u => exact .inr ⟨_, _, by rw [(Hsome q).2.2]⟩
  have hS : SqL K H a (ns.map V.int) := by
    cases q : K.lookup a with
    | none => exact .inl (.inr ⟨o, if_pos ⟨rfl, q⟩⟩)
    | some u =>
      have e := KX a u q
      rw [ha] at e
      cases e
      exact .inr ⟨_, vs.toArray, _, q, rfl, rfl, rfl, by rw [List.size_toArray, lenV]; exact hl, by simpa using rv⟩
  have hok : HOk P w H s₁.heap := fun b u z => by
    obtain ⟨rfl, _, rfl⟩ := Hsome z
    exact ⟨ha, by rw [List.length_map]; exact hl, vs, _, rv, ha⟩
  have keepB : ∀ {b : Addr} {u : Obj}, s₁.heap.get? b = some u → (b = a → K.lookup a ≠ none) → (hidT s₁.heap H).get? b = some u := fun {b u} e n => hidT_get e (by
    cases q : H b with
    | none => rfl
    | some z => exact absurd (Hsome q).2.1 (n (Hsome q).1))
  have keepN : ∀ {b : Addr} {m : Str → Option Value}, s₁.heap.Ns b m → (hidT s₁.heap H).Ns b m := fun {b m} ⟨u, es, ep, e, d, r⟩ => by
    refine ⟨u, es, ep, keepB e fun eb => ?_, d, r⟩
    subst eb
    rw [ha] at e
    cases e
    cases d
  have hKb : K.In (hidT s₁.heap H) := fun b u e => keepB (KX b u e) fun eb q => by
    subst eb
    rw [q] at e
    cases e
  have hM : Mod K mg (hidT s₁.heap H) := ⟨hKb, keepN hns, ⟨mb, keepN hb, hbb⟩, let ⟨mc, h1, h2⟩ := hlim; ⟨mc, keepN h1, h2⟩⟩
  have e0 : Env0 P w K mg (hidT s₁.heap H) callerA [] s₁ H := ⟨rfl, hM, fun _ _ e => of_hidT e, Nat.le_of_eq (hidT_size _ _), trivial, fun b z => absurd (show b ∈ ([] : List Addr) from z) (by simp), hok, .of_eq hg⟩
  have run := (F _ hKb (keepN hns)).run callerA [] s₁ H ⟨[.ref a], []⟩ [.ref a] [.ref a] _ _ hr rfl e0 (hbind s₁ (.ref a)) (.cons rfl .nil) (hsp H hO hS)
  refine codeAny_mono run fun r s' h => ?_
  cases r with
  | error e => exact False.elim h
  | ok fl =>
    cases fl with
    | ret u =>
      obtain ⟨v, H', os, bare, un, hok', r', q⟩ := h
      obtain rfl : v = .bl true := q
      obtain rfl : u = Value.bool true := r'
      refine ⟨rfl, OldK.of_keep fun b u e => ?_, os, bare⟩
      cases q : H b with
      | none => exact un.keep b u e q (fun z => absurd (show b ∈ ([] : List Addr) from z) (by simp)) (by simp)
      | some z =>
        obtain ⟨rfl, _, rfl⟩ := Hsome q
        obtain ⟨e2, _⟩ := hok' b _ (un.frzs b o _ q)
        rw [ha] at e
        cases e
        exact e2
    | _ => exact False.elim h
theorem walk_g {l : PySem.W.OpenLaw} {n k : Nat} {q : Program} {loose : List Str} {XP : (Str → Option Value) → Heap → Prop} {YP : World → Heap → Prop} {d : DefRec} {K : Params → PySem.W.Frag} {sp : World → Sp} {x : Str}
    (hn : l.most = some n) (hn2 : n ≤ sizeLine) (hdf : d.params.defaults = []) (hr : Room k callerA) (hY : ∀ (w : World) (h : Heap), YP w h → (K w.params).In h)
    (F : ∀ (w : World) (mg : Str → Option Value) (fa : Addr) (h : Heap), (K w.params).In h → h.Ns mainGlobals mg → mg d.name = some (.ref fa) →
      ∃ fd : FuncData, (∀ (s : Shared) (u : Value), BindsTo s fd ⟨[u], []⟩ [(x, u)]) ∧ ∀ base : Heap, (K w.params).In base → base.Ns mainGlobals mg → FnG l.prog w (K w.params) mg base k fa fd [x] (sp w))
    (hsp : ∀ (w : World) (H : Hp) (a : Addr) (ns : List Int), ns.length ≤ n → Only H → SqL (K w.params) H a (ns.map V.int) → sp w [.ref a] H (fun v _ => v = .bl true) fun _ _ _ => False) :
    PySem.W.WalkO q loose XP YP l.row.toRowW d [] (fun f vs => PySem.call f vs) := by
  refine Att.attach_call hn hdf fun w s₀ s₁ mg mb fa o pm cd doc a vs ns G Y ho hd hcd hmg hobj hints hlen hg => ?_
  obtain ⟨fd, hb, hF⟩ := F w mg fa _ (hY w _ Y) G.T.g hmg
  exact law_g (hY w _ Y) G.T.g G.T.b G.T.builtins G.T.nolimit hg hobj hints (Nat.le_trans hlen hn2) hr hF hb fun H hO hS => hsp w H a ns hlen hO hS
/-! ### data that may be compared and shown -/
mutual
def fine : PyData → Bool
  | .none => true
  | .bool _ => true
  | .int i => decide (i.natAbs < 10 ^ 60)
  | .str x => PyData.strOk x && decide (x.cps.size ≤ 20)
  | .list xs => fineAll xs
  | .tuple xs => fineAll xs
  | .dict _ => false
def fineAll : List PyData → Bool
  | [] => true
  | x :: xs => fine x && fineAll xs
end
mutual
def cost : PyData → Nat
  | .none => 4
  | .bool _ => 5
  | .int _ => 64
  | .str _ => 210
  | .list xs => costAll xs + 3
  | .tuple xs => costAll xs + 3
  | .dict _ => 0
def costAll : List PyData → Nat
  | [] => 0
  | x :: xs => cost x + 2 + costAll xs
end
mutual
theorem fine_lay : ∀ d : PyData, fine d = true → d.canLay0 = true ∧ d.showable = true ∧ d.hasDict = false
  | .none, _ => ⟨rfl, rfl, rfl⟩
  | .bool _, _ => ⟨rfl, rfl, rfl⟩
  | .int i, h => by
    have hi : i.natAbs < 10 ^ 60 := of_decide_eq_true h
    refine ⟨rfl, ?_, rfl⟩
    show decide (i.natAbs.log2 < 1920) = true
    refine decide_eq_true ?_
    by_cases h0 : i.natAbs = 0
    · rw [h0]
      decide
    · exact Nat.lt_of_lt_of_le ((Nat.log2_lt h0).mpr (Nat.lt_of_lt_of_le hi (show 10 ^ 60 ≤ 2 ^ 200 by decide))) (by decide)
  | .str x, h => by
    have h' : (PyData.strOk x && decide (x.cps.size ≤ 20)) = true := h
    rw [Bool.and_eq_true] at h'
    exact ⟨h'.1, rfl, rfl⟩
  | .list xs, h => fine_layAll xs h
  | .tuple xs, h => fine_layAll xs h
  | .dict _, h => by cases h
theorem fine_layAll : ∀ xs : List PyData, fineAll xs = true → PyData.canLayAll0 xs = true ∧ PyData.showableAll xs = true ∧ PyData.hasDictAll xs = false
  | [], _ => ⟨rfl, rfl, rfl⟩
  | x :: xs, h => by
    have h' : (fine x && fineAll xs) = true := h
    rw [Bool.and_eq_true] at h'
    obtain ⟨a1, a2, a3⟩ := fine_lay x h'.1
    obtain ⟨b1, b2, b3⟩ := fine_layAll xs h'.2
    refine ⟨?_, ?_, ?_⟩
    · show (PyData.canLay0 x && PyData.canLayAll0 xs) = true
      rw [a1, b1]
      rfl
    · show (PyData.showable x && PyData.showableAll xs) = true
      rw [a2, b2]
      rfl
    · show (PyData.hasDict x || PyData.hasDictAll xs) = false
      rw [a3, b3]
      rfl
end
theorem listText_le (ts : List Str) : (listText ts).length ≤ piled ts + 2 := by
  cases ts with
  | nil => decide
  | cons t r =>
    have e : listText (t :: r) = textFrom 1 ("[" ++ "" ++ t) r ++ "]" := rfl
    rw [e, strLen_append, textFrom_length_pos r 1 _ (by decide), strLen_append, piled_cons]
    have e1 : (("[" : Str) ++ ("" : Str)).length = 1 := rfl
    have e2 : ((("]" : String) : Str)).length = 1 := rfl
    have e3 : (((("[" : String) : Str) ++ (("" : String) : Str)) : Str).length = 1 := rfl
    omega
theorem tupleText_le (ts : List Str) : (tupleText ts).length ≤ piled ts + 3 := by
  unfold tupleText
  rw [strLen_append, strLen_append]
  have e1 : (("(" : String) : Str).length = 1 := rfl
  have e2 : ((if (ts.length == 1) = true then ",)" else ")" : String) : Str).length ≤ 2 := by
    split
    · decide
    · decide
  cases ts with
  | nil =>
    have : (Str.join ", " ([] : List Str)).length = 0 := rfl
    omega
  | cons t r =>
    have := join_length_add (t :: r) (by simp)
    omega
mutual
theorem shown_le : ∀ d : PyData, fine d = true → d.shown.length ≤ cost d
  | .none, _ => by decide
  | .bool b, _ => by cases b <;> decide
  | .int i, h => by
    have hi : i.natAbs < 10 ^ 60 := of_decide_eq_true h
    have e := int_text_length_le10 (k := 60) (a := i) (by decide) hi
    show (Str.ofString (toString i)).length ≤ 64
    rw [PySem.ofString_length]
    omega
  | .str x, h => by
    have h' : (PyData.strOk x && decide (x.cps.size ≤ 20)) = true := h
    rw [Bool.and_eq_true] at h'
    have h2 : x.length ≤ 20 := of_decide_eq_true h'.2
    have h3 : ∀ c ∈ x.cps.toList, c < 16 ^ 8 := fun c hc => by
      have := Array.all_eq_true'.mp h'.1 c (by simpa using hc)
      have := of_decide_eq_true this
      omega
    have := PySem.StrLaws.reprText_len x h3
    show (reprText x).length ≤ 210
    omega
  | .list xs, h => by
    have := listText_le (PyData.shownAll xs)
    have h2 := shown_leAll xs h
    show (listText (PyData.shownAll xs)).length ≤ costAll xs + 3
    omega
  | .tuple xs, h => by
    have := tupleText_le (PyData.shownAll xs)
    have h2 := shown_leAll xs h
    show (tupleText (PyData.shownAll xs)).length ≤ costAll xs + 3
    omega
  | .dict _, h => by cases h
theorem shown_leAll : ∀ xs : List PyData, fineAll xs = true → piled (PyData.shownAll xs) ≤ costAll xs
  | [], _ => Nat.le_refl 0
  | x :: xs, h => by
    have h' : (fine x && fineAll xs) = true := h
    rw [Bool.and_eq_true] at h'
    have h1 := shown_le x h'.1
    have h2 := shown_leAll xs h'.2
    show piled (PyData.shown x :: PyData.shownAll xs) ≤ cost x + 2 + costAll xs
    rw [piled_cons]
    omega
end
structure DOk (d : PyData) : Prop where
  f : fine d = true
  dp : d.depth ≤ 50
  c : cost d ≤ 1000000
theorem DOk.shaped {d : PyData} (h : DOk d) : SeqAt.shaped d = true := by
  unfold SeqAt.shaped
  rw [(fine_lay d h.f).1]
  exact decide_eq_true (Nat.le_trans h.dp (by decide))
theorem DOk.len {d : PyData} (h : DOk d) : d.shown.length ≤ sizeLine := Nat.le_trans (shown_le d h.f) (Nat.le_trans h.c (by rw [sizeLine_eq]; decide))
mutual
theorem Dp.same {K : PySem.W.Frag} {H H' : Hp} (s : Same H H') : ∀ (d : PyData) (v : V), Dp K H v d → Dp K H' v d
  | .none, _, h => by cases h; exact .non
  | .bool _, _, h => by cases h; exact .bl _
  | .int _, _, h => by cases h; exact .int _
  | .str _, _, h => by cases h; exact .str _
  | .list ds, _, h => by
    cases h with
    | lst h1 h2 => exact .lst (s.seq h1) (Dp.sameAll s ds _ h2)
  | .tuple ds, _, h => by
    cases h with
    | tup h1 h2 => exact .tup (Evl.ex_t s h1) (Dp.sameAll s ds _ h2)
  | .dict _, _, h => by cases h
theorem Dp.sameAll {K : PySem.W.Frag} {H H' : Hp} (s : Same H H') : ∀ (ds : List PyData) (vs : List V), DpAll K H vs ds → DpAll K H' vs ds
  | [], _, h => by cases h; exact .nil
  | d :: ds, _, h => by
    cases h with
    | cons h1 h2 => exact .cons (Dp.same s d _ h1) (Dp.sameAll s ds _ h2)
end
/-- two data that are the same -/
def spAlikeD (K : PySem.W.Frag) : Sp := fun vs H Q _ => ∃ (x y : V) (d : PyData), vs = [x, y] ∧ Dp K H x d ∧ Dp K H y d ∧ DOk d ∧ Q (.bl true) H
theorem fine_int {i : Int} (h : i.natAbs < 10 ^ 60) : fine (.int i) = true := decide_eq_true h
/-- the names as data -/
def okS (c : Str) : Bool := PyData.strOk c && decide (c.cps.size ≤ 20)
theorem menu_okS : ∀ c ∈ menu, okS c = true := by decide +kernel
theorem fine_strs : ∀ {xs : List Str}, (∀ c ∈ xs, okS c = true) → fineAll (xs.map PyData.str) = true
  | [], _ => rfl
  | x :: xs, h => by
    show (fine (.str x) && fineAll (xs.map PyData.str)) = true
    rw [fine_strs fun c hc => h c (List.mem_cons_of_mem _ hc), Bool.and_true]
    exact h x List.mem_cons_self
theorem cost_strs : ∀ (xs : List Str), costAll (xs.map PyData.str) = 212 * xs.length
  | [] => rfl
  | x :: xs => by
    show cost (.str x) + 2 + costAll (xs.map PyData.str) = _
    rw [cost_strs xs, List.length_cons]
    show 210 + 2 + _ = _
    omega
/-- a question as data -/
def dQ (cols : List Str) (e : Str) : PyData := .tuple [.tuple (cols.map PyData.str), .str e]
theorem dp_q {K : PySem.W.Frag} {H : Hp} {q : Addr} {cols : List Str} {e : Str} (h : QAt H q cols e) : Dp K H (.ref q) (dQ cols e) := by
  obtain ⟨c, h1, h2⟩ := h
  exact .tup (SqT.of h1) (.cons (.tup (SqT.of h2) (dp_strs _)) (.cons (.str e) .nil))
structure CalG (P : Program) (w : World) (K : PySem.W.Frag) (mg : Str → Option Value) (base : Heap) (k : Nat) (x : Str) (ps : List Str) (sp : Sp) where
  f : Addr
  fd : FuncData
  G : FnG P w K mg base k f fd ps sp
  m : mg x = some (.ref f)
  kp : PySem.W.keepIn K (.ref f) = true
  b : Binds K fd ps []
end Qk
set_option maxRecDepth 100000
set_option maxHeartbeats 4000000
namespace Qk
open PySem PySem.Spec PyProof.Rows L2
/-! ### the order of texts, of tuples of texts, of questions -/
def ltS (a b : Str) : Bool := decide (a.cps.toList < b.cps.toList)
def lexS : List Str → List Str → Bool
  | [], [] => false
  | [], _ :: _ => true
  | _ :: _, [] => false
  | x :: xs, y :: ys => if x = y then lexS xs ys else ltS x y
theorem ltS_irrefl (a : Str) : ltS a a = false := decide_eq_false (List.lt_irrefl _)
theorem ltS_tri {a b : Str} (h : a ≠ b) : ltS a b = true ∨ ltS b a = true := by
  unfold ltS
  by_cases h1 : a.cps.toList < b.cps.toList
  · exact .inl (decide_eq_true h1)
  · by_cases h2 : b.cps.toList < a.cps.toList
    · exact .inr (decide_eq_true h2)
    · exact absurd (str_ext (List.le_antisymm (List.not_lt.mp h2) (List.not_lt.mp h1))) h
theorem ltS_trans {a b c : Str} (h1 : ltS a b = true) (h2 : ltS b c = true) : ltS a c = true := by
  unfold ltS at *
  exact decide_eq_true (List.lt_trans (of_decide_eq_true h1) (of_decide_eq_true h2))
theorem ltS_asym {a b : Str} (h1 : ltS a b = true) : ltS b a = false := by
  cases h2 : ltS b a with
  | false => rfl
  | true =>
    have := ltS_trans h1 h2
    rw [ltS_irrefl] at this
    cases this
theorem lexS_irrefl : ∀ a : List Str, lexS a a = false
  | [] => rfl
  | x :: xs => by
    rw [lexS, if_pos rfl]
    exact lexS_irrefl xs
theorem lexS_tri : ∀ {a b : List Str}, a ≠ b → lexS a b = true ∨ lexS b a = true
  | [], [], h => absurd rfl h
  | [], _ :: _, _ => .inl rfl
  | _ :: _, [], _ => .inr rfl
  | x :: xs, y :: ys, h => by
    rw [lexS, lexS]
    by_cases e : x = y
    · subst e
      rw [if_pos rfl, if_pos rfl]
      exact lexS_tri fun z => h (by rw [z])
    · rw [if_neg e, if_neg (Ne.symm e)]
      exact ltS_tri e
theorem lexS_trans : ∀ {a b c : List Str}, lexS a b = true → lexS b c = true → lexS a c = true
  | [], [], _, h, _ => by cases h
  | [], _ :: _, [], _, h => by cases h
  | [], _ :: _, _ :: _, _, _ => rfl
  | _ :: _, [], _, h, _ => by cases h
  | _ :: _, _ :: _, [], _, h => by cases h
  | x :: xs, y :: ys, z :: zs, h1, h2 => by
    rw [lexS] at h1 h2 ⊢
    by_cases e1 : x = y
    · subst e1
      rw [if_pos rfl] at h1
      by_cases e2 : x = z
      · rw [if_pos e2] at h2 ⊢
        exact lexS_trans h1 h2
      · rw [if_neg e2] at h2 ⊢
        exact h2
    · rw [if_neg e1] at h1
      by_cases e2 : y = z
      · subst e2
        rw [if_neg e1]
        exact h1
      · rw [if_neg e2] at h2
        have h3 := ltS_trans h1 h2
        have e3 : x ≠ z := fun e => by
          subst e
          rw [ltS_asym h1] at h2
          cases h2
        rw [if_neg e3]
        exact h3
theorem lexS_asym {a b : List Str} (h1 : lexS a b = true) : lexS b a = false := by
  cases h2 : lexS b a with
  | false => rfl
  | true =>
    have := lexS_trans h1 h2
    rw [lexS_irrefl] at this
    cases this
abbrev Qd := List Str × Str
def ltQ (p q : Qd) : Bool := if p.1 = q.1 then ltS p.2 q.2 else lexS p.1 q.1
theorem ltQ_irrefl (p : Qd) : ltQ p p = false := by
  unfold ltQ
  rw [if_pos rfl]
  exact ltS_irrefl _
theorem ltQ_tri {p q : Qd} (h : p ≠ q) : ltQ p q = true ∨ ltQ q p = true := by
  unfold ltQ
  by_cases e : p.1 = q.1
  · rw [if_pos e, if_pos e.symm]
    exact ltS_tri fun z => h (Prod.ext e z)
  · rw [if_neg e, if_neg (Ne.symm e)]
    exact lexS_tri e
theorem ltQ_trans {p q r : Qd} (h1 : ltQ p q = true) (h2 : ltQ q r = true) : ltQ p r = true := by
  unfold ltQ at *
  by_cases e1 : p.1 = q.1
  · rw [if_pos e1] at h1
    by_cases e2 : q.1 = r.1
    · rw [if_pos e2] at h2
      rw [if_pos (e1.trans e2)]
      exact ltS_trans h1 h2
    · rw [if_neg e2] at h2
      rw [if_neg (e1 ▸ e2), e1]
      exact h2
  · rw [if_neg e1] at h1
    by_cases e2 : q.1 = r.1
    · rw [if_pos e2] at h2
      rw [if_neg (e2 ▸ e1), ← e2]
      exact h1
    · rw [if_neg e2] at h2
      have h3 := lexS_trans h1 h2
      have e3 : p.1 ≠ r.1 := fun e => by
        rw [e] at h1
        rw [lexS_asym h1] at h2
        cases h2
      rw [if_neg e3]
      exact h3
theorem ltQ_asym {p q : Qd} (h1 : ltQ p q = true) : ltQ q p = false := by
  cases h2 : ltQ q p with
  | false => rfl
  | true =>
    have := ltQ_trans h1 h2
    rw [ltQ_irrefl] at this
    cases this
theorem swo_q {α : Type} (k : α → Qd) : SrtO.Swo fun x y => ltQ (k x) (k y) := by
  refine ⟨fun x y h => ltQ_asym h, fun x y z h1 h2 => ?_⟩
  -- not y < x, not z < y: not z < x
  cases h3 : ltQ (k z) (k x) with
  | false => rfl
  | true =>
    by_cases e : k x = k y
    · rw [e] at h3
      have : ltQ (k z) (k y) = false := h2
      rw [this] at h3
      cases h3
    · rcases ltQ_tri e with h | h
      · have h4 : ltQ (k z) (k y) = true := ltQ_trans h3 h
        rw [h2] at h4
        cases h4
      · have : ltQ (k y) (k x) = false := h1
        rw [this] at h
        cases h
theorem perm_ltQ : ∀ {xs ys : List Qd}, xs.Perm ys → xs.Pairwise (fun a b => ltQ b a = false) → ys.Pairwise (fun a b => ltQ b a = false) → xs = ys
  | [], ys, h, _, _ => List.Perm.nil_eq h
  | x :: xs, [], h, _, _ => absurd h.length_eq (by simp)
  | x :: xs, y :: ys, h, h1, h2 => by
    have e : x = y := by
      rcases List.mem_cons.mp (h.mem_iff.mp List.mem_cons_self) with e | m1
      · exact e
      · rcases List.mem_cons.mp (h.mem_iff.mpr List.mem_cons_self) with e | m2
        · exact e.symm
        · have a1 := (List.pairwise_cons.mp h1).1 y m2
          have a2 := (List.pairwise_cons.mp h2).1 x m1
          by_cases e : x = y
          · exact e
          · rcases ltQ_tri e with h | h
            · rw [a2] at h; cases h
            · rw [a1] at h; cases h
    subst e
    rw [perm_ltQ (List.Perm.cons_inv h) (List.pairwise_cons.mp h1).2 (List.pairwise_cons.mp h2).2]
/-! ### t < u of tuples of texts -/
section
open PySem.SeqAt
open PySem.AutoSeq1 (wpAny_loadPart')
open PySem.MeetsSeq PySem.MeetsSeq2 PySem.MeetsSeq3
theorem eqAt_str (A : Around) (s : Shared) (a : Str) (t : Tok) (c : Str) (u : Tok) : ∃ e, SeqAt.EqAt A s (.str a t) (.str c u) e ∧ (e = true ↔ a = c) :=
  ⟨(a == c), SeqAt.EqAt.str_str a t c u, by simp⟩
theorem rcLt_str (A : Around) (s : Shared) (a : Str) (t : Tok) (c : Str) (u : Tok) (prog : Program) (w : World) (E : Value → Shared → Prop) (Q : Value → Shared → Prop) (h : Q (.bool (ltS a c)) s) :
    wpAny (model prog w) A (richCompare .Lt (.str a t) (.str c u)) Q E s := by
  have z : wpAny (model prog w) A (compareOp .Lt (.str a t) (.str c u)) Q E s := PySem.P.lt_str h
  exact z
theorem tuple_lt_texts (l b : Addr) (us vs : Array Value) (n m : Nat) (d1 d2 : Option Addr) (sl1 sl2 : Array (Option Value)) (xs ys : List Str) (hx : StrsAre us.toList xs) (hy : StrsAre vs.toList ys) :
    Meets (Builtin.«tuple.__lt__» ⟨[.ref l, .ref b], []⟩)
      (fun _ R s => s.heap.get? l = some { cls := .type "tuple", dict := d1, data := .seq us n, slots := sl1 } ∧ s.heap.get? b = some { cls := .type "tuple", dict := d2, data := .seq vs m, slots := sl2 } ∧
        R (.ok (.ret (.bool (lexS xs ys)))) s) :=
  .of_wp fun prog w A R s h => by
    obtain ⟨hp, g, d, tk, os⟩ := s; obtain ⟨hl, hb, h⟩ := h
    have f2 := AutoSeq1.sub_tuple_tuple
    have z1 : us.size = xs.length := by rw [← hx.length]; simp
    have z2 : vs.size = ys.length := by rw [← hy.length]; simp
    wp_walk using wpAny_loadPart' hl, wpAny_loadPart' hb, wpAny_forIn_list _ (fun rest b s' => b.1 = none ∧ s' = ⟨hp, g, d, tk, os⟩ ∧ ∃ (as bs : List Value) (x' y' : List Str), rest = as.zip bs ∧
      StrsAre as x' ∧ StrsAre bs y' ∧ x'.length + vs.size = y'.length + us.size ∧ R (.ok (.ret (.bool (lexS x' y')))) ⟨hp, g, d, tk, os⟩) _
    case turn =>
      rintro ⟨u, v⟩ rest b s' ⟨hb', rfl, as, bs, x', y', hz, ha, hc, hlen, hR⟩
      cases ha with
      | nil => rw [List.zip_nil_left] at hz; cases hz
      | cons a t ha' =>
        cases hc with
        | nil => rw [List.zip_nil_right] at hz; cases hz
        | cons c t2 hc' =>
          rw [List.zip_cons_cons] at hz
          injection hz with e1 hrest
          injection e1 with eu ev
          subst eu ev
          rw [lexS] at hR
          simp only [List.length_cons] at hlen
          obtain ⟨e, he, hiff⟩ := eqAt_str A.in1 ⟨hp, g, d, tk, os⟩ a t c t2
          refine wpAny_bind (he prog w _ _ ?_)
          cases e with
          | true =>
            rw [if_pos (hiff.mp rfl)] at hR
            wp_walk
            exact ⟨rfl, rfl, _, _, _, _, hrest, ha', hc', by omega, hR⟩
          | false =>
            rw [if_neg (fun q => absurd (hiff.mpr q) Bool.false_ne_true)] at hR
            have hri := rcLt_str A.in1 ⟨hp, g, d, tk, os⟩ a t c t2 prog w
            wp_walk using hri
            exact ⟨_, rfl, by simpa using hR⟩
    case fin =>
      rintro ⟨b1, b2⟩ s' ⟨hb', rfl, as, bs, x', y', hz, ha, hc, hlen, hR⟩
      simp only at hb'
      subst hb'
      have hv : lexS x' y' = decide (us.size < vs.size) := by
        cases ha with
        | nil =>
          cases hc with
          | nil =>
            simp only [List.length_nil] at hlen
            exact (decide_eq_false (by omega)).symm
          | cons c u hw =>
            simp only [List.length_nil, List.length_cons] at hlen
            exact (decide_eq_true (by omega)).symm
        | cons a t hv =>
          cases hc with
          | nil =>
            simp only [List.length_nil, List.length_cons] at hlen
            exact (decide_eq_false (by omega)).symm
          | cons c u hw =>
            rw [List.zip_cons_cons] at hz
            cases hz
      rw [hv] at hR
      wp_walk
      exact ⟨_, rfl, by simpa [Builtin.Tuple.tupleCompareSizes] using hR⟩
    case h =>
      exact ⟨rfl, rfl, us.toList, vs.toList, xs, ys, rfl, hx, hy, by omega, h⟩
theorem lt_tupTexts {prog : Program} {w : World} {A : Around} {E : Value → Shared → Prop} {s : Shared} {l b : Addr} {us vs : Array Value} {xs ys : List Str} {Q : Value → Shared → Prop} (hl : IsTup s.heap l us) (hb : IsTup s.heap b vs)
    (hx : StrsAre us.toList xs) (hy : StrsAre vs.toList ys) (hu : A.units < cLine) (h : Q (.bool (lexS xs ys)) s) : wpAny (model prog w) A (compareOp .Lt (.ref l) (.ref b)) Q E s := by
  obtain ⟨⟨c1, d1, e1, sl1⟩, ho, hc, n, hd⟩ := id hl
  obtain ⟨⟨c2, d2, e2, sl2⟩, ho2, hc2, m, hd2⟩ := id hb
  simp only at hc hd hc2 hd2
  subst hc hd hc2 hd2
  exact richCompare_meets_room (op := .Lt) ⟨_, ho, rfl⟩ ⟨_, ho2, rfl⟩ PySem.F.slot_tuple_lt PySem.F.entry_tuple_lt (PySem.F.args_tuple_lt_2 _ _) (tuple_lt_texts l b us vs n m d1 d2 sl1 sl2 xs ys hx hy)
    ⟨ho, ho2, show Value.bool (lexS xs ys) ≠ Value.notImplemented ∧ Q (.bool (lexS xs ys)) s from ⟨(fun x => nomatch x), h⟩⟩ hu
end
/-! ### sorted of questions -/
/-- v is a question in the heap -/
def IsQ (h : Heap) (v : Value) (q : Qd) : Prop := ∃ (a c : Addr) (o oc : Obj) (t : Tok) (us : List Value) (n m : Nat), v = .ref a ∧ h.get? a = some o ∧ o.cls = .type "tuple" ∧ o.data = .seq #[.ref c, .str q.2 t] n ∧
  h.get? c = some oc ∧ oc.cls = .type "tuple" ∧ oc.data = .seq us.toArray m ∧ StrsAre us q.1
theorem IsQ.keeps {h h' : Heap} {v : Value} {q : Qd} (x : IsQ h v q) (k : ∀ b o, h.get? b = some o → o.cls = .type "tuple" → h'.get? b = some o) : IsQ h' v q := by
  obtain ⟨a, c, o, oc, t, us, n, m, e, ho, hc, hd, hoc, hcc, hdc, hs⟩ := x
  exact ⟨a, c, o, oc, t, us, n, m, e, k _ _ ho hc, hc, hd, k _ _ hoc hcc, hcc, hdc, hs⟩
section
variable {prog : Program} {w : World} {A : Around} {E : Value → Shared → Prop} {s : Shared}
theorem reads_strs {h : Heap} : ∀ {us : List Value} {xs : List Str}, StrsAre us xs → ∃ as, ReadsAll h us (xs.map PyData.str) as
  | _, _, .nil => ⟨_, ReadsAll.nil⟩
  | _, _, .cons x t r => by
    obtain ⟨as, q⟩ := reads_strs (h := h) r
    exact ⟨_, ReadsAll.cons (Reads.str x t) q⟩
theorem q_cmp {vs : List Value} {k : Value → Qd} (hu : A.units + 64 < cLine) (hm : ∀ v ∈ vs, ∀ c ∈ (k v).1, PyData.strOk c = true) (hp : ∀ v ∈ vs, IsQ s.heap v (k v)) : SrtO.Cmp prog w A s (tuples' false) (fun p => p.1 ∈ vs) (SrtO.lt2 fun v u => ltQ (k v) (k u)) := by
  intro p q hm1 hm2
  have h1 := hp _ hm1
  have h2 := hp _ hm2
  have m1 := hm _ hm1
  have m2 := hm _ hm2
  show wpAny (model prog w) A (keyLt' (tuples' false) p.1 q.1) (fun r s' => s' = s ∧ r = ltQ (k p.1) (k q.1)) (fun _ _ => False) s
  generalize k p.1 = x at h1 m1 ⊢
  generalize k q.1 = y at h2 m2 ⊢
  obtain ⟨xc, xe⟩ := x
  obtain ⟨yc, ye⟩ := y
  obtain ⟨a, c, o, oc, t, us, n, m, e, ho, hc, hd, hoc, hcc, hdc, hs⟩ := h1
  obtain ⟨a', c', o', oc', t', us', n', m', e', ho', hc', hd', hoc', hcc', hdc', hs'⟩ := h2
  rw [e, e']
  refine PySem.W.kat_lt ho hd ho' hd' ?_
  show PySem.W.KatLex prog w A false (decide (2 < 2)) _ [(.ref c, .ref c'), (.str xe t, .str ye t')] 0 s
  obtain ⟨as, r1⟩ := reads_strs (h := s.heap) hs
  obtain ⟨bs, r2⟩ := reads_strs (h := s.heap) hs'
  have rd1 : Reads s.heap (.ref c) (.tuple (xc.map PyData.str)) as := Reads.tuple hoc hcc hdc (by simpa using r1)
  have rd2 : Reads s.heap (.ref c') (.tuple (yc.map PyData.str)) bs := Reads.tuple hoc' hcc' hdc' (by simpa using r2)
  have l1 : (PyData.tuple (xc.map PyData.str)).canLay0 = true := lay_strs m1
  have l2 : (PyData.tuple (yc.map PyData.str)).canLay0 = true := lay_strs m2
  refine PySem.W.kat_cons (SeqAt.eqBoolOverData prog w A _ s _ _ _ _ as bs _ rd1 rd2 l1 l2 ?_ ?_)
  · have : (PyData.tuple (xc.map PyData.str)).depth = 1 := by
      show PyData.depthAll _ + 1 = 1
      rw [depth_strs]
    omega
  rw [PyData.eqv, eqv_strs]
  by_cases ex : xc = yc
  · rw [decide_eq_true ex]
    refine PySem.W.kat_yes (PySem.W.kat_cons (SeqAt.EqAt.str_str xe t ye t' prog w _ _ ?_))
    by_cases ey : xe = ye
    · have e3 : ltQ (xc, xe) (yc, ye) = false := by rw [ex, ey]; exact ltQ_irrefl _
      have e4 : (xe == ye) = true := beq_iff_eq.mpr ey
      rw [e4]
      exact PySem.W.kat_yes (PySem.W.kat_nil ⟨rfl, e3.symm⟩)
    · have e3 : ltQ (xc, xe) (yc, ye) = ltS xe ye := if_pos ex
      have e4 : (xe == ye) = false := beq_eq_false_iff_ne.mpr ey
      rw [e4]
      refine PySem.W.kat_no (PySem.W.kat_one _ _ (rcLt_str A s xe t ye t' prog w _ _ ?_))
      exact (show s = s ∧ ltS xe ye = ltQ (xc, xe) (yc, ye) from ⟨rfl, e3.symm⟩)
  · rw [decide_eq_false ex]
    have e3 : ltQ (xc, xe) (yc, ye) = lexS xc yc := if_neg ex
    refine PySem.W.kat_no (PySem.W.kat_one _ _ (lt_tupTexts (us := us.toArray) (vs := us'.toArray) ⟨oc, hoc, hcc, m, hdc⟩ ⟨oc', hoc', hcc', m', hdc'⟩ (by simpa using hs) (by simpa using hs') (by omega) ?_))
    exact (show s = s ∧ lexS xc yc = ltQ (xc, xe) (yc, ye) from ⟨rfl, e3.symm⟩)
theorem q_firsts {h : Heap} : ∀ {vs : List Value} {k : Value → Qd}, (∀ v ∈ vs, IsQ h v (k v)) → ∃ fs : List Value, PySem.W.KatTups h vs fs ∧ fs.length = vs.length ∧ ∀ f ∈ fs, ∃ c oc, f = Value.ref c ∧ h.get? c = some oc ∧ oc.cls = .type "tuple"
  | [], _, _ => ⟨[], PySem.W.KatTups.nil, rfl, fun _ hm => by simp at hm⟩
  | v :: vs, k, hp => by
    obtain ⟨fs, h1, h2, h3⟩ := q_firsts (vs := vs) (k := k) fun v' hm => hp v' (List.mem_cons_of_mem _ hm)
    obtain ⟨a, c, o, oc, t, us, n, m, e, ho, hc, hd, hoc, hcc, hdc, hs⟩ := hp v List.mem_cons_self
    subst e
    refine ⟨.ref c :: fs, PySem.W.KatTups.cons ho hc hd rfl h1, by rw [List.length_cons, List.length_cons, h2], fun f hm => ?_⟩
    rcases List.mem_cons.mp hm with rfl | hm
    · exact ⟨c, oc, rfl, hoc, hcc⟩
    · exact h3 f hm
theorem q_sortable {a : Addr} {vs : List Value} {k : Value → Qd} (hu : A.units + 64 < cLine) (h0 : 0 < vs.length) (hm : ∀ v ∈ vs, ∀ c ∈ (k v).1, PyData.strOk c = true) (hp : ∀ v ∈ vs, IsQ s.heap v (k v)) (ha : ∀ o, s.heap.get? a = some o → o.cls ≠ .type "tuple") :
    SrtO.SortableO prog w A s a vs fun v u => ltQ (k v) (k u) := by
  intro h' keep
  have hp' : ∀ v ∈ vs, IsQ h' v (k v) := fun v hm => (hp v hm).keeps fun b o e c => keep b o (fun z => by subst z; exact ha o e c) e
  obtain ⟨fs, h1, h2, h3⟩ := q_firsts hp'
  refine ⟨tuples' false, fun Q E hq => ?_, q_cmp hu hm hp'⟩
  refine PySem.W.kat_kind (T := .type "tuple") h1 (by omega) (fun f hf => ?_) (by rfl) ?_
  · obtain ⟨c, oc, rfl, hoc, hcc⟩ := h3 f hf
    rw [← hcc]
    exact (PySem.W.Looks.ld hoc).andThen PySem.W.Looks.now
  · have e : (Value.type "tuple" != Value.type "tuple") = false := by first | decide +kernel | rfl | decide
    rw [e]
    exact hq
end
section
variable {X : Cx}
/-- sorted(xs) of questions: a new list of the same ones, rising -/
def rSortedQ (K : PySem.W.Frag) : List V → Hp → VK → Prop := fun vs H Q => ∃ (a : Addr) (xs : List V) (k : V → Qd), vs = [V.ref a] ∧ SqL K H a xs ∧ (∀ x ∈ xs, ∃ t, x = V.ref t ∧ QAt H t (k x).1 (k x).2 ∧ ∀ c ∈ (k x).1, PyData.strOk c = true) ∧
  ∀ ys p, ys.Perm xs → (ys.map k).Pairwise (fun a b => ltQ b a = false) → H p = none → Q (.ref p) (upd H p (.lst ys))
theorem cr_sortedQ (hu : X.A.units + 80 < cLine) : CallR X (.builtin "sorted") (rSortedQ X.K) := by
  intro pins s σ H vs us Q I r h
  obtain ⟨a, xs, k, rfl, hs, hx, q⟩ := h
  obtain ⟨its, rv, hl, hz⟩ := I.list hs
  obtain ⟨u, rfl, ru⟩ := vals1 r
  obtain rfl : u = Value.ref a := ru
  obtain ⟨e1, e2⟩ := refs_back rv fun x m => by
    obtain ⟨t, e, _⟩ := hx x m
    exact ⟨t, e⟩
  have isq : ∀ v ∈ its, IsQ s.heap v (k (backV v)) ∧ ∀ c ∈ (k (backV v)).1, PyData.strOk c = true := fun v hv => by
    obtain ⟨t, rfl⟩ := e2 v hv
    have hmem : V.ref t ∈ xs := by rw [e1]; exact List.mem_map.mpr ⟨_, hv, rfl⟩
    obtain ⟨t', e, ⟨c, g1, g2⟩, g3⟩ := hx _ hmem
    cases e
    obtain ⟨_, i1, r1, o, ho, hc, n, hd⟩ := I.hok _ _ g1
    obtain ⟨_, i2, r2, oc, hoc, hcc, m, hdc⟩ := I.hok _ _ g2
    obtain ⟨u1, u2, rfl, ra, rb⟩ := vals2 r1
    obtain rfl : u1 = Value.ref c := ra
    obtain ⟨tk, rfl⟩ := rb
    exact ⟨⟨t, c, o, oc, tk, i2, n, m, rfl, ho, hc, hd, hoc, hcc, hdc, r2.strs⟩, g3⟩
  refine SrtO.sorted_ord (swo_q fun u => k (backV u)) hl.isList (by rw [← rv.length]; exact hz) (fun h2 h₁ b hb kk => ?_) fun out h1 h2 => ?_
  · refine q_sortable (s := { s with heap := h₁ }) (by show X.A.units + 1 + 1 + 64 < cLine; omega) (by omega) (fun v hv => (isq v hv).2) (fun v hv => (isq v hv).1.keeps fun c o e _ => (kk c o e).2) fun o e => ?_
    have e' : some o = some (seqObj "list" its.toArray 0) := e.symm.trans hb
    cases e'
    intro c
    exact absurd (Value.type.inj c) (by decide)
  · have h3 : ∀ u ∈ out, ∃ a, u = Value.ref a := fun u hu => e2 u (h2.perm.mem_iff.mp hu)
    obtain ⟨n, hn⟩ := sortedAll_at s.heap its out.toArray
    have hperm : (out.map backV).Perm xs := by
      rw [e1]
      exact h2.perm.map backV
    have hsrt : ((out.map backV).map k).Pairwise (fun a b => ltQ b a = false) := by
      rw [List.map_map]
      exact List.pairwise_map.mpr h1
    refine ⟨.ref (s.heap.objs.size + 1), upd H (s.heap.objs.size + 1) (.lst (out.map backV)), I.laid (t' := s.toks) (fun b o e => sortedAll_old e) (Nat.le_succ _) ⟨?_, out, n, vals_back h3, hn⟩, rfl, q _ _ hperm hsrt (I.hok.fresh (Nat.le_succ _))⟩
    rw [hperm.length_eq]
    exact hz
end
end Qk
set_option maxRecDepth 100000
set_option maxHeartbeats 4000000
set_option maxRecDepth 100000
set_option maxHeartbeats 4000000
namespace Qk
open PySem PySem.Spec PyProof.Rows L2
/-! the sorted list of some texts -/
instance (a b : Str) : Decidable (leS a b) := by unfold leS; infer_instance
def srt (xs : List Str) : List Str := xs.mergeSort (fun a b => decide (leS a b))
theorem leS_total (a b : Str) : leS a b ∨ leS b a := by
  unfold leS
  rw [ltCps_eq, ltCps_eq]
  by_cases h : b.cps.toList < a.cps.toList
  · right
    refine decide_eq_false fun h2 => List.lt_irrefl _ (List.lt_trans h h2)
  · left
    exact decide_eq_false h
theorem srt_perm (xs : List Str) : (srt xs).Perm xs := List.mergeSort_perm _ _
theorem srt_pw (xs : List Str) : (srt xs).Pairwise leS := by
  have h := List.pairwise_mergeSort (le := fun a b => decide (leS a b)) (fun a b c h1 h2 => decide_eq_true (leS_trans (of_decide_eq_true h1) (of_decide_eq_true h2)))
    (fun a b => by
      rcases leS_total a b with h | h
      · simp [h]
      · simp [h]) xs
  exact h.imp fun h => of_decide_eq_true h
theorem srt_eq {ws xs : List Str} (h : ws.Perm xs) (hs : sortedS ws = true) : ws = srt xs := perm_sorted (h.trans (srt_perm xs).symm) (sortedS_pw hs) (srt_pw xs)
theorem srt_len (xs : List Str) : (srt xs).length = xs.length := (srt_perm xs).length_eq
/-! all questions that an index serves, as the index is walked -/
def qPair (ix : List Str) (j : Nat) : List Qd := [(srt (ix.take j), ix.getD j ""), (srt (ix.take (j + 1)), "")]
def allQ (ix : List Str) (n : Nat) : List Qd := (List.range n).flatMap (qPair ix)
theorem mem_allQ {ix : List Str} {n : Nat} {q : Qd} : q ∈ allQ ix n ↔ ∃ j, j < n ∧ (q = (srt (ix.take j), ix.getD j "") ∨ q = ((srt (ix.take (j + 1)), ("" : Str)) : Qd)) := by
  unfold allQ
  rw [List.mem_flatMap]
  constructor
  · rintro ⟨j, hj, h⟩
    refine ⟨j, List.mem_range.mp hj, ?_⟩
    simpa [qPair] using h
  · rintro ⟨j, hj, h⟩
    refine ⟨j, List.mem_range.mpr hj, ?_⟩
    simpa [qPair] using h
/-- a question is among them just if the index serves it -/
theorem allQ_serves {ix cols : List Str} {e : Str} (R : Row ix) (hc : cols.Nodup) (hs : sortedS cols = true) (hne : e = "" → cols ≠ []) : (cols, e) ∈ allQ ix ix.length ↔ fault ix cols e = none := by
  have hp := srt_perm (ix.take cols.length)
  have key : fault ix cols e = none ↔ srt (ix.take cols.length) = cols ∧ (e = "" ∨ ix[cols.length]? = some e) := by
    constructor
    · intro h
      have good := h
      unfold fault at good
      -- through the sorted list itself
      have e1 : ∃ ws : List Str, ws.Perm (ix.take cols.length) ∧ sortedS ws = true := by
        refine ⟨srt (ix.take cols.length), hp, sortedS_of_pairwise _ (srt_pw _)⟩
      obtain ⟨ws, w1, w2⟩ := e1
      have := (fault_none (last := e) R.nd hc hs w1 w2).mp h
      rw [← srt_eq w1 w2]
      exact this
    · rintro ⟨h1, h2⟩
      exact (fault_none (last := e) R.nd hc hs hp (sortedS_of_pairwise _ (srt_pw _))).mpr ⟨h1, h2⟩
  rw [mem_allQ, key]
  have getD_at : ∀ j, j < ix.length → ix[j]? = some (ix.getD j "") := fun j hj => by
    rw [List.getD_eq_getElem?_getD, List.getElem?_eq_getElem hj]
    rfl
  constructor
  · rintro ⟨j, hj, h | h⟩
    · injection h with h1 h2
      have hl : cols.length = j := by rw [h1, srt_len, List.length_take]; omega
      rw [hl]
      exact ⟨h1.symm, .inr (by rw [h2]; exact getD_at j hj)⟩
    · injection h with h1 h2
      have hl : cols.length = j + 1 := by rw [h1, srt_len, List.length_take]; omega
      rw [hl]
      exact ⟨h1.symm, .inl h2⟩
  · rintro ⟨h1, h2⟩
    have hl : cols.length ≤ ix.length := by
      have := congrArg List.length h1
      rw [srt_len, List.length_take] at this
      omega
    by_cases he : e = ""
    · have hpos : cols.length ≠ 0 := fun z => hne he (List.eq_nil_of_length_eq_zero z)
      refine ⟨cols.length - 1, by omega, .inr ?_⟩
      have e1 : cols.length - 1 + 1 = cols.length := by omega
      rw [e1, h1, he]
    · have h3 := h2.resolve_left he
      have hlt : cols.length < ix.length := (List.getElem?_eq_some_iff.mp h3).1
      refine ⟨cols.length, hlt, .inl ?_⟩
      rw [h1]
      have := getD_at _ hlt
      rw [h3] at this
      rw [← Option.some.inj this]
/-! lists of questions as they stand -/
def QL (H : Hp) (xs : List V) (qs : List Qd) : Prop := Paired (fun (x : V) (q : Qd) => ∃ t, x = .ref t ∧ QAt H t q.1 q.2) xs qs
theorem QL.len {H : Hp} {xs : List V} {qs : List Qd} (h : QL H xs qs) : xs.length = qs.length := Paired.length h
theorem QL.same {H H' : Hp} {xs : List V} {qs : List Qd} (s : Same H H') (h : QL H xs qs) : QL H' xs qs := Paired.mapP h fun x q ⟨t, e, z⟩ => ⟨t, e, z.same s⟩
theorem QL.kp {H H' : Hp} {b l : Addr} {xs : List V} {qs : List Qd} (B : Bag H b l) (s : Kp b H H') (h : QL H xs qs) : QL H' xs qs := Paired.mapP h fun x q ⟨t, e, z⟩ => ⟨t, e, z.kp B s⟩
theorem paired_app {α β : Type} {F : α → β → Prop} : ∀ {xs xs' : List α} {ys ys' : List β}, Paired F xs ys → Paired F xs' ys' → Paired F (xs ++ xs') (ys ++ ys')
  | _, _, _, _, .nil, h => h
  | _, _, _, _, .cons r t, h => .cons r (paired_app t h)
theorem QAt.uniq {H : Hp} {t : Addr} {c1 c2 : List Str} {e1 e2 : Str} (h1 : QAt H t c1 e1) (h2 : QAt H t c2 e2) : (c1, e1) = (c2, e2) := by
  obtain ⟨a, x1, x2⟩ := h1
  obtain ⟨b, y1, y2⟩ := h2
  rw [x1] at y1
  injection y1 with y1
  injection y1 with y1
  injection y1 with y1 y3
  injection y3 with y3 _
  injection y1 with y1
  injection y3 with y3
  subst y1
  rw [x2] at y2
  injection y2 with y2
  injection y2 with y2
  have : c1 = c2 := by
    have inj : ∀ {l m : List Str}, l.map V.str = m.map V.str → l = m := fun {l m} h => by
      induction l generalizing m with
      | nil => cases m with
        | nil => rfl
        | cons _ _ => cases h
      | cons x l ih => cases m with
        | nil => cases h
        | cons y m =>
          rw [List.map_cons, List.map_cons] at h
          injection h with h h'
          injection h with h
          rw [h, ih h']
    exact inj y2
  rw [this, y3]
open Classical in
noncomputable def keyQ (H : Hp) (x : V) : Qd := if h : ∃ q : Qd, ∃ t, x = .ref t ∧ QAt H t q.1 q.2 then h.choose else ([], "")
theorem keyQ_at {H : Hp} {t : Addr} {q : Qd} (h : QAt H t q.1 q.2) : keyQ H (.ref t) = q := by
  have ex : ∃ q : Qd, ∃ t', V.ref t = .ref t' ∧ QAt H t' q.1 q.2 := ⟨q, t, rfl, h⟩
  unfold keyQ
  rw [dif_pos ex]
  obtain ⟨t', e, z⟩ := ex.choose_spec
  injection e with e
  subst e
  exact z.uniq h
theorem QL.keys {H : Hp} : ∀ {xs : List V} {qs : List Qd}, QL H xs qs → xs.map (keyQ H) = qs
  | _, _, .nil => rfl
  | _, _, .cons ⟨t, e, z⟩ r => by
    subst e
    rw [List.map_cons, keyQ_at z, QL.keys r]
theorem QL.of_keys {H : Hp} : ∀ {xs : List V}, (∀ x ∈ xs, ∃ (t : Addr) (q : Qd), x = V.ref t ∧ QAt H t q.1 q.2) → QL H xs (xs.map (keyQ H))
  | [], _ => .nil
  | x :: xs, h => by
    obtain ⟨t, q, e, z⟩ := h x List.mem_cons_self
    subst e
    rw [List.map_cons, keyQ_at z]
    exact .cons ⟨t, rfl, z⟩ (QL.of_keys fun y hy => h y (List.mem_cons_of_mem _ hy))
theorem QL.mem {H : Hp} : ∀ {xs : List V} {qs : List Qd}, QL H xs qs → ∀ x ∈ xs, ∃ (t : Addr) (q : Qd), x = V.ref t ∧ QAt H t q.1 q.2 ∧ q ∈ qs
  | _, _, .nil, x, hx => by cases hx
  | _, _, .cons ⟨t, e, z⟩ r, x, hx => by
    rcases List.mem_cons.mp hx with rfl | hx
    · exact ⟨t, _, e, z, List.mem_cons_self⟩
    · obtain ⟨t', q', a, b, c⟩ := QL.mem r x hx
      exact ⟨t', q', a, b, List.mem_cons_of_mem _ c⟩
/-- no question stands behind a greater one -/
def rising (qs : List Qd) : Prop := qs.Pairwise (fun a b => ltQ b a = false)
def rSortedQL (K : PySem.W.Frag) : List V → Hp → VK → Prop := fun vs H Q => ∃ (a : Addr) (xs : List V) (qs : List Qd), vs = [V.ref a] ∧ SqL K H a xs ∧ QL H xs qs ∧ (∀ q ∈ qs, ∀ c ∈ q.1, PyData.strOk c = true) ∧
  ∀ (ys : List V) (rs : List Qd) (p : Addr), QL H ys rs → rs.Perm qs → rising rs → H p = none → Q (.ref p) (upd H p (.lst ys))
theorem cr_sortedQL {X : Cx} (hu : X.A.units + 80 < cLine) : CallR X (.builtin "sorted") (rSortedQL X.K) := by
  intro pins s σ H vs us Q I r h
  obtain ⟨a, xs, qs, rfl, hs, hq, hok, q⟩ := h
  refine cr_sortedQ hu pins s σ H _ us Q I r ⟨a, xs, keyQ H, rfl, hs, fun x hx => ?_, fun ys p hp hr hn => ?_⟩
  · obtain ⟨t, z, e, at_, hm⟩ := hq.mem x hx
    subst e
    rw [keyQ_at at_]
    exact ⟨t, rfl, at_, hok z hm⟩
  · refine q ys (ys.map (keyQ H)) p (QL.of_keys fun y hy => ?_) ?_ hr hn
    · obtain ⟨t, z, e, at_, _⟩ := hq.mem y (hp.mem_iff.mp hy)
      exact ⟨t, z, e, at_⟩
    · rw [← hq.keys]
      exact hp.map _
/-! .. as data -/
def dq (q : Qd) : PyData := dQ q.1 q.2
theorem QL.dp {K : PySem.W.Frag} {H : Hp} : ∀ {xs : List V} {qs : List Qd}, QL H xs qs → DpAll K H xs (qs.map dq)
  | _, _, .nil => .nil
  | _, _, .cons ⟨t, e, z⟩ r => by
    subst e
    exact .cons (dp_q z) (QL.dp r)
structure Qfine (q : Qd) : Prop where
  c : ∀ c ∈ q.1, okS c = true
  e : okS q.2 = true
  l : q.1.length ≤ 12
theorem okS_empty : okS "" = true := by decide +kernel
theorem fine_q {q : Qd} (h : Qfine q) : fine (dq q) = true := by
  show (fine (.tuple (q.1.map PyData.str)) && (fine (.str q.2) && true)) = true
  rw [Bool.and_true, Bool.and_eq_true]
  exact ⟨fine_strs h.c, h.e⟩
theorem cost_q {q : Qd} (h : Qfine q) : cost (dq q) ≤ 3000 := by
  have hl := h.l
  show costAll (q.1.map PyData.str) + 3 + 2 + (210 + 2 + 0) + 3 ≤ 3000
  rw [cost_strs]
  omega
theorem depth_q (q : Qd) : (dq q).depth = 2 := by
  show max (PyData.depthAll (q.1.map PyData.str) + 1) (max 0 0) + 1 = 2
  rw [depth_strs]
  rfl
theorem fine_qs : ∀ {qs : List Qd}, (∀ q ∈ qs, Qfine q) → fineAll (qs.map dq) = true
  | [], _ => rfl
  | q :: qs, h => by
    show (fine (dq q) && fineAll (qs.map dq)) = true
    rw [fine_qs fun q hq => h q (List.mem_cons_of_mem _ hq), Bool.and_true]
    exact fine_q (h q List.mem_cons_self)
theorem cost_qs : ∀ {qs : List Qd}, (∀ q ∈ qs, Qfine q) → costAll (qs.map dq) ≤ 3002 * qs.length
  | [], _ => Nat.le_refl 0
  | q :: qs, h => by
    have h1 := cost_q (h q List.mem_cons_self)
    have h2 := cost_qs fun q hq => h q (List.mem_cons_of_mem _ hq)
    show cost (dq q) + 2 + costAll (qs.map dq) ≤ _
    rw [List.length_cons]
    omega
theorem depth_qs : ∀ (qs : List Qd), PyData.depthAll (qs.map dq) ≤ 2
  | [] => Nat.zero_le _
  | q :: qs => by
    show max (dq q).depth (PyData.depthAll (qs.map dq)) ≤ 2
    rw [depth_q]
    exact Nat.max_le.mpr ⟨Nat.le_refl 2, depth_qs qs⟩
theorem dok_qs {qs : List Qd} (h : ∀ q ∈ qs, Qfine q) (hl : qs.length ≤ 100) : DOk (.list (qs.map dq)) :=
  ⟨fine_qs h, by show PyData.depthAll _ + 1 ≤ 50; have := depth_qs qs; omega, by show costAll _ + 3 ≤ _; have := cost_qs h; omega⟩
theorem eqv_q (p q : Qd) : PyData.eqv (dq p) (dq q) = decide (p = q) := by
  show PyData.eqv (.tuple [.tuple (p.1.map PyData.str), .str p.2]) (.tuple [.tuple (q.1.map PyData.str), .str q.2]) = _
  have e0 : PyData.eqv (.tuple (p.1.map PyData.str)) (.tuple (q.1.map PyData.str)) = decide (p.1 = q.1) := by rw [PyData.eqv, eqv_strs]
  rw [PyData.eqv, PyData.eqvAll, PyData.eqvAll, PyData.eqvAll, e0, PyData.eqv, Bool.and_true]
  by_cases h1 : p.1 = q.1
  · by_cases h2 : p.2 = q.2
    · rw [decide_eq_true h1, decide_eq_true (Prod.ext h1 h2), h2, beq_self_eq_true]
      rfl
    · rw [decide_eq_true h1, decide_eq_false (fun e => h2 (by rw [e]))]
      rw [beq_eq_false_iff_ne.mpr h2]
      rfl
  · rw [decide_eq_false h1, decide_eq_false (fun e => h1 (by rw [e]))]
    rfl
theorem QM.fine {cols : List Str} {e : Str} (h : QM cols e) : Qfine (cols, e) :=
  ⟨fun c hc => menu_okS _ (h.sub c hc), by rcases h.esub with z | z
                                           · show okS e = true
                                             rw [z]
                                             exact okS_empty
                                           · exact menu_okS _ z, h.le⟩
/-! promises -/
end Qk
set_option maxRecDepth 100000
set_option maxHeartbeats 4000000
namespace Qk
open PySem PySem.Spec PyProof.Rows L2
/-! columns as texts: one to eight letters a to z -/
/-- a column, as a text -/
def colS (z : Str) : Bool := (decide (1 ≤ z.cps.size) && decide (z.cps.size ≤ 8)) && z.cps.toList.all fun c => decide (97 ≤ c) && decide (c ≤ 122)
/-- any value, as the functions of words see it -/
def spText (K : PySem.W.Frag) (f : Str → Bool) : Sp := fun vs H Q _ => ∃ x, vs = [x] ∧ ((∃ z, x = .str z ∧ z.cps.size ≤ 1000 ∧ PyData.strOk z = true ∧ ∀ H', Same H H' → Q (.bl (f z)) H') ∨ ∃ t : String, TyX K H x (.type t) ∧ kitB t "str" = some false ∧ Q (.bl false) H)
theorem menu_col : ∀ c ∈ menu, colS c = true := by decide +kernel
theorem ascii_tab : ((List.range 128).all fun c => (Unicode.isAlpha c == (decide (65 ≤ c) && decide (c ≤ 90) || decide (97 ≤ c) && decide (c ≤ 122))) && (Unicode.isLower c == (decide (97 ≤ c) && decide (c ≤ 122))) &&
    ((Unicode.isUpper c || Unicode.isTitle c) == (decide (65 ≤ c) && decide (c ≤ 90)))) = true := by decide +kernel
theorem ascii_facts {c : Nat} (h : c < 128) : Unicode.isAlpha c = (decide (65 ≤ c) && decide (c ≤ 90) || decide (97 ≤ c) && decide (c ≤ 122)) ∧ Unicode.isLower c = (decide (97 ≤ c) && decide (c ≤ 122)) ∧
    (Unicode.isUpper c || Unicode.isTitle c) = (decide (65 ≤ c) && decide (c ≤ 90)) := by
  have := List.all_eq_true.mp ascii_tab c (List.mem_range.mpr h)
  simp only [Bool.and_eq_true, beq_iff_eq] at this
  exact ⟨this.1.1, this.1.2, this.2⟩
/-- s.isascii() and s.isalpha() and s.islower(): all signs are a to z, and there is one -/
theorem low_iff (z : Str) (h : 1 ≤ z.cps.size) : (Txt.isascii z && (Txt.isalpha z && Txt.islower z)) = z.cps.toList.all fun c => decide (97 ≤ c) && decide (c ≤ 122) := by
  have e1 : Txt.isascii z = z.cps.toList.all fun c => decide (c < 128) := by
    show z.cps.all (· < 128) = _
    rw [← Array.all_toList]
  have e2 : Txt.isalpha z = z.cps.toList.all Unicode.isAlpha := by
    show (decide (z.length > 0) && z.cps.all Unicode.isAlpha) = _
    rw [decide_eq_true (show z.length > 0 from h), Bool.true_and, ← Array.all_toList]
  have e3 : Txt.islower z = (z.cps.toList.any Unicode.isLower && !z.cps.toList.any fun c => Unicode.isUpper c || Unicode.isTitle c) := by
    show (z.cps.any Unicode.isLower && !z.cps.any fun c => Unicode.isUpper c || Unicode.isTitle c) = _
    rw [← Array.any_toList, ← Array.any_toList]
  rw [e1, e2, e3]
  have hl : z.cps.toList ≠ [] := by
    intro q
    have : z.cps.toList.length = 0 := by rw [q]; rfl
    rw [Array.length_toList] at this
    omega
  generalize z.cps.toList = l at hl
  rw [Bool.eq_iff_iff]
  simp only [Bool.and_eq_true, List.all_eq_true, List.any_eq_true, Bool.not_eq_true', List.any_eq_false, decide_eq_true_eq]
  constructor
  · rintro ⟨ha, hb, ⟨d, hd, hdl⟩, hc⟩ c hcm
    obtain ⟨f1, f2, f3⟩ := ascii_facts (ha c hcm)
    have h1 := hb c hcm
    have h2 := hc c hcm
    rw [f3] at h2
    rw [f1] at h1
    simp only [Bool.or_eq_true, Bool.and_eq_true, decide_eq_true_eq] at h1 h2
    rcases h1 with h1 | h1
    · exact absurd h1 h2
    · exact h1
  · intro ha
    have lt : ∀ c ∈ l, c < 128 := fun c hc => by
      have := ha c hc
      omega
    refine ⟨lt, fun c hc => ?_, ?_, fun c hc => ?_⟩
    · rw [(ascii_facts (lt c hc)).1]
      have := ha c hc
      simp only [Bool.or_eq_true, Bool.and_eq_true, decide_eq_true_eq]
      exact .inr this
    · obtain ⟨c, hc⟩ := List.exists_mem_of_ne_nil l hl
      refine ⟨c, hc, ?_⟩
      rw [(ascii_facts (lt c hc)).2.1]
      have := ha c hc
      simp only [Bool.and_eq_true, decide_eq_true_eq]
      exact this
    · rw [(ascii_facts (lt c hc)).2.2]
      have := ha c hc
      simp only [Bool.and_eq_true, decide_eq_true_eq]
      omega
end Qk
set_option maxRecDepth 100000
set_option maxHeartbeats 4000000
namespace PySem.W
open PySem PyProof.Rows
end PySem.W
namespace Qk
open PySem PySem.Spec PyProof.Rows L2
/-- what a class with an own == has in the written part -/
structure OwnEq (K : PySem.W.Frag) (C f : Addr) : Prop where
  eq : PySem.W.findIn K (.ref C) "__eq__" = some (some (.ref f))
  fn : PySem.W.isFn K (.ref f) = true
  ne : PySem.W.findIn K (.ref C) "__ne__" = some (some (.builtin "object.__ne__"))
  ob : PySem.W.subIn K (.ref C) (.type "object") = some true
section
variable {X : Cx} {C f : Addr} {fd : FuncData} {n : Nat} {sp : Sp}
/-- x == y by x's own ==; x != y: the opposite -/
def rOwn (K : PySem.W.Frag) (C : Addr) (sp : Sp) (neg : Bool) : R2 := fun x y H Q => ∃ (a dx : Addr) (fs : List (Str × V)) (tb : Value), x = .ref a ∧ H a = some (.ins C dx fs) ∧ TyX K H y tb ∧ PySem.W.notFirst K C tb = true ∧
  sp [x, y] H (fun v H' => ∃ r, v = .bl r ∧ Q (.bl (if neg = true then !r else r)) H') E0
theorem run_own {A : Around} {pins : List (Addr × Obj)} {σ : L2.St} {H : Hp} {s : Shared} {Q : VK} {us : List Value} {vs : List V} (F : FnOk X.prog X.w X.K X.mg X.base CX0 n f fd ["self", "other"] sp) (hA : Sub X n A) (hb : Binds X.K fd ["self", "other"] [])
    (I : Inv X pins σ H s) (r : Vals vs us) (h : sp vs H Q E0) : wpAny (model X.prog X.w) A (call (.ref f) us) (EP X pins σ Q) X.xe s := by
  have e0 : Env0 X.prog X.w X.K X.mg X.base A X.stack s H := by
    have e := I.env0
    exact ⟨by rw [hA.fr]; exact e.frames, e.mod, e.bs, e.bsz, e.funs, e.frf, e.hok, e.bare⟩
  have hl : (us ++ ([] : List Value)).length = ["self", "other"].length := by
    rw [List.append_nil, ← r.length]
    exact F.len _ _ _ _ h
  have hbd := hb s us I.kIn hl
  rw [List.append_nil] at hbd
  refine wpAny_call (codeAny_mono (F.run A X.stack s H ⟨us, []⟩ us vs Q E0 hA.room e0 hbd r h) fun r s' hq => ?_)
  cases r with
  | error e => exact False.elim hq
  | ok fl =>
    cases fl with
    | ret u => exact I.after hq
    | next => exact False.elim hq
    | brk => exact False.elim hq
    | cont => exact False.elim hq
theorem op_eqO (O : OwnEq X.K C f) (F : FnOk X.prog X.w X.K X.mg X.base CX0 n f fd ["self", "other"] sp) (hr : Room n X.A) (hb : Binds X.K fd ["self", "other"] []) : OpR X (compareOp .Eq) (rOwn X.K C sp false) := by
  intro pins s σ H x y v u Q I rx ry hq
  obtain ⟨a, dx, fs, tb, rfl, ha, ty, hn, h⟩ := hq
  cases rx
  obtain ⟨P, Z, hP, _⟩ := kit_of I ry ty
  obtain ⟨mA, J, _⟩ := ins_get I.hok ha
  obtain ⟨od, J, _⟩ := J.look
  obtain ⟨m, hF⟩ := I.fr
  refine PySem.W.cmp_K (op := .Eq) (tb := tb) hr.units0 hF I.ok.mod.kin J (Z.ty _ _ I.kIn hP) hn O.eq O.fn ?_
  refine wpAny_mono (run_own (us := [.ref a, u]) (vs := [.ref a, y]) F ⟨hr, rfl⟩ hb I (.cons rfl (.cons ry .nil)) h) (fun r s' z => ?_) fun _ _ e => e
  obtain ⟨w, H', I', rw', r, rfl, q⟩ := z
  cases rw'
  exact ⟨.bl r, H', I', rfl, q⟩
end
end Qk
set_option maxRecDepth 100000
set_option maxHeartbeats 4000000
namespace Qk
open PySem PySem.Spec PyProof.Rows L2
/-! ### own errors as values: made, asked for their class, their fields read -/
/-- an error of the class at C stands at a -/
def Er (H : Hp) (a C : Addr) : Prop := H a = some (exo a C none) ∨ ∃ d fs, H a = some (exo a C (some d)) ∧ H d = some (exd d fs)
theorem Er.same {H H' : Hp} {a C : Addr} (s : Same H H') (h : Er H a C) : Er H' a C := by
  rcases h with h | ⟨d, fs, h, hd⟩
  · exact .inl (s _ _ h)
  · exact .inr ⟨d, fs, s _ _ h, s _ _ hd⟩
/-- what the written part says of such a class -/
structure ErC (K : PySem.W.Frag) (C : Addr) : Prop where
  o : OexC K C
  x : XfC K C
  ha : PySem.W.findIn K (.ref C) "__class__" = some (some (.builtin "object.__class__"))
  hn : PySem.W.specialIn K (.builtin "object.__class__") "__get__" = some (some (.builtin "getset_descriptor.__get__"))
  ht : PySem.W.takesIn K (.builtin "object.__class__") = some true
  hm : PySem.W.mroIn K C (.type "object") = some true
end Qk
set_option maxRecDepth 100000
set_option maxHeartbeats 4000000
set_option maxRecDepth 100000
set_option maxHeartbeats 4000000
namespace Qk
open PySem PySem.Spec PyProof.Rows L2
/-! ### the difference of two sets of texts -/
/-- the set at a holds just the texts of S -/
def TSet (P : Program) (w : World) (h : Heap) (a : Addr) (S : Str → Bool) (n : Nat) : Prop := h.SetOf (strKind P w) a S n
section
variable {P : Program} {w : World} {A : Around} {E : Value → Shared → Prop} {s : Shared} {a o r : Addr} {S T R : Str → Bool} {n m k : Nat}
theorem TSet.keep {h h' : Heap} {a : Addr} {S : Str → Bool} {n : Nat} (x : TSet P w h a S n) (k : ∀ u, h.get? a = some u → h'.get? a = some u) : TSet P w h' a S n := by
  obtain ⟨oa, es, ep, t, ho, r⟩ := x
  exact ⟨oa, es, ep, t, k _ ho, r⟩
end
end Qk
set_option maxRecDepth 100000
set_option maxHeartbeats 4000000
set_option maxRecDepth 100000
set_option maxHeartbeats 4000000
namespace Qk
open PySem PySem.Spec PyProof.Rows L2
/-! ### sets of texts over the layer -/
def SetX (P : Program) (w : World) (a : Addr) (S : Str → Bool) (n : Nat) : HO := .ext fun h => TSet P w h a S n
theorem setX_new {P : Program} {w : World} {H : Hp} {h : Heap} {a : Addr} {S : Str → Bool} {n : Nat} (R : TSet P w h a S n) : ObjOk P w H h a (SetX P w a S n) := by
  have ⟨o, _, _, _, ho, _⟩ := R
  exact ⟨R, ⟨o, ho⟩, fun h1 h2 p k => TSet.keep p fun u e => k u e⟩
end Qk
set_option maxRecDepth 100000
set_option maxHeartbeats 4000000
namespace Qk
open PySem PySem.Spec PyProof.Rows L2
/-! ### set(xs) of a tuple of texts, len of it -/
section
variable {P : Program} {w : World} {A : Around} {R : Result → Shared → Prop} {I : Addr} {fp wr : List Addr} {G : Array GenState → Array GenState → Prop} {n : Nat} {Pv : Nat → Value → Prop} {St : Nat → Shared → Prop}
/-- what stands after i turns -/
def Fill (P : Program) (w : World) (xs : List Str) (S : Addr) (i : Nat) (h : Heap) : Prop := ∃ j, TSet P w h S (fun z => decide (z ∈ xs.take i)) j ∧ j ≤ i ∧ (xs.Nodup → j = i) ∧ (j = i → (xs.take i).Nodup)
theorem fill_loop (W : WalksS P w A.in1 I fp wr G n Pv St) (S : Addr) (hSf : S ∉ fp) (xs : List Str) (hsz : xs.length = n) (hn1 : n ≤ 1000) (hval : ∀ i v, Pv i v → ∃ t, v = .str (xs.getD i Str.empty) t) :
    ∀ (k i : Nat) (s : Shared), n - i = k → i ≤ n → St i s → Fill P w xs S i s.heap → (∀ s', Moved (S :: wr) G s s' → Fill P w xs S n s'.heap → R (.ok (.ret .none)) s') →
      codeAny (model P w) A (.builtin "set.update.loop" ⟨[.ref S, .ref I], []⟩) R s := by
  have hSw : S ∉ wr := fun h => hSf (W.sub _ h)
  have hsub : ∀ b ∈ wr, b ∈ S :: wr := fun b hb => List.mem_cons_of_mem _ hb
  have same : ∀ {s s' : Shared} {i : Nat}, Moved wr G s s' → Fill P w xs S i s.heap → Fill P w xs S i s'.heap := fun hm ⟨j, g, q⟩ => ⟨j, g.keep fun u e => hm.heap S _ hSw e, q⟩
  intro k
  induction k with
  | zero =>
    intro i s hk hi hst hS hR
    obtain rfl : i = n := by omega
    refine codeAny_builtin PyProof.Rows.F.entry_set_update_loop ?_
    rw [Around.under_plainId PyProof.Rows.F.plain_set_update_loop _]
    exact wpAny_bind (m := pyNext (.ref I)) (W.done s _ _ hst fun s' hm => wpAny_pure (hR s' (hm.mono hsub) (same hm hS)))
  | succ k ih =>
    intro i s hk hi hst hS hR
    have hlt : i < n := by omega
    refine codeAny_builtin PyProof.Rows.F.entry_set_update_loop ?_
    rw [Around.under_plainId PyProof.Rows.F.plain_set_update_loop _]
    refine wpAny_bind (m := pyNext (.ref I)) (W.item i s _ _ hlt hst fun v s' hP hst' hm => ?_)
    obtain ⟨t, rfl⟩ := hval i v hP
    obtain ⟨j, g, hj, hnd, hdn⟩ := same hm hS
    show wpAny _ A.in1 (holding [Value.str (xs.getD i Str.empty) t] (setAdd S (.str (xs.getD i Str.empty) t)) >>= _) _ _ s'
    refine wpAny_bind (wpAny_holding ?_)
    unfold setAdd
    refine wpAny_holding (wpAny_bind ((strKind P w).pyHash (k := xs.getD i Str.empty) (strKind_is _ _ _ _) ?_))
    refine wpAny_setAddHashed_of (knd := strKind P w) (s := { s' with toks := s'.toks + 1 }) (strKind_is _ _ _ _) rfl g (by unfold scanBound; omega) fun h' hsb g2 => ?_
    have hx : xs[i]? = some (xs.getD i Str.empty) := by
      rw [List.getD_eq_getElem?_getD, List.getElem?_eq_getElem (by omega)]
      rfl
    have ht : xs.take (i + 1) = xs.take i ++ [xs.getD i Str.empty] := by rw [List.take_add_one, hx]; rfl
    have g3 : Fill P w xs S (i + 1) h' := by
      refine ⟨_, SetOf_congr g2 (fun z => ?_) rfl, by split <;> omega, fun nd => ?_, fun e => ?_⟩
      · rw [ht]
        simp [Bool.decide_or]
      · have hni : xs.getD i Str.empty ∉ xs.take i := by
          have nd2 : (xs.take (i + 1)).Nodup := nd.sublist (List.take_sublist _ _)
          rw [ht] at nd2
          exact fun z => (List.nodup_append.mp nd2).2.2 _ z _ (List.mem_singleton.mpr rfl) rfl
        rw [if_neg (by simpa using hni), hnd nd]
      · split at e
        · omega
        · rename_i hni
          rw [ht, List.nodup_append]
          refine ⟨hdn (by omega), by simp, fun a ha b hb => ?_⟩
          rw [List.mem_singleton.mp hb]
          rintro rfl
          exact hni (by simpa using ha)
    refine wpAny_pure ⟨plainId_quiet PyProof.Rows.F.plain_set_update_loop _, ih (i + 1) _ (by omega) hlt (W.frame _ s' _ _ hst' (Nat.le_succ _) fun b hb o e => ?_) g3 fun s'' hm'' hS'' => ?_⟩
    · rw [hsb.2 b (fun h : b = S => hSf (by rw [← h]; exact hb))]
      exact e
    · refine hR s'' (Moved.trans W.gtrans ((hm.mono hsub).then_heap (Nat.le_succ _) fun b o hb e => ?_) hm'') hS''
      rw [hsb.2 b (fun h : b = S => hb (by rw [h]; exact List.mem_cons_self))]
      exact e
end
section
variable {P : Program} {w : World} {A : Around} {E : Value → Shared → Prop} {s : Shared}
set_option maxHeartbeats 3200000 in
theorem set_tuple {l : Addr} {items : Array Value} {xs : List Str} {Q : Value → Shared → Prop} (hh : A.handled = none) (hl : s.heap.IsTuple l items) (hi : PyProof.Rows.StrsAre items.toList xs) (hn1 : xs.length ≤ 1000)
    (h : ∀ (h' : Heap) (tk : Nat), Fill P w xs s.heap.objs.size items.size h' → (∀ b o, s.heap.get? b = some o → h'.get? b = some o) → Q (.ref s.heap.objs.size) { s with heap := h', toks := tk }) :
    wpAny (model P w) A (call (.type "set") [.ref l]) Q E s := by
  obtain ⟨c, tl, hmro⟩ := PySem.F.called_set.mro
  have hmade := PySem.F.called_set.made
  have hsub := PySem.F.called_set.sub
  refine wpAny_call (codeAny_of_tree ?_)
  show wpAny _ _ (callAny (.type "set") _) _ _ _
  refine wpAny_pure ⟨Code.quiet_builtin _ (by decide +kernel), codeAny_builtin PySem.F.entry_type_call ?_⟩
  rw [Around.under_plain (weight_type_call_type "set" [.ref l] []) rfl]
  have q1 := PySem.F.called_set.notType
  have q2 := PySem.F.called_set.canCreate
  have q3 := PySem.F.typeCall_set_1 (.ref l)
  repeat (any_goals (first | assumption | wp_step))
  obtain ⟨N, hN⟩ : ∃ N, N = s.heap.objs.size := ⟨_, rfl⟩
  refine codeAny_mono (code_set_new_1 (.ref l) (E := E) (Q₁ := fun v s₁ => ∃ led : Bool, v = .ref s.heap.objs.size ∧ s₁ = { s with heap := s.heap.push { cls := .type "set", dict := none, data := .set #[] 0 (.fresh 0 0 led) } }) fun led => ⟨led, rfl, rfl⟩) fun r s₁ hr => ?_
  cases r with
  | error e => exact hr
  | ok fl =>
    cases fl with
    | ret v =>
      obtain ⟨led, rfl, rfl⟩ := hr
      have hS : (s.heap.push { cls := .type "set", dict := none, data := .set #[] 0 (.fresh 0 0 led) }).get? s.heap.objs.size = some { cls := .type "set", dict := none, data := .set #[] 0 (.fresh 0 0 led) } := Heap.get?_push_size _ rfl
      have hT : Shared.TypeIs { s with heap := s.heap.push { cls := .type "set", dict := none, data := .set #[] 0 (.fresh 0 0 led) } } (.ref s.heap.objs.size) "set" := ⟨_, hS, rfl⟩
      have q4 := PySem.F.called_set.init.lookup
      have q5 := PySem.F.called_set.init.bind (.ref s.heap.objs.size)
      repeat (any_goals (first | assumption | wp_step))
      refine codeAny_mono (codeAny_call_builtin (R := wants (fun r s₂ => r = .none ∧ ∃ h' tk, s₂ = { s with heap := h', toks := tk } ∧ Fill P w xs s.heap.objs.size items.size h' ∧ (∀ b o, s.heap.get? b = some o → h'.get? b = some o)) E)
        PySem.F.called_set.init.plain PySem.F.entry_set_init (check_set_init_1 hT ?_)) fun r₂ s₂ hr₂ => ?_
      · have hlS : l < s.heap.objs.size := by
          obtain ⟨ol, hol, _⟩ := hl
          exact Heap.lt_size hol
        have hl1 : (s.heap.push { cls := .type "set", dict := none, data := .set #[] 0 (.fresh 0 0 led) }).IsTuple l items := hl.push _
        obtain ⟨ol, hol, hcl, nl, hdl⟩ := hl1
        obtain ⟨ocls, odict, odata, oslots⟩ := ol
        simp only at hcl hdl
        subst hcl; subst hdl
        have hol' := hol
        have q6 := PySem.F.sub_tuple_set
        have q7 := PySem.F.sub_tuple_frozenset
        have q8 : (Value.type "tuple" == Value.type "dict") = false := by decide
        have hl1 : (s.heap.push { cls := .type "set", dict := none, data := .set #[] 0 (.fresh 0 0 led) }).IsTuple l items := ⟨_, hol, rfl, nl, rfl⟩
        unfold Builtin.«set.__init__» noKeywords Builtin.Frozenset.updateFrom
        generalize hPI : pyIter = PI
        wp_walk
        subst hPI
        refine wpAny_pyIter_tuple hl1 ?_
        refine wpAny_bind (wpAny_runValue ?_)
        have hh3 : A.in1.in1.in1.handled = none := by simp [hh]
        have hps : (s.heap.push { cls := .type "set", dict := none, data := .set #[] 0 (.fresh 0 0 led) }).objs.size = s.heap.objs.size + 1 := Heap.size_push _ _
        have hneI : l ≠ (s.heap.push { cls := .type "set", dict := none, data := .set #[] 0 (.fresh 0 0 led) }).objs.size := by
          rw [hps]
          exact Nat.ne_of_lt (Nat.lt_succ_of_lt hlS)
        have hSf : s.heap.objs.size ∉ [(s.heap.push { cls := .type "set", dict := none, data := .set #[] 0 (.fresh 0 0 led) }).objs.size, l] := by
          rw [hps]
          simp only [List.mem_cons, List.not_mem_nil, or_false, not_or]
          exact ⟨Nat.ne_of_lt (Nat.lt_succ_self _), Nat.ne_of_gt hlS⟩
        have hsz : xs.length = items.size := by rw [← StrsAre.len_eq hi, Array.length_toList]
        have hval : ∀ (i : Nat) (v : Value), items[i]? = some v → ∃ t, v = .str (xs.getD i Str.empty) t := fun i v hv => SS.strs_at hi i v (by rw [Array.getElem?_toList]; exact hv)
        refine fill_loop ((Walks.tuple hh3 _ l hneI items).toS) s.heap.objs.size hSf xs hsz (by rw [← hsz]; exact hn1) hval (items.size - 0) 0 _ (by omega) (Nat.zero_le _)
          ⟨⟨_, Heap.get?_push_size _ rfl, rfl, rfl⟩, (hl1.push _)⟩ ?hS0 ?hR
        case hS0 =>
          have hget : ((s.heap.push { cls := .type "set", dict := none, data := .set #[] 0 (.fresh 0 0 led) }).push { cls := .type "tuple_iterator", data := .fields #[.ref l, .int 0 0] }).get? s.heap.objs.size
              = some { cls := .type "set", dict := none, data := .set #[] 0 (.fresh 0 0 led) } := Heap.get?_push_of_some _ hS
          exact ⟨0, SetOf_congr ((setObjOf_fresh (knd := strKind P w) led).setOf hget (by unfold scanBound; omega)) (fun z => by simp) rfl, Nat.le_refl _, fun _ => rfl, fun _ => by simp⟩
        case hR =>
          intro s' hm hF
          obtain ⟨h', g', d', tk', os'⟩ := s'
          have eg : g' = s.gens := hm.gens
          have ed : d' = s.drawn := hm.drawn
          have eo : os' = s.os := hm.os
          subst eg; subst ed; subst eo
          show wpAny _ _ _ _ _ _
          refine wpAny_pure ?_
          show wpAny _ _ (ret Value.none) _ _ _
          refine wpAny_pure ⟨rfl, h', tk', rfl, hF, fun b o e => ?_⟩
          have hb := Heap.lt_size e
          refine hm.heap b o ?_ (Heap.get?_push_of_some _ (Heap.get?_push_of_some _ e))
          rw [hps]
          simp only [List.mem_cons, List.mem_singleton, List.not_mem_nil, or_false, not_or]
          exact ⟨Nat.ne_of_lt hb, Nat.ne_of_lt (Nat.lt_succ_of_lt hb)⟩
      · cases r₂ with
        | error e => exact hr₂
        | ok fl₂ =>
          cases fl₂ with
          | ret r =>
            obtain ⟨rfl, h', tk, rfl, hF, hk'⟩ := hr₂
            repeat (any_goals (first | assumption | wp_step))
            exact h _ _ hF hk'
          | _ => exact hr₂.elim
    | _ => exact hr.elim
end
/-- set(xs), xs a tuple of texts -/
def rSetX (K : PySem.W.Frag) (P : Program) (w : World) : List V → Hp → VK → Prop := fun vs H Q => ∃ (l : Addr) (xs : List Str), vs = [.ref l] ∧ SqT K H l (xs.map V.str) ∧ xs.length ≤ 1000 ∧
  ∀ (p : Addr) (n : Nat), H p = none → n ≤ xs.length → (xs.Nodup → n = xs.length) → Q (.ref p) (upd H p (SetX P w p (fun z => decide (z ∈ xs)) n))
def rLenX (P : Program) (w : World) : List V → Hp → VK → Prop := fun vs H Q => ∃ (a : Addr) (S : Str → Bool) (n : Nat), vs = [.ref a] ∧ H a = some (SetX P w a S n) ∧ Q (.int (n : Int)) H
section
variable {X : Cx}
theorem set_any (hc : X.calm = true) {pins : List (Addr × Obj)} {σ : L2.St} {H : Hp} {s : Shared} {l : Addr} {xs : List Str} {Q : VK} (I : Inv X pins σ H s) (hq : SqT X.K H l (xs.map V.str)) (hz : xs.length ≤ 1000)
    (q : ∀ (p : Addr) (n : Nat), H p = none → n ≤ xs.length → (n = xs.length ↔ xs.Nodup) → Q (.ref p) (upd H p (SetX X.prog X.w p (fun z => decide (z ∈ xs)) n))) :
    wpAny (model X.prog X.w) X.A (call (.type "set") [.ref l]) (EP X pins σ Q) X.xe s := by
  obtain ⟨its, rv, pl, _⟩ := I.tuple hq
  have hlen : its.toArray.size = xs.length := by rw [List.size_toArray, ← rv.length, List.length_map]
  refine set_tuple (I.ok.hd hc) pl (by simpa using strsAre_of rv) hz fun h' tk ⟨j, g, hj, hnd, hdn⟩ hk => ?_
  rw [hlen] at g hj hnd hdn
  rw [List.take_of_length_le (Nat.le_refl _)] at g hdn
  have hn : H s.heap.objs.size = none := I.hok.fresh (Nat.le_refl _)
  exact ⟨.ref _, _, I.laidN hk (Heap.get?_none_of_le (Nat.le_refl _)) hn (setX_new g), rfl, q _ j hn hj ⟨hdn, hnd⟩⟩
theorem cr_setX (hc : X.calm = true) : CallR X (.type "set") (rSetX X.K X.prog X.w) := by
  intro pins s σ H vs us Q I r h
  obtain ⟨l, xs, rfl, hq, hz, q⟩ := h
  obtain ⟨u, rfl, rx⟩ := vals1 r
  cases rx
  exact set_any hc I hq hz fun p n hp hn e => q p n hp hn e.mpr
theorem cr_lenX : CallR X (.builtin "len") (rLenX X.prog X.w) := by
  intro pins s σ H vs us Q I r h
  obtain ⟨a, S, n, rfl, ha, q⟩ := h
  obtain ⟨u, rfl, rx⟩ := vals1 r
  cases rx
  have g : TSet X.prog X.w s.heap a S n := (I.hok a _ ha).1
  obtain ⟨o, es, ep, t, ho, hex, hd, _, _, hlt, hf, hn⟩ := g
  refine call_len_set ho hex hd hf (by unfold scanBound at hlt; omega) ⟨.int n, H, I.tok _, ⟨_, by rw [hn]⟩, q⟩
end
end Qk
set_option maxRecDepth 100000
set_option maxHeartbeats 4000000
/-! tables of sets up to 512 slots -/
namespace Qk
open PySem PySem.Spec PyProof.Rows L2
/-! ### the round of all slots -/
/-- the slots met by so many steps from x, as bits -/
def orbit (m : Nat) : Nat → Nat → Nat → Nat
  | 0, _, acc => acc
  | f + 1, x, acc => orbit m f ((x * 5 + 1) % (m + 1)) (acc ||| 2 ^ x)
theorem orbit_bit (m j : Nat) : ∀ f k acc, (orbit m f (lcgN m k) acc).testBit j = true → acc.testBit j = true ∨ ∃ b, b < k + f ∧ lcgN m b = j
  | 0, k, acc, h => .inl h
  | f + 1, k, acc, h => by
    rcases orbit_bit m j f (k + 1) (acc ||| 2 ^ lcgN m k) h with g | ⟨b, hb, e⟩
    · rw [Nat.testBit_or, Nat.testBit_two_pow] at g
      cases ha : acc.testBit j with
      | true => exact .inl rfl
      | false =>
        rw [ha, Bool.false_or, decide_eq_true_eq] at g
        exact .inr ⟨k, by omega, g⟩
    · exact .inr ⟨b, by omega, e⟩
def goF (m : Nat) : Nat → Nat → Nat
  | 0, x => x
  | f + 1, x => goF m f ((x * 5 + 1) % (m + 1))
theorem goF_eq (m : Nat) : ∀ f k, goF m f (lcgN m k) = lcgN m (k + f)
  | 0, _ => rfl
  | f + 1, k => by
    rw [show k + (f + 1) = k + 1 + f by omega]
    exact goF_eq m f (k + 1)
/-- each slot is met in a round -/
structure MaskB (m : Nat) : Prop where
  all : ∀ j, j ≤ m → ∃ b, b ≤ m ∧ lcgN m b = j
  rnd : lcgN m (m + 1) = 0
  is_ : m = 7 ∨ m = 31 ∨ m = 127 ∨ m = 511
theorem maskB_of {m : Nat} (h1 : orbit m (m + 1) 0 0 = 2 ^ (m + 1) - 1) (h2 : goF m (m + 1) 0 = 0) (h3 : m = 7 ∨ m = 31 ∨ m = 127 ∨ m = 511) : MaskB m := by
  refine ⟨fun j hj => ?_, ?_, h3⟩
  · have e : (orbit m (m + 1) (lcgN m 0) 0).testBit j = true := by
      show (orbit m (m + 1) 0 0).testBit j = true
      rw [h1, Nat.testBit_two_pow_sub_one]
      exact decide_eq_true (Nat.lt_succ_of_le hj)
    rcases orbit_bit m j (m + 1) 0 0 e with g | ⟨b, hb, e⟩
    · rw [Nat.zero_testBit] at g
      cases g
    · exact ⟨b, by omega, e⟩
  · have e := goF_eq m (m + 1) 0
    rw [Nat.zero_add] at e
    rw [← e]
    exact h2
theorem mb7 : MaskB 7 := maskB_of (by decide +kernel) (by decide +kernel) (by decide)
theorem mb31 : MaskB 31 := maskB_of (by decide +kernel) (by decide +kernel) (by decide)
theorem mb127 : MaskB 127 := maskB_of (by decide +kernel) (by decide +kernel) (by decide)
theorem mb511 : MaskB 511 := maskB_of (by decide +kernel) (by decide +kernel) (by decide)
theorem MaskB.odd {m : Nat} (hm : MaskB m) : m % 2 = 1 := by
  rcases hm.is_ with e | e | e | e <;> rw [e]
theorem MaskB.top {m : Nat} (hm : MaskB m) : m ≤ 511 := by
  rcases hm.is_ with e | e | e | e <;> omega
theorem MaskB.again {m : Nat} (hm : MaskB m) : ∀ k, lcgN m (m + 1 + k) = lcgN m k
  | 0 => hm.rnd
  | k + 1 => by
    have ih := hm.again k
    show (lcgN m (m + 1 + k) * 5 + 1) % (m + 1) = _
    rw [ih]
    rfl
theorem MaskB.to {m i j : Nat} (hm : MaskB m) (hi : i ≤ m) (hj : j ≤ m) : ∃ k, k ≤ m ∧ lcgI m i k = j := by
  obtain ⟨a, a1, rfl⟩ := hm.all i hi
  obtain ⟨b, b1, rfl⟩ := hm.all j hj
  by_cases c : a ≤ b
  · exact ⟨b - a, by omega, by rw [lcgN_add, show a + (b - a) = b by omega]⟩
  · exact ⟨m + 1 + b - a, by omega, by rw [lcgN_add, show a + (m + 1 + b - a) = m + 1 + b by omega, hm.again]⟩
theorem MaskB.meets {m : Nat} (hm : MaskB m) (h : Int) {j : Nat} (hj : j ≤ m) : ∃ n, n ≤ m + 12 ∧ runI m (SetTable.bits h) n = j := by
  obtain ⟨k, k1, k2⟩ := hm.to (runI_le m (SetTable.bits h) 12) hj
  refine ⟨12 + k, by omega, ?_⟩
  rw [runI_tail (bits_lt h), k2]
theorem way_in (m : Nat) (h : Int) (k : Nat) : way m h k ≤ m := by
  have r := runEnd_bd (show SetTable.bits h % (m + 1) ≤ m from Nat.le_of_lt_succ (Nat.mod_lt _ (Nat.succ_pos m)))
  have q := nth_in (m := m) k (runAt m (SetTable.bits h % (m + 1)) (SetTable.bits h))
    (show SetTable.bits h % (m + 1) + (SetTable.runEnd m (SetTable.bits h % (m + 1)) - SetTable.bits h % (m + 1)) ≤ m by omega)
  exact Nat.le_trans (Nat.le_add_right _ _) q
theorem MaskB.way_to {m : Nat} (hm : MaskB m) (h : Int) {j : Nat} (hj : j ≤ m) : ∃ n, n ≤ m + 12 ∧ way m h (off m (SetTable.bits h % (m + 1)) (SetTable.bits h) n) = j := by
  obtain ⟨n, n1, n2⟩ := hm.meets h hj
  refine ⟨n, n1, ?_⟩
  unfold way
  rw [nth_off, itL_run, n2]
  rfl
theorem off_le (m : Nat) : ∀ (n i b : Nat), i ≤ m → off m i b n ≤ 10 * n
  | 0, _, _, _ => Nat.le_refl _
  | n + 1, i, b, hi => by
    have r := runEnd_bd hi
    have ih := off_le m n (SetTable.leap m i b).1 (SetTable.leap m i b).2 (leap_le m i b)
    show SetTable.runEnd m i - i + 1 + off m (SetTable.leap m i b).1 (SetTable.leap m i b).2 n ≤ _
    omega
/-! ### tables -/
/-- on h's way, j comes behind places of ps alone -/
def OnWay (m : Nat) (ps : List Nat) (h : Int) (j : Nat) : Prop := ∃ k, way m h k = j ∧ ∀ c, c < k → way m h c ∈ ps
structure TabB (t : SetTable) (hs : List Int) : Prop where
  up : Ris t.place.toList
  noD : t.dummies = #[]
  many : t.place.toList.length = hs.length
  mB : MaskB t.mask
  in_ : ∀ x ∈ t.place.toList, x ≤ t.mask
  onW : ∀ (i : Nat) (h : Int) (j : Nat), hs[i]? = some h → t.place.toList[i]? = some j → OnWay t.mask t.place.toList h j
theorem TabB.sz {t : SetTable} {hs : List Int} (T : TabB t hs) : t.place.size = hs.length := by
  rw [← Array.length_toList]
  exact T.many
theorem TabB.stop {t : SetTable} {hs : List Int} (T : TabB t hs) (hl : hs.length ≤ t.mask) (h : Int) :
    ∃ K, K < 10 * SetTable.turns t.mask ∧ way t.mask h K ∉ t.place.toList ∧ ∀ k, k < K → way t.mask h k ∈ t.place.toList := by
  obtain ⟨j, j1, j2⟩ := st_missing t.place.toList (t.mask + 1) (by rw [T.many]; omega)
  obtain ⟨n, n1, n2⟩ := T.mB.way_to h (Nat.le_of_lt_succ j1)
  have ob := off_le t.mask n (SetTable.bits h % (t.mask + 1)) (SetTable.bits h) (Nat.le_of_lt_succ (Nat.mod_lt _ (Nat.succ_pos t.mask)))
  obtain ⟨K, K1, K2, K3⟩ := st_least (p := fun k => way t.mask h k ∉ t.place.toList) _ (n2 ▸ j2)
  refine ⟨K, ?_, K2, fun k hk => Classical.byContradiction fun q => K3 k hk q⟩
  unfold SetTable.turns
  omega
theorem TabB.ahead {t : SetTable} {hs : List Int} (T : TabB t hs) {h : Int} {K i j : Nat} (hK : way t.mask h K ∉ t.place.toList) (hi : hs[i]? = some h) (hj : t.place.toList[i]? = some j) :
    ∃ k, k < K ∧ way t.mask h k = j := by
  obtain ⟨k, e, b⟩ := T.onW i h j hi hj
  refine ⟨k, Nat.lt_of_not_le fun c => hK ?_, e⟩
  rcases Nat.lt_or_eq_of_le c with c | c
  · exact b K c
  · rw [c, e]
    exact List.mem_of_getElem? hj
theorem OnWay.more {m : Nat} {ps ps' : List Nat} {h : Int} {j : Nat} (W : OnWay m ps h j) (hp : ∀ x ∈ ps, x ∈ ps') : OnWay m ps' h j := by
  obtain ⟨k, e, b⟩ := W
  exact ⟨k, e, fun c hc => hp _ (b c hc)⟩
/-- one is put in -/
theorem TabB.add {t : SetTable} {hs : List Int} (T : TabB t hs) {h : Int} {K : Nat} (hK : way t.mask h K ∉ t.place.toList) (hb : ∀ k, k < K → way t.mask h k ∈ t.place.toList) :
    SetTable.below t.place (way t.mask h K) ≤ hs.length ∧
      TabB (t.put (way t.mask h K)).1 (hs.take (SetTable.below t.place (way t.mask h K)) ++ h :: hs.drop (SetTable.below t.place (way t.mask h K))) ∧
      (t.put (way t.mask h K)).1.fill = hs.length + 1 := by
  have wl := way_in t.mask h K
  have W0 : OnWay t.mask t.place.toList h (way t.mask h K) := ⟨K, rfl, hb⟩
  generalize way t.mask h K = j at hK wl W0
  have c1 := (below_cut T.up j).1
  have cl : SetTable.below t.place j ≤ t.place.toList.length := c1
  have pp := put_place t j
  have fresh : t.place[SetTable.below t.place j]? ≠ some j := fun e => hK (List.mem_of_getElem? (show t.place.toList[SetTable.below t.place j]? = some j by rw [Array.getElem?_toList, e]))
  have hl : SetTable.below t.place j ≤ hs.length := by rw [← T.many]; exact cl
  have all : ∀ x ∈ t.place.toList, x ∈ (t.put j).1.place.toList := fun x hx => by rw [pp]; exact mem_ins.mpr (.inr hx)
  have ln : (t.put j).1.place.toList.length = hs.length + 1 := by rw [pp, len_ins _ cl, T.many]
  refine ⟨hl, ⟨ris_insert T.up fresh, put_dm T.noD j, ln.trans (len_ins _ hl h).symm, T.mB, fun x hx => ?_, fun i g k e1 e2 => ?_⟩, ?_⟩
  · rw [pp] at hx
    exact (mem_ins.mp hx).elim (fun e => e ▸ wl) (T.in_ x)
  · rw [pp, tins_get _ cl] at e2
    rw [tins_get _ hl] at e1
    show OnWay t.mask _ g k
    split at e1
    · rename_i q
      rw [if_pos q] at e2
      exact (T.onW i g k e1 e2).more all
    · rename_i q
      rw [if_neg q] at e2
      split at e1
      · rename_i q2
        rw [if_pos q2] at e2
        cases e1
        cases e2
        exact W0.more all
      · rename_i q2
        rw [if_neg q2] at e2
        exact (T.onW (i - 1) g k e1 e2).more all
  · unfold SetTable.fill
    rw [put_dm T.noD j, ← Array.length_toList, ln]
    rfl
/-! ### laid anew -/
theorem MaskB.free {m : Nat} (hm : MaskB m) (owner : Array (Option Nat)) (h : Int) {j : Nat} (hj : j ≤ m) (hf : oAt owner j = none) :
    ∃ K, SetTable.layClean.free m owner (SetTable.turns m) (SetTable.bits h % (m + 1)) (SetTable.bits h) = some (way m h K) ∧ oAt owner (way m h K) = none ∧ ∀ k, k < K → oAt owner (way m h k) ≠ none := by
  obtain ⟨n, n1, n2⟩ := hm.way_to h hj
  obtain ⟨K, K1, K2, K3⟩ := st_least (p := fun k => oAt owner (way m h k) = none) _ (by rw [← n2] at hf; exact hf)
  refine ⟨K, free_spec m owner _ n _ _ K (by unfold SetTable.turns; omega) K1 (fun k hk => ?_) (by rw [show oAt owner (nth m (runAt m _ _) K).j = none from K2]; rfl), K2, K3⟩
  cases e : oAt owner (way m h k) with
  | none => exact absurd e (K3 k hk)
  | some x => rfl
theorem own_step {m : Nat} (hm : MaskB m) {done : List Int} {owner : Array (Option Nat)} (W : Own m done owner) (hl : done.length ≤ m) (h : Int) :
    ∃ o', stepF m (some (owner, done.length)) h = some (o', done.length + 1) ∧ Own m (done ++ [h]) o' := by
  obtain ⟨ps, p1, p2⟩ := W.ps
  obtain ⟨i, i1, i2⟩ := st_missing ps (m + 1) (by omega)
  have il := Nat.le_of_lt_succ i1
  obtain ⟨K, e1, e2, e3⟩ := hm.free owner h il (Classical.byContradiction fun q => i2 (p2 i il q))
  have wl := way_in m h K
  have W0 : ∀ k, k < K → oAt owner (way m h k) ≠ none := e3
  refine ⟨_, stepF_some e1, ?_⟩
  generalize ew : way m h K = v at e1 e2 wl
  have self : oAt (owner.setIfInBounds v (some done.length)) v = some done.length := oAt_set_self _ (by rw [W.sz]; omega)
  have othr : ∀ {y}, y ≠ v → oAt (owner.setIfInBounds v (some done.length)) y = oAt owner y := fun q => oAt_set_ne _ q
  have keep : ∀ {y}, oAt owner y ≠ none → oAt (owner.setIfInBounds v (some done.length)) y ≠ none := fun {y} q => by
    rcases Classical.em (y = v) with c | c
    · rw [c, e2] at q
      exact absurd rfl q
    · rw [othr c]
      exact q
  have dl : (done ++ [h]).length = done.length + 1 := by simp
  constructor
  · simp [W.sz]
  · intro y k yl e
    rcases Classical.em (y = v) with c | c
    · rw [c, self] at e
      cases e
      exact ⟨h, K, by simp, ew.trans c.symm, fun k hk => keep (W0 k hk)⟩
    · rw [othr c] at e
      obtain ⟨g, L, a1, a2, a3⟩ := W.at_ y k yl e
      have kl := (List.getElem?_eq_some_iff.mp a1).1
      exact ⟨g, L, by rw [List.getElem?_append_left kl, a1], a2, fun k hk => keep (a3 k hk)⟩
  · intro k hk
    rw [dl] at hk
    rcases Nat.lt_or_eq_of_le (Nat.le_of_lt_succ hk) with c | c
    · obtain ⟨y, y1, y2⟩ := W.all k c
      exact ⟨y, y1, by rw [othr (fun z => by rw [z, e2] at y2; cases y2), y2]⟩
    · exact ⟨v, wl, by rw [c, self]⟩
  · refine ⟨v :: ps, by rw [dl, List.length_cons, p1], fun y yl q => ?_⟩
    rcases Classical.em (y = v) with c | c
    · rw [c]
      exact List.mem_cons_self
    · rw [othr c] at q
      exact List.mem_cons_of_mem _ (p2 y yl q)
theorem own_all {m : Nat} (hm : MaskB m) : ∀ (rest done : List Int) (owner : Array (Option Nat)), Own m done owner → done.length + rest.length ≤ m →
    ∃ o', rest.foldl (stepF m) (some (owner, done.length)) = some (o', done.length + rest.length) ∧ Own m (done ++ rest) o'
  | [], done, owner, W, _ => ⟨owner, rfl, by simpa using W⟩
  | h :: rest, done, owner, W, hl => by
    rw [List.length_cons] at hl
    obtain ⟨o1, q1, W1⟩ := own_step hm W (by omega) h
    have dl : (done ++ [h]).length = done.length + 1 := by simp
    obtain ⟨o2, q2, W2⟩ := own_all hm rest (done ++ [h]) o1 W1 (by omega)
    refine ⟨o2, ?_, by simpa using W2⟩
    rw [List.foldl_cons, q1, ← dl, q2, dl, List.length_cons]
    congr 2
    omega
/-- all is found again behind the laying -/
theorem laid_anew (t : SetTable) {hs : Array Int} {wanted M : Nat} (hw : SetTable.sizeAbove wanted = M + 1) (hM : MaskB M) (hn : hs.size ≤ M) :
    ∃ t2 order, t.relaid hs wanted = some (t2, order) ∧ order.toList.Perm (List.range hs.size) ∧ TabB t2 (order.toList.map fun i => hs.getD i 0) ∧ t2.mask = M ∧ t2.led = t.led := by
  have hw' : SetTable.sizeAbove wanted - 1 = M := by omega
  obtain ⟨owner, f, W⟩ := own_all hM hs.toList [] _ (Own.init M) (by rw [Array.length_toList]; simpa using hn)
  rw [List.nil_append] at W
  have lc : SetTable.layClean M hs = some owner := by
    rw [layClean_eq]
    exact congrArg (Option.map Prod.fst) f
  have ml : ∀ {j k}, (j, k) ∈ liveOf M owner ↔ j ≤ M ∧ oAt owner j = some k := fun {j k} => mem_live W.sz
  obtain ⟨r1, r2⟩ := ris_live (fun j => owner.getD j none) (List.range (M + 1)) (by unfold Ris; exact List.pairwise_lt_range)
  have r1 : Ris ((liveOf M owner).map Prod.fst) := r1
  have zs : hs.toList.length = hs.size := rfl
  have lv : (liveOf M owner).length = hs.size := by
    obtain ⟨ps, p1, p2⟩ := W.ps
    refine Nat.le_antisymm ?_ ?_
    · rw [← zs, ← p1, ← List.length_map (f := Prod.fst)]
      refine nat_nodup_len _ ps (r1.imp fun q => Nat.ne_of_lt q) fun x hx => ?_
      obtain ⟨⟨y, k⟩, hy, rfl⟩ := List.mem_map.mp hx
      have := ml.mp hy
      exact p2 y this.1 (by rw [this.2]; simp)
    · rw [← List.length_map (f := Prod.snd)]
      refine Nat.le_trans (Nat.le_of_eq List.length_range.symm) (nat_nodup_len (List.range hs.size) _ List.nodup_range fun k hk => ?_)
      obtain ⟨j, j1, j2⟩ := W.all k (List.mem_range.mp hk)
      exact List.mem_map.mpr ⟨(j, k), ml.mpr ⟨j1, j2⟩, rfl⟩
  refine ⟨tabOf t M owner, ((liveOf M owner).map (·.2)).toArray, by rw [relaid_eq, hw', lc]; rfl, ?_, ?_, rfl, rfl⟩
  · refine perm_range _ _ ((List.length_map _).trans lv) fun k hk => ?_
    obtain ⟨j, j1, j2⟩ := W.all k (by rw [zs]; exact hk)
    exact List.mem_map.mpr ⟨(j, k), ml.mpr ⟨j1, j2⟩, rfl⟩
  · have ep : (tabOf t M owner).place.toList = (liveOf M owner).map Prod.fst := rfl
    constructor
    · exact r1
    · rfl
    · rw [ep, List.length_map, List.length_map, List.length_map]
    · exact hM
    · intro x hx
      exact Nat.le_of_lt_succ (List.mem_range.mp (r2 x hx))
    · intro i h j e1 e2
      rw [ep] at e2 ⊢
      show OnWay M _ h j
      rw [List.toList_toArray, List.getElem?_map, List.getElem?_map] at e1
      rw [List.getElem?_map] at e2
      obtain ⟨⟨y, k⟩, hy, rfl⟩ := Option.map_eq_some_iff.mp e2
      rw [hy] at e1
      have e1 : hs.getD k 0 = h := Option.some.inj e1
      obtain ⟨y1, y2⟩ := ml.mp (List.mem_of_getElem? hy)
      obtain ⟨g, K, a1, a2, a3⟩ := W.at_ y k y1 y2
      have eg : hs.getD k 0 = g := by
        rw [Array.getD_eq_getD_getElem?, ← Array.getElem?_toList, a1]
        rfl
      rw [← e1, eg]
      refine ⟨K, a2, fun c hc => ?_⟩
      cases z : oAt owner (way M g c) with
      | none => exact absurd z (a3 c hc)
      | some k2 => exact List.mem_map.mpr ⟨(way M g c, k2), ml.mpr ⟨way_in M g c, z⟩, rfl⟩
theorem size_308 : SetTable.sizeAbove (SetTable.grown 77) = 512 := by decide +kernel
end Qk
set_option maxRecDepth 100000
set_option maxHeartbeats 4000000
namespace Qk
open PySem PySem.Spec PyProof.Rows L2
/-! ### sets whose members are tuples of texts, of tuples, of any depth to 8 -/
/-- the key k stands at a -/
def KAt (h : Heap) (k : NestedKey) (a : Addr) : Prop := NestedIs h k (.ref a) ∧ k.depth ≤ 8
theorem parts_of {h : Heap} : ∀ {ks : List NestedKey} {vs : List Value} {n : Nat}, NestedAll h ks vs → NestedKey.depthAll ks ≤ n → ∀ v ∈ vs, ∃ k, NestedIs h k v ∧ k.depth ≤ n
  | _, _, _, .nil, _, v, m => nomatch m
  | _, _, n, .cons (k := k0) x y, hd, v, m => by
    simp only [NestedKey.depthAll] at hd
    rcases List.mem_cons.mp m with rfl | m
    · exact ⟨k0, x, by omega⟩
    · exact parts_of y (by omega) v m
section
variable {P : Program} {w : World} {A : Around} {E : Value → Shared → Prop} {s : Shared}
theorem notClass : ∀ (n : Nat) {k : NestedKey} {v : Value} {Q : Bool → Shared → Prop}, NestedIs s.heap k v → k.depth ≤ n → Q false s → wpAny (model P w) A (ofAClassStatement n v) Q E s := by
  intro n
  induction n with
  | zero =>
    intro k v Q hv hn hq
    cases hv with
    | tup => simp only [NestedKey.depth] at hn; omega
    | _ => exact wpAny_pure hq
  | succ n ih =>
    intro k v Q hv hn hq
    cases hv with
    | @tup b ob arr m ks hb hc hd hall =>
      simp only [NestedKey.depth] at hn
      have hps := parts_of hall (Nat.le_of_succ_le_succ hn)
      unfold ofAClassStatement
      refine wpAny_bind (wpAny_typeOf (T := "tuple") ⟨ob, hb, hc⟩ ?_)
      dsimp only
      rw [show (("tuple" : String) == "tuple") = true from by decide]
      simp only [if_true, Bool.not_true, Bool.false_eq_true, if_false]
      try refine wpAny_bind (wpAny_pure ?_)
      try simp only [Bool.not_true, Bool.false_eq_true, if_false]
      show wpAny _ _ (seqItems? (.ref b) >>= _) _ _ s
      refine wpAny_bind (wpAny_seqItems hb hd ?_)
      dsimp only
      refine wpAny_bind ?_
      show wpAny _ _ (forIn arr _ _) _ _ s
      rw [← Array.forIn_toList]
      refine wpAny_forIn_list _ (fun rest z s' => (z.1 = none ∧ s' = s) ∧ ∀ u ∈ rest, ∃ k, NestedIs s.heap k u ∧ k.depth ≤ n) _ ?_ ?_ _ _ ⟨⟨rfl, rfl⟩, hps⟩
      · rintro u rest z s' ⟨⟨hz, rfl⟩, hr⟩
        obtain ⟨k', g1, g2⟩ := hr u List.mem_cons_self
        refine wpAny_bind (ih g1 g2 ?_)
        simp only [Bool.false_eq_true, if_false]
        exact wpAny_pure ⟨⟨rfl, rfl⟩, fun u' hu' => hr u' (List.mem_cons_of_mem _ hu')⟩
      · rintro ⟨z1, z2⟩ s' ⟨⟨hz, rfl⟩, _⟩
        dsimp only at hz
        subst hz
        exact wpAny_pure hq
    | _ => exact wpAny_pure hq
theorem byValueOr : ∀ (n : Nat) {k : NestedKey} {v : Value} {Q : Bool → Shared → Prop}, NestedIs s.heap k v → (∀ b, Q b s) → wpAny (model P w) A (hashByValue n v) Q E s := by
  intro n
  induction n with
  | zero =>
    intro k v Q hv hq
    cases hv <;> exact wpAny_pure (hq _)
  | succ n ih =>
    intro k v Q hv hq
    cases hv with
    | @tup b ob arr m ks hb hc hd hall =>
      have hps := parts_of hall (Nat.le_refl _)
      unfold hashByValue
      refine wpAny_bind (wpAny_specialOf (T := "tuple") ⟨ob, hb, hc⟩ PySem.F.slot_tuple_hash.lookup ?_)
      show wpAny _ _ (seqItems? (.ref b) >>= _) _ _ s
      refine wpAny_bind (wpAny_seqItems hb hd ?_)
      refine wpAny_bind ?_
      show wpAny _ _ (forIn arr _ _) _ _ s
      rw [← Array.forIn_toList]
      refine wpAny_forIn_list _ (fun rest z s' => (z.1 = none ∧ s' = s) ∧ ∀ u ∈ rest, ∃ k, NestedIs s.heap k u ∧ k.depth ≤ NestedKey.depthAll ks) _ ?_ ?_ _ _ ⟨⟨rfl, rfl⟩, hps⟩
      · rintro u rest z s' ⟨⟨hz, rfl⟩, hr⟩
        obtain ⟨k', g1, g2⟩ := hr u List.mem_cons_self
        refine wpAny_bind (ih g1 fun b => ?_)
        cases b with
        | true =>
          simp only [Bool.not_true, Bool.false_eq_true, if_false]
          exact wpAny_pure ⟨⟨rfl, rfl⟩, fun u' hu' => hr u' (List.mem_cons_of_mem _ hu')⟩
        | false =>
          simp only [Bool.not_false, if_true]
          exact wpAny_pure (wpAny_pure (hq false))
      · rintro ⟨z1, z2⟩ s' ⟨⟨hz, rfl⟩, _⟩
        dsimp only at hz
        subst hz
        exact wpAny_pure (hq _)
    | _ => exact wpAny_pure (hq _)
/-- no member shows anything while it is looked for -/
theorem unseen {k : NestedKey} {x : Addr} {ys : List Value} {Q : Bool → Shared → Prop} (hx : KAt s.heap k x) (hy : ∀ y ∈ ys, ∃ k' c, y = .ref c ∧ KAt s.heap k' c) (hq : Q false s) :
    wpAny (model P w) A (searchCouldBeSeen (.ref x) ys) Q E s := by
  unfold searchCouldBeSeen
  refine wpAny_bind (wpAny_forIn_list _ (fun rest z s' => (z.1 = none ∧ s' = s) ∧ ∀ y ∈ rest, ∃ k' c, y = .ref c ∧ KAt s.heap k' c) _ ?_ ?_ _ _ ⟨⟨rfl, rfl⟩, hy⟩)
  · rintro y rest z s' ⟨⟨hz, rfl⟩, hr⟩
    obtain ⟨k', c, rfl, hc⟩ := hr y List.mem_cons_self
    have go : ∀ y ∈ rest, ∃ k' c, y = .ref c ∧ KAt s'.heap k' c := fun u m => hr u (List.mem_cons_of_mem _ m)
    dsimp only
    by_cases hv : (x == c || (carriedByValue (.ref x) && carriedByValue (.ref c))) = true
    · exact wp_if_pos hv (wpAny_pure ⟨⟨rfl, rfl⟩, go⟩)
    · refine wp_if_neg hv (wpAny_bind ((nestedKind P w).quiet hx ?_))
      simp only [Bool.not_true, Bool.false_eq_true, if_false]
      refine wpAny_bind ((nestedKind P w).quiet hc ?_)
      simp only [Bool.not_true, Bool.false_eq_true, if_false]
      refine wpAny_bind (notClass 8 hx.1 hx.2 ?_)
      simp only [Bool.false_eq_true, if_false]
      refine wpAny_bind (notClass 8 hc.1 hc.2 ?_)
      simp only [Bool.false_eq_true, if_false]
      exact wpAny_pure ⟨⟨rfl, rfl⟩, go⟩
  · rintro ⟨z1, z2⟩ s' ⟨⟨hz, rfl⟩, _⟩
    dsimp only at hz
    subst hz
    exact wpAny_pure hq
end
/-! ### where a probe gets to -/
abbrev pr (m : Nat) (h : Int) (c : Nat) : SetTable.Probe := nth m (runAt m (SetTable.bits h % (m + 1)) (SetTable.bits h)) c
theorem pr_clean (m : Nat) (h : Int) : ∀ c, (pr m h c).dummy = none
  | 0 => rfl
  | c + 1 => by
    show (nth m _ (c + 1)).dummy = none
    rw [nth_succ]
    have ih := pr_clean m h c
    unfold adv
    split <;> exact ih
theorem probe_at {t : SetTable} {hs : List Int} (T : TabB t hs) {h : Int} {K c : Nat} (hf : K < 10 * SetTable.turns t.mask) (hK : way t.mask h K ∉ t.place.toList) (hb : ∀ c, c < K → way t.mask h c ∈ t.place.toList) (ha : Nat → Int) (hc : c ≤ K) :
    (∃ d i, (c ≤ d ∧ d < K) ∧ t.place.toList[i]? = some (way t.mask h d) ∧ ha i = h ∧ (∀ e j, c ≤ e → e < d → t.place.toList[j]? = some (way t.mask h e) → ha j ≠ h) ∧ t.probe ha h (pr t.mask h c) = some (.candidate (way t.mask h d) i (pr t.mask h (d + 1)))) ∨
    (∀ e j, c ≤ e → e < K → t.place.toList[j]? = some (way t.mask h e) → ha j ≠ h) ∧ t.probe ha h (pr t.mask h c) = some (.empty (way t.mask h K) none) := by
  have sh : ∀ q, nth t.mask (pr t.mask h c) q = pr t.mask h (c + q) := fun q => (nth_add t.mask c _ q).symm
  have at_ : ∀ q, (nth t.mask (pr t.mask h c) q).j = way t.mask h (c + q) := fun q => congrArg SetTable.Probe.j (sh q)
  have eK : c + (K - c) = K := by omega
  rcases go_spec t T.up T.noD ha h (10 * SetTable.turns t.mask) (K - c) _ (pr_clean t.mask h c) (by omega) (fun q hq => by rw [at_]; exact hb _ (by omega)) (by rw [at_, eK]; exact hK) with ⟨q, i, g1, g2, g3, g4, g5⟩ | ⟨g1, g2⟩
  · refine .inl ⟨c + q, i, ⟨Nat.le_add_right _ _, by omega⟩, by rw [← at_]; exact g2, g3, fun e j he1 he2 hj => g4 (e - c) j (by omega) (by rw [at_, show c + (e - c) = e by omega]; exact hj), ?_⟩
    rw [← at_, show pr t.mask h (c + q + 1) = nth t.mask (pr t.mask h c) (q + 1) from (sh (q + 1)).symm]
    exact g5
  · refine .inr ⟨fun e j he1 he2 hj => g1 (e - c) j (by omega) (by rw [at_, show c + (e - c) = e by omega]; exact hj), ?_⟩
    rw [show way t.mask h K = (nth t.mask (pr t.mask h c) (K - c)).j by rw [at_, eK]]
    exact g2
/-! ### the set -/
abbrev Kp2 := NestedKey × Addr
/-- what the table has for a member -/
def ent (w : World) (p : Kp2) : Int × Value := (p.1.hash w, .ref p.2)
def hashesK (w : World) (L : List Kp2) : List Int := L.map fun p => p.1.hash w
/-- the set at a: L are its members (key and address), as the table has them -/
structure KSet (w : World) (h : Heap) (a : Addr) (L : List Kp2) (es : Array (Int × Value)) (ep : Nat) (t : SetTable) : Prop where
  ob : ∃ o, h.get? a = some o ∧ o.ExactSet ∧ o.data = .set es ep t
  rows : es.toList = L.map (ent w)
  tab : TabB t (hashesK w L)
  nd : (L.map Prod.fst).Nodup
  led : w.params.followText "set-order" = true ∨ t.led = true
  room : L.length * 5 < t.mask * 3
  few : L.length < 300
def KeysAt (h : Heap) (L : List Kp2) : Prop := ∀ p ∈ L, KAt h p.1 p.2
section
variable {P : Program} {w : World} {A : Around} {E : Value → Shared → Prop} {s : Shared} {h : Heap} {a : Addr} {L : List Kp2} {es : Array (Int × Value)} {ep : Nat} {t : SetTable}
theorem sz_rows (hr : es.toList = L.map (ent w)) : es.size = L.length := by
  rw [← Array.length_toList, hr, List.length_map]
theorem KSet.at_ (R : KSet w h a L es ep t) {i : Nat} {p : Kp2} (hi : L[i]? = some p) : es[i]? = some (ent w p) := by
  rw [← Array.getElem?_toList, R.rows, List.getElem?_map, hi]
  rfl
theorem len_h (L : List Kp2) : (hashesK w L).length = L.length := List.length_map _
theorem fits_of {hs : List Int} (T : TabB t hs) {n : Nat} (hn : hs.length = n) (hm : n ≤ t.mask) : t.fits n = true := by
  unfold SetTable.fits SetTable.fill
  have e : t.dummies.size = 0 := by rw [T.noD]; rfl
  rw [T.sz, hn, e]
  simp
  omega
theorem KSet.fits (R : KSet w h a L es ep t) : t.fits es.size = true := by
  rw [sz_rows R.rows]
  have := R.room
  exact fits_of R.tab (len_h L) (by omega)
theorem look (R : KSet w s.heap a L es ep t) (M : KeysAt s.heap L) {x : Addr} {k : NestedKey} (hx : KAt s.heap k x) (hu : A.units + 8 < cLine) {K : Nat} (hf : K < 10 * SetTable.turns t.mask)
    (hK : way t.mask (k.hash w) K ∉ t.place.toList) (hb : ∀ c, c < K → way t.mask (k.hash w) c ∈ t.place.toList) {Q : SetFound → Shared → Prop}
    (yes : k ∈ L.map Prod.fst → Q (.there none) s) (no : k ∉ L.map Prod.fst → Q (.free (way t.mask (k.hash w) K) false) s) :
    ∀ (f c : Nat) (stand : Option SetTable.Probe), stand.getD (t.probeStart (k.hash w)) = pr t.mask (k.hash w) c → c ≤ K → K < f + c →
      (∀ (i : Nat) (p : Kp2), L[i]? = some p → p.1 = k → ∃ d, c ≤ d ∧ d < K ∧ t.place.toList[i]? = some (way t.mask (k.hash w) d)) → wpAny (model P w) A (setSearchFrom a (.ref x) (k.hash w) true f stand) Q E s := by
  intro f
  induction f with
  | zero => intro c stand _ h1 h2; omega
  | succ f ih =>
    intro c stand hs h1 h2 hw
    obtain ⟨o, ho, hex, hd⟩ := R.ob
    rw [setSearchFrom_succ]
    refine wpAny_bind (wpAny_setState_of ho hd R.fits ?_)
    dsimp only
    refine wp_if_neg (by unfold SetTable.gaveWay; rw [R.tab.mB.odd]; decide) ?_
    try refine wpAny_bind (wpAny_pure ?_)
    have hh : ∀ (i : Nat) (p : Kp2), L[i]? = some p → (es[i]?.map (·.1)).getD 0 = p.1.hash w := fun i p hi => by rw [R.at_ hi]; rfl
    rcases probe_at R.tab hf hK hb (fun i => (es[i]?.map (·.1)).getD 0) h1 with ⟨d, i, ⟨d1, d2⟩, hi, _, hno, hp⟩ | ⟨hno, hp⟩
    · rw [hs, hp]
      dsimp only
      have hl : i < L.length := by
        have := (List.getElem?_eq_some_iff.mp hi).1
        rw [Array.length_toList, R.tab.sz, len_h] at this
        exact this
      obtain ⟨p, hpi⟩ : ∃ p, L[i]? = some p := ⟨_, List.getElem?_eq_getElem hl⟩
      have hpm := List.mem_of_getElem? hpi
      have tail : wpAny (model P w) A (searchRest a (.ref x) (k.hash w) true f es t (way t.mask (k.hash w) d) i (pr t.mask (k.hash w) (d + 1))) Q E s := by
        unfold searchRest
        rw [R.at_ hpi]
        unfold ent
        dsimp only
        refine wpAny_bind (wpAny_holding ((nestedKind P w).eqBool hu (M p hpm) hx ?_))
        refine wpAny_bind (wpAny_setState_of ho hd R.fits ?_)
        dsimp only
        by_cases hk : p.1 = k
        · refine wp_if_pos (by simp [hk]) (wpAny_pure (yes ?_))
          exact hk ▸ List.mem_map_of_mem hpm
        · refine wp_if_neg (by simp [hk]) ?_
          try refine wpAny_bind (wpAny_pure ?_)
          have live := slot_live R.tab.up hi
          rw [sameMem]
          simp only [if_true, live, R.at_ hpi, ent]
          refine wpAny_bind (wpAny_isSame_ref_self (wpAny_bind (wpAny_pure ?_)))
          simp only [if_true]
          refine wp_if_neg (by simp [hk]) (ih (d + 1) _ rfl d2 (by omega) fun j q hj hq => ?_)
          obtain ⟨e, e1, e2, e3⟩ := hw j q hj hq
          refine ⟨e, ?_, e2, e3⟩
          rcases Nat.lt_trichotomy e d with z | z | z
          · exact absurd ((hh j q hj).trans (by rw [hq])) (hno e j e1 z e3)
          · have l2 := slot_live R.tab.up (z ▸ e3)
            rw [live] at l2
            injection l2 with l2
            rw [← l2, hpi] at hj
            exact absurd ((congrArg Prod.fst (Option.some.inj hj)).trans hq) hk
          · exact z
      by_cases hl : t.led = true
      · refine wp_if_neg (by simp [hl]) ?_
        try refine wpAny_bind (wpAny_pure ?_)
        exact tail
      · refine wp_if_pos (by simp [hl]) (wpAny_bind (unseen hx (fun y hy => ?_) ?_))
        · obtain ⟨e, he, rfl⟩ := List.mem_map.mp hy
          have he2 : e ∈ es.toList := by
            have := (show e ∈ es ∧ _ by simpa using he).1
            simpa using this
          rw [R.rows] at he2
          obtain ⟨q, hq, rfl⟩ := List.mem_map.mp he2
          exact ⟨q.1, q.2, rfl, M q hq⟩
        · refine wp_if_neg (by decide) ?_
          try refine wpAny_bind (wpAny_pure ?_)
          exact tail
    · rw [hs, hp]
      dsimp only
      refine wpAny_pure (no fun hm => ?_)
      obtain ⟨q, hq, hk⟩ := List.mem_map.mp hm
      obtain ⟨j, hj⟩ := List.mem_iff_getElem?.mp hq
      obtain ⟨e, e1, e2, e3⟩ := hw j q hj hk
      exact hno e j e1 e2 e3 ((hh j q hj).trans (by rw [hk]))
theorem look_at (R : KSet w s.heap a L es ep t) (M : KeysAt s.heap L) {x : Addr} {k : NestedKey} (hx : KAt s.heap k x) (hu : A.units + 8 < cLine) {Q : SetFound → Shared → Prop}
    (yes : k ∈ L.map Prod.fst → Q (.there none) s)
    (no : ∀ K, k ∉ L.map Prod.fst → way t.mask (k.hash w) K ∉ t.place.toList → (∀ c, c < K → way t.mask (k.hash w) c ∈ t.place.toList) → Q (.free (way t.mask (k.hash w) K) false) s) :
    wpAny (model P w) A (setSearch a (.ref x) (k.hash w) true) Q E s := by
  have hr := R.room
  obtain ⟨K, f1, f2, f3⟩ := R.tab.stop (by rw [len_h]; omega) (k.hash w)
  have big : SetTable.turns t.mask ≤ 5000 := by
    have := R.tab.mB.top
    unfold SetTable.turns
    omega
  refine look R M hx hu f1 f2 f3 yes (fun hn => no K hn f2 f3) 100000 0 none rfl (Nat.zero_le _) (by omega) fun i p hi hp => ?_
  have h1 : (hashesK w L)[i]? = some (k.hash w) := by
    unfold hashesK
    rw [List.getElem?_map, hi, ← hp]
    rfl
  have h2 : i < t.place.toList.length := by
    rw [Array.length_toList, R.tab.sz, len_h]
    exact (List.getElem?_eq_some_iff.mp hi).1
  obtain ⟨d, d1, d2⟩ := R.tab.ahead f2 h1 (List.getElem?_eq_getElem h2)
  exact ⟨d, Nat.zero_le _, d1, by rw [d2]; exact List.getElem?_eq_getElem h2⟩
end
end Qk
set_option maxRecDepth 100000
set_option maxHeartbeats 4000000
namespace Qk
open PySem PySem.Spec PyProof.Rows L2
/-! ### putting a member in -/
theorem KAt.off {h h' : Heap} {k : NestedKey} {x a : Addr} {o : Obj} {es : Array (Int × Value)} {ep : Nat} {t : SetTable} (hx : KAt h k x) (ho : h.get? a = some o) (hd : o.data = .set es ep t) (hs : Heap.SameBut a h h') : KAt h' k x :=
  ⟨NestedIs.at (fun b ob vs n hb hv => (hs.2 b fun e => by
    subst e
    rw [ho] at hb
    cases hb
    rw [hd] at hv
    cases hv).trans hb) _ _ hx.1, hx.2⟩
theorem KAt.keep {h h' : Heap} {k : NestedKey} {x : Addr} (hx : KAt h k x) (hk : ∀ b o, h.get? b = some o → h'.get? b = some o) : KAt h' k x :=
  ⟨NestedIs.at (fun b ob vs n hb hv => hk b ob hb) _ _ hx.1, hx.2⟩
/-- rows taken in another order -/
theorem pick_rows {α β : Type} (g : α → β) (L : List α) (es : Array β) (hr : es.toList = L.map g) (order : Array Nat) (hp : order.toList.Perm (List.range L.length)) :
    ∃ L2 : List α, (order.filterMap (es[·]?)).toList = L2.map g ∧ L2.Perm L ∧ ∀ {γ : Type} (u : α → γ) (v : Nat → γ), (∀ i x, L[i]? = some x → v i = u x) → L2.map u = order.toList.map v := by
  have eg : ∀ i, es[i]? = (L[i]?).map g := fun i => by rw [← Array.getElem?_toList, hr, List.getElem?_map]
  refine ⟨order.toList.filterMap (L[·]?), ?_, ?_, fun u v huv => ?_⟩
  · rw [Array.toList_filterMap, List.map_filterMap]
    exact congrArg (fun f => List.filterMap f order.toList) (funext eg)
  · refine (hp.filterMap _).trans ?_
    have key : ∀ n, n ≤ L.length → (List.range n).filterMap (L[·]?) = L.take n := by
      intro n
      induction n with
      | zero => intro _; rfl
      | succ n ih =>
        intro hn
        rw [List.range_succ, List.filterMap_append, ih (by omega), List.take_add_one, List.getElem?_eq_getElem (show n < L.length by omega)]
        exact congrArg (List.take n L ++ ·) (List.filterMap_cons_some (List.getElem?_eq_getElem (show n < L.length by omega)))
    rw [key _ (Nat.le_refl _), List.take_length]
  · have : ∀ l : List Nat, (∀ i ∈ l, i < L.length) → (l.filterMap (L[·]?)).map u = l.map v := by
      intro l
      induction l with
      | nil => intro _; rfl
      | cons i l ih =>
        intro hl
        have hi := List.getElem?_eq_getElem (hl i List.mem_cons_self)
        rw [List.filterMap_cons_some hi, List.map_cons, List.map_cons, ih fun j hj => hl j (List.mem_cons_of_mem _ hj), huv i _ hi]
    exact this _ fun i hi => List.mem_range.mp (hp.mem_iff.mp hi)
section
variable {P : Program} {w : World} {A : Around} {E : Value → Shared → Prop} {s : Shared} {a : Addr} {L : List Kp2} {es : Array (Int × Value)} {ep : Nat} {t : SetTable}
/-- the table laid anew with more room -/
theorem relay {o : Obj} (ho : s.heap.get? a = some o) (hex : o.ExactSet) (hd : o.data = .set es ep t) (hr : es.toList = L.map (ent w)) (T : TabB t (hashesK w L)) (hm : L.length ≤ t.mask) (nd : (L.map Prod.fst).Nodup)
    (ld : w.params.followText "set-order" = true ∨ t.led = true) (few : L.length < 300) {wanted M : Nat} (hw : SetTable.sizeAbove wanted = M + 1) (hM : MaskB M) (hn : L.length * 5 < M * 3) {Q : Unit → Shared → Prop}
    (hQ : ∀ h' L' es' ep' t', Heap.SameBut a s.heap h' → KSet w h' a L' es' ep' t' → L'.Perm L → Q () { s with heap := h' }) : wpAny (model P w) A (setRelay a wanted) Q E s := by
  have hz := sz_rows hr
  have hfit : t.fits es.size = true := by rw [hz]; exact fits_of T (len_h L) hm
  have hM2 := hM.top
  obtain ⟨t2, order, q1, q2, q3, q4, q5⟩ := laid_anew t (hs := es.map (·.1)) (wanted := wanted) hw hM (by rw [Array.size_map, hz]; omega)
  rw [Array.size_map, hz] at q2
  obtain ⟨L2, r1, r2, r3⟩ := pick_rows (ent w) L es hr order q2
  rw [← r3 (fun p => p.1.hash w) (fun i => (es.map (·.1)).getD i 0) fun i p hp => by
    have e : es[i]? = some (ent w p) := by rw [← Array.getElem?_toList, hr, List.getElem?_map, hp]; rfl
    rw [Array.getD_eq_getD_getElem?, Array.getElem?_map, e]
    rfl] at q3
  have z2 : (order.filterMap (es[·]?)).size = L.length := by rw [sz_rows r1, r2.length_eq]
  rw [setRelay_eq]
  refine wpAny_bind (wpAny_setState_of ho hd hfit ?_)
  dsimp only
  refine wp_if_neg (by rw [sizeLine_eq]; omega) ?_
  try refine wpAny_bind (wpAny_pure ?_)
  rw [q1]
  dsimp only
  refine wpAny_bind (wp_if_neg (by rw [z2, hz]; simp) ?_)
  try refine wpAny_bind (wpAny_pure ?_)
  refine wpAny_pure ?_
  dsimp only
  refine wpAny_storeSet_of ho hd (hQ _ L2 (order.filterMap (es[·]?)) (ep + 1) t2 (Heap.SameBut.update ..) ?_ r2) (by rw [z2, sizeLine_eq]; omega)
  refine ⟨⟨_, store_at ho hd, ⟨hex.1, hex.2.1, hex.2.2⟩, rfl⟩, r1, q3, (r2.map Prod.fst).nodup_iff.mpr nd, by rw [q5]; exact ld, ?_, ?_⟩
  · rw [r2.length_eq, q4]; exact hn
  · rw [r2.length_eq]; exact few
theorem put_in (R : KSet w s.heap a L es ep t) (M : KeysAt s.heap L) {x : Addr} {k : NestedKey} (hx : KAt s.heap k x) (hu : A.units + 8 < cLine) (hfew : L.length + 1 < 300) {Q : Bool → Shared → Prop}
    (hQ : ∀ b h' L' es' ep' t', Heap.SameBut a s.heap h' → KSet w h' a L' es' ep' t' → (k ∈ L.map Prod.fst → L' = L) → (k ∉ L.map Prod.fst → L'.Perm ((k, x) :: L)) → Q b { s with heap := h' }) :
    wpAny (model P w) A (setAddHashed a (.ref x) (k.hash w)) Q E s := by
  obtain ⟨o, ho, hex, hd⟩ := id R.ob
  have hz := sz_rows R.rows
  have hroom := R.room
  unfold setAddHashed
  refine wpAny_holding ?_
  rw [show (100000 : Nat) = 99999 + 1 from rfl, setAddHashedIn_succ]
  refine wpAny_bind (wpAny_setState_of ho hd R.fits ?_)
  dsimp only
  refine wp_if_neg (by simp [byScan, Value.scannable]) ?_
  try refine wpAny_bind (wpAny_pure ?_)
  refine wpAny_bind (look_at R M hx hu (fun hm => ?_) fun K hm f2 f3 => ?_)
  · exact wpAny_pure (hQ false s.heap L es ep t (.refl a s.heap) R (fun _ => rfl) fun z => absurd hm z)
  · dsimp only
    refine wpAny_bind (wpAny_setState_of ho hd R.fits ?_)
    dsimp only
    obtain ⟨q2, q3, q9⟩ := R.tab.add f2 f3
    have q1 : (t.put (way t.mask (k.hash w) K)).2 = SetTable.below t.place (way t.mask (k.hash w) K) := rfl
    have q4 : (t.put (way t.mask (k.hash w) K)).1.mask = t.mask := rfl
    have q5 : (t.put (way t.mask (k.hash w) K)).1.led = t.led := rfl
    rw [len_h] at q2 q9
    generalize t.put (way t.mask (k.hash w) K) = pt at q1 q3 q4 q5 q9 ⊢
    obtain ⟨t1, pos⟩ := pt
    dsimp only at q1 q3 q4 q5 q9 ⊢
    subst q1
    generalize SetTable.below t.place (way t.mask (k.hash w) K) = pos at q2 q3 ⊢
    have eL : List.take pos (hashesK w L) ++ k.hash w :: List.drop pos (hashesK w L) = hashesK w (L.take pos ++ (k, x) :: L.drop pos) := by
      unfold hashesK
      rw [List.map_append, List.map_cons, List.map_take, List.map_drop]
    have er : (SetTable.insertAt es pos (k.hash w, Value.ref x)).toList = (L.take pos ++ (k, x) :: L.drop pos).map (ent w) := by
      rw [SetTable.toList_insertAt, R.rows, List.map_append, List.map_cons, List.map_take, List.map_drop]
      rfl
    rw [eL] at q3
    have pm : (L.take pos ++ (k, x) :: L.drop pos).Perm ((k, x) :: L) := by
      have z := List.perm_middle (a := (k, x)) (l₁ := L.take pos) (l₂ := L.drop pos)
      rw [List.take_append_drop] at z
      exact z
    generalize L.take pos ++ (k, x) :: L.drop pos = L1 at er pm q3
    generalize SetTable.insertAt es pos (k.hash w, Value.ref x) = es1 at er ⊢
    have l1 : L1.length = L.length + 1 := pm.length_eq
    have z1 := sz_rows er
    have nd1 : (L1.map Prod.fst).Nodup := (pm.map Prod.fst).nodup_iff.mpr (List.nodup_cons.mpr ⟨hm, R.nd⟩)
    have go : ∀ t2 : SetTable, t2.mask = t.mask → t2.led = t.led → t2.fill = L.length + 1 → TabB t2 (hashesK w L1) → wpAny (model P w) A (do
        storeSet a es1 t2
        if (!false && t2.tooFull) = true then do
          setRelay a (SetTable.grown (es.size + 1))
          pure true
        else pure true) Q E s := by
      intro t2 m1 m2 m3 T2
      have ld2 : w.params.followText "set-order" = true ∨ t2.led = true := by rw [m2]; exact R.led
      refine wpAny_bind (wpAny_storeSet_of ho hd ?_ (by rw [z1, l1, sizeLine_eq]; omega))
      have sb : Heap.SameBut a s.heap (s.heap.update a (Obj.putSet es1 t2)) := Heap.SameBut.update ..
      have ho1 := store_at (es' := es1) (t' := t2) ho hd
      generalize s.heap.update a (Obj.putSet es1 t2) = h1 at sb ho1 ⊢
      have ful : t2.tooFull = decide ((L.length + 1) * 5 ≥ t.mask * 3) := by
        unfold SetTable.tooFull
        rw [m3, m1]
      rw [ful, hz]
      by_cases c : (L.length + 1) * 5 ≥ t.mask * 3
      · refine wp_if_pos (by simpa using c) (wpAny_bind ?_)
        have nx : (t.mask = 7 ∧ L.length = 4) ∨ (t.mask = 31 ∧ L.length = 18) ∨ (t.mask = 127 ∧ L.length = 76) := by
          rcases R.tab.mB.is_ with e | e | e | e
          · exact .inl ⟨e, by omega⟩
          · exact .inr (.inl ⟨e, by omega⟩)
          · exact .inr (.inr ⟨e, by omega⟩)
          · omega
        have lay : ∀ N, SetTable.sizeAbove (SetTable.grown (L.length + 1)) = N + 1 → MaskB N → (L.length + 1) * 5 < N * 3 →
            wpAny (model P w) A (setRelay a (SetTable.grown (L.length + 1))) (fun _ s' => wpAny (model P w) A (pure true) Q E s') E { s with heap := h1 } := fun N e1 e2 e4 =>
          relay (s := { s with heap := h1 }) ho1 ⟨hex.1, hex.2.1, hex.2.2⟩ rfl er T2 (by rw [l1, m1]; rcases nx with ⟨_, _⟩ | ⟨_, _⟩ | ⟨_, _⟩ <;> omega) nd1 ld2 (by omega) (M := N) e1 e2 (by rw [l1]; exact e4)
            fun h2 L2 es2 ep2 t3 sb2 R2 p2 => wpAny_pure (hQ true h2 L2 es2 ep2 t3 (sb.trans sb2) R2 (fun z => absurd z hm) fun _ => p2.trans pm)
        rcases nx with ⟨_, e⟩ | ⟨_, e⟩ | ⟨_, e⟩
        · exact lay 31 (by rw [e]; exact size_20) mb31 (by omega)
        · exact lay 127 (by rw [e]; exact size_76) mb127 (by omega)
        · exact lay 511 (by rw [e]; exact size_308) mb511 (by omega)
      · refine wp_if_neg (by simpa using c) (wpAny_pure (hQ true h1 L1 es1 (ep + 1) t2 sb ⟨⟨_, ho1, ⟨hex.1, hex.2.1, hex.2.2⟩, rfl⟩, er, T2, nd1, ld2, by rw [l1, m1]; omega, by omega⟩ (fun z => absurd z hm) fun _ => pm))
    have g1 := go t1 q4 q5 q9 q3
    have g2 := go { t1 with plain := false } q4 q5 q9 ⟨q3.up, q3.noD, q3.many, q3.mB, q3.in_, q3.onW⟩
    by_cases hp : t1.plain = true
    · refine wp_if_pos hp (wpAny_bind (byValueOr 8 hx.1 fun b => ?_))
      cases b with
      | true => exact g1
      | false => exact g2
    · exact wp_if_neg hp (wpAny_bind (wpAny_pure g1))
/-! ### set(xs) -/
theorem KSet.keep {h h' : Heap} (R : KSet w h a L es ep t) (ha : ∀ o, h.get? a = some o → h'.get? a = some o) : KSet w h' a L es ep t := by
  obtain ⟨o, ho, r⟩ := R.ob
  exact ⟨⟨o, ha o ho, r⟩, R.rows, R.tab, R.nd, R.led, R.room, R.few⟩
theorem kset_new {h : Heap} (ho : h.get? a = some { cls := .type "set", dict := none, data := .set #[] 0 (.fresh 0 0 (!w.params.followText "set-order")) }) : KSet w h a [] #[] 0 (.fresh 0 0 (!w.params.followText "set-order")) where
  ob := ⟨_, ho, ⟨rfl, rfl, rfl⟩, rfl⟩
  rows := rfl
  tab := ⟨List.Pairwise.nil, rfl, rfl, mb7, (fun x hx => nomatch hx), (fun i h j hi => nomatch hi)⟩
  nd := List.nodup_nil
  led := by
    show _ ∨ (!w.params.followText "set-order") = true
    cases w.params.followText "set-order" <;> simp
  room := by
    show 0 * 5 < 7 * 3
    decide
  few := by
    show 0 < 300
    decide
/-- L has what the first i of ks have -/
structure Has (ks : List Kp2) (i : Nat) (L : List Kp2) : Prop where
  sub : ∀ p ∈ L, p ∈ ks.take i
  all : ∀ p ∈ ks.take i, p.1 ∈ L.map Prod.fst
  len : L.length ≤ i
theorem Has.next {ks L L' : List Kp2} {i : Nat} {p : Kp2} (g : Has ks i L) (hi : ks[i]? = some p) (c1 : p.1 ∈ L.map Prod.fst → L' = L) (c2 : p.1 ∉ L.map Prod.fst → L'.Perm (p :: L)) : Has ks (i + 1) L' := by
  have et : ks.take (i + 1) = ks.take i ++ [p] := by rw [List.take_add_one, hi]; rfl
  by_cases c : p.1 ∈ L.map Prod.fst
  · rw [c1 c]
    refine ⟨fun q hq => ?_, fun q hq => ?_, Nat.le_succ_of_le g.len⟩
    · rw [et]; exact List.mem_append_left _ (g.sub q hq)
    · rw [et] at hq
      rcases List.mem_append.mp hq with z | z
      · exact g.all q z
      · rw [List.mem_singleton.mp z]; exact c
  · have pm := c2 c
    refine ⟨fun q hq => ?_, fun q hq => ?_, by rw [pm.length_eq]; exact Nat.succ_le_succ g.len⟩
    · rw [et]
      rcases List.mem_cons.mp (pm.mem_iff.mp hq) with z | z
      · rw [z]; exact List.mem_append_right _ (List.mem_singleton.mpr rfl)
      · exact List.mem_append_left _ (g.sub q z)
    · rw [(pm.map Prod.fst).mem_iff, List.map_cons]
      rw [et] at hq
      rcases List.mem_append.mp hq with z | z
      · exact List.mem_cons_of_mem _ (g.all q z)
      · rw [List.mem_singleton.mp z]; exact List.mem_cons_self
end
end Qk
set_option maxRecDepth 100000
set_option maxHeartbeats 4000000
namespace Qk
open PySem PySem.Spec PyProof.Rows L2
section
variable {P : Program} {w : World} {A : Around} {R : Result → Shared → Prop} {I : Addr} {fp wr : List Addr} {G : Array GenState → Array GenState → Prop} {n : Nat} {Pv : Nat → Value → Prop} {St : Nat → Shared → Prop}
/-- the set is filled from what is walked over -/
theorem fillK (W : WalksS P w A.in1 I fp wr G n Pv St) (S : Addr) (hSf : S ∉ fp) (ks : List Kp2) (hn : n = ks.length) (hfew : ks.length < 300) (hval : ∀ i v, Pv i v → ∃ p, ks[i]? = some p ∧ v = .ref p.2)
    (h0 : Heap) (hk : KeysAt h0 ks) (hS0 : h0.get? S = none) (hw0 : ∀ b ∈ wr, h0.get? b = none) (hu : A.in1.units + 8 < cLine) :
    ∀ (k i : Nat) (s : Shared), n - i = k → i ≤ n → St i s → (∀ b o, h0.get? b = some o → s.heap.get? b = some o) → (∃ L es ep t, KSet w s.heap S L es ep t ∧ Has ks i L) →
      (∀ s' L es ep t, Moved (S :: wr) G s s' → KSet w s'.heap S L es ep t → Has ks n L → (∀ b o, h0.get? b = some o → s'.heap.get? b = some o) → R (.ok (.ret .none)) s') →
      codeAny (model P w) A (.builtin "set.update.loop" ⟨[.ref S, .ref I], []⟩) R s := by
  have hSw : S ∉ wr := fun h => hSf (W.sub _ h)
  have hsub : ∀ b ∈ wr, b ∈ S :: wr := fun b hb => List.mem_cons_of_mem _ hb
  have old : ∀ {s s' : Shared}, Moved wr G s s' → (∀ b o, h0.get? b = some o → s.heap.get? b = some o) → ∀ b o, h0.get? b = some o → s'.heap.get? b = some o := fun hm q b o e =>
    hm.heap b o (fun m => by rw [hw0 b m] at e; cases e) (q b o e)
  intro k
  induction k with
  | zero =>
    rintro i s e hi hst q ⟨L, es, ep, t, g, gh⟩ hR
    obtain rfl : i = n := by omega
    refine codeAny_builtin PyProof.Rows.F.entry_set_update_loop ?_
    rw [Around.under_plainId PyProof.Rows.F.plain_set_update_loop _]
    exact wpAny_bind (m := pyNext (.ref I)) (W.done s _ _ hst fun s' hm => wpAny_pure (hR s' L es ep t (hm.mono hsub) (g.keep fun o e => hm.heap S o hSw e) gh (old hm q)))
  | succ k ih =>
    rintro i s e hi hst q ⟨L, es, ep, t, g, gh⟩ hR
    have hlt : i < n := by omega
    refine codeAny_builtin PyProof.Rows.F.entry_set_update_loop ?_
    rw [Around.under_plainId PyProof.Rows.F.plain_set_update_loop _]
    refine wpAny_bind (m := pyNext (.ref I)) (W.item i s _ _ hlt hst fun v s' hP hst' hm => ?_)
    obtain ⟨p, hp, rfl⟩ := hval i v hP
    have q' := old hm q
    have at' : KeysAt s'.heap ks := fun u m => (hk u m).keep q'
    have in' : KeysAt s'.heap L := fun u m => at' u (List.mem_of_mem_take (gh.sub u m))
    have hx := at' p (List.mem_of_getElem? hp)
    show wpAny _ A.in1 (holding [Value.ref p.2] (setAdd S (.ref p.2)) >>= _) _ _ s'
    refine wpAny_bind (wpAny_holding ?_)
    unfold setAdd
    refine wpAny_holding (wpAny_bind ((nestedKind P w).pyHash hu hx ?_))
    refine put_in (s := { s' with toks := s'.toks + (nestedKind P w).draws p.1 }) (g.keep fun o e => hm.heap S o hSw e) in' hx hu (by have := gh.len; omega) fun b h' L' es' ep' t' sb g2 c1 c2 => ?_
    have q2 : ∀ b o, h0.get? b = some o → h'.get? b = some o := fun b o e => (sb.2 b fun z => by rw [z, hS0] at e; cases e).trans (q' b o e)
    refine wpAny_pure ⟨plainId_quiet PyProof.Rows.F.plain_set_update_loop _, ih (i + 1) _ (by omega) hlt (W.frame _ s' _ _ hst' (Nat.le_add_right _ _) fun b hb o e => ?_) q2 ⟨L', es', ep', t', g2, gh.next hp c1 c2⟩ fun s'' L2 es2 ep2 t2 hm2 g3 gh3 q3 => ?_⟩
    · rw [sb.2 b fun z => hSf (z ▸ hb)]
      exact e
    · refine hR s'' L2 es2 ep2 t2 (Moved.trans W.gtrans ((hm.mono hsub).then_heap (Nat.le_add_right _ _) fun b o hb e => ?_) hm2) g3 gh3 q3
      rw [sb.2 b fun z => hb (by rw [z]; exact List.mem_cons_self)]
      exact e
end
section
variable {P : Program} {w : World} {A : Around} {E : Value → Shared → Prop} {s : Shared}
set_option maxHeartbeats 8000000 in
theorem setK_list {l : Addr} {items : Array Value} (ks : List Kp2) {Q : Value → Shared → Prop} (hh : A.handled = none) (hl : s.heap.IsList l items) (hi : items.toList = ks.map fun p => Value.ref p.2) (hk : KeysAt s.heap ks) (hf : ks.length < 300) (hu : A.units + 16 < cLine)
    (h : ∀ (h' : Heap) (tk : Nat) L es ep t, KSet w h' s.heap.objs.size L es ep t → Has ks ks.length L → (∀ b o, s.heap.get? b = some o → h'.get? b = some o) → Q (.ref s.heap.objs.size) { s with heap := h', toks := tk }) :
    wpAny (model P w) A (call (.type "set") [.ref l]) Q E s := by
  obtain ⟨c, tl, hmro⟩ := PySem.F.called_set.mro
  have hmade := PySem.F.called_set.made
  have hsub := PySem.F.called_set.sub
  have hsz : items.size = ks.length := by rw [← Array.length_toList, hi, List.length_map]
  refine wpAny_call (codeAny_of_tree ?_)
  show wpAny _ _ (callAny (.type "set") _) _ _ _
  refine wpAny_pure ⟨Code.quiet_builtin _ (by decide +kernel), codeAny_builtin PySem.F.entry_type_call ?_⟩
  rw [Around.under_plain (weight_type_call_type "set" [.ref l] []) rfl]
  have q1 := PySem.F.called_set.notType
  have q2 := PySem.F.called_set.canCreate
  have q3 := PySem.F.typeCall_set_1 (.ref l)
  repeat (any_goals (first | assumption | wp_step))
  obtain ⟨B, hB⟩ : ∃ B : Bool, B = !w.params.followText "set-order" := ⟨_, rfl⟩
  refine codeAny_mono (code_set_led1 (.ref l) (E := E) (Q₁ := fun v s₁ => v = .ref s.heap.objs.size ∧ s₁ = { s with heap := s.heap.push { cls := .type "set", dict := none, data := .set #[] 0 (.fresh 0 0 B) } }) ⟨rfl, by rw [hB]⟩) fun r s₁ hr => ?_
  cases r with
  | error e => exact hr
  | ok fl =>
    cases fl with
    | ret v =>
      obtain ⟨rfl, rfl⟩ := hr
      have hS : (s.heap.push { cls := .type "set", dict := none, data := .set #[] 0 (.fresh 0 0 B) }).get? s.heap.objs.size = some { cls := .type "set", dict := none, data := .set #[] 0 (.fresh 0 0 B) } := Heap.get?_push_size _ rfl
      have hT : Shared.TypeIs { s with heap := s.heap.push { cls := .type "set", dict := none, data := .set #[] 0 (.fresh 0 0 B) } } (.ref s.heap.objs.size) "set" := ⟨_, hS, rfl⟩
      have q4 := PySem.F.called_set.init.lookup
      have q5 := PySem.F.called_set.init.bind (.ref s.heap.objs.size)
      repeat (any_goals (first | assumption | wp_step))
      refine codeAny_mono (codeAny_call_builtin (R := wants (fun r s₂ => r = .none ∧ ∃ h' tk L es ep t, s₂ = { s with heap := h', toks := tk } ∧ KSet w h' s.heap.objs.size L es ep t ∧ Has ks ks.length L ∧ (∀ b o, s.heap.get? b = some o → h'.get? b = some o)) E)
        PySem.F.called_set.init.plain PySem.F.entry_set_init (check_set_init_1 hT ?_)) fun r₂ s₂ hr₂ => ?_
      · have hlS : l < s.heap.objs.size := by
          obtain ⟨ol, hol, _⟩ := hl
          exact Heap.lt_size hol
        have hl1 : (s.heap.push { cls := .type "set", dict := none, data := .set #[] 0 (.fresh 0 0 B) }).IsList l items := hl.push _
        obtain ⟨ol, hol, hcl, nl, hdl⟩ := hl1
        obtain ⟨ocls, odict, odata, oslots⟩ := ol
        simp only at hcl hdl
        subst hcl; subst hdl
        have hol' := hol
        have q6 := PySem.F.sub_list_set
        have q7 := PySem.F.sub_list_frozenset
        have q8 : (Value.type "list" == Value.type "dict") = false := by decide
        have hl1 : (s.heap.push { cls := .type "set", dict := none, data := .set #[] 0 (.fresh 0 0 B) }).IsList l items := ⟨_, hol, rfl, nl, rfl⟩
        unfold Builtin.«set.__init__» noKeywords Builtin.Frozenset.updateFrom
        generalize hPI : pyIter = PI
        wp_walk
        subst hPI
        refine wpAny_pyIter_list hl1 ?_
        refine wpAny_bind (wpAny_runValue ?_)
        have hh3 : A.in1.in1.in1.handled = none := by simp [hh]
        have hps : (s.heap.push { cls := .type "set", dict := none, data := .set #[] 0 (.fresh 0 0 B) }).objs.size = s.heap.objs.size + 1 := Heap.size_push _ _
        have hneI : l ≠ (s.heap.push { cls := .type "set", dict := none, data := .set #[] 0 (.fresh 0 0 B) }).objs.size := by
          rw [hps]
          exact Nat.ne_of_lt (Nat.lt_succ_of_lt hlS)
        have hSf : s.heap.objs.size ∉ [(s.heap.push { cls := .type "set", dict := none, data := .set #[] 0 (.fresh 0 0 B) }).objs.size, l] := by
          rw [hps]
          simp only [List.mem_cons, List.not_mem_nil, or_false, not_or]
          exact ⟨Nat.ne_of_lt (Nat.lt_succ_self _), Nat.ne_of_gt hlS⟩
        have hval : ∀ (i : Nat) (v : Value), items[i]? = some v → ∃ p, ks[i]? = some p ∧ v = .ref p.2 := fun i v hv => by
          rw [← Array.getElem?_toList, hi, List.getElem?_map] at hv
          obtain ⟨p, hp, e⟩ := Option.map_eq_some_iff.mp hv
          exact ⟨p, hp, e.symm⟩
        refine fillK ((Walks.list hh3 _ l hneI items).toS) s.heap.objs.size hSf ks hsz hf hval s.heap hk (Heap.get?_none_of_le (Nat.le_refl _)) (fun b hb => Heap.get?_none_of_le (by rw [List.mem_singleton.mp hb, hps]; exact Nat.le_succ _))
          (by simp only [Around.in1_units]; omega) (items.size - 0) 0 _ (by omega) (Nat.zero_le _) ⟨⟨_, Heap.get?_push_size _ rfl, rfl, rfl⟩, (hl1.push _)⟩ (fun b o e => Heap.get?_push_of_some _ (Heap.get?_push_of_some _ e)) ?hS0 ?hR
        case hS0 =>
          have hget : ((s.heap.push { cls := .type "set", dict := none, data := .set #[] 0 (.fresh 0 0 B) }).push { cls := .type "list_iterator", data := .fields #[.ref l, .int 0 0] }).get? s.heap.objs.size
              = some { cls := .type "set", dict := none, data := .set #[] 0 (.fresh 0 0 B) } := Heap.get?_push_of_some _ hS
          refine ⟨[], #[], 0, .fresh 0 0 B, ?_, ⟨(fun p hp => nomatch hp), (fun p hp => by simp at hp), Nat.le_refl _⟩⟩
          subst hB
          exact kset_new hget
        case hR =>
          intro s' L es ep t hm hF g hk'
          obtain ⟨h', g', d', tk', os'⟩ := s'
          have eg : g' = s.gens := hm.gens
          have ed : d' = s.drawn := hm.drawn
          have eo : os' = s.os := hm.os
          subst eg; subst ed; subst eo
          show wpAny _ _ _ _ _ _
          refine wpAny_pure ?_
          show wpAny _ _ (ret Value.none) _ _ _
          rw [hsz] at g
          exact wpAny_pure ⟨rfl, h', tk', L, es, ep, t, rfl, hF, g, hk'⟩
      · cases r₂ with
        | error e => exact hr₂
        | ok fl₂ =>
          cases fl₂ with
          | ret r =>
            obtain ⟨rfl, h', tk, L, es, ep, t, rfl, hF, g, hk'⟩ := hr₂
            repeat (any_goals (first | assumption | wp_step))
            exact h _ _ _ _ _ _ hF g hk'
          | _ => exact hr₂.elim
    | _ => exact hr.elim
set_option maxHeartbeats 8000000 in
theorem setK_tuple {l : Addr} {items : Array Value} (ks : List Kp2) {Q : Value → Shared → Prop} (hh : A.handled = none) (hl : s.heap.IsTuple l items) (hi : items.toList = ks.map fun p => Value.ref p.2) (hk : KeysAt s.heap ks) (hf : ks.length < 300) (hu : A.units + 16 < cLine)
    (h : ∀ (h' : Heap) (tk : Nat) L es ep t, KSet w h' s.heap.objs.size L es ep t → Has ks ks.length L → (∀ b o, s.heap.get? b = some o → h'.get? b = some o) → Q (.ref s.heap.objs.size) { s with heap := h', toks := tk }) :
    wpAny (model P w) A (call (.type "set") [.ref l]) Q E s := by
  obtain ⟨c, tl, hmro⟩ := PySem.F.called_set.mro
  have hmade := PySem.F.called_set.made
  have hsub := PySem.F.called_set.sub
  have hsz : items.size = ks.length := by rw [← Array.length_toList, hi, List.length_map]
  refine wpAny_call (codeAny_of_tree ?_)
  show wpAny _ _ (callAny (.type "set") _) _ _ _
  refine wpAny_pure ⟨Code.quiet_builtin _ (by decide +kernel), codeAny_builtin PySem.F.entry_type_call ?_⟩
  rw [Around.under_plain (weight_type_call_type "set" [.ref l] []) rfl]
  have q1 := PySem.F.called_set.notType
  have q2 := PySem.F.called_set.canCreate
  have q3 := PySem.F.typeCall_set_1 (.ref l)
  repeat (any_goals (first | assumption | wp_step))
  obtain ⟨B, hB⟩ : ∃ B : Bool, B = !w.params.followText "set-order" := ⟨_, rfl⟩
  refine codeAny_mono (code_set_led1 (.ref l) (E := E) (Q₁ := fun v s₁ => v = .ref s.heap.objs.size ∧ s₁ = { s with heap := s.heap.push { cls := .type "set", dict := none, data := .set #[] 0 (.fresh 0 0 B) } }) ⟨rfl, by rw [hB]⟩) fun r s₁ hr => ?_
  cases r with
  | error e => exact hr
  | ok fl =>
    cases fl with
    | ret v =>
      obtain ⟨rfl, rfl⟩ := hr
      have hS : (s.heap.push { cls := .type "set", dict := none, data := .set #[] 0 (.fresh 0 0 B) }).get? s.heap.objs.size = some { cls := .type "set", dict := none, data := .set #[] 0 (.fresh 0 0 B) } := Heap.get?_push_size _ rfl
      have hT : Shared.TypeIs { s with heap := s.heap.push { cls := .type "set", dict := none, data := .set #[] 0 (.fresh 0 0 B) } } (.ref s.heap.objs.size) "set" := ⟨_, hS, rfl⟩
      have q4 := PySem.F.called_set.init.lookup
      have q5 := PySem.F.called_set.init.bind (.ref s.heap.objs.size)
      repeat (any_goals (first | assumption | wp_step))
      refine codeAny_mono (codeAny_call_builtin (R := wants (fun r s₂ => r = .none ∧ ∃ h' tk L es ep t, s₂ = { s with heap := h', toks := tk } ∧ KSet w h' s.heap.objs.size L es ep t ∧ Has ks ks.length L ∧ (∀ b o, s.heap.get? b = some o → h'.get? b = some o)) E)
        PySem.F.called_set.init.plain PySem.F.entry_set_init (check_set_init_1 hT ?_)) fun r₂ s₂ hr₂ => ?_
      · have hlS : l < s.heap.objs.size := by
          obtain ⟨ol, hol, _⟩ := hl
          exact Heap.lt_size hol
        have hl1 : (s.heap.push { cls := .type "set", dict := none, data := .set #[] 0 (.fresh 0 0 B) }).IsTuple l items := hl.push _
        obtain ⟨ol, hol, hcl, nl, hdl⟩ := hl1
        obtain ⟨ocls, odict, odata, oslots⟩ := ol
        simp only at hcl hdl
        subst hcl; subst hdl
        have hol' := hol
        have q6 := PySem.F.sub_tuple_set
        have q7 := PySem.F.sub_tuple_frozenset
        have q8 : (Value.type "tuple" == Value.type "dict") = false := by decide
        have hl1 : (s.heap.push { cls := .type "set", dict := none, data := .set #[] 0 (.fresh 0 0 B) }).IsTuple l items := ⟨_, hol, rfl, nl, rfl⟩
        unfold Builtin.«set.__init__» noKeywords Builtin.Frozenset.updateFrom
        generalize hPI : pyIter = PI
        wp_walk
        subst hPI
        refine wpAny_pyIter_tuple hl1 ?_
        refine wpAny_bind (wpAny_runValue ?_)
        have hh3 : A.in1.in1.in1.handled = none := by simp [hh]
        have hps : (s.heap.push { cls := .type "set", dict := none, data := .set #[] 0 (.fresh 0 0 B) }).objs.size = s.heap.objs.size + 1 := Heap.size_push _ _
        have hneI : l ≠ (s.heap.push { cls := .type "set", dict := none, data := .set #[] 0 (.fresh 0 0 B) }).objs.size := by
          rw [hps]
          exact Nat.ne_of_lt (Nat.lt_succ_of_lt hlS)
        have hSf : s.heap.objs.size ∉ [(s.heap.push { cls := .type "set", dict := none, data := .set #[] 0 (.fresh 0 0 B) }).objs.size, l] := by
          rw [hps]
          simp only [List.mem_cons, List.not_mem_nil, or_false, not_or]
          exact ⟨Nat.ne_of_lt (Nat.lt_succ_self _), Nat.ne_of_gt hlS⟩
        have hval : ∀ (i : Nat) (v : Value), items[i]? = some v → ∃ p, ks[i]? = some p ∧ v = .ref p.2 := fun i v hv => by
          rw [← Array.getElem?_toList, hi, List.getElem?_map] at hv
          obtain ⟨p, hp, e⟩ := Option.map_eq_some_iff.mp hv
          exact ⟨p, hp, e.symm⟩
        refine fillK ((Walks.tuple hh3 _ l hneI items).toS) s.heap.objs.size hSf ks hsz hf hval s.heap hk (Heap.get?_none_of_le (Nat.le_refl _)) (fun b hb => Heap.get?_none_of_le (by rw [List.mem_singleton.mp hb, hps]; exact Nat.le_succ _))
          (by simp only [Around.in1_units]; omega) (items.size - 0) 0 _ (by omega) (Nat.zero_le _) ⟨⟨_, Heap.get?_push_size _ rfl, rfl, rfl⟩, (hl1.push _)⟩ (fun b o e => Heap.get?_push_of_some _ (Heap.get?_push_of_some _ e)) ?hS0 ?hR
        case hS0 =>
          have hget : ((s.heap.push { cls := .type "set", dict := none, data := .set #[] 0 (.fresh 0 0 B) }).push { cls := .type "tuple_iterator", data := .fields #[.ref l, .int 0 0] }).get? s.heap.objs.size
              = some { cls := .type "set", dict := none, data := .set #[] 0 (.fresh 0 0 B) } := Heap.get?_push_of_some _ hS
          refine ⟨[], #[], 0, .fresh 0 0 B, ?_, ⟨(fun p hp => nomatch hp), (fun p hp => by simp at hp), Nat.le_refl _⟩⟩
          subst hB
          exact kset_new hget
        case hR =>
          intro s' L es ep t hm hF g hk'
          obtain ⟨h', g', d', tk', os'⟩ := s'
          have eg : g' = s.gens := hm.gens
          have ed : d' = s.drawn := hm.drawn
          have eo : os' = s.os := hm.os
          subst eg; subst ed; subst eo
          show wpAny _ _ _ _ _ _
          refine wpAny_pure ?_
          show wpAny _ _ (ret Value.none) _ _ _
          rw [hsz] at g
          exact wpAny_pure ⟨rfl, h', tk', L, es, ep, t, rfl, hF, g, hk'⟩
      · cases r₂ with
        | error e => exact hr₂
        | ok fl₂ =>
          cases fl₂ with
          | ret r =>
            obtain ⟨rfl, h', tk, L, es, ep, t, rfl, hF, g, hk'⟩ := hr₂
            repeat (any_goals (first | assumption | wp_step))
            exact h _ _ _ _ _ _ hF g hk'
          | _ => exact hr₂.elim
    | _ => exact hr.elim
end
end Qk
set_option maxRecDepth 100000
set_option maxHeartbeats 4000000
namespace Qk
open PySem PySem.Spec PyProof.Rows L2
/-! ### over the layer: set(xs) of questions, sorted(..) of it -/
def keyS (x : Str) : NestedKey := .text x
def nkQ (q : Qd) : NestedKey := .tup [.tup (q.1.map keyS), .text q.2]
theorem map_keyS_inj : ∀ {xs ys : List Str}, xs.map keyS = ys.map keyS → xs = ys
  | [], [], _ => rfl
  | [], _ :: _, h => nomatch h
  | _ :: _, [], h => nomatch h
  | x :: xs, y :: ys, h => by
    injection h with h1 h2
    injection h1 with h1
    rw [h1, map_keyS_inj h2]
theorem keyQ_inj {p q : Qd} (h : nkQ p = nkQ q) : p = q := by
  unfold nkQ at h
  injection h with h
  injection h with h1 h2
  injection h1 with h1
  injection h2 with h2
  injection h2 with h2
  exact Prod.ext (map_keyS_inj h1) h2
theorem depth_keyS : ∀ xs : List Str, NestedKey.depthAll (xs.map keyS) = 0
  | [] => rfl
  | _ :: xs => by
    rw [List.map_cons, NestedKey.depthAll, depth_keyS xs]
    rfl
theorem depth_keyQ (q : Qd) : (nkQ q).depth ≤ 8 := by
  unfold nkQ
  simp only [NestedKey.depth, NestedKey.depthAll, depth_keyS]
  decide
theorem all_keyS {h : Heap} : ∀ {us : List Value} {xs : List Str}, PyProof.Rows.StrsAre us xs → NestedAll h (xs.map keyS) us
  | _, _, .nil => .nil
  | _, _, .cons x t r => .cons (.text x t) (all_keyS r)
theorem IsQ.key {h : Heap} {a : Addr} {q : Qd} (x : IsQ h (.ref a) q) : KAt h (nkQ q) a := by
  obtain ⟨a', c, o, oc, t, us, n, m, e, ho, hc, hd, hoc, hcc, hdc, hs⟩ := x
  cases e
  exact ⟨.tup ho hc hd (.cons (.tup hoc hcc hdc (by simpa using all_keyS hs)) (.cons (.text _ _) .nil)), depth_keyQ q⟩
/-- the pairs of a question and where it stands -/
abbrev QPs := List (Qd × Addr)
def toK (L : QPs) : List Kp2 := L.map fun p => (nkQ p.1, p.2)
def KSet0 (w : World) (h : Heap) (a : Addr) (L : QPs) : Prop := ∃ es ep t, KSet w h a (toK L) es ep t
/-- the set of questions at a -/
def SetQ (w : World) (a : Addr) (L : QPs) : HO := .ext fun h => KSet0 w h a L
theorem setQ_new {P : Program} {w : World} {H : Hp} {h : Heap} {a : Addr} {L : QPs} (R : KSet0 w h a L) : ObjOk P w H h a (SetQ w a L) := by
  have ⟨es, ep, t, g⟩ := R
  have ⟨o, ho, _⟩ := g.ob
  exact ⟨R, ⟨o, ho⟩, fun h1 h2 p k => by
    have ⟨es', ep', t', g'⟩ : KSet0 w h1 a L := p
    exact ⟨es', ep', t', g'.keep fun u e => k u e⟩⟩
theorem fst_toK (L : QPs) : (toK L).map Prod.fst = L.map fun p => nkQ p.1 := by
  unfold toK
  rw [List.map_map]
  rfl
theorem mem_keys {L : QPs} {q : Qd} : nkQ q ∈ (toK L).map Prod.fst ↔ q ∈ L.map Prod.fst := by
  rw [fst_toK, List.mem_map, List.mem_map]
  exact ⟨fun ⟨p, hp, e⟩ => ⟨p, hp, keyQ_inj e⟩, fun ⟨p, hp, e⟩ => ⟨p, hp, by rw [e]⟩⟩
theorem nodup_keys {L : QPs} (h : ((toK L).map Prod.fst).Nodup) : (L.map Prod.fst).Nodup := by
  rw [fst_toK] at h
  have e : (L.map fun p => nkQ p.1) = (L.map Prod.fst).map nkQ := by rw [List.map_map]; rfl
  rw [e] at h
  exact List.Pairwise.of_map nkQ (fun a b hne e => hne (congrArg nkQ e)) h
theorem refs_q : ∀ {L : QPs} {us : List Value}, Vals (L.map fun p => V.ref p.2) us → us = (toK L).map fun p => Value.ref p.2
  | [], _, .nil => rfl
  | p :: L, _, .cons r t => by
    cases r
    show _ = Value.ref p.2 :: _
    rw [refs_q t]
    rfl
section
variable {X : Cx}
theorem Inv.isQ {pins : List (Addr × Obj)} {σ : L2.St} {H : Hp} {s : Shared} {a : Addr} {q : Qd} (I : Inv X pins σ H s) (h : QAt H a q.1 q.2) : IsQ s.heap (.ref a) q := by
  obtain ⟨c, g1, g2⟩ := h
  obtain ⟨_, i1, r1, o, ho, hc, n, hd⟩ := I.hok _ _ g1
  obtain ⟨_, i2, r2, oc, hoc, hcc, m, hdc⟩ := I.hok _ _ g2
  obtain ⟨u1, u2, rfl, ra, rb⟩ := vals2 r1
  obtain rfl : u1 = Value.ref c := ra
  obtain ⟨tk, rfl⟩ := rb
  exact ⟨a, c, o, oc, tk, i2, n, m, rfl, ho, hc, hd, hoc, hcc, hdc, r2.strs⟩
theorem QL.pairs {H : Hp} : ∀ {xs : List V} {qs : List Qd}, QL H xs qs → ∃ L : QPs, xs = L.map (fun p => V.ref p.2) ∧ qs = L.map Prod.fst ∧ ∀ p ∈ L, QAt H p.2 p.1.1 p.1.2
  | _, _, .nil => ⟨[], rfl, rfl, fun p hp => nomatch hp⟩
  | _, _, .cons (b := q) ⟨t, e, z⟩ r => by
    obtain ⟨L, rfl, rfl, h⟩ := QL.pairs r
    refine ⟨(q, t) :: L, by rw [e]; rfl, rfl, fun p hp => ?_⟩
    rcases List.mem_cons.mp hp with rfl | hp
    · exact z
    · exact h p hp
/-- the members of set(xs): questions of xs, each of them once -/
structure SetOfQ (H : Hp) (xs : List V) (qs : List Qd) (M : QPs) : Prop where
  at_ : ∀ p ∈ M, QAt H p.2 p.1.1 p.1.2
  sub : ∀ p ∈ M, V.ref p.2 ∈ xs
  mem : ∀ q, q ∈ M.map Prod.fst ↔ q ∈ qs
  nd : (M.map Prod.fst).Nodup
def rSetQ (K : PySem.W.Frag) (w : World) : List V → Hp → VK → Prop := fun vs H Q => ∃ (l : Addr) (xs : List V) (qs : List Qd), vs = [.ref l] ∧ (SqL K H l xs ∨ SqT K H l xs) ∧ QL H xs qs ∧ xs.length < 300 ∧
  ∀ (p : Addr) (M : QPs), H p = none → SetOfQ H xs qs M → Q (.ref p) (upd H p (SetQ w p M))
theorem cr_setQ (hc : X.calm = true) (hu : X.A.units + 16 < cLine) : CallR X (.type "set") (rSetQ X.K X.w) := by
  intro pins s σ H vs us Q I r h
  obtain ⟨l, xs, qs, rfl, hs, hq, hz, q⟩ := h
  obtain ⟨u, rfl, rx⟩ := vals1 r
  cases rx
  obtain ⟨L, rfl, rfl, at_⟩ := hq.pairs
  have keys : KeysAt s.heap (toK L) := fun p hp => by
    obtain ⟨x, hx, rfl⟩ := List.mem_map.mp hp
    exact (Inv.isQ I (at_ x hx)).key
  have hn : H s.heap.objs.size = none := I.hok.fresh (Nat.le_refl _)
  have len : (toK L).length < 300 := by
    unfold toK
    rw [List.length_map] at hz ⊢
    exact hz
  have fin : ∀ (h' : Heap) (tk : Nat) M es ep t, KSet X.w h' s.heap.objs.size M es ep t → Has (toK L) (toK L).length M → (∀ b o, s.heap.get? b = some o → h'.get? b = some o) →
      EP X pins σ Q (.ref s.heap.objs.size) { s with heap := h', toks := tk } := fun h' tk M es ep t g gh hk => by
    have back : ∀ M : List Kp2, (∀ p ∈ M, p ∈ toK L) → ∃ M' : QPs, (∀ p ∈ M', p ∈ L) ∧ M = toK M' := by
      intro M
      induction M with
      | nil => exact fun _ => ⟨[], (fun p hp => nomatch hp), rfl⟩
      | cons x M ih =>
        intro hM
        obtain ⟨M', m1, m2⟩ := ih fun p hp => hM p (List.mem_cons_of_mem _ hp)
        obtain ⟨y, hy, e⟩ := List.mem_map.mp (hM x List.mem_cons_self)
        refine ⟨y :: M', fun p hp => ?_, ?_⟩
        · rcases List.mem_cons.mp hp with z | z
          · rw [z]; exact hy
          · exact m1 p z
        · rw [m2, ← e]; rfl
    obtain ⟨M', m1, rfl⟩ := back M fun p hp => List.mem_of_mem_take (gh.sub p hp)
    refine ⟨.ref s.heap.objs.size, _, I.laid (t' := tk) hk (Nat.le_refl _) (setQ_new ⟨es, ep, t, g⟩), rfl, q _ M' hn ⟨fun p hp => at_ p (m1 p hp), fun p hp => List.mem_map.mpr ⟨p, m1 p hp, rfl⟩, fun z => ⟨fun hz => ?_, fun hz => ?_⟩, nodup_keys g.nd⟩⟩
    · obtain ⟨p, hp, e⟩ := List.mem_map.mp hz
      exact List.mem_map.mpr ⟨p, m1 p hp, e⟩
    · obtain ⟨p, hp, rfl⟩ := List.mem_map.mp hz
      refine mem_keys.mp (gh.all (nkQ p.1, p.2) ?_)
      rw [List.take_length]
      exact List.mem_map.mpr ⟨p, hp, rfl⟩
  rcases hs with hs | hs
  · obtain ⟨its, rv, pl, _⟩ := I.list hs
    exact setK_list (toK L) (I.ok.hd hc) pl.isList (by simpa using refs_q rv) keys len hu fin
  · obtain ⟨its, rv, pl, _⟩ := I.tuple hs
    exact setK_tuple (toK L) (I.ok.hd hc) pl (by simpa using refs_q rv) keys len hu fin
/-! ### sorted of such a set -/
/-- the question of a value that is a member -/
def kOf (M : QPs) : Value → Qd
  | .ref a => ((M.find? fun p => decide (p.2 = a)).map Prod.fst).getD ([], "")
  | _ => ([], "")
theorem kOf_at {M : QPs} {p : Qd × Addr} (hp : p ∈ M) : ∃ q ∈ M, q.2 = p.2 ∧ kOf M (.ref p.2) = q.1 := by
  cases hf : M.find? fun q => decide (q.2 = p.2) with
  | none => exact absurd (decide_eq_true rfl) (List.find?_eq_none.mp hf p hp)
  | some q =>
    refine ⟨q, List.mem_of_find?_eq_some hf, (by have := List.find?_some hf; simpa using this), ?_⟩
    show ((M.find? fun q => decide (q.2 = p.2)).map Prod.fst).getD _ = _
    rw [hf]
    rfl
def rSortSetQ (w : World) : List V → Hp → VK → Prop := fun vs H Q => ∃ (a : Addr) (M : QPs), vs = [.ref a] ∧ H a = some (SetQ w a M) ∧ (∀ p ∈ M, QAt H p.2 p.1.1 p.1.2) ∧ (∀ p ∈ M, ∀ c ∈ p.1.1, PyData.strOk c = true) ∧
  ∀ (ys : List V) (zs : List Qd) (p : Addr), H p = none → QL H ys zs → zs.Perm (M.map Prod.fst) → rising zs → (∀ y ∈ ys, ∃ q ∈ M, y = V.ref q.2) → Q (.ref p) (upd H p (.lst ys))
theorem cr_sortSetQ (hc : X.calm = true) (hu : X.A.units + 80 < cLine) : CallR X (.builtin "sorted") (rSortSetQ X.w) := by
  intro pins s σ H vs us Q I r h
  obtain ⟨a, M, rfl, ha, hm, ho, q⟩ := h
  obtain ⟨u, rfl, rx⟩ := vals1 r
  cases rx
  have ⟨es, ep, t, g⟩ : KSet0 X.w s.heap a M := (I.hok a _ ha).1
  obtain ⟨ob, gob, gex, gd⟩ := g.ob
  have hzs : es.size = M.length := by rw [sz_rows g.rows]; exact List.length_map _
  have hfew : M.length < 300 := by
    have := g.few
    unfold toK at this
    rw [List.length_map] at this
    exact this
  have hes : es.toList.map (·.2) = M.map fun p => Value.ref p.2 := by
    rw [g.rows, toK, List.map_map, List.map_map]
    rfl
  have isq : ∀ v, v ∈ (M.map fun p => Value.ref p.2) → IsQ s.heap v (kOf M v) ∧ (∀ c ∈ (kOf M v).1, PyData.strOk c = true) := fun v hv => by
    obtain ⟨p, hp, rfl⟩ := List.mem_map.mp hv
    obtain ⟨p', h1, h2, h3⟩ := kOf_at hp
    rw [h3, ← h2]
    exact ⟨Inv.isQ I (hm p' h1), ho p' h1⟩
  refine Calls.call_function_entry PyProof.Rows.kind_sorted PyProof.Rows.plain_sorted PyProof.Rows.entry_sorted (args_sorted1 _) ?_
  unfold Builtin.«sorted»
  refine wpAny_bind (m := checkCount "sorted" 1 1 _) (wpAny_pure ?_)
  refine wpAny_bind (collect_set (A := X.A.in1) (I.ok.hd hc) ⟨ob, gob, gex.1, gd⟩ g.fits (by unfold scanBound; omega) g.tab.up g.led fun s1 vs k1 hz g1 o1 pm => ?_)
  rw [hes] at pm
  have hvl : vs.length = M.length := by rw [pm.length_eq, List.length_map]
  refine wpAny_bind (wpAny_newList ?_ (by rw [sizeLine_eq]; omega))
  have hoL : (s1.heap.push (seqObj "list" vs.toArray 0)).get? s1.heap.objs.size = some (seqObj "list" vs.toArray 0) := Heap.get?_push_size _ rfl
  refine wpAny_bind (wpAny_holding (wpAny_call_entry PyProof.Rows.slot_list_sort ⟨_, hoL, rfl⟩ PyProof.Rows.entry_list_sort
    (SrtO.list_sort_ord (s := { s1 with heap := s1.heap.push (seqObj "list" vs.toArray 0) }) (swo_q (kOf M)) hoL (by rw [sizeLine_eq]; omega) (fun h2 => ?_) fun out h1 h2 => ⟨_, rfl, ?_⟩) (args_list_sort _)))
  · refine q_sortable (by show X.A.units + 1 + 1 + 64 < cLine; omega) (by omega) (fun v hv => (isq v (pm.mem_iff.mp hv)).2) (fun v hv => (isq v (pm.mem_iff.mp hv)).1.keeps fun b o e _ => Heap.get?_push_of_some _ (k1 b o e)) fun o e => ?_
    have e' : some o = some (seqObj "list" vs.toArray 0) := e.symm.trans hoL
    cases e'
    intro c
    exact absurd (Value.type.inj c) (by decide)
  · have pmO : out.Perm (M.map fun p => Value.ref p.2) := h2.perm.trans pm
    have h3 : ∀ u ∈ out, ∃ a, u = Value.ref a := fun u hu' => by
      obtain ⟨p, _, e⟩ := List.mem_map.mp (pmO.mem_iff.mp hu')
      exact ⟨p.2, e.symm⟩
    obtain ⟨n, hnO⟩ := sortedHeap_at (vs := vs) (out := out.toArray) hoL
    have old : ∀ b o, s.heap.get? b = some o → (sortedHeap (s1.heap.push (seqObj "list" vs.toArray 0)) s1.heap.objs.size vs out.toArray).get? b = some o := fun b o e => by
      have e1 := k1 b o e
      have lt := Heap.lt_size e1
      rw [sortedHeap_old (Nat.ne_of_lt lt) (by rw [size_push']; exact Nat.lt_succ_of_lt lt)]
      exact Heap.get?_push_of_some _ e1
    have hn : H s1.heap.objs.size = none := I.hok.fresh hz
    have lo : (out.map backV).length ≤ sizeLine := by rw [List.length_map, pmO.length_eq, List.length_map, sizeLine_eq]; omega
    have J : Inv X pins σ (upd H s1.heap.objs.size (.lst (out.map backV))) { s with heap := sortedHeap (s1.heap.push (seqObj "list" vs.toArray 0)) s1.heap.objs.size vs out.toArray, gens := s1.gens, drawn := s1.drawn, toks := s1.toks } :=
      I.call (ch := []) (Un.laid old hz hn) (I.hok.laid old hz ⟨lo, out, n, vals_back h3, hnO⟩) (by rw [g1]; exact I.bare) (fun _ z => nomatch z)
    have qat : ∀ v ∈ out, ∃ t, backV v = V.ref t ∧ QAt H t (kOf M v).1 (kOf M v).2 := fun v hv => by
      obtain ⟨p, hp, rfl⟩ := List.mem_map.mp (pmO.mem_iff.mp hv)
      obtain ⟨p', h1, h2, h3⟩ := kOf_at hp
      refine ⟨p.2, rfl, ?_⟩
      rw [h3, ← h2]
      exact hm p' h1
    have ql : ∀ {l : List Value}, (∀ v ∈ l, ∃ t, backV v = V.ref t ∧ QAt H t (kOf M v).1 (kOf M v).2) → QL H (l.map backV) (l.map (kOf M)) := by
      intro l
      induction l with
      | nil => exact fun _ => .nil
      | cons v l ih => exact fun hl => .cons (hl v List.mem_cons_self) (ih fun u hu' => hl u (List.mem_cons_of_mem _ hu'))
    have kk : (M.map fun p => Value.ref p.2).map (kOf M) = M.map Prod.fst := by
      rw [List.map_map]
      refine List.map_congr_left fun p hp => ?_
      obtain ⟨p', h1, h2, h3⟩ := kOf_at hp
      show kOf M (.ref p.2) = p.1
      rw [h3]
      have a1 := hm p' h1
      rw [h2] at a1
      exact QAt.uniq a1 (hm p hp)
    have hQ := q (out.map backV) (out.map (kOf M)) s1.heap.objs.size hn (ql qat) (by rw [← kk]; exact pmO.map (kOf M)) (List.pairwise_map.mpr h1) fun y hy => by
      obtain ⟨v, hv, rfl⟩ := List.mem_map.mp hy
      obtain ⟨p, hp, rfl⟩ := List.mem_map.mp (pmO.mem_iff.mp hv)
      exact ⟨p, hp, rfl⟩
    have eS : { s1 with heap := sortedHeap (s1.heap.push (seqObj "list" vs.toArray 0)) s1.heap.objs.size vs out.toArray } = { s with heap := sortedHeap (s1.heap.push (seqObj "list" vs.toArray 0)) s1.heap.objs.size vs out.toArray, gens := s1.gens, drawn := s1.drawn, toks := s1.toks } := by
      cases s1
      cases s
      cases o1
      rfl
    show wpAny _ _ _ _ _ _
    exact wpAny_pure ⟨_, rfl, by rw [eS]; exact ⟨.ref s1.heap.objs.size, _, J, rfl, hQ⟩⟩
end
end Qk
set_option maxRecDepth 100000
set_option maxHeartbeats 4000000
namespace Qk
open PySem PySem.Spec PyProof.Rows L2
/-! ### one question < another one -/
/-! ### enumerate of a list -/
/-! ### the questions of a list, each once, ascending -/
structure Dist (qs zs : List Qd) : Prop where
  nd : zs.Nodup
  up : rising zs
  mem : ∀ q, q ∈ zs ↔ q ∈ qs
theorem Dist.uniq {qs rs zs ys : List Qd} (h1 : Dist qs zs) (h2 : Dist rs ys) (h : ∀ q, q ∈ qs ↔ q ∈ rs) : zs = ys :=
  perm_ltQ ((List.perm_ext_iff_of_nodup h1.nd h2.nd).mpr fun q => ((h1.mem q).trans (h q)).trans (h2.mem q).symm) h1.up h2.up
/-- what is behind place i -/
theorem cut_behind (i : Nat) (xs : List V) : cutV xs (some ((i : Int) + 1)) none = xs.drop (i + 1) := by
  have e1 : ((i : Int) + 1) = ((i + 1 : Nat) : Int) := by omega
  rw [e1]
  unfold cutV
  rw [HT.sIx_none, HT.sIx_nat]
  by_cases h : i + 1 ≤ xs.length
  · rw [Nat.min_eq_left h]
    exact List.take_of_length_le (by rw [List.length_drop]; omega)
  · rw [Nat.min_eq_right (by omega), List.drop_of_length_le (Nat.le_refl _), List.drop_of_length_le (by omega)]
    simp
end Qk
set_option maxRecDepth 100000
set_option maxHeartbeats 4000000
set_option maxRecDepth 100000
set_option maxHeartbeats 4000000
namespace Qk
open PySem PySem.Spec PyProof.Rows L2
/-! questions as the laws have them: their columns, what is below what -/
/-- a question as k13 has it -/
structure QZ (cols : List Str) (e : Str) : Prop where
  m : QM cols e
  ne : e ∉ cols
  le : cols.length + (if e = "" then 0 else 1) ≤ 12
theorem nodup_len : ∀ (l D : List Str), l.Nodup → (∀ x ∈ l, x ∈ D) → l.length ≤ D.length
  | [], _, _, _ => Nat.zero_le _
  | x :: l, D, hn, hs => by
    obtain ⟨h1, h2⟩ := List.nodup_cons.mp hn
    have hx : x ∈ D := hs x List.mem_cons_self
    have ih := nodup_len l (D.erase x) h2 fun y hy => (List.mem_erase_of_ne (by rintro rfl; exact h1 hy)).2 (hs y (List.mem_cons_of_mem _ hy))
    have e := List.length_erase_of_mem hx
    have hp : 0 < D.length := List.length_pos_of_mem hx
    rw [List.length_cons]
    omega
theorem Qok.qz {xs cols : List Str} {e : Str} (h : Qok xs cols e) (R : Row xs) : QZ cols e := by
  refine ⟨h.qm R.sub, h.ne, ?_⟩
  have hsub : ∀ z ∈ (if e = "" then cols else cols ++ [e]), z ∈ xs := fun z hz => by
    split at hz
    · exact h.sub _ hz
    · rename_i ne
      rcases List.mem_append.mp hz with q | q
      · exact h.sub _ q
      · rw [List.mem_singleton.mp q]
        exact h.esub.resolve_left ne
  have hnd : (if e = "" then cols else cols ++ [e]).Nodup := by
    split
    · exact h.nd
    · rw [List.nodup_append]
      exact ⟨h.nd, by simp, fun a ha b hb => by rw [List.mem_singleton.mp hb]; exact fun q => h.ne (q ▸ ha)⟩
  have hle := nodup_len _ _ hnd hsub
  have := R.le
  split
  · rename_i q
    rw [if_pos q] at hle
    omega
  · rename_i q
    rw [if_neg q, List.length_append] at hle
    simp at hle
    omega
theorem QZ.fine {cols : List Str} {e : Str} (h : QZ cols e) : Qfine (cols, e) := ⟨fun c hc => menu_okS _ (h.m.sub _ hc), h.m.esub.elim (fun q => by show okS e = true; rw [q]; exact okS_empty) (fun m => menu_okS _ m), h.m.le⟩
def QZs (qs : List Qd) : Prop := ∀ q ∈ qs, QZ q.1 q.2
theorem QZ.strOk {cols : List Str} {e : Str} (h : QZ cols e) : ∀ c ∈ cols, PyData.strOk c = true := fun c hc => menu_ok _ (h.m.sub _ hc)
end Qk
set_option maxRecDepth 100000
set_option maxHeartbeats 4000000
namespace Qk
open PySem PySem.Spec PyProof.Rows L2
/-! ### all parts of a row, all questions over it -/
def grow (acc : List (List Str)) (c : Str) : List (List Str) := acc ++ acc.map fun p => p ++ [c]
def partsOf (ns : List Str) : List (List Str) := ns.foldl grow [[]]
theorem partsOf_take {ns : List Str} {i : Nat} {c : Str} (h : ns[i]? = some c) : partsOf (ns.take (i + 1)) = grow (partsOf (ns.take i)) c := by
  have et : ns.take (i + 1) = ns.take i ++ [c] := by rw [List.take_add_one, h]; rfl
  unfold partsOf
  rw [et, List.foldl_append]
  rfl
/-- what holds of the parts, by their making -/
theorem parts_ind {C : List Str → List (List Str) → Prop} (h0 : C [] [[]]) (hs : ∀ ns c ps, C ns ps → C (ns ++ [c]) (grow ps c)) (ns : List Str) : C ns (partsOf ns) := by
  have go : ∀ (xs ys : List Str) (ps : List (List Str)), C ys ps → C (ys ++ xs) (xs.foldl grow ps) := by
    intro xs
    induction xs with
    | nil =>
      intro ys ps h
      rw [List.append_nil]
      exact h
    | cons x xs ih =>
      intro ys ps h
      have := ih (ys ++ [x]) (grow ps x) (hs _ _ _ h)
      rw [List.append_assoc] at this
      exact this
  exact go ns [] [[]] h0
theorem parts_len (ns : List Str) : (partsOf ns).length = 2 ^ ns.length :=
  parts_ind (C := fun ns ps => ps.length = 2 ^ ns.length) rfl (fun ns c ps h => by
    unfold grow
    rw [List.length_append, List.length_map, h, List.length_append]
    show _ = 2 ^ (ns.length + 1)
    rw [Nat.pow_succ]
    omega) ns
theorem parts_sub (ns : List Str) : ∀ p ∈ partsOf ns, p.Sublist ns :=
  parts_ind (C := fun ns ps => ∀ p ∈ ps, p.Sublist ns) (fun p hp => by rw [List.mem_singleton.mp hp]; exact List.Sublist.refl _) (fun ns c ps h p hp => by
    rcases List.mem_append.mp hp with q | q
    · exact (h p q).trans (List.sublist_append_left _ _)
    · obtain ⟨r, hr, rfl⟩ := List.mem_map.mp q
      exact List.Sublist.append (h r hr) (List.Sublist.refl _)) ns
theorem parts_nodup {ns : List Str} (hn : ns.Nodup) : (partsOf ns).Nodup :=
  parts_ind (C := fun ns ps => ns.Nodup → ps.Nodup ∧ ∀ p ∈ ps, p.Sublist ns) (fun _ => ⟨by simp, fun p hp => by rw [List.mem_singleton.mp hp]; exact List.Sublist.refl _⟩) (fun ns c ps h hn => by
    have hn' := List.nodup_append.mp hn
    obtain ⟨h1, h2⟩ := h hn'.1
    have hc : c ∉ ns := fun q => hn'.2.2 c q c (by simp) rfl
    refine ⟨?_, fun p hp => ?_⟩
    · unfold grow
      rw [List.nodup_append]
      refine ⟨h1, ?_, fun p hp q hq e => ?_⟩
      · refine List.pairwise_map.mpr (h1.imp fun {a b} hab e => hab (List.append_cancel_right e))
      · obtain ⟨r, hr, rfl⟩ := List.mem_map.mp hq
        exact hc ((h2 p hp).subset (by rw [e]; simp))
    · rcases List.mem_append.mp hp with q | q
      · exact (h2 p q).trans (List.sublist_append_left _ _)
      · obtain ⟨r, hr, rfl⟩ := List.mem_map.mp q
        exact List.Sublist.append (h2 r hr) (List.Sublist.refl _)) ns hn |>.1
/-- the columns that a part leaves -/
def left (ns p : List Str) : List Str := ns.filter fun c => !decide (c ∈ p)
theorem nodup_fm {α β : Type} {f : α → List β} : ∀ {l : List α}, l.Nodup → (∀ a ∈ l, (f a).Nodup) → (∀ a ∈ l, ∀ b ∈ l, a ≠ b → ∀ x ∈ f a, x ∉ f b) → (l.flatMap f).Nodup
  | [], _, _, _ => by simp
  | a :: l, hn, h1, h2 => by
    obtain ⟨ha, hl⟩ := List.nodup_cons.mp hn
    rw [List.flatMap_cons, List.nodup_append]
    refine ⟨h1 a List.mem_cons_self, nodup_fm hl (fun b hb => h1 b (List.mem_cons_of_mem _ hb)) (fun b hb c hc => h2 b (List.mem_cons_of_mem _ hb) c (List.mem_cons_of_mem _ hc)), fun x hx y hy e => ?_⟩
    subst e
    obtain ⟨b, hb, hxb⟩ := List.mem_flatMap.mp hy
    exact h2 a List.mem_cons_self b (List.mem_cons_of_mem _ hb) (fun e => ha (e ▸ hb)) x hx hxb
def plainQ (ns : List Str) : List Qd := ((partsOf ns).filter fun p => !decide (p = [])).map fun p => (p, ("" : Str))
def rangedOf (ns p : List Str) : List Qd := (left ns p).map fun c => (p, c)
def rangedQ (ns : List Str) : List Qd := (partsOf ns).flatMap (rangedOf ns)
/-- as the law lists them -/
def everyOf (ns p : List Str) : List Qd := (if p = [] then [] else [(p, ("" : Str))]) ++ rangedOf ns p
def everyQ (ns : List Str) : List Qd := (partsOf ns).flatMap (everyOf ns)
theorem mem_ranged {ns p : List Str} {q : Qd} : q ∈ rangedOf ns p ↔ q.1 = p ∧ q.2 ∈ ns ∧ q.2 ∉ p := by
  unfold rangedOf left
  rw [List.mem_map]
  constructor
  · rintro ⟨c, hc, rfl⟩
    obtain ⟨h1, h2⟩ := List.mem_filter.mp hc
    exact ⟨rfl, h1, by simpa using h2⟩
  · rintro ⟨h1, h2, h3⟩
    exact ⟨q.2, List.mem_filter.mpr ⟨h2, by simpa using h3⟩, by rw [← h1]⟩
theorem mem_plain {ns : List Str} {q : Qd} : q ∈ plainQ ns ↔ q.1 ∈ partsOf ns ∧ q.1 ≠ [] ∧ q.2 = "" := by
  unfold plainQ
  rw [List.mem_map]
  constructor
  · rintro ⟨p, hp, rfl⟩
    obtain ⟨h1, h2⟩ := List.mem_filter.mp hp
    exact ⟨h1, by simpa using h2, rfl⟩
  · rintro ⟨h1, h2, h3⟩
    exact ⟨q.1, List.mem_filter.mpr ⟨h1, by simpa using h2⟩, by rw [← h3]⟩
theorem mem_every {ns : List Str} {q : Qd} : q ∈ everyQ ns ↔ q ∈ plainQ ns ∨ q ∈ rangedQ ns := by
  unfold everyQ rangedQ
  rw [mem_plain, List.mem_flatMap, List.mem_flatMap]
  constructor
  · rintro ⟨p, hp, hq⟩
    unfold everyOf at hq
    rcases List.mem_append.mp hq with h | h
    · split at h
      · cases h
      · rename_i ne
        obtain rfl := List.mem_singleton.mp h
        exact .inl ⟨hp, ne, rfl⟩
    · exact .inr ⟨p, hp, h⟩
  · rintro (⟨h1, h2, h3⟩ | ⟨p, hp, h⟩)
    · refine ⟨q.1, h1, List.mem_append_left _ ?_⟩
      rw [if_neg h2]
      exact List.mem_singleton.mpr (Prod.ext rfl h3)
    · exact ⟨p, hp, List.mem_append_right _ h⟩
theorem ranged_nd {ns p : List Str} (hn : ns.Nodup) : (rangedOf ns p).Nodup := by
  unfold rangedOf left
  refine List.pairwise_map.mpr ((hn.sublist List.filter_sublist).imp fun {a b} hab e => hab ?_)
  injection e
theorem every_nd {ns : List Str} (hn : ns.Nodup) (h0 : ∀ c ∈ ns, c ≠ "") : (everyQ ns).Nodup := by
  refine nodup_fm (parts_nodup hn) (fun p hp => ?_) (fun p hp r hr ne x hx hy => ?_)
  · unfold everyOf
    rw [List.nodup_append]
    refine ⟨by split <;> simp, ranged_nd hn, fun a ha b hb e => ?_⟩
    split at ha
    · cases ha
    · obtain rfl := List.mem_singleton.mp ha
      subst e
      exact h0 _ (mem_ranged.mp hb).2.1 rfl
  · have f1 : ∀ p, x ∈ everyOf ns p → x.1 = p := fun p h => by
      unfold everyOf at h
      rcases List.mem_append.mp h with q | q
      · split at q
        · cases q
        · rw [List.mem_singleton.mp q]
      · exact (mem_ranged.mp q).1
    exact ne ((f1 p hx).symm.trans (f1 r hy))
end Qk
set_option maxRecDepth 100000
set_option maxHeartbeats 4000000
namespace Qk
open PySem PySem.Spec PyProof.Rows L2 ItX
/-! ### walks over an instance whose __iter__ gives the iterator of one of its lists -/
structure OwnIt (K : PySem.W.Frag) (C fi : Addr) : Prop where
  it : PySem.W.findIn K (.ref C) "__iter__" = some (some (.ref fi))
  fn : PySem.W.isFn K (.ref fi) = true
/-- defs whose promise may speak of how many objects there are when they begin -/
structure FnS (P : Program) (w : World) (K : PySem.W.Frag) (mg : Str → Option Value) (base : Heap) (k : Nat) (f : Addr) (fd : FuncData) (ps : List Str) (sp : Nat → Sp) : Prop where
  len : ∀ N vs H Q E, sp N vs H Q E → vs.length = ps.length
  run : ∀ (A : Around) (outer : List Env) (s : Shared) (H : Hp) (args : Args) (us : List Value) (vs : List V) (Q : VK) (E : XK), Room k A → Env0 P w K mg base A outer s H →
    BindsTo s fd args (ps.zip us) → Vals vs us → sp s.heap.objs.size vs H Q E → codeAny (model P w) A (.call (.ref f) args) (CR CX0 outer P w H s Q E) s
section
variable {P : Program} {w : World} {K : PySem.W.Frag} {mg : Str → Option Value} {base : Heap}
theorem okN {x qual : Str} {st : Stmt} {f : Addr} {fd : FuncData} {N ps : List Str} {k : Nat} {sp : Nat → Sp} (F : Fun K x qual st f fd) (S : FnScope N ps (defScope st)) (len : ∀ n vs H Q E, sp n vs H Q E → vs.length = ps.length)
    (body : ∀ (cdv : Value) (A : Around) (outer : List Env) (s : Shared) (H : Hp) (vs : List V) (Q : VK) (E : XK), Room k (A.deeper (envOfC qual (defScope st) s.heap.objs.size f cdv)) → sp s.heap.objs.size vs H Q E →
      ∃ t, PSs (cxOf CX0 P w K mg base N qual (defScope st) f cdv A outer s H E).nox (defBody st) t ∧ t { nx := fun _ H' => Q .non H', rt := Q } (start N vs) H) : FnS P w K mg base (k + 1) f fd ps sp := by
  refine ⟨len, fun A outer s H args us vs Q E hr e0 hb rv hsp => ?_⟩
  obtain ⟨oc, od, kV, doc, pm, an, cdv, ct, osl, rfl, lk, hcd⟩ := F.ex
  have hlen := len _ _ _ _ _ hsp
  have stay : ∀ b o, base.get? b = some o → s.heap.get? b = some o := fun b o e => (e0.bs b o e).1
  have inK : K.In s.heap := e0.mod.kin.keeps stay
  have pars : ∀ y ∈ ps.zip us, (defScope st).names.lookup y.1 = some .local ∨ ((defScope st).names.lookup y.1 = some .cell ∧ ((cellsFrom (s.heap.objs.size + 1) (defScope st).names []).lookup y.1).isSome = true) := by
    rintro ⟨nm, v⟩ hy
    exact (S.par nm (List.of_mem_zip hy).1).imp id fun q => ⟨q, PySem.W.cellsFrom_some _ _ _ (.inl q)⟩
  refine codeAny_call_function hr.depth (inK _ _ lk) rfl S.co S.gen rfl (PySem.W.codeRec_of inK hcd) (hb _ _ _ _ ?_)
  refine wpAny_newFunctionEnv_cells S.kind pars fun env he s1 xe => ?_
  subst he
  refine ⟨(e0.mod.nolimit.keeps stay).keeps xe.toInCall.keep, codeAny_func ?_⟩
  obtain ⟨t, ht, hq⟩ := body cdv A outer s H vs Q E (hr.deeper _) hsp
  refine wpAny_mono (ht.nox.run [] s1 (start N vs) H _ (inv_start S hr.hd e0 hlen rv xe) hq) (fun fl s' hs => ?_) fun _ _ z => z
  cases fl with
  | ret u =>
    obtain ⟨v, σ', H', J, r, q⟩ := hs
    exact ⟨v, H', J.os, J.bare, J.base, J.hok, r, q⟩
  | next =>
    obtain ⟨σ', H', J, q⟩ := hs
    exact ⟨V.non, H', J.os, J.bare, J.base, J.hok, rfl, q⟩
  | brk => exact hs.elim fun _ z => z.elim fun _ z => z.2.elim
  | cont => exact hs.elim fun _ z => z.elim fun _ z => z.2.elim
end
def spIterF (C : Addr) (f : Str) : Nat → Sp := fun N vs H Q _ => ∃ (a dx l : Addr) (fs : List (Str × V)) (xs : List V), vs = [.ref a] ∧ H a = some (.ins C dx fs) ∧ fs.lookup f = some (.ref l) ∧ H l = some (.lst xs) ∧ ∀ it, H it = none → N ≤ it → Q (.ref it) (upd H it (ItO l it 0))
def iOwn (K : PySem.W.Frag) (C : Addr) (f : Str) (te : TE) : TI := fun σ H R => te σ H fun x H1 => ∃ (a dx l : Addr) (fs : List (Str × V)) (xs : List V), x = .ref a ∧ H1 a = some (.ins C dx fs) ∧ fs.lookup f = some (.ref l) ∧ H1 l = some (.lst xs) ∧ R (Itl K l) H1
section
variable {X : Cx} {tg : Expr} {e : Expr} {te : TE}
theorem pi_own {C fi : Addr} {f : Str} {fd : FuncData} {n : Nat} (oc : OwnIt X.K C fi) (FI : FnS X.prog X.w X.K X.mg X.base n fi fd ["self"] (spIterF C f)) (bI : Binds X.K fd ["self"] []) (hr : Room n X.A) (he : PE X e te) : PI X tg e (iOwn X.K C f te) := by
  refine ⟨fun pins s σ H R I h => ?_⟩
  refine thn (he.run pins s σ H _ I h) fun v s1 ⟨x, H1, I1, r1, q1⟩ => ?_
  obtain ⟨a, dx, l, fs, xs, rfl, ha, hl, hx, q⟩ := q1
  cases r1
  obtain ⟨mA, J, _⟩ := ins_get I1.hok ha
  obtain ⟨od, J, _⟩ := J.look
  obtain ⟨m0, hF⟩ := I1.fr
  refine PySem.W.owit_iter hF I1.ok.mod.kin J oc.it oc.fn ?_
  have hsp : spIterF C f s1.heap.objs.size [.ref a] H1 (fun v H' => ∃ it, v = .ref it ∧ H1 it = none ∧ H' = upd H1 it (ItO l it 0) ∧ s1.heap.objs.size ≤ it) (fun _ _ _ => False) := ⟨a, dx, l, fs, xs, rfl, ha, hl, hx, fun it hit hn => ⟨it, rfl, hit, rfl, hn⟩⟩
  have r2 : Vals [V.ref a] [Value.ref a] := .cons rfl .nil
  refine wpAny_call (codeAny_mono (FI.run X.A X.stack s1 H1 ⟨[.ref a], []⟩ [.ref a] [.ref a] _ _ hr I1.env0 (by
    have := bI s1 [.ref a] I1.kIn (by rfl)
    simpa using this) r2 hsp) fun r s' hq' => ?_)
  cases r with
  | error e => exact pass0 pins σ H1 s1 e s' I1 hq'
  | ok fl =>
    cases fl with
    | next => exact False.elim hq'
    | brk => exact False.elim hq'
    | cont => exact False.elim hq'
    | ret u =>
      have hq2 := hq'
      obtain ⟨v0, H0, os0, bare0, un0, hok0, rv0, it0, ev0, hn0, eH0, fresh⟩ := hq2
      subst ev0
      subst eH0
      cases rv0
      have hi : (upd H1 it0 (ItO l it0 0)) it0 = some (ItO l it0 0) := upd_same
      have I' : Inv X pins σ (upd H1 it0 (ItO l it0 0)) s' := by
        obtain ⟨hh, g, d, t, os'⟩ := s'
        obtain rfl : os' = s1.os := os0
        exact I1.call (h' := hh) (g' := g) (d' := d) (t' := t) (ch := []) un0 hok0 bare0 (fun b z => absurd z (by simp))
      have eo := itO_get I' hi
      have st : s'.heap.IsListIter it0 l 0 := ⟨_, eo, rfl, rfl⟩
      unfold PySem.W.OwitIt
      refine wpAny_specialOf (T := "list_iterator") ⟨_, eo, rfl⟩ slot_listiter_next.lookup ?_
      have hi' := hi
      unfold ItO at hi'
      have I2 := inv_drop I' hi'
      have ed : dropH (upd H1 it0 (ItO l it0 0)) it0 = H1 := dropH_upd hn0
      rw [ed] at I2
      refine ⟨it0, [it0], _, _, H1, rfl, I2, turn_list l it0, st, fun b hb => ?_, q⟩
      have e : b = it0 := by simpa using hb
      rw [e]
      have fp := inv_fp I' hi (Nat.le_trans I1.sz fresh)
      rw [ed] at fp
      exact fp
end
end Qk
set_option maxRecDepth 100000
set_option maxHeartbeats 4000000
namespace Qk
open PySem PySem.Spec PyProof.Rows L2 ItX
/-! ### len(o), list(o) of such an instance -/
structure OwnLen (K : PySem.W.Frag) (C fl : Addr) : Prop where
  ln : PySem.W.findIn K (.ref C) "__len__" = some (some (.ref fl))
  fn : PySem.W.isFn K (.ref fl) = true
def spLenF (C : Addr) (f : Str) : Sp := fun vs H Q _ => ∃ (a dx l : Addr) (fs : List (Str × V)) (xs : List V), vs = [.ref a] ∧ H a = some (.ins C dx fs) ∧ fs.lookup f = some (.ref l) ∧ H l = some (.lst xs) ∧ Q (.int (xs.length : Int)) H
/-- an instance of C whose list f stands at l and has xs -/
def HasL (H : Hp) (C a : Addr) (f : Str) (l : Addr) (xs : List V) : Prop := ∃ (dx : Addr) (fs : List (Str × V)), H a = some (.ins C dx fs) ∧ fs.lookup f = some (.ref l) ∧ H l = some (.lst xs)
section
variable {X : Cx} {pins : List (Addr × Obj)} {σ : L2.St} {H : Hp} {s : Shared} {A1 : Around} {C a l fi fl : Addr} {f : Str} {fdI fdL : FuncData} {n : Nat} {xs : List V}
theorem env_sub (sb : Sub X n A1) (I : Inv X pins σ H s) : Env0 X.prog X.w X.K X.mg X.base A1 X.stack s H := by
  have e := I.env0
  constructor
  case frames => rw [sb.fr]; exact e.frames
  all_goals first | exact e.mod | exact e.bs | exact e.bsz | exact e.funs | exact e.frf | exact e.hok | exact e.bare
theorem iter_own (sb : Sub X n A1) (oc : OwnIt X.K C fi) (FI : FnS X.prog X.w X.K X.mg X.base n fi fdI ["self"] (spIterF C f)) (bI : Binds X.K fdI ["self"] []) (I : Inv X pins σ H s) (h : HasL H C a f l xs) {Q : Value → Shared → Prop}
    (hQ : ∀ it s', Inv X pins σ (upd H it (ItO l it 0)) s' → H it = none → X.s_0.heap.objs.size ≤ it → Q (.ref it) s') : wpAny (model X.prog X.w) A1 (pyIter (.ref a)) Q X.xe s := by
  obtain ⟨dx, fs, ha, hl, hx⟩ := h
  obtain ⟨mA, J, _⟩ := ins_get I.hok ha
  obtain ⟨od, J, _⟩ := J.look
  obtain ⟨m0, hF⟩ := I.fr
  refine PySem.W.owit_iter hF I.ok.mod.kin J oc.it oc.fn ?_
  have hsp : spIterF C f s.heap.objs.size [.ref a] H (fun v H' => ∃ it, v = .ref it ∧ H it = none ∧ H' = upd H it (ItO l it 0) ∧ s.heap.objs.size ≤ it) (fun _ _ _ => False) := ⟨a, dx, l, fs, xs, rfl, ha, hl, hx, fun it hit hn => ⟨it, rfl, hit, rfl, hn⟩⟩
  have r2 : Vals [V.ref a] [Value.ref a] := .cons rfl .nil
  refine wpAny_call (codeAny_mono (FI.run A1 X.stack s H ⟨[.ref a], []⟩ [.ref a] [.ref a] _ _ sb.room (env_sub sb I) (by
    have := bI s [.ref a] I.kIn (by rfl)
    simpa using this) r2 hsp) fun r s' hq' => ?_)
  cases r with
  | error e => exact pass0 pins σ H s e s' I hq'
  | ok fl =>
    cases fl with
    | next => exact False.elim hq'
    | brk => exact False.elim hq'
    | cont => exact False.elim hq'
    | ret u =>
      have hq2 := hq'
      obtain ⟨v0, H0, os0, bare0, un0, hok0, rv0, it0, ev0, hn0, eH0, fresh⟩ := hq2
      subst ev0
      subst eH0
      cases rv0
      have hi : (upd H it0 (ItO l it0 0)) it0 = some (ItO l it0 0) := upd_same
      have I' : Inv X pins σ (upd H it0 (ItO l it0 0)) s' := by
        obtain ⟨hh, g, d, t, os'⟩ := s'
        obtain rfl : os' = s.os := os0
        exact I.call (h' := hh) (g' := g) (d' := d) (t' := t) (ch := []) un0 hok0 bare0 (fun b z => absurd z (by simp))
      have eo := itO_get I' hi
      have st : s'.heap.IsListIter it0 l 0 := ⟨_, eo, rfl, rfl⟩
      unfold PySem.W.OwitIt
      refine wpAny_specialOf (T := "list_iterator") ⟨_, eo, rfl⟩ slot_listiter_next.lookup ?_
      exact hQ it0 s' I' hn0 (Nat.le_trans I.sz fresh)
theorem len_own (sb : Sub X n A1.in1) (oc : OwnLen X.K C fl) (FL : FnOk X.prog X.w X.K X.mg X.base CX0 n fl fdL ["self"] (spLenF C f)) (bL : Binds X.K fdL ["self"] []) (I : Inv X pins σ H s) (h : HasL H C a f l xs) (hz : xs.length ≤ 1000) {Q : Value → Shared → Prop} {E : Value → Shared → Prop}
    (hQ : ∀ t s', Inv X pins σ H s' → Q (.int (xs.length : Int) t) s') : wpAny (model X.prog X.w) A1 (call (.builtin "len") [.ref a]) Q E s := by
  obtain ⟨dx, fs, ha, hl, hx⟩ := h
  obtain ⟨mA, J, _⟩ := ins_get I.hok ha
  obtain ⟨od, J, _⟩ := J.look
  obtain ⟨m0, hF⟩ := I.fr
  refine PySem.W.len_K hF I.ok.mod.kin J oc.ln oc.fn ?_
  have hsp : spLenF C f [.ref a] H (fun v H' => v = .int (xs.length : Int) ∧ H' = H) (fun _ _ _ => False) := ⟨a, dx, l, fs, xs, rfl, ha, hl, hx, rfl, rfl⟩
  have r2 : Vals [V.ref a] [Value.ref a] := .cons rfl .nil
  refine wpAny_call (codeAny_mono (FL.run A1.in1 X.stack s H ⟨[.ref a], []⟩ [.ref a] [.ref a] _ _ sb.room (env_sub sb I) (by
    have := bL s [.ref a] I.kIn (by rfl)
    simpa using this) r2 hsp) fun r s' hq' => ?_)
  cases r with
  | error e => exact False.elim hq'
  | ok fl =>
    cases fl with
    | next => exact False.elim hq'
    | brk => exact False.elim hq'
    | cont => exact False.elim hq'
    | ret u =>
      obtain ⟨v, H', I', rv, ev, eH⟩ := I.after hq'
      subst ev
      rw [eH] at I'
      obtain ⟨t, rfl⟩ := rv
      exact ⟨⟨by omega, by omega⟩, hQ _ _ (I'.tok _)⟩
/-- len(o) -/
def rLenOwn (C : Addr) (f : Str) : List V → Hp → VK → Prop := fun vs H Q => ∃ (a l : Addr) (xs : List V), vs = [.ref a] ∧ HasL H C a f l xs ∧ xs.length ≤ 1000 ∧ Q (.int (xs.length : Int)) H
theorem call_lenOwn (oc : OwnLen X.K C fl) (FL : FnOk X.prog X.w X.K X.mg X.base CX0 n fl fdL ["self"] (spLenF C f)) (bL : Binds X.K fdL ["self"] []) (hr : Room (n + 1) X.A) : CallR X (.builtin "len") (rLenOwn C f) := by
  intro pins s σ H vs us Q I r h
  obtain ⟨a, l, xs, rfl, hh, hz, q⟩ := h
  obtain ⟨u, rfl, ru⟩ := r.one
  cases ru
  exact len_own (Sub.in1 (⟨hr, rfl⟩ : Sub X (n + 1) X.A)) oc FL bL I hh hz fun t s' I' => ⟨.int _, H, I', ⟨t, rfl⟩, q⟩
theorem HasL.off {q : Addr} {o : HO} (h : HasL H C a f l xs) (hq : H q = none) : HasL (upd H q o) C a f l xs := by
  obtain ⟨dx, fs, ha, hl, hx⟩ := h
  exact ⟨dx, fs, by rw [upd_ne (ne_of_none ha hq)]; exact ha, hl, by rw [upd_ne (ne_of_none hx hq)]; exact hx⟩
end
end Qk
set_option maxRecDepth 100000
set_option maxHeartbeats 4000000
namespace Qk
open PySem PySem.Spec PyProof.Rows L2
/-! comprehensions with two fors, turn by turn -/
section
variable {J J1 : It} {n : Nat} {G : Hp → Prop} {Y : Nat → Hp → V → Hp → Prop}
theorem lc2_out (w : Walk J n G Y) {g g1 : TG} {tt tt1 : TT} {te : TE} {wi1 : TI} {vs vs1 : List Nat} {σ : L2.St} {H1 : Hp} {D : Addr} {Qd : Hp → Prop} (Pv : Nat → Hp → Prop) (h0 : Pv 0 (upd H1 D (.lst []))) (hG : ∀ i H, i ≤ n → Pv i H → G H)
    (hs : ∀ i x H H', i < n → Pv i H → Y i H x H' → g x (wipe σ vs) H' fun σ2 H2 => wipe σ2 vs = wipe σ vs ∧ tt σ2 H2 fun b H3 =>
      if b = true then wi1 σ2 H3 fun J1 H4 => ∃ W1 : Nat → Nat → Hp → Prop, (∃ m, W1 0 m H4) ∧ ∀ j k H, W1 j k H →
        (J1.stop j H ∧ Pv (i + 1) H) ∨ (J1.go j H ∧ ∃ Nx1 : Hp → Prop, (∀ H', Nx1 H' → ∃ k', k' < k ∧ W1 (j + 1) k' H') ∧ ∀ x H', J1.yld j H x H' → g1 x (wipe σ2 vs1) H' fun σ3 H5 => wipe σ3 vs1 = wipe σ2 vs1 ∧ tt1 σ3 H5 fun b H6 =>
          if b = true then te σ3 H6 fun y H7 => ∃ acc, H7 D = some (.lst acc) ∧ acc.length < sizeLine ∧ Nx1 (upd H7 D (.lst (acc ++ [y]))) else Nx1 H6)
      else Pv (i + 1) H3) (hd : ∀ H, Pv n H → Qd H) :
    ∃ W : Nat → Nat → Hp → Prop, (∃ m, W 0 m (upd H1 D (.lst []))) ∧ ∀ i m H, W i m H →
      (J.stop i H ∧ Qd H) ∨ (J.go i H ∧ ∃ Nx : Hp → Prop, (∀ H', Nx H' → ∃ m', m' < m ∧ W (i + 1) m' H') ∧ ∀ x H', J.yld i H x H' → g x (wipe σ vs) H' fun σ2 H2 => wipe σ2 vs = wipe σ vs ∧ tt σ2 H2 fun b H3 =>
        if b = true then wi1 σ2 H3 fun J1 H4 => ∃ W1 : Nat → Nat → Hp → Prop, (∃ m, W1 0 m H4) ∧ ∀ j k H, W1 j k H →
          (J1.stop j H ∧ Nx H) ∨ (J1.go j H ∧ ∃ Nx1 : Hp → Prop, (∀ H', Nx1 H' → ∃ k', k' < k ∧ W1 (j + 1) k' H') ∧ ∀ x H', J1.yld j H x H' → g1 x (wipe σ2 vs1) H' fun σ3 H5 => wipe σ3 vs1 = wipe σ2 vs1 ∧ tt1 σ3 H5 fun b H6 =>
            if b = true then te σ3 H6 fun y H7 => ∃ acc, H7 D = some (.lst acc) ∧ acc.length < sizeLine ∧ Nx1 (upd H7 D (.lst (acc ++ [y]))) else Nx1 H6)
        else Nx H3) := by
  refine ⟨fun i m H => m = n - i ∧ i ≤ n ∧ Pv i H, ⟨n, by simp, Nat.zero_le _, h0⟩, ?_⟩
  rintro i m H ⟨rfl, hi, p⟩
  have q := hG i H hi p
  by_cases hlt : i < n
  · exact .inr ⟨w.goes i H hlt q, Pv (i + 1), fun H' p' => ⟨n - (i + 1), by omega, rfl, hlt, p'⟩, fun x H' y => hs i x H H' hlt p (w.yields i H x H' hlt q y)⟩
  · have e : i = n := by omega
    subst e
    exact .inl ⟨w.stops H q, hd H p⟩
theorem lc2_in (w : Walk J1 n G Y) {g1 : TG} {tt1 : TT} {te : TE} {vs1 : List Nat} {σ2 : L2.St} {H4 : Hp} {D : Addr} {Nx : Hp → Prop} (Pv : Nat → Hp → Prop) (h0 : Pv 0 H4) (hG : ∀ i H, i ≤ n → Pv i H → G H)
    (hs : ∀ j x H H', j < n → Pv j H → Y j H x H' → g1 x (wipe σ2 vs1) H' fun σ3 H5 => wipe σ3 vs1 = wipe σ2 vs1 ∧ tt1 σ3 H5 fun b H6 =>
      if b = true then te σ3 H6 fun y H7 => ∃ acc, H7 D = some (.lst acc) ∧ acc.length < sizeLine ∧ Pv (j + 1) (upd H7 D (.lst (acc ++ [y]))) else Pv (j + 1) H6) (hd : ∀ H, Pv n H → Nx H) :
    ∃ W1 : Nat → Nat → Hp → Prop, (∃ m, W1 0 m H4) ∧ ∀ j k H, W1 j k H →
      (J1.stop j H ∧ Nx H) ∨ (J1.go j H ∧ ∃ Nx1 : Hp → Prop, (∀ H', Nx1 H' → ∃ k', k' < k ∧ W1 (j + 1) k' H') ∧ ∀ x H', J1.yld j H x H' → g1 x (wipe σ2 vs1) H' fun σ3 H5 => wipe σ3 vs1 = wipe σ2 vs1 ∧ tt1 σ3 H5 fun b H6 =>
        if b = true then te σ3 H6 fun y H7 => ∃ acc, H7 D = some (.lst acc) ∧ acc.length < sizeLine ∧ Nx1 (upd H7 D (.lst (acc ++ [y]))) else Nx1 H6) := by
  refine ⟨fun i m H => m = n - i ∧ i ≤ n ∧ Pv i H, ⟨n, by simp, Nat.zero_le _, h0⟩, ?_⟩
  rintro i m H ⟨rfl, hi, p⟩
  have q := hG i H hi p
  by_cases hlt : i < n
  · exact .inr ⟨w.goes i H hlt q, Pv (i + 1), fun H' p' => ⟨n - (i + 1), by omega, rfl, hlt, p'⟩, fun x H' y => hs i x H H' hlt p (w.yields i H x H' hlt q y)⟩
  · have e : i = n := by omega
    subst e
    exact .inl ⟨w.stops H q, hd H p⟩
end
/-! lists of rows of names -/
def TL (H : Hp) (vs : List V) (rs : List (List Str)) : Prop := Paired (fun (x : V) (r : List Str) => ∃ t, x = .ref t ∧ H t = some (.tup (r.map V.str))) vs rs
theorem TL.len {H : Hp} {vs : List V} {rs : List (List Str)} (h : TL H vs rs) : vs.length = rs.length := Paired.length h
theorem TL.same {H H' : Hp} {vs : List V} {rs : List (List Str)} (s : Same H H') (h : TL H vs rs) : TL H' vs rs := Paired.mapP h fun x r ⟨t, e, z⟩ => ⟨t, e, s _ _ z⟩
theorem TL.off {H : Hp} {p : Addr} {xs zs : List V} {vs : List V} {rs : List (List Str)} (hp : H p = some (.lst xs)) (h : TL H vs rs) : TL (upd H p (.lst zs)) vs rs := Paired.mapP h fun x r ⟨t, e, z⟩ => ⟨t, e, by
  rw [upd_ne fun g => by rw [g, hp] at z; cases z]
  exact z⟩
theorem TL.at_ {H : Hp} {vs : List V} {rs : List (List Str)} (h : TL H vs rs) {i : Nat} {x : V} (hi : vs[i]? = some x) : ∃ (t : Addr) (r : List Str), x = .ref t ∧ rs[i]? = some r ∧ H t = some (.tup (r.map V.str)) := by
  induction h generalizing i with
  | nil => simp at hi
  | @cons x0 r0 vs' rs' h1 _ ih =>
    cases i with
    | zero =>
      simp only [List.getElem?_cons_zero, Option.some.injEq] at hi
      subst hi
      obtain ⟨t, e, z⟩ := h1
      exact ⟨t, r0, e, rfl, z⟩
    | succ i => exact ih hi
theorem TL.snoc {H : Hp} {vs : List V} {rs : List (List Str)} {t : Addr} {r : List Str} (h : TL H vs rs) (ht : H t = some (.tup (r.map V.str))) : TL H (vs ++ [.ref t]) (rs ++ [r]) := paired_app h (.cons ⟨t, rfl, ht⟩ .nil)
theorem QL.off {H : Hp} {p : Addr} {xs zs : List V} {vs : List V} {qs : List Qd} (hp : H p = some (.lst xs)) (h : QL H vs qs) : QL (upd H p (.lst zs)) vs qs := Paired.mapP h fun x r ⟨t, e, c, z1, z2⟩ => ⟨t, e, c, by
  rw [upd_ne fun g => by rw [g, hp] at z1; cases z1]
  exact z1, by
  rw [upd_ne fun g => by rw [g, hp] at z2; cases z2]
  exact z2⟩
theorem QL.snoc {H : Hp} {vs : List V} {qs : List Qd} {t : Addr} {q : Qd} (h : QL H vs qs) (ht : QAt H t q.1 q.2) : QL H (vs ++ [.ref t]) (qs ++ [q]) := paired_app h (.cons ⟨t, rfl, ht⟩ .nil)
theorem QL.at_ {H : Hp} {xs : List V} {qs : List Qd} (h : QL H xs qs) {i : Nat} {x : V} (hi : xs[i]? = some x) : ∃ (t : Addr) (q : Qd), x = .ref t ∧ qs[i]? = some q ∧ QAt H t q.1 q.2 := by
  induction h generalizing i with
  | nil => simp at hi
  | @cons x0 q0 xs' qs' h1 _ ih =>
    cases i with
    | zero =>
      simp only [List.getElem?_cons_zero, Option.some.injEq] at hi
      subst hi
      obtain ⟨t, e, z⟩ := h1
      exact ⟨t, q0, e, rfl, z⟩
    | succ i => exact ih hi
/-- one more behind the list at p -/
theorem nodup_leQ : ∀ (l D : List Qd), l.Nodup → (∀ x ∈ l, x ∈ D) → l.length ≤ D.length
  | [], _, _, _ => Nat.zero_le _
  | x :: l, D, hn, hs => by
    obtain ⟨h1, h2⟩ := List.nodup_cons.mp hn
    have hx : x ∈ D := hs x List.mem_cons_self
    have ih := nodup_leQ l (D.erase x) h2 fun y hy => (List.mem_erase_of_ne (by rintro rfl; exact h1 hy)).2 (hs y (List.mem_cons_of_mem _ hy))
    have e := List.length_erase_of_mem hx
    have hp : 0 < D.length := List.length_pos_of_mem hx
    rw [List.length_cons]
    omega
theorem eqv_qsAll : ∀ (xs ys : List Qd), PyData.eqvAll (xs.map dq) (ys.map dq) = decide (xs = ys)
  | [], [] => by simp [PyData.eqvAll]
  | [], y :: ys => by simp [PyData.eqvAll]
  | x :: xs, [] => by simp [PyData.eqvAll]
  | x :: xs, y :: ys => by
    show PyData.eqvAll (dq x :: xs.map dq) (dq y :: ys.map dq) = _
    rw [PyData.eqvAll, eqv_qsAll xs ys, eqv_q]
    by_cases h1 : x = y
    · subst h1
      by_cases h2 : xs = ys
      · subst h2
        simp
      · simp [h2]
    · simp [h1]
theorem eqv_qs (xs ys : List Qd) : PyData.eqv (.list (xs.map dq)) (.list (ys.map dq)) = decide (xs = ys) := by
  rw [PyData.eqv, eqv_qsAll]
end Qk
set_option maxRecDepth 100000
set_option maxHeartbeats 4000000
namespace Qk
open PySem PySem.Spec PyProof.Rows L2
/-! ### {elt for a in A for b in B}, without tests -/
section
variable {P : Program} {w : World} {A : Around} {R : Result → Shared → Prop} {s : Shared} {elt t0 i0 t1 i1 : Expr} {scope : Scope} {pos : Pos} {it acc : Value} {env : Env}
/-- nothing is raised -/
abbrev wF {α : Type} (P : Program) (w : World) (A : Around) (t : Sem α) (Q : α → Shared → Prop) (s : Shared) : Prop := wpAny (model P w) A t Q (fun _ _ => False) s
theorem wF.any {α : Type} {t : Sem α} {Q Q' : α → Shared → Prop} {E : Value → Shared → Prop} (h : wF P w A t Q s) (k : ∀ a s, Q a s → Q' a s) : wpAny (model P w) A t Q' E s := wpAny_mono h k fun _ _ z => False.elim z
end
end Qk
set_option maxRecDepth 100000
set_option maxHeartbeats 4000000
namespace Qk
open PySem PySem.Spec PyProof.Rows L2
/-- a loop over J: Done behind it; each turn from a drawn value has to come to the word that is handed to it -/
def Loop (J : It) (Done : Hp → Prop) (Body : V → Hp → (Hp → Prop) → Prop) (H : Hp) : Prop :=
  ∃ W : Nat → Nat → Hp → Prop, (∃ m, W 0 m H) ∧ ∀ i m G, W i m G → (J.stop i G ∧ Done G) ∨ (J.go i G ∧ ∃ Nx : Hp → Prop, (∀ G', Nx G' → ∃ m', m' < m ∧ W (i + 1) m' G') ∧ ∀ x G', J.yld i G x G' → Body x G' Nx)
theorem Loop.list {K : PySem.W.Frag} {a : Addr} {xs : List V} {Done : Hp → Prop} {Body : V → Hp → (Hp → Prop) → Prop} {H : Hp} (Pv : Nat → Hp → Prop) (h0 : Pv 0 H) (hl : ∀ i G, i ≤ xs.length → Pv i G → SqL K G a xs)
    (one : ∀ i x G, xs[i]? = some x → Pv i G → Body x G (Pv (i + 1))) (end_ : ∀ G, Pv xs.length G → Done G) : Loop (Itl K a) Done Body H := by
  refine ⟨fun i m G => m + i = xs.length ∧ Pv i G, ⟨xs.length, rfl, h0⟩, fun i m G hw => ?_⟩
  obtain ⟨hm, p⟩ := hw
  have q := hl i G (by omega) p
  rcases Nat.lt_or_ge i xs.length with lt | ge
  · have g : xs[i]? = some xs[i] := List.getElem?_eq_getElem lt
    refine .inr ⟨⟨xs, xs[i], q, g⟩, Pv (i + 1), fun G' p' => ⟨m - 1, by omega, by omega, p'⟩, fun x G' y => ?_⟩
    obtain ⟨rfl, y⟩ := y
    exact one i x _ (y xs q) p
  · have e : i = xs.length := by omega
    exact .inl ⟨⟨xs, q, ge⟩, end_ G (e ▸ p)⟩
theorem Loop.tup {K : PySem.W.Frag} {a : Addr} {xs : List V} {Done : Hp → Prop} {Body : V → Hp → (Hp → Prop) → Prop} {H : Hp} (Pv : Nat → Hp → Prop) (h0 : Pv 0 H) (hl : ∀ i G, i ≤ xs.length → Pv i G → SqT K G a xs)
    (one : ∀ i x G, xs[i]? = some x → Pv i G → Body x G (Pv (i + 1))) (end_ : ∀ G, Pv xs.length G → Done G) : Loop (Itt K a) Done Body H := by
  refine ⟨fun i m G => m + i = xs.length ∧ Pv i G, ⟨xs.length, rfl, h0⟩, fun i m G hw => ?_⟩
  obtain ⟨hm, p⟩ := hw
  have q := hl i G (by omega) p
  rcases Nat.lt_or_ge i xs.length with lt | ge
  · have g : xs[i]? = some xs[i] := List.getElem?_eq_getElem lt
    refine .inr ⟨⟨xs, xs[i], q, g⟩, Pv (i + 1), fun G' p' => ⟨m - 1, by omega, by omega, p'⟩, fun x G' y => ?_⟩
    obtain ⟨rfl, y⟩ := y
    exact one i x _ (y xs q) p
  · have e : i = xs.length := by omega
    exact .inl ⟨⟨xs, q, ge⟩, end_ G (e ▸ p)⟩
end Qk
set_option maxRecDepth 100000
set_option maxHeartbeats 4000000
set_option maxRecDepth 100000
set_option maxHeartbeats 4000000
namespace Qk
open PySem PySem.Spec PyProof.Rows L2
/-! ### a set of texts whose table can be walked: its members in the order of the rows -/
/-- the row of a text -/
def RowT (P : Program) (w : World) (e : Int × Value) (x : Str) : Prop := e.1 = (strKind P w).hash x ∧ ∃ tk, e.2 = Value.str x tk
structure Txts (P : Program) (w : World) (h : Heap) (a : Addr) (xs : List Str) (o : Obj) (es : Array (Int × Value)) (ep : Nat) (t : SetTable) : Prop where
  ob : h.get? a = some o
  ex : o.ExactSet
  da : o.data = .set es ep t
  rows : Paired (RowT P w) es.toList xs
  nd : xs.Nodup
  few : es.size < scanBound
  fit : t.fits es.size = true
  ris : Ris t.place.toList
  led : w.params.followText "set-order" = true ∨ t.led = true
def TxtSet (P : Program) (w : World) (h : Heap) (a : Addr) (xs : List Str) : Prop := ∃ o es ep t, Txts P w h a xs o es ep t
section
variable {P : Program} {w : World} {h : Heap} {a : Addr} {xs : List Str} {o : Obj} {es : Array (Int × Value)} {ep : Nat} {t : SetTable}
theorem TxtSet.keep {h' : Heap} (R : TxtSet P w h a xs) (k : ∀ u, h.get? a = some u → h'.get? a = some u) : TxtSet P w h' a xs := by
  obtain ⟨o, es, ep, t, r⟩ := R
  exact ⟨o, es, ep, t, { r with ob := k _ r.ob }⟩
theorem TxtSet.fresh (w : World) (hh : h.get? a = some { cls := .type "set", dict := none, data := .set #[] 0 (.fresh 0 0 (!w.params.followText "set-order")) }) : TxtSet P w h a [] := by
  refine ⟨_, #[], 0, _, hh, ⟨rfl, rfl, rfl⟩, rfl, .nil, .nil, by decide, by rfl, .nil, ?_⟩
  show w.params.followText "set-order" = true ∨ (!w.params.followText "set-order") = true
  cases w.params.followText "set-order"
  · exact .inr rfl
  · exact .inl rfl
end
end Qk
set_option maxRecDepth 100000
set_option maxHeartbeats 4000000
set_option maxRecDepth 100000
set_option maxHeartbeats 4000000
set_option maxRecDepth 100000
set_option maxHeartbeats 4000000
set_option maxRecDepth 100000
set_option maxHeartbeats 4000000
/-! rows of names in lists, as data; questions of all rows of a shelf -/
namespace Qk
open PySem PySem.Spec PyProof.Rows L2
theorem PI.or {X : Cx} {tg it : Expr} {wi wi' : TI} (h : PI X tg it wi) (h' : PI X tg it wi') : PI X tg it (fun σ H R => wi σ H R ∨ wi' σ H R) :=
  ⟨fun pins s σ H R I q => q.elim (h.run pins s σ H R I) (h'.run pins s σ H R I)⟩
theorem dok_qs3 {qs : List Qd} (h : ∀ q ∈ qs, Qfine q) (hl : qs.length ≤ 300) : DOk (.list (qs.map dq)) :=
  ⟨fine_qs h, by show PyData.depthAll _ + 1 ≤ 50; have := depth_qs qs; omega, by show costAll _ + 3 ≤ _; have := cost_qs h; omega⟩
/-- a row as data -/
def dR (r : List Str) : PyData := .tuple (r.map PyData.str)
theorem TL.dp {K : PySem.W.Frag} {H : Hp} : ∀ {xs : List V} {rs : List (List Str)}, TL H xs rs → DpAll K H xs (rs.map dR)
  | _, _, .nil => .nil
  | _, _, .cons ⟨t, e, z⟩ r => by
    subst e
    exact .cons (.tup (SqT.of z) (dp_strs _)) (TL.dp r)
theorem fine_r {r : List Str} (h : Row r) : fine (dR r) = true := fine_strs fun c hc => menu_okS c (h.sub c hc)
theorem cost_r {r : List Str} (h : Row r) : cost (dR r) ≤ 2600 := by
  have := h.le
  show costAll (r.map PyData.str) + 3 ≤ _
  rw [cost_strs]
  omega
theorem fine_rs : ∀ {rs : List (List Str)}, (∀ r ∈ rs, Row r) → fineAll (rs.map dR) = true
  | [], _ => rfl
  | r :: rs, h => by
    show (fine (dR r) && fineAll (rs.map dR)) = true
    rw [fine_rs fun q hq => h q (List.mem_cons_of_mem _ hq), Bool.and_true]
    exact fine_r (h r List.mem_cons_self)
theorem cost_rs : ∀ {rs : List (List Str)}, (∀ r ∈ rs, Row r) → costAll (rs.map dR) ≤ 2602 * rs.length
  | [], _ => Nat.le_refl 0
  | r :: rs, h => by
    have h1 := cost_r (h r List.mem_cons_self)
    have h2 := cost_rs fun q hq => h q (List.mem_cons_of_mem _ hq)
    show cost (dR r) + 2 + costAll (rs.map dR) ≤ _
    rw [List.length_cons]
    omega
theorem depth_rs : ∀ (rs : List (List Str)), PyData.depthAll (rs.map dR) ≤ 1
  | [] => Nat.zero_le _
  | r :: rs => by
    show max (PyData.depthAll (r.map PyData.str) + 1) (PyData.depthAll (rs.map dR)) ≤ 1
    rw [depth_strs]
    exact Nat.max_le.mpr ⟨Nat.le_refl 1, depth_rs rs⟩
theorem dok_rs {rs : List (List Str)} (h : ∀ r ∈ rs, Row r) (hl : rs.length ≤ 300) : DOk (.list (rs.map dR)) :=
  ⟨fine_rs h, by show PyData.depthAll _ + 1 ≤ 50; have := depth_rs rs; omega, by show costAll _ + 3 ≤ _; have := cost_rs h; omega⟩
theorem eqv_r (p q : List Str) : PyData.eqv (dR p) (dR q) = decide (p = q) := by
  show PyData.eqv (.tuple _) (.tuple _) = _
  rw [PyData.eqv, eqv_strs]
theorem eqv_rsAll : ∀ (xs ys : List (List Str)), PyData.eqvAll (xs.map dR) (ys.map dR) = decide (xs = ys)
  | [], [] => by simp [PyData.eqvAll]
  | [], y :: ys => by simp [PyData.eqvAll]
  | x :: xs, [] => by simp [PyData.eqvAll]
  | x :: xs, y :: ys => by
    show PyData.eqvAll (dR x :: xs.map dR) (dR y :: ys.map dR) = _
    rw [PyData.eqvAll, eqv_rsAll xs ys, eqv_r]
    by_cases h1 : x = y
    · subst h1
      by_cases h2 : xs = ys
      · subst h2
        simp
      · simp [h2]
    · simp [h1]
theorem eqv_rs (xs ys : List (List Str)) : PyData.eqv (.list (xs.map dR)) (.list (ys.map dR)) = decide (xs = ys) := by
  rw [PyData.eqv, eqv_rsAll]
theorem TL.kp {H H' : Hp} {b l : Addr} {xs : List V} {rs : List (List Str)} (B : Bag H b l) (s : Kp b H H') (h : TL H xs rs) : TL H' xs rs :=
  Paired.mapP h fun x r ⟨t, e, z⟩ => ⟨t, e, s _ _ z (B.ne_tup z)⟩
theorem TL.mem {H : Hp} {xs : List V} {rs : List (List Str)} (h : TL H xs rs) : ∀ x ∈ xs, ∃ (t : Addr) (r : List Str), x = .ref t ∧ r ∈ rs ∧ H t = some (.tup (r.map V.str)) := fun x hx => by
  obtain ⟨i, hi⟩ := List.mem_iff_getElem?.mp hx
  obtain ⟨t, r, e, h1, h2⟩ := h.at_ hi
  exact ⟨t, r, e, List.mem_of_getElem? h1, h2⟩
/-- all questions of some rows -/
def famQ (rs : List (List Str)) : List Qd := rs.flatMap fun r => allQ r r.length
end Qk
set_option maxRecDepth 100000
set_option maxHeartbeats 4000000
/-! operators of one's own: |, &, -, + of two of a class; in and not in -/
set_option maxRecDepth 100000
set_option maxHeartbeats 4000000
/-! try with several clauses whose first one, as n, takes whatever the body raises: the others are never asked -/
namespace Qk
open PySem PySem.Spec PyProof.Rows L2
def wAsF (K : PySem.W.Frag) (c : Value) (i : Nat) (ts : Addr → Value → Option Addr → TS) (D : Ends) : WX := fun cls d σ H => PySem.W.exmOne K cls c = some true ∧
  ∀ a, H a = none → ts a cls d { nx := fun σ' H' => D.nx (σ'.set i none) H', rt := D.rt, bk := fun σ' H' => D.bk (σ'.set i none) H', ct := fun σ' H' => D.ct (σ'.set i none) H' } (σ.set i (some (.ref a))) H
end Qk
set_option maxRecDepth 100000
set_option maxHeartbeats 4000000
/-! a caught error that is handed out: `except A as e: return e` -/
namespace Qk
open PySem PySem.Spec PyProof.Rows L2
/-- an error that was raised: its class and its dict -/
def erx (a : Addr) (cls : Value) (d : Option Addr) : HO := .ext fun h => ∃ (oe : Obj) (vs : Array Value), h.get? a = some oe ∧ Zc cls d oe ∧ oe.data = .fields vs
end Qk
set_option maxRecDepth 100000
set_option maxHeartbeats 4000000
/-! isinstance and the fields of an error that was raised and handed out -/
namespace Qk
open PySem PySem.Spec PyProof.Rows L2
section
variable {X : Cx} {pins : List (Addr × Obj)} {σ : L2.St} {H : Hp} {s : Shared}
/-- an error of the class C that was raised, its fields -/
def Erx (H : Hp) (a C d : Addr) (fs : List (Str × V)) : Prop := H a = some (erx a (.ref C) (some d)) ∧ H d = some (.xd fs)
theorem Erx.same {H H' : Hp} {a C d : Addr} {fs : List (Str × V)} (s : Same H H') (h : Erx H a C d fs) : Erx H' a C d fs := ⟨s _ _ h.1, s _ _ h.2⟩
end
end Qk
set_option maxRecDepth 100000
set_option maxHeartbeats 4000000
/-! try .. except A as n .. else; isinstance of a caught error that has fields -/
namespace Qk
open PySem PySem.Spec PyProof.Rows L2
section
variable {X : Cx} {x n : Str} {c : Value} {i : Nat} {body suite : List Stmt} {b₀ : Stmt} {np pos pos' : Pos} {hds : List ExceptHandler} {tb : WX → TS} {ts : Addr → Value → Option Addr → TS}
theorem ps_try_asE {orelse : List Stmt} {u : TS} (ho : PSs X orelse u) (hs : X.stack = X.env :: X.outer) (hf : X.env.frame = some X.env.locals) (hN : X.N.Nodup) (hi : X.N[i]? = some n) (hln : X.env.kindOf n = some .local) (hc : L2.Names X x c)
    (hb : ∀ (W : WX) (pn : List (Addr × Obj)) (xe : Value → Shared → Prop), Takes (X.tr pn xe) W → PassesOwn (model X.prog X.w) X.A X.env xe → PSs (X.tr pn xe) body (tb W))
    (hsu : ∀ (a : Addr) (oe : Obj) (cls : Value) (d : Option Addr) (pn : List (Addr × Obj)), Zc cls d oe → (∃ vs, oe.data = .fields vs) → PSs (X.suite a ((a, oe) :: pn)) (b₀ :: suite) (ts a cls d)) :
    PS X (.Try body (.ExceptHandler (some (.Name x np)) (some n) (b₀ :: suite) pos' :: hds) orelse [] pos) (fun D σ H => tb (wAsF X.K c i ts D) { D with nx := u D } σ H) := by
  refine ⟨fun pins s σ H D I h => ?_⟩
  have ok := I.ok
  have hfr : X.A.frames = some (X.env :: X.outer) := by rw [ok.frames, hs]
  have hloc : Loc X.env.scope n := .inl hln
  refine wpAny_Try_except ?_
  refine wpAny_mono ((hb (wAsF X.K c i ts D) (X.pn ++ pins) (fun e s₁ => wpAny (model X.prog X.w) X.A (noteFrame e X.env) (fun _ s₂ => wpAny (model X.prog X.w) X.A (setFlight e none) (fun _ s₃ =>
    wpAny (model X.prog X.w) X.A (handleBy e X.env (.ExceptHandler (some (.Name x np)) (some n) (b₀ :: suite) pos' :: hds)) (SP X pins D) X.xe s₃) X.xe s₂) X.xe s₁) (fun u s' xx => ?_) PassesOwn.looking).run [] s σ H { D with nx := u D } (I.toTry _) h) (fun f s1 hsp => ?_) (fun e s1 he => he)
  · obtain ⟨a, B, sI, pins', σ', H', cls, d, rfl, J', nb, up, sky, na, os, ag, hb1, hyes⟩ := xx
    have J : Inv X pins σ' H' sI := J'.ofTry ok
    have sky' : Sky B (X.env :: X.outer) a (Zc cls d) X.env.locals s'.heap := by rw [← hs]; exact sky
    show wpAny (model X.prog X.w) X.A (noteFrame (.ref a) X.env) _ _ _
    refine Sky.land Zc.steady hfr hf sky' fun h3 fl3 up3 => ?_
    have J3 : Inv X pins σ' H' { s' with heap := h3 } := J.landed nb fl3.1 (up.trans up3) os ag
    obtain ⟨oe3, vs3, he3, hz3, hd3⟩ := fl3.there
    have notFr : ∀ {h : Heap} {o : Obj} {vs : Array Value}, h.FunFrames B (X.env :: X.outer) → h.get? a = some o → o.data = .fields vs → a ∉ frs (X.env :: X.outer) := fun {h o vs} ff e dd hm => by
      obtain ⟨_, o', e', hnf⟩ := ff.mem hm
      rw [e] at e'
      cases e'
      exact hnf _ dd
    have nfr := notFr fl3.2.2.1 he3 hd3
    have nL : a ≠ X.env.locals := fun z => nfr (List.mem_filterMap.mpr ⟨X.env, List.mem_cons_self, by rw [hf, z]⟩)
    have nF : a ∉ X.fs := fun hm => by
      obtain ⟨e, he, q⟩ := List.mem_filterMap.mp hm
      exact nfr (List.mem_filterMap.mpr ⟨e, List.mem_cons_of_mem _ he, q⟩)
    have S3 := J3.suite he3 hd3 na nL nF
    refine wpAny_handleBy_cons (codeAny_handlers_test ?_) (by intro q; cases q)
    have LT : PySem.W.Looks (model X.prog X.w) h3 (typeOf (.ref a)) cls := fun A Q E s k q => wpAny_typeOf_ref (k _ _ he3) (by rw [hz3.1]; exact q)
    have LM := PySem.W.exm_one (M := model X.prog X.w) (J3.kIn) LT hb1
    have test : ∀ {Q : Value → Shared → Prop} {E : Value → Shared → Prop}, Q c { s' with heap := h3 } → wpAny (model X.prog X.w) (X.A.mark (some (.ref a))) (eval (.Name x np) X.env) Q E { s' with heap := h3 } := fun {Q E} q => by
      obtain ⟨hg, hdbg, hm | ⟨hm, hv, hnn⟩⟩ := hc
      · exact ld_glob (X := X.suite a ((a, oe3) :: (X.pn ++ pins))) S3 hg hm q hdbg
      · exact ld_blt (X := X.suite a ((a, oe3) :: (X.pn ++ pins))) S3 hg hm hv q hnn hdbg
    refine test (LM.here ?_)
    refine codeAny_handlers_suite_as ?_
    refine HandSPX.lands_againZ fl3 fun h4 fl4 up4 => ?_
    have J4 : Inv X pins σ' H' { s' with heap := h4 } := J.landed nb fl4.1 ((up.trans up3).trans up4) os ag
    obtain ⟨oe4, vs4, he4, hz4, hd4⟩ := fl4.there
    have S4 := J4.suite he4 hd4 na nL nF
    refine store_ok (X := X.suite a ((a, oe4) :: (X.pn ++ pins))) (v := .ref a) S4 hN hi hloc rfl (fun s5 S5 => ?_) (.inr hln)
    refine wpAny_mono ((hsu a oe4 cls d (X.pn ++ pins) hz4 ⟨_, hd4⟩).run [] s5 _ H' _ S5 (hyes a na)) (fun f s6 hsp => ?_) (fun _ _ z => False.elim z)
    have end_ : ∀ {σ6 : L2.St} {H6 : Hp} {Q : Shared → Prop}, Inv (X.suite a ((a, oe4) :: (X.pn ++ pins))) [] σ6 H6 s6 → (∀ s7, Inv X pins (σ6.set i none) H6 s7 → Q s7) →
        wpAny (model X.prog X.w) X.A (do bindName X.env n .none; unbindBehindTheSuite X.env n pos') (fun _ s7 => Q s7) X.xe s6 := fun {σ6 H6 Q} S6 hq => gone_ok (S6.unsuite ok) hN hi hln hq
    cases f with
    | next =>
      obtain ⟨σ6, H6, S6, q6⟩ := hsp
      exact end_ S6 fun s7 J7 => ⟨_, _, J7, q6⟩
    | brk =>
      obtain ⟨σ6, H6, S6, q6⟩ := hsp
      exact end_ S6 fun s7 J7 => ⟨_, _, J7, q6⟩
    | cont =>
      obtain ⟨σ6, H6, S6, q6⟩ := hsp
      exact end_ S6 fun s7 J7 => ⟨_, _, J7, q6⟩
    | ret u =>
      obtain ⟨v6, σ6, H6, S6, r6, q6⟩ := hsp
      exact end_ S6 fun s7 J7 => ⟨_, _, _, J7, r6, q6⟩
  · cases f with
    | next =>
      obtain ⟨σ', H', J', q⟩ := hsp
      exact ho.run pins s1 σ' H' D (J'.ofTry ok) q
    | brk =>
      obtain ⟨σ', H', J', q⟩ := hsp
      exact ⟨σ', H', J'.ofTry ok, q⟩
    | cont =>
      obtain ⟨σ', H', J', q⟩ := hsp
      exact ⟨σ', H', J'.ofTry ok, q⟩
    | ret u =>
      obtain ⟨v, σ', H', J', r, q⟩ := hsp
      exact ⟨v, σ', H', J'.ofTry ok, r, q⟩
end
/-- isinstance(e, c), e the caught error a of a class of one's own, with fields -/
def rIsXf (K : PySem.W.Frag) (a : Addr) (cls : Value) (d : Option Addr) : List V → Hp → VK → Prop := fun xs H Q => ∃ (C dd : Addr) (fs : List (Str × V)) (c : V) (u : Value) (b : Bool), xs = [.ref a, c] ∧ cls = .ref C ∧ d = some dd ∧ ClsV c u ∧ H dd = some (.xd fs) ∧ ErC K C ∧ PySem.W.kitOne K (.ref C) u = some b ∧ Q (.bl b) H
theorem call_isXf {X : Cx} {a : Addr} {oe : Obj} {cls : Value} {d : Option Addr} {pn : List (Addr × Obj)} (hz : Zc cls d oe) (hf : ∃ vs, oe.data = .fields vs) : CallR (X.suite a ((a, oe) :: pn)) (.builtin "isinstance") (rIsXf X.K a cls d) := by
  intro pins s σ H xs us Q I r h
  obtain ⟨C, dd, fs, c, u, b, rfl, rfl, rfl, k, ea, T, e, q⟩ := h
  obtain ⟨u1, u2, rfl, r1, r2⟩ := vals2 r
  have e2 := k.eq r2
  subst e2
  cases (show u1 = Value.ref a from r1)
  obtain ⟨ha, _⟩ := I.pin (a, oe) (List.mem_append_left _ List.mem_cons_self)
  obtain ⟨vs, hd⟩ := hf
  have hx : ObjOk X.prog X.w H s.heap dd (.xd fs) := I.hok dd _ ea
  obtain ⟨mA, hns, hr⟩ := hx
  obtain ⟨od, ho, hl⟩ := lookIn_ns hns
  have J : PySem.W.InstAt s.heap a oe C (some od) := ⟨ha, hz.1, by unfold PySem.W.notCls; rw [hd] <;> rfl, by rw [hz.2]; exact ho⟩
  obtain ⟨cd, hc, _⟩ := PySem.W.any_some T.x.hdC
  exact PySem.W.kia_one (PySem.W.kitx_exc (by rw [hc]; rfl) T.x.ga T.x.gg T.x.exC T.ha T.hn T.ht T.hm) I.kIn J e (fun z => nomatch z) fun tk => ⟨.bl b, H, I.tok tk, rfl, q⟩
end Qk
set_option maxRecDepth 100000
set_option maxHeartbeats 4000000
/-! enumerate(o), o an instance whose __iter__ gives iter of its own list -/
namespace Qk
open PySem PySem.Spec PyProof.Rows L2 ItX
section
variable {prog : Program} {w : World} {A : Around} {E : Value → Shared → Prop} {s : Shared}
/-- the enumeration that is laid when the iterator stands -/
abbrev laidE (it : Value) (s : Shared) : Shared := { s with heap := s.heap.push { cls := .type "enumerate", data := .fields #[.none, .bool false, it, rawInt 0, .none, .none] } }
theorem code_enum_new (v : Value) {Q₁ : Value → Shared → Prop}
    (h : wpAny (model prog w) A.in1 (pyIter v) (fun it s' => Q₁ (.ref s'.heap.objs.size) (laidE it s')) E s) :
    codeAny (model prog w) A (.call (.builtin "enumerate.__new__") ⟨[.type "enumerate", v], []⟩) (wants Q₁ E) s := by
  have hsub := sub_enumerate
  have q1 : ∀ {Q : Value → Shared → Prop}, (∀ it s', Q₁ (.ref s'.heap.objs.size) (laidE it s') → Q it s') → wpAny (model prog w) A.in1 (pyIter v) Q (fun e s' => wants Q₁ E (Except.error e) s') s := fun hQ => wpAny_mono h hQ fun _ _ e => e
  refine codeAny_call_builtin (by decide +kernel) F.entry_enumerate_new (wpAny_of_eq (F.newCall_enumerate_1 _) ?_)
  obtain ⟨hp, g, d, tk, os⟩ := s
  unfold Builtin.«enumerate.__new__»
  wp_walk
  have fin : ∀ (it : Value) (s' : Shared), Q₁ (Value.ref s'.heap.objs.size) (laidE it s') → wpAny (model prog w) A.in1 (Builtin.SmallTypes.newRecord (Value.type "enumerate") (Builtin.SmallTypes.ownedTupleFields ++ [it, rawInt 0, Value.none, Value.none]) >>= ret)
      (fun fin s' => match fin with
        | Fin.done f => wants Q₁ E (Except.ok f) s'
        | Fin.again c' => c'.quiet = true ∧ codeAny (model prog w) A c' (wants Q₁ E) s') (fun e s' => wants Q₁ E (Except.error e) s') s' := fun it s' hq => by
    obtain ⟨hp', g', d', tk', os'⟩ := s'
    wp_walk
    exact hq
  refine wpAny_stack_any fun st => wpAny_pure ?_
  split
  · rename_i c _ _ _ _ _
    cases (c == Value.type "enumerate")
    · wp_walk using q1
      exact fin
    · wp_walk using q1
      exact fin
  · wp_walk using q1
    exact fin
theorem call_enumW (v : Value) {Q : Value → Shared → Prop}
    (h : wpAny (model prog w) A.in1.in1 (pyIter v) (fun it s' => Q (.ref s'.heap.objs.size) (laidE it s')) E s) :
    wpAny (model prog w) A (call (.type "enumerate") [v]) Q E s := by
  refine callType_codes (Q₁ := fun o z => z.TypeIs o "enumerate" ∧ Q o z) F.called_enumerate (F.typeCall_enumerate_1 _) F.entry_object_init (code_enum_new v (wpAny_mono h (fun it s' hq => ⟨⟨_, Heap.get?_push_size _ rfl, rfl⟩, hq⟩) fun _ _ e => e)) ?_
  rintro obj s1 ⟨hT, hq⟩
  exact ⟨hT, F.args_object_init_2 obj _, object_init_meets F.called_enumerate.init.lookup F.called_enumerate.made (by decide +kernel) _ _ _ _ _ ⟨hT, rfl, hq⟩⟩
end
def iEnumOwn (K : PySem.W.Frag) (C : Addr) (f : Str) (ta : TA) : TI := fun σ H R => ta σ H fun vs H1 => ∃ (a l : Addr) (xs : List V), vs = [.ref a] ∧ HasL H1 C a f l xs ∧ R (Ite K l) H1
theorem pi_enumOwn {X : Cx} {C fi : Addr} {f : Str} {fdI : FuncData} {n : Nat} {e : Expr} {ta : TA} {p pos tpos : Pos} {elts : List Expr} {kk : Nat} (oc : OwnIt X.K C fi) (FI : FnS X.prog X.w X.K X.mg X.base n fi fdI ["self"] (spIterF C f)) (bI : Binds X.K fdI ["self"] []) (hr : Room (n + 2) X.A)
    (hg : Gl X "enumerate") (hm : X.mg "enumerate" = none) (ha : PA X [e] ta) (hs : starEach [e] X.env = [(false, eval e X.env)] := by rfl) :
    PI X (.Tuple elts kk tpos) (.Call (.Name "enumerate" p) [e] [] pos) (iEnumOwn X.K C f ta) := by
  refine ⟨fun pins s σ H R I h => ?_⟩
  refine Call_ (ld_blt I hg hm boot_enumerate (PyProof.Rows.callWith_type1 (thn (ha.run pos pins s σ H _ I h) fun us s1 ⟨vs, H1, I1, r1, q1⟩ => ?_) hs rfl))
  obtain ⟨a, l, xs, ex, hh, q⟩ := q1
  subst ex
  cases r1 with
  | cons r rr =>
    cases rr
    cases r
    have sb : Sub X n X.A.in1.in1 := Sub.in1 (Sub.in1 (⟨hr, rfl⟩ : Sub X (n + 2) X.A))
    refine call_enumW (.ref a) (iter_own sb oc FI bI I1 hh fun it s2 I2 hn fresh => ?_)
    have eo := itO_get I2 upd_same
    have hi : (upd H1 it (ItO l it 0)) it = some (ItO l it 0) := upd_same
    have hi' := hi
    unfold ItO at hi'
    have I3 := inv_drop I2 hi'
    have ed : dropH (upd H1 it (ItO l it 0)) it = H1 := dropH_upd hn
    rw [ed] at I3
    have fp := inv_fp I2 hi fresh
    rw [ed] at fp
    have il : it < s2.heap.objs.size := Heap.lt_size eo
    have he : IsEnum (laidE (.ref it) s2).heap s2.heap.objs.size it 0 .none := Heap.get?_push_size _ rfl
    have hit : (laidE (.ref it) s2).heap.IsListIter it l 0 := ⟨_, Heap.get?_push_of_some _ eo, rfl, rfl⟩
    have I4 : Inv X pins σ H1 (laidE (.ref it) s2) := I3.kept (t' := s2.toks) fun b o x => Heap.get?_push_of_some _ x
    refine wpAny_pyIter_enum he ?_
    refine ⟨s2.heap.objs.size, [s2.heap.objs.size, it], _, _, H1, rfl, I4, turn_enum l s2.heap.objs.size it, ⟨⟨.none, he⟩, hit, Nat.ne_of_gt il⟩, fun b hb => ?_, q⟩
    have e' : b = s2.heap.objs.size ∨ b = it := by simpa using hb
    rcases e' with z | z
    · rw [z]
      exact I3.fpOk (Nat.le_refl _) (I3.hok.fresh (Nat.le_refl _))
    · rw [z]
      exact fp
end Qk
set_option maxRecDepth 100000
set_option maxHeartbeats 4000000
namespace Qk
open PySem PySem.Spec PyProof.Rows L2
/-! set(xs), xs a list of texts; xs != [], xs a list of any things -/
section
variable {X : Cx}
/-- xs != [], whatever xs holds -/
def rNeNil (K : PySem.W.Frag) : R2 := fun x y H Q => ∃ (a b : Addr) (xs : List V), x = .ref a ∧ y = .ref b ∧ SqL K H a xs ∧ SqL K H b [] ∧ Q (.bl (!decide (xs = []))) H
theorem op_neNil (hu : X.A.units + 64 < cLine) : OpR X (compareOp .NotEq) (rNeNil X.K) := by
  intro pins s σ H x y v u Q I rx ry h
  obtain ⟨a, b, xs, rfl, rfl, ha, hb, q⟩ := h
  cases rx
  cases ry
  by_cases hx : xs = []
  · subst hx
    exact op_neD hu pins s σ H (.ref a) (.ref b) (.ref a) (.ref b) Q I rfl rfl ⟨.list [], .list [], .lst ha .nil, .lst hb .nil, rfl, rfl, q⟩
  · obtain ⟨its, rv, pl, _⟩ := I.list ha
    obtain ⟨jts, rv2, pl2, _⟩ := I.list hb
    have l1 : its.length = xs.length := rv.length.symm
    have l2 : jts.length = 0 := rv2.length.symm
    have ne : xs.length ≠ 0 := fun e => hx (List.eq_nil_of_length_eq_zero e)
    rw [decide_eq_false hx] at q
    refine PySem.SeqAt.RcNeAt.lists_lengths pl.isList pl2.isList (by simp [l1, l2, ne]) (by omega) X.prog X.w X.xe _ ⟨.bl true, H, I, rfl, q⟩
end
end Qk
set_option maxRecDepth 100000
set_option maxHeartbeats 4000000
namespace Qk
open PySem PySem.Spec PyProof.Rows L2
def top (i : Nat) : Stmt := PySem.Challenge.pw_narrowkeys_k25_serving_told.main.body.getD i (.Pass ⟨0, 0, 0, 0⟩)
abbrev sIsCol : Stmt := top 11
abbrev sAreDiff : Stmt := top 12
abbrev sAreCols : Stmt := top 13
abbrev sAsc : Stmt := top 14
abbrev sIsEmpty : Stmt := top 15
abbrev sIsLast : Stmt := top 16
abbrev sIsQ : Stmt := top 17
abbrev sIsIndex : Stmt := top 18
abbrev sAreQs : Stmt := top 19
abbrev sAreIxs : Stmt := top 20
abbrev sFault : Stmt := top 27
abbrev sServ : Stmt := top 28
abbrev sServers : Stmt := top 30
abbrev sIsServed : Stmt := top 31
abbrev sPlaceOf : Stmt := top 32
abbrev sFaults : Stmt := top 33
abbrev sPlaces : Stmt := top 34
abbrev sUnserved : Stmt := top 35
abbrev sIdle : Stmt := top 36
abbrev sDrop : Stmt := top 37
abbrev sBag : Stmt := top 41
abbrev sTake : Stmt := top 42
abbrev sOne : Stmt := top 43
abbrev sMixed : Stmt := top 44
abbrev sAlike : Stmt := top 45
abbrev sTruth : Stmt := top 46
abbrev sNames : Stmt := top 47
abbrev sQOf : Stmt := top 48
abbrev sQuestions : Stmt := top 49
abbrev sIndex : Stmt := top 50
abbrev sServes : Stmt := top 51
abbrev sServedHere : Stmt := top 52
abbrev sFaultHere : Stmt := top 53
abbrev sShop : Stmt := top 54
abbrev sPlaced : Stmt := top 55
abbrev sFirst : Stmt := top 56
abbrev sSingle : Stmt := top 57
abbrev sEvery : Stmt := top 58
abbrev sAll : Stmt := top 59
abbrev sLaw : Stmt := top 60
abbrev sUInit : Stmt := inClass (top 6) 0
abbrev sAInit : Stmt := inClass (top 25) 0
abbrev sAEq : Stmt := inClass (top 25) 1
abbrev sAIter : Stmt := inClass (top 25) 7
abbrev sAQns : Stmt := inClass (top 25) 8
abbrev sInit : Stmt := inClass (top 39) 0
abbrev sEq : Stmt := inClass (top 39) 1
abbrev sLen : Stmt := inClass (top 39) 3
abbrev sIter : Stmt := inClass (top 39) 5
structure Txt (K : PySem.W.Frag) (mg : Str → Option Value) : Prop where
  len : mg "len" = none
  int : mg "int" = none
  abs : mg "abs" = none
  tuple : mg "tuple" = none
  sorted : mg "sorted" = none
  range : mg "range" = none
  repr : mg "repr" = none
  list : mg "list" = none
  set : mg "set" = none
  isinstance : mg "isinstance" = none
  str : mg "str" = none
  all : mg "all" = none
  enumerate : mg "enumerate" = none
  iter : mg "iter" = none
  zip : mg "zip" = none
  longest : ∃ t, mg "LONGEST_COLUMN" = some (.int 8 t)
  limit : ∃ t, mg "LIMIT" = some (.int 48 t)
/-- the classes Shelf and Asked -/
structure TxC (K : PySem.W.Frag) (mg : Str → Option Value) (C : Addr) : Prop where
  cl : Cls K C
  nQ : NoAttr K C "_indexes"
  mgC : mg "Shelf" = some (.ref C)
  ha : PySem.W.findIn K (.ref C) "__class__" = some (some (.builtin "object.__class__"))
  hn : PySem.W.specialIn K (.builtin "object.__class__") "__get__" = some (some (.builtin "getset_descriptor.__get__"))
  ht : PySem.W.takesIn K (.builtin "object.__class__") = some true
  hm : PySem.W.mroIn K C (.type "object") = some true
structure TxA (K : PySem.W.Frag) (mg : Str → Option Value) (C : Addr) : Prop where
  cl : Cls K C
  nQ : NoAttr K C "_questions"
  mgC : mg "Asked" = some (.ref C)
  ha : PySem.W.findIn K (.ref C) "__class__" = some (some (.builtin "object.__class__"))
  hn : PySem.W.specialIn K (.builtin "object.__class__") "__get__" = some (some (.builtin "getset_descriptor.__get__"))
  ht : PySem.W.takesIn K (.builtin "object.__class__") = some true
  hm : PySem.W.mroIn K C (.type "object") = some true
theorem kit_self {K : PySem.W.Frag} {C : Addr} : PySem.W.kitOne K (.ref C) (.ref C) = some true := by
  unfold PySem.W.kitOne
  exact if_pos (beq_iff_eq.mpr rfl)
section
variable {P : Program} {w : World} {K : PySem.W.Frag} {mg : Str → Option Value} {base : Heap}
def sDead : TS := fun _ _ _ => False
theorem TxC.ty {C : Addr} (T : TxC K mg C) {H : Hp} {a dx : Addr} {fs : List (Str × V)} (h : H a = some (.ins C dx fs)) : TyX K H (.ref a) (.ref C) := .base (.ins h T.cl T.ha T.hn T.ht T.hm)
theorem TxA.ty {C : Addr} (T : TxA K mg C) {H : Hp} {a dx : Addr} {fs : List (Str × V)} (h : H a = some (.ins C dx fs)) : TyX K H (.ref a) (.ref C) := .base (.ins h T.cl T.ha T.hn T.ht T.hm)
theorem ps_dead {X : Cx} {st : Stmt} : PS X st sDead := ⟨fun _ _ _ _ _ _ h => h.elim⟩
theorem scBag : FnScope ["_law_script", "_law_cell"] ["_law_script"] (defScope sBag) := ⟨rfl, rfl, rfl, by decide +kernel, rfl, by decide +kernel, by decide +kernel⟩
theorem ok_bag {f : Addr} {fd : FuncData} (F : Fun K "_law_bag" "_law_bag" sBag f fd) (T : Txt K mg) : FnOk P w K mg base CX0 1 f fd ["_law_script"] (spBag K) := by
  refine F.ok scBag (fun vs H Q E h => ?_) (fun cdv A outer s H vs Q E hr h => ?_)
  · obtain ⟨a, ns, rfl, _⟩ := h
    rfl
  · obtain ⟨a, ns, rfl, hS, hz, k⟩ := h
    have nd := scBag.nd
    refine ⟨_, pss_one (ps_ret (pe_lst (pa_cons pe_int (pa_cons pe_int (pa_cons pe_int (pa_cons (pe_lc (own := [("_law_cell", 1)]) (g := gName 1) (tt := tYes) rfl nd
      (pi_list (pe_slice sl_list (pv 0) po_none (po_some pe_int))) (blkOk_by (N := ["_law_script", "_law_cell"]) (sc := defScope sBag) (by decide +kernel)) (fun _ _ _ _ _ => pg_name (i := 1) nd rfl (Or.inl rfl)) (fun _ _ _ _ _ => pts_nil)
      (fun _ _ _ _ _ => pe_callB call_abs (by rfl) T.abs (by decide +kernel) (pa_cons (pv 1) pa_nil))) pa_nil)))))), ?_⟩
    refine ⟨_, rfl, _, rfl, a, _, rfl, hS, fun p hp => ⟨p, rfl, ⟨_, SqL.of upd_same⟩, fun D hD => ?_⟩⟩
    have e0 : cutV (ns.map V.int) none (some 63) = (ns.take 63).map V.int := (cut_to 63 _).trans List.map_take.symm
    have npD : p ≠ D := ne_of_none upd_same hD
    have s0 : Same H (upd H p (.lst (cutV (ns.map V.int) none (some 63)))) := same_new hp
    have nD : H D = none := s0.free hD
    refine lc_list (K := K) (a := p) (xs := (ns.take 63).map V.int) (fun i H' => Same H H' ∧ H' p = some (.lst ((ns.take 63).map V.int)) ∧ ∃ ms : List Int, H' D = some (.lst (ms.map V.int)) ∧ ms.length ≤ i ∧ ∀ n ∈ ms, 0 ≤ n)
      ⟨s0.trans (same_new hD), by rw [upd_ne npD, upd_same, e0], [], upd_same, Nat.le_refl _, by simp⟩ (fun i H' _ h => SqL.of h.2.1) ?_ ?_
    · rintro i x H' hi ⟨s1, h1, ms, h2, hl, hm⟩
      rw [List.getElem?_map] at hi
      cases e : (ns.take 63)[i]? with
      | none => rw [e] at hi; cases hi
      | some z =>
        rw [e] at hi
        obtain rfl : V.int z = x := Option.some.inj hi
        have hlt : i < 63 := by
          have := (List.getElem?_eq_some_iff.mp e).1
          rw [List.length_take] at this
          omega
        refine ⟨rfl, Exists.intro _ ⟨rfl, z, rfl, _, h2, by rw [List.length_map, sizeLine_eq]; omega, fun b o q => ?_, ?_, ms ++ [if z < 0 then -z else z], by rw [upd_same]; simp, by simp; omega, ?_⟩⟩
        · have : b ≠ D := ne_of_none q nD
          rw [upd_ne this]
          exact s1 _ _ q
        · rw [upd_ne npD]
          exact h1
        · intro n hn
          rcases List.mem_append.mp hn with hn | hn
          · exact hm n hn
          · obtain rfl := List.mem_singleton.mp hn
            split <;> omega
    · rintro H' ⟨s1, h1, ms, h2, hl, hm⟩
      refine ⟨by show 4 ≤ sizeLine; decide, fun q hq => ?_⟩
      have nDq : D ≠ q := ne_of_none h2 hq
      exact k q D _ (s1.free hq) ⟨0, 1234567891, 0, ms, upd_same, by rw [upd_ne nDq]; exact h2, nDq, by decide, by decide, by decide, hm⟩ (s1.trans (same_new hq))
theorem scTake : FnScope ["_law_bag_here", "_law_upto", "_law_cell", "_law_mixed_here", "_law_drawn", "_law_begin", "_law_second"] ["_law_bag_here", "_law_upto"] (defScope sTake) := ⟨rfl, rfl, rfl, by decide +kernel, rfl, by decide +kernel, by decide +kernel⟩
theorem ok_take {f : Addr} {fd : FuncData} (F : Fun K "_law_take" "_law_take" sTake f fd) (T : Txt K mg) : FnOk P w K mg base CX0 1 f fd ["_law_bag_here", "_law_upto"] spTake := by
  refine F.ok scTake (fun vs H Q E h => ?_) (fun cdv A outer s H vs Q E hr h => ?_)
  · obtain ⟨b, l, n, rfl, _⟩ := h
    rfl
  · obtain ⟨b, l, n, rfl, B, n0, n1, k⟩ := h
    have nd := scTake.nd
    obtain ⟨h, m, p, ns, hb, hl, nlb, h0, m0, m1, hns⟩ := id B
    refine ⟨_, Evl.pss_cut (ps_if (pt_cmpR op_eq (pe_ix ix_list (pv 0) pe_int fun _ _ => rfl) pe_int (nomark _))
        (pss_cons (ps_set (i := 2) nd rfl (Or.inl rfl) pe_int)
        (Evl.pss_cut (ps_if (pt_cmpR op_lt (pe_ix ix_list (pv 0) pe_int fun _ _ => rfl) (pe_callB call_len_seq (by rfl) T.len PySem.boot_len (pa_cons (pe_ix ix_list (pv 0) pe_int fun _ _ => rfl) pa_nil)) (nomark _))
          (pss_one (ps_set (i := 2) nd rfl (Or.inl rfl) (pe_ix ix_list (pe_ix ix_list (pv 0) pe_int fun _ _ => rfl) (pe_ix ix_list (pv 0) pe_int fun _ _ => rfl) fun _ _ => rfl))) pss_nil)
        (pss_cons (ps_augS (pv 0) pe_int get_list pe_int ip_add set_list)
        (Evl.pss_cut (ps_if (pt_cmpR op_ge (pv 2) pe_int (nomark _)) (pss_one (ps_asg (pv 2) (pg_sub (pv 0) pe_int set_list))) pss_nil)
        (pss_cons (ps_set (i := 3) nd rfl (Or.inl rfl) (pe_op op_add (pe_op op_add (pe_op op_mul (pe_ix ix_list (pv 0) pe_int fun _ _ => rfl) pe_int)
            (pe_op op_mod (pe_callTy call_int1 (by rfl) T.int (by decide +kernel) (pa_cons (pv 2) pa_nil)) pe_int)) (pe_op op_mul pe_int (pe_ix ix_list (pv 0) pe_int fun _ _ => rfl))))
        (pss_one (ps_asg (pe_op op_mod (pe_callTy call_int1 (by rfl) T.int (by decide +kernel) (pa_cons (pv 3) pa_nil)) pe_int) (pg_sub (pv 0) pe_int set_list)))))))) pss_nil)
      (Evl.pss_cut (ps_if (pt_cmpR op_gt (pe_ix ix_list (pv 0) pe_int fun _ _ => rfl) pe_int (nomark _))
        (pss_cons (ps_set (i := 4) nd rfl (Or.inl rfl) (pe_op op_mod (pe_callTy call_int1 (by rfl) T.int (by decide +kernel) (pa_cons (pe_ix ix_list (pv 0) pe_int fun _ _ => rfl) pa_nil)) (pv 1)))
        (pss_cons (ps_asg (pe_op op_fdivN (pe_callTy call_int1 (by rfl) T.int (by decide +kernel) (pa_cons (pe_ix ix_list (pv 0) pe_int fun _ _ => rfl) pa_nil)) (pv 1)) (pg_sub (pv 0) pe_int set_list))
        (pss_one (ps_ret (pv 4))))) pss_nil)
      (pss_cons (ps_set (i := 5) nd rfl (Or.inl rfl) (pe_op op_mod (pe_callTy call_int1 (by rfl) T.int (by decide +kernel) (pa_cons (pe_op op_mul (pe_op op_add (pe_ix ix_list (pv 0) pe_int fun _ _ => rfl) pe_int) pe_int) pa_nil)) pe_int))
      (pss_cons (ps_set (i := 6) nd rfl (Or.inl rfl) (pe_op op_mod (pe_callTy call_int1 (by rfl) T.int (by decide +kernel) (pa_cons (pe_op op_mul (pe_op op_mod (pe_callTy call_int1 (by rfl) T.int (by decide +kernel) (pa_cons (pe_op op_mul (pv 5) (pv 5)) pa_nil)) pe_int) pe_int) pa_nil)) pe_int))
      (pss_one (ps_ret (pe_op op_mod (pe_callTy call_int1 (by rfl) T.int (by decide +kernel) (pa_cons (pe_op op_fdiv (pv 6) pe_int) pa_nil)) (pv 1)))))))
      , ?_⟩
    refine ⟨fun σ' H' => ∃ c2 c3, σ' = [some (.ref b), some (.int n), c2, c3, none, none, none] ∧ Bag H' b l ∧ Kp b H H', ?_, ?_⟩
    · refine ⟨_, rfl, b, _, _, _, rfl, rfl, SqL.of hb, rfl, rfl, _, rfl, ?_⟩
      refine ite2 (fun _ => ?_) (fun _ => ⟨_, _, rfl, B, Kp.refl _ _⟩)
      refine ⟨fun σ' H' => ∃ c : Int, 0 ≤ c ∧ σ' = [some (.ref b), some (.int n), some (.int c), none, none, none, none] ∧ H' = H, ?_, ?_⟩
      · refine ⟨_, rfl, b, _, _, _, rfl, rfl, SqL.of hb, rfl, _, rfl, b, _, _, _, rfl, rfl, SqL.of hb, rfl, _, _, rfl, .inl (SqL.of hl), _, _, rfl, rfl, _, rfl, ?_⟩
        refine ite2 (fun hc => ?_) (fun _ => ⟨0, Int.le_refl 0, rfl, rfl⟩)
        have hp : p < ns.length := by
          have := of_decide_eq_true hc
          rw [List.length_map] at this
          omega
        refine ⟨_, rfl, b, _, _, _, rfl, rfl, SqL.of hb, rfl, _, rfl, b, _, _, _, rfl, rfl, SqL.of hb, rfl, l, _, _, .int ns[p], rfl, rfl, SqL.of hl, atI_nat (by rw [List.getElem?_map, List.getElem?_eq_getElem hp]; rfl), ?_⟩
        exact ⟨ns[p], hns _ (List.getElem_mem hp), rfl, rfl⟩
      · rintro σ' H' ⟨c, hc, rfl, rfl⟩
        refine ⟨_, rfl, b, _, 2, _, rfl, rfl, SqL.of hb, rfl, _, _, rfl, rfl, b, _, _, 2, rfl, rfl, hb, rfl, ?_⟩
        have hl1 : (upd H' b (HO.lst [.int h, .int m, .int ((p + 1 : Nat) : Int), .ref l])) l = some (HO.lst (ns.map V.int)) := by rw [upd_ne nlb]; exact hl
        refine ⟨fun σ' H2 => ∃ h' : Int, 0 ≤ h' ∧ σ' = [some (.ref b), some (.int n), some (.int c), none, none, none, none] ∧ H2 b = some (.lst [.int h', .int m, .int ((p + 1 : Nat) : Int), .ref l]) ∧ Kp b H' H2, ?_, ?_⟩
        · refine ⟨_, rfl, _, _, rfl, rfl, _, rfl, ?_⟩
          refine ite2 (fun _ => ?_) (fun _ => ⟨h, h0, rfl, upd_same, Kp.at_ _ _ _⟩)
          refine ⟨_, rfl, _, rfl, b, _, 0, 0, rfl, rfl, upd_same, rfl, ?_⟩
          exact ⟨c, hc, rfl, upd_same, (Kp.at_ _ _ _).trans (Kp.at_ _ _ _)⟩
        · rintro σ' H2 ⟨h', h0', rfl, hb2, k2⟩
          have hl2 : H2 l = some (.lst (ns.map V.int)) := k2 _ _ hl nlb
          refine ⟨_, rfl, b, _, 1, _, rfl, rfl, SqL.of hb2, rfl, _, _, rfl, rfl, .inl ⟨by omega, by omega⟩, _, rfl, .inl ⟨_, rfl, _, _, rfl, rfl, (by show (0 : Int) < 2147483647; decide), _, _, rfl, rfl,
            _, rfl, b, _, 2, _, rfl, rfl, SqL.of hb2, rfl, _, _, rfl, rfl, .inl ⟨by decide, by decide⟩, _, _, rfl, rfl, _, rfl, .inl ⟨_, rfl, _, _, rfl, rfl, (by show (0 : Int) < 2147483647; decide), _, rfl, b, _, 1, 1, rfl, rfl, hb2, rfl, ?_⟩⟩⟩
          exact ⟨_, _, rfl, ⟨h', _, p + 1, ns, upd_same, (by rw [upd_ne nlb]; exact hl2), nlb, h0', Int.emod_nonneg _ (by decide), Int.emod_lt_of_pos _ (by decide), hns⟩, k2.trans (Kp.at_ _ _ _)⟩
    · rintro σ1 H1 ⟨c2, c3, rfl, B1, k1⟩
      clear hb hl hns h0 m0 m1
      obtain ⟨h, m, p, ns, hb, hl, nlb, h0, m0, m1, hns⟩ := id B1
      refine ⟨fun σ' H' => σ' = [some (.ref b), some (.int n), c2, c3, none, none, none] ∧ H' = H1, ?_, ?_⟩
      · refine ⟨_, rfl, b, _, 0, _, rfl, rfl, SqL.of hb, rfl, _, _, rfl, rfl, _, rfl, ?_⟩
        refine ite2 (fun _ => ?_) (fun _ => ⟨rfl, rfl⟩)
        obtain ⟨j, ej, hj⟩ := take_mod (k := h) n0
        refine ⟨_, rfl, b, _, 0, _, rfl, rfl, SqL.of hb, rfl, .inl ⟨_, rfl, _, rfl, _, _, rfl, rfl, n0, _, rfl, b, _, 0, _, rfl, rfl, SqL.of hb, rfl, .inl ⟨_, rfl, _, rfl, _, _, rfl, rfl, ⟨by omega, by omega⟩, _, rfl, b, _, 0, 0, rfl, rfl, hb, rfl, _, rfl, ?_⟩⟩⟩
        show Q (.int (h % n)) _
        rw [ej]
        refine k j _ hj ⟨_, m, p, ns, upd_same, (by rw [upd_ne nlb]; exact hl), nlb, ?_, m0, m1, hns⟩ (k1.trans (Kp.at_ _ _ _))
        show 0 ≤ h.fdiv n
        rw [Int.fdiv_eq_ediv_of_nonneg h (by omega)]
        exact Int.ediv_nonneg h0 (by omega)
      · rintro σ' H' ⟨rfl, rfl⟩
        have q1 : ∀ x : Int, 0 ≤ x % 1000000007 ∧ x % 1000000007 < 1000000007 := fun x => ⟨Int.emod_nonneg _ (by decide), Int.emod_lt_of_pos _ (by decide)⟩
        have q2 : ∀ x : Int, 0 ≤ x % 998244353 ∧ x % 998244353 < 998244353 := fun x => ⟨Int.emod_nonneg _ (by decide), Int.emod_lt_of_pos _ (by decide)⟩
        obtain ⟨u, eu⟩ : ∃ u, u = ((m + 1) * 39373) % 1000000007 := ⟨_, rfl⟩
        have hu := q1 ((m + 1) * 39373)
        rw [← eu] at hu
        obtain ⟨j, ej, hj⟩ := take_mod (k := (u * u % 998244353 * 30011 % 998244353) / 7) n0
        have hv := q2 (u * u)
        refine ⟨_, rfl, b, _, 1, _, rfl, rfl, SqL.of hb, rfl, _, _, rfl, rfl, _, _, rfl, rfl, .inl ⟨by omega, by omega⟩, .inl ⟨_, rfl, _, _, rfl, rfl, (by show (0 : Int) < 1000000007; decide), ?_⟩⟩
        show tSeq _ _ _ [some (.ref b), some (.int n), c2, c3, none, some (.int (((m + 1) * 39373) % 1000000007)), none] _
        rw [← eu]
        refine ⟨_, rfl, _, rfl, _, _, rfl, rfl, .inl ⟨by omega, by omega⟩, .inl ⟨_, rfl, _, _, rfl, rfl, (by show (0 : Int) < 998244353; decide), _, _, rfl, rfl, .inl ⟨by omega, by omega⟩, .inl ⟨_, rfl, _, _, rfl, rfl, (by show (0 : Int) < 998244353; decide), _, rfl, _, _, rfl, rfl, ⟨by decide, by decide⟩, .inl ⟨_, rfl, _, rfl, _, _, rfl, rfl, n0, ?_⟩⟩⟩⟩
        show Q (.int ((u * u % 998244353 * 30011 % 998244353) / 7 % n)) _
        rw [ej]
        exact k j _ hj B1 k1
theorem scOne : FnScope ["_law_bag_here", "_law_some"] ["_law_bag_here", "_law_some"] (defScope sOne) := ⟨rfl, rfl, rfl, by decide +kernel, rfl, by decide +kernel, by decide +kernel⟩
theorem ok_one {f : Addr} {fd : FuncData} (F : Fun K "_law_one" "_law_one" sOne f fd) (T : Txt K mg) (cT : Cal P w K mg base 1 "_law_take" ["_law_bag_here", "_law_upto"] spTake) : FnOk P w K mg base CX0 2 f fd ["_law_bag_here", "_law_some"] spOne := by
  refine F.ok scOne (fun vs H Q E h => ?_) (fun cdv A outer s H vs Q E hr h => ?_)
  · obtain ⟨b, l, a, xs, rfl, _⟩ := h
    rfl
  · obtain ⟨b, l, a, xs, rfl, B, nab, ha, hne, hz, k⟩ := h
    refine ⟨_, pss_one (ps_ret (pe_ix ix_list (pv 1) (pe_call cT.G hr rfl cT.m cT.kp cT.b .nil pass0 (pa_cons (pv 0) (pa_cons (pe_callB call_len_seq (by rfl) T.len PySem.boot_len (pa_cons (pv 1) pa_nil)) pa_nil))) fun _ _ => rfl)), ?_⟩
    have hpos : 0 < xs.length := List.length_pos_iff.mpr hne
    refine ⟨_, rfl, _, rfl, _, rfl, _, _, rfl, .inl (SqL.of ha), b, l, _, rfl, B, by omega, by omega, fun j H' hj B' k' => ?_⟩
    have hj' : j < xs.length := by omega
    exact ⟨a, xs, j, xs[j], rfl, rfl, SqL.of (k' _ _ ha nab), atI_nat (List.getElem?_eq_getElem hj'), k _ _ (List.getElem_mem hj') B' k'⟩
theorem scMixed : FnScope ["_law_bag_here", "_law_things", "_law_found", "_law_thing"] ["_law_bag_here", "_law_things"] (defScope sMixed) := ⟨rfl, rfl, rfl, by decide +kernel, rfl, by decide +kernel, by decide +kernel⟩
theorem ok_mixed {f : Addr} {fd : FuncData} (F : Fun K "_law_mixed" "_law_mixed" sMixed f fd) (T : Txt K mg) (cT : Cal P w K mg base 1 "_law_take" ["_law_bag_here", "_law_upto"] spTake) : FnOk P w K mg base CX0 2 f fd ["_law_bag_here", "_law_things"] spMixed := by
  refine F.ok scMixed (fun vs H Q E h => ?_) (fun cdv A outer s H vs Q E hr h => ?_)
  · obtain ⟨b, l, a, xs, rfl, _⟩ := h
    rfl
  · obtain ⟨b, l, a, xs, rfl, B, nab, ha, hz, k⟩ := h
    have nd := scMixed.nd
    refine ⟨_, pss_cons (ps_set (i := 2) nd rfl (Or.inl rfl) (pe_lst pa_nil)) (pss_cons (ps_for PassesOwn.never rfl (pi_list (pv 1)) (pg_name (i := 3) nd rfl (Or.inl rfl))
      (pss_one (ps_expr (pe_bm PySem.F.plainAttrs_list PySem.F.slot_list_insert PySem.F.type_list_insert mt_insert (pv 2)
        (pa_cons (pe_call cT.G hr rfl cT.m cT.kp cT.b .nil pass0 (pa_cons (pv 0) (pa_cons (pe_op op_add (pe_callB call_len_seq (by rfl) T.len PySem.boot_len (pa_cons (pv 2) pa_nil)) pe_int) pa_nil))) (pa_cons (pv 3) pa_nil))))))
      (pss_one (ps_ret (pv 2)))), ?_⟩
    refine ⟨by decide, fun p hp => ?_⟩
    have npb : p ≠ b := B.ne hp
    have nap : a ≠ p := ne_of_none ha hp
    refine ⟨_, rfl, a, rfl, ⟨_, SqL.of (by rw [upd_ne nap]; exact ha)⟩, for_list (K := K) (a := a) (xs := xs) (fun i σ H' => ∃ (ys : List V) (v : Option V), σ = [some (.ref b), some (.ref a), some (.ref p), v] ∧ ys.Perm (xs.take i) ∧ H' p = some (.lst ys) ∧ Bag H' b l ∧ Kp b H H')
      ⟨[], none, rfl, by simp, upd_same, B.new hp, Kp.new hp⟩ (fun i σ H' _ ⟨_, _, _, _, _, _, k'⟩ => SqL.of (k' _ _ ha nab)) ?_ ?_⟩
    · rintro i x σ H' hi ⟨ys, v, rfl, hp1, h1, B1, k1⟩
      have hil : i < xs.length := (List.getElem?_eq_some_iff.mp hi).1
      have hyl : ys.length = i := by
        rw [hp1.length_eq, List.length_take]
        omega
      refine ⟨_, rfl, .inl ⟨rfl, _, SqL.of h1⟩, _, rfl, _, rfl, _, _, rfl, .inl (SqL.of h1), _, _, rfl, rfl, b, l, _, rfl, B1, by omega, by omega, fun j H2 hj B2 k2 => ?_⟩
      refine ⟨_, rfl, p, ys, (j : Int), x, rfl, rfl, k2 _ _ h1 npb, Nat.lt_of_lt_of_le (show ys.length < 1000 by omega) (by rw [sizeLine_eq]; decide), by omega, by omega, ?_⟩
      refine ⟨ys.take j ++ [x] ++ ys.drop j, _, rfl, ?_, ?_, ?_, ?_⟩
      · have e1 : xs.take (i + 1) = xs.take i ++ [x] := by
          rw [List.take_add_one, hi]
          rfl
        rw [e1]
        have q1 : (ys.take j ++ [x] ++ ys.drop j).Perm (ys ++ [x]) := by
          have q2 : (ys.take j ++ ([x] ++ ys.drop j)).Perm (ys.take j ++ (ys.drop j ++ [x])) := List.Perm.append_left _ List.perm_append_comm
          rw [List.append_assoc]
          refine q2.trans ?_
          rw [← List.append_assoc, List.take_append_drop]
        exact q1.trans (hp1.append_right _)
      · rw [upd_same]
        simp
      · exact B2.upd npb.symm (B.nel hp)
      · intro c o hc ncb
        have : c ≠ p := ne_of_none hc hp
        rw [upd_ne this]
        exact k2 _ _ (k1 _ _ hc ncb) ncb
    · rintro σ H' ⟨ys, v, rfl, hp1, h1, B1, k1⟩
      rw [List.take_length] at hp1
      exact ⟨_, rfl, k ys p H' hp1 hp npb h1 B1 k1⟩
def menu13 : List Str := ["a", "b", "aa", "ab", "z", "zzzzzzzz", "job", "view", "power", "status", "ask", "quicklyx", "fghmndct"]
def nm (at_ m : Nat) : List Str := ((menu13 ++ menu13).drop at_).take m
theorem nm_tab : ((List.range 13).all fun a => (List.range 13).all fun m => decide ((nm a m).Nodup) && decide (∀ c ∈ nm a m, c ∈ menu) && decide ((nm a m).length = m)) = true := by decide +kernel
theorem nm_facts {a m : Nat} (ha : a < 13) (hm : m ≤ 12) : (nm a m).Nodup ∧ (∀ c ∈ nm a m, c ∈ menu) ∧ (nm a m).length = m := by
  have := List.all_eq_true.mp (List.all_eq_true.mp nm_tab a (List.mem_range.mpr ha)) m (List.mem_range.mpr (by omega))
  simp only [Bool.and_eq_true, decide_eq_true_eq] at this
  exact ⟨this.1.1, this.1.2, this.2⟩
theorem split13 : Txt.split "a b aa ab z zzzzzzzz job view power status ask quicklyx fghmndct" " " = menu13 := by decide +kernel
abbrev nNames : List Str := ["_law_bag_here", "_law_many", "_law_menu", "_law_at"]
theorem scNames : FnScope nNames ["_law_bag_here", "_law_many"] (defScope sNames) := ⟨rfl, rfl, rfl, by decide +kernel, rfl, by decide +kernel, by decide +kernel⟩
theorem cut_mid {xs : List Str} {lo k : Nat} (h : lo + k ≤ xs.length) : cutV (xs.map V.str) (some (lo : Int)) (some ((lo + k : Nat) : Int)) = ((xs.drop lo).take k).map V.str := by
  unfold cutV
  rw [HT.sIx_nat, HT.sIx_nat, List.length_map, Nat.min_eq_left (show lo ≤ xs.length by omega), Nat.min_eq_left h, List.map_take, List.map_drop]
  congr 1
  omega
theorem scIndex : FnScope ["_law_bag_here", "_law_names_here"] ["_law_bag_here", "_law_names_here"] (defScope sIndex) := ⟨rfl, rfl, rfl, by decide +kernel, rfl, by decide +kernel, by decide +kernel⟩
theorem ok_index {f : Addr} {fd : FuncData} (F : Fun K "_law_index" "_law_index" sIndex f fd) (T : Txt K mg) (cT : Cal P w K mg base 1 "_law_take" ["_law_bag_here", "_law_upto"] spTake) (cM : Cal P w K mg base 2 "_law_mixed" ["_law_bag_here", "_law_things"] spMixed) : FnOk P w K mg base CX0 3 f fd ["_law_bag_here", "_law_names_here"] spIndex := by
  refine F.ok scIndex (fun vs H Q E h => ?_) (fun cdv A outer s H vs Q E hr h => ?_)
  · obtain ⟨b, l, a, xs, rfl, _⟩ := h
    rfl
  · obtain ⟨b, l, a, xs, rfl, B, nab, ha, R, k⟩ := h
    have nd := scIndex.nd
    have hr1 : Room 1 _ := hr.mono (by decide)
    refine ⟨_, pss_one (ps_ret (pe_callTy call_tuple_of (by rfl) T.tuple (by decide +kernel) (pa_cons (pe_slice sl_list (pe_call cM.G hr rfl cM.m cM.kp cM.b .nil pass0 (pa_cons (pv 0) (pa_cons (pv 1) pa_nil))) po_none
        (po_some (pe_op op_add pe_int (pe_call cT.G hr1 rfl cT.m cT.kp cT.b .nil pass0 (pa_cons (pv 0) (pa_cons (pe_callB call_len_seq (by rfl) T.len PySem.boot_len (pa_cons (pv 1) pa_nil)) pa_nil)))))) pa_nil))), ?_⟩
    have hl := R.le
    have hpos := R.pos
    refine ⟨_, rfl, _, rfl, b, l, a, _, rfl, B, nab, ha, by rw [List.length_map]; omega, fun ys0 p H1 hp0 hp hpb h1 B1 k1 => ?_⟩
    obtain ⟨ys, rfl, hy⟩ := perm_strs hp0
    have ha1 := k1 _ _ ha nab
    refine ⟨_, rfl, _, rfl, _, _, rfl, .inl (SqL.of ha1), b, l, _, rfl, B1, by rw [List.length_map]; omega, by rw [List.length_map]; omega, fun j H2 hj B2 k2 => ?_⟩
    rw [List.length_map] at hj
    refine ⟨_, _, rfl, rfl, _, rfl, p, _, rfl, SqL.of (k2 _ _ h1 hpb), fun r hr => ⟨r, _, rfl, .inl ⟨SqL.of upd_same, fun t ht => ?_⟩⟩⟩
    have ec : cutV (ys.map V.str) none (some (1 + (j : Int))) = (ys.take (j + 1)).map V.str := by
      have e1 : (1 + (j : Int)) = ((j + 1 : Nat) : Int) := by omega
      rw [e1, cut_to, List.map_take]
    rw [ec] at ht
    rw [ec]
    have hyl := hy.length_eq
    have sl := List.take_sublist (j + 1) ys
    have s2 : Same H2 _ := (same_new (o := .lst ((ys.take (j + 1)).map V.str)) hr).trans (same_new (o := .tup ((ys.take (j + 1)).map V.str)) ht)
    have hsub : ∀ c ∈ ys.take (j + 1), c ∈ xs := fun c hc => hy.mem_iff.mp (sl.mem hc)
    exact k t (ys.take (j + 1)) _ upd_same ⟨(hy.nodup_iff.mpr R.nd).sublist sl, fun c hc => R.sub _ (hsub c hc), by rw [List.length_take]; omega, by rw [List.length_take]; omega⟩ hsub (B2.same s2) (k1.trans (k2.trans (Kp.of s2)))
theorem SlR.or {X : Cx} {r r' : V → Option Int → Option Int → Hp → VK → Prop} (h : SlR X r) (h' : SlR X r') : SlR X (fun x lo hi H Q => r x lo hi H Q ∨ r' x lo hi H Q) :=
  fun pins s σ H x v vl vu lo hi sl Q I rx hs pl pu q => q.elim (h pins s σ H x v vl vu lo hi sl Q I rx hs pl pu) (h' pins s σ H x v vl vu lo hi sl Q I rx hs pl pu)
/-- a row of names, as a list or a tuple -/
def RowAt (H : Hp) (t : Addr) (xs : List Str) : Prop := H t = some (.lst (xs.map V.str)) ∨ H t = some (.tup (xs.map V.str))
theorem RowAt.same {H H' : Hp} {t : Addr} {xs : List Str} (s : Same H H') (h : RowAt H t xs) : RowAt H' t xs := h.imp (s _ _) (s _ _)
theorem RowAt.seq {K : PySem.W.Frag} {H : Hp} {t : Addr} {xs : List Str} (h : RowAt H t xs) : SqL K H t (xs.map V.str) ∨ SqT K H t (xs.map V.str) := h.imp SqL.of SqT.of
theorem RowAt.ix {K : PySem.W.Frag} {H : Hp} {t : Addr} {xs : List Str} {i : Nat} {c : Str} {Q : VK} (h : RowAt H t xs) (hi : xs[i]? = some c) (q : Q (.str c) H) : L2.rIx K (.ref t) (.int (i : Int)) H Q := by
  have e : atI (xs.map V.str) (i : Int) = some (V.str c) := atI_nat (by rw [List.getElem?_map, hi]; rfl)
  rcases h with h | h
  · exact .inl ⟨t, _, _, _, rfl, rfl, SqL.of h, e, q⟩
  · exact .inr (.inl ⟨t, _, _, _, rfl, rfl, SqT.of h, e, q⟩)
theorem RowAt.cut {K : PySem.W.Frag} {H : Hp} {t : Addr} {xs : List Str} {k : Nat} {Q : VK} (h : RowAt H t xs) (q : ∀ (r : Addr) (H' : Hp), Same H H' → RowAt H' r (xs.take k) → Q (.ref r) H') : rSlL K (.ref t) none (some (k : Int)) H Q ∨ rSlA K (.ref t) none (some (k : Int)) H Q := by
  have e : cutV (xs.map V.str) none (some (k : Int)) = (xs.take k).map V.str := by rw [cut_to, List.map_take]
  rcases h with h | h
  · refine .inl ⟨t, _, rfl, SqL.of h, fun r hr => ?_⟩
    refine q r _ (same_new hr) (.inl ?_)
    rw [upd_same, e]
  · exact .inr (slA h e fun r H' s hr => q r H' s (.inr hr))
def spQOf : Sp := fun vs H Q _ => ∃ (b l t : Addr) (xs : List Str), vs = [.ref b, .ref t] ∧ Bag H b l ∧ t ≠ b ∧ RowAt H t xs ∧ Row xs ∧ ∀ (q : Addr) (cols : List Str) (e : Str) (H' : Hp), QAt H' q cols e → Qok xs cols e → Bag H' b l → Kp b H H' → Q (.ref q) H'
abbrev nQOf : List Str := ["_law_bag_here", "_law_row", "_law_k", "_law_is_ranged"]
theorem scQOf : FnScope nQOf ["_law_bag_here", "_law_row"] (defScope sQOf) := ⟨rfl, rfl, rfl, by decide +kernel, rfl, by decide +kernel, by decide +kernel⟩
theorem ok_qOf {f : Addr} {fd : FuncData} (F : Fun K "_law_question_of" "_law_question_of" sQOf f fd) (T : Txt K mg) (cT : Cal P w K mg base 1 "_law_take" ["_law_bag_here", "_law_upto"] spTake) : FnOk P w K mg base CX0 2 f fd ["_law_bag_here", "_law_row"] spQOf := by
  refine F.ok scQOf (fun vs H Q E h => ?_) (fun cdv A outer s H vs Q E hr h => ?_)
  · obtain ⟨b, l, t, xs, rfl, _⟩ := h
    rfl
  · obtain ⟨b, l, t, xs, rfl, B, tb, ht, R, k⟩ := h
    have nd := scQOf.nd
    refine ⟨_, pss_cons (ps_set (i := 2) nd rfl (Or.inl rfl) (pe_call cT.G hr rfl cT.m cT.kp cT.b .nil pass0 (pa_cons (pv 0) (pa_cons (pe_op op_add (pe_callB call_len_seq (by rfl) T.len PySem.boot_len (pa_cons (pv 1) pa_nil)) pe_int) pa_nil))))
      (pss_cons (ps_if (pt_cmpR op_eq (pv 2) pe_int (nomark _)) (pss_one (ps_ret (pe_tup (pa_cons (pe_tup pa_nil) (pa_cons (pe_ix ix_seq (pv 1) pe_int fun _ _ => rfl) pa_nil))))) pss_nil)
      (Evl.pss_cut (ps_set (i := 3) nd rfl (Or.inl rfl) (pe_and (pe_cmpR op_lt (pv 2) (pe_callB call_len_seq (by rfl) T.len PySem.boot_len (pa_cons (pv 1) pa_nil)) (nomark _)) (pe_one (pe_cmpR op_eq (pe_call cT.G hr rfl cT.m cT.kp cT.b .nil pass0 (pa_cons (pv 0) (pa_cons pe_int pa_nil))) pe_int (nomark _)))))
      (pss_one (ps_ret (pe_tup (pa_cons (pe_callTy call_tuple_of (by rfl) T.tuple (by decide +kernel) (pa_cons (pe_callB cr_sortedST (by rfl) T.sorted (by decide +kernel) (pa_cons (pe_slice (SlR.or sl_list sl_tupA) (pv 1) po_none (po_some (pv 2))) pa_nil)) pa_nil))
        (pa_cons (pe_ifExp (pt_val (pv 3)) (pe_ix ix_seq (pv 1) (pv 2) fun _ _ => rfl) pe_str) pa_nil))))))), ?_⟩
    have hl := R.le
    have hpos := R.pos
    have hlen : (xs.map V.str).length = xs.length := List.length_map _
    have seq : ∀ {H' : Hp}, RowAt H' t xs → SqL K H' t (xs.map V.str) ∨ SqT K H' t (xs.map V.str) := fun h => h.seq
    have rk : ∀ {H' : Hp}, Kp b H H' → RowAt H' t xs := fun k' => ht.imp (fun h => k' _ _ h tb) fun h => k' _ _ h tb
    refine ⟨_, rfl, _, rfl, t, _, rfl, seq ht, _, _, rfl, rfl, b, l, _, rfl, B, by omega, by omega, fun j H1 hj B1 k1 => ?_⟩
    have ht1 := rk k1
    refine ⟨_, rfl, rfl, _, rfl, ?_⟩
    show if decide (V.int (j : Int) = V.int 0) = true then _ else _
    by_cases j0 : j = 0
    · subst j0
      refine iteT ?_
      refine ⟨by decide, fun t1 ht1' => ?_⟩
      have s1 := same_new (o := .tup []) ht1'
      have h0 : xs[0]? = some xs[0] := List.getElem?_eq_getElem hpos
      refine ⟨_, rfl, (ht1.same s1).ix (i := 0) h0 ⟨by show 2 ≤ sizeLine; decide, fun t2 ht2 => ?_⟩⟩
      have s2 := same_new (o := .tup [.ref t1, .str xs[0]]) ht2
      exact k t2 [] xs[0] _ ⟨t1, upd_same, s2 _ _ upd_same⟩ (qok_ranged (k := 0) R (.refl _) h0 (by simp) (by rfl)) (B1.same (s1.trans s2)) (k1.trans (Kp.of (s1.trans s2)))
    · rw [decide_eq_false (fun h => j0 (by injection h with h; omega))]
      refine iteF ?_
      refine ⟨fun σ' H' => ∃ r : Bool, σ' = [some (.ref b), some (.ref t), some (.int (j : Int)), some (.bl r)] ∧ (r = true → j < xs.length) ∧ Bag H' b l ∧ Kp b H H', ?_, ?_⟩
      · refine ⟨_, rfl, _, rfl, t, _, rfl, seq ht1, _, _, rfl, rfl, _, rfl, ?_⟩
        rw [hlen]
        by_cases hjl : j < xs.length
        · rw [decide_eq_true (show (j : Int) < (xs.length : Int) by omega)]
          refine iteT ?_
          refine ⟨_, rfl, b, l, 2, rfl, B1, by decide, by decide, fun j2 H2 hj2 B2 k2 => ⟨rfl, ?_⟩⟩
          exact ⟨_, rfl, fun _ => hjl, B2, k1.trans k2⟩
        · rw [decide_eq_false (show ¬ (j : Int) < (xs.length : Int) by omega)]
          refine iteF ?_
          exact ⟨_, rfl, (fun h => nomatch h), B1, k1⟩
      · rintro σ2 H2 ⟨r, rfl, hr2, B2, k2⟩
        have ht2 := rk k2
        refine ⟨_, rfl, _, rfl, _, rfl, ht2.cut fun r' H3 s3 h3 => ?_⟩
        refine ⟨r', xs.take j, rfl, h3.seq, by rw [List.length_take]; omega, fun ws p1 hw hs hp1 => ⟨p1, _, rfl, .inl ⟨SqL.of upd_same, fun p2 hp2 => ?_⟩⟩⟩
        have s4 : Same H2 _ := s3.trans ((same_new (o := .lst (ws.map V.str)) hp1).trans (same_new (o := .tup (ws.map V.str)) hp2))
        have h5 : (upd (upd H3 p1 (.lst (ws.map V.str))) p2 (.tup (ws.map V.str))) p2 = some (.tup (ws.map V.str)) := upd_same
        generalize upd (upd H3 p1 (.lst (ws.map V.str))) p2 (.tup (ws.map V.str)) = H4 at s4 h5 ⊢
        refine ⟨_, rfl, _, rfl, ?_⟩
        cases r with
        | true =>
          refine iteT ?_
          have hjl := hr2 rfl
          have hg : xs[j]? = some xs[j] := List.getElem?_eq_getElem hjl
          refine ⟨_, rfl, _, rfl, (ht2.same s4).ix hg ⟨by show 2 ≤ sizeLine; decide, fun p3 hp3 => ?_⟩⟩
          have s5 := same_new (o := .tup [.ref p2, .str xs[j]]) hp3
          exact k p3 ws xs[j] _ ⟨p2, upd_same, s5 _ _ h5⟩ (qok_ranged R (.refl _) hg hw hs) (B2.same (s4.trans s5)) (k2.trans (Kp.of (s4.trans s5)))
        | false =>
          refine iteF ?_
          refine ⟨by show 2 ≤ sizeLine; decide, fun p3 hp3 => ?_⟩
          have s5 := same_new (o := .tup [.ref p2, .str ""]) hp3
          have ej : xs.take j = xs.take (j - 1 + 1) := by rw [show j - 1 + 1 = j by omega]
          exact k p3 ws "" _ ⟨p2, upd_same, s5 _ _ h5⟩ (qok_plain (k := j - 1) R (.refl _) (by rw [← ej]; exact hw) hs) (B2.same (s4.trans s5)) (k2.trans (Kp.of (s4.trans s5)))
/-- rows of names as lists -/
def LL (H : Hp) (vs : List V) (rs : List (List Str)) : Prop := Paired (fun (x : V) (r : List Str) => ∃ t, x = .ref t ∧ H t = some (.lst (r.map V.str))) vs rs
theorem LL.kp {H H' : Hp} {b l : Addr} {vs : List V} {rs : List (List Str)} (B : Bag H b l) (s : Kp b H H') (h : LL H vs rs) : LL H' vs rs := Paired.mapP h fun x r ⟨t, e, z⟩ => ⟨t, e, s _ _ z (B.ne_strs z)⟩
theorem LL.same {H H' : Hp} {vs : List V} {rs : List (List Str)} (s : Same H H') (h : LL H vs rs) : LL H' vs rs := Paired.mapP h fun x r ⟨t, e, z⟩ => ⟨t, e, s _ _ z⟩
theorem LL.len {H : Hp} {vs : List V} {rs : List (List Str)} (h : LL H vs rs) : vs.length = rs.length := Paired.length h
theorem LL.mem {H : Hp} {vs : List V} {rs : List (List Str)} (h : LL H vs rs) : ∀ x ∈ vs, ∃ (t : Addr) (r : List Str), x = .ref t ∧ r ∈ rs ∧ H t = some (.lst (r.map V.str)) := by
  induction h with
  | nil => intro x hx; cases hx
  | @cons x0 r0 vs' rs' h1 _ ih =>
    intro x hx
    rcases List.mem_cons.mp hx with e | hx
    · obtain ⟨t, e1, e2⟩ := h1
      exact ⟨t, r0, e.trans e1, List.mem_cons_self, e2⟩
    · obtain ⟨t, r, g1, g2, g3⟩ := ih x hx
      exact ⟨t, r, g1, List.mem_cons_of_mem _ g2, g3⟩
/-- a list of refs alone isn't the bag -/
theorem Bag.ne_refs {H : Hp} {b l p : Addr} {ys : List V} (B : Bag H b l) (hp : H p = some (.lst ys)) (h : ∀ y ∈ ys, ∃ t, y = V.ref t) : p ≠ b := fun e => by
  obtain ⟨g, m, k, ns, hb, _⟩ := B
  rw [e, hb] at hp
  injection hp with hp
  injection hp with hp
  obtain ⟨t, e2⟩ := h (.int g) (by rw [← hp]; exact List.mem_cons_self)
  cases e2
theorem QL.refs {H : Hp} {ys : List V} {qs : List Qd} (h : QL H ys qs) : ∀ y ∈ ys, ∃ t, y = V.ref t := fun y hy => by
  obtain ⟨t, _, e, _⟩ := h.mem y hy
  exact ⟨t, e⟩
theorem TL.refs {H : Hp} {ys : List V} {rs : List (List Str)} (h : TL H ys rs) : ∀ y ∈ ys, ∃ t, y = V.ref t := fun y hy => by
  obtain ⟨t, _, e, _⟩ := h.mem y hy
  exact ⟨t, e⟩
theorem LL.refs {H : Hp} {ys : List V} {rs : List (List Str)} (h : LL H ys rs) : ∀ y ∈ ys, ∃ t, y = V.ref t := fun y hy => by
  obtain ⟨t, _, e, _⟩ := h.mem y hy
  exact ⟨t, e⟩
/-- a list of questions that grows -/
structure Grow (H0 : Hp) (b l p : Addr) (n : Nat) (H : Hp) : Prop where
  bag : Bag H b l
  kp : Kp b H0 H
  qs : ∃ (ys : List V) (qs : List Qd), H p = some (.lst ys) ∧ QL H ys qs ∧ QZs qs ∧ qs.length = n
theorem Grow.step {H0 H H' : Hp} {b l p : Addr} {n : Nat} (g : Grow H0 b l p n H) (npb : p ≠ b) (B : Bag H' b l) (k : Kp b H H') : Grow H0 b l p n H' := by
  obtain ⟨ys, qs, h1, h2, h3, h4⟩ := g.qs
  exact ⟨B, g.kp.trans k, ys, qs, k _ _ h1 npb, h2.kp g.bag k, h3, h4⟩
theorem Grow.push {H0 H : Hp} {b l p q : Addr} {n : Nat} {c : List Str} {e : Str} (g : Grow H0 b l p n H) (hp0 : H0 p = none) (npb : p ≠ b) (nlp : l ≠ p) (hq : QAt H q c e) (Z : QZ c e) :
    ∃ ys, H p = some (.lst ys) ∧ ys.length = n ∧ Grow H0 b l p (n + 1) (upd H p (.lst (ys ++ [.ref q]))) := by
  obtain ⟨ys, qs, h1, h2, h3, h4⟩ := g.qs
  refine ⟨ys, h1, by rw [h2.len]; exact h4, g.bag.upd npb.symm nlp, fun c' o hc ncb => ?_, ys ++ [.ref q], qs ++ [(c, e)], upd_same, QL.off (xs := ys) h1 (h2.snoc (q := (c, e)) hq), fun x hx => ?_, by rw [List.length_append, h4]; rfl⟩
  · rw [upd_ne (ne_of_none hc hp0)]
    exact g.kp _ _ hc ncb
  · rcases List.mem_append.mp hx with m | m
    · exact h3 x m
    · rw [List.mem_singleton.mp m]
      exact Z
def spQuestions : Sp := fun vs H Q _ => ∃ (b l a : Addr) (xs : List Str) (m : Nat), vs = [.ref b, .ref a, .int (m : Int)] ∧ Bag H b l ∧ a ≠ b ∧ H a = some (.lst (xs.map V.str)) ∧ Row xs ∧ m ≤ 20 ∧
  ∀ (p : Addr) (H' : Hp), H p = none → p ≠ b → l ≠ p → Grow H b l p m H' → Q (.ref p) H'
abbrev nQns : List Str := ["_law_bag_here", "_law_names_here", "_law_many", "_law_k", "_law_rows", "_law_found", "_law_row"]
theorem scQns : FnScope nQns ["_law_bag_here", "_law_names_here", "_law_many"] (defScope sQuestions) := ⟨rfl, rfl, rfl, by decide +kernel, rfl, by decide +kernel, by decide +kernel⟩
theorem ok_questions {f : Addr} {fd : FuncData} (F : Fun K "_law_questions" "_law_questions" sQuestions f fd) (T : Txt K mg) (cT : Cal P w K mg base 1 "_law_take" ["_law_bag_here", "_law_upto"] spTake) (cO : Cal P w K mg base 2 "_law_one" ["_law_bag_here", "_law_some"] spOne)
    (cM : Cal P w K mg base 2 "_law_mixed" ["_law_bag_here", "_law_things"] spMixed) (cQ : Cal P w K mg base 2 "_law_question_of" ["_law_bag_here", "_law_row"] spQOf) : FnOk P w K mg base CX0 3 f fd ["_law_bag_here", "_law_names_here", "_law_many"] spQuestions := by
  refine F.ok scQns (fun vs H Q E h => ?_) (fun cdv A outer s H vs Q E hr h => ?_)
  · obtain ⟨b, l, a, xs, m, rfl, _⟩ := h
    rfl
  · obtain ⟨b, l, a, xs, m, rfl, B, nab, ha, R, hm, k⟩ := h
    have nd := scQns.nd
    have hr1 : Room 1 _ := hr.mono (by decide)
    refine ⟨_, pss_cons (ps_par (i := 4) (j := 5) rfl nd rfl rfl (by decide) rfl rfl (pa_cons (pe_lc (own := [("_law_k", 3)]) (g := gName 3) (tt := tYes) rfl nd
          (pi_range1 (by rfl) T.range (pa_cons (pe_op op_add pe_int (pe_call cT.G hr1 rfl cT.m cT.kp cT.b .nil pass0 (pa_cons (pv 0) (pa_cons pe_int pa_nil)))) pa_nil)) (blkOk_by (N := nQns) (sc := defScope sQuestions) (by decide +kernel))
          (fun _ _ _ _ _ => pg_name (i := 3) nd rfl (by first | exact Or.inl rfl | exact Or.inr rfl)) (fun _ _ _ _ _ => pts_nil) (fun _ _ _ _ _ => pe_call cM.G hr rfl cM.m cM.kp cM.b .nil pass0 (pa_cons (pv 0) (pa_cons (pv 1) pa_nil)))) (pa_cons (pe_lst pa_nil) pa_nil)) (by rfl))
      (pss_cons (ps_for PassesOwn.never rfl (pi_range1 (by rfl) T.range (pa_cons (pv 2) pa_nil)) (pg_name (i := 3) nd rfl (by first | exact Or.inl rfl | exact Or.inr rfl))
        (Evl.pss_cut (ps_set (i := 6) nd rfl (by first | exact Or.inl rfl | exact Or.inr rfl) (pe_ifExp (pt_cmpR op_gt (pe_call cT.G hr1 rfl cT.m cT.kp cT.b .nil pass0 (pa_cons (pv 0) (pa_cons pe_int pa_nil))) pe_int (nomark _))
            (pe_call cO.G hr rfl cO.m cO.kp cO.b .nil pass0 (pa_cons (pv 0) (pa_cons (pv 4) pa_nil))) (pe_call cM.G hr rfl cM.m cM.kp cM.b .nil pass0 (pa_cons (pv 0) (pa_cons (pv 1) pa_nil)))))
          (pss_one (ps_expr (pe_bm PySem.F.plainAttrs_list PySem.F.slot_list_append PySem.F.type_list_append mt_append (pv 5) (pa_cons (pe_call cQ.G hr rfl cQ.m cQ.kp cQ.b .nil pass0 (pa_cons (pv 0) (pa_cons (pv 6) pa_nil))) pa_nil))))))
      (pss_one (ps_ret (pv 5)))), ?_⟩
    have hl := R.le
    refine ⟨_, rfl, b, l, 3, rfl, B, by decide, by decide, fun j H1 hj B1 k1 => ⟨_, _, rfl, rfl, ((1 + j : Nat) : Int), by show [V.int (1 + (j : Int))] = _; rw [show (1 + (j : Int)) = ((1 + j : Nat) : Int) by omega], by omega, by omega, fun D hD => ?_⟩⟩
    have ha1 := k1 _ _ ha nab
    have Db := B1.ne hD
    have lD := B1.nel hD
    have naD : a ≠ D := ne_of_none ha1 hD
    have s2 := same_new (o := .lst []) hD
    have D0 : H D = none := by
      cases e : H D with
      | none => rfl
      | some o =>
        rw [k1 _ _ e Db] at hD
        cases hD
    refine lc_range (lo := 0) (n := 1 + j) (fun i H' => Bag H' b l ∧ Kp b H H' ∧ ∃ ys rs, H' D = some (.lst ys) ∧ LL H' ys rs ∧ (∀ r ∈ rs, Row r) ∧ ys.length = i) ⟨B1.same s2, k1.trans (Kp.of s2), [], [], upd_same, .nil, (fun r hr => nomatch hr), rfl⟩ ?_ ?_
    · rintro i H2 hi ⟨B2, k2, ys, rs, hd2, hL, hR, hy⟩
      refine ⟨rfl, Exists.intro _ ⟨rfl, Exists.intro _ ⟨rfl, b, l, a, _, rfl, B2, nab, k2 _ _ ha nab, by rw [List.length_map]; omega, fun zs p H3 hpm hpn hpb hp3 B3 k3 => ?_⟩⟩⟩
      obtain ⟨z, rfl, hz⟩ := perm_strs hpm
      have hd3 := k3 _ _ hd2 Db
      have hL3 := hL.kp B2 k3
      have pD : p ≠ D := fun e => by rw [e, hd2] at hpn; cases hpn
      refine ⟨ys, hd3, small1000 (by omega), B3.upd Db.symm lD, fun c o hc ncb => ?_, ys ++ [.ref p], rs ++ [z], upd_same, ?_, fun r hr => ?_, by rw [List.length_append, hy]; rfl⟩
      · rw [upd_ne (ne_of_none hc D0)]
        exact k3 _ _ (k2 _ _ hc ncb) ncb
      · have off : ∀ {vs : List V} {ws : List (List Str)}, (∀ x ∈ vs, x ≠ V.ref D) → LL H3 vs ws → LL (upd H3 D (.lst (ys ++ [.ref p]))) vs ws := by
          intro vs ws hne h
          induction h with
          | nil => exact .nil
          | @cons x r vs' ws' h1 _ ih =>
            obtain ⟨t, e, g⟩ := h1
            have tD : t ≠ D := fun z => hne x List.mem_cons_self (by rw [e, z])
            exact .cons ⟨t, e, by rw [upd_ne tD]; exact g⟩ (ih fun y hy => hne y (List.mem_cons_of_mem _ hy))
        refine off (fun x hx e => ?_) (paired_app hL3 (.cons ⟨p, rfl, hp3⟩ .nil))
        rcases List.mem_append.mp hx with m1 | m1
        · obtain ⟨t, r, e1, hr1, e2⟩ := hL.mem x m1
          have et : t = D := by rw [e1] at e; injection e
          rw [et, hd2] at e2
          injection e2 with e2
          injection e2 with e2
          have rr := hR r hr1
          obtain ⟨c0, r', er⟩ : ∃ c0 r', r = c0 :: r' := by
            cases h : r with
            | nil => have := rr.pos; rw [h] at this; exact absurd this (by decide)
            | cons c0 r' => exact ⟨c0, r', rfl⟩
          rw [er] at e2
          obtain ⟨t2, e3⟩ := hL.refs (V.str c0) (by rw [e2]; exact List.mem_cons_self)
          cases e3
        · rw [List.mem_singleton.mp m1] at e
          injection e with e
          exact pD e
      · rcases List.mem_append.mp hr with m1 | m1
        · exact hR r m1
        · rw [List.mem_singleton.mp m1]
          exact ⟨hz.nodup_iff.mpr R.nd, fun c hc => R.sub _ (hz.mem_iff.mp hc), by rw [hz.length_eq]; exact R.pos, by rw [hz.length_eq]; exact R.le⟩
    · rintro H2 ⟨B2, k2, ys, rs, hd2, hL, hR, hy⟩
      refine ⟨by decide, fun p hp => ⟨_, _, rfl, ?_⟩⟩
      have s3 := same_new (o := .lst []) hp
      have pb := B2.ne hp
      have lp := B2.nel hp
      have p0 : H p = none := by
        cases e : H p with
        | none => rfl
        | some o =>
          rw [k2 _ _ e pb] at hp
          cases hp
      have Dp' : D ≠ p := ne_of_none hd2 hp
      refine ⟨_, rfl, (m : Int), rfl, by omega, by omega, ?_⟩
      refine for_range (lo := 0) (n := m) (fun i σ H' => (∃ v3 v6, σ = [some (.ref b), some (.ref a), some (.int (m : Int)), v3, some (.ref D), some (.ref p), v6]) ∧ Grow H b l p i H' ∧ H' D = some (.lst ys) ∧ LL H' ys rs)
        ⟨⟨_, _, rfl⟩, ⟨B2.same s3, k2.trans (Kp.of s3), [], [], upd_same, .nil, (fun q hq => nomatch hq), rfl⟩, s3 _ _ hd2, hL.same s3⟩ ?_ ?_
      · rintro i σ H3 hi ⟨⟨v3, v6, rfl⟩, G, hd3, hL3⟩
        refine ⟨fun σ' H' => ∃ (t : Addr) (r : List Str), σ' = [some (.ref b), some (.ref a), some (.int (m : Int)), some (.int (0 + (i : Int))), some (.ref D), some (.ref p), some (.ref t)] ∧ Grow H b l p i H' ∧ H' D = some (.lst ys) ∧ LL H' ys rs ∧ H' t = some (.lst (r.map V.str)) ∧ Row r, ?_, ?_⟩
        · refine ⟨_, rfl, b, l, 3, rfl, G.bag, by decide, by decide, fun j2 H4 hj2 B4 k4 => ⟨_, 0, rfl, rfl, _, rfl, ?_⟩⟩
          have G4 := G.step pb B4 k4
          have hd4 := k4 _ _ hd3 Db
          have hL4 := hL3.kp G.bag k4
          refine ite2 (fun _ => ?_) (fun _ => ?_)
          · refine ⟨_, rfl, _, rfl, b, l, D, ys, rfl, B4, Db, hd4, by intro e; rw [e] at hy; simp at hy; omega, by omega, fun x H5 hx B5 k5 => ?_⟩
            obtain ⟨t, r, rfl, hr5, htr⟩ := (hL4.kp B4 k5).mem x hx
            exact ⟨t, r, rfl, G4.step pb B5 k5, k5 _ _ hd4 Db, hL4.kp B4 k5, htr, hR r hr5⟩
          · refine ⟨_, rfl, _, rfl, b, l, a, _, rfl, B4, nab, G4.kp _ _ ha nab, by rw [List.length_map]; omega, fun zs t H5 hpm htn htb ht5 B5 k5 => ?_⟩
            obtain ⟨z, rfl, hz⟩ := perm_strs hpm
            exact ⟨t, z, rfl, G4.step pb B5 k5, k5 _ _ hd4 Db, hL4.kp B4 k5, ht5, hz.nodup_iff.mpr R.nd, fun c hc => R.sub _ (hz.mem_iff.mp hc), by rw [hz.length_eq]; exact R.pos, by rw [hz.length_eq]; exact R.le⟩
        · rintro σ4 H4 ⟨t, r, rfl, G4, hd4, hL4, ht4, Rr⟩
          obtain ⟨ys4, qs4, hp4, _⟩ := id G4.qs
          refine ⟨_, rfl, .inl ⟨rfl, _, SqL.of hp4⟩, _, rfl, _, rfl, b, l, t, r, rfl, G4.bag, G4.bag.ne_strs ht4, .inl ht4, Rr, fun q c e H5 hq5 ok5 B5 k5 => ?_⟩
          obtain ⟨us, g1, g2, g3⟩ := (G4.step pb B5 k5).push p0 pb lp hq5 (ok5.qz Rr)
          have hd5 := k5 _ _ hd4 Db
          refine ⟨p, us, _, rfl, rfl, g1, small1000 (by omega), ⟨_, _, rfl⟩, g3, by rw [upd_ne Dp']; exact hd5, ?_⟩
          have hL5 := hL4.kp G4.bag k5
          have off : ∀ {vs : List V} {ws : List (List Str)}, (∀ r ∈ ws, Row r) → LL H5 vs ws → LL (upd H5 p (.lst (us ++ [.ref q]))) vs ws := by
            intro vs ws hw h
            induction h with
            | nil => exact .nil
            | @cons x r' vs' ws' h1 _ ih =>
              obtain ⟨t', e', g'⟩ := h1
              have tp : t' ≠ p := fun z => by
                rw [z, g1] at g'
                injection g' with g'
                injection g' with g'
                have rr := hw r' List.mem_cons_self
                obtain ⟨c0, r'', er⟩ : ∃ c0 r'', r' = c0 :: r'' := by
                  cases h : r' with
                  | nil => have := rr.pos; rw [h] at this; exact absurd this (by decide)
                  | cons c0 r'' => exact ⟨c0, r'', rfl⟩
                obtain ⟨ysg, qsg, hg1, hg2, _⟩ := (G4.step pb B5 k5).qs
                rw [g1] at hg1
                injection hg1 with hg1
                injection hg1 with hg1
                subst hg1
                obtain ⟨t2, e3⟩ := hg2.refs (V.str c0) (by rw [g', er]; exact List.mem_cons_self)
                cases e3
              exact .cons ⟨t', e', by rw [upd_ne tp]; exact g'⟩ (ih fun r0 h0 => hw r0 (List.mem_cons_of_mem _ h0))
          exact off hR hL5
      · rintro σ H3 ⟨⟨v3, v6, rfl⟩, G, hd3, hL3⟩
        exact ⟨_, rfl, k p H3 p0 pb lp G⟩
abbrev nShop : List Str := ["_law_bag_here", "_law_wide", "_law_many", "_law_names_here", "_law_rows", "_law_some", "_law_row", "_law_k"]
theorem scShop : FnScope nShop ["_law_bag_here", "_law_wide", "_law_many"] (defScope sShop) := ⟨rfl, rfl, rfl, by decide +kernel, rfl, by decide +kernel, by decide +kernel⟩
theorem scIsCol : FnScope ["thing"] ["thing"] (defScope sIsCol) := ⟨rfl, rfl, rfl, by decide +kernel, rfl, by decide +kernel, by decide +kernel⟩
theorem ok_iscol {f : Addr} {fd : FuncData} (F : Fun K "is_column" "is_column" sIsCol f fd) (T : Txt K mg) : FnOk P w K mg base CX0 1 f fd ["thing"] (spText K colS) := by
  refine F.ok scIsCol (fun vs H Q E h => ?_) (fun cdv A outer s H vs Q E hr h => ?_)
  · obtain ⟨x, rfl, _⟩ := h
    rfl
  · obtain ⟨x, rfl, h⟩ := h
    have nd := scIsCol.nd
    obtain ⟨tl, hl⟩ := T.longest
    refine ⟨_, pss_cons (ps_if (PW.pt (pw_or (pt_not (pt_val (pe_callB call_isi (by rfl) T.isinstance (by decide +kernel) (pa_cons (pv 0) (pa_cons (pe_bltn (v := .ty "str") (by rfl) T.str (by decide +kernel) rfl) pa_nil)))))
        (pw_or1 (pt_not (pt_chain op_le op_le pe_int (pe_callB call_len_str (by rfl) T.len PySem.boot_len (pa_cons (pv 0) pa_nil)) (pe_glob (v := .int 8) rfl hl ⟨tl, rfl⟩)))))) (pss_one (ps_ret pe_bl)) pss_nil)
      (pss_one (ps_ret (pe_and (pe_m0 PySem.F.slot_str_isascii PySem.F.type_str_isascii mt_isascii (pv 0)) (pe_and (pe_m0 PySem.F.slot_str_isalpha PySem.F.type_str_isalpha mt_isalpha (pv 0))
        (pe_one (pe_m0 PySem.F.slot_str_islower PySem.F.type_str_islower mt_islower (pv 0))))))), ?_⟩
    rcases h with ⟨z, rfl, hz, hok, k⟩ | ⟨t, ty, hk, k⟩
    · refine ⟨_, rfl, _, _, .type "str", .type "str", true, rfl, .ty "str", .base (.str z), kit_ty (by decide +kernel), _, rfl, ?_⟩
      refine iteF ?_
      have hlen : z.length = z.cps.size := rfl
      have kk := k H (Same.refl _)
      unfold colS at kk
      refine ⟨_, rfl, z, rfl, by rw [hlen, sizeLine_eq]; omega, 1, _, rfl, rfl, _, rfl, ?_⟩
      rw [hlen]
      by_cases c1 : 1 ≤ z.cps.size
      · have d1 : decide ((1 : Int) ≤ (z.cps.size : Int)) = true := decide_eq_true (by omega)
        rw [d1]
        refine iteT ?_
        refine ⟨_, 8, rfl, rfl, _, rfl, ?_⟩
        by_cases c2 : z.cps.size ≤ 8
        · have d2 : decide ((z.cps.size : Int) ≤ 8) = true := decide_eq_true (by omega)
          rw [d2]
          refine iteF ?_
          rw [decide_eq_true c1, decide_eq_true c2, ← low_iff z c1, Bool.true_and, Bool.true_and] at kk
          refine ⟨_, rfl, ⟨_, rfl⟩, z, rfl, rfl, True.intro, _, rfl, ?_⟩
          cases h1 : Txt.isascii z with
          | false =>
            rw [h1, Bool.false_and] at kk
            refine iteF ?_
            exact kk
          | true =>
            rw [h1, Bool.true_and] at kk
            refine iteT ?_
            refine ⟨_, rfl, ⟨_, rfl⟩, z, rfl, rfl, True.intro, _, rfl, ?_⟩
            cases h2 : Txt.isalpha z with
            | false =>
              rw [h2, Bool.false_and] at kk
              refine iteF ?_
              exact kk
            | true =>
              rw [h2, Bool.true_and] at kk
              refine iteT ?_
              exact ⟨_, rfl, ⟨_, rfl⟩, z, rfl, rfl, True.intro, kk⟩
        · have d2 : decide ((z.cps.size : Int) ≤ 8) = false := decide_eq_false (by omega)
          rw [d2]
          refine iteT ?_
          rw [decide_eq_false c2, Bool.and_false, Bool.false_and] at kk
          exact kk
      · have d1 : decide ((1 : Int) ≤ (z.cps.size : Int)) = false := decide_eq_false (by omega)
        rw [d1]
        refine iteF ?_
        refine ⟨_, rfl, ?_⟩
        refine iteT ?_
        rw [decide_eq_false c1, Bool.false_and, Bool.false_and] at kk
        exact kk
    · refine ⟨_, rfl, _, _, .type t, .type "str", false, rfl, .ty "str", ty, kit_ty hk, _, rfl, ?_⟩
      refine iteT ?_
      exact k
theorem scIsEmpty : FnScope ["thing"] ["thing"] (defScope sIsEmpty) := ⟨rfl, rfl, rfl, by decide +kernel, rfl, by decide +kernel, by decide +kernel⟩
theorem ok_isempty {f : Addr} {fd : FuncData} (F : Fun K "is_empty" "is_empty" sIsEmpty f fd) (T : Txt K mg) : FnOk P w K mg base CX0 1 f fd ["thing"] (spText K fun z => decide (z = "")) := by
  refine F.ok scIsEmpty (fun vs H Q E h => ?_) (fun cdv A outer s H vs Q E hr h => ?_)
  · obtain ⟨x, rfl, _⟩ := h
    rfl
  · obtain ⟨x, rfl, h⟩ := h
    refine ⟨_, pss_one (ps_ret (pe_and (pe_callB call_isi (by rfl) T.isinstance (by decide +kernel) (pa_cons (pv 0) (pa_cons (pe_bltn (v := .ty "str") (by rfl) T.str (by decide +kernel) rfl) pa_nil))) (pe_one (pe_cmpR op_eq (pv 0) pe_str (nomark _))))), ?_⟩
    rcases h with ⟨z, rfl, hz, hok, k⟩ | ⟨t, ty, hk, k⟩
    · refine ⟨_, rfl, _, _, .type "str", .type "str", true, rfl, .ty "str", .base (.str z), kit_ty (by decide +kernel), _, rfl, ?_⟩
      refine iteT ?_
      refine ⟨_, rfl, rfl, ?_⟩
      have e1 : decide (V.str z = V.str "") = decide (z = "") := decide_eq_decide.mpr ⟨fun h => by injection h, fun h => congrArg V.str h⟩
      rw [e1]
      exact k H (Same.refl _)
    · refine ⟨_, rfl, _, _, .type t, .type "str", false, rfl, .ty "str", ty, kit_ty hk, _, rfl, ?_⟩
      refine iteF ?_
      exact k
def VAny (K : PySem.W.Frag) (H : Hp) (x : V) : Prop := (∃ z, x = .str z ∧ z.cps.size ≤ 1000 ∧ PyData.strOk z = true) ∨ ((∀ z, x ≠ .str z) ∧ ∃ t : String, TyX K H x (.type t) ∧ kitB t "str" = some false)
def lastB (x : V) (zs : List Str) : Bool := match x with
  | .str z => decide (z = "") || (colS z && !decide (z ∈ zs))
  | _ => false
def spLast (K : PySem.W.Frag) : Sp := fun vs H Q _ => ∃ (x : V) (t : Addr) (zs : List Str), vs = [x, .ref t] ∧ H t = some (.tup (zs.map V.str)) ∧ (∀ H', Same H H' → VAny K H' x) ∧ ∀ H', Same H H' → Q (.bl (lastB x zs)) H'
theorem lastB_not {x : V} {zs : List Str} (h : ∀ z, x ≠ .str z) : lastB x zs = false := by
  cases x with
  | str z => exact absurd rfl (h z)
  | _ => rfl
theorem scIsLast : FnScope ["thing", "columns"] ["thing", "columns"] (defScope sIsLast) := ⟨rfl, rfl, rfl, by decide +kernel, rfl, by decide +kernel, by decide +kernel⟩
theorem ok_islast {f : Addr} {fd : FuncData} (F : Fun K "is_last" "is_last" sIsLast f fd) (T : Txt K mg) (cC : Cal P w K mg base 1 "is_column" ["thing"] (spText K colS)) (cE : Cal P w K mg base 1 "is_empty" ["thing"] (spText K fun z => decide (z = ""))) :
    FnOk P w K mg base CX0 2 f fd ["thing", "columns"] (spLast K) := by
  refine F.ok scIsLast (fun vs H Q E h => ?_) (fun cdv A outer s H vs Q E hr h => ?_)
  · obtain ⟨x, t, zs, rfl, _⟩ := h
    rfl
  · obtain ⟨x, t, zs, rfl, ht, hv, k⟩ := h
    refine ⟨_, pss_one (ps_ret (pe_or (pe_call cE.G hr rfl cE.m cE.kp cE.b .nil pass0 (pa_cons (pv 0) pa_nil)) (pe_one (pe_and (pe_call cC.G hr rfl cC.m cC.kp cC.b .nil pass0 (pa_cons (pv 0) pa_nil))
      (pe_one (pe_cmpR op_notIn_seq (pv 0) (pv 1) (by rfl))))))), ?_⟩
    refine ⟨_, rfl, x, rfl, ?_⟩
    rcases hv H (Same.refl _) with ⟨z, rfl, hz, hok⟩ | ⟨hne, tt, ty, hk⟩
    · refine .inl ⟨z, rfl, hz, hok, fun H1 s1 => ⟨_, rfl, ?_⟩⟩
      have kk : ∀ H', Same H H' → Q (.bl (decide (z = "") || (colS z && !decide (z ∈ zs)))) H' := k
      show if decide (z = "") = true then _ else _
      by_cases he : z = ""
      · rw [decide_eq_true he] at kk ⊢
        refine iteT ?_
        exact kk H1 s1
      · rw [decide_eq_false he] at kk ⊢
        refine iteF ?_
        refine ⟨_, rfl, _, rfl, .inl ⟨z, rfl, hz, hok, fun H2 s2 => ⟨_, rfl, ?_⟩⟩⟩
        have s3 := s1.trans s2
        cases hc : colS z with
        | false =>
          refine iteF ?_
          have := kk H2 s3
          rw [hc] at this
          exact this
        | true =>
          refine iteT ?_
          refine ⟨_, rfl, _, rfl, t, _, rfl, .inr (SqT.of (s3 _ _ ht)), rfl, flat_strs _, ?_⟩
          have := kk H2 s3
          rw [hc] at this
          show Q (.bl (!inV (.str z) (zs.map V.str))) H2
          rw [inV_strs]
          exact this
    · refine .inr ⟨tt, ty, hk, _, rfl, ?_⟩
      refine iteF ?_
      refine ⟨_, rfl, x, rfl, .inr ⟨tt, ty, hk, _, rfl, ?_⟩⟩
      refine iteF ?_
      have := k H (Same.refl _)
      rw [lastB_not hne] at this
      exact this
/-- zip(t, t[1:]): each with the next one -/
theorem walk_next {K : PySem.W.Frag} {a b : Addr} {xs : List V} : Walk (RZ.ItzT K a b) (xs.length - 1) (fun H => SqT K H a xs ∧ SqT K H b (xs.drop 1)) (fun i H v H' => ∃ (T : Addr) (x y : V), v = .ref T ∧ H T = none ∧ H' = upd H T (.tup [x, y]) ∧ xs[i]? = some x ∧ xs[i + 1]? = some y) := by
  have nx : ∀ i, (xs.drop 1)[i]? = xs[i + 1]? := fun i => by rw [List.getElem?_drop, Nat.add_comm]
  constructor
  · intro i G lt ⟨qa, qb⟩
    have l2 : i + 1 < xs.length := by omega
    exact ⟨xs, xs.drop 1, xs[i], xs[i + 1], qa, qb, List.getElem?_eq_getElem (by omega), (nx i).trans (List.getElem?_eq_getElem l2)⟩
  · intro G ⟨qa, qb⟩
    exact ⟨xs, xs.drop 1, qa, qb, .inr (by rw [List.length_drop]; exact Nat.le_refl _)⟩
  · intro i G v G' _ ⟨qa, qb⟩ ⟨T, x, y, e1, e2, e3, e4, e5⟩
    exact ⟨T, x, y, e1, e2, e3, e4 xs qa, (nx i).symm.trans (e5 _ qb)⟩
theorem rep_snoc (n : Nat) : (List.replicate n true).map V.bl ++ [V.bl true] = (List.replicate (n + 1) true).map V.bl := by
  rw [List.replicate_succ', List.map_append]
  rfl
theorem rep_all (n : Nat) : (List.replicate n true).all id = true := by
  rw [List.all_eq_true]
  intro x hx
  rw [List.eq_of_mem_replicate hx]
  rfl
theorem menu_sz : ∀ c ∈ menu, c.cps.size ≤ 1000 := by decide +kernel
theorem ltCps_dec : ∀ a b : List Nat, ltCps a b = decide (a < b)
  | [], [] => by simp [ltCps]
  | [], _ :: _ => by simp [ltCps]
  | _ :: _, [] => by simp [ltCps]
  | a :: r, b :: t => by
    rw [ltCps, ltCps_dec r t, Bool.eq_iff_iff]
    simp [List.cons_lt_cons_iff]
theorem adj_lt {cols : List Str} (hn : cols.Nodup) (hs : sortedS cols = true) {i : Nat} {c d : Str} (h1 : cols[i]? = some c) (h2 : cols[i + 1]? = some d) : decide (c.cps.toList < d.cps.toList) = true := by
  have pw := sortedS_pw hs
  obtain ⟨l1, e1⟩ := List.getElem?_eq_some_iff.mp h1
  obtain ⟨l2, e2⟩ := List.getElem?_eq_some_iff.mp h2
  have le := List.pairwise_iff_getElem.mp pw i (i + 1) l1 l2 (by omega)
  rw [e1, e2] at le
  have ne : c ≠ d := fun e => by
    have := List.pairwise_iff_getElem.mp hn i (i + 1) l1 l2 (by omega)
    rw [e1, e2] at this
    exact this e
  unfold leS at le
  refine decide_eq_true ?_
  rw [ltCps_dec] at le
  have nl := of_decide_eq_false le
  rcases List.le_iff_lt_or_eq.mp (List.not_lt.mp nl) with q | q
  · exact q
  · exact absurd (str_ext q) ne
theorem slice_whole {H1 : Hp} {cols : List Str} {t : Addr} (ht : H1 t = some (.tup (cols.map V.str))) (hw : HT.sIx (cols.map V.str).length 0 (some 1) = 0 ∧ HT.sIx (cols.map V.str).length (cols.map V.str).length none = (cols.map V.str).length) : H1 t = some (.tup ((cols.drop 1).map V.str)) := by
  have e0 : cols = [] := by
    have h1 := hw.1
    rw [show (1 : Int) = ((1 : Nat) : Int) from rfl, HT.sIx_nat] at h1
    rw [List.length_map] at h1
    have : cols.length = 0 := by omega
    exact List.eq_nil_of_length_eq_zero this
  rw [ht, e0]
  rfl
theorem slice_part {H1 : Hp} {cols : List Str} {q : Addr} (hq : H1 q = none) : (upd H1 q (.tup (cutV (cols.map V.str) (some 1) none))) q = some (.tup ((cols.drop 1).map V.str)) := by
  have ec : cutV (cols.map V.str) (some 1) none = (cols.drop 1).map V.str := by
    have := cut_behind 0 (cols.map V.str)
    rw [List.map_drop]
    exact this
  rw [ec]
  exact upd_same
def spAreCols : Sp := fun vs H Q _ => ∃ (t : Addr) (cols : List Str), vs = [.ref t] ∧ H t = some (.tup (cols.map V.str)) ∧ cols.Nodup ∧ sortedS cols = true ∧ (∀ c ∈ cols, c ∈ menu) ∧ cols.length ≤ 12 ∧ ∀ H', Same H H' → Q (.bl true) H'
abbrev nAsc : List Str := ["things", "one", "other"]
theorem scAsc : FnScope nAsc ["things"] (defScope sAsc) := ⟨rfl, rfl, rfl, by decide +kernel, rfl, by decide +kernel, by decide +kernel⟩
theorem ok_asc {f : Addr} {fd : FuncData} (F : Fun K "is_ascending" "is_ascending" sAsc f fd) (T : Txt K mg) : FnOk P w K mg base CX0 1 f fd ["things"] spAreCols := by
  refine F.ok scAsc (fun vs H Q E h => ?_) (fun cdv A outer s H vs Q E hr h => ?_)
  · obtain ⟨t, cols, rfl, _⟩ := h
    rfl
  · obtain ⟨t, cols, rfl, ht, hn, hs, hm, hl, k⟩ := h
    have nd := scAsc.nd
    refine ⟨_, pss_one (ps_ret (pe_callB (cr_all rfl) (by rfl) T.all (by decide +kernel) (pa_cons (pe_lc (own := [("one", 1), ("other", 2)]) (g := gTup K 2 (gCons (gName 1) (gCons (gName 2) gNil))) (tt := tYes) rfl nd (RZ.pi_zipA (by rfl) T.zip (pa_cons (pv 0) (pa_cons (pe_slice sl_tupA (pv 0) (po_some pe_int) po_none) pa_nil)))
        (blkOk_by (N := nAsc) (sc := defScope sAsc) (by decide +kernel)) (fun _ _ _ _ _ => pg_tup (by rfl) (pgs_cons (pg_name (i := 1) nd rfl (by first | exact Or.inl rfl | exact Or.inr rfl)) (pgs_cons (pg_name (i := 2) nd rfl (by first | exact Or.inl rfl | exact Or.inr rfl)) pgs_nil)))
        (fun _ _ _ _ _ => pts_nil) (fun _ _ _ _ _ => pe_cmpR op_lt_str (pv 1) (pv 2) (nomark _))) pa_nil))), ?_⟩
    have ht1 := ht
    refine ⟨_, rfl, _, rfl, 1, rfl, t, _, rfl, SqT.of ht1, fun hw => ?_, fun hw q hq0 => ?_⟩
    · have hq := slice_whole ht1 hw
      refine ⟨t, t, _, _, rfl, .inr ⟨SqT.of (ht1), SqT.of hq, fun D2 hD2 => ?_⟩⟩
      refine lc_it (walk_next (xs := cols.map V.str)) (fun i H' => Same H H' ∧ H' D2 = some (.lst ((List.replicate i true).map V.bl))) ⟨same_new hD2, upd_same⟩
        (fun i H' _ h => ⟨SqT.of (h.1 _ _ ht1), SqT.of (h.1 _ _ (by rw [← List.map_drop]; exact hq))⟩) ?_ ?_
      · rintro i x H3 H4 hi ⟨s3, hDl3⟩ y
        obtain ⟨T4, x1, y1, rfl, hT, rfl, hx1, hy1⟩ := y
        rw [List.length_map] at hi
        rw [List.getElem?_map] at hx1 hy1
        obtain ⟨c, hc, rfl⟩ := Option.map_eq_some_iff.mp hx1
        obtain ⟨d, hd, rfl⟩ := Option.map_eq_some_iff.mp hy1
        have sT := same_new (o := .tup [V.str c, V.str d]) hT
        refine ⟨T4, _, rfl, SqT.of upd_same, rfl, _, _, rfl, _, _, rfl, rfl, rfl, ?_⟩
        refine ⟨_, rfl, _, rfl, c, d, rfl, rfl, ?_⟩
        rw [adj_lt hn hs hc hd]
        refine ⟨_, sT _ _ hDl3, small1000 (by simp; omega), fun b o hb => ?_, ?_⟩
        · rw [upd_ne (ne_of_none hb hD2)]
          exact sT _ _ (s3 _ _ hb)
        · rw [upd_same, rep_snoc]
      · rintro H3 ⟨s3, hDl3⟩
        refine ⟨D2, _, rfl, SqL.of hDl3, ?_⟩
        rw [rep_all]
        exact k H3 s3
    · have s2 := same_new (o := .tup (cutV (cols.map V.str) (some 1) none)) hq0
      have hq := slice_part (cols := cols) hq0
      generalize upd H q (.tup (cutV (cols.map V.str) (some 1) none)) = H2 at s2 hq ⊢
      refine ⟨t, q, _, _, rfl, .inr ⟨SqT.of (s2 _ _ ht1), SqT.of hq, fun D2 hD2 => ?_⟩⟩
      refine lc_it (walk_next (xs := cols.map V.str)) (fun i H' => Same H2 H' ∧ H' D2 = some (.lst ((List.replicate i true).map V.bl))) ⟨same_new hD2, upd_same⟩
        (fun i H' _ h => ⟨SqT.of (h.1 _ _ (s2 _ _ ht1)), SqT.of (h.1 _ _ (by rw [← List.map_drop]; exact hq))⟩) ?_ ?_
      · rintro i x H3 H4 hi ⟨s3, hDl3⟩ y
        obtain ⟨T4, x1, y1, rfl, hT, rfl, hx1, hy1⟩ := y
        rw [List.length_map] at hi
        rw [List.getElem?_map] at hx1 hy1
        obtain ⟨c, hc, rfl⟩ := Option.map_eq_some_iff.mp hx1
        obtain ⟨d, hd, rfl⟩ := Option.map_eq_some_iff.mp hy1
        have sT := same_new (o := .tup [V.str c, V.str d]) hT
        refine ⟨T4, _, rfl, SqT.of upd_same, rfl, _, _, rfl, _, _, rfl, rfl, rfl, ?_⟩
        refine ⟨_, rfl, _, rfl, c, d, rfl, rfl, ?_⟩
        rw [adj_lt hn hs hc hd]
        refine ⟨_, sT _ _ hDl3, small1000 (by simp; omega), fun b o hb => ?_, ?_⟩
        · rw [upd_ne (ne_of_none hb hD2)]
          exact sT _ _ (s3 _ _ hb)
        · rw [upd_same, rep_snoc]
      · rintro H3 ⟨s3, hDl3⟩
        refine ⟨D2, _, rfl, SqL.of hDl3, ?_⟩
        rw [rep_all]
        exact k H3 (s2.trans s3)
abbrev nAC : List Str := ["thing", "one"]
theorem scAreCols : FnScope nAC ["thing"] (defScope sAreCols) := ⟨rfl, rfl, rfl, by decide +kernel, rfl, by decide +kernel, by decide +kernel⟩
theorem ok_arecols {f : Addr} {fd : FuncData} (F : Fun K "are_columns" "are_columns" sAreCols f fd) (T : Txt K mg) (cC : Cal P w K mg base 1 "is_column" ["thing"] (spText K colS)) (cA : Cal P w K mg base 1 "is_ascending" ["things"] spAreCols) : FnOk P w K mg base CX0 2 f fd ["thing"] spAreCols := by
  refine F.ok scAreCols (fun vs H Q E h => ?_) (fun cdv A outer s H vs Q E hr h => ?_)
  · obtain ⟨t, cols, rfl, _⟩ := h
    rfl
  · obtain ⟨t, cols, rfl, ht, hn, hs, hm, hl, k⟩ := h
    have nd := scAreCols.nd
    refine ⟨_, pss_cons (ps_if (PW.pt (pw_or (pt_not (pt_val (pe_callB call_isi (by rfl) T.isinstance (by decide +kernel) (pa_cons (pv 0) (pa_cons (pe_bltn (v := .ty "tuple") (by rfl) T.tuple (by decide +kernel) rfl) pa_nil)))))
        (pw_or1 (pt_not (pt_val (pe_callB (cr_all rfl) (by rfl) T.all (by decide +kernel) (pa_cons (pe_lc (own := [("one", 1)]) (g := gName 1) (tt := tYes) rfl nd (pi_tup (pv 0)) (blkOk_by (N := nAC) (sc := defScope sAreCols) (by decide +kernel))
          (fun _ _ _ _ _ => pg_name (i := 1) nd rfl (by first | exact Or.inl rfl | exact Or.inr rfl)) (fun _ _ _ _ _ => pts_nil) (fun _ _ _ _ _ => pe_call cC.G hr rfl cC.m cC.kp cC.b .nil pass0 (pa_cons (pv 1) pa_nil))) pa_nil))))))) (pss_one (ps_ret pe_bl)) pss_nil)
      (pss_one (ps_ret (pe_call cA.G hr rfl cA.m cA.kp cA.b .nil pass0 (pa_cons (pv 0) pa_nil)))), ?_⟩
    refine ⟨_, rfl, _, _, .type "tuple", .type "tuple", true, rfl, .ty "tuple", .base (.tup ht), kit_ty (by decide +kernel), _, rfl, ?_⟩
    refine iteF ?_
    refine ⟨_, rfl, t, rfl, ⟨_, SqT.of ht⟩, fun D hD => ?_⟩
    refine lc_tup (K := K) (a := t) (xs := cols.map V.str) (fun i H' => Same H H' ∧ H' D = some (.lst ((List.replicate i true).map V.bl))) ⟨same_new hD, upd_same⟩ (fun i H' _ h => SqT.of (h.1 _ _ ht)) ?_ ?_
    · rintro i x H1 hx ⟨s1, hDl⟩
      rw [List.getElem?_map] at hx
      obtain ⟨c, hc, rfl⟩ := Option.map_eq_some_iff.mp hx
      have mc := hm c (List.mem_of_getElem? hc)
      have li : i < 12 := Nat.lt_of_lt_of_le (List.getElem?_eq_some_iff.mp hc).1 hl
      refine ⟨rfl, Exists.intro _ ⟨rfl, _, rfl, .inl ⟨c, rfl, menu_sz c mc, menu_ok c mc, fun H2 s2 => ?_⟩⟩⟩
      rw [menu_col c mc]
      refine ⟨_, s2 _ _ hDl, small1000 (by simp; omega), fun b o hb => ?_, ?_⟩
      · rw [upd_ne (ne_of_none hb hD)]
        exact s2 _ _ (s1 _ _ hb)
      · rw [upd_same, rep_snoc]
    · rintro H1 ⟨s1, hDl⟩
      refine ⟨D, _, rfl, SqL.of hDl, _, rfl, ?_⟩
      rw [rep_all]
      refine iteF ?_
      exact ⟨_, rfl, t, cols, rfl, s1 _ _ ht, hn, hs, hm, hl, fun H2 s2 => k H2 (s1.trans s2)⟩
def spIsQ : Sp := fun vs H Q _ => ∃ (q : Addr) (cols : List Str) (e : Str), vs = [.ref q] ∧ QAt H q cols e ∧ QZ cols e ∧ ∀ H', Same H H' → Q (.bl true) H'
theorem scIsQ : FnScope ["thing", "columns", "last"] ["thing"] (defScope sIsQ) := ⟨rfl, rfl, rfl, by decide +kernel, rfl, by decide +kernel, by decide +kernel⟩
theorem esz {cols : List Str} {e : Str} (Z : QZ cols e) : e.cps.size ≤ 1000 ∧ PyData.strOk e = true := by
  rcases Z.m.esub with rfl | h
  · exact ⟨by decide, by decide +kernel⟩
  · exact ⟨menu_sz _ h, menu_ok _ h⟩
theorem ok_isq {f : Addr} {fd : FuncData} (F : Fun K "is_question" "is_question" sIsQ f fd) (T : Txt K mg) (cA : Cal P w K mg base 2 "are_columns" ["thing"] spAreCols) (cL : Cal P w K mg base 2 "is_last" ["thing", "columns"] (spLast K)) : FnOk P w K mg base CX0 3 f fd ["thing"] spIsQ := by
  refine F.ok scIsQ (fun vs H Q E h => ?_) (fun cdv A outer s H vs Q E hr h => ?_)
  · obtain ⟨q, cols, e, rfl, _⟩ := h
    rfl
  · obtain ⟨q, cols, e, rfl, ⟨c, hq, hc⟩, Z, k⟩ := h
    have nd := scIsQ.nd
    refine ⟨_, pss_cons (ps_if (PW.pt (pw_or (pt_not (pt_val (pe_callB call_isi (by rfl) T.isinstance (by decide +kernel) (pa_cons (pv 0) (pa_cons (pe_bltn (v := .ty "tuple") (by rfl) T.tuple (by decide +kernel) rfl) pa_nil)))))
        (pw_or1 (pt_cmpR op_ne (pe_callB call_len_seq (by rfl) T.len PySem.boot_len (pa_cons (pv 0) pa_nil)) pe_int (nomark _))))) (pss_one (ps_ret pe_bl)) pss_nil)
      (pss_cons (ps_asg (pv 0) (pg_tup (by rfl) (pgs_cons (pg_name (i := 1) nd rfl (Or.inl rfl)) (pgs_cons (pg_name (i := 2) nd rfl (Or.inl rfl)) pgs_nil))))
      (pss_cons (ps_if (PW.pt (pw_or (pt_not (pt_val (pe_call cA.G hr rfl cA.m cA.kp cA.b .nil pass0 (pa_cons (pv 1) pa_nil))))
        (pw_or1 (pt_not (pt_val (pe_call cL.G hr rfl cL.m cL.kp cL.b .nil pass0 (pa_cons (pv 2) (pa_cons (pv 1) pa_nil)))))))) (pss_one (ps_ret pe_bl)) pss_nil)
      (pss_one (ps_ret (pe_or (pe_cmpR (op_neD hr.units) (pv 1) (pe_tup pa_nil) (nomark _)) (pe_one (pe_cmpR op_ne (pv 2) pe_str (nomark _)))))))), ?_⟩
    refine ⟨_, rfl, _, _, .type "tuple", .type "tuple", true, rfl, .ty "tuple", .base (.tup hq), kit_ty (by decide +kernel), _, rfl, ?_⟩
    refine iteF ?_
    refine ⟨_, rfl, _, _, rfl, .inr (SqT.of hq), rfl, _, rfl, ?_⟩
    refine iteF ?_
    refine ⟨_, rfl, q, _, rfl, SqT.of hq, rfl, _, _, rfl, _, _, rfl, rfl, ?_⟩
    refine ⟨_, rfl, c, cols, rfl, hc, Z.m.nd, Z.m.srt, Z.m.sub, Z.m.le, fun H1 s1 => ⟨_, rfl, ?_⟩⟩
    refine iteF ?_
    have hc1 := s1 _ _ hc
    refine ⟨_, rfl, _, rfl, .str e, c, cols, rfl, hc1, fun H' _ => .inl ⟨e, rfl, esz Z⟩, fun H2 s2 => ⟨_, rfl, ?_⟩⟩
    have el : lastB (.str e) cols = true := by
      show (decide (e = "") || (colS e && !decide (e ∈ cols))) = true
      rcases Z.m.esub with rfl | h
      · rfl
      · rw [menu_col _ h, decide_eq_false Z.ne]
        simp
    rw [el]
    refine iteF ?_
    have hc2 := s2 _ _ hc1
    have cm : ∀ c ∈ cols, PyData.strOk c = true := Z.strOk
    refine ⟨_, rfl, by show 0 ≤ sizeLine; decide, fun e0 he0 => ?_⟩
    have s3 := same_new (o := .tup []) he0
    refine ⟨.tuple (cols.map PyData.str), .tuple (([] : List Str).map PyData.str), .tup (SqT.of (s3 _ _ hc2)) (dp_strs _), .tup (SqT.of upd_same) (dp_strs []), shaped_tuple cm, shaped_tuple (fun c hc => nomatch hc), _, rfl, ?_⟩
    show if (!PyData.eqv (.tuple (cols.map PyData.str)) (.tuple (([] : List Str).map PyData.str))) = true then _ else _
    rw [PyData.eqv, eqv_strs]
    have sA := s1.trans (s2.trans s3)
    by_cases hn : cols = []
    · rw [decide_eq_true hn]
      refine iteF ?_
      refine ⟨_, rfl, rfl, ?_⟩
      have ne : e ≠ "" := fun h => Z.m.some h hn
      have e1 : (!decide (V.str e = V.str "")) = true := by
        rw [decide_eq_false (fun h => ne (by injection h))]
        rfl
      show Q (V.bl (!decide (V.str e = V.str ""))) _
      rw [e1]
      exact k _ sA
    · rw [decide_eq_false hn]
      refine iteT ?_
      exact k _ sA
def spAreQs (K : PySem.W.Frag) : Sp := fun vs H Q _ => ∃ (a : Addr) (xs : List V) (qs : List Qd), vs = [.ref a] ∧ H a = some (.lst xs) ∧ QL H xs qs ∧ xs.length < 64 ∧ QZs qs ∧ ∀ H', Same H H' → Q (.bl true) H'
theorem scAreQs : FnScope ["thing", "one"] ["thing"] (defScope sAreQs) := ⟨rfl, rfl, rfl, by decide +kernel, rfl, by decide +kernel, by decide +kernel⟩
theorem ok_areqs {f : Addr} {fd : FuncData} (F : Fun K "are_questions" "are_questions" sAreQs f fd) (T : Txt K mg) (cI : Cal P w K mg base 3 "is_question" ["thing"] spIsQ) : FnOk P w K mg base CX0 4 f fd ["thing"] (spAreQs K) := by
  refine F.ok scAreQs (fun vs H Q E h => ?_) (fun cdv A outer s H vs Q E hr h => ?_)
  · obtain ⟨a, xs, qs, rfl, _⟩ := h
    rfl
  · obtain ⟨a, xs, qs, rfl, ha, hq, hl, hz, k⟩ := h
    have nd := scAreQs.nd
    refine ⟨_, pss_one (ps_ret (pe_and (pe_callB call_isiT (by rfl) T.isinstance (by decide +kernel) (pa_cons (pv 0) (pa_cons (pe_tup (pa_cons (pe_bltn (v := .ty "list") (by rfl) T.list (by decide +kernel) rfl) (pa_cons (pe_bltn (v := .ty "tuple") (by rfl) T.tuple (by decide +kernel) rfl) pa_nil))) pa_nil)))
      (pe_one (pe_callB (cr_all rfl) (by rfl) T.all (by decide +kernel) (pa_cons (pe_lc (own := [("one", 1)]) (g := gName 1) (tt := tYes) rfl nd (pi_list (pv 0)) (blkOk_by (N := ["thing", "one"]) (sc := defScope sAreQs) (by decide +kernel))
        (fun _ _ _ _ _ => pg_name (i := 1) nd rfl (by first | exact Or.inl rfl | exact Or.inr rfl)) (fun _ _ _ _ _ => pts_nil) (fun _ _ _ _ _ => pe_call cI.G hr rfl cI.m cI.kp cI.b .nil pass0 (pa_cons (pv 1) pa_nil))) pa_nil))))), ?_⟩
    refine ⟨_, rfl, by show 2 ≤ sizeLine; decide, fun tp htp => ?_⟩
    have s0 := same_new (o := .tup [.ty "list", .ty "tuple"]) htp
    refine ⟨_, tp, _, .type "list", [.type "list", .type "tuple"], true, rfl, upd_same, .cons (.ty "list") (.cons (.ty "tuple") .nil), .base (.lst (s0 _ _ ha)), ?_, _, rfl, ?_⟩
    · exact kitAny_cons (b := true) (kit_ty (by decide +kernel)) (fun h => by cases h) (fun _ => rfl)
    refine iteT ?_
    have ha0 := s0 _ _ ha
    have hq0 := hq.same s0
    generalize upd H tp (.tup [.ty "list", .ty "tuple"]) = H0 at s0 ha0 hq0 ⊢
    refine ⟨_, rfl, a, rfl, ⟨_, SqL.of ha0⟩, fun D hD => ?_⟩
    refine lc_list (K := K) (a := a) (xs := xs) (fun i H' => Same H0 H' ∧ H' D = some (.lst ((List.replicate i true).map V.bl))) ⟨same_new hD, upd_same⟩ (fun i H' _ h => SqL.of (h.1 _ _ ha0)) ?_ ?_
    · rintro i x H1 hx ⟨s1, hDl⟩
      obtain ⟨t, q, rfl, hqi, hqa⟩ := (hq0.same s1).at_ hx
      have li : i < 64 := Nat.lt_trans (List.getElem?_eq_some_iff.mp hx).1 hl
      refine ⟨rfl, Exists.intro _ ⟨rfl, t, q.1, q.2, rfl, hqa, hz q (List.mem_of_getElem? hqi), fun H2 s2 => ?_⟩⟩
      refine ⟨_, s2 _ _ hDl, small1000 (by simp; omega), fun b o hb => ?_, ?_⟩
      · rw [upd_ne (ne_of_none hb hD)]
        exact s2 _ _ (s1 _ _ hb)
      · rw [upd_same, rep_snoc]
    · rintro H1 ⟨s1, hDl⟩
      refine ⟨D, _, rfl, SqL.of hDl, ?_⟩
      rw [rep_all]
      exact k H1 (s0.trans s1)
/-- a row that stands as a tuple is one -/
def spRowT : Sp := fun vs H Q _ => ∃ (t : Addr) (r : List Str), vs = [.ref t] ∧ H t = some (.tup (r.map V.str)) ∧ Row r ∧ ∀ H', Same H H' → Q (.bl true) H'
abbrev nAD : List Str := ["things", "thing"]
theorem scAreDiff : FnScope nAD ["things"] (defScope sAreDiff) := ⟨rfl, rfl, rfl, by decide +kernel, rfl, by decide +kernel, by decide +kernel⟩
theorem ok_arediff {f : Addr} {fd : FuncData} (F : Fun K "are_different_columns" "are_different_columns" sAreDiff f fd) (T : Txt K mg) (cC : Cal P w K mg base 1 "is_column" ["thing"] (spText K colS)) : FnOk P w K mg base CX0 2 f fd ["things"] spRowT := by
  refine F.ok scAreDiff (fun vs H Q E h => ?_) (fun cdv A outer s H vs Q E hr h => ?_)
  · obtain ⟨t, r, rfl, _⟩ := h
    rfl
  · obtain ⟨t, r, rfl, ht, R, k⟩ := h
    have nd := scAreDiff.nd
    refine ⟨_, pss_one (ps_ret (pe_and (pe_callB (cr_all rfl) (by rfl) T.all (by decide +kernel) (pa_cons (pe_lc (own := [("thing", 1)]) (g := gName 1) (tt := tYes) rfl nd (pi_tup (pv 0)) (blkOk_by (N := nAD) (sc := defScope sAreDiff) (by decide +kernel))
          (fun _ _ _ _ _ => pg_name (i := 1) nd rfl (by first | exact Or.inl rfl | exact Or.inr rfl)) (fun _ _ _ _ _ => pts_nil) (fun _ _ _ _ _ => pe_call cC.G hr rfl cC.m cC.kp cC.b .nil pass0 (pa_cons (pv 1) pa_nil))) pa_nil))
        (pe_one (pe_cmpR op_eq (pe_callB (r := rLenX P w) cr_lenX (by rfl) T.len PySem.boot_len (pa_cons (pe_callTy (r := rSetX K P w) (cr_setX rfl) (by rfl) T.set (by decide +kernel) (pa_cons (pv 0) pa_nil)) pa_nil)) (pe_callB call_len_seq (by rfl) T.len PySem.boot_len (pa_cons (pv 0) pa_nil)) (nomark _))))), ?_⟩
    refine ⟨_, rfl, t, rfl, ⟨_, SqT.of ht⟩, fun D hD => ?_⟩
    refine lc_tup (K := K) (a := t) (xs := r.map V.str) (fun i H' => Same H H' ∧ H' D = some (.lst ((List.replicate i true).map V.bl))) ⟨same_new hD, upd_same⟩ (fun i H' _ h => SqT.of (h.1 _ _ ht)) ?_ ?_
    · rintro i x H1 hx ⟨s1, hDl⟩
      rw [List.getElem?_map] at hx
      obtain ⟨c, hc, rfl⟩ := Option.map_eq_some_iff.mp hx
      have mc := R.sub c (List.mem_of_getElem? hc)
      have li : i < 12 := Nat.lt_of_lt_of_le (List.getElem?_eq_some_iff.mp hc).1 R.le
      refine ⟨rfl, Exists.intro _ ⟨rfl, _, rfl, .inl ⟨c, rfl, menu_sz c mc, menu_ok c mc, fun H2 s2 => ?_⟩⟩⟩
      rw [menu_col c mc]
      refine ⟨_, s2 _ _ hDl, small1000 (by simp; omega), fun b o hb => ?_, ?_⟩
      · rw [upd_ne (ne_of_none hb hD)]
        exact s2 _ _ (s1 _ _ hb)
      · rw [upd_same, rep_snoc]
    · rintro H1 ⟨s1, hDl⟩
      refine ⟨D, _, rfl, SqL.of hDl, _, rfl, ?_⟩
      rw [rep_all]
      refine iteT ?_
      have ht1 := s1 _ _ ht
      refine ⟨_, rfl, t, r, rfl, SqT.of ht1, Nat.le_trans R.le (by decide), fun p n hp hn he => ⟨p, _, n, rfl, upd_same, ?_⟩⟩
      have s2 := same_new (o := SetX P w p (fun z => decide (z ∈ r)) n) hp
      refine ⟨_, rfl, t, _, rfl, .inr (SqT.of (s2 _ _ ht1)), rfl, ?_⟩
      have e : decide (V.int (n : Int) = V.int ((r.map V.str).length : Int)) = true := by
        rw [he R.nd, List.length_map]
        exact decide_eq_true rfl
      show Q (V.bl (decide (V.int (n : Int) = V.int ((r.map V.str).length : Int)))) _
      rw [e]
      exact k _ (s1.trans s2)
theorem scIsIndex : FnScope ["thing"] ["thing"] (defScope sIsIndex) := ⟨rfl, rfl, rfl, by decide +kernel, rfl, by decide +kernel, by decide +kernel⟩
theorem ok_isindex {f : Addr} {fd : FuncData} (F : Fun K "is_index" "is_index" sIsIndex f fd) (T : Txt K mg) (cD : Cal P w K mg base 2 "are_different_columns" ["things"] spRowT) : FnOk P w K mg base CX0 3 f fd ["thing"] spRowT := by
  refine F.ok scIsIndex (fun vs H Q E h => ?_) (fun cdv A outer s H vs Q E hr h => ?_)
  · obtain ⟨t, r, rfl, _⟩ := h
    rfl
  · obtain ⟨t, r, rfl, ht, R, k⟩ := h
    refine ⟨_, pss_one (ps_ret (pe_and (pe_callB call_isi (by rfl) T.isinstance (by decide +kernel) (pa_cons (pv 0) (pa_cons (pe_bltn (v := .ty "tuple") (by rfl) T.tuple (by decide +kernel) rfl) pa_nil)))
      (pe_and (pe_cmpR op_gt (pe_callB call_len_seq (by rfl) T.len PySem.boot_len (pa_cons (pv 0) pa_nil)) pe_int (nomark _)) (pe_one (pe_call cD.G hr rfl cD.m cD.kp cD.b .nil pass0 (pa_cons (pv 0) pa_nil)))))), ?_⟩
    refine ⟨_, rfl, _, _, .type "tuple", .type "tuple", true, rfl, .ty "tuple", .base (.tup ht), kit_ty (by decide +kernel), _, rfl, ?_⟩
    refine iteT ?_
    refine ⟨_, rfl, _, _, rfl, .inr (SqT.of ht), _, 0, rfl, rfl, _, rfl, ?_⟩
    have hp := R.pos
    have e1 : decide ((0 : Int) < ((r.map V.str).length : Int)) = true := decide_eq_true (by rw [List.length_map]; omega)
    rw [e1]
    refine iteT ?_
    exact ⟨_, rfl, t, r, rfl, ht, R, k⟩
def spAreIxs : Sp := fun vs H Q _ => ∃ (a : Addr) (xs : List V) (rs : List (List Str)), vs = [.ref a] ∧ (H a = some (.lst xs) ∨ H a = some (.tup xs)) ∧ TL H xs rs ∧ xs.length < 64 ∧ (∀ r ∈ rs, Row r) ∧ ∀ H', Same H H' → Q (.bl true) H'
abbrev nAI : List Str := ["thing", "one"]
theorem scAreIxs : FnScope nAI ["thing"] (defScope sAreIxs) := ⟨rfl, rfl, rfl, by decide +kernel, rfl, by decide +kernel, by decide +kernel⟩
theorem ok_areixs {f : Addr} {fd : FuncData} (F : Fun K "are_indexes" "are_indexes" sAreIxs f fd) (T : Txt K mg) (cI : Cal P w K mg base 3 "is_index" ["thing"] spRowT) : FnOk P w K mg base CX0 4 f fd ["thing"] spAreIxs := by
  refine F.ok scAreIxs (fun vs H Q E h => ?_) (fun cdv A outer s H vs Q E hr h => ?_)
  · obtain ⟨a, xs, rs, rfl, _⟩ := h
    rfl
  · obtain ⟨a, xs, rs, rfl, ha, hq, hl, hz, k⟩ := h
    have nd := scAreIxs.nd
    refine ⟨_, pss_one (ps_ret (pe_and (pe_callB call_isiT (by rfl) T.isinstance (by decide +kernel) (pa_cons (pv 0) (pa_cons (pe_tup (pa_cons (pe_bltn (v := .ty "list") (by rfl) T.list (by decide +kernel) rfl) (pa_cons (pe_bltn (v := .ty "tuple") (by rfl) T.tuple (by decide +kernel) rfl) pa_nil))) pa_nil)))
      (pe_one (pe_callB (cr_all rfl) (by rfl) T.all (by decide +kernel) (pa_cons (pe_lc (own := [("one", 1)]) (g := gName 1) (tt := tYes) rfl nd (PI.or (pi_list (pv 0)) (pi_tup (pv 0))) (blkOk_by (N := nAI) (sc := defScope sAreIxs) (by decide +kernel))
        (fun _ _ _ _ _ => pg_name (i := 1) nd rfl (by first | exact Or.inl rfl | exact Or.inr rfl)) (fun _ _ _ _ _ => pts_nil) (fun _ _ _ _ _ => pe_call cI.G hr rfl cI.m cI.kp cI.b .nil pass0 (pa_cons (pv 1) pa_nil))) pa_nil))))), ?_⟩
    refine ⟨_, rfl, by show 2 ≤ sizeLine; decide, fun tp htp => ?_⟩
    have s0 := same_new (o := .tup [.ty "list", .ty "tuple"]) htp
    have step : ∀ {G0 : Hp} {D : Addr}, Same H G0 → G0 D = none → ∀ (i : Nat) (x : V) (H1 : Hp), xs[i]? = some x → (Same G0 H1 ∧ H1 D = some (.lst ((List.replicate i true).map V.bl))) → ∃ (t : Addr) (r : List Str), x = .ref t ∧ H1 t = some (.tup (r.map V.str)) ∧ Row r ∧ i < 64 := fun {G0 D} s hD i x H1 hx h => by
      obtain ⟨t, r, e, h1, h2⟩ := ((hq.same s).same h.1).at_ hx
      exact ⟨t, r, e, h2, hz r (List.mem_of_getElem? h1), Nat.lt_trans (List.getElem?_eq_some_iff.mp hx).1 hl⟩
    rcases ha with ha | ha
    · refine ⟨_, tp, _, .type "list", [.type "list", .type "tuple"], true, rfl, upd_same, .cons (.ty "list") (.cons (.ty "tuple") .nil), .base (.lst (s0 _ _ ha)), ?_, _, rfl, ?_⟩
      · exact kitAny_cons (b := true) (kit_ty (by decide +kernel)) (fun h => by cases h) (fun _ => rfl)
      refine iteT ?_
      have ha0 := s0 _ _ ha
      generalize upd H tp (.tup [.ty "list", .ty "tuple"]) = H0 at s0 ha0 ⊢
      refine .inl ⟨_, rfl, a, rfl, ⟨_, SqL.of ha0⟩, fun D hD => ?_⟩
      refine lc_list (K := K) (a := a) (xs := xs) (fun i H' => Same H0 H' ∧ H' D = some (.lst ((List.replicate i true).map V.bl))) ⟨same_new hD, upd_same⟩ (fun i H' _ h => SqL.of (h.1 _ _ ha0)) ?_ ?_
      · rintro i x H1 hx h1
        obtain ⟨t, r, rfl, ht, R, li⟩ := step s0 hD i x H1 hx h1
        obtain ⟨s1, hDl⟩ := h1
        refine ⟨rfl, Exists.intro _ ⟨rfl, t, r, rfl, ht, R, fun H2 s2 => ?_⟩⟩
        refine ⟨_, s2 _ _ hDl, small1000 (by simp; omega), fun b o hb => ?_, ?_⟩
        · rw [upd_ne (ne_of_none hb hD)]
          exact s2 _ _ (s1 _ _ hb)
        · rw [upd_same, rep_snoc]
      · rintro H1 ⟨s1, hDl⟩
        refine ⟨D, _, rfl, SqL.of hDl, ?_⟩
        rw [rep_all]
        exact k H1 (s0.trans s1)
    · refine ⟨_, tp, _, .type "tuple", [.type "list", .type "tuple"], true, rfl, upd_same, .cons (.ty "list") (.cons (.ty "tuple") .nil), .base (.tup (s0 _ _ ha)), ?_, _, rfl, ?_⟩
      · exact kitAny_cons (b := false) (kit_ty (by decide +kernel)) (fun _ => kitAny_cons (b := true) (kit_ty (by decide +kernel)) (fun h => by cases h) (fun _ => rfl)) (fun h => by cases h)
      refine iteT ?_
      have ha0 := s0 _ _ ha
      generalize upd H tp (.tup [.ty "list", .ty "tuple"]) = H0 at s0 ha0 ⊢
      refine .inr ⟨_, rfl, a, rfl, ⟨_, SqT.of ha0⟩, fun D hD => ?_⟩
      refine lc_tup (K := K) (a := a) (xs := xs) (fun i H' => Same H0 H' ∧ H' D = some (.lst ((List.replicate i true).map V.bl))) ⟨same_new hD, upd_same⟩ (fun i H' _ h => SqT.of (h.1 _ _ ha0)) ?_ ?_
      · rintro i x H1 hx h1
        obtain ⟨t, r, rfl, ht, R, li⟩ := step s0 hD i x H1 hx h1
        obtain ⟨s1, hDl⟩ := h1
        refine ⟨rfl, Exists.intro _ ⟨rfl, t, r, rfl, ht, R, fun H2 s2 => ?_⟩⟩
        refine ⟨_, s2 _ _ hDl, small1000 (by simp; omega), fun b o hb => ?_, ?_⟩
        · rw [upd_ne (ne_of_none hb hD)]
          exact s2 _ _ (s1 _ _ hb)
        · rw [upd_same, rep_snoc]
      · rintro H1 ⟨s1, hDl⟩
        refine ⟨D, _, rfl, SqL.of hDl, ?_⟩
        rw [rep_all]
        exact k H1 (s0.trans s1)
theorem scAlike : FnScope ["_law_found", "_law_due"] ["_law_found", "_law_due"] (defScope sAlike) := ⟨rfl, rfl, rfl, by decide +kernel, rfl, by decide +kernel, by decide +kernel⟩
theorem ok_alike {f : Addr} {fd : FuncData} (F : Fun K "_law_alike" "_law_alike" sAlike f fd) (T : Txt K mg) : FnG P w K mg base 1 f fd ["_law_found", "_law_due"] (spAlikeD K) := by
  refine okG F scAlike (fun vs H Q E h => ?_) (fun cdv A outer s H vs Q E hr hg h => ?_)
  · obtain ⟨x, y, d, rfl, _⟩ := h
    rfl
  · obtain ⟨x, y, d, rfl, h1, h2, hd, k⟩ := h
    have lay := fine_lay d hd.f
    have hdp : d.depth ≤ 60 := Nat.le_trans hd.dp (by decide)
    refine ⟨_, pss_one (ps_ret (pe_and (pe_cmpR (op_eqD hr.units) (pv 0) (pv 1) (nomark _)) (pe_one (pe_cmpR op_eq (pe_callB (call_reprD hg hr.units) (by rfl) T.repr (by decide +kernel) (pa_cons (pv 0) pa_nil))
      (pe_callB (call_reprD hg hr.units) (by rfl) T.repr (by decide +kernel) (pa_cons (pv 1) pa_nil)) (nomark _))))), ?_⟩
    refine ⟨_, rfl, _, rfl, d, d, h1, h2, hd.shaped, hd.shaped, _, rfl, ?_⟩
    rw [SeqAt.eqv_refl d lay.1]
    refine iteT ?_
    refine ⟨_, rfl, x, d, rfl, h1, lay.2.1, lay.2.2, hd.len, hdp, _, rfl, y, d, rfl, h2, lay.2.1, lay.2.2, hd.len, hdp, rfl, ?_⟩
    show Q (.bl (decide (V.str d.shown = V.str d.shown))) H
    rw [decide_eq_true rfl]
    exact k
/-- an Asked whose list stands at l -/
def HasQ (H : Hp) (C a l : Addr) (xs : List V) : Prop := ∃ dx : Addr, H a = some (.ins C dx [("_questions", .ref l)]) ∧ H l = some (.lst xs)
theorem HasQ.hasL {H : Hp} {C a l : Addr} {xs : List V} (h : HasQ H C a l xs) : HasL H C a "_questions" l xs := by
  obtain ⟨dx, h1, h2⟩ := h
  exact ⟨dx, _, h1, rfl, h2⟩
theorem HasQ.same {H H' : Hp} {C a l : Addr} {xs : List V} (s : Same H H') (h : HasQ H C a l xs) : HasQ H' C a l xs := by
  obtain ⟨dx, h1, h2⟩ := h
  exact ⟨dx, s _ _ h1, s _ _ h2⟩
/-- an Asked of these questions, ascending -/
structure Asc27 (zs : List Qd) : Prop where
  nd : zs.Nodup
  up : rising zs
  qz : QZs zs
def AsV (H : Hp) (C a : Addr) (zs : List Qd) : Prop := ∃ l ys, HasQ H C a l ys ∧ QL H ys zs
theorem AsV.same {H H' : Hp} {C a : Addr} {zs : List Qd} (s : Same H H') (h : AsV H C a zs) : AsV H' C a zs := by
  obtain ⟨l, ys, h1, h2⟩ := h
  exact ⟨l, ys, h1.same s, h2.same s⟩
theorem AsV.kp {H H' : Hp} {C a b l0 : Addr} {zs : List Qd} (B : Bag H b l0) (k : Kp b H H') (h : AsV H C a zs) : AsV H' C a zs := by
  obtain ⟨l, ys, ⟨dx, h1, h2⟩, h3⟩ := h
  have na : a ≠ b := fun e => by
    obtain ⟨g, m, p, ns, hb, _⟩ := B
    rw [e, hb] at h1
    cases h1
  exact ⟨l, ys, ⟨dx, k _ _ h1 na, k _ _ h2 (B.ne_refs h2 h3.refs)⟩, h3.kp B k⟩
theorem Dist.asc {qs zs : List Qd} (D : Dist qs zs) (h : QZs qs) : Asc27 zs := ⟨D.nd, D.up, fun q hq => h q ((D.mem q).mp hq)⟩
theorem Dist.le {qs zs : List Qd} (D : Dist qs zs) : zs.length ≤ qs.length := nodup_leQ _ _ D.nd fun z hz => (D.mem z).mp hz
def spAInit (C : Addr) : Sp := fun vs H Q _ => ∃ (x a dx : Addr) (xs : List V) (qs : List Qd), vs = [.ref x, .ref a] ∧ H x = some (.ins C dx []) ∧ H a = some (.lst xs) ∧ QL H xs qs ∧ xs.length < 64 ∧ (∀ zs, Dist qs zs → zs.length ≤ 48) ∧ QZs qs ∧
  ∀ (H' : Hp) (zs : List Qd), (∀ b o, H b = some o → b ≠ x → H' b = some o) → AsV H' C x zs → Dist qs zs → Q .non H'
theorem asked_set {H2 : Hp} {x C dx d : Addr} {ys : List V} {zs : List Qd} (hx2 : H2 x = some (.ins C dx [])) (hyd : H2 d = some (.lst ys)) (hq : QL H2 ys zs) :
    AsV (upd H2 x (.ins C dx (putF "_questions" (.ref d) []))) C x zs ∧ ∀ b o, H2 b = some o → b ≠ x → (upd H2 x (.ins C dx (putF "_questions" (.ref d) []))) b = some o := by
  have dx_ : d ≠ x := fun e => by rw [e, hx2] at hyd; cases hyd
  have qk : ∀ {v : Addr} {r : Qd}, QAt H2 v r.1 r.2 → QAt (upd H2 x (.ins C dx (putF "_questions" (.ref d) []))) v r.1 r.2 := fun {v r} ⟨c0, g1, g2⟩ =>
    ⟨c0, by rw [upd_ne fun e => by rw [e, hx2] at g1; cases g1]; exact g1, by rw [upd_ne fun e => by rw [e, hx2] at g2; cases g2]; exact g2⟩
  exact ⟨⟨d, ys, ⟨dx, upd_same, by rw [upd_ne dx_]; exact hyd⟩, Paired.mapP hq fun y r ⟨v, e, z⟩ => ⟨v, e, qk z⟩⟩, fun b o hb nb => by rw [upd_ne nb]; exact hb⟩
theorem scAInit : FnScope ["self", "questions", "different"] ["self", "questions"] (defScope sAInit) := ⟨rfl, rfl, rfl, by decide +kernel, rfl, by decide +kernel, by decide +kernel⟩
theorem ok_ainit {f C : Addr} {fd : FuncData} (F : Fun K "__init__" "Asked.__init__" sAInit f fd) (T : Txt K mg) (TC : TxA K mg C) (cQ : Cal P w K mg base 4 "are_questions" ["thing"] (spAreQs K)) : FnOk P w K mg base CX0 5 f fd ["self", "questions"] (spAInit C) := by
  refine F.ok scAInit (fun vs H Q E h => ?_) (fun cdv A outer s H vs Q E hr h => ?_)
  · obtain ⟨x, a, dx, xs, qs, rfl, _⟩ := h
    rfl
  · obtain ⟨x, a, dx, xs, qs, rfl, hx, ha, hq, hl, h48, hz, k⟩ := h
    have nd := scAInit.nd
    obtain ⟨tl, htl⟩ := T.limit
    have hu80 : A.units + 3 + 80 < cLine := by
      have := hr.un
      have e : (A.deeper (envOfC "Asked.__init__" (defScope sAInit) s.heap.objs.size f cdv)).units = A.units + 3 := rfl
      omega
    have hu16 : A.units + 3 + 16 < cLine := by omega
    refine ⟨_, pss_cons (ps_if (pt_not (pt_val (pe_call cQ.G hr rfl cQ.m cQ.kp cQ.b .nil pass0 (pa_cons (pv 1) pa_nil)))) (pss_one ps_dead) pss_nil)
      (pss_cons (ps_set (i := 2) nd rfl (Or.inl rfl) (pe_callB (cr_sortSetQ rfl hu80) (by rfl) T.sorted (by decide +kernel) (pa_cons (pe_callTy (cr_setQ rfl hu16) (by rfl) T.set (by decide +kernel) (pa_cons (pv 1) pa_nil)) pa_nil)))
      (pss_cons (ps_if (pt_cmpR op_gt (pe_callB call_len_seq (by rfl) T.len PySem.boot_len (pa_cons (pv 2) pa_nil)) (pe_glob (v := .int 48) rfl htl ⟨tl, rfl⟩) (nomark _)) (pss_one ps_dead) pss_nil)
      (pss_one (ps_fld (pv 0) (pv 2) rfl)))), ?_⟩
    refine ⟨_, rfl, a, xs, qs, rfl, ha, hq, hl, hz, fun H1 s1 => ⟨_, rfl, ?_⟩⟩
    refine iteF ?_
    have ha1 := s1 _ _ ha
    have hq1 := hq.same s1
    refine ⟨_, rfl, a, xs, qs, rfl, .inl (SqL.of ha1), hq1, by omega, fun p M hp S => ?_⟩
    have sp := same_new (o := SetQ w p M) hp
    refine ⟨p, M, rfl, upd_same, fun m hm => (S.at_ m hm).same sp, fun m hm c hc => (hz _ ((S.mem _).mp (List.mem_map_of_mem hm))).strOk c hc, fun ys zs d hd hql hpm hup hsub => ?_⟩
    have sd := same_new (o := .lst ys) hd
    have D : Dist qs zs := ⟨hpm.nodup_iff.mpr S.nd, hup, fun q => hpm.mem_iff.trans (S.mem q)⟩
    have zl : ys.length ≤ 48 := by
      rw [hql.len]
      exact h48 zs D
    have sA := s1.trans (sp.trans sd)
    have hyd : (upd (upd H1 p (SetQ w p M)) d (.lst ys)) d = some (.lst ys) := upd_same
    have hql2 := hql.same sd
    refine ⟨_, rfl, _, _, rfl, .inl (SqL.of hyd), _, 48, rfl, rfl, _, rfl, ?_⟩
    have e1 : decide ((48 : Int) < (ys.length : Int)) = false := decide_eq_false (by omega)
    rw [e1]
    refine iteF ?_
    have hx2 := sA _ _ hx
    refine ⟨_, rfl, _, rfl, x, C, dx, [], rfl, hx2, TC.cl, TC.nQ, by show 0 < 1000; decide, ?_⟩
    obtain ⟨g1, g2⟩ := asked_set (C := C) (dx := dx) hx2 hyd hql2
    exact k _ zs (fun b o hb nb => g2 b o (sA _ _ hb) nb) g1 D
theorem scAIter : FnScope ["self"] ["self"] (defScope sAIter) := ⟨rfl, rfl, rfl, by decide +kernel, rfl, by decide +kernel, by decide +kernel⟩
theorem ok_aitr {f C : Addr} {fd : FuncData} (F : Fun K "__iter__" "Asked.__iter__" sAIter f fd) (T : Txt K mg) (TC : TxA K mg C) : FnS P w K mg base 1 f fd ["self"] (spIterF C "_questions") := by
  refine okN F scAIter (fun n vs H Q E h => ?_) (fun cdv A outer s H vs Q E hr h => ?_)
  · obtain ⟨a, dx, l, fs, xs, rfl, _⟩ := h
    rfl
  · obtain ⟨a, dx, l, fs, xs, rfl, ha, hl, hx, k⟩ := h
    refine ⟨_, pss_one (ps_ret (pe_callB ItX.call_iterN (by rfl) T.iter (by decide +kernel) (pa_cons (pe_fld (pv 0) rfl) pa_nil))), ?_⟩
    exact ⟨_, rfl, a, C, dx, fs, _, rfl, ha, TC.cl, TC.nQ, hl, l, xs, rfl, SqL.of hx, fun it h1 h2 => k it h1 h2⟩
/-- == of two Asked -/
def spAEq (C : Addr) : Sp := fun vs H Q _ => ∃ (a b : Addr) (qs rs : List Qd), vs = [.ref a, .ref b] ∧ AsV H C a qs ∧ AsV H C b rs ∧ QZs qs ∧ QZs rs ∧ qs.length ≤ 300 ∧ rs.length ≤ 300 ∧ Q (.bl (decide (qs = rs))) H
theorem scAEq : FnScope ["self", "other"] ["self", "other"] (defScope sAEq) := ⟨rfl, rfl, rfl, by decide +kernel, rfl, by decide +kernel, by decide +kernel⟩
theorem QZs.fine' {qs : List Qd} (h : QZs qs) : ∀ q ∈ qs, Qfine q := fun q hq => (h q hq).fine
theorem ok_aeq {f C : Addr} {fd : FuncData} (F : Fun K "__eq__" "Asked.__eq__" sAEq f fd) (T : Txt K mg) (TC : TxA K mg C) : FnOk P w K mg base CX0 1 f fd ["self", "other"] (spAEq C) := by
  refine F.ok scAEq (fun vs H Q E h => ?_) (fun cdv A outer s H vs Q E hr h => ?_)
  · obtain ⟨a, b, qs, rs, rfl, _⟩ := h
    rfl
  · obtain ⟨a, b, qs, rs, rfl, ⟨l, xs, ⟨dx, ha, hl⟩, hq⟩, ⟨m, ys, ⟨dy, hb, hm⟩, hr'⟩, fq, fr, lq, lr, k⟩ := h
    refine ⟨_, pss_one (ps_ret (pe_and (pe_callB call_isi (by rfl) T.isinstance (by decide +kernel) (pa_cons (pv 1) (pa_cons (pe_glob (v := .ref C) rfl TC.mgC rfl) pa_nil))) (pe_one (pe_cmpR (op_eqD hr.units) (pe_fld (pv 0) rfl) (pe_fld (pv 1) rfl) (nomark _))))), ?_⟩
    refine ⟨_, rfl, _, _, .ref C, .ref C, true, rfl, .own C, TC.ty hb, kit_self, _, rfl, ?_⟩
    refine iteT ?_
    refine ⟨_, rfl, a, C, dx, _, _, rfl, ha, TC.cl, TC.nQ, rfl, _, rfl, b, C, dy, _, _, rfl, hb, TC.cl, TC.nQ, rfl, ?_⟩
    refine ⟨.list (qs.map dq), .list (rs.map dq), .lst (SqL.of hl) hq.dp, .lst (SqL.of hm) hr'.dp, (dok_qs3 fq.fine' lq).shaped, (dok_qs3 fr.fine' lr).shaped, ?_⟩
    rw [eqv_qs]
    exact k
/-- what comes of an operator: a new Asked -/
def NewA (C : Addr) (H : Hp) (qs : List Qd) (Q : VK) : Prop := ∀ (H' : Hp) (x : Addr) (us : List Qd), Same H H' → AsV H' C x us → Dist qs us → Q (.ref x) H'
theorem made_same {H : Hp} {x dx C : Addr} (nx : H x = none) (ndx : H dx = none) : Same H (upd (upd H dx (.own x)) x (.ins C dx [])) := fun c o e => by
  rw [upd_ne (ne_of_none e nx), upd_ne (ne_of_none e ndx)]
  exact e
/-- Asked(xs) of a list that stands at d -/
theorem make_asked {H : Hp} {C d x dx : Addr} {xs : List V} {qs : List Qd} {Q : VK} (hd : H d = some (.lst xs)) (hq : QL H xs qs) (hl : xs.length ≤ 48) (hz : QZs qs) (nx : H x = none) (ndx : H dx = none) (k : NewA C H qs Q) :
    spAInit C [.ref x, .ref d] (upd (upd H dx (.own x)) x (.ins C dx [])) (fun v H' => v = .non ∧ Q (.ref x) H') E0 := by
  have sm := made_same (C := C) nx ndx
  refine ⟨x, d, dx, xs, qs, rfl, upd_same, sm _ _ hd, hq.same sm, by omega, fun zs D => Nat.le_trans D.le (by rw [← hq.len]; exact hl), hz, fun H' zs hk hA D => ⟨rfl, ?_⟩⟩
  exact k H' x zs (fun c o e => hk c o (sm _ _ e) (ne_of_none e nx)) hA D
/-- a Shelf whose list stands at l -/
def HasI (H : Hp) (C a l : Addr) (xs : List V) : Prop := ∃ dx : Addr, H a = some (.ins C dx [("_indexes", .ref l)]) ∧ H l = some (.lst xs)
theorem HasI.hasL {H : Hp} {C a l : Addr} {xs : List V} (h : HasI H C a l xs) : HasL H C a "_indexes" l xs := by
  obtain ⟨dx, h1, h2⟩ := h
  exact ⟨dx, _, h1, rfl, h2⟩
theorem HasI.same {H H' : Hp} {C a l : Addr} {xs : List V} (s : Same H H') (h : HasI H C a l xs) : HasI H' C a l xs := by
  obtain ⟨dx, h1, h2⟩ := h
  exact ⟨dx, s _ _ h1, s _ _ h2⟩
theorem HasI.kp {H H' : Hp} {C a l b : Addr} {xs : List V} (nb : l ≠ b) (na : a ≠ b) (s : Kp b H H') (h : HasI H C a l xs) : HasI H' C a l xs := by
  obtain ⟨dx, h1, h2⟩ := h
  exact ⟨dx, s _ _ h1 na, s _ _ h2 nb⟩
def spInitS (C : Addr) : Sp := fun vs H Q _ => ∃ (x a dx : Addr) (xs : List V) (rs : List (List Str)), vs = [.ref x, .ref a] ∧ H x = some (.ins C dx []) ∧ (H a = some (.lst xs) ∨ H a = some (.tup xs)) ∧ TL H xs rs ∧ xs.length ≤ 48 ∧ (∀ r ∈ rs, Row r) ∧
  ∀ (H' : Hp) (l : Addr), (∀ b o, H b = some o → b ≠ x → H' b = some o) → HasI H' C x l xs → H l = none → Q .non H'
theorem scInit : FnScope ["self", "indexes"] ["self", "indexes"] (defScope sInit) := ⟨rfl, rfl, rfl, by decide +kernel, rfl, by decide +kernel, by decide +kernel⟩
theorem ok_init {f C : Addr} {fd : FuncData} (F : Fun K "__init__" "Shelf.__init__" sInit f fd) (T : Txt K mg) (TC : TxC K mg C) (cQ : Cal P w K mg base 4 "are_indexes" ["thing"] spAreIxs) : FnOk P w K mg base CX0 5 f fd ["self", "indexes"] (spInitS C) := by
  refine F.ok scInit (fun vs H Q E h => ?_) (fun cdv A outer s H vs Q E hr h => ?_)
  · obtain ⟨x, a, dx, xs, rs, rfl, _⟩ := h
    rfl
  · obtain ⟨x, a, dx, xs, rs, rfl, hx, ha, hq, hl, hz, k⟩ := h
    obtain ⟨tl, htl⟩ := T.limit
    refine ⟨_, pss_cons (ps_if (pt_not (pt_val (pe_call cQ.G hr rfl cQ.m cQ.kp cQ.b .nil pass0 (pa_cons (pv 1) pa_nil)))) (pss_one ps_dead) pss_nil)
      (pss_cons (ps_if (pt_cmpR op_gt (pe_callB call_len_seq (by rfl) T.len PySem.boot_len (pa_cons (pv 1) pa_nil)) (pe_glob (v := .int 48) rfl htl ⟨tl, rfl⟩) (nomark _)) (pss_one ps_dead) pss_nil)
      (pss_one (ps_fld (pv 0) (pe_callTy call_list_of (by rfl) T.list (by decide +kernel) (pa_cons (pv 1) pa_nil)) rfl))), ?_⟩
    refine ⟨_, rfl, a, xs, rs, rfl, ha, hq, by omega, hz, fun H1 s1 => ⟨_, rfl, ?_⟩⟩
    refine iteF ?_
    have sq : SqL K H1 a xs ∨ SqT K H1 a xs := ha.imp (fun h => SqL.of (s1 _ _ h)) fun h => SqT.of (s1 _ _ h)
    refine ⟨_, rfl, _, _, rfl, sq, _, 48, rfl, rfl, _, rfl, ?_⟩
    have e1 : decide ((48 : Int) < (xs.length : Int)) = false := decide_eq_false (by omega)
    rw [e1]
    refine iteF ?_
    refine ⟨_, rfl, a, xs, rfl, sq, fun l hl0 => ?_⟩
    have s2 := same_new (o := .lst xs) hl0
    have hx2 := s2 _ _ (s1 _ _ hx)
    have nlx : l ≠ x := fun e => by rw [e, s1 _ _ hx] at hl0; cases hl0
    have hlH : H l = none := by
      cases e : H l with
      | none => rfl
      | some o =>
        rw [s1 _ _ e] at hl0
        cases hl0
    refine ⟨_, rfl, x, C, dx, [], rfl, hx2, TC.cl, TC.nQ, by show 0 < 1000; decide, ?_⟩
    exact k _ l (fun b o hb nb => by rw [upd_ne nb]; exact s2 _ _ (s1 _ _ hb)) ⟨dx, upd_same, by rw [upd_ne nlx]; exact upd_same⟩ hlH
theorem scLen : FnScope ["self"] ["self"] (defScope sLen) := ⟨rfl, rfl, rfl, by decide +kernel, rfl, by decide +kernel, by decide +kernel⟩
theorem ok_len {f C : Addr} {fd : FuncData} (F : Fun K "__len__" "Shelf.__len__" sLen f fd) (T : Txt K mg) (TC : TxC K mg C) : FnOk P w K mg base CX0 1 f fd ["self"] (spLenF C "_indexes") := by
  refine F.ok scLen (fun vs H Q E h => ?_) (fun cdv A outer s H vs Q E hr h => ?_)
  · obtain ⟨a, dx, l, fs, xs, rfl, _⟩ := h
    rfl
  · obtain ⟨a, dx, l, fs, xs, rfl, ha, hl, hx, k⟩ := h
    refine ⟨_, pss_one (ps_ret (pe_callB call_len_seq (by rfl) T.len PySem.boot_len (pa_cons (pe_fld (pv 0) rfl) pa_nil))), ?_⟩
    exact ⟨_, rfl, a, C, dx, fs, _, rfl, ha, TC.cl, TC.nQ, hl, l, xs, rfl, .inl (SqL.of hx), k⟩
theorem scIter : FnScope ["self"] ["self"] (defScope sIter) := ⟨rfl, rfl, rfl, by decide +kernel, rfl, by decide +kernel, by decide +kernel⟩
theorem ok_itr {f C : Addr} {fd : FuncData} (F : Fun K "__iter__" "Shelf.__iter__" sIter f fd) (T : Txt K mg) (TC : TxC K mg C) : FnS P w K mg base 1 f fd ["self"] (spIterF C "_indexes") := by
  refine okN F scIter (fun n vs H Q E h => ?_) (fun cdv A outer s H vs Q E hr h => ?_)
  · obtain ⟨a, dx, l, fs, xs, rfl, _⟩ := h
    rfl
  · obtain ⟨a, dx, l, fs, xs, rfl, ha, hl, hx, k⟩ := h
    refine ⟨_, pss_one (ps_ret (pe_callB ItX.call_iterN (by rfl) T.iter (by decide +kernel) (pa_cons (pe_fld (pv 0) rfl) pa_nil))), ?_⟩
    exact ⟨_, rfl, a, C, dx, fs, _, rfl, ha, TC.cl, TC.nQ, hl, l, xs, rfl, SqL.of hx, fun it h1 h2 => k it h1 h2⟩
/-- a Shelf of these rows -/
def ShV (H : Hp) (C a : Addr) (rs : List (List Str)) : Prop := ∃ l xs, HasI H C a l xs ∧ TL H xs rs
theorem ShV.same {H H' : Hp} {C a : Addr} {rs : List (List Str)} (s : Same H H') (h : ShV H C a rs) : ShV H' C a rs := by
  obtain ⟨l, xs, h1, h2⟩ := h
  exact ⟨l, xs, h1.same s, h2.same s⟩
theorem ShV.kp {H H' : Hp} {C a b l0 : Addr} {rs : List (List Str)} (B : Bag H b l0) (k : Kp b H H') (h : ShV H C a rs) : ShV H' C a rs := by
  obtain ⟨l, xs, ⟨dx, h1, h2⟩, h3⟩ := h
  have na : a ≠ b := fun e => by
    obtain ⟨g, m, p, ns, hb, _⟩ := B
    rw [e, hb] at h1
    cases h1
  exact ⟨l, xs, ⟨dx, k _ _ h1 na, k _ _ h2 (B.ne_refs h2 h3.refs)⟩, h3.kp B k⟩
def NewS (C : Addr) (H : Hp) (rs : List (List Str)) (Q : VK) : Prop := ∀ (H' : Hp) (x : Addr), Same H H' → ShV H' C x rs → Q (.ref x) H'
theorem make_shelf {H : Hp} {C d x dx : Addr} {xs : List V} {rs : List (List Str)} {Q : VK} (hd : H d = some (.lst xs)) (hq : TL H xs rs) (hl : xs.length ≤ 48) (hz : ∀ r ∈ rs, Row r) (nx : H x = none) (ndx : H dx = none) (k : NewS C H rs Q) :
    spInitS C [.ref x, .ref d] (upd (upd H dx (.own x)) x (.ins C dx [])) (fun v H' => v = .non ∧ Q (.ref x) H') E0 := by
  have sm := made_same (C := C) nx ndx
  refine ⟨x, d, dx, xs, rs, rfl, upd_same, .inl (sm _ _ hd), hq.same sm, hl, hz, fun H' l hk hI hl0 => ⟨rfl, ?_⟩⟩
  have s : Same H H' := fun c o e => hk c o (sm _ _ e) (ne_of_none e nx)
  exact k H' x s ⟨l, xs, hI, hq.same s⟩
def spSEq (C : Addr) : Sp := fun vs H Q _ => ∃ (a b : Addr) (qs rs : List (List Str)), vs = [.ref a, .ref b] ∧ ShV H C a qs ∧ ShV H C b rs ∧ (∀ r ∈ qs, Row r) ∧ (∀ r ∈ rs, Row r) ∧ qs.length ≤ 300 ∧ rs.length ≤ 300 ∧ Q (.bl (decide (qs = rs))) H
theorem scSEq : FnScope ["self", "other"] ["self", "other"] (defScope sEq) := ⟨rfl, rfl, rfl, by decide +kernel, rfl, by decide +kernel, by decide +kernel⟩
theorem ok_seq {f C : Addr} {fd : FuncData} (F : Fun K "__eq__" "Shelf.__eq__" sEq f fd) (T : Txt K mg) (TC : TxC K mg C) : FnOk P w K mg base CX0 1 f fd ["self", "other"] (spSEq C) := by
  refine F.ok scSEq (fun vs H Q E h => ?_) (fun cdv A outer s H vs Q E hr h => ?_)
  · obtain ⟨a, b, qs, rs, rfl, _⟩ := h
    rfl
  · obtain ⟨a, b, qs, rs, rfl, ⟨l, xs, ⟨dx, ha, hl⟩, hq⟩, ⟨m, ys, ⟨dy, hb, hm⟩, hr'⟩, fq, fr, lq, lr, k⟩ := h
    refine ⟨_, pss_one (ps_ret (pe_and (pe_callB call_isi (by rfl) T.isinstance (by decide +kernel) (pa_cons (pv 1) (pa_cons (pe_glob (v := .ref C) rfl TC.mgC rfl) pa_nil))) (pe_one (pe_cmpR (op_eqD hr.units) (pe_fld (pv 0) rfl) (pe_fld (pv 1) rfl) (nomark _))))), ?_⟩
    refine ⟨_, rfl, _, _, .ref C, .ref C, true, rfl, .own C, TC.ty hb, kit_self, _, rfl, ?_⟩
    refine iteT ?_
    refine ⟨_, rfl, a, C, dx, _, _, rfl, ha, TC.cl, TC.nQ, rfl, _, rfl, b, C, dy, _, _, rfl, hb, TC.cl, TC.nQ, rfl, ?_⟩
    refine ⟨.list (qs.map dR), .list (rs.map dR), .lst (SqL.of hl) hq.dp, .lst (SqL.of hm) hr'.dp, (dok_rs fq lq).shaped, (dok_rs fr lr).shaped, ?_⟩
    rw [eqv_rs]
    exact k
theorem pw_risingS : ∀ (r : List Str) (p : Str), (p :: r).Pairwise leS → risingS p r = true
  | [], _, _ => rfl
  | x :: r, p, h => by
    obtain ⟨h1, h2⟩ := List.pairwise_cons.mp h
    have h3 : ltCps x.cps.toList p.cps.toList = false := h1 x List.mem_cons_self
    show (!ltCps x.cps.toList p.cps.toList && risingS x r) = true
    rw [h3, pw_risingS r x h2]
    rfl
theorem pw_sortedS {xs : List Str} (h : xs.Pairwise leS) : sortedS xs = true := by
  cases xs with
  | nil => rfl
  | cons x r => exact pw_risingS r x h
theorem exists_sorted (xs : List Str) : ∃ ws : List Str, ws.Perm xs ∧ sortedS ws = true := ⟨srt xs, srt_perm xs, pw_sortedS (srt_pw xs)⟩
theorem scServ : FnScope ["index", "question", "columns", "last", "many"] ["index", "question"] (defScope sServ) := ⟨rfl, rfl, rfl, by decide +kernel, rfl, by decide +kernel, by decide +kernel⟩
theorem ok_serv {f : Addr} {fd : FuncData} (F : Fun K "serves" "serves" sServ f fd) (T : Txt K mg) : FnOk P w K mg base CX0 1 f fd ["index", "question"] spServes := by
  refine F.ok scServ (fun vs H Q E h => ?_) (fun cdv A outer s H vs Q E hr h => ?_)
  · obtain ⟨t, q, ix, cols, e, rfl, _⟩ := h
    rfl
  · obtain ⟨t, q, ix, cols, e, rfl, ht, ⟨c, hq, hc⟩, hl, hxl, hxn, hxm, hcn, hcs, hcm, hem, k⟩ := h
    have nd := scServ.nd
    refine ⟨_, pss_cons (ps_asg (pv 1) (pg_tup (by rfl) (pgs_cons (pg_name (i := 2) nd rfl (Or.inl rfl)) (pgs_cons (pg_name (i := 3) nd rfl (Or.inl rfl)) pgs_nil))))
      (pss_cons (ps_set (i := 4) nd rfl (Or.inl rfl) (pe_callB call_len_seq (by rfl) T.len PySem.boot_len (pa_cons (pv 2) pa_nil)))
      (Evl.pss_cut (ps_if (PW.pt (pw_and (pt_cmpR op_ne (pv 3) pe_str (nomark _)) (pw_and1 (pt_cmpR (op_neD hr.units) (pe_slice sl_tupA (pv 0) (po_some (pv 4)) (po_some (pe_op op_add (pv 4) pe_int)))
          (pe_tup (pa_cons (pv 3) pa_nil)) (nomark _))))) (pss_one (ps_ret pe_bl)) pss_nil)
      (pss_one (ps_ret (pe_cmpR (op_eqD hr.units) (pe_callTy call_tuple_of (by rfl) T.tuple (by decide +kernel) (pa_cons (pe_callB cr_sortedST (by rfl) T.sorted (by decide +kernel)
        (pa_cons (pe_slice sl_tupA (pv 0) po_none (po_some (pv 4))) pa_nil)) pa_nil)) (pv 2) (nomark _)))))), ?_⟩
    have hlm : (cols.map V.str).length = cols.length := List.length_map _
    have fn : ∀ ws : List Str, ws.Perm (ix.take cols.length) → sortedS ws = true → (fault ix cols e = none ↔ ws = cols ∧ (e = "" ∨ ix[cols.length]? = some e)) := fun ws hw hs => fault_none hxn hcn hcs hw hs
    have cm : ∀ c ∈ cols, PyData.strOk c = true := fun c hc => menu_ok _ (hcm _ hc)
    refine ⟨_, rfl, q, _, rfl, SqT.of hq, rfl, _, _, rfl, _, _, rfl, rfl, _, rfl, _, _, rfl, .inr (SqT.of hc), ?_⟩
    rw [hlm]
    refine ⟨fun σ' H' => σ' = [some (.ref t), some (.ref q), some (.ref c), some (.str e), some (.int (cols.length : Int))] ∧ Same H H' ∧ (e = "" ∨ ix[cols.length]? = some e), ?_, ?_⟩
    · refine ⟨_, rfl, rfl, _, rfl, ?_⟩
      show if (!decide (V.str e = V.str "")) = true then _ else _
      by_cases he : e = ""
      · rw [decide_eq_true (congrArg V.str he)]
        refine iteF ?_
        refine iteF ?_
        exact ⟨rfl, Same.refl _, .inl he⟩
      · rw [decide_eq_false (fun h => he (by injection h))]
        refine iteT ?_
        refine ⟨_, rfl, _, rfl, _, rfl, _, rfl, _, _, rfl, rfl, _, rfl, ?_⟩
        refine slA ht (cut_one cols.length ix) fun r2 H4 s4 h4 => ?_
        refine ⟨_, rfl, by show 1 ≤ sizeLine; decide, fun p5 hp5 => ?_⟩
        have em : e ∈ menu := hem.resolve_left he
        have lm : ∀ c ∈ (ix.drop cols.length).take 1, PyData.strOk c = true := fun c hc => menu_ok _ (hxm _ ((List.drop_sublist _ _).mem ((List.take_sublist _ _).mem hc)))
        have s5 := s4.trans (same_new (o := .tup [.str e]) hp5)
        refine ⟨.tuple (((ix.drop cols.length).take 1).map PyData.str), .tuple ([e].map PyData.str), .tup (SqT.of (same_new hp5 _ _ h4)) (dp_strs _), .tup (SqT.of upd_same) (dp_strs [e]), shaped_tuple lm,
          shaped_tuple (fun c hc => by rw [List.mem_singleton.mp hc]; exact menu_ok _ em), _, rfl, ?_⟩
        show if (!PyData.eqv (.tuple (((ix.drop cols.length).take 1).map PyData.str)) (.tuple ([e].map PyData.str))) = true then _ else _
        rw [PyData.eqv, eqv_strs]
        by_cases hm : (ix.drop cols.length).take 1 = [e]
        · rw [decide_eq_true hm]
          refine iteF ?_
          exact ⟨rfl, s5, .inr (take_one.mp hm)⟩
        · rw [decide_eq_false hm]
          refine iteT ?_
          have kk := k _ s5
          have hf : ¬ fault ix cols e = none := fun h => by
            obtain ⟨ws, hw, hs⟩ := exists_sorted (ix.take cols.length)
            rcases ((fn ws hw hs).mp h).2 with q | q
            · exact he q
            · exact hm (take_one.mpr q)
          rw [decide_eq_false hf] at kk
          exact kk
    · rintro σ' H1 ⟨rfl, s1, hd⟩
      refine ⟨_, rfl, _, rfl, _, rfl, ?_⟩
      refine slA (s1 _ _ ht) ((cut_to cols.length _).trans List.map_take.symm) fun r H2 s2 h2 => ?_
      refine ⟨r, ix.take cols.length, rfl, .inr (SqT.of h2), by rw [List.length_take]; omega, fun ws p hw hs hp => ?_⟩
      refine ⟨p, _, rfl, .inl ⟨SqL.of upd_same, fun d hd2 => ?_⟩⟩
      have s5 := (s1.trans s2).trans ((same_new (o := .lst (ws.map V.str)) hp).trans (same_new (o := .tup (ws.map V.str)) hd2))
      have wm : ∀ c ∈ ws, PyData.strOk c = true := fun c hc => menu_ok _ (hxm _ ((List.take_sublist _ _).mem (hw.mem_iff.mp hc)))
      refine ⟨_, rfl, .tuple (ws.map PyData.str), .tuple (cols.map PyData.str), .tup (SqT.of upd_same) (dp_strs _), .tup (SqT.of (s5 _ _ hc)) (dp_strs _), shaped_tuple wm, shaped_tuple cm, ?_⟩
      have kk := k _ s5
      rw [PyData.eqv, eqv_strs]
      have e3 : decide (fault ix cols e = none) = decide (ws = cols) := decide_eq_decide.mpr ⟨fun h => ((fn ws hw hs).mp h).1, fun h => (fn ws hw hs).mpr ⟨h, hd⟩⟩
      rw [e3] at kk
      exact kk
def spIsServed (C : Addr) : Sp := fun vs H Q _ => ∃ (a l t : Addr) (xs : List V) (rs : List (List Str)) (q : Qd), vs = [.ref a, .ref t] ∧ HasI H C a l xs ∧ TL H xs rs ∧ (∀ r ∈ rs, Row r) ∧ QAt H t q.1 q.2 ∧ QZ q.1 q.2 ∧ ∀ H', Same H H' → Q (.bl (decide (q ∈ famQ rs))) H'
abbrev nIsS : List Str := ["shelf", "question", "index"]
theorem scIsServed : FnScope nIsS ["shelf", "question"] (defScope sIsServed) := ⟨rfl, rfl, rfl, by decide +kernel, rfl, by decide +kernel, by decide +kernel⟩
theorem QZ.in_row {q : Qd} (z : QZ q.1 q.2) {r : List Str} (R : Row r) : q ∈ allQ r r.length ↔ fault r q.1 q.2 = none :=
  allQ_serves (cols := q.1) (e := q.2) R z.m.nd z.m.srt z.m.some
theorem ok_isserved {f C fi : Addr} {fd fdI : FuncData} (F : Fun K "is_served" "is_served" sIsServed f fd) (T : Txt K mg) (oc : OwnIt K C fi) (FI : FnS P w K mg base 1 fi fdI ["self"] (spIterF C "_indexes")) (bI : Binds K fdI ["self"] [])
    (cV : Cal P w K mg base 1 "serves" ["index", "question"] spServes) : FnOk P w K mg base CX0 2 f fd ["shelf", "question"] (spIsServed C) := by
  refine F.ok scIsServed (fun vs H Q E h => ?_) (fun cdv A outer s H vs Q E hr h => ?_)
  · obtain ⟨a, l, t, xs, rs, q, rfl, _⟩ := h
    rfl
  · obtain ⟨a, l, t, xs, rs, q, rfl, ⟨dx, ha, hl⟩, hT, hz, hq, Z, k⟩ := h
    have nd := scIsServed.nd
    refine ⟨_, pss_cons (ps_for PassesOwn.never rfl (pi_own oc FI bI hr (pv 0)) (pg_name (i := 2) nd rfl (Or.inl rfl))
        (pss_one (ps_if (pt_val (pe_call cV.G hr rfl cV.m cV.kp cV.b .nil pass0 (pa_cons (pv 2) (pa_cons (pv 1) pa_nil)))) (pss_one (ps_ret pe_bl)) pss_nil)))
      (pss_one (ps_ret pe_bl)), ?_⟩
    refine ⟨_, rfl, a, dx, l, _, xs, rfl, ha, rfl, hl, ?_⟩
    refine for_list (K := K) (a := l) (xs := xs) (fun i σ H' => (∃ v2, σ = [some (.ref a), some (.ref t), v2]) ∧ Same H H' ∧ ∀ r ∈ rs.take i, q ∉ allQ r r.length) ⟨⟨_, rfl⟩, Same.refl _, by simp⟩ (fun i σ H' _ h => SqL.of (h.2.1 _ _ hl)) ?_ ?_
    · rintro i x σ H1 hx ⟨⟨v2, rfl⟩, s1, no⟩
      obtain ⟨t1, r, rfl, hri, hrt⟩ := (hT.same s1).at_ hx
      have rm := List.mem_of_getElem? hri
      have R := hz r rm
      have tk : rs.take (i + 1) = rs.take i ++ [r] := by rw [List.take_add_one, hri]; rfl
      refine ⟨_, rfl, _, rfl, t1, t, r, q.1, q.2, rfl, hrt, hq.same s1, Z.m.le, R.le, R.nd, R.sub, Z.m.nd, Z.m.srt, Z.m.sub, Z.m.esub, fun H2 s2 => ⟨_, rfl, ?_⟩⟩
      by_cases hf : fault r q.1 q.2 = none
      · rw [decide_eq_true hf]
        refine iteT ?_
        have e : decide (q ∈ famQ rs) = true := decide_eq_true (List.mem_flatMap.mpr ⟨r, rm, (Z.in_row R).mpr hf⟩)
        rw [← e]
        exact k H2 (s1.trans s2)
      · rw [decide_eq_false hf]
        refine iteF ?_
        refine ⟨⟨_, rfl⟩, s1.trans s2, fun r' hr' => ?_⟩
        rw [tk] at hr'
        rcases List.mem_append.mp hr' with h | h
        · exact no r' h
        · rw [List.mem_singleton.mp h]
          exact fun h => hf ((Z.in_row R).mp h)
    · rintro σ H1 ⟨⟨v2, rfl⟩, s1, no⟩
      rw [hT.len, List.take_of_length_le (Nat.le_refl _)] at no
      have e : decide (q ∈ famQ rs) = false := decide_eq_false fun h => by
        obtain ⟨r, hr, hm⟩ := List.mem_flatMap.mp h
        exact no r hr hm
      rw [← e]
      exact k H1 s1
def spUnserved (C CA : Addr) : Sp := fun vs H Q _ => ∃ (a t : Addr) (rs : List (List Str)) (zs : List Qd), vs = [.ref a, .ref t] ∧ ShV H C a rs ∧ AsV H CA t zs ∧ (∀ r ∈ rs, Row r) ∧ Asc27 zs ∧ zs.length ≤ 48 ∧ NewA CA H (zs.filter fun q => !decide (q ∈ famQ rs)) Q
abbrev nUn : List Str := ["shelf", "asked", "question"]
theorem scUnserved : FnScope nUn ["shelf", "asked"] (defScope sUnserved) := ⟨rfl, rfl, rfl, by decide +kernel, rfl, by decide +kernel, by decide +kernel⟩
theorem ok_unserved {f C CA fI fi : Addr} {fd fdI fdi : FuncData} (F : Fun K "unserved" "unserved" sUnserved f fd) (T : Txt K mg) (TC : TxA K mg CA) (M : Mk K CA fI) (FI : FnOk P w K mg base CX0 5 fI fdI ["self", "questions"] (spAInit CA)) (bI : Binds K fdI ["self", "questions"] [])
    (oc : OwnIt K CA fi) (Fi : FnS P w K mg base 1 fi fdi ["self"] (spIterF CA "_questions")) (bi : Binds K fdi ["self"] [])
    (cS : Cal P w K mg base 2 "is_served" ["shelf", "question"] (spIsServed C)) : FnOk P w K mg base CX0 7 f fd ["shelf", "asked"] (spUnserved C CA) := by
  refine F.ok scUnserved (fun vs H Q E h => ?_) (fun cdv A outer s H vs Q E hr h => ?_)
  · obtain ⟨a, t, rs, zs, rfl, _⟩ := h
    rfl
  · obtain ⟨a, t, rs, zs, rfl, ⟨l0, xs0, hI, hT⟩, ⟨l, xs, ⟨dx, ha, hl⟩, hq⟩, hR, az, l48, k⟩ := h
    have nd := scUnserved.nd
    have hr1 : Room 1 _ := hr.mono (by decide)
    have hr2 : Room 2 _ := hr.mono (by decide)
    refine ⟨_, pss_one (ps_ret (pe_make M FI hr rfl TC.mgC bI .nil pass0 (pa_cons (pe_lc (own := [("question", 2)]) (g := gName 2) rfl nd (pi_own oc Fi bi hr1 (pv 1)) (blkOk_by (N := nUn) (sc := defScope sUnserved) (by decide +kernel))
      (fun _ _ _ _ _ => pg_name (i := 2) nd rfl (by first | exact Or.inl rfl | exact Or.inr rfl)) (fun _ _ _ _ _ => pts_one (pt_not (pt_val (pe_call cS.G hr2 rfl cS.m cS.kp cS.b .nil pass0 (pa_cons (pv 0) (pa_cons (pv 2) pa_nil)))))) (fun _ _ _ _ _ => pv 2)) pa_nil))), ?_⟩
    have l1 := hq.len
    refine ⟨_, rfl, t, dx, l, _, xs, rfl, ha, rfl, hl, fun D hD => ?_⟩
    refine lc_list (K := K) (a := l) (xs := xs) (fun i H' => ∃ us : List V, Same H H' ∧ H' D = some (.lst us) ∧ us.length ≤ i ∧ QL H' us ((zs.take i).filter fun q => !decide (q ∈ famQ rs))) ⟨[], same_new hD, upd_same, Nat.le_refl _, .nil⟩ (fun i H' _ ⟨_, s, _⟩ => SqL.of (s _ _ hl)) ?_ ?_
    · rintro i x H1 hx ⟨us, s1, hUl, ul, qu⟩
      have hil : i < xs.length := (List.getElem?_eq_some_iff.mp hx).1
      obtain ⟨o, q, rfl, hqi, hqa⟩ := (hq.same s1).at_ hx
      have Z := az.qz q (List.mem_of_getElem? hqi)
      have et : zs.take (i + 1) = zs.take i ++ [q] := by rw [List.take_add_one, hqi]; rfl
      rw [et, List.filter_append]
      refine ⟨rfl, Exists.intro _ ⟨rfl, Exists.intro _ ⟨rfl, a, l0, o, xs0, rs, q, rfl, hI.same s1, hT.same s1, hR, hqa, Z, fun H2 s2 => ⟨_, rfl, ?_⟩⟩⟩⟩
      have s12 := s1.trans s2
      cases hb' : decide (q ∈ famQ rs) with
      | true =>
        refine iteF ?_
        refine ⟨us, s12, s2 _ _ hUl, by omega, ?_⟩
        rw [List.filter_cons, hb', if_neg (by decide), List.filter_nil, List.append_nil]
        exact qu.same s2
      | false =>
        refine iteT ?_
        refine ⟨_, rfl, us, s2 _ _ hUl, small1000 (by omega), us ++ [.ref o], fun b' o' hb2 => ?_, upd_same, by rw [List.length_append]; simp; omega, ?_⟩
        · rw [upd_ne (ne_of_none hb2 hD)]
          exact s12 _ _ hb2
        · rw [List.filter_cons, hb', if_pos (by decide), List.filter_nil]
          exact QL.off (xs := us) (s2 _ _ hUl) ((qu.same s2).snoc (q := q) (hqa.same s2))
    · rintro H1 ⟨us, s1, hUl, ul, qu⟩ x dx' nx ndx nex
      rw [l1, List.take_of_length_le (Nat.le_refl _)] at qu
      exact make_asked (qs := zs.filter fun q => !decide (q ∈ famQ rs)) hUl qu (by omega) (fun q hq' => az.qz q (List.mem_filter.mp hq').1) nx ndx (fun H' y us s hA D => k H' y us (s1.trans s) hA D)
theorem scFault : FnScope ["index", "question", "columns", "last", "many", "place"] ["index", "question"] (defScope sFault) := ⟨rfl, rfl, rfl, by decide +kernel, rfl, by decide +kernel, by decide +kernel⟩
theorem ok_fault {f : Addr} {fd : FuncData} (F : Fun K "first_fault" "first_fault" sFault f fd) (T : Txt K mg) : FnOk P w K mg base CX0 1 f fd ["index", "question"] spFault := by
  refine F.ok scFault (fun vs H Q E h => ?_) (fun cdv A outer s H vs Q E hr h => ?_)
  · obtain ⟨t, q, ix, cols, e, rfl, _⟩ := h
    rfl
  · obtain ⟨t, q, ix, cols, e, rfl, ht, ⟨c, hq, hc⟩, hl, k⟩ := h
    have nd := scFault.nd
    refine ⟨_, pss_cons (ps_asg (pv 1) (pg_tup (by rfl) (pgs_cons (pg_name (i := 2) nd rfl (Or.inl rfl)) (pgs_cons (pg_name (i := 3) nd rfl (Or.inl rfl)) pgs_nil))))
      (pss_cons (ps_set (i := 4) nd rfl (Or.inl rfl) (pe_callB call_len_seq (by rfl) T.len PySem.boot_len (pa_cons (pv 2) pa_nil)))
      (pss_cons (ps_for PassesOwn.never rfl (pi_range1 (by rfl) T.range (pa_cons (pv 4) pa_nil)) (pg_name (i := 5) nd rfl (Or.inl rfl))
        (pss_one (ps_if (PW.pt (pw_or (pt_cmpR op_ge (pv 5) (pe_callB call_len_seq (by rfl) T.len PySem.boot_len (pa_cons (pv 0) pa_nil)) (nomark _)) (pw_or1 (pt_cmpR op_notIn_seq (pe_ix ix_tup (pv 0) (pv 5) fun _ _ => rfl) (pv 2) (by rfl)))))
          (pss_one (ps_ret (pv 5))) pss_nil)))
      (pss_cons (ps_if (PW.pt (pw_and (pt_cmpR op_ne (pv 3) pe_str (nomark _)) (pw_and1 (PW.pt (pw_or (pt_cmpR op_ge (pv 4) (pe_callB call_len_seq (by rfl) T.len PySem.boot_len (pa_cons (pv 0) pa_nil)) (nomark _)) (pw_or1 (pt_cmpR op_ne (pe_ix ix_tup (pv 0) (pv 4) fun _ _ => rfl) (pv 3) (nomark _))))))))
        (pss_one (ps_ret (pv 4))) pss_nil)
      (pss_one (ps_ret pe_non))))), ?_⟩
    have hlm : (cols.map V.str).length = cols.length := List.length_map _
    have hlx : (ix.map V.str).length = ix.length := List.length_map _
    refine ⟨_, rfl, q, _, rfl, SqT.of hq, rfl, _, _, rfl, _, _, rfl, rfl, _, rfl, _, _, rfl, .inr (SqT.of hc), _, rfl, _, rfl, by omega, by omega, ?_⟩
    rw [hlm]
    refine for_range (lo := 0) (n := cols.length) (fun i σ H' => H' = H ∧ (∃ v, σ = [some (.ref t), some (.ref q), some (.ref c), some (.str e), some (.int (cols.length : Int)), v]) ∧ ∀ p, p < i → goodAt ix cols p)
      ⟨rfl, ⟨none, rfl⟩, fun p hp => absurd hp (Nat.not_lt_zero p)⟩ ?_ ?_
    · rintro i σ H' hi ⟨rfl, ⟨v, rfl⟩, hg⟩
      have e0 : (0 : Int) + (i : Int) = (i : Int) := Int.zero_add _
      rw [e0]
      refine ⟨_, rfl, _, rfl, _, _, rfl, .inr (SqT.of ht), _, _, rfl, rfl, _, rfl, ?_⟩
      rw [hlx]
      refine ite2 (fun h1 => ?_) (fun h1 => ?_)
      · refine ⟨_, rfl, ?_⟩
        have hle : ix.length ≤ i := by
          have := of_decide_eq_true h1
          omega
        have hb : ¬ goodAt ix cols i := fun ⟨c', h2, _⟩ => by rw [List.getElem?_eq_none hle] at h2; cases h2
        have := k H' (Same.refl _)
        rw [fault_at hi hg hb] at this
        exact this
      · have hlt : i < ix.length := by
          by_cases hh : i < ix.length
          · exact hh
          · exact absurd (decide_eq_true (by omega)) h1
        refine ⟨_, rfl, _, rfl, t, _, (i : Int), .str ix[i], rfl, rfl, SqT.of ht, atI_nat (by rw [List.getElem?_map, List.getElem?_eq_getElem hlt]; rfl), _, rfl, c, _, rfl, .inr (SqT.of hc), rfl, flat_strs _, _, rfl, ?_⟩
        show if (!inV (.str ix[i]) (cols.map V.str)) = true then _ else _
        rw [inV_strs]
        by_cases hm : ix[i] ∈ cols
        · rw [decide_eq_true hm]
          refine iteF ?_
          refine ⟨rfl, ⟨_, rfl⟩, fun p hp => ?_⟩
          by_cases hpi : p = i
          · subst hpi
            exact ⟨ix[p], List.getElem?_eq_getElem hlt, hm⟩
          · exact hg p (by omega)
        · rw [decide_eq_false hm]
          refine iteT ?_
          refine ⟨_, rfl, ?_⟩
          have hb : ¬ goodAt ix cols i := fun ⟨c', h2, h3⟩ => by
            rw [List.getElem?_eq_getElem hlt] at h2
            cases h2
            exact hm h3
          have := k H' (Same.refl _)
          rw [fault_at hi hg hb] at this
          exact this
    · rintro σ H' ⟨rfl, ⟨v, rfl⟩, hg⟩
      have kk := k H' (Same.refl _)
      rw [fault_end hg] at kk
      refine ⟨_, rfl, rfl, _, rfl, ?_⟩
      show if (!decide (V.str e = V.str "")) = true then _ else _
      by_cases he : e = ""
      · rw [decide_eq_true (congrArg V.str he)]
        refine iteF ?_
        rw [if_neg (fun h => h.1 he)] at kk
        refine iteF ?_
        exact kk
      · rw [decide_eq_false (fun h => he (by injection h))]
        refine iteT ?_
        refine ⟨_, rfl, _, rfl, _, _, rfl, .inr (SqT.of ht), _, _, rfl, rfl, _, rfl, ?_⟩
        rw [hlx]
        refine ite2 (fun h1 => ?_) (fun h1 => ?_)
        · have hle : ix.length ≤ cols.length := by
            have := of_decide_eq_true h1
            omega
          rw [if_pos ⟨he, by rw [List.getElem?_eq_none hle]; intro h; cases h⟩] at kk
          refine iteT ?_
          exact ⟨_, rfl, kk⟩
        · have hlt : cols.length < ix.length := by
            by_cases hh : cols.length < ix.length
            · exact hh
            · exact absurd (decide_eq_true (by omega)) h1
          refine ⟨_, rfl, _, rfl, t, _, (cols.length : Int), .str ix[cols.length], rfl, rfl, SqT.of ht, atI_nat (by rw [List.getElem?_map, List.getElem?_eq_getElem hlt]; rfl), _, rfl, rfl, _, rfl, ?_⟩
          show if (!decide (V.str ix[cols.length] = V.str e)) = true then _ else _
          by_cases hm : ix[cols.length] = e
          · rw [decide_eq_true (congrArg V.str hm)]
            rw [if_neg (fun h => h.2 (by rw [List.getElem?_eq_getElem hlt, hm]))] at kk
            refine iteF ?_
            exact kk
          · rw [decide_eq_false (fun h => hm (by injection h))]
            rw [if_pos ⟨he, fun h => hm (by rw [List.getElem?_eq_getElem hlt] at h; exact Option.some.inj h)⟩] at kk
            refine iteT ?_
            exact ⟨_, rfl, kk⟩
/-- self.f = x -/
def spInitE (K : PySem.W.Frag) (f : Str) : Sp := fun vs H Q _ => ∃ (a C : Addr) (x : V), vs = [.ref a, x] ∧ OexC K C ∧ PySem.W.findIn K (.ref C) f = some none ∧ H a = some (exo a C none) ∧
  ∀ d, H d = none → d ≠ a → Q .non (upd (upd H d (exd d [(f, x)])) a (exo a C (some d)))
theorem scUInit : FnScope ["self", "question"] ["self", "question"] (defScope sUInit) := ⟨rfl, rfl, rfl, by decide +kernel, rfl, by decide +kernel, by decide +kernel⟩
theorem ok_uinit {f : Addr} {fd : FuncData} (F : Fun K "__init__" "Unserved.__init__" sUInit f fd) : FnOk P w K mg base CX0 1 f fd ["self", "question"] (spInitE K "question") := by
  refine F.ok scUInit (fun vs H Q E h => ?_) (fun cdv A outer s H vs Q E hr h => ?_)
  · obtain ⟨a, C, x, rfl, _⟩ := h
    rfl
  · obtain ⟨a, C, x, rfl, T, no, ha, q⟩ := h
    exact ⟨_, pss_one (ps_ost (pv 0) (pv 1)), _, rfl, _, rfl, a, C, rfl, T, no, .inl ⟨ha, fun d hd hda => q d hd hda⟩⟩
structure TxE (K : PySem.W.Frag) (mg : Str → Option Value) (C CK CN : Addr) : Prop where
  er : ErC K C
  no : PySem.W.findIn K (.ref C) "question" = some none
  m : mg "Unserved" = some (.ref C)
  mke : mg "KeysError" = some (.ref CK)
  mno : mg "NoNumber" = some (.ref CN)
  te : PySem.W.exmOne K (.ref C) (.ref CK) = some true
  tn : PySem.W.kitOne K (.ref C) (.ref CN) = some false
def vN (i : Nat) : V := .int (i : Int)
def srvAt (rs : List (List Str)) (q : Qd) (j : Nat) : Bool := match rs[j]? with
  | some r => decide (fault r q.1 q.2 = none)
  | none => false
/-- the numbers below n of the rows that serve q -/
def numsT (rs : List (List Str)) (q : Qd) (n : Nat) : List Nat := (List.range n).filter (srvAt rs q)
theorem numsT_step (rs : List (List Str)) (q : Qd) (n : Nat) : numsT rs q (n + 1) = numsT rs q n ++ if srvAt rs q n = true then [n] else [] := by
  unfold numsT
  rw [List.range_succ, List.filter_append]
  congr 1
  rw [List.filter_cons, List.filter_nil]
theorem numsT_len (rs : List (List Str)) (q : Qd) (n : Nat) : (numsT rs q n).length ≤ n := by
  have := List.length_filter_le (srvAt rs q) (List.range n)
  rw [List.length_range] at this
  exact this
def nums (rs : List (List Str)) (q : Qd) : List Nat := numsT rs q rs.length
def spServers (C : Addr) : Sp := fun vs H Q _ => ∃ (a t : Addr) (rs : List (List Str)) (q : Qd), vs = [.ref a, .ref t] ∧ ShV H C a rs ∧ (∀ r ∈ rs, Row r) ∧ rs.length ≤ 48 ∧ QAt H t q.1 q.2 ∧ QZ q.1 q.2 ∧
  ∀ (H' : Hp) (p : Addr), Same H H' → H p = none → H' p = some (.lst ((nums rs q).map vN)) → Q (.ref p) H'
abbrev nSvs : List Str := ["shelf", "question", "number", "index"]
theorem scServers : FnScope nSvs ["shelf", "question"] (defScope sServers) := ⟨rfl, rfl, rfl, by decide +kernel, rfl, by decide +kernel, by decide +kernel⟩
theorem ok_servers {f C fi : Addr} {fd fdI : FuncData} (F : Fun K "servers" "servers" sServers f fd) (T : Txt K mg) (oc : OwnIt K C fi) (FI : FnS P w K mg base 1 fi fdI ["self"] (spIterF C "_indexes")) (bI : Binds K fdI ["self"] [])
    (cV : Cal P w K mg base 1 "serves" ["index", "question"] spServes) : FnOk P w K mg base CX0 4 f fd ["shelf", "question"] (spServers C) := by
  refine F.ok scServers (fun vs H Q E h => ?_) (fun cdv A outer s H vs Q E hr h => ?_)
  · obtain ⟨a, t, rs, q, rfl, _⟩ := h
    rfl
  · obtain ⟨a, t, rs, q, rfl, ⟨l, xs, hI, hT⟩, hR, l48, hq, Z, k⟩ := h
    obtain ⟨dx, ha, hl⟩ := id hI
    have nd := scServers.nd
    have hr1 : Room 1 _ := hr.mono (by decide)
    have le := hT.len
    refine ⟨_, pss_one (ps_ret (pe_lc (own := [("number", 2), ("index", 3)]) (g := gTup K 2 (gCons (gName 2) (gCons (gName 3) gNil))) rfl nd (pi_enumOwn oc FI bI hr (by rfl) T.enumerate (pa_cons (pv 0) pa_nil)) (blkOk_by (N := nSvs) (sc := defScope sServers) (by decide +kernel))
      (fun _ _ _ _ _ => pg_tup (by rfl) (pgs_cons (pg_name (i := 2) nd rfl (by first | exact Or.inl rfl | exact Or.inr rfl)) (pgs_cons (pg_name (i := 3) nd rfl (by first | exact Or.inl rfl | exact Or.inr rfl)) pgs_nil)))
      (fun _ _ _ _ _ => pts_one (pt_val (pe_call cV.G hr1 rfl cV.m cV.kp cV.b .nil pass0 (pa_cons (pv 3) (pa_cons (pv 1) pa_nil))))) (fun _ _ _ _ _ => pv 2))), ?_⟩
    refine ⟨_, rfl, a, l, xs, rfl, hI.hasL, fun D hD => ?_⟩
    refine lc_it (walk_enum (xs := xs)) (fun i H' => Same H H' ∧ H' D = some (.lst ((numsT rs q i).map vN))) ⟨same_new hD, upd_same⟩ (fun i H' _ h => SqL.of (h.1 _ _ hl)) ?_ ?_
    · rintro i x H3 H4 hi ⟨s3, hDl⟩ y
      obtain ⟨T4, x1, y1, rfl, hT4, rfl, hx1, hy1⟩ := y
      injection hx1 with hx1
      subst hx1
      obtain ⟨t0, r, rfl, hri, hrt⟩ := (hT.same s3).at_ hy1
      have R := hR r (List.mem_of_getElem? hri)
      have sT := same_new (o := .tup [V.int (i : Nat), V.ref t0]) hT4
      refine ⟨T4, _, rfl, SqT.of upd_same, rfl, _, _, rfl, _, _, rfl, rfl, rfl, ?_⟩
      refine Exists.intro _ ⟨rfl, Exists.intro _ ⟨rfl, t0, t, r, q.1, q.2, rfl, sT _ _ hrt, (hq.same s3).same sT, Z.m.le, R.le, R.nd, R.sub, Z.m.nd, Z.m.srt, Z.m.sub, Z.m.esub, fun H5 s5 => ⟨_, rfl, ?_⟩⟩⟩
      have s35 := s3.trans (sT.trans s5)
      have hD5 := s5 _ _ (sT _ _ hDl)
      have es : srvAt rs q i = decide (fault r q.1 q.2 = none) := by unfold srvAt; rw [hri]
      rw [numsT_step, es]
      cases hb : decide (fault r q.1 q.2 = none) with
      | true =>
        refine iteT ?_
        have nl := numsT_len rs q i
        refine ⟨_, rfl, _, hD5, small1000 (by rw [List.length_map]; omega), fun b o hb2 => ?_, ?_⟩
        · rw [upd_ne (ne_of_none hb2 hD)]
          exact s35 _ _ hb2
        · rw [upd_same, List.map_append]
          rfl
      | false =>
        refine iteF ?_
        exact ⟨s35, by rw [hD5]; simp⟩
    · rintro H3 ⟨s3, hDl⟩
      rw [le] at hDl
      exact k H3 D s3 hD hDl
def firstN (rs : List (List Str)) (q : Qd) : Option Nat := (nums rs q).head?
def spPlaceOf (C CU : Addr) : Sp := fun vs H Q E => ∃ (a t : Addr) (rs : List (List Str)) (q : Qd), vs = [.ref a, .ref t] ∧ ShV H C a rs ∧ (∀ r ∈ rs, Row r) ∧ rs.length ≤ 48 ∧ QAt H t q.1 q.2 ∧ QZ q.1 q.2 ∧
  (∀ (H' : Hp) (n : Nat), Same H H' → firstN rs q = some n → Q (vN n) H') ∧
  (∀ (H' : Hp) (d : Addr), Same H H' → firstN rs q = none → H' d = none → E (.ref CU) (some d) (upd H' d (.xd [("question", .ref t)])))
theorem scPlaceOf : FnScope ["shelf", "question", "numbers"] ["shelf", "question"] (defScope sPlaceOf) := ⟨rfl, rfl, rfl, by decide +kernel, rfl, by decide +kernel, by decide +kernel⟩
theorem ok_placeof {f C CU CK CN fI : Addr} {fd fdI : FuncData} (F : Fun K "place_of" "place_of" sPlaceOf f fd) (T : Txt K mg) (TE : TxE K mg CU CK CN) (iC : PySem.W.findIn K (.ref CU) "__init__" = some (some (.ref fI))) (tI : PySem.W.typeIn K (.ref fI) = some (.type "function"))
    (FI : FnOk P w K mg base CX0 1 fI fdI ["self", "question"] (spInitE K "question")) (bI : Binds K fdI ["self", "question"] [])
    (cV : Cal P w K mg base 4 "servers" ["shelf", "question"] (spServers C)) : FnOk P w K mg base (L2.CX P w) 5 f fd ["shelf", "question"] (spPlaceOf C CU) := by
  refine F.okX scPlaceOf (fun vs H Q E h => ?_) (fun cdv A outer s H vs Q E hr h => ?_)
  · obtain ⟨a, t, rs, q, rfl, _⟩ := h
    rfl
  · obtain ⟨a, t, rs, q, rfl, hS, hR, l48, hq, Z, k1, k2⟩ := h
    have nd := scPlaceOf.nd
    have hr2 : Room 2 _ := hr.mono (by decide)
    refine ⟨_, pss_cons (ps_set (i := 2) nd rfl (Or.inl rfl) (pe_call cV.G hr rfl cV.m cV.kp cV.b .nil pass0 (pa_cons (pv 0) (pa_cons (pv 1) pa_nil))))
      (pss_cons (ps_if (pt_cmpR op_eq (pe_callB call_len_seq (by rfl) T.len PySem.boot_len (pa_cons (pv 2) pa_nil)) pe_int (nomark _)) (pss_one (ps_raise rfl (takes_of rfl rfl rfl rfl) (pmk_oex TE.er.o iC tI FI hr2 bI .nil pass0 rfl TE.m (pa_cons (pv 1) pa_nil)))) pss_nil)
      (pss_one (ps_ret (pe_ix ix_list (pv 2) pe_int fun _ _ => rfl)))), ?_⟩
    refine ⟨_, rfl, _, rfl, a, t, rs, q, rfl, hS, hR, l48, hq, Z, fun H1 p s1 hp0 hp => ?_⟩
    refine ⟨_, rfl, _, _, rfl, .inl (SqL.of hp), rfl, _, rfl, ?_⟩
    cases hf : nums rs q with
    | nil =>
      rw [hf] at hp
      refine iteT ?_
      refine ⟨_, rfl, by show 1 ≤ 1000; decide, fun e he => ⟨e, CU, _, rfl, TE.er.o, TE.no, upd_same, fun d hd hda => ⟨rfl, d, [("question", .ref t)], upd_same, by rw [upd_ne hda]; exact upd_same, ?_, ?_⟩⟩⟩
      · rw [upd_ne hda] at hd
        exact hd
      · rw [upd_ne hda] at hd
        have eH : upd (del (upd (upd (upd H1 e (exo e CU none)) d (exd d [("question", .ref t)])) e (exo e CU (some d))) e) d (.xd [("question", .ref t)]) = upd H1 d (.xd [("question", .ref t)]) := by
          funext b
          by_cases hbd : b = d
          · rw [hbd, upd_same, upd_same]
          · rw [upd_ne hbd, upd_ne hbd]
            by_cases hbe : b = e
            · rw [hbe, del_same, he]
            · rw [del_ne hbe, upd_ne hbe, upd_ne hbd, upd_ne hbe]
        rw [eH]
        exact k2 H1 d s1 (by unfold firstN; rw [hf]; rfl) hd
    | cons n ns =>
      rw [hf] at hp
      refine iteF ?_
      refine ⟨_, rfl, ?_⟩
      exact rIx 0 hp rfl (k1 H1 n s1 (by unfold firstN; rw [hf]; rfl))
def spFaults (C : Addr) : Sp := fun vs H Q _ => ∃ (a t : Addr) (rs : List (List Str)) (q : Qd), vs = [.ref a, .ref t] ∧ ShV H C a rs ∧ (∀ r ∈ rs, Row r) ∧ rs.length ≤ 48 ∧ QAt H t q.1 q.2 ∧ QZ q.1 q.2 ∧
  ∀ (H' : Hp) (p : Addr), Same H H' → H p = none → H' p = some (.lst (rs.map fun r => optV (fault r q.1 q.2))) → Q (.ref p) H'
abbrev nFaults : List Str := ["shelf", "question", "index"]
theorem scFaults : FnScope nFaults ["shelf", "question"] (defScope sFaults) := ⟨rfl, rfl, rfl, by decide +kernel, rfl, by decide +kernel, by decide +kernel⟩
theorem ok_faults {f C fi : Addr} {fd fdI : FuncData} (F : Fun K "faults" "faults" sFaults f fd) (T : Txt K mg) (oc : OwnIt K C fi) (FI : FnS P w K mg base 1 fi fdI ["self"] (spIterF C "_indexes")) (bI : Binds K fdI ["self"] [])
    (cV : Cal P w K mg base 1 "first_fault" ["index", "question"] spFault) : FnOk P w K mg base CX0 2 f fd ["shelf", "question"] (spFaults C) := by
  refine F.ok scFaults (fun vs H Q E h => ?_) (fun cdv A outer s H vs Q E hr h => ?_)
  · obtain ⟨a, t, rs, q, rfl, _⟩ := h
    rfl
  · obtain ⟨a, t, rs, q, rfl, ⟨l, xs, ⟨dx, ha, hl⟩, hT⟩, hR, l48, hq, Z, k⟩ := h
    have nd := scFaults.nd
    have le := hT.len
    refine ⟨_, pss_one (ps_ret (pe_lc (own := [("index", 2)]) (g := gName 2) (tt := tYes) rfl nd (pi_own oc FI bI hr (pv 0)) (blkOk_by (N := nFaults) (sc := defScope sFaults) (by decide +kernel))
      (fun _ _ _ _ _ => pg_name (i := 2) nd rfl (by first | exact Or.inl rfl | exact Or.inr rfl)) (fun _ _ _ _ _ => pts_nil) (fun _ _ _ _ _ => pe_call cV.G hr rfl cV.m cV.kp cV.b .nil pass0 (pa_cons (pv 2) (pa_cons (pv 1) pa_nil))))), ?_⟩
    refine ⟨_, rfl, a, dx, l, _, xs, rfl, ha, rfl, hl, fun D hD => ?_⟩
    refine lc_list (K := K) (a := l) (xs := xs) (fun i H' => Same H H' ∧ H' D = some (.lst ((rs.take i).map fun r => optV (fault r q.1 q.2)))) ⟨same_new hD, upd_same⟩ (fun i H' _ h => SqL.of (h.1 _ _ hl)) ?_ ?_
    · rintro i x H1 hx ⟨s1, hDl⟩
      have hil : i < xs.length := (List.getElem?_eq_some_iff.mp hx).1
      obtain ⟨t0, r, rfl, hri, hrt⟩ := (hT.same s1).at_ hx
      have et : rs.take (i + 1) = rs.take i ++ [r] := by rw [List.take_add_one, hri]; rfl
      refine ⟨rfl, Exists.intro _ ⟨rfl, Exists.intro _ ⟨rfl, t0, t, r, q.1, q.2, rfl, hrt, hq.same s1, Z.m.le, fun H2 s2 => ⟨_, s2 _ _ hDl, small1000 (by simp; omega), fun b o hb2 => ?_, ?_⟩⟩⟩⟩
      · rw [upd_ne (ne_of_none hb2 hD)]
        exact s2 _ _ (s1 _ _ hb2)
      · rw [upd_same, et, List.map_append]
        rfl
    · rintro H1 ⟨s1, hDl⟩
      rw [le, List.take_of_length_le (Nat.le_refl _)] at hDl
      exact k H1 D s1 hD hDl
/-- the first number for each -/
def spPlaces (C CA : Addr) : Sp := fun vs H Q _ => ∃ (a t : Addr) (rs : List (List Str)) (zs : List Qd), vs = [.ref a, .ref t] ∧ ShV H C a rs ∧ AsV H CA t zs ∧ (∀ r ∈ rs, Row r) ∧ rs.length ≤ 48 ∧ QZs zs ∧ zs.length ≤ 48 ∧
  ∀ (H' : Hp) (p : Addr), Same H H' → H p = none → H' p = some (.lst (zs.map fun q => optV (firstN rs q))) → Q (.ref p) H'
abbrev nPlaces : List Str := ["shelf", "asked", "found", "question", "numbers"]
theorem scPlaces : FnScope nPlaces ["shelf", "asked"] (defScope sPlaces) := ⟨rfl, rfl, rfl, by decide +kernel, rfl, by decide +kernel, by decide +kernel⟩
theorem ok_places {f C CA fi : Addr} {fd fdI : FuncData} (F : Fun K "places" "places" sPlaces f fd) (T : Txt K mg) (oc : OwnIt K CA fi) (FI : FnS P w K mg base 1 fi fdI ["self"] (spIterF CA "_questions")) (bI : Binds K fdI ["self"] [])
    (cV : Cal P w K mg base 4 "servers" ["shelf", "question"] (spServers C)) : FnOk P w K mg base CX0 5 f fd ["shelf", "asked"] (spPlaces C CA) := by
  refine F.ok scPlaces (fun vs H Q E h => ?_) (fun cdv A outer s H vs Q E hr h => ?_)
  · obtain ⟨a, t, rs, zs, rfl, _⟩ := h
    rfl
  · obtain ⟨a, t, rs, zs, rfl, hS, ⟨l, xs, ⟨dx, ha, hl⟩, hq⟩, hR, l48, hz, z48, k⟩ := h
    have nd := scPlaces.nd
    have le := hq.len
    have hr1 : Room 1 _ := hr.mono (by decide)
    refine ⟨_, pss_cons (ps_set (i := 2) nd rfl (Or.inl rfl) (pe_lst pa_nil))
      (pss_cons (ps_for PassesOwn.never rfl (pi_own oc FI bI hr1 (pv 1)) (pg_name (i := 3) nd rfl (Or.inl rfl))
        (pss_cons (ps_set (i := 4) nd rfl (Or.inl rfl) (pe_call cV.G hr rfl cV.m cV.kp cV.b .nil pass0 (pa_cons (pv 0) (pa_cons (pv 3) pa_nil))))
        (pss_one (ps_expr (pe_bm PySem.F.plainAttrs_list PySem.F.slot_list_append PySem.F.type_list_append mt_append (pv 2) (pa_cons (pe_ifExp (pt_cmpR op_gt (pe_callB call_len_seq (by rfl) T.len PySem.boot_len (pa_cons (pv 4) pa_nil)) pe_int (nomark _)) (pe_ix ix_list (pv 4) pe_int fun _ _ => rfl) pe_non) pa_nil))))))
      (pss_one (ps_ret (pv 2)))), ?_⟩
    refine ⟨by decide, fun p hp => ?_⟩
    have s0 := same_new (o := .lst []) hp
    refine ⟨_, rfl, t, dx, l, _, xs, rfl, s0 _ _ ha, rfl, s0 _ _ hl, for_list (K := K) (a := l) (xs := xs) (fun i σ H' => (∃ v3 v4, σ = [some (.ref a), some (.ref t), some (.ref p), v3, v4]) ∧ Same H H' ∧ H' p = some (.lst ((zs.take i).map fun q => optV (firstN rs q))))
      ⟨⟨_, _, rfl⟩, s0, upd_same⟩ (fun i σ H' _ h => SqL.of (h.2.1 _ _ hl)) ?_ ?_⟩
    · rintro i y σ H1 hy ⟨⟨v3, v4, rfl⟩, s1, hpl⟩
      have hil : i < xs.length := (List.getElem?_eq_some_iff.mp hy).1
      obtain ⟨o, q, rfl, hqi, hqa⟩ := (hq.same s1).at_ hy
      have et : zs.take (i + 1) = zs.take i ++ [q] := by rw [List.take_add_one, hqi]; rfl
      refine ⟨_, rfl, _, rfl, a, o, rs, q, rfl, hS.same s1, hR, l48, hqa, hz q (List.mem_of_getElem? hqi), fun H2 r s2 hr0 hr2 => ?_⟩
      have hp2 := s2 _ _ hpl
      have fin : Same H (upd H2 p (.lst ((zs.take i).map (fun q => optV (firstN rs q)) ++ [optV (firstN rs q)]))) := fun b o' hb2 => by
        rw [upd_ne (ne_of_none hb2 hp)]
        exact s2 _ _ (s1 _ _ hb2)
      have e2 : upd H2 p (.lst ((zs.take i).map (fun q => optV (firstN rs q)) ++ [optV (firstN rs q)])) p = some (.lst ((zs.take (i + 1)).map fun q => optV (firstN rs q))) := by
        rw [upd_same, et, List.map_append]
        rfl
      refine ⟨_, rfl, .inl ⟨rfl, _, SqL.of hp2⟩, ?_⟩
      refine ⟨_, rfl, _, _, rfl, .inl (SqL.of hr2), _, 0, rfl, rfl, _, rfl, ?_⟩
      rw [List.length_map]
      cases hf : nums rs q with
      | nil =>
        refine iteF ?_
        have ef : optV (firstN rs q) = .non := by unfold firstN; rw [hf]; rfl
        rw [ef] at fin e2
        exact ⟨p, _, _, rfl, rfl, hp2, small1000 (by simp; omega), ⟨_, _, rfl⟩, fin, e2⟩
      | cons n ns =>
        rw [hf] at hr2
        have e0 : decide ((0 : Int) < ((n :: ns).length : Int)) = true := decide_eq_true (by rw [List.length_cons]; omega)
        rw [e0]
        refine iteT ?_
        refine ⟨_, rfl, rIx 0 hr2 rfl ?_⟩
        have ef : optV (firstN rs q) = vN n := by unfold firstN; rw [hf]; rfl
        rw [ef] at fin e2
        exact ⟨p, _, _, rfl, rfl, hp2, small1000 (by simp; omega), ⟨_, _, rfl⟩, fin, e2⟩
    · rintro σ H1 ⟨⟨v3, v4, rfl⟩, s1, hpl⟩
      rw [le, List.take_of_length_le (Nat.le_refl _)] at hpl
      exact ⟨_, rfl, k H1 p s1 hp hpl⟩
def dN (n : Nat) : PyData := .int (n : Int)
def dO : Option Nat → PyData
  | none => .none
  | some n => .int (n : Int)
theorem dp_ns {H : Hp} : ∀ ns : List Nat, DpAll K H (ns.map vN) (ns.map dN)
  | [] => .nil
  | n :: ns => .cons (.int _) (dp_ns ns)
theorem dp_o {H : Hp} : ∀ o : Option Nat, Dp K H (optV o) (dO o)
  | none => .non
  | some n => .int _
theorem dp_os {H : Hp} : ∀ os : List (Option Nat), DpAll K H (os.map optV) (os.map dO)
  | [] => .nil
  | o :: os => .cons (dp_o o) (dp_os os)
theorem small60 {n : Nat} (h : n ≤ 1000) : (n : Int).natAbs < 10 ^ 60 := Nat.lt_of_le_of_lt (show (n : Int).natAbs ≤ 1000 by omega) (by decide)
theorem fine_ns : ∀ {ns : List Nat}, (∀ n ∈ ns, n ≤ 1000) → fineAll (ns.map dN) = true
  | [], _ => rfl
  | n :: ns, h => by
    show (fine (dN n) && fineAll (ns.map dN)) = true
    rw [fine_ns fun x hx => h x (List.mem_cons_of_mem _ hx), Bool.and_true]
    exact fine_int (small60 (h n List.mem_cons_self))
theorem cost_ns : ∀ (ns : List Nat), costAll (ns.map dN) = 66 * ns.length
  | [] => rfl
  | n :: ns => by
    show cost (dN n) + 2 + costAll (ns.map dN) = _
    rw [cost_ns ns, List.length_cons]
    show 64 + 2 + _ = _
    omega
theorem depth_ns : ∀ (ns : List Nat), PyData.depthAll (ns.map dN) = 0
  | [] => rfl
  | n :: ns => by
    show max (PyData.depth (dN n)) (PyData.depthAll (ns.map dN)) = 0
    rw [depth_ns ns]
    rfl
theorem dok_ns {ns : List Nat} (h : ∀ n ∈ ns, n ≤ 1000) (hl : ns.length ≤ 4000) : DOk (.list (ns.map dN)) :=
  ⟨fine_ns h, by show PyData.depthAll _ + 1 ≤ 50; rw [depth_ns]; decide, by show costAll _ + 3 ≤ _; rw [cost_ns]; omega⟩
theorem fine_o : ∀ {o : Option Nat}, (∀ n, o = some n → n ≤ 1000) → fine (dO o) = true
  | none, _ => rfl
  | some n, h => fine_int (small60 (h n rfl))
theorem cost_o : ∀ o : Option Nat, cost (dO o) ≤ 64
  | none => by decide
  | some n => Nat.le_refl 64
theorem depth_o : ∀ o : Option Nat, PyData.depth (dO o) = 0
  | none => rfl
  | some n => rfl
theorem fine_os : ∀ {os : List (Option Nat)}, (∀ o ∈ os, ∀ n, o = some n → n ≤ 1000) → fineAll (os.map dO) = true
  | [], _ => rfl
  | o :: os, h => by
    show (fine (dO o) && fineAll (os.map dO)) = true
    rw [fine_os fun x hx => h x (List.mem_cons_of_mem _ hx), Bool.and_true]
    exact fine_o (h o List.mem_cons_self)
theorem cost_os : ∀ (os : List (Option Nat)), costAll (os.map dO) ≤ 66 * os.length
  | [] => Nat.le_refl 0
  | o :: os => by
    show cost (dO o) + 2 + costAll (os.map dO) ≤ _
    have := cost_os os
    have := cost_o o
    rw [List.length_cons]
    omega
theorem depth_os : ∀ (os : List (Option Nat)), PyData.depthAll (os.map dO) = 0
  | [] => rfl
  | o :: os => by
    show max (PyData.depth (dO o)) (PyData.depthAll (os.map dO)) = 0
    rw [depth_os os, depth_o]
    rfl
theorem dok_os {os : List (Option Nat)} (h : ∀ o ∈ os, ∀ n, o = some n → n ≤ 1000) (hl : os.length ≤ 4000) : DOk (.list (os.map dO)) :=
  ⟨fine_os h, by show PyData.depthAll _ + 1 ≤ 50; rw [depth_os]; decide, by show costAll _ + 3 ≤ _; have := cost_os os; omega⟩
theorem eqv_n (a b : Nat) : PyData.eqv (dN a) (dN b) = decide (a = b) := by
  show PyData.eqv (.int (a : Int)) (.int (b : Int)) = _
  rw [PyData.eqv]
  by_cases h : a = b
  · rw [h, decide_eq_true rfl]
    simp
  · rw [decide_eq_false h]
    simp
    omega
theorem any_n (n : Nat) (ns : List Nat) : ((ns.map dN).any fun z => PyData.eqv z (dN n)) = decide (n ∈ ns) := by
  rw [List.any_map]
  by_cases h : n ∈ ns
  · rw [decide_eq_true h]
    exact List.any_eq_true.mpr ⟨n, h, by show PyData.eqv (dN n) (dN n) = true; rw [eqv_n]; exact decide_eq_true rfl⟩
  · rw [decide_eq_false h]
    refine List.any_eq_false.mpr fun y hy e => h ?_
    have e' : PyData.eqv (dN y) (dN n) = true := e
    rw [eqv_n] at e'
    rw [← of_decide_eq_true e']
    exact hy
theorem nums_lt {rs : List (List Str)} {q : Qd} {n : Nat} (h : n ∈ nums rs q) : n < rs.length := List.mem_range.mp (List.mem_filter.mp h).1
def busyL (rs : List (List Str)) (zs : List Qd) : List Nat := zs.flatMap (nums rs)
theorem busy_len (rs : List (List Str)) : ∀ zs : List Qd, (busyL rs zs).length ≤ rs.length * zs.length
  | [] => Nat.zero_le _
  | z :: zs => by
    have h := busy_len rs zs
    have h1 := numsT_len rs z rs.length
    unfold busyL at h ⊢
    rw [List.flatMap_cons, List.length_append, List.length_cons, Nat.mul_add]
    unfold nums at *
    omega
def idleL (rs : List (List Str)) (zs : List Qd) : List Nat := (List.range rs.length).filter fun j => !decide (j ∈ busyL rs zs)
def spIdle (C CA : Addr) : Sp := fun vs H Q _ => ∃ (a t : Addr) (rs : List (List Str)) (zs : List Qd), vs = [.ref a, .ref t] ∧ ShV H C a rs ∧ AsV H CA t zs ∧ (∀ r ∈ rs, Row r) ∧ rs.length ≤ 24 ∧ QZs zs ∧ zs.length ≤ 48 ∧
  ∀ (H' : Hp) (p : Addr), Same H H' → H p = none → H' p = some (.lst ((idleL rs zs).map vN)) → Q (.ref p) H'
abbrev nIdle : List Str := ["shelf", "asked", "busy", "question", "number"]
theorem scIdle : FnScope nIdle ["shelf", "asked"] (defScope sIdle) := ⟨rfl, rfl, rfl, by decide +kernel, rfl, by decide +kernel, by decide +kernel⟩
theorem ok_idle {f C CA fi fL : Addr} {fd fdI fdL : FuncData} (F : Fun K "idle" "idle" sIdle f fd) (T : Txt K mg) (oc : OwnIt K CA fi) (FI : FnS P w K mg base 1 fi fdI ["self"] (spIterF CA "_questions")) (bI : Binds K fdI ["self"] [])
    (oL : OwnLen K C fL) (gL : FnOk P w K mg base CX0 1 fL fdL ["self"] (spLenF C "_indexes")) (bL : Binds K fdL ["self"] [])
    (cV : Cal P w K mg base 4 "servers" ["shelf", "question"] (spServers C)) : FnOk P w K mg base CX0 5 f fd ["shelf", "asked"] (spIdle C CA) := by
  refine F.ok scIdle (fun vs H Q E h => ?_) (fun cdv A outer s H vs Q E hr h => ?_)
  · obtain ⟨a, t, rs, zs, rfl, _⟩ := h
    rfl
  · obtain ⟨a, t, rs, zs, rfl, hS, ⟨l, xs, ⟨dx, ha, hl⟩, hq⟩, hR, l24, hz, z48, k⟩ := h
    have nd := scIdle.nd
    have le := hq.len
    have hr1 : Room 1 _ := hr.mono (by decide)
    have hr2 : Room 2 _ := hr.mono (by decide)
    have hu65 : A.units + 3 + 65 < cLine := by
      have := hr.un
      have e : (A.deeper (envOfC "idle" (defScope sIdle) s.heap.objs.size f cdv)).units = A.units + 3 := rfl
      omega
    refine ⟨_, pss_cons (ps_set (i := 2) nd rfl (Or.inr rfl) (pe_lc2 (own := [("question", 3), ("number", 4)]) (vs1 := [4]) (g := gName 3) (g1 := gName 4) (tt := tYes) (tt1 := tYes) rfl nd (pi_own oc FI bI hr1 (pv 1)) (blkOk_by (N := nIdle) (sc := defScope sIdle) (by decide +kernel)) (by decide)
        (fun _ _ _ _ _ => pg_name (i := 3) nd rfl (by first | exact Or.inl rfl | exact Or.inr rfl)) (fun _ _ _ _ _ => pts_nil)
        (wi1 := iList K (tCall (spServers C) [] (fun _ _ _ => False) _)) (fun _ _ _ _ _ => pi_list (pe_call cV.G hr rfl cV.m cV.kp cV.b .nil pass0 (pa_cons (pv 0) (pa_cons (pv 3) pa_nil)))) (fun _ _ _ _ _ => pg_name (i := 4) nd rfl (by first | exact Or.inl rfl | exact Or.inr rfl))
        (fun _ _ _ _ _ => pts_nil) (fun _ _ _ _ _ => pv 4)))
      (pss_one (ps_ret (pe_lc (own := [("number", 4)]) (g := gName 4) rfl nd (pi_range1 (by rfl) T.range (pa_cons (pe_callB (r := rLenOwn C "_indexes") (call_lenOwn oL gL bL hr2) (by rfl) T.len (by decide +kernel) (pa_cons (pv 0) pa_nil)) pa_nil)) (blkOk_by (N := nIdle) (sc := defScope sIdle) (by decide +kernel))
        (fun _ _ _ _ _ => pg_name (i := 4) nd rfl (by first | exact Or.inl rfl | exact Or.inr rfl)) (fun _ _ _ _ _ => pts_one (pt_cmpR (r := rNotInD K) (op_notInD hu65) (pv 4) (pv 2) (by rfl))) (fun _ _ _ _ _ => pv 4)))), ?_⟩
    refine ⟨_, rfl, t, dx, l, _, xs, rfl, ha, rfl, hl, fun D hD => ?_⟩
    have bl := busy_len rs
    refine lc2_out (walk_list (xs := xs)) (fun i H' => Same H H' ∧ H' D = some (.lst ((busyL rs (zs.take i)).map vN))) ⟨same_new hD, upd_same⟩ (fun i H' _ h => SqL.of (h.1 _ _ hl)) ?_ ?_
    · rintro i x H1 H1' hi ⟨s1, hDl⟩ ⟨rfl, hx⟩
      obtain ⟨o, q, rfl, hqi, hqa⟩ := (hq.same s1).at_ hx
      have et : zs.take (i + 1) = zs.take i ++ [q] := by rw [List.take_add_one, hqi]; rfl
      refine ⟨rfl, ?_⟩
      refine Exists.intro _ ⟨rfl, Exists.intro _ ⟨rfl, a, o, rs, q, rfl, hS.same s1, hR, by omega, hqa, hz q (List.mem_of_getElem? hqi), fun H2 p s2 hp0 hp => ⟨p, rfl, ⟨_, SqL.of hp⟩, ?_⟩⟩⟩
      have hDp : D ≠ p := ne_of_none hDl hp0
      have nl := numsT_len rs q rs.length
      have b1 := bl (zs.take i)
      have b2 : rs.length * (zs.take i).length ≤ 24 * 48 := Nat.mul_le_mul l24 (by rw [List.length_take]; omega)
      refine lc2_in (walk_list (xs := (nums rs q).map vN)) (fun j H' => Same H H' ∧ H' p = some (.lst ((nums rs q).map vN)) ∧ H' D = some (.lst ((busyL rs (zs.take i) ++ (nums rs q).take j).map vN))) ⟨s1.trans s2, hp, by rw [List.take_zero, List.append_nil]; exact s2 _ _ hDl⟩ (fun j H' _ h => SqL.of h.2.1) ?_ ?_
      · rintro j y G G' hj ⟨s3, hp3, hDl3⟩ ⟨rfl, hy⟩
        rw [List.getElem?_map] at hy
        obtain ⟨n, hn, rfl⟩ := Option.map_eq_some_iff.mp hy
        have tk : (nums rs q).take (j + 1) = (nums rs q).take j ++ [n] := by rw [List.take_add_one, hn]; rfl
        refine ⟨rfl, Exists.intro _ ⟨rfl, _, hDl3, Nat.lt_of_le_of_lt (m := 2000) (by rw [List.length_map, List.length_append, List.length_take]; unfold nums; omega) (by rw [sizeLine_eq]; decide), fun b o hb2 => ?_, by rw [upd_ne hDp.symm]; exact hp3, ?_⟩⟩
        · rw [upd_ne (ne_of_none hb2 hD)]
          exact s3 _ _ hb2
        · rw [upd_same, tk, ← List.append_assoc, List.map_append, List.map_append, List.map_append]
          rfl
      · rintro G ⟨s3, hp3, hDl3⟩
        rw [List.length_map, List.take_of_length_le (Nat.le_refl _)] at hDl3
        refine ⟨s3, ?_⟩
        rw [hDl3, et]
        unfold busyL
        rw [List.flatMap_append, List.flatMap_singleton]
    · rintro H1 ⟨s1, hDl⟩
      rw [le, List.take_of_length_le (Nat.le_refl _)] at hDl
      obtain ⟨ls, xls, ⟨dS, hS1, hS2⟩, hS3⟩ := hS.same s1
      have ls1 := hS3.len
      have b1 := bl zs
      have b2 : rs.length * zs.length ≤ 24 * 48 := Nat.mul_le_mul l24 z48
      have hI : HasI H1 C a ls xls := ⟨dS, hS1, hS2⟩
      refine ⟨_, rfl, a, ls, xls, rfl, hI.hasL, by omega, rs.length, by rw [ls1], by omega, by omega, fun D2 hD2 => ?_⟩
      have bs : ∀ n ∈ busyL rs zs, n ≤ 1000 := fun n hn => by
        obtain ⟨z, _, hz2⟩ := List.mem_flatMap.mp hn
        have := nums_lt hz2
        omega
      have stp : ∀ i, ((List.range (i + 1)).filter fun j => !decide (j ∈ busyL rs zs)) = ((List.range i).filter fun j => !decide (j ∈ busyL rs zs)) ++ if (!decide (i ∈ busyL rs zs)) = true then [i] else [] := fun i => by
        rw [List.range_succ, List.filter_append]
        congr 1
        rw [List.filter_cons, List.filter_nil]
      refine lc_range (lo := 0) (n := rs.length) (fun i H' => Same H1 H' ∧ H' D2 = some (.lst (((List.range i).filter fun j => !decide (j ∈ busyL rs zs)).map vN))) ⟨same_new hD2, upd_same⟩ ?_ ?_
      · rintro i H2 hi ⟨s2, hDl2⟩
        rw [show (0 : Int) + (i : Int) = (i : Int) from Int.zero_add _]
        refine ⟨rfl, Exists.intro _ ⟨rfl, Exists.intro _ ⟨rfl, dN i, (busyL rs zs).map dN, .int _, .lst (SqL.of (s2 _ _ hDl)) (dp_ns _), (dok_ns (ns := [i]) (by simp; omega) (by simp)).shaped, (dok_ns bs (by omega)).shaped, _, rfl, ?_⟩⟩⟩
        rw [any_n, stp]
        cases hb : decide (i ∈ busyL rs zs) with
        | true =>
          refine iteF ?_
          exact ⟨s2, by rw [hDl2]; simp⟩
        | false =>
          refine iteT ?_
          have fl := List.length_filter_le (fun j => !decide (j ∈ busyL rs zs)) (List.range i)
          rw [List.length_range] at fl
          refine ⟨_, rfl, _, hDl2, small1000 (by rw [List.length_map]; omega), fun b o hb2 => ?_, ?_⟩
          · rw [upd_ne (ne_of_none hb2 hD2)]
            exact s2 _ _ hb2
          · rw [upd_same, List.map_append]
            rfl
      · rintro H2 ⟨s2, hDl2⟩
        exact k H2 D2 (s1.trans s2) (s1.free hD2) hDl2
/-- the number of the only row that serves q, if it is one alone -/
def soleN (rs : List (List Str)) (q : Qd) : List Nat := match nums rs q with
  | [n] => [n]
  | _ => []
def needL (rs : List (List Str)) (zs : List Qd) : List Nat := zs.flatMap (soleN rs)
theorem sole_sub {rs : List (List Str)} {q : Qd} {n : Nat} (h : n ∈ soleN rs q) : n ∈ nums rs q := by
  unfold soleN at h
  split at h
  · rename_i m e
    rw [e]
    exact h
  · cases h
theorem need_len (rs : List (List Str)) : ∀ zs : List Qd, (needL rs zs).length ≤ zs.length
  | [] => Nat.le_refl 0
  | z :: zs => by
    have h := need_len rs zs
    unfold needL at h ⊢
    rw [List.flatMap_cons, List.length_append, List.length_cons]
    have : (soleN rs z).length ≤ 1 := by
      unfold soleN
      split
      · exact Nat.le_refl 1
      · exact Nat.zero_le _
    omega
def dropL (rs : List (List Str)) (zs : List Qd) : List Nat := (List.range rs.length).filter fun j => !decide (j ∈ needL rs zs)
def spDrop (C CA : Addr) : Sp := fun vs H Q _ => ∃ (a t : Addr) (rs : List (List Str)) (zs : List Qd), vs = [.ref a, .ref t] ∧ ShV H C a rs ∧ AsV H CA t zs ∧ (∀ r ∈ rs, Row r) ∧ rs.length ≤ 48 ∧ QZs zs ∧ zs.length ≤ 48 ∧
  ∀ (H' : Hp) (p : Addr), Same H H' → H p = none → H' p = some (.lst ((dropL rs zs).map vN)) → Q (.ref p) H'
abbrev nDrop : List Str := ["shelf", "asked", "needed", "question", "numbers", "number"]
theorem scDrop : FnScope nDrop ["shelf", "asked"] (defScope sDrop) := ⟨rfl, rfl, rfl, by decide +kernel, rfl, by decide +kernel, by decide +kernel⟩
theorem ok_drop {f C CA fi fL : Addr} {fd fdI fdL : FuncData} (F : Fun K "droppable" "droppable" sDrop f fd) (T : Txt K mg) (oc : OwnIt K CA fi) (FI : FnS P w K mg base 1 fi fdI ["self"] (spIterF CA "_questions")) (bI : Binds K fdI ["self"] [])
    (oL : OwnLen K C fL) (gL : FnOk P w K mg base CX0 1 fL fdL ["self"] (spLenF C "_indexes")) (bL : Binds K fdL ["self"] [])
    (cV : Cal P w K mg base 4 "servers" ["shelf", "question"] (spServers C)) : FnOk P w K mg base CX0 5 f fd ["shelf", "asked"] (spDrop C CA) := by
  refine F.ok scDrop (fun vs H Q E h => ?_) (fun cdv A outer s H vs Q E hr h => ?_)
  · obtain ⟨a, t, rs, zs, rfl, _⟩ := h
    rfl
  · obtain ⟨a, t, rs, zs, rfl, hS, ⟨l, xs, ⟨dx, ha, hl⟩, hq⟩, hR, l48, hz, z48, k⟩ := h
    have nd := scDrop.nd
    have le := hq.len
    have hr1 : Room 1 _ := hr.mono (by decide)
    have hr2 : Room 2 _ := hr.mono (by decide)
    have hu65 : A.units + 3 + 65 < cLine := by
      have := hr.un
      have e : (A.deeper (envOfC "droppable" (defScope sDrop) s.heap.objs.size f cdv)).units = A.units + 3 := rfl
      omega
    refine ⟨_, pss_cons (ps_set (i := 2) nd rfl (Or.inr rfl) (pe_lst pa_nil))
      (Evl.pss_cut (ps_for PassesOwn.never rfl (pi_own oc FI bI hr1 (pv 1)) (pg_name (i := 3) nd rfl (Or.inl rfl))
        (pss_cons (ps_set (i := 4) nd rfl (Or.inl rfl) (pe_call cV.G hr rfl cV.m cV.kp cV.b .nil pass0 (pa_cons (pv 0) (pa_cons (pv 3) pa_nil))))
        (pss_one (ps_if (pt_cmpR op_eq (pe_callB call_len_seq (by rfl) T.len PySem.boot_len (pa_cons (pv 4) pa_nil)) pe_int (nomark _)) (pss_one (ps_expr (pe_bm PySem.F.plainAttrs_list PySem.F.slot_list_append PySem.F.type_list_append mt_append (pv 2) (pa_cons (pe_ix ix_list (pv 4) pe_int fun _ _ => rfl) pa_nil)))) pss_nil))))
      (pss_one (ps_ret (pe_lc (own := [("number", 5)]) (g := gName 5) rfl nd (pi_range1 (by rfl) T.range (pa_cons (pe_callB (r := rLenOwn C "_indexes") (call_lenOwn oL gL bL hr2) (by rfl) T.len (by decide +kernel) (pa_cons (pv 0) pa_nil)) pa_nil)) (blkOk_by (N := nDrop) (sc := defScope sDrop) (by decide +kernel))
        (fun _ _ _ _ _ => pg_name (i := 5) nd rfl (by first | exact Or.inl rfl | exact Or.inr rfl)) (fun _ _ _ _ _ => pts_one (pt_cmpR (r := rNotInD K) (op_notInD hu65) (pv 5) (pv 2) (by rfl))) (fun _ _ _ _ _ => pv 5))))), ?_⟩
    refine ⟨by decide, fun p hp => ?_⟩
    have s0 := same_new (o := .lst []) hp
    refine ⟨fun σ' H' => (∃ v3 v4, σ' = [some (.ref a), some (.ref t), some (.ref p), v3, v4, none]) ∧ Same H H' ∧ H' p = some (.lst ((needL rs zs).map vN)), ?_, ?_⟩
    · refine ⟨_, rfl, t, dx, l, _, xs, rfl, s0 _ _ ha, rfl, s0 _ _ hl, for_list (K := K) (a := l) (xs := xs) (fun i σ H' => (∃ v3 v4, σ = [some (.ref a), some (.ref t), some (.ref p), v3, v4, none]) ∧ Same H H' ∧ H' p = some (.lst ((needL rs (zs.take i)).map vN)))
        ⟨⟨_, _, rfl⟩, s0, upd_same⟩ (fun i σ H' _ h => SqL.of (h.2.1 _ _ hl)) ?_ ?_⟩
      · rintro i y σ H1 hy ⟨⟨v3, v4, rfl⟩, s1, hpl⟩
        have hil : i < xs.length := (List.getElem?_eq_some_iff.mp hy).1
        obtain ⟨o, q, rfl, hqi, hqa⟩ := (hq.same s1).at_ hy
        have et : zs.take (i + 1) = zs.take i ++ [q] := by rw [List.take_add_one, hqi]; rfl
        refine ⟨_, rfl, _, rfl, a, o, rs, q, rfl, hS.same s1, hR, l48, hqa, hz q (List.mem_of_getElem? hqi), fun H2 r s2 hr0 hr2 => ?_⟩
        have hp2 := s2 _ _ hpl
        have nl := need_len rs (zs.take i)
        have en : needL rs (zs.take (i + 1)) = needL rs (zs.take i) ++ soleN rs q := by
          rw [et]
          unfold needL
          rw [List.flatMap_append, List.flatMap_singleton]
        rw [List.length_take] at nl
        refine ⟨_, rfl, _, _, rfl, .inl (SqL.of hr2), rfl, _, rfl, ?_⟩
        rw [List.length_map]
        by_cases h1 : ∃ n, nums rs q = [n]
        · obtain ⟨n, hn⟩ := h1
          rw [hn] at hr2
          have e0 : decide (V.int ((nums rs q).length : Int) = V.int 1) = true := by rw [hn]; rfl
          rw [e0]
          refine iteT ?_
          have es : soleN rs q = [n] := by unfold soleN; rw [hn]
          refine ⟨_, rfl, .inl ⟨rfl, _, SqL.of hp2⟩, _, rfl, rIx 0 hr2 rfl ⟨p, _, _, rfl, rfl, hp2, small1000 (by rw [List.length_map]; omega), ⟨_, _, rfl⟩, fun b o' hb2 => ?_, ?_⟩⟩
          · rw [upd_ne (ne_of_none hb2 hp)]
            exact s2 _ _ (s1 _ _ hb2)
          · rw [upd_same, en, es, List.map_append]
            rfl
        · have e0 : decide (V.int ((nums rs q).length : Int) = V.int 1) = false := decide_eq_false fun e => h1 (by
            injection e with e
            exact List.length_eq_one_iff.mp (by omega))
          rw [e0]
          refine iteF ?_
          have es : soleN rs q = [] := by
            unfold soleN
            split
            · rename_i m e
              exact (h1 ⟨m, e⟩).elim
            · rfl
          refine ⟨⟨_, _, rfl⟩, s1.trans s2, ?_⟩
          rw [hp2, en, es, List.append_nil]
      · rintro σ H1 ⟨⟨v3, v4, rfl⟩, s1, hpl⟩
        rw [le, List.take_of_length_le (Nat.le_refl _)] at hpl
        exact ⟨⟨_, _, rfl⟩, s1, hpl⟩
    · rintro σ H1 ⟨⟨v3, v4, rfl⟩, s1, hpl⟩
      obtain ⟨ls, xls, ⟨dS, hS1, hS2⟩, hS3⟩ := hS.same s1
      have ls1 := hS3.len
      have hI : HasI H1 C a ls xls := ⟨dS, hS1, hS2⟩
      have nl := need_len rs zs
      refine ⟨_, rfl, a, ls, xls, rfl, hI.hasL, by omega, rs.length, by rw [ls1], by omega, by omega, fun D2 hD2 => ?_⟩
      have bs : ∀ n ∈ needL rs zs, n ≤ 1000 := fun n hn => by
        obtain ⟨z, _, hz2⟩ := List.mem_flatMap.mp hn
        have := nums_lt (sole_sub hz2)
        omega
      have stp : ∀ i, ((List.range (i + 1)).filter fun j => !decide (j ∈ needL rs zs)) = ((List.range i).filter fun j => !decide (j ∈ needL rs zs)) ++ if (!decide (i ∈ needL rs zs)) = true then [i] else [] := fun i => by
        rw [List.range_succ, List.filter_append]
        congr 1
        rw [List.filter_cons, List.filter_nil]
      refine lc_range (lo := 0) (n := rs.length) (fun i H' => Same H1 H' ∧ H' D2 = some (.lst (((List.range i).filter fun j => !decide (j ∈ needL rs zs)).map vN))) ⟨same_new hD2, upd_same⟩ ?_ ?_
      · rintro i H2 hi ⟨s2, hDl2⟩
        rw [show (0 : Int) + (i : Int) = (i : Int) from Int.zero_add _]
        refine ⟨rfl, Exists.intro _ ⟨rfl, Exists.intro _ ⟨rfl, dN i, (needL rs zs).map dN, .int _, .lst (SqL.of (s2 _ _ hpl)) (dp_ns _), (dok_ns (ns := [i]) (by simp; omega) (by simp)).shaped, (dok_ns bs (by omega)).shaped, _, rfl, ?_⟩⟩⟩
        rw [any_n, stp]
        cases hb : decide (i ∈ needL rs zs) with
        | true =>
          refine iteF ?_
          exact ⟨s2, by rw [hDl2]; simp⟩
        | false =>
          refine iteT ?_
          have fl := List.length_filter_le (fun j => !decide (j ∈ needL rs zs)) (List.range i)
          rw [List.length_range] at fl
          refine ⟨_, rfl, _, hDl2, small1000 (by rw [List.length_map]; omega), fun b o hb2 => ?_, ?_⟩
          · rw [upd_ne (ne_of_none hb2 hD2)]
            exact s2 _ _ hb2
          · rw [upd_same, List.map_append]
            rfl
      · rintro H2 ⟨s2, hDl2⟩
        exact k H2 D2 (s1.trans s2) (s1.free hD2) hDl2
theorem scServes : FnScope ["_law_index_here", "_law_question", "_law_many"] ["_law_index_here", "_law_question"] (defScope sServes) := ⟨rfl, rfl, rfl, by decide +kernel, rfl, by decide +kernel, by decide +kernel⟩
theorem ok_serves {f : Addr} {fd : FuncData} (F : Fun K "_law_serves" "_law_serves" sServes f fd) (T : Txt K mg) : FnOk P w K mg base CX0 1 f fd ["_law_index_here", "_law_question"] spServes := by
  refine F.ok scServes (fun vs H Q E h => ?_) (fun cdv A outer s H vs Q E hr h => ?_)
  · obtain ⟨t, q, ix, cols, e, rfl, _⟩ := h
    rfl
  · obtain ⟨t, q, ix, cols, e, rfl, ht, ⟨c, hq, hc⟩, hl, hxl, hxn, hxm, hcn, hcs, hcm, hem, k⟩ := h
    have nd := scServes.nd
    refine ⟨_, pss_cons (ps_set (i := 2) nd rfl (Or.inl rfl) (pe_callB call_len_seq (by rfl) T.len PySem.boot_len (pa_cons (pe_ix ix_tup (pv 1) pe_int fun _ _ => rfl) pa_nil)))
      (pss_cons (ps_if (pt_cmpR (op_neD hr.units) (pe_callB cr_sortedST (by rfl) T.sorted (by decide +kernel) (pa_cons (pe_slice sl_tupA (pv 0) po_none (po_some (pv 2))) pa_nil))
          (pe_callTy call_list_of (by rfl) T.list (by decide +kernel) (pa_cons (pe_ix ix_tup (pv 1) pe_int fun _ _ => rfl) pa_nil)) (nomark _)) (pss_one (ps_ret pe_bl)) pss_nil)
      (pss_one (ps_ret (pe_or (pe_cmpR op_eq (pe_ix ix_tup (pv 1) pe_int fun _ _ => rfl) pe_str (nomark _)) (pe_one (pe_cmpR (op_eqD hr.units) (pe_callTy call_list_of (by rfl) T.list (by decide +kernel) (pa_cons (pe_slice sl_tupA (pv 0) (po_some (pv 2)) (po_some (pe_op op_add (pv 2) pe_int))) pa_nil))
          (pe_lst (pa_cons (pe_ix ix_tup (pv 1) pe_int fun _ _ => rfl) pa_nil)) (nomark _))))))), ?_⟩
    have hlm : (cols.map V.str).length = cols.length := List.length_map _
    refine ⟨_, rfl, q, _, 0, _, rfl, rfl, SqT.of hq, rfl, _, _, rfl, .inr (SqT.of hc), _, rfl, _, rfl, _, rfl, ?_⟩
    rw [hlm]
    refine slA ht ((cut_to cols.length _).trans List.map_take.symm) fun r H1 s1 h1 => ?_
    refine ⟨r, ix.take cols.length, rfl, .inr (SqT.of h1), by rw [List.length_take]; omega, fun ws p hw hs hp => ?_⟩
    have s2 := s1.trans (same_new (o := .lst (ws.map V.str)) hp)
    refine ⟨_, rfl, q, _, 0, _, rfl, rfl, SqT.of (s2 _ _ hq), rfl, c, _, rfl, .inr (SqT.of (s2 _ _ hc)), fun p2 hp2 => ?_⟩
    have s3 := s2.trans (same_new (o := .lst (cols.map V.str)) hp2)
    have wm : ∀ c ∈ ws, PyData.strOk c = true := fun c hc => menu_ok _ (hxm _ ((List.take_sublist _ _).mem (hw.mem_iff.mp hc)))
    have cm : ∀ c ∈ cols, PyData.strOk c = true := fun c hc => menu_ok _ (hcm _ hc)
    refine ⟨.list (ws.map PyData.str), .list (cols.map PyData.str), .lst (SqL.of (same_new hp2 _ _ upd_same)) (dp_strs _), .lst (SqL.of upd_same) (dp_strs _), shaped_list wm, shaped_list cm, _, rfl, ?_⟩
    have fn := fault_none (last := e) hxn hcn hcs hw hs
    have kk := k _ s3
    show if (!PyData.eqv (.list (ws.map PyData.str)) (.list (cols.map PyData.str))) = true then _ else _
    rw [PyData.eqv, eqv_strs]
    by_cases hwc : ws = cols
    · rw [decide_eq_true hwc]
      refine iteF ?_
      refine ⟨_, rfl, q, _, 1, _, rfl, rfl, SqT.of (s3 _ _ hq), rfl, rfl, _, rfl, ?_⟩
      by_cases he : e = ""
      · rw [decide_eq_true (congrArg V.str he)]
        refine iteT ?_
        rw [decide_eq_true (fn.mpr ⟨hwc, .inl he⟩)] at kk
        exact kk
      · rw [decide_eq_false (fun h => he (by injection h))]
        refine iteF ?_
        refine ⟨_, rfl, _, rfl, _, rfl, _, rfl, _, _, rfl, rfl, _, rfl, ?_⟩
        refine slA (s3 _ _ ht) (cut_one cols.length ix) fun r2 H4' s4' h4' => ?_
        refine ⟨r2, _, rfl, .inr (SqT.of h4'), fun r4 hr4 => ?_⟩
        have s4 := s4'.trans (same_new (o := .lst (((ix.drop cols.length).take 1).map V.str)) hr4)
        have h4 : (upd H4' r4 (.lst (((ix.drop cols.length).take 1).map V.str))) r4 = some (.lst (((ix.drop cols.length).take 1).map V.str)) := upd_same
        have s5 := s3.trans s4
        refine ⟨_, rfl, q, _, 1, _, rfl, rfl, SqT.of (s5 _ _ hq), rfl, by show 1 ≤ sizeLine; decide, fun p5 hp5 => ?_⟩
        have em : e ∈ menu := hem.resolve_left he
        have lm : ∀ c ∈ (ix.drop cols.length).take 1, PyData.strOk c = true := fun c hc => menu_ok _ (hxm _ ((List.drop_sublist _ _).mem ((List.take_sublist _ _).mem hc)))
        refine ⟨.list (((ix.drop cols.length).take 1).map PyData.str), .list ([e].map PyData.str), .lst (SqL.of (same_new hp5 _ _ h4)) (dp_strs _), .lst (SqL.of upd_same) (dp_strs [e]), shaped_list lm,
          shaped_list (fun c hc => by rw [List.mem_singleton.mp hc]; exact menu_ok _ em), ?_⟩
        have kk2 := k _ (s5.trans (same_new (o := .lst [.str e]) hp5))
        rw [PyData.eqv, eqv_strs]
        have e3 : decide (fault ix cols e = none) = decide ((ix.drop cols.length).take 1 = [e]) := by
          apply decide_eq_decide.mpr
          rw [fn]
          constructor
          · rintro ⟨_, h⟩
            rcases h with h | h
            · exact absurd h he
            · exact take_one.mpr h
          · intro h
            exact ⟨hwc, .inr (take_one.mp h)⟩
        rw [e3] at kk2
        exact kk2
    · rw [decide_eq_false hwc]
      refine iteT ?_
      rw [decide_eq_false (fun h => hwc (fn.mp h).1)] at kk
      exact kk
def spFaultR : Sp := fun vs H Q _ => ∃ (t q : Addr) (ix cols : List Str) (e : Str), vs = [.ref t, .ref q] ∧ H t = some (.tup (ix.map V.str)) ∧ QAt H q cols e ∧ Row ix ∧ QZ cols e ∧ ∀ H', Same H H' → Q (optV (fault ix cols e)) H'
theorem scFaultH : FnScope ["_law_index_here", "_law_question", "_law_many", "_law_place"] ["_law_index_here", "_law_question"] (defScope sFaultHere) := ⟨rfl, rfl, rfl, by decide +kernel, rfl, by decide +kernel, by decide +kernel⟩
theorem ok_faulth {f : Addr} {fd : FuncData} (F : Fun K "_law_fault" "_law_fault" sFaultHere f fd) (T : Txt K mg) : FnOk P w K mg base CX0 1 f fd ["_law_index_here", "_law_question"] spFaultR := by
  refine F.ok scFaultH (fun vs H Q E h => ?_) (fun cdv A outer s H vs Q E hr h => ?_)
  · obtain ⟨t, q, ix, cols, e, rfl, _⟩ := h
    rfl
  · obtain ⟨t, q, ix, cols, e, rfl, ht, ⟨c, hq, hc⟩, RI, Z, k⟩ := h
    have nd := scFaultH.nd
    have hl := Z.m.le
    refine ⟨_, pss_cons (ps_set (i := 2) nd rfl (Or.inl rfl) (pe_callB call_len_seq (by rfl) T.len PySem.boot_len (pa_cons (pe_ix ix_tup (pv 1) pe_int fun _ _ => rfl) pa_nil)))
      (pss_cons (ps_for PassesOwn.never rfl (pi_range1 (by rfl) T.range (pa_cons (pv 2) pa_nil)) (pg_name (i := 3) nd rfl (Or.inl rfl))
        (pss_one (ps_if (PW.pt (pw_or (pt_cmpR op_ge (pv 3) (pe_callB call_len_seq (by rfl) T.len PySem.boot_len (pa_cons (pv 0) pa_nil)) (nomark _)) (pw_or1 (pt_cmpR op_notIn_seq (pe_ix ix_tup (pv 0) (pv 3) fun _ _ => rfl) (pe_ix ix_tup (pv 1) pe_int fun _ _ => rfl) (by rfl)))))
          (pss_one (ps_ret (pv 3))) pss_nil)))
      (pss_cons (ps_if (PW.pt (pw_and (pt_cmpR op_ne (pe_ix ix_tup (pv 1) pe_int fun _ _ => rfl) pe_str (nomark _)) (pw_and1 (pt_cmpR (op_neD hr.units) (pe_callTy call_list_of (by rfl) T.list (by decide +kernel) (pa_cons (pe_slice sl_tupA (pv 0) (po_some (pv 2)) (po_some (pe_op op_add (pv 2) pe_int))) pa_nil))
          (pe_lst (pa_cons (pe_ix ix_tup (pv 1) pe_int fun _ _ => rfl) pa_nil)) (nomark _)))))
        (pss_one (ps_ret (pv 2))) pss_nil)
      (pss_one (ps_ret pe_non)))), ?_⟩
    have hlm : (cols.map V.str).length = cols.length := List.length_map _
    have hlx : (ix.map V.str).length = ix.length := List.length_map _
    refine ⟨_, rfl, q, _, 0, _, rfl, rfl, SqT.of hq, rfl, _, _, rfl, .inr (SqT.of hc), _, rfl, _, rfl, by omega, by omega, ?_⟩
    rw [hlm]
    refine for_range (lo := 0) (n := cols.length) (fun i σ H' => H' = H ∧ (∃ v, σ = [some (.ref t), some (.ref q), some (.int (cols.length : Int)), v]) ∧ ∀ p, p < i → goodAt ix cols p)
      ⟨rfl, ⟨none, rfl⟩, fun p hp => absurd hp (Nat.not_lt_zero p)⟩ ?_ ?_
    · rintro i σ H' hi ⟨rfl, ⟨v, rfl⟩, hg⟩
      have e0 : (0 : Int) + (i : Int) = (i : Int) := Int.zero_add _
      rw [e0]
      refine ⟨_, rfl, _, rfl, _, _, rfl, .inr (SqT.of ht), _, _, rfl, rfl, _, rfl, ?_⟩
      rw [hlx]
      refine ite2 (fun h1 => ?_) (fun h1 => ?_)
      · refine ⟨_, rfl, ?_⟩
        have hle : ix.length ≤ i := by
          have := of_decide_eq_true h1
          omega
        have hb : ¬ goodAt ix cols i := fun ⟨c', h2, _⟩ => by rw [List.getElem?_eq_none hle] at h2; cases h2
        have := k H' (Same.refl _)
        rw [fault_at hi hg hb] at this
        exact this
      · have hlt : i < ix.length := by
          by_cases hh : i < ix.length
          · exact hh
          · exact absurd (decide_eq_true (by omega)) h1
        refine ⟨_, rfl, _, rfl, t, _, (i : Int), .str ix[i], rfl, rfl, SqT.of ht, atI_nat (by rw [List.getElem?_map, List.getElem?_eq_getElem hlt]; rfl), _, rfl, q, _, 0, _, rfl, rfl, SqT.of hq, rfl, c, _, rfl, .inr (SqT.of hc), rfl, flat_strs _, _, rfl, ?_⟩
        show if (!inV (.str ix[i]) (cols.map V.str)) = true then _ else _
        rw [inV_strs]
        by_cases hm : ix[i] ∈ cols
        · rw [decide_eq_true hm]
          refine iteF ?_
          refine ⟨rfl, ⟨_, rfl⟩, fun p hp => ?_⟩
          by_cases hpi : p = i
          · subst hpi
            exact ⟨ix[p], List.getElem?_eq_getElem hlt, hm⟩
          · exact hg p (by omega)
        · rw [decide_eq_false hm]
          refine iteT ?_
          refine ⟨_, rfl, ?_⟩
          have hb : ¬ goodAt ix cols i := fun ⟨c', h2, h3⟩ => by
            rw [List.getElem?_eq_getElem hlt] at h2
            cases h2
            exact hm h3
          have := k H' (Same.refl _)
          rw [fault_at hi hg hb] at this
          exact this
    · rintro σ H' ⟨rfl, ⟨v, rfl⟩, hg⟩
      have ef := fault_end (last := e) hg
      refine ⟨_, rfl, q, _, 1, _, rfl, rfl, SqT.of hq, rfl, rfl, _, rfl, ?_⟩
      show if (!decide (V.str e = V.str "")) = true then _ else _
      by_cases he : e = ""
      · rw [decide_eq_true (congrArg V.str he)]
        refine iteF ?_
        have kk := k H' (Same.refl _)
        rw [ef, if_neg (fun h => h.1 he)] at kk
        refine iteF ?_
        exact kk
      · rw [decide_eq_false (fun h => he (by injection h))]
        refine iteT ?_
        refine ⟨_, rfl, _, rfl, _, rfl, _, rfl, _, _, rfl, rfl, _, rfl, ?_⟩
        refine slA ht (cut_one cols.length ix) fun r2 H4 s4 h4 => ?_
        refine ⟨r2, _, rfl, .inr (SqT.of h4), fun r4 hr4 => ?_⟩
        have s5 := s4.trans (same_new (o := .lst (((ix.drop cols.length).take 1).map V.str)) hr4)
        refine ⟨_, rfl, q, _, 1, _, rfl, rfl, SqT.of (s5 _ _ hq), rfl, by show 1 ≤ sizeLine; decide, fun p5 hp5 => ?_⟩
        have em : e ∈ menu := Z.m.esub.resolve_left he
        have lm : ∀ c ∈ (ix.drop cols.length).take 1, PyData.strOk c = true := fun c hc => menu_ok _ (RI.sub _ ((List.drop_sublist _ _).mem ((List.take_sublist _ _).mem hc)))
        have s6 := s5.trans (same_new (o := .lst [.str e]) hp5)
        refine ⟨.list (((ix.drop cols.length).take 1).map PyData.str), .list ([e].map PyData.str), .lst (SqL.of (same_new hp5 _ _ upd_same)) (dp_strs _), .lst (SqL.of upd_same) (dp_strs [e]), shaped_list lm,
          shaped_list (fun c hc => by rw [List.mem_singleton.mp hc]; exact menu_ok _ em), _, rfl, ?_⟩
        show if (!PyData.eqv (.list (((ix.drop cols.length).take 1).map PyData.str)) (.list ([e].map PyData.str))) = true then _ else _
        rw [PyData.eqv, eqv_strs]
        by_cases h2 : ix[cols.length]? = some e
        · have kk := k _ s6
          rw [ef, if_neg (fun h => h.2 h2)] at kk
          rw [decide_eq_true (take_one.mpr h2)]
          refine iteF ?_
          exact kk
        · have kk := k _ s6
          rw [ef, if_pos ⟨he, h2⟩] at kk
          rw [decide_eq_false (fun h => h2 (take_one.mp h))]
          refine iteT ?_
          refine ⟨_, rfl, ?_⟩
          exact kk
theorem fam_some {q : Qd} (Z : QZ q.1 q.2) {rs : List (List Str)} (hR : ∀ r ∈ rs, Row r) : q ∈ famQ rs ↔ ∃ r ∈ rs, fault r q.1 q.2 = none := by
  unfold famQ
  rw [List.mem_flatMap]
  exact ⟨fun ⟨r, h1, h2⟩ => ⟨r, h1, (Z.in_row (hR r h1)).mp h2⟩, fun ⟨r, h1, h2⟩ => ⟨r, h1, (Z.in_row (hR r h1)).mpr h2⟩⟩
def spIsHere : Sp := fun vs H Q _ => ∃ (a t : Addr) (xs : List V) (rs : List (List Str)) (q : Qd), vs = [.ref a, .ref t] ∧ H a = some (.lst xs) ∧ TL H xs rs ∧ (∀ r ∈ rs, Row r) ∧ rs.length ≤ 48 ∧ QAt H t q.1 q.2 ∧ QZ q.1 q.2 ∧ ∀ H', Same H H' → Q (.bl (decide (q ∈ famQ rs))) H'
abbrev nHere : List Str := ["_law_rows", "_law_question", "_law_row"]
theorem scHere : FnScope nHere ["_law_rows", "_law_question"] (defScope sServedHere) := ⟨rfl, rfl, rfl, by decide +kernel, rfl, by decide +kernel, by decide +kernel⟩
theorem ok_ishere {f : Addr} {fd : FuncData} (F : Fun K "_law_is_served" "_law_is_served" sServedHere f fd) (T : Txt K mg) (cV : Cal P w K mg base 1 "_law_serves" ["_law_index_here", "_law_question"] spServes) : FnOk P w K mg base CX0 2 f fd ["_law_rows", "_law_question"] spIsHere := by
  refine F.ok scHere (fun vs H Q E h => ?_) (fun cdv A outer s H vs Q E hr h => ?_)
  · obtain ⟨a, t, xs, rs, q, rfl, _⟩ := h
    rfl
  · obtain ⟨a, t, xs, rs, q, rfl, ha, hT, hR, l48, hq, Z, k⟩ := h
    have nd := scHere.nd
    have le := hT.len
    have hu64 : A.units + 3 + 64 < cLine := by
      have := hr.un
      have e : (A.deeper (envOfC "_law_is_served" (defScope sServedHere) s.heap.objs.size f cdv)).units = A.units + 3 := rfl
      omega
    refine ⟨_, pss_one (ps_ret (pe_cmpR (op_neNil hu64) (pe_lc (own := [("_law_row", 2)]) (g := gName 2) rfl nd (pi_list (pv 0)) (blkOk_by (N := nHere) (sc := defScope sServedHere) (by decide +kernel))
      (fun _ _ _ _ _ => pg_name (i := 2) nd rfl (by first | exact Or.inl rfl | exact Or.inr rfl)) (fun _ _ _ _ _ => pts_one (pt_val (pe_call cV.G hr rfl cV.m cV.kp cV.b .nil pass0 (pa_cons (pv 2) (pa_cons (pv 1) pa_nil))))) (fun _ _ _ _ _ => pv 2)) (pe_lst pa_nil) (nomark _))), ?_⟩
    refine ⟨_, rfl, a, rfl, ⟨_, SqL.of ha⟩, fun D hD => ?_⟩
    refine lc_list (K := K) (a := a) (xs := xs) (fun i H' => ∃ us : List V, Same H H' ∧ H' D = some (.lst us) ∧ us.length ≤ i ∧ (us = [] ↔ ∀ r ∈ rs.take i, fault r q.1 q.2 ≠ none)) ⟨[], same_new hD, upd_same, Nat.le_refl _, by simp⟩ (fun i H' _ ⟨_, s, _⟩ => SqL.of (s _ _ ha)) ?_ ?_
    · rintro i x H1 hx ⟨us, s1, hUl, ul, ue⟩
      have hil : i < xs.length := (List.getElem?_eq_some_iff.mp hx).1
      obtain ⟨t0, r, rfl, hri, hrt⟩ := (hT.same s1).at_ hx
      have R := hR r (List.mem_of_getElem? hri)
      have et : rs.take (i + 1) = rs.take i ++ [r] := by rw [List.take_add_one, hri]; rfl
      refine ⟨rfl, Exists.intro _ ⟨rfl, Exists.intro _ ⟨rfl, t0, t, r, q.1, q.2, rfl, hrt, hq.same s1, Z.m.le, R.le, R.nd, R.sub, Z.m.nd, Z.m.srt, Z.m.sub, Z.m.esub, fun H2 s2 => ⟨_, rfl, ?_⟩⟩⟩⟩
      have s12 := s1.trans s2
      rw [et]
      by_cases hf : fault r q.1 q.2 = none
      · rw [decide_eq_true hf]
        refine iteT ?_
        refine ⟨_, rfl, us, s2 _ _ hUl, small1000 (by omega), us ++ [.ref t0], fun b' o' hb2 => ?_, upd_same, by rw [List.length_append]; simp; omega, ?_⟩
        · rw [upd_ne (ne_of_none hb2 hD)]
          exact s12 _ _ hb2
        · constructor
          · intro e
            simp at e
          · intro h
            exact (h r (List.mem_append_right _ List.mem_cons_self) hf).elim
      · rw [decide_eq_false hf]
        refine iteF ?_
        refine ⟨us, s12, s2 _ _ hUl, by omega, ue.trans ⟨fun h r' hr' => ?_, fun h r' hr' => h r' (List.mem_append_left _ hr')⟩⟩
        rcases List.mem_append.mp hr' with h1 | h1
        · exact h r' h1
        · rw [List.mem_singleton.mp h1]
          exact hf
    · rintro H1 ⟨us, s1, hUl, ul, ue⟩
      rw [le, List.take_of_length_le (Nat.le_refl _)] at ue
      refine ⟨by decide, fun p hp => ?_⟩
      have sp := same_new (o := .lst []) hp
      refine ⟨D, p, us, rfl, rfl, SqL.of (sp _ _ hUl), SqL.of upd_same, ?_⟩
      have e : (!decide (us = [])) = decide (q ∈ famQ rs) := by
        by_cases h : us = []
        · rw [decide_eq_true h, decide_eq_false (fun g => by
            obtain ⟨r, h1, h2⟩ := (fam_some Z hR).mp g
            exact ue.mp h r h1 h2)]
          rfl
        · rw [decide_eq_false h]
          symm
          refine decide_eq_true (Classical.byContradiction fun g => h (ue.mpr fun r h1 h2 => g ((fam_some Z hR).mpr ⟨r, h1, h2⟩)))
      rw [e]
      exact k _ (s1.trans sp)
theorem numsT_pre (rs : List (List Str)) (q : Qd) {k n : Nat} (h : k ≤ n) : ∃ l, numsT rs q n = numsT rs q k ++ l := by
  induction n with
  | zero => exact ⟨[], by rw [Nat.le_zero.mp h]; simp⟩
  | succ n ih =>
    by_cases e : k = n + 1
    · exact ⟨[], by rw [e]; simp⟩
    · obtain ⟨l, hl⟩ := ih (by omega)
      exact ⟨l ++ if srvAt rs q n = true then [n] else [], by rw [numsT_step, hl, List.append_assoc]⟩
def spFirst : Sp := fun vs H Q _ => ∃ (a t : Addr) (xs : List V) (rs : List (List Str)) (q : Qd), vs = [.ref a, .ref t] ∧ H a = some (.lst xs) ∧ TL H xs rs ∧ (∀ r ∈ rs, Row r) ∧ rs.length ≤ 48 ∧ QAt H t q.1 q.2 ∧ QZ q.1 q.2 ∧ ∀ H', Same H H' → Q (optV (firstN rs q)) H'
theorem scFirst : FnScope ["_law_rows", "_law_question", "_law_number"] ["_law_rows", "_law_question"] (defScope sFirst) := ⟨rfl, rfl, rfl, by decide +kernel, rfl, by decide +kernel, by decide +kernel⟩
theorem ok_first {f : Addr} {fd : FuncData} (F : Fun K "_law_first" "_law_first" sFirst f fd) (T : Txt K mg) (cV : Cal P w K mg base 1 "_law_serves" ["_law_index_here", "_law_question"] spServes) : FnOk P w K mg base CX0 2 f fd ["_law_rows", "_law_question"] spFirst := by
  refine F.ok scFirst (fun vs H Q E h => ?_) (fun cdv A outer s H vs Q E hr h => ?_)
  · obtain ⟨a, t, xs, rs, q, rfl, _⟩ := h
    rfl
  · obtain ⟨a, t, xs, rs, q, rfl, ha, hT, hR, l48, hq, Z, k⟩ := h
    have nd := scFirst.nd
    have le := hT.len
    refine ⟨_, pss_cons (ps_for PassesOwn.never rfl (pi_range1 (by rfl) T.range (pa_cons (pe_callB call_len_seq (by rfl) T.len PySem.boot_len (pa_cons (pv 0) pa_nil)) pa_nil)) (pg_name (i := 2) nd rfl (Or.inl rfl))
        (pss_one (ps_if (pt_val (pe_call cV.G hr rfl cV.m cV.kp cV.b .nil pass0 (pa_cons (pe_ix ix_list (pv 0) (pv 2) fun _ _ => rfl) (pa_cons (pv 1) pa_nil)))) (pss_one (ps_ret (pv 2))) pss_nil)))
      (pss_one (ps_ret pe_non)), ?_⟩
    refine ⟨_, rfl, _, _, rfl, .inl (SqL.of ha), rs.length, by rw [le], by omega, by omega, ?_⟩
    refine for_range (lo := 0) (n := rs.length) (fun i σ H' => Same H H' ∧ (∃ v, σ = [some (.ref a), some (.ref t), v]) ∧ numsT rs q i = []) ⟨Same.refl _, ⟨none, rfl⟩, rfl⟩ ?_ ?_
    · rintro i σ H1 hi ⟨s1, ⟨v, rfl⟩, hn⟩
      obtain ⟨x, hx⟩ : ∃ x, xs[i]? = some x := ⟨xs[i], List.getElem?_eq_getElem (by omega)⟩
      obtain ⟨t0, r, rfl, hri, hrt⟩ := (hT.same s1).at_ hx
      have R := hR r (List.mem_of_getElem? hri)
      have es : srvAt rs q i = decide (fault r q.1 q.2 = none) := by unfold srvAt; rw [hri]
      rw [show (0 : Int) + (i : Int) = (i : Int) from Int.zero_add _]
      refine ⟨_, rfl, _, rfl, rIx i (s1 _ _ ha) hx ?_⟩
      refine ⟨_, rfl, t0, t, r, q.1, q.2, rfl, hrt, hq.same s1, Z.m.le, R.le, R.nd, R.sub, Z.m.nd, Z.m.srt, Z.m.sub, Z.m.esub, fun H2 s2 => ⟨_, rfl, ?_⟩⟩
      by_cases hf : fault r q.1 q.2 = none
      · rw [decide_eq_true hf]
        refine iteT ?_
        have e : firstN rs q = some i := by
          obtain ⟨l, hl⟩ := numsT_pre rs q (show i + 1 ≤ rs.length from hi)
          unfold firstN nums
          rw [hl, numsT_step, hn, es, decide_eq_true hf]
          rfl
        have kk := k H2 (s1.trans s2)
        rw [e] at kk
        exact ⟨_, rfl, kk⟩
      · rw [decide_eq_false hf]
        refine iteF ?_
        refine ⟨s1.trans s2, ⟨_, rfl⟩, ?_⟩
        rw [numsT_step, hn, es, decide_eq_false hf]
        rfl
    · rintro σ H1 ⟨s1, ⟨v, rfl⟩, hn⟩
      have e : firstN rs q = none := by unfold firstN nums; rw [hn]; rfl
      have kk := k H1 s1
      rw [e] at kk
      exact kk
def spTruth : Sp := fun vs H Q _ => ∃ b : Bool, vs = [.bl b, .bl b] ∧ Q (.bl true) H
theorem scTruth : FnScope ["_law_told", "_law_due"] ["_law_told", "_law_due"] (defScope sTruth) := ⟨rfl, rfl, rfl, by decide +kernel, rfl, by decide +kernel, by decide +kernel⟩
theorem ok_truth {f : Addr} {fd : FuncData} (F : Fun K "_law_truth" "_law_truth" sTruth f fd) (T : Txt K mg) : FnOk P w K mg base CX0 1 f fd ["_law_told", "_law_due"] spTruth := by
  refine F.ok scTruth (fun vs H Q E h => ?_) (fun cdv A outer s H vs Q E hr h => ?_)
  · obtain ⟨b, rfl, _⟩ := h
    rfl
  · obtain ⟨b, rfl, k⟩ := h
    refine ⟨_, pss_one (ps_ret (pe_and (pe_or (pe_cmpR op_isBl (pv 0) pe_bl (nomark _)) (pe_one (pe_cmpR op_isBl (pv 0) pe_bl (nomark _)))) (pe_one (pe_cmpR op_eq (pv 0) (pv 1) (nomark _))))), ?_⟩
    cases b with
    | true =>
      refine ⟨_, rfl, true, true, rfl, rfl, ?_⟩
      refine ⟨true, rfl, ?_⟩
      refine iteT ?_
      refine ⟨_, rfl, ?_⟩
      refine iteT ?_
      refine ⟨_, rfl, _, rfl, rfl, ?_⟩
      show Q (.bl (decide (V.bl true = V.bl true))) H
      rw [decide_eq_true rfl]
      exact k
    | false =>
      refine ⟨_, rfl, false, true, rfl, rfl, ?_⟩
      refine ⟨false, rfl, ?_⟩
      refine iteF ?_
      refine ⟨_, rfl, false, false, rfl, rfl, ?_⟩
      refine ⟨true, rfl, ?_⟩
      refine iteT ?_
      refine ⟨_, rfl, _, rfl, rfl, ?_⟩
      show Q (.bl (decide (V.bl false = V.bl false))) H
      rw [decide_eq_true rfl]
      exact k
structure CalX (P : Program) (w : World) (K : PySem.W.Frag) (mg : Str → Option Value) (base : Heap) (k : Nat) (x : Str) (ps : List Str) (sp : Sp) where
  f : Addr
  fd : FuncData
  G : FnOk P w K mg base (L2.CX P w) k f fd ps sp
  m : mg x = some (.ref f)
  kp : PySem.W.keepIn K (.ref f) = true
  b : Binds K fd ps []
def spPlaced (C : Addr) : Sp := fun vs H Q _ => ∃ (a t : Addr) (rs : List (List Str)) (q : Qd), vs = [.ref a, .ref t] ∧ ShV H C a rs ∧ (∀ r ∈ rs, Row r) ∧ rs.length ≤ 48 ∧ QAt H t q.1 q.2 ∧ QZ q.1 q.2 ∧
  (∀ (H' : Hp) (p : Addr) (n : Nat), Same H H' → firstN rs q = some n → H' p = some (.tup [.str "told", vN n]) → Q (.ref p) H') ∧
  (∀ (H' : Hp) (p : Addr), Same H H' → firstN rs q = none → H' p = some (.tup [.str "none", .ref t]) → Q (.ref p) H')
theorem scPlaced : FnScope ["_law_shelf", "_law_question", "_law_found", "e"] ["_law_shelf", "_law_question"] (defScope sPlaced) := ⟨rfl, rfl, rfl, by decide +kernel, rfl, by decide +kernel, by decide +kernel⟩
theorem ok_placed {f C CU CK CN : Addr} {fd : FuncData} (F : Fun K "_law_placed" "_law_placed" sPlaced f fd) (T : Txt K mg) (TE : TxE K mg CU CK CN) (cP : CalX P w K mg base 5 "place_of" ["shelf", "question"] (spPlaceOf C CU)) : FnOk P w K mg base CX0 6 f fd ["_law_shelf", "_law_question"] (spPlaced C) := by
  refine F.ok scPlaced (fun vs H Q E h => ?_) (fun cdv A outer s H vs Q E hr h => ?_)
  · obtain ⟨a, t, rs, q, rfl, _⟩ := h
    rfl
  · obtain ⟨a, t, rs, q, rfl, hS, hR, l48, hq, Z, k1, k2⟩ := h
    have nd := scPlaced.nd
    refine ⟨_, pss_one (ps_try_asE (i := 3) (c := .ref CK) (tb := fun W => tAsg (tCallS (spPlaceOf C CU) (WE W) (tCons (tVar 0) (tCons (tVar 1) tNil))) (gName 2))
      (pss_one (ps_ret (pe_tup (pa_cons pe_str (pa_cons (pv 2) pa_nil))))) rfl rfl nd rfl rfl ⟨rfl, by decide, .inl TE.mke⟩
      (fun W pn xe tk _ => pss_one (ps_set (i := 2) nd rfl (Or.inl rfl) (pe_callS cP.G hr rfl cP.m cP.kp cP.b (fun σ => passAt tk σ) (pa_cons (pv 0) (pa_cons (pv 1) pa_nil)))))
      (fun a oe cls d pn hz hf => pss_one (ps_ret (pe_ifExp (PW.pt (pw_and (pt_val (pe_callB (r := rIsXf K a cls d) (call_isXf hz hf) (by rfl) T.isinstance (by decide +kernel) (pa_cons (pv 3) (pa_cons (pe_glob (v := .ref CU) rfl TE.m rfl) pa_nil))))
          (pw_and1 (pt_not (pt_val (pe_callB (r := rIsXf K a cls d) (call_isXf hz hf) (by rfl) T.isinstance (by decide +kernel) (pa_cons (pv 3) (pa_cons (pe_glob (v := .ref CN) rfl TE.mno rfl) pa_nil))))))))
        (pe_tup (pa_cons pe_str (pa_cons (pe_xf TE.er.x TE.no hz hf (pv 3)) pa_nil))) (pe_tup (pa_cons pe_str (pa_cons pe_int pa_nil))))))), ?_⟩
    refine ⟨_, rfl, _, rfl, a, t, rs, q, rfl, hS, hR, l48, hq, Z, fun H1 n s1 hf => ?_, fun H1 d s1 hf hd => ?_⟩
    · refine ⟨_, rfl, by show 2 ≤ sizeLine; decide, fun p hp => k1 _ p n (s1.trans (same_new hp)) hf upd_same⟩
    · refine ⟨TE.te, fun e he => ?_⟩
      have s2 := same_new (o := .xd [("question", .ref t)]) hd
      refine ⟨_, rfl, CU, d, _, .ref CU, .ref CU, true, rfl, rfl, rfl, .own CU, upd_same, TE.er, kit_self, _, rfl, ?_⟩
      refine iteT ?_
      refine ⟨_, rfl, CU, d, _, .ref CN, .ref CN, false, rfl, rfl, rfl, .own CN, upd_same, TE.er, TE.tn, _, rfl, ?_⟩
      refine iteT ?_
      refine ⟨_, rfl, rfl, rfl, d, _, .ref t, rfl, upd_same, rfl, by show 2 ≤ sizeLine; decide, fun p hp => ?_⟩
      exact k2 _ p (s1.trans (s2.trans (same_new hp))) hf upd_same
theorem first_none {q : Qd} (Z : QZ q.1 q.2) {rs : List (List Str)} (hR : ∀ r ∈ rs, Row r) : firstN rs q = none ↔ q ∉ famQ rs := by
  rw [fam_some Z hR]
  unfold firstN
  rw [List.head?_eq_none_iff]
  unfold nums numsT
  rw [List.filter_eq_nil_iff]
  constructor
  · rintro h ⟨r, h1, h2⟩
    obtain ⟨i, hi⟩ := List.mem_iff_getElem?.mp h1
    have il : i < rs.length := (List.getElem?_eq_some_iff.mp hi).1
    refine h i (List.mem_range.mpr il) ?_
    unfold srvAt
    rw [hi]
    exact decide_eq_true h2
  · intro h i hi e
    unfold srvAt at e
    cases hr : rs[i]? with
    | none => rw [hr] at e; cases e
    | some r =>
      rw [hr] at e
      exact h ⟨r, List.mem_of_getElem? hr, of_decide_eq_true e⟩
theorem first_lt {rs : List (List Str)} {q : Qd} {n : Nat} (h : firstN rs q = some n) : n < rs.length := nums_lt (List.mem_of_head? h)
def dT (o : Option Nat) (q : Qd) : PyData := match o with
  | none => .tuple [.str "none", dq q]
  | some n => .tuple [.str "told", dN n]
theorem dok_T {o : Option Nat} {q : Qd} (h : ∀ n, o = some n → n ≤ 1000) (hq : Qfine q) : DOk (dT o q) := by
  cases o with
  | none =>
    refine ⟨?_, ?_, ?_⟩
    · show (fine (.str "none") && (fine (dq q) && true)) = true
      rw [fine_q hq]
      decide +kernel
    · show max (PyData.depth (.str "none")) (max (PyData.depth (dq q)) 0) + 1 ≤ 50
      rw [depth_q]
      decide
    · show cost (.str "none") + 2 + (cost (dq q) + 2 + 0) + 3 ≤ 1000000
      have := cost_q hq
      show 210 + 2 + (cost (dq q) + 2 + 0) + 3 ≤ 1000000
      omega
  | some n =>
    refine ⟨?_, ?_, ?_⟩
    · show (fine (.str "told") && (fine (dN n) && true)) = true
      rw [show fine (dN n) = true from fine_int (small60 (h n rfl))]
      decide +kernel
    · show max (PyData.depth (.str "told")) (max (PyData.depth (dN n)) 0) + 1 ≤ 50
      show max 0 (max 0 0) + 1 ≤ 50
      decide
    · show 210 + 2 + (64 + 2 + 0) + 3 ≤ 1000000
      decide
def spSingle (C : Addr) : Sp := fun vs H Q _ => ∃ (a r t : Addr) (xs : List V) (rs : List (List Str)) (q : Qd), vs = [.ref a, .ref r, .ref t] ∧ ShV H C a rs ∧ H r = some (.lst xs) ∧ TL H xs rs ∧ (∀ r ∈ rs, Row r) ∧ rs.length ≤ 48 ∧ QAt H t q.1 q.2 ∧ QZ q.1 q.2 ∧ ∀ H', Same H H' → Q (.bl true) H'
abbrev nSingle : List Str := ["_law_shelf", "_law_rows", "_law_question", "_law_number", "_law_due", "_law_again", "_law_found", "_law_row"]
theorem scSingle : FnScope nSingle ["_law_shelf", "_law_rows", "_law_question"] (defScope sSingle) := ⟨rfl, rfl, rfl, by decide +kernel, rfl, by decide +kernel, by decide +kernel⟩
theorem ok_single {f C : Addr} {fd : FuncData} (F : Fun K "_law_single_right" "_law_single_right" sSingle f fd) (T : Txt K mg)
    (cF : Cal P w K mg base 2 "_law_first" ["_law_rows", "_law_question"] spFirst) (cT : Cal P w K mg base 1 "_law_truth" ["_law_told", "_law_due"] spTruth) (cI : Cal P w K mg base 2 "is_served" ["shelf", "question"] (spIsServed C))
    (cA : CalG P w K mg base 1 "_law_alike" ["_law_found", "_law_due"] (spAlikeD K)) (cP : Cal P w K mg base 6 "_law_placed" ["_law_shelf", "_law_question"] (spPlaced C)) (cS : Cal P w K mg base 2 "faults" ["shelf", "question"] (spFaults C))
    (cH : Cal P w K mg base 1 "_law_fault" ["_law_index_here", "_law_question"] spFaultR) : FnG P w K mg base 7 f fd ["_law_shelf", "_law_rows", "_law_question"] (spSingle C) := by
  refine okG F scSingle (fun vs H Q E h => ?_) (fun cdv A outer s H vs Q E hr hg h => ?_)
  · obtain ⟨a, r, t, xs, rs, q, rfl, _⟩ := h
    rfl
  · obtain ⟨a, r, t, xs, rs, q, rfl, hS, ha, hT, hR, l48, hq, Z, k⟩ := h
    have nd := scSingle.nd
    have le := hT.len
    have hr1 : Room 1 _ := hr.mono (by decide)
    have hr2 : Room 2 _ := hr.mono (by decide)
    refine ⟨_, pss_cons (ps_set (i := 3) nd rfl (Or.inl rfl) (pe_call cF.G hr2 rfl cF.m cF.kp cF.b .nil pass0 (pa_cons (pv 1) (pa_cons (pv 2) pa_nil))))
      (Evl.pss_cut (ps_set (i := 4) nd rfl (Or.inl rfl) (pe_ifExp (pt_cmp (pc_isN (pv 3))) (pe_tup (pa_cons pe_str (pa_cons (pv 2) pa_nil))) (pe_tup (pa_cons pe_str (pa_cons (pv 3) pa_nil)))))
      (pss_cons (ps_if (pt_not (pt_val (pe_call cT.G hr1 rfl cT.m cT.kp cT.b .nil pass0 (pa_cons (pe_call cI.G hr2 rfl cI.m cI.kp cI.b .nil pass0 (pa_cons (pv 0) (pa_cons (pv 2) pa_nil))) (pa_cons (pe_cmp (pc_notN (pv 3))) pa_nil))))) (pss_one (ps_ret pe_bl)) pss_nil)
      (Evl.pss_cut (ps_if (pt_not (pt_val (pe_callg cA.G hr1 hg rfl cA.m cA.kp cA.b (pa_cons (pe_call cP.G hr rfl cP.m cP.kp cP.b .nil pass0 (pa_cons (pv 0) (pa_cons (pv 2) pa_nil))) (pa_cons (pv 4) pa_nil))))) (pss_one (ps_ret pe_bl)) pss_nil)
      (pss_cons (ps_for PassesOwn.never rfl (pi_range1 (by rfl) T.range (pa_cons pe_int pa_nil)) (pg_name (i := 5) nd rfl (Or.inl rfl))
        (pss_cons (ps_set (i := 6) nd rfl (Or.inl rfl) (pe_call cS.G hr2 rfl cS.m cS.kp cS.b .nil pass0 (pa_cons (pv 0) (pa_cons (pv 2) pa_nil))))
        (pss_cons (ps_if (pt_not (pt_val (pe_callg cA.G hr1 hg rfl cA.m cA.kp cA.b (pa_cons (pv 6) (pa_cons (pe_lc (own := [("_law_row", 7)]) (g := gName 7) (tt := tYes) rfl nd (pi_list (pv 1)) (blkOk_by (N := nSingle) (sc := defScope sSingle) (by decide +kernel))
            (fun _ _ _ _ _ => pg_name (i := 7) nd rfl (by first | exact Or.inl rfl | exact Or.inr rfl)) (fun _ _ _ _ _ => pts_nil) (fun _ _ _ _ _ => pe_call cH.G hr1 rfl cH.m cH.kp cH.b .nil pass0 (pa_cons (pv 7) (pa_cons (pv 2) pa_nil)))) pa_nil))))) (pss_one (ps_ret pe_bl)) pss_nil)
        (pss_one (ps_expr (pe_bm PySem.F.plainAttrs_list PySem.F.slot_list_append PySem.F.type_list_append mt_append (pv 6) (pa_cons pe_int pa_nil)))))))
      (pss_one (ps_ret pe_bl)))))), ?_⟩
    refine ⟨_, rfl, _, rfl, r, t, xs, rs, q, rfl, ha, hT, hR, l48, hq, Z, fun H1 s1 => ?_⟩
    -- what is due
    have hq1 := hq.same s1
    refine ⟨fun σ' H' => ∃ p : Addr, σ' = [some (.ref a), some (.ref r), some (.ref t), some (optV (firstN rs q)), some (.ref p), none, none, none] ∧ Same H1 H' ∧ Dp K H' (.ref p) (dT (firstN rs q) q), ?_, ?_⟩
    · refine ⟨_, rfl, ?_⟩
      cases hf : firstN rs q with
      | none =>
        refine ⟨_, rfl, ?_⟩
        refine iteT ?_
        refine ⟨_, rfl, by show 2 ≤ sizeLine; decide, fun p hp => ?_⟩
        have s2 := same_new (o := .tup [.str "none", .ref t]) hp
        exact ⟨p, rfl, s2, .tup (SqT.of upd_same) (.cons (.str _) (.cons (dp_q (hq1.same s2)) .nil))⟩
      | some n =>
        refine ⟨_, rfl, ?_⟩
        refine iteF ?_
        refine ⟨_, rfl, by show 2 ≤ sizeLine; decide, fun p hp => ?_⟩
        have s2 := same_new (o := .tup [.str "told", vN n]) hp
        exact ⟨p, rfl, s2, .tup (SqT.of upd_same) (.cons (.str _) (.cons (.int _) .nil))⟩
    rintro σ H2 ⟨p, rfl, s2, hd⟩
    have s12 := s1.trans s2
    have hfl : ∀ n, firstN rs q = some n → n ≤ 1000 := fun n hn => by
      have := first_lt hn
      omega
    obtain ⟨l0, xs0, hI0, hT0⟩ := id (hS.same s12)
    refine ⟨_, rfl, _, rfl, a, l0, t, xs0, rs, q, rfl, hI0, hT0, hR, hq.same s12, Z, fun H3 s3 => ?_⟩
    have eb : decide (q ∈ famQ rs) = !decide (optV (firstN rs q) = V.non) := by
      cases hf : firstN rs q with
      | none => rw [decide_eq_false ((first_none Z hR).mp hf)]; rfl
      | some n =>
        rw [decide_eq_true (Classical.byContradiction fun g => by rw [(first_none Z hR).mpr g] at hf; cases hf)]
        rfl
    refine ⟨_, rfl, decide (q ∈ famQ rs), by rw [← eb]; rfl, ⟨_, rfl, ?_⟩⟩
    refine iteF ?_
    have s13 := s12.trans s3
    refine ⟨fun σ' H' => σ' = [some (.ref a), some (.ref r), some (.ref t), some (optV (firstN rs q)), some (.ref p), none, none, none] ∧ Same H3 H', ?_, ?_⟩
    · refine ⟨_, rfl, _, rfl, a, t, rs, q, rfl, hS.same s13, hR, l48, hq.same s13, Z, fun H4 p4 n s4 hf hp4 => ?_, fun H4 p4 s4 hf hp4 => ?_⟩
      · refine ⟨_, rfl, .ref p4, .ref p, dT (firstN rs q) q, rfl, by rw [hf]; exact .tup (SqT.of hp4) (.cons (.str _) (.cons (.int _) .nil)), Dp.same (s3.trans s4) _ _ hd, dok_T hfl Z.fine, ⟨_, rfl, ?_⟩⟩
        refine iteF ?_
        exact ⟨rfl, s4⟩
      · refine ⟨_, rfl, .ref p4, .ref p, dT (firstN rs q) q, rfl, by rw [hf]; exact .tup (SqT.of hp4) (.cons (.str _) (.cons (dp_q (hq.same (s13.trans s4))) .nil)), Dp.same (s3.trans s4) _ _ hd, dok_T hfl Z.fine, ⟨_, rfl, ?_⟩⟩
        refine iteF ?_
        exact ⟨rfl, s4⟩
    rintro σ H4 ⟨rfl, s4⟩
    have s14 := s13.trans s4
    refine ⟨2, rfl, by decide, by decide, ?_⟩
    refine for_range (lo := 0) (n := 2) (fun i σ H' => Same H4 H' ∧ ∃ v5 v6 v7, σ = [some (.ref a), some (.ref r), some (.ref t), some (optV (firstN rs q)), some (.ref p), v5, v6, v7]) ⟨Same.refl _, _, _, _, rfl⟩ ?_ ?_
    · rintro i σ H5 hi ⟨s5, v5, v6, v7, rfl⟩
      have s15 := s14.trans s5
      refine ⟨_, rfl, _, rfl, a, t, rs, q, rfl, hS.same s15, hR, l48, hq.same s15, Z, fun H6 p6 s6 hn6 hp6 => ?_⟩
      have s16 := s15.trans s6
      have ha6 := s16 _ _ ha
      have hT6 := hT.same s16
      refine ⟨_, rfl, _, rfl, r, rfl, ⟨_, SqL.of ha6⟩, fun D hD => ?_⟩
      refine lc_list (K := K) (a := r) (xs := xs) (fun j H' => Same H6 H' ∧ H' D = some (.lst ((rs.take j).map fun z => optV (fault z q.1 q.2)))) ⟨same_new hD, upd_same⟩ (fun j H' _ h => SqL.of (h.1 _ _ ha6)) ?_ ?_
      · rintro j x H7 hx ⟨s7, hDl⟩
        have hil : j < xs.length := (List.getElem?_eq_some_iff.mp hx).1
        obtain ⟨t0, z, rfl, hri, hrt⟩ := (hT6.same s7).at_ hx
        have et : rs.take (j + 1) = rs.take j ++ [z] := by rw [List.take_add_one, hri]; rfl
        refine ⟨rfl, Exists.intro _ ⟨rfl, Exists.intro _ ⟨rfl, t0, t, z, q.1, q.2, rfl, hrt, hq.same (s16.trans s7), hR z (List.mem_of_getElem? hri), Z, fun H8 s8 => ⟨_, s8 _ _ hDl, small1000 (by simp; omega), fun b o hb2 => ?_, ?_⟩⟩⟩⟩
        · rw [upd_ne (ne_of_none hb2 hD)]
          exact s8 _ _ (s7 _ _ hb2)
        · rw [upd_same, et, List.map_append]
          rfl
      · rintro H7 ⟨s7, hDl⟩
        rw [le, List.take_of_length_le (Nat.le_refl _)] at hDl
        have em : ∀ zs : List (List Str), (zs.map fun z => optV (fault z q.1 q.2)) = (zs.map fun z => fault z q.1 q.2).map optV := fun zs => by rw [List.map_map]; rfl
        rw [em] at hDl hp6
        have bd : ∀ o ∈ (rs.map fun z => fault z q.1 q.2), ∀ n, o = some n → n ≤ 1000 := fun o ho n hn => by
          obtain ⟨z, hz, rfl⟩ := List.mem_map.mp ho
          have := Nat.le_trans (fault_le hn) Z.m.le
          omega
        refine ⟨.ref p6, .ref D, .list ((rs.map fun z => fault z q.1 q.2).map dO), rfl, .lst (SqL.of (s7 _ _ hp6)) (dp_os _), .lst (SqL.of hDl) (dp_os _), dok_os bd (by rw [List.length_map]; omega), ⟨_, rfl, ?_⟩⟩
        refine iteF ?_
        refine ⟨_, rfl, .inl ⟨rfl, _, SqL.of (s7 _ _ hp6)⟩, _, _, _, rfl, rfl, s7 _ _ hp6, small1000 (by rw [List.length_map, List.length_map]; omega), ?_⟩
        refine ⟨fun b o hb => ?_, _, _, _, rfl⟩
        rw [upd_ne (ne_of_none (s5 _ _ hb) hn6)]
        exact s7 _ _ (s6 _ _ (s5 _ _ hb))
    · rintro σ H5 ⟨s5, v5, v6, v7, rfl⟩
      exact k H5 (s14.trans s5)
theorem rangedOf_take {ns p : List Str} {j : Nat} {c : Str} (h : ns[j]? = some c) : rangedOf (ns.take (j + 1)) p = rangedOf (ns.take j) p ++ (if c ∈ p then [] else [(p, c)]) := by
  have et : ns.take (j + 1) = ns.take j ++ [c] := by rw [List.take_add_one, h]; rfl
  unfold rangedOf left
  rw [et, List.filter_append, List.map_append]
  by_cases hm : c ∈ p
  · rw [if_pos hm]
    simp [hm]
  · rw [if_neg hm]
    simp [hm]
theorem parts_le {ns : List Str} {i : Nat} (h : ns.length ≤ 5) : (partsOf (ns.take i)).length ≤ 32 := by
  rw [parts_len]
  have : (ns.take i).length ≤ 5 := by rw [List.length_take]; omega
  exact Nat.pow_le_pow_right (n := 2) (by decide) this
structure Asc (ns : List Str) : Prop where
  nd : ns.Nodup
  srt : sortedS ns = true
  sub : ∀ c ∈ ns, c ∈ menu
  le : ns.length ≤ 5
theorem Asc.qm {ns p : List Str} (A : Asc ns) (h : p.Sublist ns) : p.Nodup ∧ sortedS p = true ∧ (∀ c ∈ p, c ∈ menu) ∧ p.length ≤ 5 :=
  ⟨A.nd.sublist h, pw_sortedS ((sortedS_pw A.srt).sublist h), fun c hc => A.sub c (h.subset hc), Nat.le_trans h.length_le A.le⟩
theorem Asc.plain {ns p : List Str} (A : Asc ns) (h : p.Sublist ns) (ne : p ≠ []) : QZ p "" := by
  obtain ⟨h1, h2, h3, h4⟩ := A.qm h
  exact ⟨⟨h1, h2, h3, .inl rfl, by omega, fun _ => ne⟩, fun hc => menu_ne _ (h3 _ hc) rfl, by rw [if_pos rfl]; omega⟩
theorem Asc.ranged {ns p : List Str} {c : Str} (A : Asc ns) (h : p.Sublist ns) (hc : c ∈ ns) (hn : c ∉ p) : QZ p c := by
  obtain ⟨h1, h2, h3, h4⟩ := A.qm h
  have hm := A.sub c hc
  refine ⟨⟨h1, h2, h3, .inr hm, by omega, fun e => absurd e (menu_ne _ hm)⟩, hn, ?_⟩
  split <;> omega
theorem Asc.ne0 {ns : List Str} (A : Asc ns) : ∀ c ∈ ns, c ≠ "" := fun c hc => menu_ne _ (A.sub c hc)
theorem Asc.every {ns : List Str} (A : Asc ns) : QZs (everyQ ns) := by
  intro q hq
  rcases mem_every.mp hq with h | h
  · obtain ⟨h1, h2, h3⟩ := mem_plain.mp h
    rw [h3]
    exact A.plain (parts_sub ns _ h1) h2
  · unfold rangedQ at h
    obtain ⟨p, hp, hr⟩ := List.mem_flatMap.mp h
    obtain ⟨e1, e2, e3⟩ := mem_ranged.mp hr
    rw [e1]
    exact A.ranged (parts_sub ns _ hp) e2 e3
theorem every_len {ns : List Str} (h : ns.length ≤ 5) : (everyQ ns).length ≤ 192 := by
  have h1 := parts_le (ns := ns) (i := ns.length) h
  rw [List.take_length] at h1
  unfold everyQ
  rw [List.length_flatMap]
  have key : ∀ ps : List (List Str), (ps.map fun p => (everyOf ns p).length).sum ≤ 6 * ps.length := fun ps => by
    induction ps with
    | nil => exact Nat.le_refl 0
    | cons p ps ih =>
      rw [List.map_cons, List.sum_cons, List.length_cons]
      have e : (everyOf ns p).length ≤ 6 := by
        unfold everyOf rangedOf left
        rw [List.length_append, List.length_map]
        have := List.length_filter_le (fun c => !decide (c ∈ p)) ns
        split <;> simp <;> omega
      omega
  have := key (partsOf ns)
  omega
def spEvery : Sp := fun vs H Q _ => ∃ (a : Addr) (ns : List Str), vs = [.ref a] ∧ H a = some (.lst (ns.map V.str)) ∧ Asc ns ∧ ∀ (p : Addr) (H' : Hp) (xs : List V), Same H H' → H' p = some (.lst xs) → QL H' xs (everyQ ns) → Q (.ref p) H'
abbrev nEvery : List Str := ["_law_names_here", "_law_sets", "_law_found", "_law_name", "_law_some"]
theorem scEvery : FnScope nEvery ["_law_names_here"] (defScope sEvery) := ⟨rfl, rfl, rfl, by decide +kernel, rfl, by decide +kernel, by decide +kernel⟩
theorem ok_every {f : Addr} {fd : FuncData} (F : Fun K "_law_every" "_law_every" sEvery f fd) (T : Txt K mg) : FnOk P w K mg base CX0 1 f fd ["_law_names_here"] spEvery := by
  refine F.ok scEvery (fun vs H Q E h => ?_) (fun cdv A outer s H vs Q E hr h => ?_)
  · obtain ⟨a, ns, rfl, _⟩ := h
    rfl
  · obtain ⟨a, ns, rfl, ha, As, k⟩ := h
    have nd := scEvery.nd
    have hl := As.le
    refine ⟨_, pss_cons (ps_par (i := 1) (j := 2) rfl nd rfl rfl (by decide) rfl rfl (pa_cons (pe_lst (pa_cons (pe_tup pa_nil) pa_nil)) (pa_cons (pe_lst pa_nil) pa_nil)) (by rfl))
      (pss_cons (ps_for PassesOwn.never rfl (pi_list (pv 0)) (pg_name (i := 3) nd rfl (by first | exact Or.inl rfl | exact Or.inr rfl))
        (pss_one (ps_set (i := 1) nd rfl (by first | exact Or.inl rfl | exact Or.inr rfl) (pe_op op_cat (pv 1)
          (pe_lc (own := [("_law_some", 4)]) (g := gName 4) (tt := tYes) rfl nd (pi_list (pv 1)) (blkOk_by (N := nEvery) (sc := defScope sEvery) (by decide +kernel)) (fun _ _ _ _ _ => pg_name (i := 4) nd rfl (by first | exact Or.inl rfl | exact Or.inr rfl)) (fun _ _ _ _ _ => pts_nil)
            (fun _ _ _ _ _ => pe_op (r := rCatA K) op_catA (pv 4) (pe_tup (pa_cons (pv 3) pa_nil))))))))
      (pss_cons (ps_for PassesOwn.never rfl (pi_list (pv 1)) (pg_name (i := 4) nd rfl (by first | exact Or.inl rfl | exact Or.inr rfl))
        (Evl.pss_cut (ps_if (pt_cmpR (op_neD hr.units) (pv 4) (pe_tup pa_nil) (nomark _)) (pss_one (ps_expr (pe_bm PySem.F.plainAttrs_list PySem.F.slot_list_append PySem.F.type_list_append mt_append (pv 2) (pa_cons (pe_tup (pa_cons (pv 4) (pa_cons pe_str pa_nil))) pa_nil)))) pss_nil)
        (pss_one (ps_set (i := 2) nd rfl (by first | exact Or.inl rfl | exact Or.inr rfl) (pe_op op_cat (pv 2)
          (pe_lc (own := [("_law_name", 3)]) (g := gName 3) rfl nd (pi_list (pv 0)) (blkOk_by (N := nEvery) (sc := defScope sEvery) (by decide +kernel)) (fun _ _ _ _ _ => pg_name (i := 3) nd rfl (by first | exact Or.inl rfl | exact Or.inr rfl))
            (fun _ _ _ _ _ => pts_one (pt_cmpR (r := rIn K true) op_notIn_seq (pv 3) (pv 4) (by rfl))) (fun _ _ _ _ _ => pe_tup (pa_cons (pv 4) (pa_cons (pv 3) pa_nil)))))))))
      (pss_one (ps_ret (pv 2))))), ?_⟩
    refine ⟨by decide, fun e he => ⟨by show 1 ≤ sizeLine; decide, fun st hst => ⟨by decide, fun fo hfo => ⟨_, _, rfl, ?_⟩⟩⟩⟩
    have se := same_new (o := .tup []) he
    have ss := same_new (o := .lst [.ref e]) hst
    have sf := same_new (o := .lst []) hfo
    have s0 : Same H _ := se.trans (ss.trans sf)
    have nst : st ≠ fo := ne_of_none upd_same hfo
    have h0 : H fo = none := (se.trans ss).free hfo
    have hst1 := sf _ _ (upd_same (H := upd H e (.tup [])) (a := st) (o := .lst [.ref e]))
    have he1 := sf _ _ (ss _ _ (upd_same (H := H) (a := e) (o := .tup [])))
    have hfo1 : (upd (upd (upd H e (.tup [])) st (.lst [.ref e])) fo (.lst [])) fo = some (.lst []) := upd_same
    generalize upd (upd (upd H e (.tup [])) st (.lst [.ref e])) fo (.lst []) = H1 at s0 hst1 he1 hfo1 ⊢
    refine ⟨_, rfl, a, rfl, ⟨_, SqL.of (s0 _ _ ha)⟩, for_list (K := K) (a := a) (xs := ns.map V.str) (fun i σ H' => ∃ (st : Addr) (v : Option V) (xs : List V), σ = [some (.ref a), some (.ref st), some (.ref fo), v, none] ∧ Same H H' ∧ st ≠ fo ∧ H' fo = some (.lst []) ∧ H' st = some (.lst xs) ∧ TL H' xs (partsOf (ns.take i)))
      ⟨st, none, [.ref e], rfl, s0, nst, hfo1, hst1, .cons ⟨e, rfl, he1⟩ .nil⟩ (fun i σ H' _ ⟨_, _, _, _, s, _⟩ => SqL.of (s _ _ ha)) ?_ ?_⟩
    · rintro i x σ H2 hi ⟨st, v, xs, rfl, s2, nst, hfo2, hst2, tl⟩
      rw [List.getElem?_map] at hi
      obtain ⟨c, hc, rfl⟩ := Option.map_eq_some_iff.mp hi
      have pl := parts_le (i := i) hl
      have xl : xs.length ≤ 32 := by rw [tl.len]; exact pl
      refine ⟨_, rfl, _, rfl, st, rfl, ⟨_, SqL.of hst2⟩, fun D hD => ?_⟩
      refine lc_list (K := K) (a := st) (xs := xs) (fun j H' => ∃ ys : List V, Same H2 H' ∧ H' D = some (.lst ys) ∧ TL H' ys (((partsOf (ns.take i)).take j).map fun r => r ++ [c])) ⟨[], same_new hD, upd_same, .nil⟩ (fun j H' _ ⟨_, s, _⟩ => SqL.of (s _ _ hst2)) ?_ ?_
      · rintro j x H3 hj ⟨ys, s3, hDl, tl3⟩
        obtain ⟨t, r, rfl, hr', ht⟩ := (tl.same s3).at_ hj
        have rl : r.length ≤ 5 := by
          have := (parts_sub _ r (List.mem_of_getElem? hr')).length_le
          rw [List.length_take] at this
          omega
        have yl : ys.length ≤ 32 := by rw [tl3.len, List.length_map, List.length_take]; omega
        have fin : ∀ (H6 : Hp) (y : Addr), Same H3 H6 → H6 y = some (.tup ((r ++ [c]).map V.str)) → ∃ acc, H6 D = some (.lst acc) ∧ acc.length < sizeLine ∧ ∃ ys : List V, Same H2 (upd H6 D (.lst (acc ++ [.ref y]))) ∧ (upd H6 D (.lst (acc ++ [.ref y]))) D = some (.lst ys) ∧
            TL (upd H6 D (.lst (acc ++ [.ref y]))) ys (((partsOf (ns.take i)).take (j + 1)).map fun r => r ++ [c]) := fun H6 y s6 hy => by
          have hD6 := s6 _ _ hDl
          refine ⟨ys, hD6, small1000 (by omega), ys ++ [.ref y], fun b o hb => ?_, upd_same, ?_⟩
          · rw [upd_ne (ne_of_none hb hD)]
            exact s6 _ _ (s3 _ _ hb)
          · rw [List.take_add_one, hr', List.map_append]
            exact TL.off (xs := ys) hD6 ((tl3.same s6).snoc (r := r ++ [c]) hy)
        refine ⟨rfl, Exists.intro _ ⟨rfl, _, rfl, by show 1 ≤ sizeLine; decide, fun t1 ht1 => ?_⟩⟩
        have s6 := same_new (o := .tup [.str c]) ht1
        refine ⟨t, t1, r.map V.str, [.str c], rfl, rfl, SqT.of (s6 _ _ ht), SqT.of upd_same, by rw [List.length_map, sizeLine_eq]; show r.length + 1 ≤ _; omega, fun hnil => ?_, (fun _ h => nomatch h), fun hne _ p hp => ?_⟩
        · have rn : r = [] := List.map_eq_nil_iff.mp hnil
          refine fin _ t1 s6 ?_
          rw [rn]
          exact upd_same
        · refine fin _ p (s6.trans (same_new hp)) ?_
          rw [List.map_append]
          exact upd_same
      · rintro H3 ⟨ys, s3, hDl, tl3⟩
        rw [tl.len, List.take_of_length_le (Nat.le_refl _)] at tl3
        have yl : ys.length ≤ 32 := by rw [tl3.len, List.length_map]; exact pl
        refine ⟨st, D, xs, ys, rfl, rfl, s3 _ _ hst2, hDl, by rw [sizeLine_eq]; omega, fun q hq => ?_⟩
        have nfq : fo ≠ q := ne_of_none (s3 _ _ hfo2) hq
        refine ⟨q, _, xs ++ ys, rfl, s2.trans (s3.trans (same_new hq)), nfq.symm, by rw [upd_ne nfq]; exact s3 _ _ hfo2, upd_same, ?_⟩
        rw [partsOf_take hc]
        exact paired_app ((tl.same s3).same (same_new hq)) (tl3.same (same_new hq))
    · rintro σ H2 ⟨st, v, xs, rfl, s2, nst, hfo2, hst2, tl⟩
      rw [List.length_map, List.take_of_length_le (Nat.le_refl _)] at tl
      have pl := parts_le (ns := ns) (i := ns.length) hl
      rw [List.take_length] at pl
      have xl : xs.length ≤ 32 := by rw [tl.len]; exact pl
      refine ⟨_, rfl, st, rfl, ⟨_, SqL.of hst2⟩, for_list (K := K) (a := st) (xs := xs) (fun j σ H' => ∃ (fo : Addr) (v4 : Option V) (es : List V), σ = [some (.ref a), some (.ref st), some (.ref fo), v, v4] ∧ Same H H' ∧ H fo = none ∧ st ≠ fo ∧ H' st = some (.lst xs) ∧ TL H' xs (partsOf ns) ∧ H' fo = some (.lst es) ∧ es.length ≤ 6 * j ∧ QL H' es (((partsOf ns).take j).flatMap (everyOf ns)))
        ⟨fo, none, [], rfl, s2, h0, nst, hst2, tl, hfo2, Nat.le_refl _, .nil⟩ (fun j σ H' _ ⟨_, _, _, _, _, _, _, h, _⟩ => SqL.of h) ?_ ?_⟩
      · rintro j x σ H3 hj ⟨fo, v4, es, rfl, s3, h0, nst, hst3, tl3, hfo3, el, ql⟩
        have hjl : j < 32 := Nat.lt_of_lt_of_le (List.getElem?_eq_some_iff.mp hj).1 xl
        obtain ⟨t, r, rfl, hr', ht⟩ := tl3.at_ hj
        have et : (partsOf ns).take (j + 1) = (partsOf ns).take j ++ [r] := by rw [List.take_add_one, hr']; rfl
        obtain ⟨q1, q2, q3, q4⟩ := As.qm (parts_sub ns r (List.mem_of_getElem? hr'))
        have rm : ∀ c ∈ r, PyData.strOk c = true := fun c hc => menu_ok _ (q3 c hc)
        refine ⟨fun σ' H' => ∃ (es : List V), σ' = [some (.ref a), some (.ref st), some (.ref fo), v, some (.ref t)] ∧ Same H H' ∧ H' st = some (.lst xs) ∧ TL H' xs (partsOf ns) ∧ H' t = some (.tup (r.map V.str)) ∧ H' fo = some (.lst es) ∧ es.length ≤ 6 * j + 1 ∧
            QL H' es (((partsOf ns).take j).flatMap (everyOf ns) ++ (if r = [] then [] else [((r, ("" : Str)) : Qd)])), ?_, ?_⟩
        · refine ⟨_, rfl, by decide, fun e0 he0 => ?_⟩
          have s4 := same_new (o := .tup []) he0
          refine ⟨.tuple (r.map PyData.str), .tuple (([] : List Str).map PyData.str), .tup (SqT.of (s4 _ _ ht)) (dp_strs _), .tup (SqT.of upd_same) (dp_strs []), shaped_tuple rm, shaped_tuple (fun c hc => (nomatch hc)), _, rfl, ?_⟩
          show if (!PyData.eqv (.tuple (r.map PyData.str)) (.tuple (([] : List Str).map PyData.str))) = true then _ else _
          rw [PyData.eqv, eqv_strs]
          by_cases hn : r = []
          · rw [decide_eq_true hn]
            refine iteF ?_
            refine ⟨es, rfl, s3.trans s4, s4 _ _ hst3, tl3.same s4, s4 _ _ ht, s4 _ _ hfo3, by omega, ?_⟩
            rw [if_pos hn, List.append_nil]
            exact ql.same s4
          · rw [decide_eq_false hn]
            refine iteT ?_
            refine ⟨_, rfl, .inl ⟨rfl, _, SqL.of (s4 _ _ hfo3)⟩, _, rfl, by show 2 ≤ sizeLine; decide, fun q hq => ?_⟩
            have s5 := s4.trans (same_new (o := .tup [.ref t, .str ""]) hq)
            have hfo5 := s5 _ _ hfo3
            refine ⟨fo, _, _, rfl, rfl, hfo5, small1000 (by omega), ?_⟩
            have nt : t ≠ fo := fun e => by rw [e, hfo3] at ht; cases ht
            refine ⟨es ++ [.ref q], rfl, fun z o hz => ?_, by rw [upd_ne nst]; exact s5 _ _ hst3, TL.off (xs := es) hfo5 (tl3.same s5), by rw [upd_ne nt]; exact s5 _ _ ht, upd_same, by rw [List.length_append]; simp; omega, ?_⟩
            · rw [upd_ne (ne_of_none hz h0)]
              exact s5 _ _ (s3 _ _ hz)
            · rw [if_neg hn]
              exact QL.off (xs := es) hfo5 ((ql.same s5).snoc (q := ((r, "") : Qd)) ⟨t, upd_same, s5 _ _ ht⟩)
        · rintro σ' H4 ⟨es, rfl, s4, hst4, tl4, ht4, hfo4, el4, ql4⟩
          have ha4 := s4 _ _ ha
          refine ⟨_, rfl, _, rfl, a, rfl, ⟨_, SqL.of ha4⟩, fun D hD => ?_⟩
          refine lc_list (K := K) (a := a) (xs := ns.map V.str) (fun i H' => ∃ ds : List V, Same H4 H' ∧ H' D = some (.lst ds) ∧ ds.length ≤ i ∧ QL H' ds (rangedOf (ns.take i) r)) ⟨[], same_new hD, upd_same, Nat.le_refl _, .nil⟩ (fun i H' _ ⟨_, s, _⟩ => SqL.of (s _ _ ha4)) ?_ ?_
          · rintro i x H5 hx ⟨ds, s5, hDl, dl, ql5⟩
            rw [List.getElem?_map] at hx
            obtain ⟨c, hc, rfl⟩ := Option.map_eq_some_iff.mp hx
            have hi5 : i < 5 := Nat.lt_of_lt_of_le (List.getElem?_eq_some_iff.mp hc).1 hl
            have ht5 := s5 _ _ ht4
            refine ⟨rfl, Exists.intro _ ⟨rfl, _, rfl, t, _, rfl, .inr (SqT.of ht5), rfl, flat_strs _, _, rfl, ?_⟩⟩
            show if (!inV (.str c) (r.map V.str)) = true then _ else _
            rw [inV_strs, rangedOf_take hc]
            by_cases hm : c ∈ r
            · rw [decide_eq_true hm, if_pos hm, List.append_nil]
              refine iteF ?_
              exact ⟨ds, s5, hDl, by omega, ql5⟩
            · rw [decide_eq_false hm, if_neg hm]
              refine iteT ?_
              refine ⟨_, rfl, _, rfl, by show 2 ≤ sizeLine; decide, fun q hq => ?_⟩
              have s6 := same_new (o := .tup [.ref t, .str c]) hq
              refine ⟨ds, s6 _ _ hDl, small1000 (by omega), ds ++ [.ref q], fun z o hz => ?_, upd_same, by rw [List.length_append]; simp; omega, ?_⟩
              · rw [upd_ne (ne_of_none hz hD)]
                exact s6 _ _ (s5 _ _ hz)
              · exact QL.off (xs := ds) (s6 _ _ hDl) ((ql5.same s6).snoc (q := ((r, c) : Qd)) ⟨t, upd_same, s6 _ _ ht5⟩)
          · rintro H5 ⟨ds, s5, hDl, dl, ql5⟩
            rw [List.length_map] at dl ql5
            rw [List.take_of_length_le (Nat.le_refl _)] at ql5
            have hfo5 := s5 _ _ hfo4
            refine ⟨fo, D, es, ds, rfl, rfl, hfo5, hDl, by rw [sizeLine_eq]; omega, fun q hq => ?_⟩
            have s6 := same_new (o := .lst (es ++ ds)) hq
            have s46 := s5.trans s6
            have hst6 := s46 _ _ hst4
            refine ⟨q, _, es ++ ds, rfl, s4.trans s46, (s4.trans s5).free hq, ne_of_none (s5 _ _ hst4) hq, hst6, tl4.same s46, upd_same, by rw [List.length_append]; omega, ?_⟩
            rw [et, List.flatMap_append, List.flatMap_cons, List.flatMap_nil, List.append_nil]
            unfold everyOf
            rw [← List.append_assoc]
            exact paired_app (ql4.same s46) (ql5.same s6)
      · rintro σ H3 ⟨fo, v4, es, rfl, s3, h0, nst, hst3, tl3, hfo3, el, ql⟩
        rw [tl.len, List.take_of_length_le (Nat.le_refl _)] at ql
        exact ⟨_, rfl, k fo H3 es s3 hfo3 ql⟩
/-! what is due for all questions at once -/
theorem fp_nums {rs : List (List Str)} {q : Qd} {k : Nat} : k ∈ nums rs q ↔ k < rs.length ∧ srvAt rs q k = true := by
  unfold nums numsT
  rw [List.mem_filter, List.mem_range]
theorem one_mem {l : List Nat} (h : l.Nodup) {k : Nat} : l = [k] ↔ k ∈ l ∧ ∀ x ∈ l, x = k := by
  constructor
  · intro e
    rw [e]
    exact ⟨List.mem_cons_self, fun x hx => List.mem_singleton.mp hx⟩
  · rintro ⟨h1, h2⟩
    match l, h, h1, h2 with
    | [], _, h1, _ => cases h1
    | [x], _, _, h2 => rw [h2 x List.mem_cons_self]
    | x :: y :: l, h, _, h2 =>
      have e1 := h2 x List.mem_cons_self
      have e2 := h2 y (List.mem_cons_of_mem _ List.mem_cons_self)
      exact ((List.nodup_cons.mp h).1 (by rw [e1, e2]; exact List.mem_cons_self)).elim
theorem nums_nd (rs : List (List Str)) (q : Qd) : (nums rs q).Nodup := List.nodup_range.sublist List.filter_sublist
theorem mem_need {rs : List (List Str)} {zs : List Qd} {k : Nat} : k ∈ needL rs zs ↔ ∃ q ∈ zs, nums rs q = [k] := by
  unfold needL
  rw [List.mem_flatMap]
  constructor
  · rintro ⟨q, h1, h2⟩
    refine ⟨q, h1, ?_⟩
    unfold soleN at h2
    split at h2
    · rename_i m e
      rw [e, List.mem_singleton.mp h2]
    · cases h2
  · rintro ⟨q, h1, h2⟩
    refine ⟨q, h1, ?_⟩
    unfold soleN
    rw [h2]
    exact List.mem_cons_self
theorem mem_busy {rs : List (List Str)} {zs : List Qd} {k : Nat} (hk : k < rs.length) : k ∈ busyL rs zs ↔ zs.filter (fun q => srvAt rs q k) ≠ [] := by
  unfold busyL
  rw [List.mem_flatMap]
  constructor
  · rintro ⟨q, h1, h2⟩ e
    have := List.filter_eq_nil_iff.mp e q h1
    exact this (fp_nums.mp h2).2
  · intro h
    obtain ⟨q, hq⟩ := List.exists_mem_of_ne_nil _ h
    obtain ⟨h1, h2⟩ := List.mem_filter.mp hq
    exact ⟨q, h1, fp_nums.mpr ⟨hk, h2⟩⟩
/-- the rows without the k-th -/
def lessR (rs : List (List Str)) (k : Nat) : List (List Str) := rs.take k ++ rs.drop (k + 1)
theorem mem_less {rs : List (List Str)} {k : Nat} {r : List Str} : r ∈ lessR rs k ↔ ∃ i, i ≠ k ∧ rs[i]? = some r := by
  unfold lessR
  rw [List.mem_append]
  constructor
  · rintro (h | h)
    · obtain ⟨i, hi⟩ := List.mem_iff_getElem?.mp h
      have il := (List.getElem?_eq_some_iff.mp hi).1
      rw [List.length_take] at il
      rw [List.getElem?_take, if_pos (by omega)] at hi
      exact ⟨i, by omega, hi⟩
    · obtain ⟨i, hi⟩ := List.mem_iff_getElem?.mp h
      rw [List.getElem?_drop] at hi
      exact ⟨k + 1 + i, by omega, hi⟩
  · rintro ⟨i, ne, hi⟩
    by_cases h : i < k
    · left
      refine List.mem_iff_getElem?.mpr ⟨i, ?_⟩
      rw [List.getElem?_take, if_pos h]
      exact hi
    · right
      refine List.mem_iff_getElem?.mpr ⟨i - (k + 1), ?_⟩
      rw [List.getElem?_drop, show k + 1 + (i - (k + 1)) = i by omega]
      exact hi
theorem srv_iff {rs : List (List Str)} {q : Qd} {i : Nat} : srvAt rs q i = true ↔ ∃ r, rs[i]? = some r ∧ fault r q.1 q.2 = none := by
  unfold srvAt
  cases h : rs[i]? with
  | none => simp
  | some r => simp
theorem less_fam {rs : List (List Str)} (hR : ∀ r ∈ rs, Row r) {q : Qd} (Z : QZ q.1 q.2) {k : Nat} (hk : k < rs.length) : nums rs q = [k] ↔ q ∈ famQ rs ∧ q ∉ famQ (lessR rs k) := by
  have hL : ∀ r ∈ lessR rs k, Row r := fun r hr => by
    obtain ⟨i, _, hi⟩ := mem_less.mp hr
    exact hR r (List.mem_of_getElem? hi)
  rw [one_mem (nums_nd rs q), fam_some Z hR, fam_some Z hL]
  constructor
  · rintro ⟨h1, h2⟩
    obtain ⟨r, hr, hf⟩ := srv_iff.mp (fp_nums.mp h1).2
    refine ⟨⟨r, List.mem_of_getElem? hr, hf⟩, ?_⟩
    rintro ⟨z, hz, hzf⟩
    obtain ⟨i, ne, hi⟩ := mem_less.mp hz
    exact ne (h2 i (fp_nums.mpr ⟨(List.getElem?_eq_some_iff.mp hi).1, srv_iff.mpr ⟨z, hi, hzf⟩⟩))
  · rintro ⟨⟨r, hr, hf⟩, h2⟩
    obtain ⟨i, hi⟩ := List.mem_iff_getElem?.mp hr
    have key : ∀ j ∈ nums rs q, j = k := fun j hj => Classical.byContradiction fun ne => by
      obtain ⟨z, hz, hzf⟩ := srv_iff.mp (fp_nums.mp hj).2
      exact h2 ⟨z, mem_less.mpr ⟨j, ne, hz⟩, hzf⟩
    have hi2 : i ∈ nums rs q := fp_nums.mpr ⟨(List.getElem?_eq_some_iff.mp hi).1, srv_iff.mpr ⟨r, hi, hf⟩⟩
    refine ⟨?_, key⟩
    rw [← key i hi2]
    exact hi2
def leftL (rs : List (List Str)) (zs : List Qd) : List Qd := zs.filter fun q => !decide (q ∈ famQ rs)
theorem filter_eq {α : Type} {f g : α → Bool} {l : List α} : l.filter f = l.filter g ↔ ∀ x ∈ l, f x = g x := by
  refine ⟨fun e x hx => ?_, fun h => List.filter_congr h⟩
  have t : x ∈ l.filter f ↔ x ∈ l.filter g := by rw [e]
  rw [List.mem_filter, List.mem_filter] at t
  cases hf : f x <;> cases hg : g x <;> simp_all
theorem idle_due (rs : List (List Str)) (zs : List Qd) : ((List.range rs.length).filter fun k => decide (zs.filter (fun q => srvAt rs q k) = [])) = idleL rs zs := by
  unfold idleL
  refine List.filter_congr fun k hk => ?_
  have h := mem_busy (zs := zs) (List.mem_range.mp hk)
  by_cases e : zs.filter (fun q => srvAt rs q k) = []
  · rw [decide_eq_true e, decide_eq_false fun g => (h.mp g) e]
    rfl
  · rw [decide_eq_false e, decide_eq_true (h.mpr e)]
    rfl
theorem drop_due {rs : List (List Str)} (hR : ∀ r ∈ rs, Row r) {zs : List Qd} (hz : QZs zs) : ((List.range rs.length).filter fun k => decide (leftL (lessR rs k) zs = leftL rs zs)) = dropL rs zs := by
  unfold dropL
  refine List.filter_congr fun k hk => ?_
  have h := mem_need (rs := rs) (zs := zs) (k := k)
  have sub : ∀ q, q ∈ famQ (lessR rs k) → q ∈ famQ rs := fun q hq => by
    unfold famQ at *
    obtain ⟨r, h1, h2⟩ := List.mem_flatMap.mp hq
    obtain ⟨i, _, hi⟩ := mem_less.mp h1
    exact List.mem_flatMap.mpr ⟨r, List.mem_of_getElem? hi, h2⟩
  by_cases e : leftL (lessR rs k) zs = leftL rs zs
  · rw [decide_eq_true e, decide_eq_false fun g => ?_]
    · rfl
    · obtain ⟨q, h1, h2⟩ := h.mp g
      obtain ⟨g1, g2⟩ := (less_fam hR (hz q h1) (List.mem_range.mp hk)).mp h2
      have := filter_eq.mp e q h1
      rw [decide_eq_true g1, decide_eq_false g2] at this
      cases this
  · rw [decide_eq_false e, decide_eq_true (Classical.byContradiction fun g => e ?_)]
    · rfl
    · refine filter_eq.mpr fun q hq => ?_
      by_cases g1 : q ∈ famQ rs
      · by_cases g2 : q ∈ famQ (lessR rs k)
        · rw [decide_eq_true g1, decide_eq_true g2]
        · exact (g (h.mpr ⟨q, hq, (less_fam hR (hz q hq) (List.mem_range.mp hk)).mpr ⟨g1, g2⟩⟩)).elim
      · rw [decide_eq_false g1, decide_eq_false fun g2 => g1 (sub q g2)]
/-- the four answers as data -/
def dFour (rs : List (List Str)) (zs : List Qd) : PyData := .list [.list ((zs.map (firstN rs)).map dO), .list ((leftL rs zs).map dq), .list ((idleL rs zs).map dN), .list ((dropL rs zs).map dN)]
theorem dok_four {rs : List (List Str)} {zs : List Qd} (hz : QZs zs) (l1 : rs.length ≤ 24) (l2 : zs.length ≤ 24) : DOk (dFour rs zs) := by
  have a1 : (leftL rs zs).length ≤ 24 := Nat.le_trans (List.length_filter_le _ _) l2
  have a2 : (idleL rs zs).length ≤ 24 := Nat.le_trans (List.length_filter_le _ _) (by rw [List.length_range]; exact l1)
  have a3 : (dropL rs zs).length ≤ 24 := Nat.le_trans (List.length_filter_le _ _) (by rw [List.length_range]; exact l1)
  have b1 : ∀ q ∈ leftL rs zs, Qfine q := fun q hq => (hz q (List.mem_filter.mp hq).1).fine
  have b2 : ∀ n ∈ idleL rs zs, n ≤ 1000 := fun n hn => by have := List.mem_range.mp (List.mem_filter.mp hn).1; omega
  have b3 : ∀ n ∈ dropL rs zs, n ≤ 1000 := fun n hn => by have := List.mem_range.mp (List.mem_filter.mp hn).1; omega
  have b0 : ∀ o ∈ zs.map (firstN rs), ∀ n, o = some n → n ≤ 1000 := fun o ho n hn => by
    obtain ⟨z, _, rfl⟩ := List.mem_map.mp ho
    have := first_lt hn
    omega
  refine ⟨?_, ?_, ?_⟩
  · show (fineAll ((zs.map (firstN rs)).map dO) && (fineAll ((leftL rs zs).map dq) && (fineAll ((idleL rs zs).map dN) && (fineAll ((dropL rs zs).map dN) && true)))) = true
    rw [fine_os b0, fine_qs b1, fine_ns b2, fine_ns b3]
    rfl
  · show max (PyData.depthAll ((zs.map (firstN rs)).map dO) + 1) (max (PyData.depthAll ((leftL rs zs).map dq) + 1) (max (PyData.depthAll ((idleL rs zs).map dN) + 1) (max (PyData.depthAll ((dropL rs zs).map dN) + 1) 0))) + 1 ≤ 50
    rw [depth_os, depth_ns, depth_ns]
    have := depth_qs (leftL rs zs)
    omega
  · show (costAll ((zs.map (firstN rs)).map dO) + 3) + 2 + ((costAll ((leftL rs zs).map dq) + 3) + 2 + ((costAll ((idleL rs zs).map dN) + 3) + 2 + ((costAll ((dropL rs zs).map dN) + 3) + 2 + 0))) + 3 ≤ 1000000
    have c1 := cost_os (zs.map (firstN rs))
    have c2 := cost_qs b1
    rw [cost_ns, cost_ns]
    rw [List.length_map] at c1
    omega
def spAQns (C : Addr) : Sp := fun vs H Q _ => ∃ (a : Addr) (zs : List Qd), vs = [.ref a] ∧ AsV H C a zs ∧ ∀ (p : Addr) (xs : List V) (H' : Hp), Same H H' → H p = none → H' p = some (.lst xs) → QL H' xs zs → Q (.ref p) H'
theorem scAQns : FnScope ["self"] ["self"] (defScope sAQns) := ⟨rfl, rfl, rfl, by decide +kernel, rfl, by decide +kernel, by decide +kernel⟩
theorem ok_aqns {f C : Addr} {fd : FuncData} (F : Fun K "questions" "Asked.questions" sAQns f fd) (T : Txt K mg) (TC : TxA K mg C) : FnOk P w K mg base CX0 1 f fd ["self"] (spAQns C) := by
  refine F.ok scAQns (fun vs H Q E h => ?_) (fun cdv A outer s H vs Q E hr h => ?_)
  · obtain ⟨a, zs, rfl, _⟩ := h
    rfl
  · obtain ⟨a, zs, rfl, ⟨l, xs, ⟨dx, ha, hl⟩, hq⟩, k⟩ := h
    refine ⟨_, pss_one (ps_ret (pe_callTy call_list_of (by rfl) T.list (by decide +kernel) (pa_cons (pe_fld (pv 0) rfl) pa_nil))), ?_⟩
    exact ⟨_, rfl, a, C, dx, _, _, rfl, ha, TC.cl, TC.nQ, rfl, l, xs, rfl, .inl (SqL.of hl), fun p hp => k p xs _ (same_new hp) hp upd_same (hq.same (same_new hp))⟩
structure ACl (P : Program) (w : World) (K : PySem.W.Frag) (mg : Str → Option Value) (base : Heap) (C : Addr) where
  T : TxA K mg C
  (fI fE fQ fS : Addr)
  (dI dE dQ : FuncData)
  mkK : Mk K C fI
  gI : FnOk P w K mg base CX0 5 fI dI ["self", "questions"] (spAInit C)
  bI : Binds K dI ["self", "questions"] []
  oE : OwnEq K C fE
  gE : FnOk P w K mg base CX0 1 fE dE ["self", "other"] (spAEq C)
  bE : Binds K dE ["self", "other"] []
  nf : PySem.W.notFirst K C (.ref C) = true
  mQ : Meth K C "questions" fQ
  gQ : FnOk P w K mg base CX0 1 fQ dQ ["self"] (spAQns C)
  bQ : Binds K dQ ["self"] []
structure SCl (P : Program) (w : World) (K : PySem.W.Frag) (mg : Str → Option Value) (base : Heap) (C : Addr) where
  T : TxC K mg C
  (fI fE : Addr)
  (dI dE : FuncData)
  mkK : Mk K C fI
  gI : FnOk P w K mg base CX0 5 fI dI ["self", "indexes"] (spInitS C)
  bI : Binds K dI ["self", "indexes"] []
  oE : OwnEq K C fE
  gE : FnOk P w K mg base CX0 1 fE dE ["self", "other"] (spSEq C)
  bE : Binds K dE ["self", "other"] []
  nf : PySem.W.notFirst K C (.ref C) = true
section
variable {C : Addr} {H : Hp} {Q : VK} {a b : Addr} {zs ws : List Qd} {rs qs : List (List Str)}
theorem asc_eq (h1 : Asc27 zs) (h2 : Asc27 ws) (h : ∀ q, q ∈ zs ↔ q ∈ ws) : zs = ws := Dist.uniq (qs := zs) (rs := ws) ⟨h1.nd, h1.up, fun _ => Iff.rfl⟩ ⟨h2.nd, h2.up, fun _ => Iff.rfl⟩ h
theorem req (T : TxA K mg C) (nf : PySem.W.notFirst K C (.ref C) = true) (hx : AsV H C a zs) (hy : AsV H C b ws) (az : QZs zs) (aw : QZs ws) (l1 : zs.length ≤ 300) (l2 : ws.length ≤ 300) (e : zs = ws) (k : Q (.bl true) H) : rOwn K C (spAEq C) false (.ref a) (.ref b) H Q := by
  obtain ⟨l, xs, ⟨dx, ha, hl⟩, hq⟩ := id hx
  obtain ⟨m, ys, ⟨dy, hb, hm⟩, hr⟩ := id hy
  exact ⟨a, dx, _, .ref C, rfl, ha, T.ty hb, nf, a, b, zs, ws, rfl, hx, hy, az, aw, l1, l2, _, rfl, by rw [decide_eq_true e]; exact k⟩
theorem reqS (T : TxC K mg C) (nf : PySem.W.notFirst K C (.ref C) = true) (hx : ShV H C a rs) (hy : ShV H C b rs) (R : ∀ r ∈ rs, Row r) (l : rs.length ≤ 300) (k : Q (.bl true) H) : rOwn K C (spSEq C) false (.ref a) (.ref b) H Q := by
  obtain ⟨l1, xs, ⟨dx, ha, hl⟩, hq⟩ := id hx
  obtain ⟨m, ys, ⟨dy, hb, hm⟩, hr⟩ := id hy
  exact ⟨a, dx, _, .ref C, rfl, ha, T.ty hb, nf, a, b, rs, rs, rfl, hx, hy, R, R, l, l, _, rfl, by rw [decide_eq_true rfl]; exact k⟩
end
theorem mkA {H : Hp} {C d x dx : Addr} {xs : List V} {qs : List Qd} {R : VK} (hd : H d = some (.lst xs)) (hq : QL H xs qs) (hl : xs.length ≤ 48) (hz : QZs qs) (nx : H x = none) (ndx : H dx = none) (k : ∀ (H' : Hp) (us : List Qd), Same H H' → AsV H' C x us → Asc27 us → us.length ≤ qs.length → (∀ q, q ∈ us ↔ q ∈ qs) → R .non H') :
    spAInit C [.ref x, .ref d] (upd (upd H dx (.own x)) x (.ins C dx [])) R E0 := by
  obtain ⟨x', a, dx', xs', qs', e, h1, h2, h3, h4, h5, h6, k'⟩ := make_asked (C := C) (Q := fun v H' => v = .ref x → R .non H') hd hq hl hz nx ndx fun H' y us s hA D e => by
    injection e with e
    subst e
    exact k H' us s hA (D.asc hz) D.le D.mem
  exact ⟨x', a, dx', xs', qs', e, h1, h2, h3, h4, h5, h6, fun H' zs g1 g2 g3 => by
    obtain ⟨_, g⟩ := k' H' zs g1 g2 g3
    exact g rfl⟩
theorem mkS {H : Hp} {C d x dx : Addr} {xs : List V} {rs : List (List Str)} {R : VK} (hd : H d = some (.lst xs)) (hq : TL H xs rs) (hl : xs.length ≤ 48) (hz : ∀ r ∈ rs, Row r) (nx : H x = none) (ndx : H dx = none) (k : ∀ H' : Hp, Same H H' → ShV H' C x rs → R .non H') :
    spInitS C [.ref x, .ref d] (upd (upd H dx (.own x)) x (.ins C dx [])) R E0 := by
  obtain ⟨x', a, dx', xs', rs', e, h1, h2, h3, h4, h5, k'⟩ := make_shelf (C := C) (Q := fun v H' => v = .ref x → R .non H') hd hq hl hz nx ndx fun H' y s hS e => by
    injection e with e
    subst e
    exact k H' s hS
  exact ⟨x', a, dx', xs', rs', e, h1, h2, h3, h4, h5, fun H' l g1 g2 g3 => by
    obtain ⟨_, g⟩ := k' H' l g1 g2 g3
    exact g rfl⟩
/-- a block's scope within a def's -/
def relS (sc out : Scope) : Scope := { sc with names := sc.names.map fun (n, k) => if (k == NameKind.free && out.kind == .function && out.names.lookup n == some .cell) then (n, NameKind.cell) else (n, k) }
def asScope (d : Scope) : Stmt → Scope
  | .Assign _ (.ListComp _ _ sc _) _ => sc
  | _ => d
theorem paired_takeL {α β : Type} {F : α → β → Prop} : ∀ {xs : List α} {ys : List β} (n : Nat), Paired F xs ys → Paired F (xs.take n) (ys.take n)
  | _, _, 0, _ => by rw [List.take_zero, List.take_zero]; exact .nil
  | _, _, n + 1, .nil => .nil
  | _, _, n + 1, .cons r t => by rw [List.take_succ_cons, List.take_succ_cons]; exact .cons r (paired_takeL n t)
theorem paired_dropL {α β : Type} {F : α → β → Prop} : ∀ {xs : List α} {ys : List β} (n : Nat), Paired F xs ys → Paired F (xs.drop n) (ys.drop n)
  | _, _, 0, h => h
  | _, _, n + 1, .nil => .nil
  | _, _, n + 1, .cons r t => by rw [List.drop_succ_cons, List.drop_succ_cons]; exact paired_dropL n t
theorem eqv_nilQ (qs : List Qd) : PyData.eqv (.list (qs.map dq)) (.list []) = decide (qs = []) := by
  cases qs with
  | nil => rfl
  | cons q qs => rfl
def spAllR : Sp := fun vs H Q _ => ∃ (r o : Addr) (xs ys : List V) (rs : List (List Str)) (zs : List Qd), vs = [.ref r, .ref o] ∧ H r = some (.lst xs) ∧ TL H xs rs ∧ (∀ r ∈ rs, Row r) ∧ rs.length ≤ 24 ∧ H o = some (.lst ys) ∧ QL H ys zs ∧ Asc27 zs ∧ zs.length ≤ 24 ∧ ∀ H', Same H H' → Q (.bl true) H'
abbrev nAll : List Str := ["_law_rows", "_law_some", "_law_shelf", "_law_asked", "_law_due", "_law_left", "_law_k", "_law_lone", "_law_drops", "_law_less", "_law_again", "_law_found", "_law_part", "_law_question", "_law_one_here"]
theorem scAll : FnScope nAll ["_law_rows", "_law_some"] (defScope sAll) := ⟨rfl, rfl, rfl, by decide +kernel, rfl, by decide +kernel, by decide +kernel⟩
abbrev scL : Scope := relS (asScope (defScope sAll) ((defBody sAll).getD 3 (.Pass ⟨0, 0, 0, 0⟩))) (defScope sAll)
theorem ok_all {f C CA : Addr} {fd : FuncData} (F : Fun K "_law_all_right" "_law_all_right" sAll f fd) (T : Txt K mg) (AC : ACl P w K mg base CA) (SC : SCl P w K mg base C)
    (cF : Cal P w K mg base 2 "_law_first" ["_law_rows", "_law_question"] spFirst) (cH : Cal P w K mg base 2 "_law_is_served" ["_law_rows", "_law_question"] spIsHere) (cV : Cal P w K mg base 1 "_law_serves" ["_law_index_here", "_law_question"] spServes)
    (cA : CalG P w K mg base 1 "_law_alike" ["_law_found", "_law_due"] (spAlikeD K)) (cPl : Cal P w K mg base 5 "places" ["shelf", "asked"] (spPlaces C CA)) (cU : Cal P w K mg base 7 "unserved" ["shelf", "asked"] (spUnserved C CA))
    (cI : Cal P w K mg base 5 "idle" ["shelf", "asked"] (spIdle C CA)) (cD : Cal P w K mg base 5 "droppable" ["shelf", "asked"] (spDrop C CA)) : FnG P w K mg base 8 f fd ["_law_rows", "_law_some"] spAllR := by
  refine okG F scAll (fun vs H Q E h => ?_) (fun cdv A outer s H vs Q E hr hg h => ?_)
  · obtain ⟨r, o, xs, ys, rs, zs, rfl, _⟩ := h
    rfl
  · obtain ⟨r, o, xs, ys, rs, zs, rfl, ha, hT, hR, lr, ho, hQ, az, lz, k⟩ := h
    have nd := scAll.nd
    have hr1 : Room 1 _ := hr.mono (by decide)
    have hr2 : Room 2 _ := hr.mono (by decide)
    have hr5 : Room 5 _ := hr.mono (by decide)
    have hr6 : Room 6 _ := hr.mono (by decide)
    refine ⟨_, (pss_cons (ps_par (i := 2) (j := 3) rfl nd rfl rfl (by decide) rfl rfl (pa_cons (pe_make SC.mkK SC.gI hr6 rfl SC.T.mgC SC.bI .nil pass0 (pa_cons (pv 0) pa_nil)) (pa_cons (pe_make AC.mkK AC.gI hr6 rfl AC.T.mgC AC.bI .nil pass0 (pa_cons (pv 1) pa_nil)) pa_nil)) rfl)
      (pss_cons (ps_setLc (i := 4) (own := [("_law_question", 13)]) (g := gName 13) (tt := tYes)  rfl nd rfl (by rfl) (sw_true rfl (by rfl) rfl (by decide)) (pi_list (pv 1)) (blkOk_by (N := nAll) (sc := defScope sAll) (by decide +kernel)) (fun _ _ _ _ _ => (pg_name (i := 13) nd rfl (by first | exact Or.inl rfl | exact Or.inr rfl))) (fun _ _ _ _ _ => pts_nil) (fun _ _ _ _ _ => (pe_call cF.G hr2 rfl cF.m cF.kp cF.b .nil pass0 (pa_cons (pv 0) (pa_cons (pv 13) pa_nil)))))
      (pss_cons (ps_setLc (i := 5) (own := [("_law_question", 13)]) (g := gName 13)  rfl nd rfl (by rfl) (sw_true rfl (by rfl) rfl (by decide)) (pi_list (pv 1)) (blkOk_by (N := nAll) (sc := defScope sAll) (by decide +kernel)) (fun _ _ _ _ _ => (pg_name (i := 13) nd rfl (by first | exact Or.inl rfl | exact Or.inr rfl))) (fun _ _ _ _ _ => pts_one (pt_not (pt_val (pe_call cH.G hr2 rfl cH.m cH.kp cH.b .nil pass0 (pa_cons (pv 0) (pa_cons (pv 13) pa_nil)))))) (fun _ _ _ _ _ => (pv 13)))
      (pss_cons (ps_setLc (i := 7) (own := [("_law_k", 6)]) (g := gName 6)  rfl nd rfl (by rfl) (sw_true rfl (by rfl) rfl (by decide)) (pi_range1 (by rfl) T.range (pa_cons (pe_callB call_len_seq (by rfl) T.len PySem.boot_len (pa_cons (pv 0) pa_nil)) pa_nil)) (blkOk_by (N := nAll) (sc := defScope sAll) (by decide +kernel)) (fun _ _ _ _ _ => (pg_name (i := 6) nd rfl (by first | exact Or.inl rfl | exact Or.inr rfl))) (fun _ _ _ _ _ => pts_one (pt_cmpR (r := rEqD K) (op_eqD hr.units) (by exact (pe_lc (own := [("_law_one_here", 14)]) (wi := iList K (tVar 1)) (g := gName 14)  rfl nd (pi_list (pv 1)) (blkOk_by (N := nAll) (sc := scL) (by decide +kernel)) (fun _ _ _ _ _ => (pg_name (i := 14) nd rfl (by first | exact Or.inl rfl | exact Or.inr rfl))) (fun _ _ _ _ _ => pts_one (pt_val (pe_call cV.G hr1 rfl cV.m cV.kp cV.b .nil pass0 (pa_cons (pe_ix (r := rIxL K) ix_list (pv 0) (pv 6) fun _ _ => rfl) (pa_cons (pv 14) pa_nil))))) (fun _ _ _ _ _ => (pv 14)))) (pe_lst pa_nil) (nomark _))) (fun _ _ _ _ _ => (pv 6)))
      (pss_cons (ps_set (i := 8) nd rfl (by first | exact Or.inl rfl | exact Or.inr rfl) (pe_lst pa_nil))
      (Evl.pss_cut (ps_for PassesOwn.never rfl (pi_range1 (by rfl) T.range (pa_cons (pe_callB call_len_seq (by rfl) T.len PySem.boot_len (pa_cons (pv 0) pa_nil)) pa_nil)) (pg_name (i := 6) nd rfl (by first | exact Or.inl rfl | exact Or.inr rfl)) (pss_cons (ps_set (i := 9) nd rfl (by first | exact Or.inl rfl | exact Or.inr rfl) (pe_op op_cat (pe_slice sl_list (pv 0) po_none (po_some (pv 6))) (pe_slice sl_list (pv 0) (po_some (pe_op op_add (pv 6) pe_int)) po_none)))
      (pss_one (ps_if (pt_cmpR (r := rEqD K) (op_eqD hr.units) (pe_lc (own := [("_law_one_here", 14)]) (g := gName 14)  rfl nd (pi_list (pv 1)) (blkOk_by (N := nAll) (sc := defScope sAll) (by decide +kernel)) (fun _ _ _ _ _ => (pg_name (i := 14) nd rfl (by first | exact Or.inl rfl | exact Or.inr rfl))) (fun _ _ _ _ _ => pts_one (pt_not (pt_val (pe_call cH.G hr2 rfl cH.m cH.kp cH.b .nil pass0 (pa_cons (pv 9) (pa_cons (pv 14) pa_nil)))))) (fun _ _ _ _ _ => (pv 14))) (pv 5) (nomark _)) (pss_one (ps_expr (pe_bm PySem.F.plainAttrs_list PySem.F.slot_list_append PySem.F.type_list_append mt_append (pv 8) (pa_cons (pv 6) pa_nil)))) pss_nil))))
      (Evl.pss_cut (ps_for PassesOwn.never rfl (pi_range1 (by rfl) T.range (pa_cons pe_int pa_nil)) (pg_name (i := 10) nd rfl (by first | exact Or.inl rfl | exact Or.inr rfl)) (pss_cons (ps_set (i := 11) nd rfl (by first | exact Or.inl rfl | exact Or.inr rfl) (pe_lst (pa_cons (pe_call cPl.G hr5 rfl cPl.m cPl.kp cPl.b .nil pass0 (pa_cons (pv 2) (pa_cons (pv 3) pa_nil))) (pa_cons (pe_meth0 (pe_call cU.G hr rfl cU.m cU.kp cU.b .nil pass0 (pa_cons (pv 2) (pa_cons (pv 3) pa_nil))) AC.T.cl AC.mQ AC.gQ hr1 AC.bQ .nil pass0) pa_nil))))
      (pss_cons (ps_set (i := 11) nd rfl (by first | exact Or.inl rfl | exact Or.inr rfl) (pe_op op_cat (pv 11) (pe_lst (pa_cons (pe_call cI.G hr5 rfl cI.m cI.kp cI.b .nil pass0 (pa_cons (pv 2) (pa_cons (pv 3) pa_nil))) (pa_cons (pe_call cD.G hr5 rfl cD.m cD.kp cD.b .nil pass0 (pa_cons (pv 2) (pa_cons (pv 3) pa_nil))) pa_nil)))))
      (pss_cons (ps_if (pt_not (pt_val (pe_callg cA.G hr1 hg rfl cA.m cA.kp cA.b (pa_cons (pv 11) (pa_cons (pe_lst (pa_cons (pv 4) (pa_cons (pv 5) (pa_cons (pv 7) (pa_cons (pv 8) pa_nil))))) pa_nil))))) (pss_one (ps_ret pe_bl)) pss_nil)
      (pss_one (ps_for PassesOwn.never rfl (pi_list (pv 11)) (pg_name (i := 12) nd rfl (by first | exact Or.inl rfl | exact Or.inr rfl)) (pss_one (ps_expr (pe_bm PySem.F.plainAttrs_list PySem.F.slot_list_append PySem.F.type_list_append mt_append (pv 12) (pa_cons pe_int pa_nil))))))))))
      (pss_one (ps_ret (pe_and (pe_cmpR (op_eqO SC.oE SC.gE hr1 SC.bE) (pv 2) (pe_make SC.mkK SC.gI hr6 rfl SC.T.mgC SC.bI .nil pass0 (pa_cons (pv 0) pa_nil)) (nomark _)) (pe_and (pe_cmpR (op_eqO AC.oE AC.gE hr1 AC.bE) (pv 3) (pe_make AC.mkK AC.gI hr6 rfl AC.T.mgC AC.bI .nil pass0 (pa_cons (pv 1) pa_nil)) (nomark _)) (pe_one (pe_cmpR (op_eqO AC.oE AC.gE hr1 AC.bE) (pe_call cU.G hr rfl cU.m cU.kp cU.b .nil pass0 (pa_cons (pv 2) (pa_cons (pe_make AC.mkK AC.gI hr6 rfl AC.T.mgC AC.bI .nil pass0 (pa_cons (pe_lst pa_nil) pa_nil)) pa_nil))) (pe_make AC.mkK AC.gI hr6 rfl AC.T.mgC AC.bI .nil pass0 (pa_cons (pe_lst pa_nil) pa_nil)) (nomark _)))))))))))))), ?_⟩
    have lx := hT.len
    have ly := hQ.len
    refine ⟨_, rfl, fun shelf dx1 nx1 ndx1 nex1 => mkS (rs := rs) ha hT (by omega) hR nx1 ndx1 fun H1 s1 hS1 => ⟨rfl, ?_⟩⟩
    refine ⟨_, rfl, fun asked dx2 nx2 ndx2 nex2 => mkA (qs := zs) (s1 _ _ ho) (hQ.same s1) (by omega) az.qz nx2 ndx2 fun H2 us s2 hA2 au lu mu => ⟨rfl, ?_⟩⟩
    rw [asc_eq au az mu] at hA2
    have s02 := s1.trans s2
    have hS2 := hS1.same s2
    have ha2 := s02 _ _ ha
    have ho2 := s02 _ _ ho
    have hT2 := hT.same s02
    have hQ2 := hQ.same s02
    refine ⟨_, _, rfl, ?_⟩
    -- due
    refine ⟨_, rfl, o, rfl, ⟨_, SqL.of ho2⟩, fun D4 hD4 => ?_⟩
    refine lc_list (K := K) (a := o) (xs := ys) (fun i H' => Same H2 H' ∧ H' D4 = some (.lst ((zs.take i).map fun q => optV (firstN rs q)))) ⟨same_new hD4, upd_same⟩ (fun i H' _ h => SqL.of (h.1 _ _ ho2)) ?_ ?_
    · rintro i x H3 hx ⟨s3, hDl⟩
      have hil : i < ys.length := (List.getElem?_eq_some_iff.mp hx).1
      obtain ⟨t, q, rfl, hqi, hqa⟩ := (hQ2.same s3).at_ hx
      have et : zs.take (i + 1) = zs.take i ++ [q] := by rw [List.take_add_one, hqi]; rfl
      refine ⟨rfl, Exists.intro _ ⟨rfl, Exists.intro _ ⟨rfl, r, t, xs, rs, q, rfl, s3 _ _ ha2, hT2.same s3, hR, by omega, hqa, az.qz q (List.mem_of_getElem? hqi), fun H4 s4 => ⟨_, s4 _ _ hDl, small1000 (by simp; omega), fun b o hb2 => ?_, ?_⟩⟩⟩⟩
      · rw [upd_ne (ne_of_none hb2 hD4)]
        exact s4 _ _ (s3 _ _ hb2)
      · rw [upd_same, et, List.map_append]
        rfl
    rintro H4 ⟨s4, hD4l⟩
    rw [ly, List.take_of_length_le (Nat.le_refl _)] at hD4l
    have s04 := s02.trans s4
    have ho4 := s4 _ _ ho2
    have ha4 := s4 _ _ ha2
    have hT4 := hT2.same s4
    have hQ4 := hQ2.same s4
    -- left
    refine ⟨_, rfl, o, rfl, ⟨_, SqL.of ho4⟩, fun D5 hD5 => ?_⟩
    refine lc_list (K := K) (a := o) (xs := ys) (fun i H' => ∃ us : List V, Same H4 H' ∧ H' D5 = some (.lst us) ∧ us.length ≤ i ∧ QL H' us (leftL rs (zs.take i))) ⟨[], same_new hD5, upd_same, Nat.le_refl _, .nil⟩ (fun i H' _ ⟨_, s, _⟩ => SqL.of (s _ _ ho4)) ?_ ?_
    · rintro i x H5 hx ⟨us, s5, hUl, ul, qu⟩
      have hil : i < ys.length := (List.getElem?_eq_some_iff.mp hx).1
      obtain ⟨t, q, rfl, hqi, hqa⟩ := (hQ4.same s5).at_ hx
      have et : zs.take (i + 1) = zs.take i ++ [q] := by rw [List.take_add_one, hqi]; rfl
      have en : leftL rs (zs.take (i + 1)) = leftL rs (zs.take i) ++ (if (!decide (q ∈ famQ rs)) = true then [q] else []) := by
        rw [et]
        unfold leftL
        rw [List.filter_append, List.filter_cons, List.filter_nil]
      rw [en]
      refine ⟨rfl, Exists.intro _ ⟨rfl, Exists.intro _ ⟨rfl, r, t, xs, rs, q, rfl, s5 _ _ ha4, hT4.same s5, hR, by omega, hqa, az.qz q (List.mem_of_getElem? hqi), fun H6 s6 => ⟨_, rfl, ?_⟩⟩⟩⟩
      have s56 := s5.trans s6
      cases hb : decide (q ∈ famQ rs) with
      | true =>
        refine iteF ?_
        exact ⟨us, s56, s6 _ _ hUl, by omega, by simpa using qu.same s6⟩
      | false =>
        refine iteT ?_
        refine ⟨_, rfl, us, s6 _ _ hUl, small1000 (by omega), us ++ [.ref t], fun b' o' hb2 => ?_, upd_same, by rw [List.length_append]; simp; omega, ?_⟩
        · rw [upd_ne (ne_of_none hb2 hD5)]
          exact s56 _ _ hb2
        · exact QL.off (xs := us) (s6 _ _ hUl) ((qu.same s6).snoc (q := q) (hqa.same s6))
    rintro H5 ⟨us5, s5, hD5l, u5l, qu5⟩
    rw [ly, List.take_of_length_le (Nat.le_refl _)] at qu5
    have s05 := s04.trans s5
    have hD4l5 := s5 _ _ hD4l
    have ho5 := s5 _ _ ho4
    have ha5 := s5 _ _ ha4
    have hT5 := hT4.same s5
    have hQ5 := hQ4.same s5
    -- lone
    refine ⟨_, rfl, _, _, rfl, .inl (SqL.of ha5), rs.length, by rw [lx], by omega, by omega, fun D7 hD7 => ?_⟩
    have stp7 : ∀ i, ((List.range (i + 1)).filter fun k => decide (zs.filter (fun q => srvAt rs q k) = [])) = ((List.range i).filter fun k => decide (zs.filter (fun q => srvAt rs q k) = [])) ++ if decide (zs.filter (fun q => srvAt rs q i) = []) = true then [i] else [] := fun i => by
      rw [List.range_succ, List.filter_append]
      congr 1
      rw [List.filter_cons, List.filter_nil]
    refine lc_range (lo := 0) (n := rs.length) (fun i H' => Same H5 H' ∧ H' D7 = some (.lst (((List.range i).filter fun k => decide (zs.filter (fun q => srvAt rs q k) = [])).map vN))) ⟨same_new hD7, upd_same⟩ ?_ ?_
    · rintro k H6 hk ⟨s6, hD7l⟩
      rw [show (0 : Int) + (k : Int) = (k : Int) from Int.zero_add _]
      have ho6 := s6 _ _ ho5
      have ha6 := s6 _ _ ha5
      refine ⟨rfl, ?_⟩
      refine ⟨_, rfl, o, rfl, ⟨_, SqL.of ho6⟩, fun Di hDi => ?_⟩
      obtain ⟨xk, hxk⟩ : ∃ x, xs[k]? = some x := ⟨xs[k], List.getElem?_eq_getElem (by omega)⟩
      obtain ⟨tk0, rk, rfl, hrk, htk⟩ := (hT5.same s6).at_ hxk
      have Rk := hR rk (List.mem_of_getElem? hrk)
      refine lc_list (K := K) (a := o) (xs := ys) (fun i H' => ∃ us : List V, Same H6 H' ∧ H' Di = some (.lst us) ∧ us.length ≤ i ∧ QL H' us ((zs.take i).filter fun q => srvAt rs q k)) ⟨[], same_new hDi, upd_same, Nat.le_refl _, .nil⟩ (fun i H' _ ⟨_, s, _⟩ => SqL.of (s _ _ ho6)) ?_ ?_
      · rintro i x H7 hx ⟨us, s7, hUl, ul, qu⟩
        have hil : i < ys.length := (List.getElem?_eq_some_iff.mp hx).1
        obtain ⟨t, q, rfl, hqi, hqa⟩ := ((hQ5.same s6).same s7).at_ hx
        have Z := az.qz q (List.mem_of_getElem? hqi)
        have et : zs.take (i + 1) = zs.take i ++ [q] := by rw [List.take_add_one, hqi]; rfl
        have es : srvAt rs q k = decide (fault rk q.1 q.2 = none) := by unfold srvAt; rw [hrk]
        rw [et, List.filter_append, List.filter_cons, List.filter_nil, es]
        refine ⟨rfl, Exists.intro _ ⟨rfl, Exists.intro _ ⟨rfl, rIx k (s7 _ _ ha6) hxk ?_⟩⟩⟩
        refine Exists.intro _ ⟨rfl, tk0, t, rk, q.1, q.2, rfl, s7 _ _ htk, hqa, Z.m.le, Rk.le, Rk.nd, Rk.sub, Z.m.nd, Z.m.srt, Z.m.sub, Z.m.esub, fun H8 s8 => ⟨_, rfl, ?_⟩⟩
        have s78 := s7.trans s8
        cases hb : decide (fault rk q.1 q.2 = none) with
        | true =>
          refine iteT ?_
          refine ⟨_, rfl, us, s8 _ _ hUl, small1000 (by omega), us ++ [.ref t], fun b' o' hb2 => ?_, upd_same, by rw [List.length_append]; simp; omega, ?_⟩
          · rw [upd_ne (ne_of_none hb2 hDi)]
            exact s78 _ _ hb2
          · exact QL.off (xs := us) (s8 _ _ hUl) ((qu.same s8).snoc (q := q) (hqa.same s8))
        | false =>
          refine iteF ?_
          exact ⟨us, s78, s8 _ _ hUl, by omega, by simpa using qu.same s8⟩
      · rintro H7 ⟨us, s7, hUl, ul, qu⟩
        rw [ly, List.take_of_length_le (Nat.le_refl _)] at qu
        refine ⟨by decide, fun e he => ?_⟩
        have se := same_new (o := .lst []) he
        have ff : ∀ q ∈ zs.filter (fun q => srvAt rs q k), Qfine q := fun q hq => (az.qz q (List.mem_filter.mp hq).1).fine
        have fl : (zs.filter (fun q => srvAt rs q k)).length ≤ 24 := Nat.le_trans (List.length_filter_le _ _) lz
        refine ⟨.list ((zs.filter fun q => srvAt rs q k).map dq), .list [], .lst (SqL.of (se _ _ hUl)) (qu.same se).dp, .lst (SqL.of upd_same) .nil, (dok_qs ff (by omega)).shaped, by decide +kernel, ?_⟩
        rw [eqv_nilQ]
        have s67 := s7.trans se
        have hD7e := s67 _ _ hD7l
        refine ⟨_, rfl, ?_⟩
        rw [stp7]
        have fl7 := List.length_filter_le (fun k => decide (zs.filter (fun q => srvAt rs q k) = [])) (List.range k)
        rw [List.length_range] at fl7
        cases hb : decide (zs.filter (fun q => srvAt rs q k) = []) with
        | true =>
          refine iteT ?_
          refine ⟨_, rfl, _, hD7e, small1000 (by rw [List.length_map]; omega), fun b o hb2 => ?_, ?_⟩
          · rw [upd_ne (ne_of_none hb2 hD7)]
            exact s67 _ _ (s6 _ _ hb2)
          · rw [upd_same, List.map_append]
            rfl
        | false =>
          refine iteF ?_
          exact ⟨s6.trans s67, by rw [hD7e]; simp⟩
    rintro H6 ⟨s6, hD7l⟩
    rw [idle_due] at hD7l
    have s06 := s05.trans s6
    -- drops
    refine ⟨by decide, fun D8 hD8 => ?_⟩
    have s8 := same_new (o := .lst []) hD8
    have hD4l6 := s6 _ _ hD4l5
    have hD5l6 := s6 _ _ hD5l
    have qu6 := qu5.same s6
    have ha6 := s6 _ _ ha5
    have ho6 := s6 _ _ ho5
    have hT6 := hT5.same s6
    have hQ6 := hQ5.same s6
    have hS6 := hS2.same (s4.trans (s5.trans s6))
    have hA6 := hA2.same (s4.trans (s5.trans s6))
    have lf : ∀ q ∈ leftL rs zs, Qfine q := fun q hq => (az.qz q (List.mem_filter.mp hq).1).fine
    have ll : (leftL rs zs).length ≤ 24 := Nat.le_trans (List.length_filter_le _ _) lz
    have stp8 : ∀ i, ((List.range (i + 1)).filter fun k => decide (leftL (lessR rs k) zs = leftL rs zs)) = ((List.range i).filter fun k => decide (leftL (lessR rs k) zs = leftL rs zs)) ++ if decide (leftL (lessR rs i) zs = leftL rs zs) = true then [i] else [] := fun i => by
      rw [List.range_succ, List.filter_append]
      congr 1
      rw [List.filter_cons, List.filter_nil]
    refine ⟨fun σ' H' => (∃ v6 v9, σ' = [some (.ref r), some (.ref o), some (.ref shelf), some (.ref asked), some (.ref D4), some (.ref D5), v6, some (.ref D7), some (.ref D8), v9, none, none, none, none, none]) ∧ Same H6 H' ∧ H' D8 = some (.lst ((dropL rs zs).map vN)), ?_, ?_⟩
    · refine ⟨_, rfl, _, _, rfl, .inl (SqL.of (s8 _ _ ha6)), rs.length, by rw [lx], by omega, by omega, ?_⟩
      refine for_range (lo := 0) (n := rs.length) (fun i σ H' => (∃ v6 v9, σ = [some (.ref r), some (.ref o), some (.ref shelf), some (.ref asked), some (.ref D4), some (.ref D5), v6, some (.ref D7), some (.ref D8), v9, none, none, none, none, none]) ∧ Same H6 H' ∧ H' D8 = some (.lst (((List.range i).filter fun k => decide (leftL (lessR rs k) zs = leftL rs zs)).map vN)))
        ⟨⟨_, _, rfl⟩, s8, upd_same⟩ ?_ ?_
      · rintro k σ H9 hk ⟨⟨v6, v9, rfl⟩, s9, hD8l⟩
        rw [show (0 : Int) + (k : Int) = (k : Int) from Int.zero_add _]
        have ha9 := s9 _ _ ha6
        refine ⟨_, rfl, _, rfl, _, rfl, r, _, rfl, SqL.of ha9, fun p1 hp1 => ?_⟩
        rw [cut_to k xs]
        have s10 := same_new (o := .lst (xs.take k)) hp1
        refine ⟨_, rfl, _, rfl, _, _, rfl, rfl, _, rfl, r, _, rfl, SqL.of (s10 _ _ ha9), fun p2 hp2 => ?_⟩
        rw [cut_behind k xs]
        have s11 := same_new (o := .lst (xs.drop (k + 1))) hp2
        have lt1 : (xs.take k).length ≤ 24 := by rw [List.length_take]; omega
        have lt2 : (xs.drop (k + 1)).length ≤ 24 := by rw [List.length_drop]; omega
        refine ⟨p1, p2, _, _, rfl, rfl, s11 _ _ upd_same, upd_same, by rw [sizeLine_eq]; omega, fun p3 hp3 => ?_⟩
        have s12 := same_new (o := .lst (xs.take k ++ xs.drop (k + 1))) hp3
        have s912 := s10.trans (s11.trans s12)
        have hp3l := upd_same (H := upd (upd H9 p1 (.lst (xs.take k))) p2 (.lst (xs.drop (k + 1)))) (a := p3) (o := .lst (xs.take k ++ xs.drop (k + 1)))
        have s612 := s9.trans s912
        have hD8l12 := s912 _ _ hD8l
        generalize upd (upd (upd H9 p1 (.lst (xs.take k))) p2 (.lst (xs.drop (k + 1)))) p3 (.lst (xs.take k ++ xs.drop (k + 1))) = H12 at s12 s912 hp3l s612 hD8l12 ⊢
        have hT12 : TL H12 (xs.take k ++ xs.drop (k + 1)) (lessR rs k) := paired_app (TL.same s612 (paired_takeL k hT6)) (TL.same s612 (paired_dropL (k + 1) hT6))
        have hRl : ∀ z ∈ lessR rs k, Row z := fun z hz => by
          obtain ⟨i, _, hi⟩ := mem_less.mp hz
          exact hR z (List.mem_of_getElem? hi)
        have lless : (lessR rs k).length ≤ 48 := by
          have := hT12.len
          rw [List.length_append] at this
          omega
        have ho12 := s612 _ _ ho6
        have hQ12 := hQ6.same s612
        refine ⟨_, rfl, o, rfl, ⟨_, SqL.of ho12⟩, fun Di hDi => ?_⟩
        refine lc_list (K := K) (a := o) (xs := ys) (fun i H' => ∃ us : List V, Same H12 H' ∧ H' Di = some (.lst us) ∧ us.length ≤ i ∧ QL H' us (leftL (lessR rs k) (zs.take i))) ⟨[], same_new hDi, upd_same, Nat.le_refl _, .nil⟩ (fun i H' _ ⟨_, s, _⟩ => SqL.of (s _ _ ho12)) ?_ ?_
        · rintro i x H13 hx ⟨us, s13, hUl, ul, qu⟩
          have hil : i < ys.length := (List.getElem?_eq_some_iff.mp hx).1
          obtain ⟨t, q, rfl, hqi, hqa⟩ := (hQ12.same s13).at_ hx
          have et : zs.take (i + 1) = zs.take i ++ [q] := by rw [List.take_add_one, hqi]; rfl
          have en : leftL (lessR rs k) (zs.take (i + 1)) = leftL (lessR rs k) (zs.take i) ++ (if (!decide (q ∈ famQ (lessR rs k))) = true then [q] else []) := by
            rw [et]
            unfold leftL
            rw [List.filter_append, List.filter_cons, List.filter_nil]
          rw [en]
          refine ⟨rfl, Exists.intro _ ⟨rfl, Exists.intro _ ⟨rfl, p3, t, _, lessR rs k, q, rfl, s13 _ _ hp3l, hT12.same s13, hRl, lless, hqa, az.qz q (List.mem_of_getElem? hqi), fun H14 s14 => ⟨_, rfl, ?_⟩⟩⟩⟩
          have s1314 := s13.trans s14
          cases hb : decide (q ∈ famQ (lessR rs k)) with
          | true =>
            refine iteF ?_
            exact ⟨us, s1314, s14 _ _ hUl, by omega, by simpa using qu.same s14⟩
          | false =>
            refine iteT ?_
            refine ⟨_, rfl, us, s14 _ _ hUl, small1000 (by omega), us ++ [.ref t], fun b' o' hb2 => ?_, upd_same, by rw [List.length_append]; simp; omega, ?_⟩
            · rw [upd_ne (ne_of_none hb2 hDi)]
              exact s1314 _ _ hb2
            · exact QL.off (xs := us) (s14 _ _ hUl) ((qu.same s14).snoc (q := q) (hqa.same s14))
        · rintro H13 ⟨us, s13, hUl, ul, qu⟩
          rw [ly, List.take_of_length_le (Nat.le_refl _)] at qu
          have s613 := s612.trans s13
          have lf2 : ∀ q ∈ leftL (lessR rs k) zs, Qfine q := fun q hq => (az.qz q (List.mem_filter.mp hq).1).fine
          have ll2 : (leftL (lessR rs k) zs).length ≤ 24 := Nat.le_trans (List.length_filter_le _ _) lz
          refine ⟨_, rfl, .list ((leftL (lessR rs k) zs).map dq), .list ((leftL rs zs).map dq), .lst (SqL.of hUl) qu.dp, .lst (SqL.of (s613 _ _ hD5l6)) (qu6.same s613).dp, (dok_qs lf2 (by omega)).shaped, (dok_qs lf (by omega)).shaped, _, rfl, ?_⟩
          rw [eqv_qs, stp8]
          have hD8e := s13 _ _ hD8l12
          have fl8 := List.length_filter_le (fun k => decide (leftL (lessR rs k) zs = leftL rs zs)) (List.range k)
          rw [List.length_range] at fl8
          cases hb : decide (leftL (lessR rs k) zs = leftL rs zs) with
          | true =>
            refine iteT ?_
            refine ⟨_, rfl, .inl ⟨rfl, _, SqL.of hD8e⟩, _, rfl, D8, _, _, rfl, rfl, hD8e, small1000 (by rw [List.length_map]; omega), ⟨_, _, rfl⟩, fun b o' hb2 => ?_, ?_⟩
            · rw [upd_ne (ne_of_none hb2 hD8)]
              exact s613 _ _ hb2
            · rw [upd_same, List.map_append]
              rfl
          | false =>
            refine iteF ?_
            exact ⟨⟨_, _, rfl⟩, s613, by rw [hD8e]; simp⟩
      · rintro σ H9 ⟨⟨v6, v9, rfl⟩, s9, hD8l⟩
        rw [drop_due hR az.qz] at hD8l
        exact ⟨⟨_, _, rfl⟩, s9, hD8l⟩
    rintro σ H9 ⟨⟨v6, v9, rfl⟩, s9, hD8l⟩
    -- twice
    have s09 := s06.trans s9
    have hS9 := hS6.same s9
    have hA9 := hA6.same s9
    have em : (zs.map fun q => optV (firstN rs q)) = (zs.map (firstN rs)).map optV := by rw [List.map_map]; rfl
    have c1 : (idleL rs zs).length ≤ 24 := Nat.le_trans (List.length_filter_le _ _) (by rw [List.length_range]; exact lr)
    have c2 : (dropL rs zs).length ≤ 24 := Nat.le_trans (List.length_filter_le _ _) (by rw [List.length_range]; exact lr)
    rw [em] at hD4l6
    refine ⟨fun σ' H' => (∃ v6 v9 v10 v11 v12, σ' = [some (.ref r), some (.ref o), some (.ref shelf), some (.ref asked), some (.ref D4), some (.ref D5), v6, some (.ref D7), some (.ref D8), v9, v10, v11, v12, none, none]) ∧ Same H9 H', ?_, ?_⟩
    · refine ⟨2, rfl, by decide, by decide, ?_⟩
      refine for_range (lo := 0) (n := 2) (fun i σ H' => (∃ v6 v9 v10 v11 v12, σ = [some (.ref r), some (.ref o), some (.ref shelf), some (.ref asked), some (.ref D4), some (.ref D5), v6, some (.ref D7), some (.ref D8), v9, v10, v11, v12, none, none]) ∧ Same H9 H')
        ⟨⟨_, _, _, _, _, rfl⟩, Same.refl _⟩ ?_ (fun σ H' h => h)
      rintro i σ G hi ⟨⟨v6, v9, v10, v11, v12, rfl⟩, sG⟩
      refine ⟨_, rfl, _, rfl, shelf, asked, rs, zs, rfl, hS9.same sG, hA9.same sG, hR, by omega, az.qz, by omega, fun H10 pA s10 nA hpA => ?_⟩
      have g10 := s10
      refine ⟨_, rfl, _, rfl, shelf, asked, rs, zs, rfl, (hS9.same sG).same g10, (hA9.same sG).same g10, hR, az, by omega, fun H11 x11 u11 s11 h11 D11 => ?_⟩
      have qz11 : QZs (zs.filter fun q => !decide (q ∈ famQ rs)) := fun z hz => az.qz z (List.mem_filter.mp hz).1
      have e11 : u11 = leftL rs zs := asc_eq (D11.asc qz11) ⟨az.nd.sublist List.filter_sublist, az.up.sublist List.filter_sublist, qz11⟩ D11.mem
      rw [e11] at h11
      obtain ⟨l11, y11, ⟨d11, i11, j11⟩, k11⟩ := id h11
      refine ⟨_, _, _, rfl, i11, rfl, ?_⟩
      refine ⟨x11, _, rfl, h11, fun pB xB H12 s12 nB hpB qB => ?_⟩
      have g11 := g10.trans s11
      have g12 := g11.trans s12
      refine ⟨by show 2 ≤ sizeLine; decide, fun f1 hf1 => ?_⟩
      have s13 := same_new (o := .lst [.ref pA, .ref pB]) hf1
      have g13 := g12.trans s13
      have f1l := upd_same (H := H12) (a := f1) (o := .lst [.ref pA, .ref pB])
      generalize upd H12 f1 (.lst [.ref pA, .ref pB]) = H13 at s13 g13 f1l ⊢
      refine ⟨_, rfl, _, rfl, _, rfl, shelf, asked, rs, zs, rfl, (hS9.same sG).same g13, (hA9.same sG).same g13, hR, lr, az.qz, by omega, fun H14 pC s14 nC hpC => ?_⟩
      have g14 := g13.trans s14
      refine ⟨_, rfl, _, rfl, shelf, asked, rs, zs, rfl, (hS9.same sG).same g14, (hA9.same sG).same g14, hR, by omega, az.qz, by omega, fun H15 pD s15 nD hpD => ?_⟩
      have g15 := g14.trans s15
      refine ⟨by show 2 ≤ sizeLine; decide, fun f2 hf2 => ?_⟩
      have s16 := same_new (o := .lst [.ref pC, .ref pD]) hf2
      have f2l := upd_same (H := H15) (a := f2) (o := .lst [.ref pC, .ref pD])
      refine ⟨f1, f2, _, _, rfl, rfl, s16 _ _ (s15 _ _ (s14 _ _ f1l)), f2l, by show 4 ≤ sizeLine; decide, fun f3 hf3 => ?_⟩
      have s17 := same_new (o := .lst ([.ref pA, .ref pB] ++ [.ref pC, .ref pD])) hf3
      have f3l := upd_same (H := upd H15 f2 (.lst [.ref pC, .ref pD])) (a := f3) (o := .lst ([.ref pA, .ref pB] ++ [.ref pC, .ref pD]))
      have s1517 := s16.trans s17
      have g17 := g15.trans s1517
      have nf3 : ∀ {b o}, H15 b = some o → b ≠ f3 := fun hb => ne_of_none (s16 _ _ hb) hf3
      have hA15 := s15 _ _ (s14 _ _ (s13 _ _ (s12 _ _ (s11 _ _ hpA))))
      have hB15 := s15 _ _ (s14 _ _ (s13 _ _ hpB))
      have hC15 := s15 _ _ hpC
      have qB15 := ((qB.same s13).same s14).same s15
      have fA := nf3 hA15
      have fB := nf3 hB15
      have fC := nf3 hC15
      have fD := nf3 hpD
      have GA : G pA = none := nA
      have GB : G pB = none := g11.free nB
      have GC : G pC = none := g13.free nC
      have GD : G pD = none := g14.free nD
      generalize upd (upd H15 f2 (.lst [.ref pC, .ref pD])) f3 (.lst ([.ref pA, .ref pB] ++ [.ref pC, .ref pD])) = H17 at s17 f3l s1517 g17 ⊢
      refine ⟨_, rfl, _, rfl, _, rfl, _, rfl, _, rfl, by show 4 ≤ sizeLine; decide, fun f4 hf4 => ?_⟩
      have s18 := same_new (o := .lst [.ref D4, .ref D5, .ref D7, .ref D8]) hf4
      have g9 := sG.trans (g17.trans s18)
      have s1518 := s1517.trans s18
      rw [em] at hA15
      refine ⟨.ref f3, .ref f4, dFour rs zs, rfl, .lst (SqL.of (s18 _ _ f3l)) (.cons (.lst (SqL.of (s1518 _ _ hA15)) (dp_os _)) (.cons (.lst (SqL.of (s1518 _ _ hB15)) (qB15.same s1518).dp) (.cons (.lst (SqL.of (s1518 _ _ hC15)) (dp_ns _)) (.cons (.lst (SqL.of (s1518 _ _ hpD)) (dp_ns _)) .nil)))),
        .lst (SqL.of upd_same) (.cons (.lst (SqL.of (g9 _ _ (s9 _ _ hD4l6))) (dp_os _)) (.cons (.lst (SqL.of (g9 _ _ (s9 _ _ hD5l6))) ((qu6.same s9).same g9).dp) (.cons (.lst (SqL.of (g9 _ _ (s9 _ _ hD7l))) (dp_ns _)) (.cons (.lst (SqL.of (g9 _ _ hD8l)) (dp_ns _)) .nil)))), dok_four az.qz lr lz, ⟨_, rfl, ?_⟩⟩
      refine iteF ?_
      -- each part grows
      have f3l18 := s18 _ _ f3l
      have hA18 := s1518 _ _ hA15
      have hB18 := s1518 _ _ hB15
      have hC18 := s1518 _ _ hC15
      have hD18 := s1518 _ _ hpD
      have lxB := qB.len
      have g18 := g17.trans s18
      generalize upd H17 f4 (.lst [.ref D4, .ref D5, .ref D7, .ref D8]) = H18 at f3l18 hA18 hB18 hC18 hD18 g18 ⊢
      refine ⟨_, rfl, f3, rfl, ⟨_, SqL.of f3l18⟩, for_list (K := K) (a := f3) (xs := [.ref pA, .ref pB] ++ [.ref pC, .ref pD]) (fun j σ H' => (∃ v12, σ = [some (.ref r), some (.ref o), some (.ref shelf), some (.ref asked), some (.ref D4), some (.ref D5), v6, some (.ref D7), some (.ref D8), v9, some (.int (0 + (i : Int))), some (.ref f3), v12, none, none]) ∧ Same G H' ∧ H' f3 = some (.lst ([.ref pA, .ref pB] ++ [.ref pC, .ref pD])) ∧ ∀ p, p = pA ∨ p = pB ∨ p = pC ∨ p = pD → ∃ l, H' p = some (.lst l) ∧ l.length ≤ 50 + j)
        ⟨⟨_, rfl⟩, g18, f3l18, ?_⟩ (fun j σ H' _ h => SqL.of h.2.2.1) ?_ ?_⟩
      · rintro p (rfl | rfl | rfl | rfl)
        · exact ⟨_, hA18, by rw [List.length_map, List.length_map]; omega⟩
        · exact ⟨_, hB18, by omega⟩
        · exact ⟨_, hC18, by rw [List.length_map]; omega⟩
        · exact ⟨_, hD18, by rw [List.length_map]; omega⟩
      · rintro j x σ H19 hx ⟨⟨v12, rfl⟩, g19, f3l19, all⟩
        have jl : j < 4 := (List.getElem?_eq_some_iff.mp hx).1
        have four : ∃ p, x = .ref p ∧ (p = pA ∨ p = pB ∨ p = pC ∨ p = pD) := by
          have := List.mem_of_getElem? hx
          simp only [List.cons_append, List.nil_append, List.mem_cons, List.not_mem_nil, or_false] at this
          rcases this with rfl | rfl | rfl | rfl
          · exact ⟨_, rfl, .inl rfl⟩
          · exact ⟨_, rfl, .inr (.inl rfl)⟩
          · exact ⟨_, rfl, .inr (.inr (.inl rfl))⟩
          · exact ⟨_, rfl, .inr (.inr (.inr rfl))⟩
        obtain ⟨p, rfl, hp4⟩ := four
        obtain ⟨l, hl, ll'⟩ := all p hp4
        have Gp : G p = none := by
          rcases hp4 with rfl | rfl | rfl | rfl <;> assumption
        have pf3 : p ≠ f3 := by
          rcases hp4 with rfl | rfl | rfl | rfl <;> assumption
        refine ⟨_, rfl, .inl ⟨rfl, _, SqL.of hl⟩, _, _, _, rfl, rfl, hl, small1000 (by omega), ⟨_, rfl⟩, fun b o' hb => ?_, by rw [upd_ne pf3.symm]; exact f3l19, fun p2 hp2 => ?_⟩
        · rw [upd_ne (ne_of_none hb Gp)]
          exact g19 _ _ hb
        · by_cases e : p2 = p
          · exact ⟨_, by rw [e]; exact upd_same, by rw [List.length_append]; simp; omega⟩
          · obtain ⟨l2, hl2, ll2⟩ := all p2 hp2
            exact ⟨l2, by rw [upd_ne e]; exact hl2, by omega⟩
      · rintro σ H19 ⟨⟨v12, rfl⟩, g19, f3l19, all⟩
        exact ⟨⟨_, _, _, _, _, rfl⟩, sG.trans g19⟩
    rintro σ G ⟨⟨v6', v9', v10, v11, v12, rfl⟩, sG⟩
    have sE := s09.trans sG
    have haE := sE _ _ ha
    have hoE := sE _ _ ho
    have hTE := hT.same sE
    have hQE := hQ.same sE
    have hSE := hS9.same sG
    have hAE := hA9.same sG
    refine ⟨_, rfl, _, rfl, fun x20 dx3 nx3 ndx3 nex3 => mkS (rs := rs) haE hTE (by omega) hR nx3 ndx3 fun H20 s20 h20 => ⟨rfl, ?_⟩⟩
    refine reqS SC.T SC.nf (hSE.same s20) h20 hR (by omega) ⟨_, rfl, ?_⟩
    refine iteT ?_
    refine ⟨_, rfl, _, rfl, fun x21 dx4 nx4 ndx4 nex4 => mkA (qs := zs) (s20 _ _ hoE) (hQE.same s20) (by omega) az.qz nx4 ndx4 fun H21 u21 s21 h21 au21 lu21 mu21 => ⟨rfl, ?_⟩⟩
    have s2021 := s20.trans s21
    rw [asc_eq au21 az mu21] at h21
    refine req AC.T AC.nf (hAE.same s2021) h21 az.qz az.qz (by omega) (by omega) rfl ⟨_, rfl, ?_⟩
    refine iteT ?_
    refine ⟨_, rfl, by decide, fun e1 he1 => fun x22 dx5 nx5 ndx5 nex5 => mkA (qs := []) upd_same .nil (by decide) (fun q hq => nomatch hq) nx5 ndx5 fun H22 u22 s22 h22 au22 lu22 mu22 => ⟨rfl, ?_⟩⟩
    have se1 := same_new (o := .lst []) he1
    have u22e : u22 = [] := List.eq_nil_of_length_eq_zero (Nat.le_zero.mp lu22)
    rw [u22e] at h22 au22
    have s2022 := s2021.trans (se1.trans s22)
    refine ⟨shelf, x22, rs, [], rfl, hSE.same s2022, h22, hR, au22, by decide, fun H23 x23 u23 s23 h23 D23 => ?_⟩
    have u23e : u23 = [] := List.eq_nil_of_length_eq_zero (Nat.le_zero.mp D23.le)
    rw [u23e] at h23
    refine ⟨by decide, fun e2 he2 => fun x24 dx6 nx6 ndx6 nex6 => mkA (qs := []) upd_same .nil (by decide) (fun q hq => nomatch hq) nx6 ndx6 fun H24 u24 s24 h24 au24 lu24 mu24 => ⟨rfl, ?_⟩⟩
    have se2 := same_new (o := .lst []) he2
    have u24e : u24 = [] := List.eq_nil_of_length_eq_zero (Nat.le_zero.mp lu24)
    rw [u24e] at h24
    refine req AC.T AC.nf ((h23.same se2).same s24) h24 (fun q hq => nomatch hq) (fun q hq => nomatch hq) (by decide) (by decide) rfl ?_
    exact k _ (sE.trans (s2022.trans (s23.trans (se2.trans s24))))
theorem nm_q {a m : Nat} : ("q" : Str) ∉ nm a m := fun h => by
  have h1 := List.mem_of_mem_drop (List.mem_of_mem_take h)
  have : ("q" : Str) ∉ menu13 ++ menu13 := by decide +kernel
  exact this h1
def spNamesQ : Sp := fun vs H Q _ => ∃ (b l : Addr) (m : Nat), vs = [.ref b, .int (m : Int)] ∧ m ≤ 12 ∧ Bag H b l ∧
  ∀ (xs : List Str) (p : Addr) (H' : Hp), xs.Nodup → (∀ c ∈ xs, c ∈ menu) → ("q" : Str) ∉ xs → xs.length = m → p ≠ b → H' p = some (.lst (xs.map V.str)) → Bag H' b l → Kp b H H' → Q (.ref p) H'
theorem ok_namesQ {f : Addr} {fd : FuncData} (F : Fun K "_law_names" "_law_names" sNames f fd) (T : Txt K mg) (cT : Cal P w K mg base 1 "_law_take" ["_law_bag_here", "_law_upto"] spTake) : FnOk P w K mg base CX0 2 f fd ["_law_bag_here", "_law_many"] spNamesQ := by
  refine F.ok scNames (fun vs H Q E h => ?_) (fun cdv A outer s H vs Q E hr h => ?_)
  · obtain ⟨b, l, m, rfl, _⟩ := h
    rfl
  · obtain ⟨b, l, m, rfl, hm, B, k⟩ := h
    have nd := scNames.nd
    refine ⟨_, pss_cons (ps_set (i := 2) nd rfl (Or.inl rfl) (pe_split pe_str pe_str))
      (pss_cons (ps_set (i := 3) nd rfl (Or.inl rfl) (pe_call cT.G hr rfl cT.m cT.kp cT.b .nil pass0 (pa_cons (pv 0) (pa_cons pe_int pa_nil))))
      (pss_one (ps_ret (pe_slice sl_list (pe_op op_cat (pv 2) (pv 2)) (po_some (pv 3)) (po_some (pe_op op_add (pv 3) (pv 1))))))), ?_⟩
    refine ⟨⟨_, rfl⟩, "a b aa ab z zzzzzzzz job view power status ask quicklyx fghmndct", " ", rfl, rfl, rfl, by decide, fun p hp => ?_⟩
    rw [split13]
    have npb : p ≠ b := B.ne hp
    refine ⟨_, rfl, b, l, 13, rfl, B.new hp, by decide, by decide, fun j H1 hj B1 k1 => ?_⟩
    have hp1 := k1 _ _ upd_same npb
    refine ⟨_, rfl, _, rfl, p, p, _, _, rfl, rfl, hp1, hp1, by decide, fun q hq => ?_⟩
    refine ⟨_, rfl, _, rfl, _, rfl, _, rfl, _, _, rfl, rfl, _, rfl, q, _, rfl, SqL.of upd_same, fun r hr => ?_⟩
    have ej : ((j : Int) + (m : Int)) = ((j + m : Nat) : Int) := by omega
    have e1 : cutV (menu13.map V.str ++ menu13.map V.str) (some (j : Int)) (some ((j : Int) + (m : Int))) = (nm j m).map V.str := by
      rw [ej, ← List.map_append]
      exact cut_mid (by show j + m ≤ 26; omega)
    rw [e1]
    obtain ⟨f1, f2, f3⟩ := nm_facts (show j < 13 by omega) hm
    refine k (nm j m) r _ f1 f2 nm_q f3 ((B1.new hq).ne hr) upd_same ((B1.new hq).new hr) ((Kp.new hp).trans (k1.trans ((Kp.new hq).trans (Kp.new hr))))
def spShopQ : Sp := fun vs H Q _ => ∃ (b l : Addr) (wd mn : Nat), vs = [.ref b, .int (wd : Int), .int (mn : Int)] ∧ Bag H b l ∧ 0 < wd ∧ wd ≤ 11 ∧ 0 < mn ∧ mn ≤ 14 ∧
  ∀ (t nm ra sa : Addr) (xs : List Str) (ys : List V) (rs : List (List Str)) (zs : List V) (qs : List Qd) (H' : Hp), H' t = some (.tup [.ref nm, .ref ra, .ref sa]) → H' nm = some (.lst (xs.map V.str)) → Row xs → ("q" : Str) ∉ xs → xs.length ≤ 11 → H' ra = some (.lst ys) → TL H' ys rs → (∀ r ∈ rs, Row r) → rs.length ≤ 6 →
    H' sa = some (.lst zs) → QL H' zs qs → QZs qs → qs.length < mn + 6 → Bag H' b l → Kp b H H' → Q (.ref t) H'
theorem ok_shopQ {f : Addr} {fd : FuncData} (F : Fun K "_law_shop" "_law_shop" sShop f fd) (T : Txt K mg) (cT : Cal P w K mg base 1 "_law_take" ["_law_bag_here", "_law_upto"] spTake) (cN : Cal P w K mg base 2 "_law_names" ["_law_bag_here", "_law_many"] spNamesQ)
    (cI : Cal P w K mg base 3 "_law_index" ["_law_bag_here", "_law_names_here"] spIndex) (cS : Cal P w K mg base 3 "_law_questions" ["_law_bag_here", "_law_names_here", "_law_many"] spQuestions) (cQ : Cal P w K mg base 2 "_law_question_of" ["_law_bag_here", "_law_row"] spQOf) :
    FnOk P w K mg base CX0 4 f fd ["_law_bag_here", "_law_wide", "_law_many"] spShopQ := by
  refine F.ok scShop (fun vs H Q E h => ?_) (fun cdv A outer s H vs Q E hr h => ?_)
  · obtain ⟨b, l, wd, mn, rfl, _⟩ := h
    rfl
  · obtain ⟨b, l, wd, mn, rfl, B, hw0, hw, hm0, hm, k⟩ := h
    have nd := scShop.nd
    have hr1 : Room 1 _ := hr.mono (by decide)
    have hr2 : Room 2 _ := hr.mono (by decide)
    refine ⟨_, pss_cons (ps_set (i := 3) nd rfl (by first | exact Or.inl rfl | exact Or.inr rfl) (pe_call cN.G hr2 rfl cN.m cN.kp cN.b .nil pass0 (pa_cons (pv 0) (pa_cons (pe_op op_add pe_int (pe_call cT.G hr1 rfl cT.m cT.kp cT.b .nil pass0 (pa_cons (pv 0) (pa_cons (pv 1) pa_nil)))) pa_nil))))
      (pss_cons (ps_setLc (i := 4) (own := [("_law_k", 7)]) (g := gName 7) (tt := tYes) rfl nd rfl (by rfl) (sw_true rfl (by rfl) rfl (by decide)) (pi_range1 (by rfl) T.range (pa_cons (pe_call cT.G hr1 rfl cT.m cT.kp cT.b .nil pass0 (pa_cons (pv 0) (pa_cons pe_int pa_nil))) pa_nil)) (blkOk_by (N := nShop) (sc := defScope sShop) (by decide +kernel))
          (fun _ _ _ _ _ => pg_name (i := 7) nd rfl (by first | exact Or.inl rfl | exact Or.inr rfl)) (fun _ _ _ _ _ => pts_nil) (fun _ _ _ _ _ => pe_call cI.G hr rfl cI.m cI.kp cI.b .nil pass0 (pa_cons (pv 0) (pa_cons (pv 3) pa_nil))))
      (pss_cons (ps_set (i := 5) nd rfl (by first | exact Or.inl rfl | exact Or.inr rfl) (pe_call cS.G hr rfl cS.m cS.kp cS.b .nil pass0 (pa_cons (pv 0) (pa_cons (pv 3) (pa_cons (pe_call cT.G hr1 rfl cT.m cT.kp cT.b .nil pass0 (pa_cons (pv 0) (pa_cons (pv 2) pa_nil))) pa_nil)))))
      (pss_cons (ps_for PassesOwn.never rfl (pi_list (pv 4)) (pg_name (i := 6) nd rfl (by first | exact Or.inl rfl | exact Or.inr rfl))
        (pss_one (ps_if (pt_cmpR op_eq (pe_call cT.G hr1 rfl cT.m cT.kp cT.b .nil pass0 (pa_cons (pv 0) (pa_cons pe_int pa_nil))) pe_int (nomark _))
          (pss_one (ps_expr (pe_bm PySem.F.plainAttrs_list PySem.F.slot_list_append PySem.F.type_list_append mt_append (pv 5) (pa_cons (pe_call cQ.G hr2 rfl cQ.m cQ.kp cQ.b .nil pass0 (pa_cons (pv 0) (pa_cons (pv 6) pa_nil))) pa_nil)))) pss_nil)))
      (pss_one (ps_ret (pe_tup (pa_cons (pv 3) (pa_cons (pv 4) (pa_cons (pv 5) pa_nil))))))))), ?_⟩
    refine ⟨_, rfl, _, rfl, _, rfl, b, l, (wd : Int), rfl, B, by omega, by omega, fun j H1 hj B1 k1 => ⟨_, _, rfl, rfl, b, l, 1 + j, rfl, by omega, B1, fun xs nm H2 xnd xsub xq xlen nmb hn2 B2 k2 => ?_⟩⟩
    have R : Row xs := ⟨xnd, xsub, by omega, by omega⟩
    have k02 := k1.trans k2
    refine ⟨_, rfl, b, l, 7, rfl, B2, by decide, by decide, fun m H3 hm3 B3 k3 => ⟨(m : Int), rfl, by omega, by omega, fun D hD => ?_⟩⟩
    have hn3 := k3 _ _ hn2 nmb
    have Db := B3.ne hD
    have lD := B3.nel hD
    have nD : nm ≠ D := ne_of_none hn3 hD
    have s4 := same_new (o := .lst []) hD
    have k03 := k02.trans k3
    have D0 : H D = none := by
      cases e : H D with
      | none => rfl
      | some o =>
        rw [k03 _ _ e Db] at hD
        cases hD
    refine lc_range (lo := 0) (n := m) (fun i H' => Bag H' b l ∧ Kp b H H' ∧ H' nm = some (.lst (xs.map V.str)) ∧ ∃ ys rs, H' D = some (.lst ys) ∧ TL H' ys rs ∧ (∀ r ∈ rs, Row r) ∧ ys.length = i) ⟨B3.same s4, k03.trans (Kp.of s4), s4 _ _ hn3, [], [], upd_same, .nil, (fun r hr => nomatch hr), rfl⟩ ?_ ?_
    · rintro i H4 hi ⟨B4, k4, hn4, ys, rs, hd4, hT, hR, hy⟩
      refine ⟨rfl, Exists.intro _ ⟨rfl, Exists.intro _ ⟨rfl, b, l, nm, xs, rfl, B4, nmb, hn4, R, fun t r H5 ht5 R5 hs5 B5 k5 => ?_⟩⟩⟩
      have hd5 := k5 _ _ hd4 Db
      refine ⟨ys, hd5, small1000 (by omega), B5.upd Db.symm lD, fun c o hc ncb => ?_, by rw [upd_ne nD]; exact k5 _ _ hn4 nmb, ys ++ [.ref t], rs ++ [r], upd_same, TL.off hd5 ((hT.kp B4 k5).snoc ht5), fun q hq => ?_, by rw [List.length_append, hy]; rfl⟩
      · rw [upd_ne (ne_of_none hc D0)]
        exact k5 _ _ (k4 _ _ hc ncb) ncb
      · rcases List.mem_append.mp hq with g | g
        · exact hR q g
        · rw [List.mem_singleton.mp g]
          exact R5
    · rintro H4 ⟨B4, k4, hn4, ys, rs, hd4, hT, hR, hy⟩
      have yl := hT.len
      refine ⟨_, rfl, _, rfl, _, rfl, _, rfl, b, l, (mn : Int), rfl, B4, by omega, by omega, fun n H5 hn B5 k5 => ?_⟩
      have hn5 := k5 _ _ hn4 nmb
      have hd5 := k5 _ _ hd4 Db
      have hT5 := hT.kp B4 k5
      refine ⟨b, l, nm, xs, n, rfl, B5, nmb, hn5, R, by omega, fun sa H6 hs0 sab lsa G => ?_⟩
      have hn6 := G.kp _ _ hn5 nmb
      have hd6 := G.kp _ _ hd5 Db
      have hT6 := hT5.kp B5 G.kp
      have nsa : nm ≠ sa := ne_of_none hn5 hs0
      have Dsa : D ≠ sa := ne_of_none hd5 hs0
      refine ⟨_, rfl, D, rfl, ⟨_, SqL.of hd6⟩, for_list (K := K) (a := D) (xs := ys) (fun i σ H' => (∃ v6 v7, σ = [some (.ref b), some (.int (wd : Int)), some (.int (mn : Int)), some (.ref nm), some (.ref D), some (.ref sa), v6, v7]) ∧ ∃ c : Nat, c ≤ n + i ∧ Grow H5 b l sa c H')
        ⟨⟨_, _, rfl⟩, n, Nat.le_refl _, G⟩ (fun i σ H' _ h => SqL.of ((h.2.choose_spec.2).kp _ _ hd5 Db)) ?_ ?_⟩
      · rintro i x σ H7 hx ⟨⟨v6, v7, rfl⟩, c, hc, G7⟩
        refine ⟨_, rfl, b, l, 2, rfl, G7.bag, by decide, by decide, fun j2 H8 hj2 B8 k8 => ⟨rfl, _, rfl, ?_⟩⟩
        have G8 := G7.step sab B8 k8
        refine ite2 (fun _ => ?_) (fun _ => ⟨⟨_, _, rfl⟩, c, by omega, G8⟩)
        obtain ⟨ysg, qsg, hg1, _⟩ := id G8.qs
        obtain ⟨t, r, rfl, hri, htr⟩ := (hT5.kp B5 G8.kp).at_ hx
        have Rr := hR r (List.mem_of_getElem? hri)
        refine ⟨_, rfl, .inl ⟨rfl, _, SqL.of hg1⟩, _, rfl, _, rfl, b, l, t, r, rfl, B8, B8.ne_tup htr, .inr htr, Rr, fun q cc e H9 hq9 ok9 B9 k9 => ?_⟩
        obtain ⟨us, g1, g2, g3⟩ := (G8.step sab B9 k9).push hs0 sab lsa hq9 (ok9.qz Rr)
        have hil : i < ys.length := (List.getElem?_eq_some_iff.mp hx).1
        exact ⟨sa, us, _, rfl, rfl, g1, small1000 (by omega), ⟨_, _, rfl⟩, c + 1, by omega, g3⟩
      · rintro σ H7 ⟨⟨v6, v7, rfl⟩, c, hc, G7⟩
        obtain ⟨zs, qs, hz1, hz2, hz3, hz4⟩ := id G7.qs
        refine ⟨_, rfl, _, rfl, _, rfl, by show 3 ≤ sizeLine; decide, fun t ht => ?_⟩
        have s8 := same_new (o := .tup [.ref nm, .ref D, .ref sa]) ht
        exact k t nm D sa xs ys rs zs qs _ upd_same (s8 _ _ (G7.kp _ _ hn5 nmb)) R xq (by omega) (s8 _ _ (G7.kp _ _ hd5 Db)) ((hT5.kp B5 G7.kp).same s8) hR (by omega) (s8 _ _ hz1) (hz2.same s8) hz3 (by omega) (G7.bag.same s8) ((k4.trans k5).trans (G7.kp.trans (Kp.of s8)))
/-- == with something of another class -/
def spNo (C' : Addr) : Sp := fun vs H Q _ => ∃ (a b dx : Addr) (fs : List (Str × V)), vs = [.ref a, .ref b] ∧ H b = some (.ins C' dx fs) ∧ Q (.bl false) H
theorem ok_aeqN {f C C' : Addr} {fd : FuncData} (F : Fun K "__eq__" "Asked.__eq__" sAEq f fd) (T : Txt K mg) (TC : TxA K mg C) (TO : TxC K mg C') (no : PySem.W.kitOne K (.ref C') (.ref C) = some false) : FnOk P w K mg base CX0 1 f fd ["self", "other"] (spNo C') := by
  refine F.ok scAEq (fun vs H Q E h => ?_) (fun cdv A outer s H vs Q E hr h => ?_)
  · obtain ⟨a, b, dx, fs, rfl, _⟩ := h
    rfl
  · obtain ⟨a, b, dx, fs, rfl, hb, k⟩ := h
    refine ⟨_, pss_one (ps_ret (pe_and (pe_callB call_isi (by rfl) T.isinstance (by decide +kernel) (pa_cons (pv 1) (pa_cons (pe_glob (v := .ref C) rfl TC.mgC rfl) pa_nil))) (pe_one (pe_cmpR (op_eqD hr.units) (pe_fld (pv 0) rfl) (pe_fld (pv 1) rfl) (nomark _))))), ?_⟩
    refine ⟨_, rfl, _, _, .ref C', .ref C, false, rfl, .own C, TO.ty hb, no, _, rfl, ?_⟩
    refine iteF ?_
    exact k
theorem ok_seqN {f C C' : Addr} {fd : FuncData} (F : Fun K "__eq__" "Shelf.__eq__" sEq f fd) (T : Txt K mg) (TC : TxC K mg C) (TO : TxA K mg C') (no : PySem.W.kitOne K (.ref C') (.ref C) = some false) : FnOk P w K mg base CX0 1 f fd ["self", "other"] (spNo C') := by
  refine F.ok scSEq (fun vs H Q E h => ?_) (fun cdv A outer s H vs Q E hr h => ?_)
  · obtain ⟨a, b, dx, fs, rfl, _⟩ := h
    rfl
  · obtain ⟨a, b, dx, fs, rfl, hb, k⟩ := h
    refine ⟨_, pss_one (ps_ret (pe_and (pe_callB call_isi (by rfl) T.isinstance (by decide +kernel) (pa_cons (pv 1) (pa_cons (pe_glob (v := .ref C) rfl TC.mgC rfl) pa_nil))) (pe_one (pe_cmpR (op_eqD hr.units) (pe_fld (pv 0) rfl) (pe_fld (pv 1) rfl) (nomark _))))), ?_⟩
    refine ⟨_, rfl, _, _, .ref C', .ref C, false, rfl, .own C, TO.ty hb, no, _, rfl, ?_⟩
    refine iteF ?_
    exact k
abbrev nLaw : List Str := ["_law_script", "_law_bag_here", "_law_turn", "_law_names_here", "_law_rows", "_law_some", "_law_more", "_law_question", "_law_k"]
theorem scLaw : FnScope nLaw ["_law_script"] (defScope sLaw) := ⟨rfl, rfl, rfl, by decide +kernel, rfl, by decide +kernel, by decide +kernel⟩
def spLaw (K : PySem.W.Frag) : Sp := fun vs H Q _ => ∃ (a : Addr) (ns : List Int), vs = [.ref a] ∧ SqL K H a (ns.map V.int) ∧ ns.length ≤ 63 ∧ ∀ H', Q (.bl true) H'
theorem ascq : Asc [("q" : Str)] := ⟨by decide, by decide +kernel, by decide +kernel, by decide⟩
theorem q1z : QZ [] ("q" : Str) := ascq.ranged (p := []) (List.nil_sublist _) List.mem_cons_self (by simp)
theorem Row.permQ {xs ys : List Str} (R : Row xs) (h : ys.Perm xs) : Row ys := ⟨h.nodup_iff.mpr R.nd, fun c hc => R.sub c (h.mem_iff.mp hc), by rw [h.length_eq]; exact R.pos, by rw [h.length_eq]; exact R.le⟩
theorem QL.perm25 {H : Hp} {xs ys : List V} {qs : List Qd} (h : QL H xs qs) (hp : ys.Perm xs) : ∃ rs, QL H ys rs ∧ rs.Perm qs := by
  refine ⟨ys.map (keyQ H), QL.of_keys fun y hy => ?_, by rw [← h.keys]; exact hp.map _⟩
  obtain ⟨t, z, e, at_, _⟩ := h.mem y (hp.mem_iff.mp hy)
  exact ⟨t, z, e, at_⟩
theorem q2z : QZ [("q" : Str)] "" := ascq.plain (List.Sublist.refl _) (by simp)
theorem Bag.ne_refs' {H : Hp} {b l p : Addr} {ys : List V} (B : Bag H b l) (hp : H p = some (.lst ys)) (h : ∀ y ∈ ys, ∃ t, y = V.ref t) (ne : ys ≠ []) : l ≠ p := fun e => by
  obtain ⟨h', m, q, ns, hb, hl, _⟩ := B
  rw [e, hp] at hl
  injection hl with hl
  injection hl with hl
  cases ns with
  | nil => exact ne hl
  | cons n ns =>
    obtain ⟨t, ht⟩ := h (.int n) (by rw [hl]; exact List.mem_cons_self)
    cases ht
theorem ok_law {f C CA : Addr} {fd : FuncData} (F : Fun K "law" "law" sLaw f fd) (T : Txt K mg) (AC : ACl P w K mg base CA) (SC : SCl P w K mg base C)
    (gEA : FnOk P w K mg base CX0 1 AC.fE AC.dE ["self", "other"] (spNo C)) (gES : FnOk P w K mg base CX0 1 SC.fE SC.dE ["self", "other"] (spNo CA)) (nfA : PySem.W.notFirst K CA (.ref C) = true) (nfS : PySem.W.notFirst K C (.ref CA) = true)
    (cB : Cal P w K mg base 1 "_law_bag" ["_law_script"] (spBag K))
    (cT : Cal P w K mg base 1 "_law_take" ["_law_bag_here", "_law_upto"] spTake)
    (cO : Cal P w K mg base 2 "_law_one" ["_law_bag_here", "_law_some"] spOne)
    (cM : Cal P w K mg base 2 "_law_mixed" ["_law_bag_here", "_law_things"] spMixed)
    (cN : Cal P w K mg base 2 "_law_names" ["_law_bag_here", "_law_many"] spNamesQ)
    (cQO : Cal P w K mg base 2 "_law_question_of" ["_law_bag_here", "_law_row"] spQOf)
    (cI : Cal P w K mg base 3 "_law_index" ["_law_bag_here", "_law_names_here"] spIndex)
    (cS : Cal P w K mg base 4 "_law_shop" ["_law_bag_here", "_law_wide", "_law_many"] spShopQ)
    (cE : Cal P w K mg base 1 "_law_every" ["_law_names_here"] spEvery)
    (cSi : CalG P w K mg base 7 "_law_single_right" ["_law_shelf", "_law_rows", "_law_question"] (spSingle C))
    (cAl : CalG P w K mg base 8 "_law_all_right" ["_law_rows", "_law_some"] spAllR) : FnG P w K mg base 9 f fd ["_law_script"] (spLaw K) := by
  refine okG F scLaw (fun vs H Q E h => ?_) (fun cdv A outer s H vs Q E hr hg h => ?_)
  · obtain ⟨a, ns, rfl, _⟩ := h
    rfl
  · obtain ⟨a, ns, rfl, hS, hlen, k⟩ := h
    have nd := scLaw.nd
    have hr1 : Room 1 _ := hr.mono (by decide)
    have hr2 : Room 2 _ := hr.mono (by decide)
    have hr3 : Room 3 _ := hr.mono (by decide)
    have hr4 : Room 4 _ := hr.mono (by decide)
    have hr6 : Room 6 _ := hr.mono (by decide)
    have hr7 : Room 7 _ := hr.mono (by decide)
    have hu80 : A.units + 3 + 80 < cLine := by
      have := hr.un
      have e : (A.deeper (envOfC "law" (defScope sLaw) s.heap.objs.size f cdv)).units = A.units + 3 := rfl
      omega
    have hu64 : A.units + 3 + 64 < cLine := by omega
    have hu16 : A.units + 3 + 16 < cLine := by omega
    refine ⟨_, (pss_cons (ps_set (i := 1) nd rfl (by first | exact Or.inl rfl | exact Or.inr rfl) (pe_call cB.G hr1 rfl cB.m cB.kp cB.b .nil pass0 (pa_cons (pv 0) pa_nil)))
      (Evl.pss_cut (ps_for PassesOwn.never rfl (pi_range1 (by rfl) T.range (pa_cons pe_int pa_nil)) (pg_name (i := 2) nd rfl (by first | exact Or.inl rfl | exact Or.inr rfl)) (pss_cons (ps_asg (pe_call cS.G hr4 rfl cS.m cS.kp cS.b .nil pass0 (pa_cons (pv 1) (pa_cons (pe_call cO.G hr2 rfl cO.m cO.kp cO.b .nil pass0 (pa_cons (pv 1) (pa_cons (pe_lst (pa_cons pe_int (pa_cons pe_int (pa_cons pe_int pa_nil)))) pa_nil))) (pa_cons pe_int pa_nil)))) (pg_tup (by rfl) (pgs_cons (pg_name (i := 3) nd rfl (by first | exact Or.inl rfl | exact Or.inr rfl)) (pgs_cons (pg_name (i := 4) nd rfl (by first | exact Or.inl rfl | exact Or.inr rfl)) (pgs_cons (pg_name (i := 5) nd rfl (by first | exact Or.inl rfl | exact Or.inr rfl)) pgs_nil)))))
      (Evl.pss_cut (ps_if (PW.pt (pw_and (pt_cmpR (op_neNil hu64) (pv 4) (pe_lst pa_nil) (nomark _)) (pw_and1 (pt_cmpR op_eq (pe_call cT.G hr1 rfl cT.m cT.kp cT.b .nil pass0 (pa_cons (pv 1) (pa_cons pe_int pa_nil))) pe_int (nomark _))))) (pss_one (ps_expr (pe_bm PySem.F.plainAttrs_list PySem.F.slot_list_append PySem.F.type_list_append mt_append (pv 4) (pa_cons (pe_call cO.G hr2 rfl cO.m cO.kp cO.b .nil pass0 (pa_cons (pv 1) (pa_cons (pv 4) pa_nil))) pa_nil)))) pss_nil)
      (pss_cons (ps_set (i := 5) nd rfl (by first | exact Or.inl rfl | exact Or.inr rfl) (pe_callB (cr_sortSetQ rfl hu80) (by rfl) T.sorted (by decide +kernel) (pa_cons (pe_callTy (cr_setQ rfl hu16) (by rfl) T.set (by decide +kernel) (pa_cons (pv 5) pa_nil)) pa_nil)))
      (pss_cons (ps_if (pt_not (pt_val (pe_callg cAl.G hr hg rfl cAl.m cAl.kp cAl.b (pa_cons (pv 4) (pa_cons (pv 5) pa_nil))))) (pss_one (ps_ret pe_bl)) pss_nil)
      (pss_cons (ps_set (i := 6) nd rfl (by first | exact Or.inl rfl | exact Or.inr rfl) (pe_call cQO.G hr2 rfl cQO.m cQO.kp cQO.b .nil pass0 (pa_cons (pv 1) (pa_cons (pe_call cM.G hr2 rfl cM.m cM.kp cM.b .nil pass0 (pa_cons (pv 1) (pa_cons (pe_op op_cat (pv 3) (pe_lst (pa_cons pe_str pa_nil))) pa_nil))) pa_nil))))
      (pss_one (ps_for PassesOwn.never rfl (pi_list (pe_op op_cat (pv 5) (pe_lst (pa_cons (pv 6) (pa_cons (pe_tup (pa_cons (pe_tup pa_nil) (pa_cons pe_str pa_nil))) (pa_cons (pe_tup (pa_cons (pe_tup (pa_cons pe_str pa_nil)) (pa_cons pe_str pa_nil))) pa_nil)))))) (pg_name (i := 7) nd rfl (by first | exact Or.inl rfl | exact Or.inr rfl)) (pss_one (ps_if (pt_not (pt_val (pe_callg cSi.G hr7 hg rfl cSi.m cSi.kp cSi.b (pa_cons (pe_make SC.mkK SC.gI hr6 rfl SC.T.mgC SC.bI .nil pass0 (pa_cons (pv 4) pa_nil)) (pa_cons (pv 4) (pa_cons (pv 7) pa_nil)))))) (pss_one (ps_ret pe_bl)) pss_nil))))))))))
      (pss_cons (ps_if (PW.pt (pw_or (pt_cmpR (op_eqO AC.oE gEA hr1 AC.bE) (pe_make AC.mkK AC.gI hr6 rfl AC.T.mgC AC.bI .nil pass0 (pa_cons (pe_lst pa_nil) pa_nil)) (pe_make SC.mkK SC.gI hr6 rfl SC.T.mgC SC.bI .nil pass0 (pa_cons (pe_lst pa_nil) pa_nil)) (nomark _)) (pw_or1 (pt_cmpR (op_eqO SC.oE gES hr1 SC.bE) (pe_make SC.mkK SC.gI hr6 rfl SC.T.mgC SC.bI .nil pass0 (pa_cons (pe_lst pa_nil) pa_nil)) (pe_make AC.mkK AC.gI hr6 rfl AC.T.mgC AC.bI .nil pass0 (pa_cons (pe_lst pa_nil) pa_nil)) (nomark _))))) (pss_one (ps_ret pe_bl)) pss_nil)
      (pss_cons (ps_set (i := 3) nd rfl (by first | exact Or.inl rfl | exact Or.inr rfl) (pe_call cN.G hr2 rfl cN.m cN.kp cN.b .nil pass0 (pa_cons (pv 1) (pa_cons pe_int pa_nil))))
      (pss_cons (ps_setLc (i := 4) (own := [("_law_k", 8)]) (g := gName 8) (tt := tYes)  rfl nd rfl (by rfl) (sw_true rfl (by rfl) rfl (by decide)) (pi_range1 (by rfl) T.range (pa_cons pe_int pa_nil)) (blkOk_by (N := nLaw) (sc := defScope sLaw) (by decide +kernel)) (fun _ _ _ _ _ => (pg_name (i := 8) nd rfl (by first | exact Or.inl rfl | exact Or.inr rfl))) (fun _ _ _ _ _ => pts_nil) (fun _ _ _ _ _ => (pe_call cI.G hr3 rfl cI.m cI.kp cI.b .nil pass0 (pa_cons (pv 1) (pa_cons (pv 3) pa_nil)))))
      (pss_one (ps_ret (pe_callg cAl.G hr hg rfl cAl.m cAl.kp cAl.b (pa_cons (pv 4) (pa_cons (pe_callB (cr_sortedQL hu80) (by rfl) T.sorted (by decide +kernel) (pa_cons (pe_slice sl_list (pe_call cM.G hr2 rfl cM.m cM.kp cM.b .nil pass0 (pa_cons (pv 1) (pa_cons (pe_call cE.G hr1 rfl cE.m cE.kp cE.b .nil pass0 (pa_cons (pe_callB cr_sortedST (by rfl) T.sorted (by decide +kernel) (pa_cons (pv 3) pa_nil)) pa_nil)) pa_nil))) po_none (po_some pe_int)) pa_nil)) pa_nil)))))))))), ?_⟩
    refine ⟨_, rfl, a, ns, rfl, hS, hlen, fun b l H1 hb B1 s1 => ?_⟩
    refine ⟨fun σ' H' => Bag H' b l ∧ ∃ (v2 v3 v4 v5 v6 v7 : Option V), σ' = [some (.ref a), some (.ref b), v2, v3, v4, v5, v6, v7, none], ?_, ?_⟩
    · refine ⟨5, rfl, by decide, by decide, ?_⟩
      refine for_range (lo := 0) (n := 5) (fun i σ H' => Bag H' b l ∧ ∃ (v2 v3 v4 v5 v6 v7 : Option V), σ = [some (.ref a), some (.ref b), v2, v3, v4, v5, v6, v7, none])
        ⟨B1, none, none, none, none, none, none, rfl⟩ ?_ (fun σ H' h => h)
      rintro i σ H2 hi ⟨B2, v2, v3, v4, v5, v6, v7, rfl⟩
      refine ⟨_, rfl, _, rfl, by show 3 ≤ sizeLine; decide, fun p0 hp0 => ?_⟩
      refine ⟨b, l, p0, _, rfl, B2.new hp0, B2.ne hp0, upd_same, by simp, by show 3 < 1000; decide, fun x H2' hx B2' k2' => ?_⟩
      obtain ⟨wd, rfl, w0, w11⟩ : ∃ m : Nat, x = V.int (m : Int) ∧ 0 < m ∧ m ≤ 11 := by
        simp only [List.mem_cons, List.not_mem_nil, or_false] at hx
        rcases hx with rfl | rfl | rfl
        · exact ⟨6, rfl, by decide, by decide⟩
        · exact ⟨6, rfl, by decide, by decide⟩
        · exact ⟨11, rfl, by decide, by decide⟩
      refine ⟨b, l, wd, 10, rfl, B2', w0, w11, by decide, by decide, fun t nm ra sa xs ys rs zs qs H3 h3t h3n R xq x11 h3r hTr hR hrl h3s hQ hQz hql B3 k3 => ?_⟩
      have hnb : nm ≠ b := B3.ne_strs h3n
      have hrb : ra ≠ b := B3.ne_refs h3r hTr.refs
      have hsb : sa ≠ b := B3.ne_refs h3s hQ.refs
      have hql2 := hQ.len
      have hrl2 := hTr.len
      refine ⟨t, _, rfl, SqT.of h3t, rfl, _, _, rfl, _, _, rfl, _, _, rfl, rfl, ?_⟩
      -- a row once more
      refine ⟨fun σ' H' => ∃ (ys' : List V) (rs' : List (List Str)), σ' = [some (.ref a), some (.ref b), some (.int (0 + (i : Int))), some (.ref nm), some (.ref ra), some (.ref sa), v6, v7, none] ∧ H' ra = some (.lst ys') ∧ TL H' ys' rs' ∧ (∀ r ∈ rs', Row r) ∧ rs'.length ≤ 7 ∧ H' sa = some (.lst zs) ∧ QL H' zs qs ∧ H' nm = some (.lst (xs.map V.str)) ∧ Bag H' b l, ?_, ?_⟩
      · refine ⟨_, rfl, by decide, fun e he => ⟨ra, e, ys, rfl, rfl, ?_⟩⟩
        have se := same_new (o := .lst []) he
        refine ⟨SqL.of (se _ _ h3r), SqL.of upd_same, _, rfl, ?_⟩
        by_cases y0 : ys = []
        · rw [decide_eq_true y0]
          refine iteF ?_
          exact ⟨ys, rs, rfl, se _ _ h3r, hTr.same se, hR, by omega, se _ _ h3s, hQ.same se, se _ _ h3n, B3.same se⟩
        · rw [decide_eq_false y0]
          refine iteT ?_
          refine ⟨_, rfl, b, l, 2, rfl, B3.same se, by decide, by decide, fun j H5 hj B5 k5 => ⟨rfl, _, rfl, ?_⟩⟩
          have k35 := (Kp.of se).trans k5
          have h5r := k35 _ _ h3r hrb
          have hT5 := hTr.kp B3 k35
          have h5s := k35 _ _ h3s hsb
          have hQ5 := hQ.kp B3 k35
          have h5n := k35 _ _ h3n hnb
          refine ite2 (fun _ => ?_) (fun _ => ⟨ys, rs, rfl, h5r, hT5, hR, by omega, h5s, hQ5, h5n, B5⟩)
          refine ⟨_, rfl, .inl ⟨rfl, _, SqL.of h5r⟩, _, rfl, _, rfl, b, l, ra, ys, rfl, B5, hrb, h5r, y0, by omega, fun x H6 hx B6 k6 => ?_⟩
          have h6r := k6 _ _ h5r hrb
          have hT6 := hT5.kp B5 k6
          have h6s := k6 _ _ h5s hsb
          have hQ6 := hQ5.kp B5 k6
          have h6n := k6 _ _ h5n hnb
          obtain ⟨t0, r0, rfl, hr0, ht0⟩ := hT6.mem x hx
          have lra : l ≠ ra := B6.ne_refs' h6r hT6.refs y0
          obtain ⟨y1, ysr, hys⟩ : ∃ y1 ysr, ys = y1 :: ysr := by
            cases ys with
            | nil => exact (y0 rfl).elim
            | cons y1 ysr => exact ⟨y1, ysr, rfl⟩
          have nra : nm ≠ ra := fun e => by
            rw [e, h6r] at h6n
            injection h6n with h6n
            injection h6n with h6n
            obtain ⟨t9, h9⟩ := hT6.refs y1 (by rw [hys]; exact List.mem_cons_self)
            have hm : y1 ∈ xs.map V.str := by rw [← h6n, hys]; exact List.mem_cons_self
            obtain ⟨c, _, hc⟩ := List.mem_map.mp hm
            rw [h9] at hc
            cases hc
          have sra : sa ≠ ra := fun e => by
            rw [e, h6r] at h6s
            injection h6s with h6s
            injection h6s with h6s
            obtain ⟨t9, r9, h9, _, h9t⟩ := hT6.mem y1 (by rw [hys]; exact List.mem_cons_self)
            obtain ⟨t8, q8, h8, ⟨c8, h8t, _⟩, _⟩ := hQ6.mem y1 (by rw [← h6s, hys]; exact List.mem_cons_self)
            rw [h9] at h8
            injection h8 with h8
            rw [← h8, h9t] at h8t
            injection h8t with h8t
            injection h8t with h8t
            cases r9 with
            | nil => cases h8t
            | cons c9 r9 =>
              rw [List.map_cons] at h8t
              injection h8t with h8t
              cases h8t
          refine ⟨ra, ys, _, rfl, rfl, h6r, small1000 (by omega), ys ++ [.ref t0], rs ++ [r0], rfl, upd_same, TL.off h6r (hT6.snoc ht0), fun z hz => ?_, by rw [List.length_append]; simp; omega, by rw [upd_ne sra]; exact h6s, QL.off h6r hQ6, by rw [upd_ne nra]; exact h6n, B6.upd hrb.symm lra⟩
          rcases List.mem_append.mp hz with g | g
          · exact hR z g
          · rw [List.mem_singleton.mp g]
            exact hR r0 hr0
      rintro σ H4 ⟨ys, rs, rfl, h4r, hT4, hR, hrl, h4s, hQ4, h4n, B4⟩
      have hrl2 := hT4.len
      -- the different ones, ascending
      refine ⟨_, rfl, sa, zs, qs, rfl, .inl (SqL.of h4s), hQ4, by omega, fun p M hp S => ?_⟩
      have sp := same_new (o := SetQ w p M) hp
      refine ⟨p, M, rfl, upd_same, fun m hm => (S.at_ m hm).same sp, fun m hm c hc => (hQz _ ((S.mem _).mp (List.mem_map_of_mem hm))).strOk c hc, fun yE zE d hd hqlE hpmE hup hsub => ?_⟩
      have sd := same_new (o := .lst yE) hd
      have DE : Dist qs zE := ⟨hpmE.nodup_iff.mpr S.nd, hup, fun q => hpmE.mem_iff.trans (S.mem q)⟩
      have aE := DE.asc hQz
      have lE := DE.le
      have s45 := sp.trans sd
      have h5r := s45 _ _ h4r
      have hT5 := hT4.same s45
      have h5n := s45 _ _ h4n
      have B5 := B4.same s45
      have h5d : (upd (upd H4 p (SetQ w p M)) d (.lst yE)) d = some (.lst yE) := upd_same
      have hqE := hqlE.same sd
      have lyE := hqE.len
      have dd5 : d ≠ b := fun e => by
        rw [e] at h5d
        have h0 := B4.at_
        obtain ⟨o0, e0⟩ := h0
        exact (ne_of_none (sp _ _ e0) hd) e.symm
      refine ⟨_, rfl, _, rfl, ra, d, ys, yE, rs, zE, rfl, h5r, hT5, hR, by omega, h5d, hqE, aE, by omega, fun H6 s6 => ⟨_, rfl, ?_⟩⟩
      refine iteF ?_
      have B6 := B5.same s6
      have h6n := s6 _ _ h5n
      -- one more question
      refine ⟨_, rfl, _, rfl, _, rfl, by show 1 ≤ sizeLine; decide, fun e1 he1 => ?_⟩
      have s7 := same_new (o := .lst [.str "q"]) he1
      refine ⟨nm, e1, _, _, rfl, rfl, s7 _ _ h6n, upd_same, by rw [List.length_map, sizeLine_eq]; show xs.length + 1 ≤ _; omega, fun e2 he2 => ?_⟩
      have s8 := s7.trans (same_new (o := .lst (xs.map V.str ++ [.str "q"])) he2)
      have B8 := B6.same s8
      have e2b : e2 ≠ b := (B6.same s7).ne he2
      have Rq : Row (xs ++ [("q" : Str)]) := ⟨List.nodup_append.mpr ⟨R.nd, by simp, fun x hx y hy e => xq (by rw [List.mem_singleton.mp hy] at e; exact e ▸ hx)⟩, fun c hc => (List.mem_append.mp hc).elim (R.sub c) fun h => by rw [List.mem_singleton.mp h]; decide +kernel, by rw [List.length_append]; simp, by rw [List.length_append]; simp; omega⟩
      have emq : xs.map V.str ++ [V.str "q"] = (xs ++ [("q" : Str)]).map V.str := by rw [List.map_append]; rfl
      refine ⟨b, l, e2, (xs ++ [("q" : Str)]).map V.str, rfl, B8, e2b, by rw [← emq]; exact upd_same, by rw [List.length_map, List.length_append]; simp; omega, fun ys0 p9 H9 hpm9 h9n h9b h9 B9 k9 => ?_⟩
      obtain ⟨ws, rfl, hws⟩ := perm_strs hpm9
      refine ⟨b, l, p9, ws, rfl, B9, h9b, .inl h9, Rq.permQ hws, fun tq cols e H10 hq10 ok10 B10 k10 => ?_⟩
      have Zq := ok10.qz (Rq.permQ hws)
      have s56 := s6.trans s8
      have k510 := (Kp.of (b := b) s56).trans (k9.trans k10)
      have h10r := k510 _ _ h5r hrb
      have hT10 := hT5.kp B5 k510
      have h10d := k510 _ _ h5d dd5
      have hqE10 := hqE.kp B5 k510
      -- all of them
      refine ⟨_, rfl, _, rfl, by decide, fun n1 hn1 => ⟨by show 2 ≤ sizeLine; decide, fun n2 hn2 => ⟨by show 1 ≤ sizeLine; decide, fun n3 hn3 => ⟨by show 2 ≤ sizeLine; decide, fun n4 hn4 => ⟨by show 3 ≤ sizeLine; decide, fun n5 hn5 => ?_⟩⟩⟩⟩⟩
      have t1 := same_new (o := .tup []) hn1
      have t2 := same_new (o := .tup [.ref n1, .str "q"]) hn2
      have t3 := same_new (o := .tup [.str "q"]) hn3
      have t4 := same_new (o := .tup [.ref n3, .str ""]) hn4
      have t5 := same_new (o := .lst [.ref tq, .ref n2, .ref n4]) hn5
      have q1 : QAt (upd (upd (upd (upd (upd H10 n1 (.tup [])) n2 (.tup [.ref n1, .str "q"])) n3 (.tup [.str "q"])) n4 (.tup [.ref n3, .str ""])) n5 (.lst [.ref tq, .ref n2, .ref n4])) n2 [] "q" := ⟨n1, t5 _ _ (t4 _ _ (t3 _ _ upd_same)), t5 _ _ (t4 _ _ (t3 _ _ (t2 _ _ upd_same)))⟩
      have q2 : QAt (upd (upd (upd (upd (upd H10 n1 (.tup [])) n2 (.tup [.ref n1, .str "q"])) n3 (.tup [.str "q"])) n4 (.tup [.ref n3, .str ""])) n5 (.lst [.ref tq, .ref n2, .ref n4])) n4 ["q"] "" := ⟨n3, t5 _ _ upd_same, t5 _ _ (t4 _ _ upd_same)⟩
      have h5l := upd_same (H := upd (upd (upd (upd H10 n1 (.tup [])) n2 (.tup [.ref n1, .str "q"])) n3 (.tup [.str "q"])) n4 (.tup [.ref n3, .str ""])) (a := n5) (o := .lst [.ref tq, .ref n2, .ref n4])
      have t15 := t1.trans (t2.trans (t3.trans (t4.trans t5)))
      generalize upd (upd (upd (upd (upd H10 n1 (.tup [])) n2 (.tup [.ref n1, .str "q"])) n3 (.tup [.str "q"])) n4 (.tup [.ref n3, .str ""])) n5 (.lst [.ref tq, .ref n2, .ref n4]) = H11 at t15 q1 q2 h5l ⊢
      refine ⟨d, n5, _, _, rfl, rfl, t15 _ _ h10d, h5l, by rw [sizeLine_eq]; show yE.length + 3 ≤ _; omega, fun n6 hn6 => ?_⟩
      have t6 := same_new (o := .lst (yE ++ [.ref tq, .ref n2, .ref n4])) hn6
      have hQL : QL (upd H11 n6 (.lst (yE ++ [.ref tq, .ref n2, .ref n4]))) (yE ++ [.ref tq, .ref n2, .ref n4]) (zE ++ [(cols, e), ([], "q"), (["q"], "")]) := paired_app ((hqE10.same t15).same t6) (.cons ⟨tq, rfl, (hq10.same t15).same t6⟩ (.cons ⟨n2, rfl, q1.same t6⟩ (.cons ⟨n4, rfl, q2.same t6⟩ .nil)))
      have hQz' : QZs (zE ++ [(cols, e), ([], "q"), (["q"], "")]) := fun q hq => by
        rcases List.mem_append.mp hq with h | h
        · exact aE.qz q h
        · simp only [List.mem_cons, List.not_mem_nil, or_false] at h
          rcases h with rfl | rfl | rfl
          · exact Zq
          · exact q1z
          · exact q2z
      have h6l := upd_same (H := H11) (a := n6) (o := .lst (yE ++ [.ref tq, .ref n2, .ref n4]))
      have t16 := t15.trans t6
      have h12r := t16 _ _ h10r
      have hT12 := hT10.same t16
      have B12 := B10.same t16
      generalize upd H11 n6 (.lst (yE ++ [.ref tq, .ref n2, .ref n4])) = H12 at hQL h6l t16 h12r hT12 B12 ⊢
      refine ⟨n6, rfl, ⟨_, SqL.of h6l⟩, for_list (K := K) (a := n6) (xs := yE ++ [.ref tq, .ref n2, .ref n4]) (fun j σ H' => (∃ v7, σ = [some (.ref a), some (.ref b), some (.int (0 + (i : Int))), some (.ref nm), some (.ref ra), some (.ref d), some (.ref tq), v7, none]) ∧ Same H12 H')
        ⟨⟨_, rfl⟩, Same.refl _⟩ (fun j σ H' _ h => SqL.of (h.2 _ _ h6l)) ?_ ?_⟩
      · rintro j x σ H13 hx ⟨⟨v7, rfl⟩, s13⟩
        obtain ⟨t9, q, rfl, hqi, hqa⟩ := (hQL.same s13).at_ hx
        have Z := hQz' q (List.mem_of_getElem? hqi)
        have h13r := s13 _ _ h12r
        have hT13 := hT12.same s13
        refine ⟨_, rfl, fun x14 dx1 nx1 ndx1 nex1 => mkS (rs := rs) h13r hT13 (by omega) hR nx1 ndx1 fun H14 s14 h14 => ⟨rfl, ?_⟩⟩
        refine ⟨_, rfl, _, rfl, x14, ra, t9, ys, rs, q, rfl, h14, s14 _ _ h13r, hT13.same s14, hR, by omega, hqa.same s14, Z, fun H15 s15 => ⟨_, rfl, ?_⟩⟩
        refine iteF ?_
        exact ⟨⟨_, rfl⟩, s13.trans (s14.trans s15)⟩
      · rintro σ H13 ⟨⟨v7, rfl⟩, s13⟩
        exact ⟨B12.same s13, _, _, _, _, _, _, rfl⟩
    · rintro σ H2 ⟨B2, v2, v3, v4, v5, v6, v7, rfl⟩
      -- of two kinds
      refine ⟨by decide, fun e1 he1 => fun x3 dx1 nx1 ndx1 nex1 => mkA (qs := []) upd_same .nil (by decide) (fun q hq => nomatch hq) nx1 ndx1 fun H3 u3 s3 h3 au3 lu3 mu3 => ⟨rfl, ?_⟩⟩
      have se1 := same_new (o := .lst []) he1
      refine ⟨by decide, fun e2 he2 => fun x4 dx2 nx2 ndx2 nex2 => mkS (rs := []) upd_same .nil (by decide) (fun r hr => nomatch hr) nx2 ndx2 fun H4 s4 h4 => ⟨rfl, ?_⟩⟩
      have se2 := same_new (o := .lst []) he2
      have s24 := se1.trans (s3.trans (se2.trans s4))
      have h34 := (h3.same se2).same s4
      obtain ⟨l3, y3, ⟨d3, i3, j3⟩, k3⟩ := id h34
      obtain ⟨l4, y4, ⟨d4, i4, j4⟩, k4⟩ := id h4
      refine ⟨x3, d3, _, .ref C, rfl, i3, SC.T.ty i4, nfA, x3, x4, d4, _, rfl, i4, _, rfl, ?_⟩
      refine ⟨_, rfl, ?_⟩
      refine iteF ?_
      refine ⟨by decide, fun e5 he5 => fun x5 dx3 nx3 ndx3 nex3 => mkS (rs := []) upd_same .nil (by decide) (fun r hr => nomatch hr) nx3 ndx3 fun H5 s5 h5 => ⟨rfl, ?_⟩⟩
      have se5 := same_new (o := .lst []) he5
      refine ⟨by decide, fun e6 he6 => fun x6 dx4 nx4 ndx4 nex4 => mkA (qs := []) upd_same .nil (by decide) (fun q hq => nomatch hq) nx4 ndx4 fun H6 u6 s6 h6 au6 lu6 mu6 => ⟨rfl, ?_⟩⟩
      have se6 := same_new (o := .lst []) he6
      have s46 := se5.trans (s5.trans (se6.trans s6))
      have h56 := (h5.same se6).same s6
      obtain ⟨l5, y5, ⟨d5, i5, j5⟩, k5⟩ := id h56
      obtain ⟨l6, y6, ⟨d6, i6, j6⟩, k6⟩ := id h6
      refine ⟨x5, d5, _, .ref CA, rfl, i5, AC.T.ty i6, nfS, x5, x6, d6, _, rfl, i6, _, rfl, ?_⟩
      refine ⟨_, rfl, ?_⟩
      refine iteF ?_
      have B6 := B2.same (s24.trans s46)
      -- a great one
      refine ⟨_, rfl, b, l, 5, rfl, by decide, B6, fun xs nm H7 xnd xsub xq xlen hnb h7 B7 k7 => ?_⟩
      have R : Row xs := ⟨xnd, xsub, by omega, by omega⟩
      refine ⟨24, rfl, by decide, by decide, fun D hD => ?_⟩
      have sD := same_new (o := .lst []) hD
      have Db := B7.ne hD
      have lD := B7.nel hD
      have nD : nm ≠ D := ne_of_none h7 hD
      refine lc_range (lo := 0) (n := 24) (fun i H' => Bag H' b l ∧ H' nm = some (.lst (xs.map V.str)) ∧ ∃ ys rs, H' D = some (.lst ys) ∧ TL H' ys rs ∧ (∀ r ∈ rs, Row r) ∧ ys.length = i) ⟨B7.same sD, sD _ _ h7, [], [], upd_same, .nil, (fun r hr => nomatch hr), rfl⟩ ?_ ?_
      · rintro i H8 hi ⟨B8, h8n, ys, rs, hd8, hT, hR, hy⟩
        refine ⟨rfl, Exists.intro _ ⟨rfl, Exists.intro _ ⟨rfl, b, l, nm, xs, rfl, B8, hnb, h8n, R, fun t r H9 ht9 R9 hs9 B9 k9 => ?_⟩⟩⟩
        have hd9 := k9 _ _ hd8 Db
        refine ⟨ys, hd9, small1000 (by omega), B9.upd Db.symm lD, by rw [upd_ne nD]; exact k9 _ _ h8n hnb, ys ++ [.ref t], rs ++ [r], upd_same, TL.off hd9 ((hT.kp B8 k9).snoc ht9), fun q hq => ?_, by rw [List.length_append, hy]; rfl⟩
        rcases List.mem_append.mp hq with g | g
        · exact hR q g
        · rw [List.mem_singleton.mp g]
          exact R9
      rintro H8 ⟨B8, h8n, ys, rs, hd8, hT, hR, hy⟩
      have yl := hT.len
      refine ⟨_, rfl, _, rfl, _, rfl, nm, xs, rfl, .inl (SqL.of h8n), by omega, fun ws p9 hws hsrt hp9 => ?_⟩
      have s9 := same_new (o := .lst (ws.map V.str)) hp9
      have A9 : Asc ws := ⟨hws.nodup_iff.mpr xnd, hsrt, fun c hc => xsub c (hws.mem_iff.mp hc), by rw [hws.length_eq, xlen]; decide⟩
      refine ⟨p9, ws, rfl, upd_same, A9, fun p10 H10 x10 s10 h10 q10 => ?_⟩
      have s810 := s9.trans s10
      have B10 := B8.same s810
      have l10 := q10.len
      have l192 := every_len A9.le
      have p10b : p10 ≠ b := B10.ne_refs h10 q10.refs
      refine ⟨b, l, p10, x10, rfl, B10, p10b, h10, by omega, fun y11 p11 H11 hpm h11n h11b h11 B11 k11 => ?_⟩
      obtain ⟨z11, q11, hpq⟩ := (q10.kp B10 k11).perm25 hpm
      refine ⟨_, rfl, p11, _, rfl, SqL.of h11, fun p12 hp12 => ?_⟩
      rw [show cutV y11 none (some (24 : Int)) = y11.take 24 from cut_to 24 y11]
      have s12 := same_new (o := .lst (y11.take 24)) hp12
      have z12 : ∀ q ∈ z11.take 24, q ∈ everyQ ws := fun q hq => hpq.mem_iff.mp (List.mem_of_mem_take hq)
      have z12z : QZs (z11.take 24) := fun q hq => A9.every q (z12 q hq)
      refine ⟨p12, y11.take 24, z11.take 24, rfl, SqL.of upd_same, QL.same s12 (paired_takeL 24 q11), fun q hq => (z12z q hq).strOk, fun yS zS pS qS hpmS hupS hpS => ?_⟩
      have sS := same_new (o := .lst yS) hpS
      have aS : Asc27 zS := ⟨hpmS.nodup_iff.mpr ((hpq.nodup_iff.mpr (every_nd A9.nd A9.ne0)).sublist (List.take_sublist _ _)), hupS, fun q hq => z12z q (hpmS.mem_iff.mp hq)⟩
      have k811 := (Kp.of (b := b) s810).trans k11
      have hd11 := k811 _ _ hd8 Db
      have hT11 := hT.kp B8 k811
      have s1113 := s12.trans sS
      have lS : zS.length ≤ 24 := by rw [hpmS.length_eq, List.length_take]; omega
      exact ⟨D, pS, ys, yS, rs, zS, rfl, s1113 _ _ hd11, hT11.same s1113, hR, by omega, upd_same, qS.same sS, aS, lS, fun H' _ => k H'⟩
def oexB (K : PySem.W.Frag) (C : Addr) : Bool := match K.lookup C with
  | some ⟨.type "type", _, .cls cd, sl⟩ => (match cd.mro, sl.toList with
    | .ref C' :: bm, [_, _, _, _, some (.builtin n), _] => C' == C && n == "ValueError.__new__" && !cd.hasDel && cd.hasDict && PySem.HandSPX.refsVE bm
    | _, _ => false)
  | _ => false
def ercB (K : PySem.W.Frag) (C : Addr) : Bool := oexB K C && decide (PySem.W.findIn K (.ref C) "__setattr__" = some (some (.builtin "object.__setattr__"))) && decide (PySem.W.typeIn K (.ref C) = some (.type "type")) && PySem.W.keepIn K (.ref C) && xfB K C &&
  decide (PySem.W.findIn K (.ref C) "__class__" = some (some (.builtin "object.__class__"))) && decide (PySem.W.specialIn K (.builtin "object.__class__") "__get__" = some (some (.builtin "getset_descriptor.__get__"))) &&
  decide (PySem.W.takesIn K (.builtin "object.__class__") = some true) && decide (PySem.W.mroIn K C (.type "object") = some true)
theorem oexB_ok {K : PySem.W.Frag} {C : Addr} (q : oexB K C = true) : ∃ nm q N bs bm sn sub ab col dd k0 k1 k2 k3 k5, K.lookup C = some (excClassObj nm q C N bs bm true sn sub ab col dd k0 k1 k2 k3 k5 "ValueError.__new__") ∧ PySem.HandSPX.refsVE bm = true := by
  unfold oexB at q
  split at q
  · rename_i dd cd sl ho
    split at q
    · rename_i C' bm k0 k1 k2 k3 n k5 hm hs
      simp only [Bool.and_eq_true, beq_iff_eq, Bool.not_eq_true'] at q
      obtain ⟨⟨⟨⟨rfl, rfl⟩, hdel⟩, hd⟩, ht⟩ := q
      obtain ⟨nm, bs, mro, ns, qn, hd', sn, sub, ab, col, del⟩ := cd
      dsimp only at hm hdel hd
      subst hm hdel hd
      have hsl : sl = #[k0, k1, k2, k3, some (.builtin "ValueError.__new__"), k5] := by
        obtain ⟨l⟩ := sl
        simp only at hs
        rw [hs]
      subst hsl
      exact ⟨nm, qn, ns, bs, bm, sn, sub, ab, col, dd, k0, k1, k2, k3, k5, ho, ht⟩
    · cases q
  · cases q
theorem ercB_ok {K : PySem.W.Frag} {C : Addr} (q : ercB K C = true) : ErC K C := by
  unfold ercB at q
  simp only [Bool.and_eq_true, decide_eq_true_eq] at q
  obtain ⟨⟨⟨⟨⟨⟨⟨⟨h1, h2⟩, h3⟩, h4⟩, h5⟩, h6⟩, h7⟩, h8⟩, h9⟩ := q
  exact ⟨⟨oexB_ok h1, h2, (xfB_ok h5).exC, h3, h4⟩, xfB_ok h5, h6, h7, h8, h9⟩
end
theorem all_mk {l : PySem.W.OpenLaw} {w : World} {K : PySem.W.Frag} {h : Heap} {mg : Str → Option Value} {fa f1 f2 f3 f4 f5 f6 f7 f8 f9 f10 f11 f12 f13 f14 f15 f16 f17 f18 f19 f20 f21 f22 f23 f24 f25 f26 f27 f28 f29 f30 f31 f32 f33 f34 f35 f36 f37 f38 f39 f40 C CA CU CK CN fUI fAI fAE fAT fAQ fSI fSE fSL fST : Addr} {tL tM : Nat} (X : K.In h) (G : h.Ns mainGlobals mg) (hfa : mg "law" = some (.ref fa))
    {od1 an1 od2 an2 od3 an3 od4 an4 od5 an5 od6 an6 od7 an7 od8 an8 od9 an9 od10 an10 od11 an11 od12 an12 od13 an13 od14 an14 od15 an15 od16 an16 od17 an17 od18 an18 od19 an19 od20 an20 od21 an21 od22 an22 od23 an23 od24 an24 od25 an25 od26 an26 od27 an27 od28 an28 od29 an29 od30 an30 od31 an31 od32 an32 od33 an33 od34 an34 od35 an35 od36 an36 od37 an37 od38 an38 od39 an39 od40 an40 odUI anUI odAI anAI odAE anAE odAT anAT odAQ anAQ odSI anSI odSE anSE odSL anSL odST anST : Option Addr} {slUI slAI slAE slAT slAQ slSI slSE slSL slST sl1 sl2 sl3 sl4 sl5 sl6 sl7 sl8 sl9 sl10 sl11 sl12 sl13 sl14 sl15 sl16 sl17 sl18 sl19 sl20 sl21 sl22 sl23 sl24 sl25 sl26 sl27 sl28 sl29 sl30 sl31 sl32 sl33 sl34 sl35 sl36 sl37 sl38 sl39 sl40 : Array (Option Value)} {oc1 kV1 dc1 pm1 cd1 ct1 oc2 kV2 dc2 pm2 cd2 ct2 oc3 kV3 dc3 pm3 cd3 ct3 oc4 kV4 dc4 pm4 cd4 ct4 oc5 kV5 dc5 pm5 cd5 ct5 oc6 kV6 dc6 pm6 cd6 ct6 oc7 kV7 dc7 pm7 cd7 ct7 oc8 kV8 dc8 pm8 cd8 ct8 oc9 kV9 dc9 pm9 cd9 ct9 oc10 kV10 dc10 pm10 cd10 ct10 oc11 kV11 dc11 pm11 cd11 ct11 oc12 kV12 dc12 pm12 cd12 ct12 oc13 kV13 dc13 pm13 cd13 ct13 oc14 kV14 dc14 pm14 cd14 ct14 oc15 kV15 dc15 pm15 cd15 ct15 oc16 kV16 dc16 pm16 cd16 ct16 oc17 kV17 dc17 pm17 cd17 ct17 oc18 kV18 dc18 pm18 cd18 ct18 oc19 kV19 dc19 pm19 cd19 ct19 oc20 kV20 dc20 pm20 cd20 ct20 oc21 kV21 dc21 pm21 cd21 ct21 oc22 kV22 dc22 pm22 cd22 ct22 oc23 kV23 dc23 pm23 cd23 ct23 oc24 kV24 dc24 pm24 cd24 ct24 oc25 kV25 dc25 pm25 cd25 ct25 oc26 kV26 dc26 pm26 cd26 ct26 oc27 kV27 dc27 pm27 cd27 ct27 oc28 kV28 dc28 pm28 cd28 ct28 oc29 kV29 dc29 pm29 cd29 ct29 oc30 kV30 dc30 pm30 cd30 ct30 oc31 kV31 dc31 pm31 cd31 ct31 oc32 kV32 dc32 pm32 cd32 ct32 oc33 kV33 dc33 pm33 cd33 ct33 oc34 kV34 dc34 pm34 cd34 ct34 oc35 kV35 dc35 pm35 cd35 ct35 oc36 kV36 dc36 pm36 cd36 ct36 oc37 kV37 dc37 pm37 cd37 ct37 oc38 kV38 dc38 pm38 cd38 ct38 oc39 kV39 dc39 pm39 cd39 ct39 oc40 kV40 dc40 pm40 cd40 ct40 ocUI kVUI dcUI pmUI cdUI ctUI ocAI kVAI dcAI pmAI cdAI ctAI ocAE kVAE dcAE pmAE cdAE ctAE ocAT kVAT dcAT pmAT cdAT ctAT ocAQ kVAQ dcAQ pmAQ cdAQ ctAQ ocSI kVSI dcSI pmSI cdSI ctSI ocSE kVSE dcSE pmSE cdSE ctSE ocSL kVSL dcSL pmSL cdSL ctSL ocST kVST dcST pmST cdST ctST : Value}
    (a1 : PySem.W.nsIn K mainGlobals "is_column" = some (some (.ref f1))) (l1 : K.lookup f1 = some ⟨oc1, od1, .func (PySem.W.fnOf "is_column" "is_column" (defArgs sIsCol) (defBody sIsCol) (defScope sIsCol) .none kV1 dc1 pm1 an1 cd1 ct1), sl1⟩) (c1 : PySem.W.codeIn K cd1 "is_column" = true) (k1 : PySem.W.keepIn K (.ref f1) = true)
    (a2 : PySem.W.nsIn K mainGlobals "are_different_columns" = some (some (.ref f2))) (l2 : K.lookup f2 = some ⟨oc2, od2, .func (PySem.W.fnOf "are_different_columns" "are_different_columns" (defArgs sAreDiff) (defBody sAreDiff) (defScope sAreDiff) .none kV2 dc2 pm2 an2 cd2 ct2), sl2⟩) (c2 : PySem.W.codeIn K cd2 "are_different_columns" = true) (k2 : PySem.W.keepIn K (.ref f2) = true)
    (a3 : PySem.W.nsIn K mainGlobals "is_ascending" = some (some (.ref f3))) (l3 : K.lookup f3 = some ⟨oc3, od3, .func (PySem.W.fnOf "is_ascending" "is_ascending" (defArgs sAsc) (defBody sAsc) (defScope sAsc) .none kV3 dc3 pm3 an3 cd3 ct3), sl3⟩) (c3 : PySem.W.codeIn K cd3 "is_ascending" = true) (k3 : PySem.W.keepIn K (.ref f3) = true)
    (a4 : PySem.W.nsIn K mainGlobals "are_columns" = some (some (.ref f4))) (l4 : K.lookup f4 = some ⟨oc4, od4, .func (PySem.W.fnOf "are_columns" "are_columns" (defArgs sAreCols) (defBody sAreCols) (defScope sAreCols) .none kV4 dc4 pm4 an4 cd4 ct4), sl4⟩) (c4 : PySem.W.codeIn K cd4 "are_columns" = true) (k4 : PySem.W.keepIn K (.ref f4) = true)
    (a5 : PySem.W.nsIn K mainGlobals "is_empty" = some (some (.ref f5))) (l5 : K.lookup f5 = some ⟨oc5, od5, .func (PySem.W.fnOf "is_empty" "is_empty" (defArgs sIsEmpty) (defBody sIsEmpty) (defScope sIsEmpty) .none kV5 dc5 pm5 an5 cd5 ct5), sl5⟩) (c5 : PySem.W.codeIn K cd5 "is_empty" = true) (k5 : PySem.W.keepIn K (.ref f5) = true)
    (a6 : PySem.W.nsIn K mainGlobals "is_last" = some (some (.ref f6))) (l6 : K.lookup f6 = some ⟨oc6, od6, .func (PySem.W.fnOf "is_last" "is_last" (defArgs sIsLast) (defBody sIsLast) (defScope sIsLast) .none kV6 dc6 pm6 an6 cd6 ct6), sl6⟩) (c6 : PySem.W.codeIn K cd6 "is_last" = true) (k6 : PySem.W.keepIn K (.ref f6) = true)
    (a7 : PySem.W.nsIn K mainGlobals "is_question" = some (some (.ref f7))) (l7 : K.lookup f7 = some ⟨oc7, od7, .func (PySem.W.fnOf "is_question" "is_question" (defArgs sIsQ) (defBody sIsQ) (defScope sIsQ) .none kV7 dc7 pm7 an7 cd7 ct7), sl7⟩) (c7 : PySem.W.codeIn K cd7 "is_question" = true) (k7 : PySem.W.keepIn K (.ref f7) = true)
    (a8 : PySem.W.nsIn K mainGlobals "is_index" = some (some (.ref f8))) (l8 : K.lookup f8 = some ⟨oc8, od8, .func (PySem.W.fnOf "is_index" "is_index" (defArgs sIsIndex) (defBody sIsIndex) (defScope sIsIndex) .none kV8 dc8 pm8 an8 cd8 ct8), sl8⟩) (c8 : PySem.W.codeIn K cd8 "is_index" = true) (k8 : PySem.W.keepIn K (.ref f8) = true)
    (a9 : PySem.W.nsIn K mainGlobals "are_questions" = some (some (.ref f9))) (l9 : K.lookup f9 = some ⟨oc9, od9, .func (PySem.W.fnOf "are_questions" "are_questions" (defArgs sAreQs) (defBody sAreQs) (defScope sAreQs) .none kV9 dc9 pm9 an9 cd9 ct9), sl9⟩) (c9 : PySem.W.codeIn K cd9 "are_questions" = true) (k9 : PySem.W.keepIn K (.ref f9) = true)
    (a10 : PySem.W.nsIn K mainGlobals "are_indexes" = some (some (.ref f10))) (l10 : K.lookup f10 = some ⟨oc10, od10, .func (PySem.W.fnOf "are_indexes" "are_indexes" (defArgs sAreIxs) (defBody sAreIxs) (defScope sAreIxs) .none kV10 dc10 pm10 an10 cd10 ct10), sl10⟩) (c10 : PySem.W.codeIn K cd10 "are_indexes" = true) (k10 : PySem.W.keepIn K (.ref f10) = true)
    (a11 : PySem.W.nsIn K mainGlobals "first_fault" = some (some (.ref f11))) (l11 : K.lookup f11 = some ⟨oc11, od11, .func (PySem.W.fnOf "first_fault" "first_fault" (defArgs sFault) (defBody sFault) (defScope sFault) .none kV11 dc11 pm11 an11 cd11 ct11), sl11⟩) (c11 : PySem.W.codeIn K cd11 "first_fault" = true) (k11 : PySem.W.keepIn K (.ref f11) = true)
    (a12 : PySem.W.nsIn K mainGlobals "serves" = some (some (.ref f12))) (l12 : K.lookup f12 = some ⟨oc12, od12, .func (PySem.W.fnOf "serves" "serves" (defArgs sServ) (defBody sServ) (defScope sServ) .none kV12 dc12 pm12 an12 cd12 ct12), sl12⟩) (c12 : PySem.W.codeIn K cd12 "serves" = true) (k12 : PySem.W.keepIn K (.ref f12) = true)
    (a13 : PySem.W.nsIn K mainGlobals "servers" = some (some (.ref f13))) (l13 : K.lookup f13 = some ⟨oc13, od13, .func (PySem.W.fnOf "servers" "servers" (defArgs sServers) (defBody sServers) (defScope sServers) .none kV13 dc13 pm13 an13 cd13 ct13), sl13⟩) (c13 : PySem.W.codeIn K cd13 "servers" = true) (k13 : PySem.W.keepIn K (.ref f13) = true)
    (a14 : PySem.W.nsIn K mainGlobals "is_served" = some (some (.ref f14))) (l14 : K.lookup f14 = some ⟨oc14, od14, .func (PySem.W.fnOf "is_served" "is_served" (defArgs sIsServed) (defBody sIsServed) (defScope sIsServed) .none kV14 dc14 pm14 an14 cd14 ct14), sl14⟩) (c14 : PySem.W.codeIn K cd14 "is_served" = true) (k14 : PySem.W.keepIn K (.ref f14) = true)
    (a15 : PySem.W.nsIn K mainGlobals "place_of" = some (some (.ref f15))) (l15 : K.lookup f15 = some ⟨oc15, od15, .func (PySem.W.fnOf "place_of" "place_of" (defArgs sPlaceOf) (defBody sPlaceOf) (defScope sPlaceOf) .none kV15 dc15 pm15 an15 cd15 ct15), sl15⟩) (c15 : PySem.W.codeIn K cd15 "place_of" = true) (k15 : PySem.W.keepIn K (.ref f15) = true)
    (a16 : PySem.W.nsIn K mainGlobals "faults" = some (some (.ref f16))) (l16 : K.lookup f16 = some ⟨oc16, od16, .func (PySem.W.fnOf "faults" "faults" (defArgs sFaults) (defBody sFaults) (defScope sFaults) .none kV16 dc16 pm16 an16 cd16 ct16), sl16⟩) (c16 : PySem.W.codeIn K cd16 "faults" = true) (k16 : PySem.W.keepIn K (.ref f16) = true)
    (a17 : PySem.W.nsIn K mainGlobals "places" = some (some (.ref f17))) (l17 : K.lookup f17 = some ⟨oc17, od17, .func (PySem.W.fnOf "places" "places" (defArgs sPlaces) (defBody sPlaces) (defScope sPlaces) .none kV17 dc17 pm17 an17 cd17 ct17), sl17⟩) (c17 : PySem.W.codeIn K cd17 "places" = true) (k17 : PySem.W.keepIn K (.ref f17) = true)
    (a18 : PySem.W.nsIn K mainGlobals "unserved" = some (some (.ref f18))) (l18 : K.lookup f18 = some ⟨oc18, od18, .func (PySem.W.fnOf "unserved" "unserved" (defArgs sUnserved) (defBody sUnserved) (defScope sUnserved) .none kV18 dc18 pm18 an18 cd18 ct18), sl18⟩) (c18 : PySem.W.codeIn K cd18 "unserved" = true) (k18 : PySem.W.keepIn K (.ref f18) = true)
    (a19 : PySem.W.nsIn K mainGlobals "idle" = some (some (.ref f19))) (l19 : K.lookup f19 = some ⟨oc19, od19, .func (PySem.W.fnOf "idle" "idle" (defArgs sIdle) (defBody sIdle) (defScope sIdle) .none kV19 dc19 pm19 an19 cd19 ct19), sl19⟩) (c19 : PySem.W.codeIn K cd19 "idle" = true) (k19 : PySem.W.keepIn K (.ref f19) = true)
    (a20 : PySem.W.nsIn K mainGlobals "droppable" = some (some (.ref f20))) (l20 : K.lookup f20 = some ⟨oc20, od20, .func (PySem.W.fnOf "droppable" "droppable" (defArgs sDrop) (defBody sDrop) (defScope sDrop) .none kV20 dc20 pm20 an20 cd20 ct20), sl20⟩) (c20 : PySem.W.codeIn K cd20 "droppable" = true) (k20 : PySem.W.keepIn K (.ref f20) = true)
    (a21 : PySem.W.nsIn K mainGlobals "_law_bag" = some (some (.ref f21))) (l21 : K.lookup f21 = some ⟨oc21, od21, .func (PySem.W.fnOf "_law_bag" "_law_bag" (defArgs sBag) (defBody sBag) (defScope sBag) .none kV21 dc21 pm21 an21 cd21 ct21), sl21⟩) (c21 : PySem.W.codeIn K cd21 "_law_bag" = true) (k21 : PySem.W.keepIn K (.ref f21) = true)
    (a22 : PySem.W.nsIn K mainGlobals "_law_take" = some (some (.ref f22))) (l22 : K.lookup f22 = some ⟨oc22, od22, .func (PySem.W.fnOf "_law_take" "_law_take" (defArgs sTake) (defBody sTake) (defScope sTake) .none kV22 dc22 pm22 an22 cd22 ct22), sl22⟩) (c22 : PySem.W.codeIn K cd22 "_law_take" = true) (k22 : PySem.W.keepIn K (.ref f22) = true)
    (a23 : PySem.W.nsIn K mainGlobals "_law_one" = some (some (.ref f23))) (l23 : K.lookup f23 = some ⟨oc23, od23, .func (PySem.W.fnOf "_law_one" "_law_one" (defArgs sOne) (defBody sOne) (defScope sOne) .none kV23 dc23 pm23 an23 cd23 ct23), sl23⟩) (c23 : PySem.W.codeIn K cd23 "_law_one" = true) (k23 : PySem.W.keepIn K (.ref f23) = true)
    (a24 : PySem.W.nsIn K mainGlobals "_law_mixed" = some (some (.ref f24))) (l24 : K.lookup f24 = some ⟨oc24, od24, .func (PySem.W.fnOf "_law_mixed" "_law_mixed" (defArgs sMixed) (defBody sMixed) (defScope sMixed) .none kV24 dc24 pm24 an24 cd24 ct24), sl24⟩) (c24 : PySem.W.codeIn K cd24 "_law_mixed" = true) (k24 : PySem.W.keepIn K (.ref f24) = true)
    (a25 : PySem.W.nsIn K mainGlobals "_law_alike" = some (some (.ref f25))) (l25 : K.lookup f25 = some ⟨oc25, od25, .func (PySem.W.fnOf "_law_alike" "_law_alike" (defArgs sAlike) (defBody sAlike) (defScope sAlike) .none kV25 dc25 pm25 an25 cd25 ct25), sl25⟩) (c25 : PySem.W.codeIn K cd25 "_law_alike" = true) (k25 : PySem.W.keepIn K (.ref f25) = true)
    (a26 : PySem.W.nsIn K mainGlobals "_law_truth" = some (some (.ref f26))) (l26 : K.lookup f26 = some ⟨oc26, od26, .func (PySem.W.fnOf "_law_truth" "_law_truth" (defArgs sTruth) (defBody sTruth) (defScope sTruth) .none kV26 dc26 pm26 an26 cd26 ct26), sl26⟩) (c26 : PySem.W.codeIn K cd26 "_law_truth" = true) (k26 : PySem.W.keepIn K (.ref f26) = true)
    (a27 : PySem.W.nsIn K mainGlobals "_law_names" = some (some (.ref f27))) (l27 : K.lookup f27 = some ⟨oc27, od27, .func (PySem.W.fnOf "_law_names" "_law_names" (defArgs sNames) (defBody sNames) (defScope sNames) .none kV27 dc27 pm27 an27 cd27 ct27), sl27⟩) (c27 : PySem.W.codeIn K cd27 "_law_names" = true) (k27 : PySem.W.keepIn K (.ref f27) = true)
    (a28 : PySem.W.nsIn K mainGlobals "_law_question_of" = some (some (.ref f28))) (l28 : K.lookup f28 = some ⟨oc28, od28, .func (PySem.W.fnOf "_law_question_of" "_law_question_of" (defArgs sQOf) (defBody sQOf) (defScope sQOf) .none kV28 dc28 pm28 an28 cd28 ct28), sl28⟩) (c28 : PySem.W.codeIn K cd28 "_law_question_of" = true) (k28 : PySem.W.keepIn K (.ref f28) = true)
    (a29 : PySem.W.nsIn K mainGlobals "_law_questions" = some (some (.ref f29))) (l29 : K.lookup f29 = some ⟨oc29, od29, .func (PySem.W.fnOf "_law_questions" "_law_questions" (defArgs sQuestions) (defBody sQuestions) (defScope sQuestions) .none kV29 dc29 pm29 an29 cd29 ct29), sl29⟩) (c29 : PySem.W.codeIn K cd29 "_law_questions" = true) (k29 : PySem.W.keepIn K (.ref f29) = true)
    (a30 : PySem.W.nsIn K mainGlobals "_law_index" = some (some (.ref f30))) (l30 : K.lookup f30 = some ⟨oc30, od30, .func (PySem.W.fnOf "_law_index" "_law_index" (defArgs sIndex) (defBody sIndex) (defScope sIndex) .none kV30 dc30 pm30 an30 cd30 ct30), sl30⟩) (c30 : PySem.W.codeIn K cd30 "_law_index" = true) (k30 : PySem.W.keepIn K (.ref f30) = true)
    (a31 : PySem.W.nsIn K mainGlobals "_law_serves" = some (some (.ref f31))) (l31 : K.lookup f31 = some ⟨oc31, od31, .func (PySem.W.fnOf "_law_serves" "_law_serves" (defArgs sServes) (defBody sServes) (defScope sServes) .none kV31 dc31 pm31 an31 cd31 ct31), sl31⟩) (c31 : PySem.W.codeIn K cd31 "_law_serves" = true) (k31 : PySem.W.keepIn K (.ref f31) = true)
    (a32 : PySem.W.nsIn K mainGlobals "_law_is_served" = some (some (.ref f32))) (l32 : K.lookup f32 = some ⟨oc32, od32, .func (PySem.W.fnOf "_law_is_served" "_law_is_served" (defArgs sServedHere) (defBody sServedHere) (defScope sServedHere) .none kV32 dc32 pm32 an32 cd32 ct32), sl32⟩) (c32 : PySem.W.codeIn K cd32 "_law_is_served" = true) (k32 : PySem.W.keepIn K (.ref f32) = true)
    (a33 : PySem.W.nsIn K mainGlobals "_law_fault" = some (some (.ref f33))) (l33 : K.lookup f33 = some ⟨oc33, od33, .func (PySem.W.fnOf "_law_fault" "_law_fault" (defArgs sFaultHere) (defBody sFaultHere) (defScope sFaultHere) .none kV33 dc33 pm33 an33 cd33 ct33), sl33⟩) (c33 : PySem.W.codeIn K cd33 "_law_fault" = true) (k33 : PySem.W.keepIn K (.ref f33) = true)
    (a34 : PySem.W.nsIn K mainGlobals "_law_shop" = some (some (.ref f34))) (l34 : K.lookup f34 = some ⟨oc34, od34, .func (PySem.W.fnOf "_law_shop" "_law_shop" (defArgs sShop) (defBody sShop) (defScope sShop) .none kV34 dc34 pm34 an34 cd34 ct34), sl34⟩) (c34 : PySem.W.codeIn K cd34 "_law_shop" = true) (k34 : PySem.W.keepIn K (.ref f34) = true)
    (a35 : PySem.W.nsIn K mainGlobals "_law_placed" = some (some (.ref f35))) (l35 : K.lookup f35 = some ⟨oc35, od35, .func (PySem.W.fnOf "_law_placed" "_law_placed" (defArgs sPlaced) (defBody sPlaced) (defScope sPlaced) .none kV35 dc35 pm35 an35 cd35 ct35), sl35⟩) (c35 : PySem.W.codeIn K cd35 "_law_placed" = true) (k35 : PySem.W.keepIn K (.ref f35) = true)
    (a36 : PySem.W.nsIn K mainGlobals "_law_first" = some (some (.ref f36))) (l36 : K.lookup f36 = some ⟨oc36, od36, .func (PySem.W.fnOf "_law_first" "_law_first" (defArgs sFirst) (defBody sFirst) (defScope sFirst) .none kV36 dc36 pm36 an36 cd36 ct36), sl36⟩) (c36 : PySem.W.codeIn K cd36 "_law_first" = true) (k36 : PySem.W.keepIn K (.ref f36) = true)
    (a37 : PySem.W.nsIn K mainGlobals "_law_single_right" = some (some (.ref f37))) (l37 : K.lookup f37 = some ⟨oc37, od37, .func (PySem.W.fnOf "_law_single_right" "_law_single_right" (defArgs sSingle) (defBody sSingle) (defScope sSingle) .none kV37 dc37 pm37 an37 cd37 ct37), sl37⟩) (c37 : PySem.W.codeIn K cd37 "_law_single_right" = true) (k37 : PySem.W.keepIn K (.ref f37) = true)
    (a38 : PySem.W.nsIn K mainGlobals "_law_every" = some (some (.ref f38))) (l38 : K.lookup f38 = some ⟨oc38, od38, .func (PySem.W.fnOf "_law_every" "_law_every" (defArgs sEvery) (defBody sEvery) (defScope sEvery) .none kV38 dc38 pm38 an38 cd38 ct38), sl38⟩) (c38 : PySem.W.codeIn K cd38 "_law_every" = true) (k38 : PySem.W.keepIn K (.ref f38) = true)
    (a39 : PySem.W.nsIn K mainGlobals "_law_all_right" = some (some (.ref f39))) (l39 : K.lookup f39 = some ⟨oc39, od39, .func (PySem.W.fnOf "_law_all_right" "_law_all_right" (defArgs sAll) (defBody sAll) (defScope sAll) .none kV39 dc39 pm39 an39 cd39 ct39), sl39⟩) (c39 : PySem.W.codeIn K cd39 "_law_all_right" = true) (k39 : PySem.W.keepIn K (.ref f39) = true)
    (a40 : PySem.W.nsIn K mainGlobals "law" = some (some (.ref f40))) (l40 : K.lookup f40 = some ⟨oc40, od40, .func (PySem.W.fnOf "law" "law" (defArgs sLaw) (defBody sLaw) (defScope sLaw) .none kV40 dc40 pm40 an40 cd40 ct40), sl40⟩) (c40 : PySem.W.codeIn K cd40 "law" = true) (k40 : PySem.W.keepIn K (.ref f40) = true)
    (aL : PySem.W.nsIn K mainGlobals "LONGEST_COLUMN" = some (some (.int 8 tL)))
    (aM : PySem.W.nsIn K mainGlobals "LIMIT" = some (some (.int 48 tM)))
    (hn : PySem.W.specialIn K (.builtin "object.__class__") "__get__" = some (some (.builtin "getset_descriptor.__get__"))) (ht : PySem.W.takesIn K (.builtin "object.__class__") = some true)
    (aCA : PySem.W.nsIn K mainGlobals "Asked" = some (some (.ref CA)))
    (aAI : PySem.W.findIn K (.ref CA) "__init__" = some (some (.ref fAI))) (iAI : PySem.W.isFn K (.ref fAI) = true) (lAI : K.lookup fAI = some ⟨ocAI, odAI, .func (PySem.W.fnOf "__init__" "Asked.__init__" (defArgs sAInit) (defBody sAInit) (defScope sAInit) .none kVAI dcAI pmAI anAI cdAI ctAI), slAI⟩) (cAI : PySem.W.codeIn K cdAI "Asked.__init__" = true) (kAI : PySem.W.keepIn K (.ref fAI) = true)
    (aAE : PySem.W.findIn K (.ref CA) "__eq__" = some (some (.ref fAE))) (iAE : PySem.W.isFn K (.ref fAE) = true) (lAE : K.lookup fAE = some ⟨ocAE, odAE, .func (PySem.W.fnOf "__eq__" "Asked.__eq__" (defArgs sAEq) (defBody sAEq) (defScope sAEq) .none kVAE dcAE pmAE anAE cdAE ctAE), slAE⟩) (cAE : PySem.W.codeIn K cdAE "Asked.__eq__" = true) (kAE : PySem.W.keepIn K (.ref fAE) = true)
    (aAT : PySem.W.findIn K (.ref CA) "__iter__" = some (some (.ref fAT))) (iAT : PySem.W.isFn K (.ref fAT) = true) (lAT : K.lookup fAT = some ⟨ocAT, odAT, .func (PySem.W.fnOf "__iter__" "Asked.__iter__" (defArgs sAIter) (defBody sAIter) (defScope sAIter) .none kVAT dcAT pmAT anAT cdAT ctAT), slAT⟩) (cAT : PySem.W.codeIn K cdAT "Asked.__iter__" = true) (kAT : PySem.W.keepIn K (.ref fAT) = true)
    (aAQ : PySem.W.findIn K (.ref CA) "questions" = some (some (.ref fAQ))) (iAQ : PySem.W.isFn K (.ref fAQ) = true) (lAQ : K.lookup fAQ = some ⟨ocAQ, odAQ, .func (PySem.W.fnOf "questions" "Asked.questions" (defArgs sAQns) (defBody sAQns) (defScope sAQns) .none kVAQ dcAQ pmAQ anAQ cdAQ ctAQ), slAQ⟩) (cAQ : PySem.W.codeIn K cdAQ "Asked.questions" = true) (kAQ : PySem.W.keepIn K (.ref fAQ) = true)
    (pgA : PySem.W.plainGet K CA Str.empty = true) (hdA : PySem.W.hasDictIn K CA = true) (poA : PySem.W.plainOver K CA = true) (saA : PySem.W.findIn K (.ref CA) "__setattr__" = some (some (.builtin "object.__setattr__"))) (mkA : PySem.W.makesIn K CA = true) (kcA : PySem.W.keepIn K (.ref CA) = true) (nQA : PySem.W.findIn K (.ref CA) "_questions" = some none) (haA : PySem.W.findIn K (.ref CA) "__class__" = some (some (.builtin "object.__class__"))) (hmA : PySem.W.mroIn K CA (.type "object") = some true) (enA : PySem.W.findIn K (.ref CA) "__ne__" = some (some (.builtin "object.__ne__"))) (eoA : PySem.W.subIn K (.ref CA) (.type "object") = some true) (nfA : PySem.W.notFirst K CA (.ref CA) = true)
    (aCS : PySem.W.nsIn K mainGlobals "Shelf" = some (some (.ref C)))
    (aSI : PySem.W.findIn K (.ref C) "__init__" = some (some (.ref fSI))) (iSI : PySem.W.isFn K (.ref fSI) = true) (lSI : K.lookup fSI = some ⟨ocSI, odSI, .func (PySem.W.fnOf "__init__" "Shelf.__init__" (defArgs sInit) (defBody sInit) (defScope sInit) .none kVSI dcSI pmSI anSI cdSI ctSI), slSI⟩) (cSI : PySem.W.codeIn K cdSI "Shelf.__init__" = true) (kSI : PySem.W.keepIn K (.ref fSI) = true)
    (aSE : PySem.W.findIn K (.ref C) "__eq__" = some (some (.ref fSE))) (iSE : PySem.W.isFn K (.ref fSE) = true) (lSE : K.lookup fSE = some ⟨ocSE, odSE, .func (PySem.W.fnOf "__eq__" "Shelf.__eq__" (defArgs sEq) (defBody sEq) (defScope sEq) .none kVSE dcSE pmSE anSE cdSE ctSE), slSE⟩) (cSE : PySem.W.codeIn K cdSE "Shelf.__eq__" = true) (kSE : PySem.W.keepIn K (.ref fSE) = true)
    (aSL : PySem.W.findIn K (.ref C) "__len__" = some (some (.ref fSL))) (iSL : PySem.W.isFn K (.ref fSL) = true) (lSL : K.lookup fSL = some ⟨ocSL, odSL, .func (PySem.W.fnOf "__len__" "Shelf.__len__" (defArgs sLen) (defBody sLen) (defScope sLen) .none kVSL dcSL pmSL anSL cdSL ctSL), slSL⟩) (cSL : PySem.W.codeIn K cdSL "Shelf.__len__" = true) (kSL : PySem.W.keepIn K (.ref fSL) = true)
    (aST : PySem.W.findIn K (.ref C) "__iter__" = some (some (.ref fST))) (iST : PySem.W.isFn K (.ref fST) = true) (lST : K.lookup fST = some ⟨ocST, odST, .func (PySem.W.fnOf "__iter__" "Shelf.__iter__" (defArgs sIter) (defBody sIter) (defScope sIter) .none kVST dcST pmST anST cdST ctST), slST⟩) (cST : PySem.W.codeIn K cdST "Shelf.__iter__" = true) (kST : PySem.W.keepIn K (.ref fST) = true)
    (pgS : PySem.W.plainGet K C Str.empty = true) (hdS : PySem.W.hasDictIn K C = true) (poS : PySem.W.plainOver K C = true) (saS : PySem.W.findIn K (.ref C) "__setattr__" = some (some (.builtin "object.__setattr__"))) (mkS : PySem.W.makesIn K C = true) (kcS : PySem.W.keepIn K (.ref C) = true) (nQS : PySem.W.findIn K (.ref C) "_indexes" = some none) (haS : PySem.W.findIn K (.ref C) "__class__" = some (some (.builtin "object.__class__"))) (hmS : PySem.W.mroIn K C (.type "object") = some true) (enS : PySem.W.findIn K (.ref C) "__ne__" = some (some (.builtin "object.__ne__"))) (eoS : PySem.W.subIn K (.ref C) (.type "object") = some true) (nfS : PySem.W.notFirst K C (.ref C) = true)
    (aCU : PySem.W.nsIn K mainGlobals "Unserved" = some (some (.ref CU))) (aCK : PySem.W.nsIn K mainGlobals "KeysError" = some (some (.ref CK))) (aCN : PySem.W.nsIn K mainGlobals "NoNumber" = some (some (.ref CN))) (eb : ercB K CU = true) (no : PySem.W.findIn K (.ref CU) "question" = some none) (te : PySem.W.exmOne K (.ref CU) (.ref CK) = some true) (tn : PySem.W.kitOne K (.ref CU) (.ref CN) = some false) (noA : PySem.W.kitOne K (.ref C) (.ref CA) = some false) (noS : PySem.W.kitOne K (.ref CA) (.ref C) = some false) (nfAC : PySem.W.notFirst K CA (.ref C) = true) (nfCA : PySem.W.notFirst K C (.ref CA) = true)
    (aUI : PySem.W.findIn K (.ref CU) "__init__" = some (some (.ref fUI))) (tUI : PySem.W.typeIn K (.ref fUI) = some (.type "function")) (lUI : K.lookup fUI = some ⟨ocUI, odUI, .func (PySem.W.fnOf "__init__" "Unserved.__init__" (defArgs sUInit) (defBody sUInit) (defScope sUInit) .none kVUI dcUI pmUI anUI cdUI ctUI), slUI⟩) (cUI : PySem.W.codeIn K cdUI "Unserved.__init__" = true) (kUI : PySem.W.keepIn K (.ref fUI) = true)
    (zlen : PySem.W.nsIn K mainGlobals "len" = some none) (zint : PySem.W.nsIn K mainGlobals "int" = some none) (zabs : PySem.W.nsIn K mainGlobals "abs" = some none) (ztuple : PySem.W.nsIn K mainGlobals "tuple" = some none) (zsorted : PySem.W.nsIn K mainGlobals "sorted" = some none) (zrange : PySem.W.nsIn K mainGlobals "range" = some none) (zrepr : PySem.W.nsIn K mainGlobals "repr" = some none) (zlist : PySem.W.nsIn K mainGlobals "list" = some none) (zset : PySem.W.nsIn K mainGlobals "set" = some none) (zisinstance : PySem.W.nsIn K mainGlobals "isinstance" = some none) (zstr : PySem.W.nsIn K mainGlobals "str" = some none) (zall : PySem.W.nsIn K mainGlobals "all" = some none) (zenumerate : PySem.W.nsIn K mainGlobals "enumerate" = some none) (ziter : PySem.W.nsIn K mainGlobals "iter" = some none) (zzip : PySem.W.nsIn K mainGlobals "zip" = some none) :
    ∃ fd : FuncData, (∀ (s : Shared) (v : Value), BindsTo s fd ⟨[v], []⟩ [("_law_script", v)]) ∧ ∀ base : Heap, K.In base → base.Ns mainGlobals mg → FnG l.prog w K mg base 9 fa fd ["_law_script"] (spLaw K) := by
  have e := hfa.symm.trans (PySem.W.mg_of X G a40)
  cases e
  have T : Txt K mg := ⟨PySem.W.mg_none_of X G zlen, PySem.W.mg_none_of X G zint, PySem.W.mg_none_of X G zabs, PySem.W.mg_none_of X G ztuple, PySem.W.mg_none_of X G zsorted, PySem.W.mg_none_of X G zrange, PySem.W.mg_none_of X G zrepr, PySem.W.mg_none_of X G zlist, PySem.W.mg_none_of X G zset, PySem.W.mg_none_of X G zisinstance, PySem.W.mg_none_of X G zstr, PySem.W.mg_none_of X G zall, PySem.W.mg_none_of X G zenumerate, PySem.W.mg_none_of X G ziter, PySem.W.mg_none_of X G zzip, ⟨tL, PySem.W.mg_of X G aL⟩, ⟨tM, PySem.W.mg_of X G aM⟩⟩
  have TA : TxA K mg CA := ⟨⟨pgA, hdA, poA, saA⟩, nQA, PySem.W.mg_of X G aCA, haA, hn, ht, hmA⟩
  have TC : TxC K mg C := ⟨⟨pgS, hdS, poS, saS⟩, nQS, PySem.W.mg_of X G aCS, haS, hn, ht, hmS⟩
  have MA : Mk K CA fAI := ⟨mkA, aAI, iAI, kcA⟩
  have MS : Mk K C fSI := ⟨mkS, aSI, iSI, kcS⟩
  have TE : TxE K mg CU CK CN := ⟨ercB_ok eb, no, PySem.W.mg_of X G aCU, PySem.W.mg_of X G aCK, PySem.W.mg_of X G aCN, te, tn⟩
  have FUI := fun_mk (st := sUInit) lUI cUI kUI
  have bUI := FUI.binds (ps := ["self", "question"]) fun _ _ _ _ _ _ us hl => match us, hl with | [_, _], _ => rfl
  have FAI := fun_mk (st := sAInit) lAI cAI kAI
  have bAI := FAI.binds (ps := ["self", "questions"]) fun _ _ _ _ _ _ us hl => match us, hl with | [_, _], _ => rfl
  have FAE := fun_mk (st := sAEq) lAE cAE kAE
  have bAE := FAE.binds (ps := ["self", "other"]) fun _ _ _ _ _ _ us hl => match us, hl with | [_, _], _ => rfl
  have FAT := fun_mk (st := sAIter) lAT cAT kAT
  have bAT := FAT.binds (ps := ["self"]) fun _ _ _ _ _ _ us hl => match us, hl with | [_], _ => rfl
  have FAQ := fun_mk (st := sAQns) lAQ cAQ kAQ
  have bAQ := FAQ.binds (ps := ["self"]) fun _ _ _ _ _ _ us hl => match us, hl with | [_], _ => rfl
  have FSI := fun_mk (st := sInit) lSI cSI kSI
  have bSI := FSI.binds (ps := ["self", "indexes"]) fun _ _ _ _ _ _ us hl => match us, hl with | [_, _], _ => rfl
  have FSE := fun_mk (st := sEq) lSE cSE kSE
  have bSE := FSE.binds (ps := ["self", "other"]) fun _ _ _ _ _ _ us hl => match us, hl with | [_, _], _ => rfl
  have FSL := fun_mk (st := sLen) lSL cSL kSL
  have bSL := FSL.binds (ps := ["self"]) fun _ _ _ _ _ _ us hl => match us, hl with | [_], _ => rfl
  have FST := fun_mk (st := sIter) lST cST kST
  have bST := FST.binds (ps := ["self"]) fun _ _ _ _ _ _ us hl => match us, hl with | [_], _ => rfl
  have F1 := fun_mk (st := sIsCol) l1 c1 k1
  have b1 := F1.binds (ps := ["thing"]) fun _ _ _ _ _ _ us hl => match us, hl with | [_], _ => rfl
  have F2 := fun_mk (st := sAreDiff) l2 c2 k2
  have b2 := F2.binds (ps := ["things"]) fun _ _ _ _ _ _ us hl => match us, hl with | [_], _ => rfl
  have F3 := fun_mk (st := sAsc) l3 c3 k3
  have b3 := F3.binds (ps := ["things"]) fun _ _ _ _ _ _ us hl => match us, hl with | [_], _ => rfl
  have F4 := fun_mk (st := sAreCols) l4 c4 k4
  have b4 := F4.binds (ps := ["thing"]) fun _ _ _ _ _ _ us hl => match us, hl with | [_], _ => rfl
  have F5 := fun_mk (st := sIsEmpty) l5 c5 k5
  have b5 := F5.binds (ps := ["thing"]) fun _ _ _ _ _ _ us hl => match us, hl with | [_], _ => rfl
  have F6 := fun_mk (st := sIsLast) l6 c6 k6
  have b6 := F6.binds (ps := ["thing", "columns"]) fun _ _ _ _ _ _ us hl => match us, hl with | [_, _], _ => rfl
  have F7 := fun_mk (st := sIsQ) l7 c7 k7
  have b7 := F7.binds (ps := ["thing"]) fun _ _ _ _ _ _ us hl => match us, hl with | [_], _ => rfl
  have F8 := fun_mk (st := sIsIndex) l8 c8 k8
  have b8 := F8.binds (ps := ["thing"]) fun _ _ _ _ _ _ us hl => match us, hl with | [_], _ => rfl
  have F9 := fun_mk (st := sAreQs) l9 c9 k9
  have b9 := F9.binds (ps := ["thing"]) fun _ _ _ _ _ _ us hl => match us, hl with | [_], _ => rfl
  have F10 := fun_mk (st := sAreIxs) l10 c10 k10
  have b10 := F10.binds (ps := ["thing"]) fun _ _ _ _ _ _ us hl => match us, hl with | [_], _ => rfl
  have F11 := fun_mk (st := sFault) l11 c11 k11
  have b11 := F11.binds (ps := ["index", "question"]) fun _ _ _ _ _ _ us hl => match us, hl with | [_, _], _ => rfl
  have F12 := fun_mk (st := sServ) l12 c12 k12
  have b12 := F12.binds (ps := ["index", "question"]) fun _ _ _ _ _ _ us hl => match us, hl with | [_, _], _ => rfl
  have F13 := fun_mk (st := sServers) l13 c13 k13
  have b13 := F13.binds (ps := ["shelf", "question"]) fun _ _ _ _ _ _ us hl => match us, hl with | [_, _], _ => rfl
  have F14 := fun_mk (st := sIsServed) l14 c14 k14
  have b14 := F14.binds (ps := ["shelf", "question"]) fun _ _ _ _ _ _ us hl => match us, hl with | [_, _], _ => rfl
  have F15 := fun_mk (st := sPlaceOf) l15 c15 k15
  have b15 := F15.binds (ps := ["shelf", "question"]) fun _ _ _ _ _ _ us hl => match us, hl with | [_, _], _ => rfl
  have F16 := fun_mk (st := sFaults) l16 c16 k16
  have b16 := F16.binds (ps := ["shelf", "question"]) fun _ _ _ _ _ _ us hl => match us, hl with | [_, _], _ => rfl
  have F17 := fun_mk (st := sPlaces) l17 c17 k17
  have b17 := F17.binds (ps := ["shelf", "asked"]) fun _ _ _ _ _ _ us hl => match us, hl with | [_, _], _ => rfl
  have F18 := fun_mk (st := sUnserved) l18 c18 k18
  have b18 := F18.binds (ps := ["shelf", "asked"]) fun _ _ _ _ _ _ us hl => match us, hl with | [_, _], _ => rfl
  have F19 := fun_mk (st := sIdle) l19 c19 k19
  have b19 := F19.binds (ps := ["shelf", "asked"]) fun _ _ _ _ _ _ us hl => match us, hl with | [_, _], _ => rfl
  have F20 := fun_mk (st := sDrop) l20 c20 k20
  have b20 := F20.binds (ps := ["shelf", "asked"]) fun _ _ _ _ _ _ us hl => match us, hl with | [_, _], _ => rfl
  have F21 := fun_mk (st := sBag) l21 c21 k21
  have b21 := F21.binds (ps := ["_law_script"]) fun _ _ _ _ _ _ us hl => match us, hl with | [_], _ => rfl
  have F22 := fun_mk (st := sTake) l22 c22 k22
  have b22 := F22.binds (ps := ["_law_bag_here", "_law_upto"]) fun _ _ _ _ _ _ us hl => match us, hl with | [_, _], _ => rfl
  have F23 := fun_mk (st := sOne) l23 c23 k23
  have b23 := F23.binds (ps := ["_law_bag_here", "_law_some"]) fun _ _ _ _ _ _ us hl => match us, hl with | [_, _], _ => rfl
  have F24 := fun_mk (st := sMixed) l24 c24 k24
  have b24 := F24.binds (ps := ["_law_bag_here", "_law_things"]) fun _ _ _ _ _ _ us hl => match us, hl with | [_, _], _ => rfl
  have F25 := fun_mk (st := sAlike) l25 c25 k25
  have b25 := F25.binds (ps := ["_law_found", "_law_due"]) fun _ _ _ _ _ _ us hl => match us, hl with | [_, _], _ => rfl
  have F26 := fun_mk (st := sTruth) l26 c26 k26
  have b26 := F26.binds (ps := ["_law_told", "_law_due"]) fun _ _ _ _ _ _ us hl => match us, hl with | [_, _], _ => rfl
  have F27 := fun_mk (st := sNames) l27 c27 k27
  have b27 := F27.binds (ps := ["_law_bag_here", "_law_many"]) fun _ _ _ _ _ _ us hl => match us, hl with | [_, _], _ => rfl
  have F28 := fun_mk (st := sQOf) l28 c28 k28
  have b28 := F28.binds (ps := ["_law_bag_here", "_law_row"]) fun _ _ _ _ _ _ us hl => match us, hl with | [_, _], _ => rfl
  have F29 := fun_mk (st := sQuestions) l29 c29 k29
  have b29 := F29.binds (ps := ["_law_bag_here", "_law_names_here", "_law_many"]) fun _ _ _ _ _ _ us hl => match us, hl with | [_, _, _], _ => rfl
  have F30 := fun_mk (st := sIndex) l30 c30 k30
  have b30 := F30.binds (ps := ["_law_bag_here", "_law_names_here"]) fun _ _ _ _ _ _ us hl => match us, hl with | [_, _], _ => rfl
  have F31 := fun_mk (st := sServes) l31 c31 k31
  have b31 := F31.binds (ps := ["_law_index_here", "_law_question"]) fun _ _ _ _ _ _ us hl => match us, hl with | [_, _], _ => rfl
  have F32 := fun_mk (st := sServedHere) l32 c32 k32
  have b32 := F32.binds (ps := ["_law_rows", "_law_question"]) fun _ _ _ _ _ _ us hl => match us, hl with | [_, _], _ => rfl
  have F33 := fun_mk (st := sFaultHere) l33 c33 k33
  have b33 := F33.binds (ps := ["_law_index_here", "_law_question"]) fun _ _ _ _ _ _ us hl => match us, hl with | [_, _], _ => rfl
  have F34 := fun_mk (st := sShop) l34 c34 k34
  have b34 := F34.binds (ps := ["_law_bag_here", "_law_wide", "_law_many"]) fun _ _ _ _ _ _ us hl => match us, hl with | [_, _, _], _ => rfl
  have F35 := fun_mk (st := sPlaced) l35 c35 k35
  have b35 := F35.binds (ps := ["_law_shelf", "_law_question"]) fun _ _ _ _ _ _ us hl => match us, hl with | [_, _], _ => rfl
  have F36 := fun_mk (st := sFirst) l36 c36 k36
  have b36 := F36.binds (ps := ["_law_rows", "_law_question"]) fun _ _ _ _ _ _ us hl => match us, hl with | [_, _], _ => rfl
  have F37 := fun_mk (st := sSingle) l37 c37 k37
  have b37 := F37.binds (ps := ["_law_shelf", "_law_rows", "_law_question"]) fun _ _ _ _ _ _ us hl => match us, hl with | [_, _, _], _ => rfl
  have F38 := fun_mk (st := sEvery) l38 c38 k38
  have b38 := F38.binds (ps := ["_law_names_here"]) fun _ _ _ _ _ _ us hl => match us, hl with | [_], _ => rfl
  have F39 := fun_mk (st := sAll) l39 c39 k39
  have b39 := F39.binds (ps := ["_law_rows", "_law_some"]) fun _ _ _ _ _ _ us hl => match us, hl with | [_, _], _ => rfl
  have F40 := fun_mk (st := sLaw) l40 c40 k40
  have b40 := F40.binds (ps := ["_law_script"]) fun _ _ _ _ _ _ us hl => match us, hl with | [_], _ => rfl
  refine ⟨PySem.W.fnOf "law" "law" (defArgs sLaw) (defBody sLaw) (defScope sLaw) .none kV40 dc40 pm40 an40 cd40 ct40, fun s v => .of_eq rfl, fun base _ _ => ?_⟩
  let c_1 : Cal l.prog w K mg base 1 "is_column" ["thing"] (spText K colS) := ⟨_, _, ok_iscol F1 T, PySem.W.mg_of X G a1, k1, b1⟩
  let c_2 : Cal l.prog w K mg base 2 "are_different_columns" ["things"] (spRowT) := ⟨_, _, ok_arediff F2 T c_1, PySem.W.mg_of X G a2, k2, b2⟩
  let c_3 : Cal l.prog w K mg base 1 "is_ascending" ["things"] (spAreCols) := ⟨_, _, ok_asc F3 T, PySem.W.mg_of X G a3, k3, b3⟩
  let c_4 : Cal l.prog w K mg base 2 "are_columns" ["thing"] (spAreCols) := ⟨_, _, ok_arecols F4 T c_1 c_3, PySem.W.mg_of X G a4, k4, b4⟩
  let c_5 : Cal l.prog w K mg base 1 "is_empty" ["thing"] (spText K fun z => decide (z = "")) := ⟨_, _, ok_isempty F5 T, PySem.W.mg_of X G a5, k5, b5⟩
  let c_6 : Cal l.prog w K mg base 2 "is_last" ["thing", "columns"] (spLast K) := ⟨_, _, ok_islast F6 T c_1 c_5, PySem.W.mg_of X G a6, k6, b6⟩
  let c_7 : Cal l.prog w K mg base 3 "is_question" ["thing"] (spIsQ) := ⟨_, _, ok_isq F7 T c_4 c_6, PySem.W.mg_of X G a7, k7, b7⟩
  let c_8 : Cal l.prog w K mg base 3 "is_index" ["thing"] (spRowT) := ⟨_, _, ok_isindex F8 T c_2, PySem.W.mg_of X G a8, k8, b8⟩
  let c_9 : Cal l.prog w K mg base 4 "are_questions" ["thing"] (spAreQs K) := ⟨_, _, ok_areqs F9 T c_7, PySem.W.mg_of X G a9, k9, b9⟩
  let c_10 : Cal l.prog w K mg base 4 "are_indexes" ["thing"] (spAreIxs) := ⟨_, _, ok_areixs F10 T c_8, PySem.W.mg_of X G a10, k10, b10⟩
  have gAI : FnOk l.prog w K mg base CX0 5 fAI _ ["self", "questions"] (spAInit CA) := ok_ainit FAI T TA c_9
  have gAT : FnS l.prog w K mg base 1 fAT _ ["self"] (spIterF CA "_questions") := ok_aitr FAT T TA
  let AC : ACl l.prog w K mg base CA := ⟨TA, fAI, fAE, fAQ, fAT, _, _, _, MA, gAI, bAI, ⟨aAE, iAE, enA, eoA⟩, ok_aeq FAE T TA, bAE, nfA, ⟨aAQ, iAQ, kAQ⟩, ok_aqns FAQ T TA, bAQ⟩
  have gUI : FnOk l.prog w K mg base CX0 1 fUI _ ["self", "question"] (spInitE K "question") := ok_uinit FUI
  have gSI : FnOk l.prog w K mg base CX0 5 fSI _ ["self", "indexes"] (spInitS C) := ok_init FSI T TC c_10
  have gST : FnS l.prog w K mg base 1 fST _ ["self"] (spIterF C "_indexes") := ok_itr FST T TC
  have gSL : FnOk l.prog w K mg base CX0 1 fSL _ ["self"] (spLenF C "_indexes") := ok_len FSL T TC
  let SC : SCl l.prog w K mg base C := ⟨TC, fSI, fSE, _, _, MS, gSI, bSI, ⟨aSE, iSE, enS, eoS⟩, ok_seq FSE T TC, bSE, nfS⟩
  have gEA : FnOk l.prog w K mg base CX0 1 AC.fE AC.dE ["self", "other"] (spNo C) := ok_aeqN FAE T TA TC noA
  have gES : FnOk l.prog w K mg base CX0 1 SC.fE SC.dE ["self", "other"] (spNo CA) := ok_seqN FSE T TC TA noS
  let c_11 : Cal l.prog w K mg base 1 "first_fault" ["index", "question"] (spFault) := ⟨_, _, ok_fault F11 T, PySem.W.mg_of X G a11, k11, b11⟩
  let c_12 : Cal l.prog w K mg base 1 "serves" ["index", "question"] (spServes) := ⟨_, _, ok_serv F12 T, PySem.W.mg_of X G a12, k12, b12⟩
  let c_13 : Cal l.prog w K mg base 4 "servers" ["shelf", "question"] (spServers C) := ⟨_, _, ok_servers F13 T ⟨aST, iST⟩ gST bST c_12, PySem.W.mg_of X G a13, k13, b13⟩
  let c_14 : Cal l.prog w K mg base 2 "is_served" ["shelf", "question"] (spIsServed C) := ⟨_, _, ok_isserved F14 T ⟨aST, iST⟩ gST bST c_12, PySem.W.mg_of X G a14, k14, b14⟩
  let c_15 : CalX l.prog w K mg base 5 "place_of" ["shelf", "question"] (spPlaceOf C CU) := ⟨_, _, ok_placeof F15 T TE aUI tUI gUI bUI c_13, PySem.W.mg_of X G a15, k15, b15⟩
  let c_16 : Cal l.prog w K mg base 2 "faults" ["shelf", "question"] (spFaults C) := ⟨_, _, ok_faults F16 T ⟨aST, iST⟩ gST bST c_11, PySem.W.mg_of X G a16, k16, b16⟩
  let c_17 : Cal l.prog w K mg base 5 "places" ["shelf", "asked"] (spPlaces C CA) := ⟨_, _, ok_places F17 T ⟨aAT, iAT⟩ gAT bAT c_13, PySem.W.mg_of X G a17, k17, b17⟩
  let c_18 : Cal l.prog w K mg base 7 "unserved" ["shelf", "asked"] (spUnserved C CA) := ⟨_, _, ok_unserved F18 T TA MA gAI bAI ⟨aAT, iAT⟩ gAT bAT c_14, PySem.W.mg_of X G a18, k18, b18⟩
  let c_19 : Cal l.prog w K mg base 5 "idle" ["shelf", "asked"] (spIdle C CA) := ⟨_, _, ok_idle F19 T ⟨aAT, iAT⟩ gAT bAT ⟨aSL, iSL⟩ gSL bSL c_13, PySem.W.mg_of X G a19, k19, b19⟩
  let c_20 : Cal l.prog w K mg base 5 "droppable" ["shelf", "asked"] (spDrop C CA) := ⟨_, _, ok_drop F20 T ⟨aAT, iAT⟩ gAT bAT ⟨aSL, iSL⟩ gSL bSL c_13, PySem.W.mg_of X G a20, k20, b20⟩
  let c_21 : Cal l.prog w K mg base 1 "_law_bag" ["_law_script"] (spBag K) := ⟨_, _, ok_bag F21 T, PySem.W.mg_of X G a21, k21, b21⟩
  let c_22 : Cal l.prog w K mg base 1 "_law_take" ["_law_bag_here", "_law_upto"] (spTake) := ⟨_, _, ok_take F22 T, PySem.W.mg_of X G a22, k22, b22⟩
  let c_23 : Cal l.prog w K mg base 2 "_law_one" ["_law_bag_here", "_law_some"] (spOne) := ⟨_, _, ok_one F23 T c_22, PySem.W.mg_of X G a23, k23, b23⟩
  let c_24 : Cal l.prog w K mg base 2 "_law_mixed" ["_law_bag_here", "_law_things"] (spMixed) := ⟨_, _, ok_mixed F24 T c_22, PySem.W.mg_of X G a24, k24, b24⟩
  let c_25 : CalG l.prog w K mg base 1 "_law_alike" ["_law_found", "_law_due"] (spAlikeD K) := ⟨_, _, ok_alike F25 T, PySem.W.mg_of X G a25, k25, b25⟩
  let c_26 : Cal l.prog w K mg base 1 "_law_truth" ["_law_told", "_law_due"] (spTruth) := ⟨_, _, ok_truth F26 T, PySem.W.mg_of X G a26, k26, b26⟩
  let c_27 : Cal l.prog w K mg base 2 "_law_names" ["_law_bag_here", "_law_many"] (spNamesQ) := ⟨_, _, ok_namesQ F27 T c_22, PySem.W.mg_of X G a27, k27, b27⟩
  let c_28 : Cal l.prog w K mg base 2 "_law_question_of" ["_law_bag_here", "_law_row"] (spQOf) := ⟨_, _, ok_qOf F28 T c_22, PySem.W.mg_of X G a28, k28, b28⟩
  let c_29 : Cal l.prog w K mg base 3 "_law_questions" ["_law_bag_here", "_law_names_here", "_law_many"] (spQuestions) := ⟨_, _, ok_questions F29 T c_22 c_23 c_24 c_28, PySem.W.mg_of X G a29, k29, b29⟩
  let c_30 : Cal l.prog w K mg base 3 "_law_index" ["_law_bag_here", "_law_names_here"] (spIndex) := ⟨_, _, ok_index F30 T c_22 c_24, PySem.W.mg_of X G a30, k30, b30⟩
  let c_31 : Cal l.prog w K mg base 1 "_law_serves" ["_law_index_here", "_law_question"] (spServes) := ⟨_, _, ok_serves F31 T, PySem.W.mg_of X G a31, k31, b31⟩
  let c_32 : Cal l.prog w K mg base 2 "_law_is_served" ["_law_rows", "_law_question"] (spIsHere) := ⟨_, _, ok_ishere F32 T c_31, PySem.W.mg_of X G a32, k32, b32⟩
  let c_33 : Cal l.prog w K mg base 1 "_law_fault" ["_law_index_here", "_law_question"] (spFaultR) := ⟨_, _, ok_faulth F33 T, PySem.W.mg_of X G a33, k33, b33⟩
  let c_34 : Cal l.prog w K mg base 4 "_law_shop" ["_law_bag_here", "_law_wide", "_law_many"] (spShopQ) := ⟨_, _, ok_shopQ F34 T c_22 c_27 c_30 c_29 c_28, PySem.W.mg_of X G a34, k34, b34⟩
  let c_35 : Cal l.prog w K mg base 6 "_law_placed" ["_law_shelf", "_law_question"] (spPlaced C) := ⟨_, _, ok_placed F35 T TE c_15, PySem.W.mg_of X G a35, k35, b35⟩
  let c_36 : Cal l.prog w K mg base 2 "_law_first" ["_law_rows", "_law_question"] (spFirst) := ⟨_, _, ok_first F36 T c_31, PySem.W.mg_of X G a36, k36, b36⟩
  let c_37 : CalG l.prog w K mg base 7 "_law_single_right" ["_law_shelf", "_law_rows", "_law_question"] (spSingle C) := ⟨_, _, ok_single F37 T c_36 c_26 c_14 c_25 c_35 c_16 c_33, PySem.W.mg_of X G a37, k37, b37⟩
  let c_38 : Cal l.prog w K mg base 1 "_law_every" ["_law_names_here"] (spEvery) := ⟨_, _, ok_every F38 T, PySem.W.mg_of X G a38, k38, b38⟩
  let c_39 : CalG l.prog w K mg base 8 "_law_all_right" ["_law_rows", "_law_some"] (spAllR) := ⟨_, _, ok_all F39 T AC SC c_36 c_32 c_31 c_25 c_17 c_18 c_19 c_20, PySem.W.mg_of X G a39, k39, b39⟩
  exact ok_law F40 T AC SC gEA gES nfAC nfCA c_21 c_22 c_23 c_24 c_27 c_28 c_30 c_34 c_38 c_37 c_39
theorem walk {l : PySem.W.OpenLaw} {q : Program} {loose : List Str} {XP : (Str → Option Value) → Heap → Prop} {YP : World → Heap → Prop} {d : DefRec} {K : Params → PySem.W.Frag} (hn : l.most = some 63) (hdf : d.params.defaults = [])
    (hY : ∀ (w : World) (h : Heap), YP w h → (K w.params).In h)
    (F : ∀ (w : World) (mg : Str → Option Value) (fa : Addr) (h : Heap), (K w.params).In h → h.Ns mainGlobals mg → mg d.name = some (.ref fa) →
      ∃ fd : FuncData, (∀ (s : Shared) (u : Value), BindsTo s fd ⟨[u], []⟩ [("_law_script", u)]) ∧ ∀ base : Heap, (K w.params).In base → base.Ns mainGlobals mg → FnG l.prog w (K w.params) mg base 9 fa fd ["_law_script"] (spLaw (K w.params))) :
    PySem.W.WalkO q loose XP YP l.row.toRowW d [] (fun f vs => PySem.call f vs) :=
  walk_g (n := 63) (k := 9) (x := "_law_script") (sp := fun w => spLaw (K w.params)) hn (by decide) hdf ⟨rfl, by decide, by decide⟩ hY F (fun _ _ a ns hl _ hS => ⟨a, ns, rfl, hS, hl, fun _ => rfl⟩)
end Qk
open PySem PySem.W PyProof.Rows
set_option maxRecDepth 100000 in
set_option maxHeartbeats 0 in
theorem PySem.Challenge.cw_narrowkeys_k25_serving_told_holds : PySem.Challenge.rw_narrowkeys_k25_serving_told.Holds := by
  w_on; o_law; k_head; (case hw => w_witness2)
  k_fill
  refine Qk.walk (l := PySem.Challenge.rw_narrowkeys_k25_serving_told) rfl rfl (fun w h Y => PySem.W.kIn_of Y) ?F
  case F =>
    intro w mg fa h KX G hmg
    refine' Qk.all_mk KX G hmg ?a1 ?l1 ?c1 ?k1 ?a2 ?l2 ?c2 ?k2 ?a3 ?l3 ?c3 ?k3 ?a4 ?l4 ?c4 ?k4 ?a5 ?l5 ?c5 ?k5 ?a6 ?l6 ?c6 ?k6 ?a7 ?l7 ?c7 ?k7 ?a8 ?l8 ?c8 ?k8 ?a9 ?l9 ?c9 ?k9 ?a10 ?l10 ?c10 ?k10 ?a11 ?l11 ?c11 ?k11 ?a12 ?l12 ?c12 ?k12 ?a13 ?l13 ?c13 ?k13 ?a14 ?l14 ?c14 ?k14 ?a15 ?l15 ?c15 ?k15 ?a16 ?l16 ?c16 ?k16 ?a17 ?l17 ?c17 ?k17 ?a18 ?l18 ?c18 ?k18 ?a19 ?l19 ?c19 ?k19 ?a20 ?l20 ?c20 ?k20 ?a21 ?l21 ?c21 ?k21 ?a22 ?l22 ?c22 ?k22 ?a23 ?l23 ?c23 ?k23 ?a24 ?l24 ?c24 ?k24 ?a25 ?l25 ?c25 ?k25 ?a26 ?l26 ?c26 ?k26 ?a27 ?l27 ?c27 ?k27 ?a28 ?l28 ?c28 ?k28 ?a29 ?l29 ?c29 ?k29 ?a30 ?l30 ?c30 ?k30 ?a31 ?l31 ?c31 ?k31 ?a32 ?l32 ?c32 ?k32 ?a33 ?l33 ?c33 ?k33 ?a34 ?l34 ?c34 ?k34 ?a35 ?l35 ?c35 ?k35 ?a36 ?l36 ?c36 ?k36 ?a37 ?l37 ?c37 ?k37 ?a38 ?l38 ?c38 ?k38 ?a39 ?l39 ?c39 ?k39 ?a40 ?l40 ?c40 ?k40 ?aL ?aM ?hn ?ht ?aCA ?aAI ?iAI ?lAI ?cAI ?kAI ?aAE ?iAE ?lAE ?cAE ?kAE ?aAT ?iAT ?lAT ?cAT ?kAT ?aAQ ?iAQ ?lAQ ?cAQ ?kAQ ?pgA ?hdA ?poA ?saA ?mkA ?kcA ?nQA ?haA ?hmA ?enA ?eoA ?nfA ?aCS ?aSI ?iSI ?lSI ?cSI ?kSI ?aSE ?iSE ?lSE ?cSE ?kSE ?aSL ?iSL ?lSL ?cSL ?kSL ?aST ?iST ?lST ?cST ?kST ?pgS ?hdS ?poS ?saS ?mkS ?kcS ?nQS ?haS ?hmS ?enS ?eoS ?nfS ?aCU ?aCK ?aCN ?eb ?no ?te ?tn ?noA ?noS ?nfAC ?nfCA ?aUI ?tUI ?lUI ?cUI ?kUI ?zlen ?zint ?zabs ?ztuple ?zsorted ?zrange ?zrepr ?zlist ?zset ?zisinstance ?zstr ?zall ?zenumerate ?ziter ?zzip
    (case a1 => k_is)
    (case l1 => k_is)
    (case c1 => k_is)
    (case k1 => k_is)
    (case a2 => k_is)
    (case l2 => k_is)
    (case c2 => k_is)
    (case k2 => k_is)
    (case a3 => k_is)
    (case l3 => k_is)
    (case c3 => k_is)
    (case k3 => k_is)
    (case a4 => k_is)
    (case l4 => k_is)
    (case c4 => k_is)
    (case k4 => k_is)
    (case a5 => k_is)
    (case l5 => k_is)
    (case c5 => k_is)
    (case k5 => k_is)
    (case a6 => k_is)
    (case l6 => k_is)
    (case c6 => k_is)
    (case k6 => k_is)
    (case a7 => k_is)
    (case l7 => k_is)
    (case c7 => k_is)
    (case k7 => k_is)
    (case a8 => k_is)
    (case l8 => k_is)
    (case c8 => k_is)
    (case k8 => k_is)
    (case a9 => k_is)
    (case l9 => k_is)
    (case c9 => k_is)
    (case k9 => k_is)
    (case a10 => k_is)
    (case l10 => k_is)
    (case c10 => k_is)
    (case k10 => k_is)
    (case a11 => k_is)
    (case l11 => k_is)
    (case c11 => k_is)
    (case k11 => k_is)
    (case a12 => k_is)
    (case l12 => k_is)
    (case c12 => k_is)
    (case k12 => k_is)
    (case a13 => k_is)
    (case l13 => k_is)
    (case c13 => k_is)
    (case k13 => k_is)
    (case a14 => k_is)
    (case l14 => k_is)
    (case c14 => k_is)
    (case k14 => k_is)
    (case a15 => k_is)
    (case l15 => k_is)
    (case c15 => k_is)
    (case k15 => k_is)
    (case a16 => k_is)
    (case l16 => k_is)
    (case c16 => k_is)
    (case k16 => k_is)
    (case a17 => k_is)
    (case l17 => k_is)
    (case c17 => k_is)
    (case k17 => k_is)
    (case a18 => k_is)
    (case l18 => k_is)
    (case c18 => k_is)
    (case k18 => k_is)
    (case a19 => k_is)
    (case l19 => k_is)
    (case c19 => k_is)
    (case k19 => k_is)
    (case a20 => k_is)
    (case l20 => k_is)
    (case c20 => k_is)
    (case k20 => k_is)
    (case a21 => k_is)
    (case l21 => k_is)
    (case c21 => k_is)
    (case k21 => k_is)
    (case a22 => k_is)
    (case l22 => k_is)
    (case c22 => k_is)
    (case k22 => k_is)
    (case a23 => k_is)
    (case l23 => k_is)
    (case c23 => k_is)
    (case k23 => k_is)
    (case a24 => k_is)
    (case l24 => k_is)
    (case c24 => k_is)
    (case k24 => k_is)
    (case a25 => k_is)
    (case l25 => k_is)
    (case c25 => k_is)
    (case k25 => k_is)
    (case a26 => k_is)
    (case l26 => k_is)
    (case c26 => k_is)
    (case k26 => k_is)
    (case a27 => k_is)
    (case l27 => k_is)
    (case c27 => k_is)
    (case k27 => k_is)
    (case a28 => k_is)
    (case l28 => k_is)
    (case c28 => k_is)
    (case k28 => k_is)
    (case a29 => k_is)
    (case l29 => k_is)
    (case c29 => k_is)
    (case k29 => k_is)
    (case a30 => k_is)
    (case l30 => k_is)
    (case c30 => k_is)
    (case k30 => k_is)
    (case a31 => k_is)
    (case l31 => k_is)
    (case c31 => k_is)
    (case k31 => k_is)
    (case a32 => k_is)
    (case l32 => k_is)
    (case c32 => k_is)
    (case k32 => k_is)
    (case a33 => k_is)
    (case l33 => k_is)
    (case c33 => k_is)
    (case k33 => k_is)
    (case a34 => k_is)
    (case l34 => k_is)
    (case c34 => k_is)
    (case k34 => k_is)
    (case a35 => k_is)
    (case l35 => k_is)
    (case c35 => k_is)
    (case k35 => k_is)
    (case a36 => k_is)
    (case l36 => k_is)
    (case c36 => k_is)
    (case k36 => k_is)
    (case a37 => k_is)
    (case l37 => k_is)
    (case c37 => k_is)
    (case k37 => k_is)
    (case a38 => k_is)
    (case l38 => k_is)
    (case c38 => k_is)
    (case k38 => k_is)
    (case a39 => k_is)
    (case l39 => k_is)
    (case c39 => k_is)
    (case k39 => k_is)
    (case a40 => k_is)
    (case l40 => k_is)
    (case c40 => k_is)
    (case k40 => k_is)
    (case aL => first | k_is | rfl)
    (case aM => first | k_is | rfl)
    (case hn => first | k_is | rfl)
    (case ht => first | k_is | rfl)
    (case aCA => first | k_is | rfl)
    (case aAI => first | k_is | rfl)
    (case iAI => first | k_is | rfl)
    (case lAI => first | k_is | rfl)
    (case cAI => first | k_is | rfl)
    (case kAI => first | k_is | rfl)
    (case aAE => first | k_is | rfl)
    (case iAE => first | k_is | rfl)
    (case lAE => first | k_is | rfl)
    (case cAE => first | k_is | rfl)
    (case kAE => first | k_is | rfl)
    (case aAT => first | k_is | rfl)
    (case iAT => first | k_is | rfl)
    (case lAT => first | k_is | rfl)
    (case cAT => first | k_is | rfl)
    (case kAT => first | k_is | rfl)
    (case aAQ => first | k_is | rfl)
    (case iAQ => first | k_is | rfl)
    (case lAQ => first | k_is | rfl)
    (case cAQ => first | k_is | rfl)
    (case kAQ => first | k_is | rfl)
    (case pgA => first | k_is | rfl)
    (case hdA => first | k_is | rfl)
    (case poA => first | k_is | rfl)
    (case saA => first | k_is | rfl)
    (case mkA => first | k_is | rfl)
    (case kcA => first | k_is | rfl)
    (case nQA => first | k_is | rfl)
    (case haA => first | k_is | rfl)
    (case hmA => first | k_is | rfl)
    (case enA => first | k_is | rfl)
    (case eoA => first | k_is | rfl)
    (case nfA => first | k_is | rfl)
    (case aCS => first | k_is | rfl)
    (case aSI => first | k_is | rfl)
    (case iSI => first | k_is | rfl)
    (case lSI => first | k_is | rfl)
    (case cSI => first | k_is | rfl)
    (case kSI => first | k_is | rfl)
    (case aSE => first | k_is | rfl)
    (case iSE => first | k_is | rfl)
    (case lSE => first | k_is | rfl)
    (case cSE => first | k_is | rfl)
    (case kSE => first | k_is | rfl)
    (case aSL => first | k_is | rfl)
    (case iSL => first | k_is | rfl)
    (case lSL => first | k_is | rfl)
    (case cSL => first | k_is | rfl)
    (case kSL => first | k_is | rfl)
    (case aST => first | k_is | rfl)
    (case iST => first | k_is | rfl)
    (case lST => first | k_is | rfl)
    (case cST => first | k_is | rfl)
    (case kST => first | k_is | rfl)
    (case pgS => first | k_is | rfl)
    (case hdS => first | k_is | rfl)
    (case poS => first | k_is | rfl)
    (case saS => first | k_is | rfl)
    (case mkS => first | k_is | rfl)
    (case kcS => first | k_is | rfl)
    (case nQS => first | k_is | rfl)
    (case haS => first | k_is | rfl)
    (case hmS => first | k_is | rfl)
    (case enS => first | k_is | rfl)
    (case eoS => first | k_is | rfl)
    (case nfS => first | k_is | rfl)
    (case aCU => first | k_is | rfl)
    (case aCK => first | k_is | rfl)
    (case aCN => first | k_is | rfl)
    (case eb => first | k_is | rfl)
    (case no => first | k_is | rfl)
    (case te => first | k_is | rfl)
    (case tn => first | k_is | rfl)
    (case noA => first | k_is | rfl)
    (case noS => first | k_is | rfl)
    (case nfAC => first | k_is | rfl)
    (case nfCA => first | k_is | rfl)
    (case aUI => first | k_is | rfl)
    (case tUI => first | k_is | rfl)
    (case lUI => first | k_is | rfl)
    (case cUI => first | k_is | rfl)
    (case kUI => first | k_is | rfl)
    (case zlen => k_is)
    (case zint => k_is)
    (case zabs => k_is)
    (case ztuple => k_is)
    (case zsorted => k_is)
    (case zrange => k_is)
    (case zrepr => k_is)
    (case zlist => k_is)
    (case zset => k_is)
    (case zisinstance => k_is)
    (case zstr => k_is)
    (case zall => k_is)
    (case zenumerate => k_is)
    (case ziter => k_is)
    (case zzip => k_is)
#print axioms PySem.Challenge.cw_narrowkeys_k25_serving_told_holds
