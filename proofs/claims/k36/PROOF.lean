import PyProof.Rows.All
import Wide.All
import OpenK.AllK
import Wide.FinOn
import HandS.ForMost
import HandS.More
import HandS.TupAny
import HandS.Star
import HandS.Evl
import PyProof.Rows.StrMeet
import HandS.Walk
import PyProof.StrLawsRepr
import HandS.SortRule
import HandS.Deep
import KE.GoesEnum
import KE.GoesMore
import HandS.IsInst
import HandS.StrMore
import HandS.OwnEq
import HandS.TupSets
import HandS.SetKeys
import HandS.ExcValue
import HandS.Strs
import KE.KeyNested
import KE.LtSeq
import HandS.OwnIter
import HandS.IterVal
import KE.KOwnIter
import OpenK.KOps
import HandS.Comp
import HandS.SetBool
import HandS.Style
import HandS.Zip
import HandS.Defaults
import HandS.CallRecv
import PySem.Challenge.RW_narrowkeys_k36_whole_forced_and_served
set_option Elab.async false
set_option linter.all false
set_option maxRecDepth 100000
set_option maxHeartbeats 4000000
namespace Qk
open PySem PySem.Spec PyProof.Rows L2
/-! rules of my own: a list's item read for an augmented store, repr of flat values, sorted of a list or a tuple of texts -/
section
variable {X : Cx}
theorem get_list : PGet X (fun o i H Q => ∃ p xs j v, o = .ref p ∧ i = .int ((j : Nat) : Int) ∧ SqL X.K H p xs ∧ xs[j]? = some v ∧ Q v H) := by
  intro pins s σ H o i ov iv Q I ro ri h
  obtain ⟨p, xs, j, v, rfl, rfl, hx, ha, q⟩ := h
  cases ro
  obtain ⟨t, rfl⟩ := ri
  obtain ⟨its, r, pl, hz⟩ := I.list hx
  obtain ⟨w, ew, rw'⟩ := r.get ha
  have hj : j < xs.length := (List.getElem?_eq_some_iff.mp ha).1
  have hn := line63
  exact wpAny_getItem_list pl.isList (by omega) (by omega) (by simpa using ew) ⟨v, H, I, rw', q⟩
def rSortedST (K : PySem.W.Frag) : List V → Hp → VK → Prop := fun vs H Q => ∃ (a : Addr) (ss : List Str), vs = [V.ref a] ∧ (SqL K H a (ss.map V.str) ∨ SqT K H a (ss.map V.str)) ∧ ss.length < 64 ∧
  ∀ (ys : List Str) (p : Addr), ys.Perm ss → sortedS ys = true → H p = none → Q (.ref p) (upd H p (.lst (ys.map V.str)))
theorem cr_sortedST : CallR X (.builtin "sorted") (rSortedST X.K) := by
  intro pins s σ H vs us Q I r h
  obtain ⟨a, ss, rfl, hs, h64, q⟩ := h
  rcases hs with hs | hs
  · exact cr_sortedS pins s σ H _ us Q I r ⟨a, ss, rfl, hs, h64, q⟩
  · obtain ⟨its, rv, ⟨o, ho, hc, n, hd⟩, hz⟩ := I.tuple hs
    rw [Vals.ref1 r]
    have hS : StrsAre its ss := rv.strs
    have hl : its.length = ss.length := by
      have z := rv.length
      rw [List.length_map] at z
      exact z.symm
    refine Calls.call_function_entry PyProof.Rows.kind_sorted PyProof.Rows.plain_sorted PyProof.Rows.entry_sorted (PyProof.Rows.args_sorted1 _) ?_
    unfold Builtin.«sorted»
    refine wpAny_bind (m := checkCount "sorted" 1 1 _) (wpAny_pure ?_)
    refine wpAny_bind (wpAny_collect_seq a (.inr rfl) ho hc hd (fun h' hk => ?_) (by rw [List.size_toArray, hl, sizeLine_eq]; omega))
    have e0 : its.toArray.toList = its := by simp
    rw [e0]
    have I1 : Inv X pins σ H { s with heap := h' } := I.kept (t' := s.toks) hk
    refine wpAny_bind (wpAny_newList ?_ (by rw [hl, sizeLine_eq]; omega))
    have hoL : (h'.push (seqObj "list" its.toArray 0)).get? h'.objs.size = some (seqObj "list" its.toArray 0) := Heap.get?_push_size _ rfl
    show wpAny _ _ _ _ _ { s with heap := h'.push (seqObj "list" its.toArray 0) }
    refine wpAny_bind (wpAny_holding (wpAny_call_entry PyProof.Rows.slot_list_sort ⟨_, hoL, rfl⟩ PyProof.Rows.entry_list_sort
      (list_sort_treeK strKind_oneLt (s := { s with heap := h'.push (seqObj "list" its.toArray 0) }) hoL hS.keysOf (fun v₁ v₂ rest e => keyKind_strs (by rw [← e]; exact hS)) (by rw [hl]; exact h64) fun st' hp hs => ⟨_, rfl, ?_⟩)
      (PyProof.Rows.args_list_sort _)))
    obtain ⟨ys, g1, g2, g3⟩ := sorted_out_str hS hp hs
    obtain ⟨ep, he'⟩ := PyProof.Rows.sortedHeap_at (vs := its) (out := (arrOf st').map (·.2)) hoL
    have hlen : (ys.map V.str).length ≤ sizeLine := by
      rw [List.length_map, g2.length_eq]
      exact Nat.le_trans (Nat.le_of_lt h64) (by decide)
    have hfresh : H h'.objs.size = none := I1.hok.fresh (Nat.le_refl _)
    refine wpAny_pure ⟨_, rfl, .ref h'.objs.size, upd H h'.objs.size (.lst (ys.map V.str)), I1.laid (t' := s.toks) (fun b u hu => ?_) (Nat.le_refl _)
      (show ObjOk X.prog X.w _ _ h'.objs.size (.lst (ys.map V.str)) from ⟨hlen, ((arrOf st').map (·.2)).toList, ep, vals_of_strs g1, by rw [Array.toArray_toList]; exact he'⟩), rfl, q ys _ g2 g3 hfresh⟩
    have hb : b ≠ h'.objs.size := Nat.ne_of_lt (Heap.lt_size hu)
    have hu2 : (h'.push (seqObj "list" its.toArray 0)).get? b = some u := Heap.get?_push_of_some _ hu
    rw [PyProof.Rows.sortedHeap_old hb (Heap.lt_size hu2)]
    exact hu2
end
end Qk
set_option maxRecDepth 100000
set_option maxHeartbeats 4000000
namespace Qk
open PySem PySem.Spec PyProof.Rows L2
/-! the law's bag of draws: what is known of it, and what a draw may touch -/
def Bag (H : Hp) (b l : Addr) : Prop := ∃ (h m : Int) (p : Nat) (ns : List Int), H b = some (.lst [.int h, .int m, .int (p : Int), .ref l]) ∧ H l = some (.lst (ns.map V.int)) ∧ l ≠ b ∧
  0 ≤ h ∧ 0 ≤ m ∧ m < 2147483647 ∧ ∀ n ∈ ns, 0 ≤ n
/-- all but b is kept -/
def Kp (b : Addr) (H H' : Hp) : Prop := ∀ c o, H c = some o → c ≠ b → H' c = some o
theorem Kp.refl (b : Addr) (H : Hp) : Kp b H H := fun _ _ e _ => e
theorem Kp.trans {b : Addr} {H H1 H2 : Hp} (x : Kp b H H1) (y : Kp b H1 H2) : Kp b H H2 := fun c o e n => y c o (x c o e n) n
theorem Kp.of {b : Addr} {H H' : Hp} (s : Same H H') : Kp b H H' := fun c o e _ => s c o e
theorem Kp.at_ (b : Addr) (H : Hp) (o : HO) : Kp b H (upd H b o) := fun c u e n => by rw [upd_ne n]; exact e
theorem Kp.new {b p : Addr} {H : Hp} {o : HO} (hp : H p = none) : Kp b H (L2.upd H p o) := fun c u e _ => by rw [upd_ne (ne_of_none e hp)]; exact e
theorem Bag.at_ {H : Hp} {b l : Addr} (B : Bag H b l) : ∃ o, H b = some o := by
  obtain ⟨h, m, p, ns, hb, _⟩ := B
  exact ⟨_, hb⟩
theorem Bag.same {H H' : Hp} {b l : Addr} (s : Same H H') (B : Bag H b l) : Bag H' b l := by
  obtain ⟨h, m, p, ns, hb, hl, r⟩ := B
  exact ⟨h, m, p, ns, s _ _ hb, s _ _ hl, r⟩
theorem same_new {H : Hp} {p : Addr} {o : HO} (h : H p = none) : Same H (upd H p o) := fun b x e => by
  rw [upd_ne (ne_of_none e h)]
  exact e
theorem Bag.new {H : Hp} {b l p : Addr} {o : HO} (B : Bag H b l) (h : H p = none) : Bag (upd H p o) b l := B.same (same_new h)
theorem Bag.ne {H : Hp} {b l p : Addr} (B : Bag H b l) (h : H p = none) : p ≠ b := by
  obtain ⟨o, e⟩ := B.at_
  exact (ne_of_none e h).symm
/-- the bag stands nowhere where something of another kind stands -/
theorem Bag.ne_tup {H : Hp} {b l p : Addr} {xs : List V} (B : Bag H b l) (h : H p = some (.tup xs)) : p ≠ b := by
  obtain ⟨h', m, q, ns, hb, _⟩ := B
  exact ne_of h hb (by intro z; cases z)
/-- what stands beside the bag and its list may change -/
theorem Bag.off {H H' : Hp} {b l p : Addr} (B : Bag H b l) (h : ∀ c o, H c = some o → c ≠ p → H' c = some o) (nb : b ≠ p) (nl : l ≠ p) : Bag H' b l := by
  obtain ⟨h', m, q, ns, hb, hl, r⟩ := B
  exact ⟨h', m, q, ns, h _ _ hb nb, h _ _ hl nl, r⟩
theorem Bag.list {H : Hp} {b l : Addr} (B : Bag H b l) : ∃ o, H l = some o := by
  obtain ⟨h, m, p, ns, hb, hl, _⟩ := B
  exact ⟨_, hl⟩
theorem Bag.nel {H : Hp} {b l p : Addr} (B : Bag H b l) (h : H p = none) : l ≠ p := by
  obtain ⟨o, e⟩ := B.list
  exact ne_of_none e h
theorem Bag.upd {H : Hp} {b l p : Addr} {o : HO} (B : Bag H b l) (nb : b ≠ p) (nl : l ≠ p) : Bag (L2.upd H p o) b l :=
  B.off (fun c u e n => by rw [upd_ne n]; exact e) nb nl
/-! promises of the law's own helpers -/
/-- a draw: a number below many, the bag moves on -/
def spTake : Sp := fun vs H Q _ => ∃ (b l : Addr) (n : Int), vs = [.ref b, .int n] ∧ Bag H b l ∧ 0 < n ∧ n < 1000000 ∧ ∀ (k : Nat) (H' : Hp), (k : Int) < n → Bag H' b l → Kp b H H' → Q (.int (k : Int)) H'
/-- one of a list -/
def spOne : Sp := fun vs H Q _ => ∃ (b l a : Addr) (xs : List V), vs = [.ref b, .ref a] ∧ Bag H b l ∧ a ≠ b ∧ H a = some (.lst xs) ∧ xs ≠ [] ∧ xs.length < 1000 ∧ ∀ (x : V) (H' : Hp), x ∈ xs → Bag H' b l → Kp b H H' → Q x H'
/-- a new list of the same things in some order -/
def spMixed : Sp := fun vs H Q _ => ∃ (b l a : Addr) (xs : List V), vs = [.ref b, .ref a] ∧ Bag H b l ∧ a ≠ b ∧ H a = some (.lst xs) ∧ xs.length < 1000 ∧
  ∀ (ys : List V) (p : Addr) (H' : Hp), ys.Perm xs → H p = none → p ≠ b → H' p = some (.lst ys) → Bag H' b l → Kp b H H' → Q (.ref p) H'
/-- the bag of a script -/
def spBag (K : PySem.W.Frag) : Sp := fun vs H Q _ => ∃ (a : Addr) (ns : List Int), vs = [.ref a] ∧ SqL K H a (ns.map V.int) ∧ ns.length ≤ 63 ∧ ∀ (b l : Addr) (H' : Hp), H b = none → Bag H' b l → Same H H' → Q (.ref b) H'
/-- a def that is called by its name -/
structure Cal (P : Program) (w : World) (K : PySem.W.Frag) (mg : Str → Option Value) (base : Heap) (k : Nat) (x : Str) (ps : List Str) (sp : Sp) where
  f : Addr
  fd : FuncData
  G : FnOk P w K mg base CX0 k f fd ps sp
  m : mg x = some (.ref f)
  kp : PySem.W.keepIn K (.ref f) = true
  b : Binds K fd ps []
theorem cut_to (k : Nat) (xs : List V) : cutV xs none (some (k : Int)) = xs.take k := by
  unfold cutV
  rw [HT.sIx_none, HT.sIx_nat, List.drop_zero, Nat.sub_zero]
  by_cases h : k ≤ xs.length
  · rw [Nat.min_eq_left h]
  · rw [Nat.min_eq_right (by omega), List.take_of_length_le (Nat.le_refl _), List.take_of_length_le (by omega)]
theorem take_mod {k n : Int} (hn : 0 < n) : ∃ j : Nat, k % n = (j : Int) ∧ (j : Int) < n := by
  have h1 := Int.emod_nonneg k (show n ≠ 0 by omega)
  have h2 := Int.emod_lt_of_pos k hn
  exact ⟨(k % n).toNat, by omega, by omega⟩
/-- the names that the laws draw from -/
def menu0 : List Str := ["a", "b", "ab", "ba", "job", "view", "pin", "quay", "stock", "golfer", "exhumed", "zzzzzzzz"]
/-- .. and others of other laws -/
def menu : List Str := menu0 ++ (["aa", "z", "power", "status", "ask", "quicklyx", "fghmndct", "q", "c", "d", "e", "f", "g", "h", "i", "j", "k", "l", "m"] : List Str)
theorem menu0_nodup : menu0.Nodup := by decide +kernel
theorem menu0_sub : ∀ c ∈ menu0, c ∈ menu := fun c h => List.mem_append_left _ h
theorem perm_strs {ys : List V} {xs : List Str} (h : ys.Perm (xs.map V.str)) : ∃ zs : List Str, ys = zs.map V.str ∧ zs.Perm xs := by
  have go : ∀ (ys : List V), (∀ y ∈ ys, ∃ z, y = V.str z) → ∃ zs : List Str, ys = zs.map V.str := by
    intro ys
    induction ys with
    | nil => intro _; exact ⟨[], rfl⟩
    | cons y ys ih =>
      intro h
      obtain ⟨z, rfl⟩ := h y List.mem_cons_self
      obtain ⟨zs, rfl⟩ := ih fun y hy => h y (List.mem_cons_of_mem _ hy)
      exact ⟨z :: zs, rfl⟩
  obtain ⟨zs, rfl⟩ := go ys fun y hy => by
    obtain ⟨z, _, e⟩ := List.mem_map.mp (h.mem_iff.mp hy)
    exact ⟨z, e.symm⟩
  refine ⟨zs, rfl, ?_⟩
  have unstr : ∀ l : List Str, (l.map V.str).map (fun v => match v with | .str z => z | _ => "") = l := fun l => by
    rw [List.map_map]
    exact (List.map_congr_left fun _ _ => rfl).trans (List.map_id _)
  have := h.map (fun v => match v with | .str z => z | _ => "")
  rwa [unstr, unstr] at this
/-- some of the menu's names, each once, n at most -/
structure Names (n : Nat) (xs : List Str) : Prop where
  nd : xs.Nodup
  sub : ∀ c ∈ xs, c ∈ menu
  len : xs.length = min n 12
def spNames : Sp := fun vs H Q _ => ∃ (b l : Addr) (n : Nat), vs = [.ref b, .int (n : Int)] ∧ Bag H b l ∧
  ∀ (xs : List Str) (p : Addr) (H' : Hp), Names n xs → H p = none → p ≠ b → H' p = some (.lst (xs.map V.str)) → Bag H' b l → Kp b H H' → Q (.ref p) H'
/-- a row of names -/
structure Row (xs : List Str) : Prop where
  nd : xs.Nodup
  sub : ∀ c ∈ xs, c ∈ menu
  pos : 0 < xs.length
  le : xs.length ≤ 12
theorem Names.row {n : Nat} {xs : List Str} (h : Names n xs) (hn : 0 < n) : Row xs := ⟨h.nd, h.sub, by rw [h.len]; omega, by rw [h.len]; omega⟩
/-- a question as it stands -/
def QAt (H : Hp) (q : Addr) (cols : List Str) (e : Str) : Prop := ∃ c, H q = some (.tup [.ref c, .str e]) ∧ H c = some (.tup (cols.map V.str))
theorem QAt.same {H H' : Hp} {q : Addr} {cols : List Str} {e : Str} (s : Same H H') (h : QAt H q cols e) : QAt H' q cols e := by
  obtain ⟨c, h1, h2⟩ := h
  exact ⟨c, s _ _ h1, s _ _ h2⟩
theorem QAt.kp {H H' : Hp} {q b l : Addr} {cols : List Str} {e : Str} (B : Bag H b l) (s : Kp b H H') (h : QAt H q cols e) : QAt H' q cols e := by
  obtain ⟨c, h1, h2⟩ := h
  exact ⟨c, s _ _ h1 (B.ne_tup h1), s _ _ h2 (B.ne_tup h2)⟩
structure Qok (xs cols : List Str) (e : Str) : Prop where
  nd : cols.Nodup
  srt : sortedS cols = true
  sub : ∀ c ∈ cols, c ∈ xs
  esub : e = "" ∨ e ∈ xs
  ne : e ∉ cols
  some : e = "" → cols ≠ []
  le : cols.length ≤ 12
def spQuestion : Sp := fun vs H Q _ => ∃ (b l a : Addr) (xs : List Str), vs = [.ref b, .ref a] ∧ Bag H b l ∧ a ≠ b ∧ H a = some (.lst (xs.map V.str)) ∧ Row xs ∧
  ∀ (q : Addr) (cols : List Str) (e : Str) (H' : Hp), QAt H' q cols e → Qok xs cols e → Bag H' b l → Kp b H H' → Q (.ref q) H'
def spIndex : Sp := fun vs H Q _ => ∃ (b l a : Addr) (xs : List Str), vs = [.ref b, .ref a] ∧ Bag H b l ∧ a ≠ b ∧ H a = some (.lst (xs.map V.str)) ∧ Row xs ∧
  ∀ (t : Addr) (ys : List Str) (H' : Hp), H' t = some (.tup (ys.map V.str)) → Row ys → (∀ c ∈ ys, c ∈ xs) → Bag H' b l → Kp b H H' → Q (.ref t) H'
theorem menu_ne : ∀ c ∈ menu, c ≠ "" := by decide +kernel
/-- out of a beginning of some order of a row -/
theorem qok_plain {xs ys zs : List Str} {k : Nat} (R : Row xs) (hp : ys.Perm xs) (hz : zs.Perm (ys.take (k + 1))) (hs : sortedS zs = true) : Qok xs zs "" := by
  have sl := List.take_sublist (k + 1) ys
  have hsub : ∀ c ∈ zs, c ∈ xs := fun c hc => hp.mem_iff.mp (sl.mem (hz.mem_iff.mp hc))
  have hl := R.le
  have hpos := R.pos
  have hyl := hp.length_eq
  have hzl := hz.length_eq
  rw [List.length_take] at hzl
  refine ⟨hz.nodup_iff.mpr ((hp.nodup_iff.mpr R.nd).sublist sl), hs, hsub, .inl rfl, fun h => menu_ne _ (R.sub _ (hsub _ h)) rfl, fun _ h => ?_, by omega⟩
  rw [h] at hzl
  simp at hzl
  omega
theorem qok_ranged {xs ys zs : List Str} {k : Nat} {e : Str} (R : Row xs) (hp : ys.Perm xs) (he : ys[k]? = some e) (hz : zs.Perm (ys.take k)) (hs : sortedS zs = true) : Qok xs zs e := by
  have sl := List.take_sublist k ys
  have hsub : ∀ c ∈ zs, c ∈ xs := fun c hc => hp.mem_iff.mp (sl.mem (hz.mem_iff.mp hc))
  have hmem : e ∈ xs := hp.mem_iff.mp (List.mem_of_getElem? he)
  have hl := R.le
  have hyl := hp.length_eq
  have hzl := hz.length_eq
  rw [List.length_take] at hzl
  have ndy := hp.nodup_iff.mpr R.nd
  refine ⟨hz.nodup_iff.mpr (ndy.sublist sl), hs, hsub, .inr hmem, fun h => ?_, fun h => absurd h (menu_ne _ (R.sub _ hmem)), by omega⟩
  have h1 := hz.mem_iff.mp h
  have hk : k < ys.length := (List.getElem?_eq_some_iff.mp he).1
  have e2 : ys = ys.take k ++ ys.drop k := (List.take_append_drop k ys).symm
  have e3 : e ∈ ys.drop k := by
    have : (ys.drop k)[0]? = some e := by rw [List.getElem?_drop]; exact he
    exact List.mem_of_getElem? this
  rw [e2] at ndy
  exact (List.nodup_append.mp ndy).2.2 _ h1 _ e3 rfl
end Qk
set_option maxRecDepth 100000
set_option maxHeartbeats 4000000
namespace Qk
open PySem PySem.Spec PyProof.Rows L2
/-! sorted lists of texts -/
def leS (a b : Str) : Prop := ltCps b.cps.toList a.cps.toList = false
theorem str_ext {a b : Str} (h : a.cps.toList = b.cps.toList) : a = b := by
  obtain ⟨x⟩ := a
  obtain ⟨y⟩ := b
  simp only at h
  congr 1
  exact Array.toList_inj.mp h
theorem leS_antisymm {a b : Str} (h1 : leS a b) (h2 : leS b a) : a = b := by
  unfold leS at h1 h2
  rw [ltCps_eq] at h1 h2
  have n1 := of_decide_eq_false h1
  have n2 := of_decide_eq_false h2
  exact str_ext (List.le_antisymm (List.not_lt.mp n1) (List.not_lt.mp n2))
theorem leS_trans {a b c : Str} (h1 : leS a b) (h2 : leS b c) : leS a c := by
  unfold leS at *
  rw [ltCps_eq] at *
  have n1 := List.not_lt.mp (of_decide_eq_false h1)
  have n2 := List.not_lt.mp (of_decide_eq_false h2)
  exact decide_eq_false (List.not_lt.mpr (List.le_trans n1 n2))
theorem risingS_pw : ∀ (xs : List Str) (p : Str), risingS p xs = true → (p :: xs).Pairwise leS
  | [], p, _ => List.pairwise_singleton _ _
  | x :: r, p, h => by
    rw [risingS, Bool.and_eq_true] at h
    have h1 : leS p x := by
      have := h.1
      rw [Bool.not_eq_true'] at this
      exact this
    have ih := risingS_pw r x h.2
    refine List.pairwise_cons.mpr ⟨fun y hy => ?_, ih⟩
    rcases List.mem_cons.mp hy with rfl | hy
    · exact h1
    · exact leS_trans h1 ((List.pairwise_cons.mp ih).1 y hy)
theorem sortedS_pw {xs : List Str} (h : sortedS xs = true) : xs.Pairwise leS := by
  cases xs with
  | nil => exact List.Pairwise.nil
  | cons x r => exact risingS_pw r x h
theorem perm_sorted : ∀ {xs ys : List Str}, xs.Perm ys → xs.Pairwise leS → ys.Pairwise leS → xs = ys
  | [], ys, h, _, _ => (List.Perm.nil_eq h)
  | x :: xs, [], h, _, _ => absurd h.length_eq (by simp)
  | x :: xs, y :: ys, h, h1, h2 => by
    have e : x = y := by
      rcases List.mem_cons.mp (h.mem_iff.mp List.mem_cons_self) with e | m1
      · exact e
      · rcases List.mem_cons.mp (h.mem_iff.mpr List.mem_cons_self) with e | m2
        · exact e.symm
        · exact leS_antisymm ((List.pairwise_cons.mp h1).1 y m2) ((List.pairwise_cons.mp h2).1 x m1)
    subst e
    rw [perm_sorted (List.Perm.cons_inv h) (List.pairwise_cons.mp h1).2 (List.pairwise_cons.mp h2).2]
theorem sorted_unique {xs ys zs : List Str} (h1 : xs.Perm zs) (h2 : ys.Perm zs) (s1 : sortedS xs = true) (s2 : sortedS ys = true) : xs = ys :=
  perm_sorted (h1.trans h2.symm) (sortedS_pw s1) (sortedS_pw s2)
/-! == of lists and tuples of texts -/
theorem menu_ok : ∀ c ∈ menu, PyData.strOk c = true := by decide +kernel
theorem lay_strs : ∀ {xs : List Str}, (∀ c ∈ xs, PyData.strOk c = true) → PyData.canLayAll0 (xs.map PyData.str) = true
  | [], _ => rfl
  | x :: xs, h => by
    show (PyData.canLay0 (.str x) && PyData.canLayAll0 (xs.map PyData.str)) = true
    rw [lay_strs fun c hc => h c (List.mem_cons_of_mem _ hc), Bool.and_true]
    exact h x List.mem_cons_self
theorem depth_strs : ∀ (xs : List Str), PyData.depthAll (xs.map PyData.str) = 0
  | [] => rfl
  | x :: xs => by
    show max (PyData.depth (.str x)) (PyData.depthAll (xs.map PyData.str)) = 0
    rw [depth_strs xs]
    rfl
theorem eqv_strs : ∀ (xs ys : List Str), PyData.eqvAll (xs.map PyData.str) (ys.map PyData.str) = decide (xs = ys)
  | [], [] => by simp [PyData.eqvAll]
  | [], y :: ys => by simp [PyData.eqvAll]
  | x :: xs, [] => by simp [PyData.eqvAll]
  | x :: xs, y :: ys => by
    show PyData.eqvAll (PyData.str x :: xs.map PyData.str) (PyData.str y :: ys.map PyData.str) = _
    rw [PyData.eqvAll, eqv_strs xs ys, PyData.eqv]
    by_cases h1 : x = y
    · subst h1
      by_cases h2 : xs = ys
      · subst h2
        simp
      · simp [h2]
    · simp [h1]
theorem shaped_tuple {xs : List Str} (h : ∀ c ∈ xs, PyData.strOk c = true) : SeqAt.shaped (.tuple (xs.map PyData.str)) = true := by
  unfold SeqAt.shaped
  rw [Bool.and_eq_true]
  exact ⟨lay_strs h, decide_eq_true (by rw [PyData.depth, depth_strs]; decide)⟩
theorem dp_strs {K : PySem.W.Frag} {H : Hp} : ∀ (xs : List Str), DpAll K H (xs.map V.str) (xs.map PyData.str)
  | [] => .nil
  | x :: xs => .cons (.str x) (dp_strs xs)
theorem perm_of_sub : ∀ {xs ys : List Str}, xs.Nodup → (∀ c ∈ xs, c ∈ ys) → ys.length ≤ xs.length → xs.Perm ys
  | [], ys, _, _, h => by
    have : ys = [] := List.eq_nil_of_length_eq_zero (by simpa using h)
    rw [this]
  | x :: xs, ys, nd, hs, h => by
    have hx := hs x List.mem_cons_self
    have hp := List.perm_cons_erase hx
    obtain ⟨nx, nd'⟩ := List.nodup_cons.mp nd
    have hl := hp.length_eq
    rw [List.length_cons] at hl h
    refine ((perm_of_sub (ys := ys.erase x) nd' (fun c hc => ?_) (by omega)).cons x).trans hp.symm
    have ne : c ≠ x := fun e => nx (e ▸ hc)
    exact (List.mem_erase_of_ne ne).mpr (hs c (List.mem_cons_of_mem _ hc))
/-! the least place of a fault -/
def goodAt (ix cols : List Str) (p : Nat) : Prop := ∃ c, ix[p]? = some c ∧ c ∈ cols
instance (ix cols : List Str) (p : Nat) : Decidable (goodAt ix cols p) :=
  match h : ix[p]? with
  | some c => if hc : c ∈ cols then isTrue ⟨c, h, hc⟩ else isFalse fun ⟨d, hd, hm⟩ => hc (by rw [h] at hd; cases hd; exact hm)
  | none => isFalse fun ⟨d, hd, _⟩ => by rw [h] at hd; cases hd
def fault (ix cols : List Str) (last : Str) : Option Nat :=
  match (List.range cols.length).find? (fun p => !decide (goodAt ix cols p)) with
  | some p => some p
  | none => if last ≠ "" ∧ ix[cols.length]? ≠ some last then some cols.length else none
theorem find_none {n : Nat} {g : Nat → Bool} (h : ∀ p, p < n → g p = false) : (List.range n).find? g = none :=
  List.find?_eq_none.mpr fun p hp e => by rw [h p (List.mem_range.mp hp)] at e; cases e
theorem fault_end {ix cols : List Str} {last : Str} (h : ∀ p, p < cols.length → goodAt ix cols p) : fault ix cols last = if last ≠ "" ∧ ix[cols.length]? ≠ some last then some cols.length else none := by
  unfold fault
  rw [find_none fun p hp => by rw [decide_eq_true (h p hp)]; rfl]
/-- no fault just if the beginning is made of the columns, with the last one behind -/
theorem fault_none {ix cols ws : List Str} {last : Str} (hix : ix.Nodup) (hc : cols.Nodup) (hs : sortedS cols = true) (hw : ws.Perm (ix.take cols.length)) (hws : sortedS ws = true) :
    fault ix cols last = none ↔ ws = cols ∧ (last = "" ∨ ix[cols.length]? = some last) := by
  constructor
  · intro h
    unfold fault at h
    split at h
    · cases h
    · next e =>
      have good : ∀ p, p < cols.length → goodAt ix cols p := fun p hp => by
        have := List.find?_eq_none.mp e p (List.mem_range.mpr hp)
        simpa using this
      constructor
      · have hle : cols.length ≤ ix.length := by
          rcases Nat.lt_or_ge ix.length cols.length with hlt | hge
          · obtain ⟨c, h1, _⟩ := good ix.length hlt
            rw [List.getElem?_eq_none (Nat.le_refl _)] at h1
            cases h1
          · exact hge
        have hlen : (ix.take cols.length).length = cols.length := by rw [List.length_take]; omega
        have hsub : ix.take cols.length ⊆ cols := fun c hc' => by
          obtain ⟨p, hp, e⟩ := List.mem_iff_getElem.mp hc'
          rw [hlen] at hp
          obtain ⟨d, h1, h2⟩ := good p hp
          rw [List.getElem_take] at e
          rw [List.getElem?_eq_getElem (by omega)] at h1
          cases h1
          rw [← e]
          exact h2
        have hperm : (ix.take cols.length).Perm cols := perm_of_sub (hix.sublist (List.take_sublist _ _)) (fun c hc => hsub hc) (by omega)
        exact sorted_unique hw hperm.symm hws hs
      · by_cases h1 : last = ""
        · exact .inl h1
        · by_cases h2 : ix[cols.length]? = some last
          · exact .inr h2
          · rw [if_pos ⟨h1, h2⟩] at h
            cases h
  · rintro ⟨rfl, h2⟩
    rw [fault_end fun p hp => ?_]
    · rw [if_neg]
      rintro ⟨a1, a2⟩
      rcases h2 with h2 | h2
      · exact a1 h2
      · exact a2 h2
    · have hl := hw.length_eq
      rw [List.length_take] at hl
      have hp2 : p < ix.length := by omega
      refine ⟨ix[p], List.getElem?_eq_getElem hp2, hw.mem_iff.mpr ?_⟩
      exact List.mem_iff_getElem.mpr ⟨p, by rw [List.length_take]; omega, by rw [List.getElem_take]⟩
/-! promises about serving -/
def spServes : Sp := fun vs H Q _ => ∃ (t q : Addr) (ix cols : List Str) (e : Str), vs = [.ref t, .ref q] ∧ H t = some (.tup (ix.map V.str)) ∧ QAt H q cols e ∧ cols.length ≤ 12 ∧ ix.length ≤ 12 ∧ ix.Nodup ∧ (∀ c ∈ ix, c ∈ menu) ∧
  cols.Nodup ∧ sortedS cols = true ∧ (∀ c ∈ cols, c ∈ menu) ∧ (e = "" ∨ e ∈ menu) ∧ ∀ H', Same H H' → Q (.bl (decide (fault ix cols e = none))) H'
theorem slA {K : PySem.W.Frag} {H : Hp} {a : Addr} {xs : List Str} {lo hi : Option Int} {ys : List Str} {Q : VK} (h : H a = some (.tup (xs.map V.str))) (e : cutV (xs.map V.str) lo hi = ys.map V.str)
    (k : ∀ (r : Addr) (H' : Hp), Same H H' → H' r = some (.tup (ys.map V.str)) → Q (.ref r) H') : rSlA K (.ref a) lo hi H Q := by
  refine ⟨a, _, rfl, SqT.of h, fun hw => k a H (Same.refl _) ?_, fun _ p hp => ?_⟩
  · rw [h, ← e]
    unfold cutV
    rw [hw.1, hw.2, List.drop_zero, Nat.sub_zero, List.take_length]
  · rw [e]
    exact k p _ (same_new hp) upd_same
theorem cut_one (n : Nat) (xs : List Str) : cutV (xs.map V.str) (some (n : Int)) (some ((n : Int) + 1)) = ((xs.drop n).take 1).map V.str := by
  have e1 : (n : Int) + 1 = ((n + 1 : Nat) : Int) := by omega
  unfold cutV
  rw [e1, HT.sIx_nat, HT.sIx_nat, List.length_map]
  by_cases h : n < xs.length
  · rw [Nat.min_eq_left (by omega), Nat.min_eq_left (by omega), ← List.map_drop, ← List.map_take]
    congr 2
    omega
  · have e2 : min n xs.length = xs.length := Nat.min_eq_right (by omega)
    rw [e2, List.drop_of_length_le (show (xs.map V.str).length ≤ xs.length by rw [List.length_map]; exact Nat.le_refl _), List.drop_of_length_le (show xs.length ≤ n by omega), List.take_nil, List.take_nil, List.map_nil]
theorem take_one {xs : List Str} {n : Nat} {e : Str} : (xs.drop n).take 1 = [e] ↔ xs[n]? = some e := by
  have h0 : (xs.drop n)[0]? = xs[n]? := by rw [List.getElem?_drop]; rfl
  cases hd : xs.drop n with
  | nil =>
    rw [hd] at h0
    have h1 : none = xs[n]? := h0
    rw [← h1]
    simp
  | cons y ys =>
    rw [hd] at h0
    have h1 : some y = xs[n]? := h0
    rw [← h1]
    simp
/-! what a law knows of its index and its question -/
structure QM (cols : List Str) (e : Str) : Prop where
  nd : cols.Nodup
  srt : sortedS cols = true
  sub : ∀ c ∈ cols, c ∈ menu
  esub : e = "" ∨ e ∈ menu
  le : cols.length ≤ 12
  some : e = "" → cols ≠ []
theorem Qok.qm {xs cols : List Str} {e : Str} (h : Qok xs cols e) (R : ∀ c ∈ xs, c ∈ menu) : QM cols e :=
  ⟨h.nd, h.srt, fun c hc => R _ (h.sub _ hc), h.esub.imp id (fun m => R _ m), h.le, h.some⟩
theorem Row.take {xs : List Str} (R : Row xs) (k : Nat) : Row (xs.take (k + 1)) :=
  ⟨R.nd.sublist (List.take_sublist _ _), fun c hc => R.sub _ ((List.take_sublist _ _).mem hc), by have := R.pos; rw [List.length_take]; omega, by have := R.le; rw [List.length_take]; omega⟩
end Qk
set_option maxRecDepth 100000
set_option maxHeartbeats 4000000
namespace Qk
open PySem PySem.Spec PyProof.Rows L2
/-! ### defs that may be told only where no repr is running: what stands around them has no guard -/
structure FnG (P : Program) (w : World) (K : PySem.W.Frag) (mg : Str → Option Value) (base : Heap) (k : Nat) (f : Addr) (fd : FuncData) (ps : List Str) (sp : Sp) : Prop where
  len : ∀ vs H Q E, sp vs H Q E → vs.length = ps.length
  run : ∀ (A : Around) (outer : List Env) (s : Shared) (H : Hp) (args : Args) (us : List Value) (vs : List V) (Q : VK) (E : XK), Room k A → A.guards = some [] → Env0 P w K mg base A outer s H →
    BindsTo s fd args (ps.zip us) → Vals vs us → sp vs H Q E → codeAny (model P w) A (.call (.ref f) args) (CR CX0 outer P w H s Q E) s
theorem FnG.of {P : Program} {w : World} {K : PySem.W.Frag} {mg : Str → Option Value} {base : Heap} {k : Nat} {f : Addr} {fd : FuncData} {ps : List Str} {sp : Sp} (F : FnOk P w K mg base CX0 k f fd ps sp) : FnG P w K mg base k f fd ps sp :=
  ⟨F.len, fun A o s H args us vs Q E hr _ e b v h => F.run A o s H args us vs Q E hr e b v h⟩
end Qk
set_option maxRecDepth 100000
set_option maxHeartbeats 4000000
namespace Qk
open PySem PySem.Spec PyProof.Rows L2
/-! ### the end of a law whose def is of that kind -/
/-! ### data that may be compared and shown -/
mutual
def fine : PyData → Bool
  | .none => true
  | .bool _ => true
  | .int i => decide (i.natAbs < 10 ^ 60)
  | .str x => PyData.strOk x && decide (x.cps.size ≤ 20)
  | .list xs => fineAll xs
  | .tuple xs => fineAll xs
  | .dict _ => false
def fineAll : List PyData → Bool
  | [] => true
  | x :: xs => fine x && fineAll xs
end
mutual
def cost : PyData → Nat
  | .none => 4
  | .bool _ => 5
  | .int _ => 64
  | .str _ => 210
  | .list xs => costAll xs + 3
  | .tuple xs => costAll xs + 3
  | .dict _ => 0
def costAll : List PyData → Nat
  | [] => 0
  | x :: xs => cost x + 2 + costAll xs
end
mutual
theorem fine_lay : ∀ d : PyData, fine d = true → d.canLay0 = true ∧ d.showable = true ∧ d.hasDict = false
  | .none, _ => ⟨rfl, rfl, rfl⟩
  | .bool _, _ => ⟨rfl, rfl, rfl⟩
  | .int i, h => by
    have hi : i.natAbs < 10 ^ 60 := of_decide_eq_true h
    refine ⟨rfl, ?_, rfl⟩
    show decide (i.natAbs.log2 < 1920) = true
    refine decide_eq_true ?_
    by_cases h0 : i.natAbs = 0
    · rw [h0]
      decide
    · exact Nat.lt_of_lt_of_le ((Nat.log2_lt h0).mpr (Nat.lt_of_lt_of_le hi (show 10 ^ 60 ≤ 2 ^ 200 by decide))) (by decide)
  | .str x, h => by
    have h' : (PyData.strOk x && decide (x.cps.size ≤ 20)) = true := h
    rw [Bool.and_eq_true] at h'
    exact ⟨h'.1, rfl, rfl⟩
  | .list xs, h => fine_layAll xs h
  | .tuple xs, h => fine_layAll xs h
  | .dict _, h => by cases h
theorem fine_layAll : ∀ xs : List PyData, fineAll xs = true → PyData.canLayAll0 xs = true ∧ PyData.showableAll xs = true ∧ PyData.hasDictAll xs = false
  | [], _ => ⟨rfl, rfl, rfl⟩
  | x :: xs, h => by
    have h' : (fine x && fineAll xs) = true := h
    rw [Bool.and_eq_true] at h'
    obtain ⟨a1, a2, a3⟩ := fine_lay x h'.1
    obtain ⟨b1, b2, b3⟩ := fine_layAll xs h'.2
    refine ⟨?_, ?_, ?_⟩
    · show (PyData.canLay0 x && PyData.canLayAll0 xs) = true
      rw [a1, b1]
      rfl
    · show (PyData.showable x && PyData.showableAll xs) = true
      rw [a2, b2]
      rfl
    · show (PyData.hasDict x || PyData.hasDictAll xs) = false
      rw [a3, b3]
      rfl
end
theorem listText_le (ts : List Str) : (listText ts).length ≤ piled ts + 2 := by
  cases ts with
  | nil => decide
  | cons t r =>
    have e : listText (t :: r) = textFrom 1 ("[" ++ "" ++ t) r ++ "]" := rfl
    rw [e, strLen_append, textFrom_length_pos r 1 _ (by decide), strLen_append, piled_cons]
    have e1 : (("[" : Str) ++ ("" : Str)).length = 1 := rfl
    have e2 : ((("]" : String) : Str)).length = 1 := rfl
    have e3 : (((("[" : String) : Str) ++ (("" : String) : Str)) : Str).length = 1 := rfl
    omega
theorem tupleText_le (ts : List Str) : (tupleText ts).length ≤ piled ts + 3 := by
  unfold tupleText
  rw [strLen_append, strLen_append]
  have e1 : (("(" : String) : Str).length = 1 := rfl
  have e2 : ((if (ts.length == 1) = true then ",)" else ")" : String) : Str).length ≤ 2 := by
    split
    · decide
    · decide
  cases ts with
  | nil =>
    have : (Str.join ", " ([] : List Str)).length = 0 := rfl
    omega
  | cons t r =>
    have := join_length_add (t :: r) (by simp)
    omega
mutual
theorem shown_le : ∀ d : PyData, fine d = true → d.shown.length ≤ cost d
  | .none, _ => by decide
  | .bool b, _ => by cases b <;> decide
  | .int i, h => by
    have hi : i.natAbs < 10 ^ 60 := of_decide_eq_true h
    have e := int_text_length_le10 (k := 60) (a := i) (by decide) hi
    show (Str.ofString (toString i)).length ≤ 64
    rw [PySem.ofString_length]
    omega
  | .str x, h => by
    have h' : (PyData.strOk x && decide (x.cps.size ≤ 20)) = true := h
    rw [Bool.and_eq_true] at h'
    have h2 : x.length ≤ 20 := of_decide_eq_true h'.2
    have h3 : ∀ c ∈ x.cps.toList, c < 16 ^ 8 := fun c hc => by
      have := Array.all_eq_true'.mp h'.1 c (by simpa using hc)
      have := of_decide_eq_true this
      omega
    have := PySem.StrLaws.reprText_len x h3
    show (reprText x).length ≤ 210
    omega
  | .list xs, h => by
    have := listText_le (PyData.shownAll xs)
    have h2 := shown_leAll xs h
    show (listText (PyData.shownAll xs)).length ≤ costAll xs + 3
    omega
  | .tuple xs, h => by
    have := tupleText_le (PyData.shownAll xs)
    have h2 := shown_leAll xs h
    show (tupleText (PyData.shownAll xs)).length ≤ costAll xs + 3
    omega
  | .dict _, h => by cases h
theorem shown_leAll : ∀ xs : List PyData, fineAll xs = true → piled (PyData.shownAll xs) ≤ costAll xs
  | [], _ => Nat.le_refl 0
  | x :: xs, h => by
    have h' : (fine x && fineAll xs) = true := h
    rw [Bool.and_eq_true] at h'
    have h1 := shown_le x h'.1
    have h2 := shown_leAll xs h'.2
    show piled (PyData.shown x :: PyData.shownAll xs) ≤ cost x + 2 + costAll xs
    rw [piled_cons]
    omega
end
structure DOk (d : PyData) : Prop where
  f : fine d = true
  dp : d.depth ≤ 50
  c : cost d ≤ 1000000
theorem DOk.shaped {d : PyData} (h : DOk d) : SeqAt.shaped d = true := by
  unfold SeqAt.shaped
  rw [(fine_lay d h.f).1]
  exact decide_eq_true (Nat.le_trans h.dp (by decide))
theorem DOk.len {d : PyData} (h : DOk d) : d.shown.length ≤ sizeLine := Nat.le_trans (shown_le d h.f) (Nat.le_trans h.c (by rw [sizeLine_eq]; decide))
mutual
theorem Dp.same {K : PySem.W.Frag} {H H' : Hp} (s : Same H H') : ∀ (d : PyData) (v : V), Dp K H v d → Dp K H' v d
  | .none, _, h => by cases h; exact .non
  | .bool _, _, h => by cases h; exact .bl _
  | .int _, _, h => by cases h; exact .int _
  | .str _, _, h => by cases h; exact .str _
  | .list ds, _, h => by
    cases h with
    | lst h1 h2 => exact .lst (s.seq h1) (Dp.sameAll s ds _ h2)
  | .tuple ds, _, h => by
    cases h with
    | tup h1 h2 => exact .tup (Evl.ex_t s h1) (Dp.sameAll s ds _ h2)
  | .dict _, _, h => by cases h
theorem Dp.sameAll {K : PySem.W.Frag} {H H' : Hp} (s : Same H H') : ∀ (ds : List PyData) (vs : List V), DpAll K H vs ds → DpAll K H' vs ds
  | [], _, h => by cases h; exact .nil
  | d :: ds, _, h => by
    cases h with
    | cons h1 h2 => exact .cons (Dp.same s d _ h1) (Dp.sameAll s ds _ h2)
end
/-- the names as data -/
def okS (c : Str) : Bool := PyData.strOk c && decide (c.cps.size ≤ 20)
theorem menu_okS : ∀ c ∈ menu, okS c = true := by decide +kernel
theorem fine_strs : ∀ {xs : List Str}, (∀ c ∈ xs, okS c = true) → fineAll (xs.map PyData.str) = true
  | [], _ => rfl
  | x :: xs, h => by
    show (fine (.str x) && fineAll (xs.map PyData.str)) = true
    rw [fine_strs fun c hc => h c (List.mem_cons_of_mem _ hc), Bool.and_true]
    exact h x List.mem_cons_self
theorem cost_strs : ∀ (xs : List Str), costAll (xs.map PyData.str) = 212 * xs.length
  | [] => rfl
  | x :: xs => by
    show cost (.str x) + 2 + costAll (xs.map PyData.str) = _
    rw [cost_strs xs, List.length_cons]
    show 210 + 2 + _ = _
    omega
/-- a question as data -/
def dQ (cols : List Str) (e : Str) : PyData := .tuple [.tuple (cols.map PyData.str), .str e]
theorem dp_q {K : PySem.W.Frag} {H : Hp} {q : Addr} {cols : List Str} {e : Str} (h : QAt H q cols e) : Dp K H (.ref q) (dQ cols e) := by
  obtain ⟨c, h1, h2⟩ := h
  exact .tup (SqT.of h1) (.cons (.tup (SqT.of h2) (dp_strs _)) (.cons (.str e) .nil))
end Qk
set_option maxRecDepth 100000
set_option maxHeartbeats 4000000
namespace Qk
open PySem PySem.Spec PyProof.Rows L2
/-! ### the order of texts, of tuples of texts, of questions -/
def ltS (a b : Str) : Bool := decide (a.cps.toList < b.cps.toList)
def lexS : List Str → List Str → Bool
  | [], [] => false
  | [], _ :: _ => true
  | _ :: _, [] => false
  | x :: xs, y :: ys => if x = y then lexS xs ys else ltS x y
theorem ltS_irrefl (a : Str) : ltS a a = false := decide_eq_false (List.lt_irrefl _)
theorem ltS_tri {a b : Str} (h : a ≠ b) : ltS a b = true ∨ ltS b a = true := by
  unfold ltS
  by_cases h1 : a.cps.toList < b.cps.toList
  · exact .inl (decide_eq_true h1)
  · by_cases h2 : b.cps.toList < a.cps.toList
    · exact .inr (decide_eq_true h2)
    · exact absurd (str_ext (List.le_antisymm (List.not_lt.mp h2) (List.not_lt.mp h1))) h
theorem ltS_trans {a b c : Str} (h1 : ltS a b = true) (h2 : ltS b c = true) : ltS a c = true := by
  unfold ltS at *
  exact decide_eq_true (List.lt_trans (of_decide_eq_true h1) (of_decide_eq_true h2))
theorem ltS_asym {a b : Str} (h1 : ltS a b = true) : ltS b a = false := by
  cases h2 : ltS b a with
  | false => rfl
  | true =>
    have := ltS_trans h1 h2
    rw [ltS_irrefl] at this
    cases this
theorem lexS_irrefl : ∀ a : List Str, lexS a a = false
  | [] => rfl
  | x :: xs => by
    rw [lexS, if_pos rfl]
    exact lexS_irrefl xs
theorem lexS_tri : ∀ {a b : List Str}, a ≠ b → lexS a b = true ∨ lexS b a = true
  | [], [], h => absurd rfl h
  | [], _ :: _, _ => .inl rfl
  | _ :: _, [], _ => .inr rfl
  | x :: xs, y :: ys, h => by
    rw [lexS, lexS]
    by_cases e : x = y
    · subst e
      rw [if_pos rfl, if_pos rfl]
      exact lexS_tri fun z => h (by rw [z])
    · rw [if_neg e, if_neg (Ne.symm e)]
      exact ltS_tri e
theorem lexS_trans : ∀ {a b c : List Str}, lexS a b = true → lexS b c = true → lexS a c = true
  | [], [], _, h, _ => by cases h
  | [], _ :: _, [], _, h => by cases h
  | [], _ :: _, _ :: _, _, _ => rfl
  | _ :: _, [], _, h, _ => by cases h
  | _ :: _, _ :: _, [], _, h => by cases h
  | x :: xs, y :: ys, z :: zs, h1, h2 => by
    rw [lexS] at h1 h2 ⊢
    by_cases e1 : x = y
    · subst e1
      rw [if_pos rfl] at h1
      by_cases e2 : x = z
      · rw [if_pos e2] at h2 ⊢
        exact lexS_trans h1 h2
      · rw [if_neg e2] at h2 ⊢
        exact h2
    · rw [if_neg e1] at h1
      by_cases e2 : y = z
      · subst e2
        rw [if_neg e1]
        exact h1
      · rw [if_neg e2] at h2
        have h3 := ltS_trans h1 h2
        have e3 : x ≠ z := fun e => by
          subst e
          rw [ltS_asym h1] at h2
          cases h2
        rw [if_neg e3]
        exact h3
theorem lexS_asym {a b : List Str} (h1 : lexS a b = true) : lexS b a = false := by
  cases h2 : lexS b a with
  | false => rfl
  | true =>
    have := lexS_trans h1 h2
    rw [lexS_irrefl] at this
    cases this
abbrev Qd := List Str × Str
def ltQ (p q : Qd) : Bool := if p.1 = q.1 then ltS p.2 q.2 else lexS p.1 q.1
theorem ltQ_irrefl (p : Qd) : ltQ p p = false := by
  unfold ltQ
  rw [if_pos rfl]
  exact ltS_irrefl _
theorem ltQ_tri {p q : Qd} (h : p ≠ q) : ltQ p q = true ∨ ltQ q p = true := by
  unfold ltQ
  by_cases e : p.1 = q.1
  · rw [if_pos e, if_pos e.symm]
    exact ltS_tri fun z => h (Prod.ext e z)
  · rw [if_neg e, if_neg (Ne.symm e)]
    exact lexS_tri e
theorem ltQ_trans {p q r : Qd} (h1 : ltQ p q = true) (h2 : ltQ q r = true) : ltQ p r = true := by
  unfold ltQ at *
  by_cases e1 : p.1 = q.1
  · rw [if_pos e1] at h1
    by_cases e2 : q.1 = r.1
    · rw [if_pos e2] at h2
      rw [if_pos (e1.trans e2)]
      exact ltS_trans h1 h2
    · rw [if_neg e2] at h2
      rw [if_neg (e1 ▸ e2), e1]
      exact h2
  · rw [if_neg e1] at h1
    by_cases e2 : q.1 = r.1
    · rw [if_pos e2] at h2
      rw [if_neg (e2 ▸ e1), ← e2]
      exact h1
    · rw [if_neg e2] at h2
      have h3 := lexS_trans h1 h2
      have e3 : p.1 ≠ r.1 := fun e => by
        rw [e] at h1
        rw [lexS_asym h1] at h2
        cases h2
      rw [if_neg e3]
      exact h3
theorem ltQ_asym {p q : Qd} (h1 : ltQ p q = true) : ltQ q p = false := by
  cases h2 : ltQ q p with
  | false => rfl
  | true =>
    have := ltQ_trans h1 h2
    rw [ltQ_irrefl] at this
    cases this
theorem swo_q {α : Type} (k : α → Qd) : SrtO.Swo fun x y => ltQ (k x) (k y) := by
  refine ⟨fun x y h => ltQ_asym h, fun x y z h1 h2 => ?_⟩
  -- not y < x, not z < y: not z < x
  cases h3 : ltQ (k z) (k x) with
  | false => rfl
  | true =>
    by_cases e : k x = k y
    · rw [e] at h3
      have : ltQ (k z) (k y) = false := h2
      rw [this] at h3
      cases h3
    · rcases ltQ_tri e with h | h
      · have h4 : ltQ (k z) (k y) = true := ltQ_trans h3 h
        rw [h2] at h4
        cases h4
      · have : ltQ (k y) (k x) = false := h1
        rw [this] at h
        cases h
theorem perm_ltQ : ∀ {xs ys : List Qd}, xs.Perm ys → xs.Pairwise (fun a b => ltQ b a = false) → ys.Pairwise (fun a b => ltQ b a = false) → xs = ys
  | [], ys, h, _, _ => List.Perm.nil_eq h
  | x :: xs, [], h, _, _ => absurd h.length_eq (by simp)
  | x :: xs, y :: ys, h, h1, h2 => by
    have e : x = y := by
      rcases List.mem_cons.mp (h.mem_iff.mp List.mem_cons_self) with e | m1
      · exact e
      · rcases List.mem_cons.mp (h.mem_iff.mpr List.mem_cons_self) with e | m2
        · exact e.symm
        · have a1 := (List.pairwise_cons.mp h1).1 y m2
          have a2 := (List.pairwise_cons.mp h2).1 x m1
          by_cases e : x = y
          · exact e
          · rcases ltQ_tri e with h | h
            · rw [a2] at h; cases h
            · rw [a1] at h; cases h
    subst e
    rw [perm_ltQ (List.Perm.cons_inv h) (List.pairwise_cons.mp h1).2 (List.pairwise_cons.mp h2).2]
/-! ### t < u of tuples of texts -/
section
open PySem.SeqAt
open PySem.AutoSeq1 (wpAny_loadPart')
open PySem.MeetsSeq PySem.MeetsSeq2 PySem.MeetsSeq3
theorem eqAt_str (A : Around) (s : Shared) (a : Str) (t : Tok) (c : Str) (u : Tok) : ∃ e, SeqAt.EqAt A s (.str a t) (.str c u) e ∧ (e = true ↔ a = c) :=
  ⟨(a == c), SeqAt.EqAt.str_str a t c u, by simp⟩
theorem rcLt_str (A : Around) (s : Shared) (a : Str) (t : Tok) (c : Str) (u : Tok) (prog : Program) (w : World) (E : Value → Shared → Prop) (Q : Value → Shared → Prop) (h : Q (.bool (ltS a c)) s) :
    wpAny (model prog w) A (richCompare .Lt (.str a t) (.str c u)) Q E s := by
  have z : wpAny (model prog w) A (compareOp .Lt (.str a t) (.str c u)) Q E s := PySem.P.lt_str h
  exact z
theorem tuple_lt_texts (l b : Addr) (us vs : Array Value) (n m : Nat) (d1 d2 : Option Addr) (sl1 sl2 : Array (Option Value)) (xs ys : List Str) (hx : StrsAre us.toList xs) (hy : StrsAre vs.toList ys) :
    Meets (Builtin.«tuple.__lt__» ⟨[.ref l, .ref b], []⟩)
      (fun _ R s => s.heap.get? l = some { cls := .type "tuple", dict := d1, data := .seq us n, slots := sl1 } ∧ s.heap.get? b = some { cls := .type "tuple", dict := d2, data := .seq vs m, slots := sl2 } ∧
        R (.ok (.ret (.bool (lexS xs ys)))) s) :=
  .of_wp fun prog w A R s h => by
    obtain ⟨hp, g, d, tk, os⟩ := s; obtain ⟨hl, hb, h⟩ := h
    have f2 := AutoSeq1.sub_tuple_tuple
    have z1 : us.size = xs.length := by rw [← hx.length]; simp
    have z2 : vs.size = ys.length := by rw [← hy.length]; simp
    wp_walk using wpAny_loadPart' hl, wpAny_loadPart' hb, wpAny_forIn_list _ (fun rest b s' => b.1 = none ∧ s' = ⟨hp, g, d, tk, os⟩ ∧ ∃ (as bs : List Value) (x' y' : List Str), rest = as.zip bs ∧
      StrsAre as x' ∧ StrsAre bs y' ∧ x'.length + vs.size = y'.length + us.size ∧ R (.ok (.ret (.bool (lexS x' y')))) ⟨hp, g, d, tk, os⟩) _
    case turn =>
      rintro ⟨u, v⟩ rest b s' ⟨hb', rfl, as, bs, x', y', hz, ha, hc, hlen, hR⟩
      cases ha with
      | nil => rw [List.zip_nil_left] at hz; cases hz
      | cons a t ha' =>
        cases hc with
        | nil => rw [List.zip_nil_right] at hz; cases hz
        | cons c t2 hc' =>
          rw [List.zip_cons_cons] at hz
          injection hz with e1 hrest
          injection e1 with eu ev
          subst eu ev
          rw [lexS] at hR
          simp only [List.length_cons] at hlen
          obtain ⟨e, he, hiff⟩ := eqAt_str A.in1 ⟨hp, g, d, tk, os⟩ a t c t2
          refine wpAny_bind (he prog w _ _ ?_)
          cases e with
          | true =>
            rw [if_pos (hiff.mp rfl)] at hR
            wp_walk
            exact ⟨rfl, rfl, _, _, _, _, hrest, ha', hc', by omega, hR⟩
          | false =>
            rw [if_neg (fun q => absurd (hiff.mpr q) Bool.false_ne_true)] at hR
            have hri := rcLt_str A.in1 ⟨hp, g, d, tk, os⟩ a t c t2 prog w
            wp_walk using hri
            exact ⟨_, rfl, by simpa using hR⟩
    case fin =>
      rintro ⟨b1, b2⟩ s' ⟨hb', rfl, as, bs, x', y', hz, ha, hc, hlen, hR⟩
      simp only at hb'
      subst hb'
      have hv : lexS x' y' = decide (us.size < vs.size) := by
        cases ha with
        | nil =>
          cases hc with
          | nil =>
            simp only [List.length_nil] at hlen
            exact (decide_eq_false (by omega)).symm
          | cons c u hw =>
            simp only [List.length_nil, List.length_cons] at hlen
            exact (decide_eq_true (by omega)).symm
        | cons a t hv =>
          cases hc with
          | nil =>
            simp only [List.length_nil, List.length_cons] at hlen
            exact (decide_eq_false (by omega)).symm
          | cons c u hw =>
            rw [List.zip_cons_cons] at hz
            cases hz
      rw [hv] at hR
      wp_walk
      exact ⟨_, rfl, by simpa [Builtin.Tuple.tupleCompareSizes] using hR⟩
    case h =>
      exact ⟨rfl, rfl, us.toList, vs.toList, xs, ys, rfl, hx, hy, by omega, h⟩
theorem lt_tupTexts {prog : Program} {w : World} {A : Around} {E : Value → Shared → Prop} {s : Shared} {l b : Addr} {us vs : Array Value} {xs ys : List Str} {Q : Value → Shared → Prop} (hl : IsTup s.heap l us) (hb : IsTup s.heap b vs)
    (hx : StrsAre us.toList xs) (hy : StrsAre vs.toList ys) (hu : A.units < cLine) (h : Q (.bool (lexS xs ys)) s) : wpAny (model prog w) A (compareOp .Lt (.ref l) (.ref b)) Q E s := by
  obtain ⟨⟨c1, d1, e1, sl1⟩, ho, hc, n, hd⟩ := id hl
  obtain ⟨⟨c2, d2, e2, sl2⟩, ho2, hc2, m, hd2⟩ := id hb
  simp only at hc hd hc2 hd2
  subst hc hd hc2 hd2
  exact richCompare_meets_room (op := .Lt) ⟨_, ho, rfl⟩ ⟨_, ho2, rfl⟩ PySem.F.slot_tuple_lt PySem.F.entry_tuple_lt (PySem.F.args_tuple_lt_2 _ _) (tuple_lt_texts l b us vs n m d1 d2 sl1 sl2 xs ys hx hy)
    ⟨ho, ho2, show Value.bool (lexS xs ys) ≠ Value.notImplemented ∧ Q (.bool (lexS xs ys)) s from ⟨(fun x => nomatch x), h⟩⟩ hu
end
/-! ### sorted of questions -/
/-- v is a question in the heap -/
def IsQ (h : Heap) (v : Value) (q : Qd) : Prop := ∃ (a c : Addr) (o oc : Obj) (t : Tok) (us : List Value) (n m : Nat), v = .ref a ∧ h.get? a = some o ∧ o.cls = .type "tuple" ∧ o.data = .seq #[.ref c, .str q.2 t] n ∧
  h.get? c = some oc ∧ oc.cls = .type "tuple" ∧ oc.data = .seq us.toArray m ∧ StrsAre us q.1
theorem IsQ.keeps {h h' : Heap} {v : Value} {q : Qd} (x : IsQ h v q) (k : ∀ b o, h.get? b = some o → o.cls = .type "tuple" → h'.get? b = some o) : IsQ h' v q := by
  obtain ⟨a, c, o, oc, t, us, n, m, e, ho, hc, hd, hoc, hcc, hdc, hs⟩ := x
  exact ⟨a, c, o, oc, t, us, n, m, e, k _ _ ho hc, hc, hd, k _ _ hoc hcc, hcc, hdc, hs⟩
section
variable {prog : Program} {w : World} {A : Around} {E : Value → Shared → Prop} {s : Shared}
theorem reads_strs {h : Heap} : ∀ {us : List Value} {xs : List Str}, StrsAre us xs → ∃ as, ReadsAll h us (xs.map PyData.str) as
  | _, _, .nil => ⟨_, ReadsAll.nil⟩
  | _, _, .cons x t r => by
    obtain ⟨as, q⟩ := reads_strs (h := h) r
    exact ⟨_, ReadsAll.cons (Reads.str x t) q⟩
theorem q_cmp {vs : List Value} {k : Value → Qd} (hu : A.units + 64 < cLine) (hm : ∀ v ∈ vs, ∀ c ∈ (k v).1, PyData.strOk c = true) (hp : ∀ v ∈ vs, IsQ s.heap v (k v)) : SrtO.Cmp prog w A s (tuples' false) (fun p => p.1 ∈ vs) (SrtO.lt2 fun v u => ltQ (k v) (k u)) := by
  intro p q hm1 hm2
  have h1 := hp _ hm1
  have h2 := hp _ hm2
  have m1 := hm _ hm1
  have m2 := hm _ hm2
  show wpAny (model prog w) A (keyLt' (tuples' false) p.1 q.1) (fun r s' => s' = s ∧ r = ltQ (k p.1) (k q.1)) (fun _ _ => False) s
  generalize k p.1 = x at h1 m1 ⊢
  generalize k q.1 = y at h2 m2 ⊢
  obtain ⟨xc, xe⟩ := x
  obtain ⟨yc, ye⟩ := y
  obtain ⟨a, c, o, oc, t, us, n, m, e, ho, hc, hd, hoc, hcc, hdc, hs⟩ := h1
  obtain ⟨a', c', o', oc', t', us', n', m', e', ho', hc', hd', hoc', hcc', hdc', hs'⟩ := h2
  rw [e, e']
  refine PySem.W.kat_lt ho hd ho' hd' ?_
  show PySem.W.KatLex prog w A false (decide (2 < 2)) _ [(.ref c, .ref c'), (.str xe t, .str ye t')] 0 s
  obtain ⟨as, r1⟩ := reads_strs (h := s.heap) hs
  obtain ⟨bs, r2⟩ := reads_strs (h := s.heap) hs'
  have rd1 : Reads s.heap (.ref c) (.tuple (xc.map PyData.str)) as := Reads.tuple hoc hcc hdc (by simpa using r1)
  have rd2 : Reads s.heap (.ref c') (.tuple (yc.map PyData.str)) bs := Reads.tuple hoc' hcc' hdc' (by simpa using r2)
  have l1 : (PyData.tuple (xc.map PyData.str)).canLay0 = true := lay_strs m1
  have l2 : (PyData.tuple (yc.map PyData.str)).canLay0 = true := lay_strs m2
  refine PySem.W.kat_cons (SeqAt.eqBoolOverData prog w A _ s _ _ _ _ as bs _ rd1 rd2 l1 l2 ?_ ?_)
  · have : (PyData.tuple (xc.map PyData.str)).depth = 1 := by
      show PyData.depthAll _ + 1 = 1
      rw [depth_strs]
    omega
  rw [PyData.eqv, eqv_strs]
  by_cases ex : xc = yc
  · rw [decide_eq_true ex]
    refine PySem.W.kat_yes (PySem.W.kat_cons (SeqAt.EqAt.str_str xe t ye t' prog w _ _ ?_))
    by_cases ey : xe = ye
    · have e3 : ltQ (xc, xe) (yc, ye) = false := by rw [ex, ey]; exact ltQ_irrefl _
      have e4 : (xe == ye) = true := beq_iff_eq.mpr ey
      rw [e4]
      exact PySem.W.kat_yes (PySem.W.kat_nil ⟨rfl, e3.symm⟩)
    · have e3 : ltQ (xc, xe) (yc, ye) = ltS xe ye := if_pos ex
      have e4 : (xe == ye) = false := beq_eq_false_iff_ne.mpr ey
      rw [e4]
      refine PySem.W.kat_no (PySem.W.kat_one _ _ (rcLt_str A s xe t ye t' prog w _ _ ?_))
      exact (show s = s ∧ ltS xe ye = ltQ (xc, xe) (yc, ye) from ⟨rfl, e3.symm⟩)
  · rw [decide_eq_false ex]
    have e3 : ltQ (xc, xe) (yc, ye) = lexS xc yc := if_neg ex
    refine PySem.W.kat_no (PySem.W.kat_one _ _ (lt_tupTexts (us := us.toArray) (vs := us'.toArray) ⟨oc, hoc, hcc, m, hdc⟩ ⟨oc', hoc', hcc', m', hdc'⟩ (by simpa using hs) (by simpa using hs') (by omega) ?_))
    exact (show s = s ∧ lexS xc yc = ltQ (xc, xe) (yc, ye) from ⟨rfl, e3.symm⟩)
theorem q_firsts {h : Heap} : ∀ {vs : List Value} {k : Value → Qd}, (∀ v ∈ vs, IsQ h v (k v)) → ∃ fs : List Value, PySem.W.KatTups h vs fs ∧ fs.length = vs.length ∧ ∀ f ∈ fs, ∃ c oc, f = Value.ref c ∧ h.get? c = some oc ∧ oc.cls = .type "tuple"
  | [], _, _ => ⟨[], PySem.W.KatTups.nil, rfl, fun _ hm => by simp at hm⟩
  | v :: vs, k, hp => by
    obtain ⟨fs, h1, h2, h3⟩ := q_firsts (vs := vs) (k := k) fun v' hm => hp v' (List.mem_cons_of_mem _ hm)
    obtain ⟨a, c, o, oc, t, us, n, m, e, ho, hc, hd, hoc, hcc, hdc, hs⟩ := hp v List.mem_cons_self
    subst e
    refine ⟨.ref c :: fs, PySem.W.KatTups.cons ho hc hd rfl h1, by rw [List.length_cons, List.length_cons, h2], fun f hm => ?_⟩
    rcases List.mem_cons.mp hm with rfl | hm
    · exact ⟨c, oc, rfl, hoc, hcc⟩
    · exact h3 f hm
theorem q_sortable {a : Addr} {vs : List Value} {k : Value → Qd} (hu : A.units + 64 < cLine) (h0 : 0 < vs.length) (hm : ∀ v ∈ vs, ∀ c ∈ (k v).1, PyData.strOk c = true) (hp : ∀ v ∈ vs, IsQ s.heap v (k v)) (ha : ∀ o, s.heap.get? a = some o → o.cls ≠ .type "tuple") :
    SrtO.SortableO prog w A s a vs fun v u => ltQ (k v) (k u) := by
  intro h' keep
  have hp' : ∀ v ∈ vs, IsQ h' v (k v) := fun v hm => (hp v hm).keeps fun b o e c => keep b o (fun z => by subst z; exact ha o e c) e
  obtain ⟨fs, h1, h2, h3⟩ := q_firsts hp'
  refine ⟨tuples' false, fun Q E hq => ?_, q_cmp hu hm hp'⟩
  refine PySem.W.kat_kind (T := .type "tuple") h1 (by omega) (fun f hf => ?_) (by rfl) ?_
  · obtain ⟨c, oc, rfl, hoc, hcc⟩ := h3 f hf
    rw [← hcc]
    exact (PySem.W.Looks.ld hoc).andThen PySem.W.Looks.now
  · have e : (Value.type "tuple" != Value.type "tuple") = false := by first | decide +kernel | rfl | decide
    rw [e]
    exact hq
end
section
variable {X : Cx}
/-- sorted(xs) of questions: a new list of the same ones, rising -/
def rSortedQ (K : PySem.W.Frag) : List V → Hp → VK → Prop := fun vs H Q => ∃ (a : Addr) (xs : List V) (k : V → Qd), vs = [V.ref a] ∧ SqL K H a xs ∧ (∀ x ∈ xs, ∃ t, x = V.ref t ∧ QAt H t (k x).1 (k x).2 ∧ ∀ c ∈ (k x).1, PyData.strOk c = true) ∧
  ∀ ys p, ys.Perm xs → (ys.map k).Pairwise (fun a b => ltQ b a = false) → H p = none → Q (.ref p) (upd H p (.lst ys))
theorem cr_sortedQ (hu : X.A.units + 80 < cLine) : CallR X (.builtin "sorted") (rSortedQ X.K) := by
  intro pins s σ H vs us Q I r h
  obtain ⟨a, xs, k, rfl, hs, hx, q⟩ := h
  obtain ⟨its, rv, hl, hz⟩ := I.list hs
  obtain ⟨u, rfl, ru⟩ := vals1 r
  obtain rfl : u = Value.ref a := ru
  obtain ⟨e1, e2⟩ := refs_back rv fun x m => by
    obtain ⟨t, e, _⟩ := hx x m
    exact ⟨t, e⟩
  have isq : ∀ v ∈ its, IsQ s.heap v (k (backV v)) ∧ ∀ c ∈ (k (backV v)).1, PyData.strOk c = true := fun v hv => by
    obtain ⟨t, rfl⟩ := e2 v hv
    have hmem : V.ref t ∈ xs := by rw [e1]; exact List.mem_map.mpr ⟨_, hv, rfl⟩
    obtain ⟨t', e, ⟨c, g1, g2⟩, g3⟩ := hx _ hmem
    cases e
    obtain ⟨_, i1, r1, o, ho, hc, n, hd⟩ := I.hok _ _ g1
    obtain ⟨_, i2, r2, oc, hoc, hcc, m, hdc⟩ := I.hok _ _ g2
    obtain ⟨u1, u2, rfl, ra, rb⟩ := vals2 r1
    obtain rfl : u1 = Value.ref c := ra
    obtain ⟨tk, rfl⟩ := rb
    exact ⟨⟨t, c, o, oc, tk, i2, n, m, rfl, ho, hc, hd, hoc, hcc, hdc, r2.strs⟩, g3⟩
  refine SrtO.sorted_ord (swo_q fun u => k (backV u)) hl.isList (by rw [← rv.length]; exact hz) (fun h2 h₁ b hb kk => ?_) fun out h1 h2 => ?_
  · refine q_sortable (s := { s with heap := h₁ }) (by show X.A.units + 1 + 1 + 64 < cLine; omega) (by omega) (fun v hv => (isq v hv).2) (fun v hv => (isq v hv).1.keeps fun c o e _ => (kk c o e).2) fun o e => ?_
    have e' : some o = some (seqObj "list" its.toArray 0) := e.symm.trans hb
    cases e'
    intro c
    exact absurd (Value.type.inj c) (by decide)
  · have h3 : ∀ u ∈ out, ∃ a, u = Value.ref a := fun u hu => e2 u (h2.perm.mem_iff.mp hu)
    obtain ⟨n, hn⟩ := sortedAll_at s.heap its out.toArray
    have hperm : (out.map backV).Perm xs := by
      rw [e1]
      exact h2.perm.map backV
    have hsrt : ((out.map backV).map k).Pairwise (fun a b => ltQ b a = false) := by
      rw [List.map_map]
      exact List.pairwise_map.mpr h1
    refine ⟨.ref (s.heap.objs.size + 1), upd H (s.heap.objs.size + 1) (.lst (out.map backV)), I.laid (t' := s.toks) (fun b o e => sortedAll_old e) (Nat.le_succ _) ⟨?_, out, n, vals_back h3, hn⟩, rfl, q _ _ hperm hsrt (I.hok.fresh (Nat.le_succ _))⟩
    rw [hperm.length_eq]
    exact hz
end
end Qk
set_option maxRecDepth 100000
set_option maxHeartbeats 4000000
namespace Qk
open PySem PySem.Spec PyProof.Rows L2 PySem.W
/-! ### enumerate of a tuple -/
set_option maxHeartbeats 1000000 in
theorem meets_enum1 {v : Value} {o : Obj} {H : Heap → Prop} (B : Begins v o H) :
    Meets (Builtin.«enumerate.__new__» ⟨[.type "enumerate", v], []⟩) (fun _ R s => H s.heap ∧
      R (.ok (.ret (.ref (s.heap.push o).objs.size))) { s with heap := (s.heap.push o).push { cls := .type "enumerate", data := .fields #[.none, .bool false, .ref s.heap.objs.size, rawInt 0, .none, .none] } }) :=
  .of_wp fun prog w A R s h => by
    obtain ⟨hp, g, d, tk, os⟩ := s
    obtain ⟨h1, h⟩ := h
    have hsub := sub_enumerate
    have q1 : ∀ {A' : Around} {E : Value → Shared → Prop} {Q : Value → Shared → Prop}, Q (.ref hp.objs.size) ⟨hp.push o, g, d, tk, os⟩ → wpAny (model prog w) A' (pyIter v) Q E ⟨hp, g, d, tk, os⟩ :=
      fun q => B.iter prog w _ _ ⟨hp, g, d, tk, os⟩ _ h1 q
    wp_walk using q1
    refine wpAny_stack_any fun st => wpAny_pure ?_
    split
    · rename_i c _ _ _ _ _
      cases (c == Value.type "enumerate")
      · wp_walk using q1
        exact ⟨_, rfl, h⟩
      · wp_walk using q1
        exact ⟨_, rfl, h⟩
    · wp_walk using q1
      exact ⟨_, rfl, h⟩
theorem call_enum1 {prog : Program} {w : World} {A : Around} {E : Value → Shared → Prop} {s : Shared} {v : Value} {o : Obj} {H : Heap → Prop} {Q : Value → Shared → Prop} (B : Begins v o H) (h1 : H s.heap)
    (h : ∀ h', IsEnum h' (s.heap.objs.size + 1) s.heap.objs.size 0 .none → h'.get? s.heap.objs.size = some o → (∀ b o, s.heap.get? b = some o → h'.get? b = some o) → Q (.ref (s.heap.objs.size + 1)) { s with heap := h' }) :
    wpAny (model prog w) A (call (.type "enumerate") [v]) Q E s := by
  refine callType_new F.called_enumerate (by decide) (F.typeCall_enumerate_1 _) (F.newCall_enumerate_1 _) (fun obj => F.args_object_init_2 obj _) F.entry_enumerate_new (meets_enum1 B) ⟨h1, ?_⟩
  have hz : (s.heap.push o).objs.size = s.heap.objs.size + 1 := Heap.size_push ..
  show _ ∧ _
  rw [hz]
  have he : IsEnum ((s.heap.push o).push { cls := .type "enumerate", data := .fields #[.none, .bool false, .ref s.heap.objs.size, rawInt 0, .none, .none] }) (s.heap.objs.size + 1) s.heap.objs.size 0 .none := by
    have q := Heap.get?_push_size (s.heap.push o) (o := { cls := .type "enumerate", data := .fields #[.none, .bool false, .ref s.heap.objs.size, rawInt 0, .none, .none] }) rfl
    rw [hz] at q
    exact q
  exact ⟨⟨_, he, rfl⟩, h _ he (Heap.get?_push_of_some _ (Heap.get?_push_size _ B.free)) fun b u x => Heap.get?_push_of_some _ (Heap.get?_push_of_some _ x)⟩
/-- the tuple at a, each item in a new pair -/
def IteT (K : PySem.W.Frag) (a : Addr) : It :=
  ⟨fun i H => ∃ (xs : List V) (x : V), SqT K H a xs ∧ xs[i]? = some x, fun i H v H' => ∃ T x, v = .ref T ∧ H T = none ∧ H' = upd H T (.tup [.int (i : Nat), x]) ∧ ∀ xs, SqT K H a xs → xs[i]? = some x, fun i H => ∃ xs : List V, SqT K H a xs ∧ xs.length = i⟩
theorem turn_enumT {P : Program} {w : World} {K : PySem.W.Frag} {elts : List Expr} {kk : Nat} {tpos : Pos} (a e it : Addr) :
    Turn P w K (.Tuple elts kk tpos) (IteT K a) [e, it] e (fun i h => (∃ old, IsEnum h e it ((i : Nat) : Int) old) ∧ h.IsTupleIter it a i ∧ e ≠ it ∧ a ≠ it ∧ a ≠ e) where
  mem := by simp
  obj := fun i h st b hb => by
    obtain ⟨⟨old, he⟩, ⟨o, ho, hc, hd⟩, _⟩ := st
    have e' : b = e ∨ b = it := by simpa using hb
    rcases e' with z | z
    · rw [z]; exact ⟨_, he, fun v q => nomatch q⟩
    · rw [z]; exact ⟨o, ho, fun v q => by rw [hd] at q; cases q⟩
  keep := fun i h h' st k => let ⟨⟨old, he⟩, hi, hne⟩ := st; ⟨⟨old, k e (by simp) _ he⟩, hi.at fun o q => k it (by simp) o q, hne⟩
  item := by
    intro X hP hw hK hc i pins s σ H E I hf st hg
    subst hP hw hK
    obtain ⟨⟨old, he⟩, hit, hne, hai, hae⟩ := st
    obtain ⟨xs, x, hq, hx⟩ := hg
    obtain ⟨its, rv, p, hz⟩ := I.tuple hq
    obtain ⟨u, hu, ru⟩ := rv.get hx
    have hel : e < s.heap.objs.size := Heap.lt_size he
    have hil : it < s.heap.objs.size := by obtain ⟨_, q, _⟩ := hit; exact Heap.lt_size q
    have hT0 : s.heap.IsTuple a its.toArray := p
    have hlt : i < its.toArray.size := by
      have := (List.getElem?_eq_some_iff.mp hu).1
      simpa using this
    refine wpAny_pyNext_enum_itemD (Draws.tuple (A := X.A.in1) (I.ok.hd hc) it a hai its.toArray) he ⟨hit, hT0⟩ hlt hne (by simp [Ne.symm hae, hne]) fun y h' tk hy ho hst hT hsz hk => ?_
    have hyu : y = u := by
      have h1 : its.toArray[i]? = some y := hy
      rw [List.getElem?_toArray, hu] at h1
      exact (Option.some.inj h1).symm
    subst hyu
    obtain ⟨hit', _⟩ := hst
    refine ⟨_, rfl, wpAny_letOwnedTupleGo_enum (s := { s with heap := h', toks := tk + 1 }) ho fun h'' he' sb => ?_⟩
    have hT2 : h''.get? s.heap.objs.size = some { cls := .type "tuple", data := .seq #[.int i tk, y] } := (sb.2 _ (Nat.ne_of_gt hel)).trans hT
    have new : ObjOk X.prog X.w (upd H s.heap.objs.size (.tup [.int (i : Nat), x])) h'' s.heap.objs.size (.tup [.int (i : Nat), x]) :=
      ⟨by show 2 ≤ sizeLine; decide, [.int i tk, y], .cons ⟨_, rfl⟩ (.cons ru .nil), ⟨_, hT2, rfl, _, rfl⟩⟩
    have I1 : Inv X pins σ (upd H s.heap.objs.size (.tup [.int (i : Nat), x])) { s with heap := h'', toks := tk + 1 } :=
      I.turnedNew (ch := [e, it]) (fun b ob hb q => (sb.2 b (fun z => hb (by simp [z]))).trans (hk b ob (fun z => hb (by simp [z])) (fun z => hb (by simp [z])) q)) hf (Nat.le_refl _) new
    refine ⟨.ref s.heap.objs.size, _, I1, rfl, ⟨_, x, rfl, I.hok.fresh (Nat.le_refl _), rfl, fun ys hy => by rw [I.tuple_inj hy hq]; exact hx⟩, ⟨⟨y, ?_⟩, hit'.at fun o q => (sb.2 it (Ne.symm hne)).trans q, hne, hai, hae⟩, fun b hb => ?_⟩
    · have e1 : ((i + 1 : Nat) : Int) = (i : Int) + 1 := by omega
      rw [e1]; exact he'
    · have hb' : b < s.heap.objs.size := by
        have e' : b = e ∨ b = it := by simpa using hb
        rcases e' with z | z
        · rw [z]; exact hel
        · rw [z]; exact hil
      rw [upd_ne (Nat.ne_of_lt hb')]
      exact (hf b hb).1
  done := by
    intro X hP hw hK hc i pins s σ H E I hf st hg
    subst hP hw hK
    obtain ⟨⟨old, he⟩, hit, hne, hai, hae⟩ := st
    obtain ⟨xs, hq, hx⟩ := hg
    obtain ⟨its, rv, p, hz⟩ := I.tuple hq
    obtain ⟨f0, f1, f2, f3, f4, f5⟩ := hf it (by simp)
    have hT0 : s.heap.IsTuple a its.toArray := p
    have hi : i = its.toArray.size := by
      rw [List.size_toArray, ← rv.length]
      exact hx.symm
    subst hi
    exact wpAny_pyNext_enum_endD (Draws.tuple (A := X.A.in1) (I.ok.hd hc) it a hai its.toArray) he ⟨hit, hT0⟩ fun h' eb => ⟨rfl, I.turned (t' := s.toks) (fun b o hb q => eb b o hb q) f0 f1 f3 f4 f5⟩
  self := fun A i s Q E st h => let ⟨⟨_, he⟩, _⟩ := st; wpAny_pyIter_enum he h
def iEnumT (K : PySem.W.Frag) (ta : TA) : TI := fun σ H R => ta σ H fun vs H1 => ∃ a xs, vs = [.ref a] ∧ SqT K H1 a xs ∧ R (IteT K a) H1
theorem pi_enumT {X : Cx} {e : Expr} {ta : TA} {p pos tpos : Pos} {elts : List Expr} {kk : Nat} (hg : Gl X "enumerate") (hm : X.mg "enumerate" = none) (ha : PA X [e] ta) (hs : starEach [e] X.env = [(false, eval e X.env)] := by rfl) :
    PI X (.Tuple elts kk tpos) (.Call (.Name "enumerate" p) [e] [] pos) (iEnumT X.K ta) := by
  refine ⟨fun pins s σ H R I h => ?_⟩
  refine Call_ (ld_blt I hg hm boot_enumerate (PyProof.Rows.callWith_type1 (thn (ha.run pos pins s σ H _ I h) fun us s1 ⟨vs, H1, I1, r1, q1⟩ => ?_) hs rfl))
  obtain ⟨a, xs, ex, hq, q⟩ := q1
  subst ex
  cases r1 with
  | cons r rr =>
    cases rr
    cases r
    obtain ⟨its, rv, p', hz⟩ := I1.tuple hq
    have al : a < s1.heap.objs.size := p'.lt
    refine call_enum1 (begins_tuple a its.toArray) p' fun h' he hit hk => wpAny_pyIter_enum he ?_
    have I2 : Inv X pins σ H1 { s1 with heap := h' } := I1.kept (t' := s1.toks) hk
    refine ⟨s1.heap.objs.size + 1, [s1.heap.objs.size + 1, s1.heap.objs.size], _, _, H1, rfl, I2, turn_enumT a (s1.heap.objs.size + 1) s1.heap.objs.size, ⟨⟨.none, he⟩, ⟨_, hit, rfl, rfl⟩, Nat.succ_ne_self _, Nat.ne_of_lt al, Nat.ne_of_lt (Nat.lt_succ_of_lt al)⟩, fun b hb => ?_, q⟩
    have e' : b = s1.heap.objs.size + 1 ∨ b = s1.heap.objs.size := by simpa using hb
    have hle : s1.heap.objs.size ≤ b := by
      rcases e' with z | z
      · rw [z]; exact Nat.le_add_right _ _
      · rw [z]; exact Nat.le_refl _
    exact I1.fpOk hle (I1.hok.fresh hle)
/-- for i, x in enumerate(t): a word of the turn, the slots, the heap -/
theorem for_enumT {K : PySem.W.Frag} {a : Addr} {xs : List V} {g : TG} {tb : TS} {D : Ends} {σ : L2.St} {H : Hp} (Pv : Nat → L2.St → Hp → Prop) (h0 : Pv 0 σ H) (hl : ∀ i σ H, i ≤ xs.length → Pv i σ H → SqT K H a xs)
    (hs : ∀ i x σ H, xs[i]? = some x → Pv i σ H → ∀ T, H T = none → g (.ref T) σ (upd H T (.tup [.int (i : Nat), x])) fun σ2 H2 => tb { D with nx := Pv (i + 1), ct := Pv (i + 1), bk := D.nx } σ2 H2) (hd : ∀ σ H, Pv xs.length σ H → D.nx σ H) :
    ∃ W : Nat → Nat → L2.St → Hp → Prop, (∃ m, W 0 m σ H) ∧ ∀ i m σ H, W i m σ H →
      ((IteT K a).stop i H ∧ D.nx σ H) ∨ ((IteT K a).go i H ∧ ∃ N : L2.St → Hp → Prop, (∀ σ' H', N σ' H' → ∃ m', m' < m ∧ W (i + 1) m' σ' H') ∧ ∀ x H', (IteT K a).yld i H x H' → g x σ H' fun σ2 H2 => tb { D with nx := N, ct := N, bk := D.nx } σ2 H2) := by
  refine ⟨fun i m σ H => m = xs.length - i ∧ i ≤ xs.length ∧ Pv i σ H, ⟨xs.length, by simp, Nat.zero_le _, h0⟩, ?_⟩
  rintro i m σ H ⟨rfl, hi, p⟩
  have q := hl i σ H hi p
  rcases Nat.lt_or_ge i xs.length with hlt | hge
  · have hx : xs[i]? = some xs[i] := List.getElem?_eq_getElem hlt
    refine .inr ⟨⟨xs, xs[i], q, hx⟩, Pv (i + 1), fun σ' H' p' => ⟨xs.length - (i + 1), by omega, rfl, hlt, p'⟩, fun x H' y => ?_⟩
    obtain ⟨T, z, rfl, hT, rfl, hz⟩ := y
    have e := hz xs q
    exact hs i z σ H e p T hT
  · have e : i = xs.length := by omega
    subst e
    exact .inl ⟨⟨xs, q, rfl⟩, hd σ H p⟩
end Qk
set_option maxRecDepth 100000
set_option maxHeartbeats 4000000
namespace Qk
open PySem PySem.Spec PyProof.Rows L2
/-! the sorted list of some texts -/
instance (a b : Str) : Decidable (leS a b) := by unfold leS; infer_instance
def srt (xs : List Str) : List Str := xs.mergeSort (fun a b => decide (leS a b))
theorem leS_total (a b : Str) : leS a b ∨ leS b a := by
  unfold leS
  rw [ltCps_eq, ltCps_eq]
  by_cases h : b.cps.toList < a.cps.toList
  · right
    refine decide_eq_false fun h2 => List.lt_irrefl _ (List.lt_trans h h2)
  · left
    exact decide_eq_false h
theorem srt_perm (xs : List Str) : (srt xs).Perm xs := List.mergeSort_perm _ _
theorem srt_pw (xs : List Str) : (srt xs).Pairwise leS := by
  have h := List.pairwise_mergeSort (le := fun a b => decide (leS a b)) (fun a b c h1 h2 => decide_eq_true (leS_trans (of_decide_eq_true h1) (of_decide_eq_true h2)))
    (fun a b => by
      rcases leS_total a b with h | h
      · simp [h]
      · simp [h]) xs
  exact h.imp fun h => of_decide_eq_true h
theorem srt_eq {ws xs : List Str} (h : ws.Perm xs) (hs : sortedS ws = true) : ws = srt xs := perm_sorted (h.trans (srt_perm xs).symm) (sortedS_pw hs) (srt_pw xs)
theorem srt_len (xs : List Str) : (srt xs).length = xs.length := (srt_perm xs).length_eq
/-! all questions that an index serves, as the index is walked -/
def qPair (ix : List Str) (j : Nat) : List Qd := [(srt (ix.take j), ix.getD j ""), (srt (ix.take (j + 1)), "")]
def allQ (ix : List Str) (n : Nat) : List Qd := (List.range n).flatMap (qPair ix)
theorem allQ_succ (ix : List Str) (n : Nat) : allQ ix (n + 1) = allQ ix n ++ qPair ix n := by
  unfold allQ
  rw [List.range_succ, List.flatMap_append]
  simp
theorem allQ_len (ix : List Str) : ∀ n, (allQ ix n).length = 2 * n
  | 0 => rfl
  | n + 1 => by
    rw [allQ_succ, List.length_append, allQ_len ix n]
    show 2 * n + 2 = _
    omega
theorem mem_allQ {ix : List Str} {n : Nat} {q : Qd} : q ∈ allQ ix n ↔ ∃ j, j < n ∧ (q = (srt (ix.take j), ix.getD j "") ∨ q = ((srt (ix.take (j + 1)), ("" : Str)) : Qd)) := by
  unfold allQ
  rw [List.mem_flatMap]
  constructor
  · rintro ⟨j, hj, h⟩
    refine ⟨j, List.mem_range.mp hj, ?_⟩
    simpa [qPair] using h
  · rintro ⟨j, hj, h⟩
    refine ⟨j, List.mem_range.mpr hj, ?_⟩
    simpa [qPair] using h
/-- a question is among them just if the index serves it -/
theorem allQ_serves {ix cols : List Str} {e : Str} (R : Row ix) (hc : cols.Nodup) (hs : sortedS cols = true) (hne : e = "" → cols ≠ []) : (cols, e) ∈ allQ ix ix.length ↔ fault ix cols e = none := by
  have hp := srt_perm (ix.take cols.length)
  have key : fault ix cols e = none ↔ srt (ix.take cols.length) = cols ∧ (e = "" ∨ ix[cols.length]? = some e) := by
    constructor
    · intro h
      have good := h
      unfold fault at good
      -- through the sorted list itself
      have e1 : ∃ ws : List Str, ws.Perm (ix.take cols.length) ∧ sortedS ws = true := by
        refine ⟨srt (ix.take cols.length), hp, sortedS_of_pairwise _ (srt_pw _)⟩
      obtain ⟨ws, w1, w2⟩ := e1
      have := (fault_none (last := e) R.nd hc hs w1 w2).mp h
      rw [← srt_eq w1 w2]
      exact this
    · rintro ⟨h1, h2⟩
      exact (fault_none (last := e) R.nd hc hs hp (sortedS_of_pairwise _ (srt_pw _))).mpr ⟨h1, h2⟩
  rw [mem_allQ, key]
  have getD_at : ∀ j, j < ix.length → ix[j]? = some (ix.getD j "") := fun j hj => by
    rw [List.getD_eq_getElem?_getD, List.getElem?_eq_getElem hj]
    rfl
  constructor
  · rintro ⟨j, hj, h | h⟩
    · injection h with h1 h2
      have hl : cols.length = j := by rw [h1, srt_len, List.length_take]; omega
      rw [hl]
      exact ⟨h1.symm, .inr (by rw [h2]; exact getD_at j hj)⟩
    · injection h with h1 h2
      have hl : cols.length = j + 1 := by rw [h1, srt_len, List.length_take]; omega
      rw [hl]
      exact ⟨h1.symm, .inl h2⟩
  · rintro ⟨h1, h2⟩
    have hl : cols.length ≤ ix.length := by
      have := congrArg List.length h1
      rw [srt_len, List.length_take] at this
      omega
    by_cases he : e = ""
    · have hpos : cols.length ≠ 0 := fun z => hne he (List.eq_nil_of_length_eq_zero z)
      refine ⟨cols.length - 1, by omega, .inr ?_⟩
      have e1 : cols.length - 1 + 1 = cols.length := by omega
      rw [e1, h1, he]
    · have h3 := h2.resolve_left he
      have hlt : cols.length < ix.length := (List.getElem?_eq_some_iff.mp h3).1
      refine ⟨cols.length, hlt, .inl ?_⟩
      rw [h1]
      have := getD_at _ hlt
      rw [h3] at this
      rw [← Option.some.inj this]
/-! lists of questions as they stand -/
def QL (H : Hp) (xs : List V) (qs : List Qd) : Prop := Paired (fun (x : V) (q : Qd) => ∃ t, x = .ref t ∧ QAt H t q.1 q.2) xs qs
theorem QL.len {H : Hp} {xs : List V} {qs : List Qd} (h : QL H xs qs) : xs.length = qs.length := Paired.length h
theorem QL.same {H H' : Hp} {xs : List V} {qs : List Qd} (s : Same H H') (h : QL H xs qs) : QL H' xs qs := Paired.mapP h fun x q ⟨t, e, z⟩ => ⟨t, e, z.same s⟩
theorem QL.kp {H H' : Hp} {b l : Addr} {xs : List V} {qs : List Qd} (B : Bag H b l) (s : Kp b H H') (h : QL H xs qs) : QL H' xs qs := Paired.mapP h fun x q ⟨t, e, z⟩ => ⟨t, e, z.kp B s⟩
theorem paired_app {α β : Type} {F : α → β → Prop} : ∀ {xs xs' : List α} {ys ys' : List β}, Paired F xs ys → Paired F xs' ys' → Paired F (xs ++ xs') (ys ++ ys')
  | _, _, _, _, .nil, h => h
  | _, _, _, _, .cons r t, h => .cons r (paired_app t h)
theorem QAt.uniq {H : Hp} {t : Addr} {c1 c2 : List Str} {e1 e2 : Str} (h1 : QAt H t c1 e1) (h2 : QAt H t c2 e2) : (c1, e1) = (c2, e2) := by
  obtain ⟨a, x1, x2⟩ := h1
  obtain ⟨b, y1, y2⟩ := h2
  rw [x1] at y1
  injection y1 with y1
  injection y1 with y1
  injection y1 with y1 y3
  injection y3 with y3 _
  injection y1 with y1
  injection y3 with y3
  subst y1
  rw [x2] at y2
  injection y2 with y2
  injection y2 with y2
  have : c1 = c2 := by
    have inj : ∀ {l m : List Str}, l.map V.str = m.map V.str → l = m := fun {l m} h => by
      induction l generalizing m with
      | nil => cases m with
        | nil => rfl
        | cons _ _ => cases h
      | cons x l ih => cases m with
        | nil => cases h
        | cons y m =>
          rw [List.map_cons, List.map_cons] at h
          injection h with h h'
          injection h with h
          rw [h, ih h']
    exact inj y2
  rw [this, y3]
open Classical in
noncomputable def keyQ (H : Hp) (x : V) : Qd := if h : ∃ q : Qd, ∃ t, x = .ref t ∧ QAt H t q.1 q.2 then h.choose else ([], "")
theorem keyQ_at {H : Hp} {t : Addr} {q : Qd} (h : QAt H t q.1 q.2) : keyQ H (.ref t) = q := by
  have ex : ∃ q : Qd, ∃ t', V.ref t = .ref t' ∧ QAt H t' q.1 q.2 := ⟨q, t, rfl, h⟩
  unfold keyQ
  rw [dif_pos ex]
  obtain ⟨t', e, z⟩ := ex.choose_spec
  injection e with e
  subst e
  exact z.uniq h
theorem QL.keys {H : Hp} : ∀ {xs : List V} {qs : List Qd}, QL H xs qs → xs.map (keyQ H) = qs
  | _, _, .nil => rfl
  | _, _, .cons ⟨t, e, z⟩ r => by
    subst e
    rw [List.map_cons, keyQ_at z, QL.keys r]
theorem QL.of_keys {H : Hp} : ∀ {xs : List V}, (∀ x ∈ xs, ∃ (t : Addr) (q : Qd), x = V.ref t ∧ QAt H t q.1 q.2) → QL H xs (xs.map (keyQ H))
  | [], _ => .nil
  | x :: xs, h => by
    obtain ⟨t, q, e, z⟩ := h x List.mem_cons_self
    subst e
    rw [List.map_cons, keyQ_at z]
    exact .cons ⟨t, rfl, z⟩ (QL.of_keys fun y hy => h y (List.mem_cons_of_mem _ hy))
theorem QL.mem {H : Hp} : ∀ {xs : List V} {qs : List Qd}, QL H xs qs → ∀ x ∈ xs, ∃ (t : Addr) (q : Qd), x = V.ref t ∧ QAt H t q.1 q.2 ∧ q ∈ qs
  | _, _, .nil, x, hx => by cases hx
  | _, _, .cons ⟨t, e, z⟩ r, x, hx => by
    rcases List.mem_cons.mp hx with rfl | hx
    · exact ⟨t, _, e, z, List.mem_cons_self⟩
    · obtain ⟨t', q', a, b, c⟩ := QL.mem r x hx
      exact ⟨t', q', a, b, List.mem_cons_of_mem _ c⟩
/-- no question stands behind a greater one -/
def rising (qs : List Qd) : Prop := qs.Pairwise (fun a b => ltQ b a = false)
def rSortedQL (K : PySem.W.Frag) : List V → Hp → VK → Prop := fun vs H Q => ∃ (a : Addr) (xs : List V) (qs : List Qd), vs = [V.ref a] ∧ SqL K H a xs ∧ QL H xs qs ∧ (∀ q ∈ qs, ∀ c ∈ q.1, PyData.strOk c = true) ∧
  ∀ (ys : List V) (rs : List Qd) (p : Addr), QL H ys rs → rs.Perm qs → rising rs → H p = none → Q (.ref p) (upd H p (.lst ys))
theorem cr_sortedQL {X : Cx} (hu : X.A.units + 80 < cLine) : CallR X (.builtin "sorted") (rSortedQL X.K) := by
  intro pins s σ H vs us Q I r h
  obtain ⟨a, xs, qs, rfl, hs, hq, hok, q⟩ := h
  refine cr_sortedQ hu pins s σ H _ us Q I r ⟨a, xs, keyQ H, rfl, hs, fun x hx => ?_, fun ys p hp hr hn => ?_⟩
  · obtain ⟨t, z, e, at_, hm⟩ := hq.mem x hx
    subst e
    rw [keyQ_at at_]
    exact ⟨t, rfl, at_, hok z hm⟩
  · refine q ys (ys.map (keyQ H)) p (QL.of_keys fun y hy => ?_) ?_ hr hn
    · obtain ⟨t, z, e, at_, _⟩ := hq.mem y (hp.mem_iff.mp hy)
      exact ⟨t, z, e, at_⟩
    · rw [← hq.keys]
      exact hp.map _
/-! .. as data -/
def dq (q : Qd) : PyData := dQ q.1 q.2
theorem QL.dp {K : PySem.W.Frag} {H : Hp} : ∀ {xs : List V} {qs : List Qd}, QL H xs qs → DpAll K H xs (qs.map dq)
  | _, _, .nil => .nil
  | _, _, .cons ⟨t, e, z⟩ r => by
    subst e
    exact .cons (dp_q z) (QL.dp r)
structure Qfine (q : Qd) : Prop where
  c : ∀ c ∈ q.1, okS c = true
  e : okS q.2 = true
  l : q.1.length ≤ 12
theorem okS_empty : okS "" = true := by decide +kernel
theorem fine_q {q : Qd} (h : Qfine q) : fine (dq q) = true := by
  show (fine (.tuple (q.1.map PyData.str)) && (fine (.str q.2) && true)) = true
  rw [Bool.and_true, Bool.and_eq_true]
  exact ⟨fine_strs h.c, h.e⟩
theorem cost_q {q : Qd} (h : Qfine q) : cost (dq q) ≤ 3000 := by
  have hl := h.l
  show costAll (q.1.map PyData.str) + 3 + 2 + (210 + 2 + 0) + 3 ≤ 3000
  rw [cost_strs]
  omega
theorem depth_q (q : Qd) : (dq q).depth = 2 := by
  show max (PyData.depthAll (q.1.map PyData.str) + 1) (max 0 0) + 1 = 2
  rw [depth_strs]
  rfl
theorem fine_qs : ∀ {qs : List Qd}, (∀ q ∈ qs, Qfine q) → fineAll (qs.map dq) = true
  | [], _ => rfl
  | q :: qs, h => by
    show (fine (dq q) && fineAll (qs.map dq)) = true
    rw [fine_qs fun q hq => h q (List.mem_cons_of_mem _ hq), Bool.and_true]
    exact fine_q (h q List.mem_cons_self)
theorem cost_qs : ∀ {qs : List Qd}, (∀ q ∈ qs, Qfine q) → costAll (qs.map dq) ≤ 3002 * qs.length
  | [], _ => Nat.le_refl 0
  | q :: qs, h => by
    have h1 := cost_q (h q List.mem_cons_self)
    have h2 := cost_qs fun q hq => h q (List.mem_cons_of_mem _ hq)
    show cost (dq q) + 2 + costAll (qs.map dq) ≤ _
    rw [List.length_cons]
    omega
theorem depth_qs : ∀ (qs : List Qd), PyData.depthAll (qs.map dq) ≤ 2
  | [] => Nat.zero_le _
  | q :: qs => by
    show max (dq q).depth (PyData.depthAll (qs.map dq)) ≤ 2
    rw [depth_q]
    exact Nat.max_le.mpr ⟨Nat.le_refl 2, depth_qs qs⟩
theorem dok_q {q : Qd} (h : Qfine q) : DOk (dq q) := ⟨fine_q h, by rw [depth_q]; decide, Nat.le_trans (cost_q h) (by decide)⟩
theorem dok_qs {qs : List Qd} (h : ∀ q ∈ qs, Qfine q) (hl : qs.length ≤ 100) : DOk (.list (qs.map dq)) :=
  ⟨fine_qs h, by show PyData.depthAll _ + 1 ≤ 50; have := depth_qs qs; omega, by show costAll _ + 3 ≤ _; have := cost_qs h; omega⟩
theorem eqv_q (p q : Qd) : PyData.eqv (dq p) (dq q) = decide (p = q) := by
  show PyData.eqv (.tuple [.tuple (p.1.map PyData.str), .str p.2]) (.tuple [.tuple (q.1.map PyData.str), .str q.2]) = _
  have e0 : PyData.eqv (.tuple (p.1.map PyData.str)) (.tuple (q.1.map PyData.str)) = decide (p.1 = q.1) := by rw [PyData.eqv, eqv_strs]
  rw [PyData.eqv, PyData.eqvAll, PyData.eqvAll, PyData.eqvAll, e0, PyData.eqv, Bool.and_true]
  by_cases h1 : p.1 = q.1
  · by_cases h2 : p.2 = q.2
    · rw [decide_eq_true h1, decide_eq_true (Prod.ext h1 h2), h2, beq_self_eq_true]
      rfl
    · rw [decide_eq_true h1, decide_eq_false (fun e => h2 (by rw [e]))]
      rw [beq_eq_false_iff_ne.mpr h2]
      rfl
  · rw [decide_eq_false h1, decide_eq_false (fun e => h1 (by rw [e]))]
    rfl
theorem any_q (q : Qd) (qs : List Qd) : ((qs.map dq).any fun z => PyData.eqv z (dq q)) = decide (q ∈ qs) := by
  rw [List.any_map]
  by_cases h : q ∈ qs
  · rw [decide_eq_true h]
    exact List.any_eq_true.mpr ⟨q, h, by show PyData.eqv (dq q) (dq q) = true; rw [eqv_q]; exact decide_eq_true rfl⟩
  · rw [decide_eq_false h]
    refine List.any_eq_false.mpr fun y hy e => h ?_
    have e' : PyData.eqv (dq y) (dq q) = true := e
    rw [eqv_q] at e'
    rw [← of_decide_eq_true e']
    exact hy
theorem allQ_fine {ix : List Str} (R : Row ix) {n : Nat} (hn : n ≤ ix.length) : ∀ q ∈ allQ ix n, Qfine q := by
  intro q hq
  obtain ⟨j, hj, h | h⟩ := mem_allQ.mp hq
  · subst h
    refine ⟨fun c hc => menu_okS _ (R.sub _ ((List.take_sublist _ _).mem ((srt_perm _).mem_iff.mp hc))), ?_, by show (srt _).length ≤ 12; rw [srt_len, List.length_take]; have := R.le; omega⟩
    show okS (ix.getD j "") = true
    rw [List.getD_eq_getElem?_getD, List.getElem?_eq_getElem (show j < ix.length by omega)]
    exact menu_okS _ (R.sub _ (List.getElem_mem _))
  · subst h
    exact ⟨fun c hc => menu_okS _ (R.sub _ ((List.take_sublist _ _).mem ((srt_perm _).mem_iff.mp hc))), okS_empty, by show (srt _).length ≤ 12; rw [srt_len, List.length_take]; have := R.le; omega⟩
theorem okS_strOk {c : Str} (h : okS c = true) : PyData.strOk c = true := by
  unfold okS at h
  rw [Bool.and_eq_true] at h
  exact h.1
theorem QM.fine {cols : List Str} {e : Str} (h : QM cols e) : Qfine (cols, e) :=
  ⟨fun c hc => menu_okS _ (h.sub c hc), by rcases h.esub with z | z
                                           · show okS e = true
                                             rw [z]
                                             exact okS_empty
                                           · exact menu_okS _ z, h.le⟩
/-! promises -/
def spQof : Sp := fun vs H Q _ => ∃ (t : Addr) (ix : List Str), vs = [.ref t] ∧ H t = some (.tup (ix.map V.str)) ∧ Row ix ∧
  ∀ (ys : List V) (rs : List Qd) (p : Addr) (H' : Hp), Same H H' → H p = none → H' p = some (.lst ys) → QL H' ys rs → rs.Perm (allQ ix ix.length) → rising rs → Q (.ref p) H'
end Qk
set_option maxRecDepth 100000
set_option maxHeartbeats 4000000
namespace Qk
open PySem PySem.Spec PyProof.Rows L2
/-! columns as texts: one to eight letters a to z -/
/-- a column, as a text -/
def colS (z : Str) : Bool := (decide (1 ≤ z.cps.size) && decide (z.cps.size ≤ 8)) && z.cps.toList.all fun c => decide (97 ≤ c) && decide (c ≤ 122)
/-- any value, as the functions of words see it -/
def spText (K : PySem.W.Frag) (f : Str → Bool) : Sp := fun vs H Q _ => ∃ x, vs = [x] ∧ ((∃ z, x = .str z ∧ z.cps.size ≤ 1000 ∧ PyData.strOk z = true ∧ ∀ H', Same H H' → Q (.bl (f z)) H') ∨ ∃ t : String, TyX K H x (.type t) ∧ kitB t "str" = some false ∧ Q (.bl false) H)
theorem menu_col : ∀ c ∈ menu, colS c = true := by decide +kernel
theorem ascii_tab : ((List.range 128).all fun c => (Unicode.isAlpha c == (decide (65 ≤ c) && decide (c ≤ 90) || decide (97 ≤ c) && decide (c ≤ 122))) && (Unicode.isLower c == (decide (97 ≤ c) && decide (c ≤ 122))) &&
    ((Unicode.isUpper c || Unicode.isTitle c) == (decide (65 ≤ c) && decide (c ≤ 90)))) = true := by decide +kernel
theorem ascii_facts {c : Nat} (h : c < 128) : Unicode.isAlpha c = (decide (65 ≤ c) && decide (c ≤ 90) || decide (97 ≤ c) && decide (c ≤ 122)) ∧ Unicode.isLower c = (decide (97 ≤ c) && decide (c ≤ 122)) ∧
    (Unicode.isUpper c || Unicode.isTitle c) = (decide (65 ≤ c) && decide (c ≤ 90)) := by
  have := List.all_eq_true.mp ascii_tab c (List.mem_range.mpr h)
  simp only [Bool.and_eq_true, beq_iff_eq] at this
  exact ⟨this.1.1, this.1.2, this.2⟩
/-- s.isascii() and s.isalpha() and s.islower(): all signs are a to z, and there is one -/
theorem low_iff (z : Str) (h : 1 ≤ z.cps.size) : (Txt.isascii z && (Txt.isalpha z && Txt.islower z)) = z.cps.toList.all fun c => decide (97 ≤ c) && decide (c ≤ 122) := by
  have e1 : Txt.isascii z = z.cps.toList.all fun c => decide (c < 128) := by
    show z.cps.all (· < 128) = _
    rw [← Array.all_toList]
  have e2 : Txt.isalpha z = z.cps.toList.all Unicode.isAlpha := by
    show (decide (z.length > 0) && z.cps.all Unicode.isAlpha) = _
    rw [decide_eq_true (show z.length > 0 from h), Bool.true_and, ← Array.all_toList]
  have e3 : Txt.islower z = (z.cps.toList.any Unicode.isLower && !z.cps.toList.any fun c => Unicode.isUpper c || Unicode.isTitle c) := by
    show (z.cps.any Unicode.isLower && !z.cps.any fun c => Unicode.isUpper c || Unicode.isTitle c) = _
    rw [← Array.any_toList, ← Array.any_toList]
  rw [e1, e2, e3]
  have hl : z.cps.toList ≠ [] := by
    intro q
    have : z.cps.toList.length = 0 := by rw [q]; rfl
    rw [Array.length_toList] at this
    omega
  generalize z.cps.toList = l at hl
  rw [Bool.eq_iff_iff]
  simp only [Bool.and_eq_true, List.all_eq_true, List.any_eq_true, Bool.not_eq_true', List.any_eq_false, decide_eq_true_eq]
  constructor
  · rintro ⟨ha, hb, ⟨d, hd, hdl⟩, hc⟩ c hcm
    obtain ⟨f1, f2, f3⟩ := ascii_facts (ha c hcm)
    have h1 := hb c hcm
    have h2 := hc c hcm
    rw [f3] at h2
    rw [f1] at h1
    simp only [Bool.or_eq_true, Bool.and_eq_true, decide_eq_true_eq] at h1 h2
    rcases h1 with h1 | h1
    · exact absurd h1 h2
    · exact h1
  · intro ha
    have lt : ∀ c ∈ l, c < 128 := fun c hc => by
      have := ha c hc
      omega
    refine ⟨lt, fun c hc => ?_, ?_, fun c hc => ?_⟩
    · rw [(ascii_facts (lt c hc)).1]
      have := ha c hc
      simp only [Bool.or_eq_true, Bool.and_eq_true, decide_eq_true_eq]
      exact .inr this
    · obtain ⟨c, hc⟩ := List.exists_mem_of_ne_nil l hl
      refine ⟨c, hc, ?_⟩
      rw [(ascii_facts (lt c hc)).2.1]
      have := ha c hc
      simp only [Bool.and_eq_true, decide_eq_true_eq]
      exact this
    · rw [(ascii_facts (lt c hc)).2.2]
      have := ha c hc
      simp only [Bool.and_eq_true, decide_eq_true_eq]
      omega
end Qk
set_option maxRecDepth 100000
set_option maxHeartbeats 4000000
namespace PySem.W
open PySem PyProof.Rows
end PySem.W
set_option maxRecDepth 100000
set_option maxHeartbeats 4000000
set_option maxRecDepth 100000
set_option maxHeartbeats 4000000
namespace Qk
open PySem PySem.Spec PyProof.Rows L2
/-! ### the difference of two sets of texts -/
/-- the set at a holds just the texts of S -/
def TSet (P : Program) (w : World) (h : Heap) (a : Addr) (S : Str → Bool) (n : Nat) : Prop := h.SetOf (strKind P w) a S n
section
variable {P : Program} {w : World} {A : Around} {E : Value → Shared → Prop} {s : Shared} {a o r : Addr} {S T R : Str → Bool} {n m k : Nat}
theorem TSet.keep {h h' : Heap} {a : Addr} {S : Str → Bool} {n : Nat} (x : TSet P w h a S n) (k : ∀ u, h.get? a = some u → h'.get? a = some u) : TSet P w h' a S n := by
  obtain ⟨oa, es, ep, t, ho, r⟩ := x
  exact ⟨oa, es, ep, t, k _ ho, r⟩
theorem TSet.lt {h : Heap} {a : Addr} {S : Str → Bool} {n : Nat} (x : TSet P w h a S n) : a < h.objs.size := by
  obtain ⟨oa, es, ep, t, ho, r⟩ := x
  exact Heap.lt_size ho
end
end Qk
set_option maxRecDepth 100000
set_option maxHeartbeats 4000000
set_option maxRecDepth 100000
set_option maxHeartbeats 4000000
namespace Qk
open PySem PySem.Spec PyProof.Rows L2
/-! ### sets of texts over the layer -/
def SetX (P : Program) (w : World) (a : Addr) (S : Str → Bool) (n : Nat) : HO := .ext fun h => TSet P w h a S n
theorem setX_new {P : Program} {w : World} {H : Hp} {h : Heap} {a : Addr} {S : Str → Bool} {n : Nat} (R : TSet P w h a S n) : ObjOk P w H h a (SetX P w a S n) := by
  have ⟨o, _, _, _, ho, _⟩ := R
  exact ⟨R, ⟨o, ho⟩, fun h1 h2 p k => TSet.keep p fun u e => k u e⟩
end Qk
set_option maxRecDepth 100000
set_option maxHeartbeats 4000000
namespace Qk
open PySem PySem.Spec PyProof.Rows L2
/-! ### set(xs) of a tuple of texts, len of it -/
section
variable {P : Program} {w : World} {A : Around} {R : Result → Shared → Prop} {I : Addr} {fp wr : List Addr} {G : Array GenState → Array GenState → Prop} {n : Nat} {Pv : Nat → Value → Prop} {St : Nat → Shared → Prop}
/-- what stands after i turns -/
def Fill (P : Program) (w : World) (xs : List Str) (S : Addr) (i : Nat) (h : Heap) : Prop := ∃ j, TSet P w h S (fun z => decide (z ∈ xs.take i)) j ∧ j ≤ i ∧ (xs.Nodup → j = i) ∧ (j = i → (xs.take i).Nodup)
theorem fill_loop (W : WalksS P w A.in1 I fp wr G n Pv St) (S : Addr) (hSf : S ∉ fp) (xs : List Str) (hsz : xs.length = n) (hn1 : n ≤ 1000) (hval : ∀ i v, Pv i v → ∃ t, v = .str (xs.getD i Str.empty) t) :
    ∀ (k i : Nat) (s : Shared), n - i = k → i ≤ n → St i s → Fill P w xs S i s.heap → (∀ s', Moved (S :: wr) G s s' → Fill P w xs S n s'.heap → R (.ok (.ret .none)) s') →
      codeAny (model P w) A (.builtin "set.update.loop" ⟨[.ref S, .ref I], []⟩) R s := by
  have hSw : S ∉ wr := fun h => hSf (W.sub _ h)
  have hsub : ∀ b ∈ wr, b ∈ S :: wr := fun b hb => List.mem_cons_of_mem _ hb
  have same : ∀ {s s' : Shared} {i : Nat}, Moved wr G s s' → Fill P w xs S i s.heap → Fill P w xs S i s'.heap := fun hm ⟨j, g, q⟩ => ⟨j, g.keep fun u e => hm.heap S _ hSw e, q⟩
  intro k
  induction k with
  | zero =>
    intro i s hk hi hst hS hR
    obtain rfl : i = n := by omega
    refine codeAny_builtin PyProof.Rows.F.entry_set_update_loop ?_
    rw [Around.under_plainId PyProof.Rows.F.plain_set_update_loop _]
    exact wpAny_bind (m := pyNext (.ref I)) (W.done s _ _ hst fun s' hm => wpAny_pure (hR s' (hm.mono hsub) (same hm hS)))
  | succ k ih =>
    intro i s hk hi hst hS hR
    have hlt : i < n := by omega
    refine codeAny_builtin PyProof.Rows.F.entry_set_update_loop ?_
    rw [Around.under_plainId PyProof.Rows.F.plain_set_update_loop _]
    refine wpAny_bind (m := pyNext (.ref I)) (W.item i s _ _ hlt hst fun v s' hP hst' hm => ?_)
    obtain ⟨t, rfl⟩ := hval i v hP
    obtain ⟨j, g, hj, hnd, hdn⟩ := same hm hS
    show wpAny _ A.in1 (holding [Value.str (xs.getD i Str.empty) t] (setAdd S (.str (xs.getD i Str.empty) t)) >>= _) _ _ s'
    refine wpAny_bind (wpAny_holding ?_)
    unfold setAdd
    refine wpAny_holding (wpAny_bind ((strKind P w).pyHash (k := xs.getD i Str.empty) (strKind_is _ _ _ _) ?_))
    refine wpAny_setAddHashed_of (knd := strKind P w) (s := { s' with toks := s'.toks + 1 }) (strKind_is _ _ _ _) rfl g (by unfold scanBound; omega) fun h' hsb g2 => ?_
    have hx : xs[i]? = some (xs.getD i Str.empty) := by
      rw [List.getD_eq_getElem?_getD, List.getElem?_eq_getElem (by omega)]
      rfl
    have ht : xs.take (i + 1) = xs.take i ++ [xs.getD i Str.empty] := by rw [List.take_add_one, hx]; rfl
    have g3 : Fill P w xs S (i + 1) h' := by
      refine ⟨_, SetOf_congr g2 (fun z => ?_) rfl, by split <;> omega, fun nd => ?_, fun e => ?_⟩
      · rw [ht]
        simp [Bool.decide_or]
      · have hni : xs.getD i Str.empty ∉ xs.take i := by
          have nd2 : (xs.take (i + 1)).Nodup := nd.sublist (List.take_sublist _ _)
          rw [ht] at nd2
          exact fun z => (List.nodup_append.mp nd2).2.2 _ z _ (List.mem_singleton.mpr rfl) rfl
        rw [if_neg (by simpa using hni), hnd nd]
      · split at e
        · omega
        · rename_i hni
          rw [ht, List.nodup_append]
          refine ⟨hdn (by omega), by simp, fun a ha b hb => ?_⟩
          rw [List.mem_singleton.mp hb]
          rintro rfl
          exact hni (by simpa using ha)
    refine wpAny_pure ⟨plainId_quiet PyProof.Rows.F.plain_set_update_loop _, ih (i + 1) _ (by omega) hlt (W.frame _ s' _ _ hst' (Nat.le_succ _) fun b hb o e => ?_) g3 fun s'' hm'' hS'' => ?_⟩
    · rw [hsb.2 b (fun h : b = S => hSf (by rw [← h]; exact hb))]
      exact e
    · refine hR s'' (Moved.trans W.gtrans ((hm.mono hsub).then_heap (Nat.le_succ _) fun b o hb e => ?_) hm'') hS''
      rw [hsb.2 b (fun h : b = S => hb (by rw [h]; exact List.mem_cons_self))]
      exact e
end
section
variable {P : Program} {w : World} {A : Around} {E : Value → Shared → Prop} {s : Shared}
set_option maxHeartbeats 3200000 in
theorem set_tuple {l : Addr} {items : Array Value} {xs : List Str} {Q : Value → Shared → Prop} (hh : A.handled = none) (hl : s.heap.IsTuple l items) (hi : PyProof.Rows.StrsAre items.toList xs) (hn1 : xs.length ≤ 1000)
    (h : ∀ (h' : Heap) (tk : Nat), Fill P w xs s.heap.objs.size items.size h' → (∀ b o, s.heap.get? b = some o → h'.get? b = some o) → Q (.ref s.heap.objs.size) { s with heap := h', toks := tk }) :
    wpAny (model P w) A (call (.type "set") [.ref l]) Q E s := by
  obtain ⟨c, tl, hmro⟩ := PySem.F.called_set.mro
  have hmade := PySem.F.called_set.made
  have hsub := PySem.F.called_set.sub
  refine wpAny_call (codeAny_of_tree ?_)
  show wpAny _ _ (callAny (.type "set") _) _ _ _
  refine wpAny_pure ⟨Code.quiet_builtin _ (by decide +kernel), codeAny_builtin PySem.F.entry_type_call ?_⟩
  rw [Around.under_plain (weight_type_call_type "set" [.ref l] []) rfl]
  have q1 := PySem.F.called_set.notType
  have q2 := PySem.F.called_set.canCreate
  have q3 := PySem.F.typeCall_set_1 (.ref l)
  repeat (any_goals (first | assumption | wp_step))
  obtain ⟨N, hN⟩ : ∃ N, N = s.heap.objs.size := ⟨_, rfl⟩
  refine codeAny_mono (code_set_new_1 (.ref l) (E := E) (Q₁ := fun v s₁ => ∃ led : Bool, v = .ref s.heap.objs.size ∧ s₁ = { s with heap := s.heap.push { cls := .type "set", dict := none, data := .set #[] 0 (.fresh 0 0 led) } }) fun led => ⟨led, rfl, rfl⟩) fun r s₁ hr => ?_
  cases r with
  | error e => exact hr
  | ok fl =>
    cases fl with
    | ret v =>
      obtain ⟨led, rfl, rfl⟩ := hr
      have hS : (s.heap.push { cls := .type "set", dict := none, data := .set #[] 0 (.fresh 0 0 led) }).get? s.heap.objs.size = some { cls := .type "set", dict := none, data := .set #[] 0 (.fresh 0 0 led) } := Heap.get?_push_size _ rfl
      have hT : Shared.TypeIs { s with heap := s.heap.push { cls := .type "set", dict := none, data := .set #[] 0 (.fresh 0 0 led) } } (.ref s.heap.objs.size) "set" := ⟨_, hS, rfl⟩
      have q4 := PySem.F.called_set.init.lookup
      have q5 := PySem.F.called_set.init.bind (.ref s.heap.objs.size)
      repeat (any_goals (first | assumption | wp_step))
      refine codeAny_mono (codeAny_call_builtin (R := wants (fun r s₂ => r = .none ∧ ∃ h' tk, s₂ = { s with heap := h', toks := tk } ∧ Fill P w xs s.heap.objs.size items.size h' ∧ (∀ b o, s.heap.get? b = some o → h'.get? b = some o)) E)
        PySem.F.called_set.init.plain PySem.F.entry_set_init (check_set_init_1 hT ?_)) fun r₂ s₂ hr₂ => ?_
      · have hlS : l < s.heap.objs.size := by
          obtain ⟨ol, hol, _⟩ := hl
          exact Heap.lt_size hol
        have hl1 : (s.heap.push { cls := .type "set", dict := none, data := .set #[] 0 (.fresh 0 0 led) }).IsTuple l items := hl.push _
        obtain ⟨ol, hol, hcl, nl, hdl⟩ := hl1
        obtain ⟨ocls, odict, odata, oslots⟩ := ol
        simp only at hcl hdl
        subst hcl; subst hdl
        have hol' := hol
        have q6 := PySem.F.sub_tuple_set
        have q7 := PySem.F.sub_tuple_frozenset
        have q8 : (Value.type "tuple" == Value.type "dict") = false := by decide
        have hl1 : (s.heap.push { cls := .type "set", dict := none, data := .set #[] 0 (.fresh 0 0 led) }).IsTuple l items := ⟨_, hol, rfl, nl, rfl⟩
        unfold Builtin.«set.__init__» noKeywords Builtin.Frozenset.updateFrom
        generalize hPI : pyIter = PI
        wp_walk
        subst hPI
        refine wpAny_pyIter_tuple hl1 ?_
        refine wpAny_bind (wpAny_runValue ?_)
        have hh3 : A.in1.in1.in1.handled = none := by simp [hh]
        have hps : (s.heap.push { cls := .type "set", dict := none, data := .set #[] 0 (.fresh 0 0 led) }).objs.size = s.heap.objs.size + 1 := Heap.size_push _ _
        have hneI : l ≠ (s.heap.push { cls := .type "set", dict := none, data := .set #[] 0 (.fresh 0 0 led) }).objs.size := by
          rw [hps]
          exact Nat.ne_of_lt (Nat.lt_succ_of_lt hlS)
        have hSf : s.heap.objs.size ∉ [(s.heap.push { cls := .type "set", dict := none, data := .set #[] 0 (.fresh 0 0 led) }).objs.size, l] := by
          rw [hps]
          simp only [List.mem_cons, List.not_mem_nil, or_false, not_or]
          exact ⟨Nat.ne_of_lt (Nat.lt_succ_self _), Nat.ne_of_gt hlS⟩
        have hsz : xs.length = items.size := by rw [← StrsAre.len_eq hi, Array.length_toList]
        have hval : ∀ (i : Nat) (v : Value), items[i]? = some v → ∃ t, v = .str (xs.getD i Str.empty) t := fun i v hv => SS.strs_at hi i v (by rw [Array.getElem?_toList]; exact hv)
        refine fill_loop ((Walks.tuple hh3 _ l hneI items).toS) s.heap.objs.size hSf xs hsz (by rw [← hsz]; exact hn1) hval (items.size - 0) 0 _ (by omega) (Nat.zero_le _)
          ⟨⟨_, Heap.get?_push_size _ rfl, rfl, rfl⟩, (hl1.push _)⟩ ?hS0 ?hR
        case hS0 =>
          have hget : ((s.heap.push { cls := .type "set", dict := none, data := .set #[] 0 (.fresh 0 0 led) }).push { cls := .type "tuple_iterator", data := .fields #[.ref l, .int 0 0] }).get? s.heap.objs.size
              = some { cls := .type "set", dict := none, data := .set #[] 0 (.fresh 0 0 led) } := Heap.get?_push_of_some _ hS
          exact ⟨0, SetOf_congr ((setObjOf_fresh (knd := strKind P w) led).setOf hget (by unfold scanBound; omega)) (fun z => by simp) rfl, Nat.le_refl _, fun _ => rfl, fun _ => by simp⟩
        case hR =>
          intro s' hm hF
          obtain ⟨h', g', d', tk', os'⟩ := s'
          have eg : g' = s.gens := hm.gens
          have ed : d' = s.drawn := hm.drawn
          have eo : os' = s.os := hm.os
          subst eg; subst ed; subst eo
          show wpAny _ _ _ _ _ _
          refine wpAny_pure ?_
          show wpAny _ _ (ret Value.none) _ _ _
          refine wpAny_pure ⟨rfl, h', tk', rfl, hF, fun b o e => ?_⟩
          have hb := Heap.lt_size e
          refine hm.heap b o ?_ (Heap.get?_push_of_some _ (Heap.get?_push_of_some _ e))
          rw [hps]
          simp only [List.mem_cons, List.mem_singleton, List.not_mem_nil, or_false, not_or]
          exact ⟨Nat.ne_of_lt hb, Nat.ne_of_lt (Nat.lt_succ_of_lt hb)⟩
      · cases r₂ with
        | error e => exact hr₂
        | ok fl₂ =>
          cases fl₂ with
          | ret r =>
            obtain ⟨rfl, h', tk, rfl, hF, hk'⟩ := hr₂
            repeat (any_goals (first | assumption | wp_step))
            exact h _ _ hF hk'
          | _ => exact hr₂.elim
    | _ => exact hr.elim
end
/-- set(xs), xs a tuple of texts -/
def rSetX (K : PySem.W.Frag) (P : Program) (w : World) : List V → Hp → VK → Prop := fun vs H Q => ∃ (l : Addr) (xs : List Str), vs = [.ref l] ∧ SqT K H l (xs.map V.str) ∧ xs.length ≤ 1000 ∧
  ∀ (p : Addr) (n : Nat), H p = none → n ≤ xs.length → (xs.Nodup → n = xs.length) → Q (.ref p) (upd H p (SetX P w p (fun z => decide (z ∈ xs)) n))
def rLenX (P : Program) (w : World) : List V → Hp → VK → Prop := fun vs H Q => ∃ (a : Addr) (S : Str → Bool) (n : Nat), vs = [.ref a] ∧ H a = some (SetX P w a S n) ∧ Q (.int (n : Int)) H
section
variable {X : Cx}
theorem set_any (hc : X.calm = true) {pins : List (Addr × Obj)} {σ : L2.St} {H : Hp} {s : Shared} {l : Addr} {xs : List Str} {Q : VK} (I : Inv X pins σ H s) (hq : SqT X.K H l (xs.map V.str)) (hz : xs.length ≤ 1000)
    (q : ∀ (p : Addr) (n : Nat), H p = none → n ≤ xs.length → (n = xs.length ↔ xs.Nodup) → Q (.ref p) (upd H p (SetX X.prog X.w p (fun z => decide (z ∈ xs)) n))) :
    wpAny (model X.prog X.w) X.A (call (.type "set") [.ref l]) (EP X pins σ Q) X.xe s := by
  obtain ⟨its, rv, pl, _⟩ := I.tuple hq
  have hlen : its.toArray.size = xs.length := by rw [List.size_toArray, ← rv.length, List.length_map]
  refine set_tuple (I.ok.hd hc) pl (by simpa using strsAre_of rv) hz fun h' tk ⟨j, g, hj, hnd, hdn⟩ hk => ?_
  rw [hlen] at g hj hnd hdn
  rw [List.take_of_length_le (Nat.le_refl _)] at g hdn
  have hn : H s.heap.objs.size = none := I.hok.fresh (Nat.le_refl _)
  exact ⟨.ref _, _, I.laidN hk (Heap.get?_none_of_le (Nat.le_refl _)) hn (setX_new g), rfl, q _ j hn hj ⟨hdn, hnd⟩⟩
theorem cr_setX (hc : X.calm = true) : CallR X (.type "set") (rSetX X.K X.prog X.w) := by
  intro pins s σ H vs us Q I r h
  obtain ⟨l, xs, rfl, hq, hz, q⟩ := h
  obtain ⟨u, rfl, rx⟩ := vals1 r
  cases rx
  exact set_any hc I hq hz fun p n hp hn e => q p n hp hn e.mpr
theorem cr_lenX : CallR X (.builtin "len") (rLenX X.prog X.w) := by
  intro pins s σ H vs us Q I r h
  obtain ⟨a, S, n, rfl, ha, q⟩ := h
  obtain ⟨u, rfl, rx⟩ := vals1 r
  cases rx
  have g : TSet X.prog X.w s.heap a S n := (I.hok a _ ha).1
  obtain ⟨o, es, ep, t, ho, hex, hd, _, _, hlt, hf, hn⟩ := g
  refine call_len_set ho hex hd hf (by unfold scanBound at hlt; omega) ⟨.int n, H, I.tok _, ⟨_, by rw [hn]⟩, q⟩
end
end Qk
set_option maxRecDepth 100000
set_option maxHeartbeats 4000000
/-! tables of sets up to 512 slots -/
namespace Qk
open PySem PySem.Spec PyProof.Rows L2
/-! ### the round of all slots -/
/-- the slots met by so many steps from x, as bits -/
def orbit (m : Nat) : Nat → Nat → Nat → Nat
  | 0, _, acc => acc
  | f + 1, x, acc => orbit m f ((x * 5 + 1) % (m + 1)) (acc ||| 2 ^ x)
theorem orbit_bit (m j : Nat) : ∀ f k acc, (orbit m f (lcgN m k) acc).testBit j = true → acc.testBit j = true ∨ ∃ b, b < k + f ∧ lcgN m b = j
  | 0, k, acc, h => .inl h
  | f + 1, k, acc, h => by
    rcases orbit_bit m j f (k + 1) (acc ||| 2 ^ lcgN m k) h with g | ⟨b, hb, e⟩
    · rw [Nat.testBit_or, Nat.testBit_two_pow] at g
      cases ha : acc.testBit j with
      | true => exact .inl rfl
      | false =>
        rw [ha, Bool.false_or, decide_eq_true_eq] at g
        exact .inr ⟨k, by omega, g⟩
    · exact .inr ⟨b, by omega, e⟩
def goF (m : Nat) : Nat → Nat → Nat
  | 0, x => x
  | f + 1, x => goF m f ((x * 5 + 1) % (m + 1))
theorem goF_eq (m : Nat) : ∀ f k, goF m f (lcgN m k) = lcgN m (k + f)
  | 0, _ => rfl
  | f + 1, k => by
    rw [show k + (f + 1) = k + 1 + f by omega]
    exact goF_eq m f (k + 1)
/-- each slot is met in a round -/
structure MaskB (m : Nat) : Prop where
  all : ∀ j, j ≤ m → ∃ b, b ≤ m ∧ lcgN m b = j
  rnd : lcgN m (m + 1) = 0
  is_ : m = 7 ∨ m = 31 ∨ m = 127 ∨ m = 511
theorem maskB_of {m : Nat} (h1 : orbit m (m + 1) 0 0 = 2 ^ (m + 1) - 1) (h2 : goF m (m + 1) 0 = 0) (h3 : m = 7 ∨ m = 31 ∨ m = 127 ∨ m = 511) : MaskB m := by
  refine ⟨fun j hj => ?_, ?_, h3⟩
  · have e : (orbit m (m + 1) (lcgN m 0) 0).testBit j = true := by
      show (orbit m (m + 1) 0 0).testBit j = true
      rw [h1, Nat.testBit_two_pow_sub_one]
      exact decide_eq_true (Nat.lt_succ_of_le hj)
    rcases orbit_bit m j (m + 1) 0 0 e with g | ⟨b, hb, e⟩
    · rw [Nat.zero_testBit] at g
      cases g
    · exact ⟨b, by omega, e⟩
  · have e := goF_eq m (m + 1) 0
    rw [Nat.zero_add] at e
    rw [← e]
    exact h2
theorem mb7 : MaskB 7 := maskB_of (by decide +kernel) (by decide +kernel) (by decide)
theorem mb31 : MaskB 31 := maskB_of (by decide +kernel) (by decide +kernel) (by decide)
theorem mb127 : MaskB 127 := maskB_of (by decide +kernel) (by decide +kernel) (by decide)
theorem mb511 : MaskB 511 := maskB_of (by decide +kernel) (by decide +kernel) (by decide)
theorem MaskB.odd {m : Nat} (hm : MaskB m) : m % 2 = 1 := by
  rcases hm.is_ with e | e | e | e <;> rw [e]
theorem MaskB.top {m : Nat} (hm : MaskB m) : m ≤ 511 := by
  rcases hm.is_ with e | e | e | e <;> omega
theorem MaskB.again {m : Nat} (hm : MaskB m) : ∀ k, lcgN m (m + 1 + k) = lcgN m k
  | 0 => hm.rnd
  | k + 1 => by
    have ih := hm.again k
    show (lcgN m (m + 1 + k) * 5 + 1) % (m + 1) = _
    rw [ih]
    rfl
theorem MaskB.to {m i j : Nat} (hm : MaskB m) (hi : i ≤ m) (hj : j ≤ m) : ∃ k, k ≤ m ∧ lcgI m i k = j := by
  obtain ⟨a, a1, rfl⟩ := hm.all i hi
  obtain ⟨b, b1, rfl⟩ := hm.all j hj
  by_cases c : a ≤ b
  · exact ⟨b - a, by omega, by rw [lcgN_add, show a + (b - a) = b by omega]⟩
  · exact ⟨m + 1 + b - a, by omega, by rw [lcgN_add, show a + (m + 1 + b - a) = m + 1 + b by omega, hm.again]⟩
theorem MaskB.meets {m : Nat} (hm : MaskB m) (h : Int) {j : Nat} (hj : j ≤ m) : ∃ n, n ≤ m + 12 ∧ runI m (SetTable.bits h) n = j := by
  obtain ⟨k, k1, k2⟩ := hm.to (runI_le m (SetTable.bits h) 12) hj
  refine ⟨12 + k, by omega, ?_⟩
  rw [runI_tail (bits_lt h), k2]
theorem way_in (m : Nat) (h : Int) (k : Nat) : way m h k ≤ m := by
  have r := runEnd_bd (show SetTable.bits h % (m + 1) ≤ m from Nat.le_of_lt_succ (Nat.mod_lt _ (Nat.succ_pos m)))
  have q := nth_in (m := m) k (runAt m (SetTable.bits h % (m + 1)) (SetTable.bits h))
    (show SetTable.bits h % (m + 1) + (SetTable.runEnd m (SetTable.bits h % (m + 1)) - SetTable.bits h % (m + 1)) ≤ m by omega)
  exact Nat.le_trans (Nat.le_add_right _ _) q
theorem MaskB.way_to {m : Nat} (hm : MaskB m) (h : Int) {j : Nat} (hj : j ≤ m) : ∃ n, n ≤ m + 12 ∧ way m h (off m (SetTable.bits h % (m + 1)) (SetTable.bits h) n) = j := by
  obtain ⟨n, n1, n2⟩ := hm.meets h hj
  refine ⟨n, n1, ?_⟩
  unfold way
  rw [nth_off, itL_run, n2]
  rfl
theorem off_le (m : Nat) : ∀ (n i b : Nat), i ≤ m → off m i b n ≤ 10 * n
  | 0, _, _, _ => Nat.le_refl _
  | n + 1, i, b, hi => by
    have r := runEnd_bd hi
    have ih := off_le m n (SetTable.leap m i b).1 (SetTable.leap m i b).2 (leap_le m i b)
    show SetTable.runEnd m i - i + 1 + off m (SetTable.leap m i b).1 (SetTable.leap m i b).2 n ≤ _
    omega
/-! ### tables -/
/-- on h's way, j comes behind places of ps alone -/
def OnWay (m : Nat) (ps : List Nat) (h : Int) (j : Nat) : Prop := ∃ k, way m h k = j ∧ ∀ c, c < k → way m h c ∈ ps
structure TabB (t : SetTable) (hs : List Int) : Prop where
  up : Ris t.place.toList
  noD : t.dummies = #[]
  many : t.place.toList.length = hs.length
  mB : MaskB t.mask
  in_ : ∀ x ∈ t.place.toList, x ≤ t.mask
  onW : ∀ (i : Nat) (h : Int) (j : Nat), hs[i]? = some h → t.place.toList[i]? = some j → OnWay t.mask t.place.toList h j
theorem TabB.sz {t : SetTable} {hs : List Int} (T : TabB t hs) : t.place.size = hs.length := by
  rw [← Array.length_toList]
  exact T.many
theorem TabB.stop {t : SetTable} {hs : List Int} (T : TabB t hs) (hl : hs.length ≤ t.mask) (h : Int) :
    ∃ K, K < 10 * SetTable.turns t.mask ∧ way t.mask h K ∉ t.place.toList ∧ ∀ k, k < K → way t.mask h k ∈ t.place.toList := by
  obtain ⟨j, j1, j2⟩ := st_missing t.place.toList (t.mask + 1) (by rw [T.many]; omega)
  obtain ⟨n, n1, n2⟩ := T.mB.way_to h (Nat.le_of_lt_succ j1)
  have ob := off_le t.mask n (SetTable.bits h % (t.mask + 1)) (SetTable.bits h) (Nat.le_of_lt_succ (Nat.mod_lt _ (Nat.succ_pos t.mask)))
  obtain ⟨K, K1, K2, K3⟩ := st_least (p := fun k => way t.mask h k ∉ t.place.toList) _ (n2 ▸ j2)
  refine ⟨K, ?_, K2, fun k hk => Classical.byContradiction fun q => K3 k hk q⟩
  unfold SetTable.turns
  omega
theorem TabB.ahead {t : SetTable} {hs : List Int} (T : TabB t hs) {h : Int} {K i j : Nat} (hK : way t.mask h K ∉ t.place.toList) (hi : hs[i]? = some h) (hj : t.place.toList[i]? = some j) :
    ∃ k, k < K ∧ way t.mask h k = j := by
  obtain ⟨k, e, b⟩ := T.onW i h j hi hj
  refine ⟨k, Nat.lt_of_not_le fun c => hK ?_, e⟩
  rcases Nat.lt_or_eq_of_le c with c | c
  · exact b K c
  · rw [c, e]
    exact List.mem_of_getElem? hj
theorem OnWay.more {m : Nat} {ps ps' : List Nat} {h : Int} {j : Nat} (W : OnWay m ps h j) (hp : ∀ x ∈ ps, x ∈ ps') : OnWay m ps' h j := by
  obtain ⟨k, e, b⟩ := W
  exact ⟨k, e, fun c hc => hp _ (b c hc)⟩
/-- one is put in -/
theorem TabB.add {t : SetTable} {hs : List Int} (T : TabB t hs) {h : Int} {K : Nat} (hK : way t.mask h K ∉ t.place.toList) (hb : ∀ k, k < K → way t.mask h k ∈ t.place.toList) :
    SetTable.below t.place (way t.mask h K) ≤ hs.length ∧
      TabB (t.put (way t.mask h K)).1 (hs.take (SetTable.below t.place (way t.mask h K)) ++ h :: hs.drop (SetTable.below t.place (way t.mask h K))) ∧
      (t.put (way t.mask h K)).1.fill = hs.length + 1 := by
  have wl := way_in t.mask h K
  have W0 : OnWay t.mask t.place.toList h (way t.mask h K) := ⟨K, rfl, hb⟩
  generalize way t.mask h K = j at hK wl W0
  have c1 := (below_cut T.up j).1
  have cl : SetTable.below t.place j ≤ t.place.toList.length := c1
  have pp := put_place t j
  have fresh : t.place[SetTable.below t.place j]? ≠ some j := fun e => hK (List.mem_of_getElem? (show t.place.toList[SetTable.below t.place j]? = some j by rw [Array.getElem?_toList, e]))
  have hl : SetTable.below t.place j ≤ hs.length := by rw [← T.many]; exact cl
  have all : ∀ x ∈ t.place.toList, x ∈ (t.put j).1.place.toList := fun x hx => by rw [pp]; exact mem_ins.mpr (.inr hx)
  have ln : (t.put j).1.place.toList.length = hs.length + 1 := by rw [pp, len_ins _ cl, T.many]
  refine ⟨hl, ⟨ris_insert T.up fresh, put_dm T.noD j, ln.trans (len_ins _ hl h).symm, T.mB, fun x hx => ?_, fun i g k e1 e2 => ?_⟩, ?_⟩
  · rw [pp] at hx
    exact (mem_ins.mp hx).elim (fun e => e ▸ wl) (T.in_ x)
  · rw [pp, tins_get _ cl] at e2
    rw [tins_get _ hl] at e1
    show OnWay t.mask _ g k
    split at e1
    · rename_i q
      rw [if_pos q] at e2
      exact (T.onW i g k e1 e2).more all
    · rename_i q
      rw [if_neg q] at e2
      split at e1
      · rename_i q2
        rw [if_pos q2] at e2
        cases e1
        cases e2
        exact W0.more all
      · rename_i q2
        rw [if_neg q2] at e2
        exact (T.onW (i - 1) g k e1 e2).more all
  · unfold SetTable.fill
    rw [put_dm T.noD j, ← Array.length_toList, ln]
    rfl
/-! ### laid anew -/
theorem MaskB.free {m : Nat} (hm : MaskB m) (owner : Array (Option Nat)) (h : Int) {j : Nat} (hj : j ≤ m) (hf : oAt owner j = none) :
    ∃ K, SetTable.layClean.free m owner (SetTable.turns m) (SetTable.bits h % (m + 1)) (SetTable.bits h) = some (way m h K) ∧ oAt owner (way m h K) = none ∧ ∀ k, k < K → oAt owner (way m h k) ≠ none := by
  obtain ⟨n, n1, n2⟩ := hm.way_to h hj
  obtain ⟨K, K1, K2, K3⟩ := st_least (p := fun k => oAt owner (way m h k) = none) _ (by rw [← n2] at hf; exact hf)
  refine ⟨K, free_spec m owner _ n _ _ K (by unfold SetTable.turns; omega) K1 (fun k hk => ?_) (by rw [show oAt owner (nth m (runAt m _ _) K).j = none from K2]; rfl), K2, K3⟩
  cases e : oAt owner (way m h k) with
  | none => exact absurd e (K3 k hk)
  | some x => rfl
theorem own_step {m : Nat} (hm : MaskB m) {done : List Int} {owner : Array (Option Nat)} (W : Own m done owner) (hl : done.length ≤ m) (h : Int) :
    ∃ o', stepF m (some (owner, done.length)) h = some (o', done.length + 1) ∧ Own m (done ++ [h]) o' := by
  obtain ⟨ps, p1, p2⟩ := W.ps
  obtain ⟨i, i1, i2⟩ := st_missing ps (m + 1) (by omega)
  have il := Nat.le_of_lt_succ i1
  obtain ⟨K, e1, e2, e3⟩ := hm.free owner h il (Classical.byContradiction fun q => i2 (p2 i il q))
  have wl := way_in m h K
  have W0 : ∀ k, k < K → oAt owner (way m h k) ≠ none := e3
  refine ⟨_, stepF_some e1, ?_⟩
  generalize ew : way m h K = v at e1 e2 wl
  have self : oAt (owner.setIfInBounds v (some done.length)) v = some done.length := oAt_set_self _ (by rw [W.sz]; omega)
  have othr : ∀ {y}, y ≠ v → oAt (owner.setIfInBounds v (some done.length)) y = oAt owner y := fun q => oAt_set_ne _ q
  have keep : ∀ {y}, oAt owner y ≠ none → oAt (owner.setIfInBounds v (some done.length)) y ≠ none := fun {y} q => by
    rcases Classical.em (y = v) with c | c
    · rw [c, e2] at q
      exact absurd rfl q
    · rw [othr c]
      exact q
  have dl : (done ++ [h]).length = done.length + 1 := by simp
  constructor
  · simp [W.sz]
  · intro y k yl e
    rcases Classical.em (y = v) with c | c
    · rw [c, self] at e
      cases e
      exact ⟨h, K, by simp, ew.trans c.symm, fun k hk => keep (W0 k hk)⟩
    · rw [othr c] at e
      obtain ⟨g, L, a1, a2, a3⟩ := W.at_ y k yl e
      have kl := (List.getElem?_eq_some_iff.mp a1).1
      exact ⟨g, L, by rw [List.getElem?_append_left kl, a1], a2, fun k hk => keep (a3 k hk)⟩
  · intro k hk
    rw [dl] at hk
    rcases Nat.lt_or_eq_of_le (Nat.le_of_lt_succ hk) with c | c
    · obtain ⟨y, y1, y2⟩ := W.all k c
      exact ⟨y, y1, by rw [othr (fun z => by rw [z, e2] at y2; cases y2), y2]⟩
    · exact ⟨v, wl, by rw [c, self]⟩
  · refine ⟨v :: ps, by rw [dl, List.length_cons, p1], fun y yl q => ?_⟩
    rcases Classical.em (y = v) with c | c
    · rw [c]
      exact List.mem_cons_self
    · rw [othr c] at q
      exact List.mem_cons_of_mem _ (p2 y yl q)
theorem own_all {m : Nat} (hm : MaskB m) : ∀ (rest done : List Int) (owner : Array (Option Nat)), Own m done owner → done.length + rest.length ≤ m →
    ∃ o', rest.foldl (stepF m) (some (owner, done.length)) = some (o', done.length + rest.length) ∧ Own m (done ++ rest) o'
  | [], done, owner, W, _ => ⟨owner, rfl, by simpa using W⟩
  | h :: rest, done, owner, W, hl => by
    rw [List.length_cons] at hl
    obtain ⟨o1, q1, W1⟩ := own_step hm W (by omega) h
    have dl : (done ++ [h]).length = done.length + 1 := by simp
    obtain ⟨o2, q2, W2⟩ := own_all hm rest (done ++ [h]) o1 W1 (by omega)
    refine ⟨o2, ?_, by simpa using W2⟩
    rw [List.foldl_cons, q1, ← dl, q2, dl, List.length_cons]
    congr 2
    omega
/-- all is found again behind the laying -/
theorem laid_anew (t : SetTable) {hs : Array Int} {wanted M : Nat} (hw : SetTable.sizeAbove wanted = M + 1) (hM : MaskB M) (hn : hs.size ≤ M) :
    ∃ t2 order, t.relaid hs wanted = some (t2, order) ∧ order.toList.Perm (List.range hs.size) ∧ TabB t2 (order.toList.map fun i => hs.getD i 0) ∧ t2.mask = M ∧ t2.led = t.led := by
  have hw' : SetTable.sizeAbove wanted - 1 = M := by omega
  obtain ⟨owner, f, W⟩ := own_all hM hs.toList [] _ (Own.init M) (by rw [Array.length_toList]; simpa using hn)
  rw [List.nil_append] at W
  have lc : SetTable.layClean M hs = some owner := by
    rw [layClean_eq]
    exact congrArg (Option.map Prod.fst) f
  have ml : ∀ {j k}, (j, k) ∈ liveOf M owner ↔ j ≤ M ∧ oAt owner j = some k := fun {j k} => mem_live W.sz
  obtain ⟨r1, r2⟩ := ris_live (fun j => owner.getD j none) (List.range (M + 1)) (by unfold Ris; exact List.pairwise_lt_range)
  have r1 : Ris ((liveOf M owner).map Prod.fst) := r1
  have zs : hs.toList.length = hs.size := rfl
  have lv : (liveOf M owner).length = hs.size := by
    obtain ⟨ps, p1, p2⟩ := W.ps
    refine Nat.le_antisymm ?_ ?_
    · rw [← zs, ← p1, ← List.length_map (f := Prod.fst)]
      refine nat_nodup_len _ ps (r1.imp fun q => Nat.ne_of_lt q) fun x hx => ?_
      obtain ⟨⟨y, k⟩, hy, rfl⟩ := List.mem_map.mp hx
      have := ml.mp hy
      exact p2 y this.1 (by rw [this.2]; simp)
    · rw [← List.length_map (f := Prod.snd)]
      refine Nat.le_trans (Nat.le_of_eq List.length_range.symm) (nat_nodup_len (List.range hs.size) _ List.nodup_range fun k hk => ?_)
      obtain ⟨j, j1, j2⟩ := W.all k (List.mem_range.mp hk)
      exact List.mem_map.mpr ⟨(j, k), ml.mpr ⟨j1, j2⟩, rfl⟩
  refine ⟨tabOf t M owner, ((liveOf M owner).map (·.2)).toArray, by rw [relaid_eq, hw', lc]; rfl, ?_, ?_, rfl, rfl⟩
  · refine perm_range _ _ ((List.length_map _).trans lv) fun k hk => ?_
    obtain ⟨j, j1, j2⟩ := W.all k (by rw [zs]; exact hk)
    exact List.mem_map.mpr ⟨(j, k), ml.mpr ⟨j1, j2⟩, rfl⟩
  · have ep : (tabOf t M owner).place.toList = (liveOf M owner).map Prod.fst := rfl
    constructor
    · exact r1
    · rfl
    · rw [ep, List.length_map, List.length_map, List.length_map]
    · exact hM
    · intro x hx
      exact Nat.le_of_lt_succ (List.mem_range.mp (r2 x hx))
    · intro i h j e1 e2
      rw [ep] at e2 ⊢
      show OnWay M _ h j
      rw [List.toList_toArray, List.getElem?_map, List.getElem?_map] at e1
      rw [List.getElem?_map] at e2
      obtain ⟨⟨y, k⟩, hy, rfl⟩ := Option.map_eq_some_iff.mp e2
      rw [hy] at e1
      have e1 : hs.getD k 0 = h := Option.some.inj e1
      obtain ⟨y1, y2⟩ := ml.mp (List.mem_of_getElem? hy)
      obtain ⟨g, K, a1, a2, a3⟩ := W.at_ y k y1 y2
      have eg : hs.getD k 0 = g := by
        rw [Array.getD_eq_getD_getElem?, ← Array.getElem?_toList, a1]
        rfl
      rw [← e1, eg]
      refine ⟨K, a2, fun c hc => ?_⟩
      cases z : oAt owner (way M g c) with
      | none => exact absurd z (a3 c hc)
      | some k2 => exact List.mem_map.mpr ⟨(way M g c, k2), ml.mpr ⟨way_in M g c, z⟩, rfl⟩
theorem size_308 : SetTable.sizeAbove (SetTable.grown 77) = 512 := by decide +kernel
end Qk
set_option maxRecDepth 100000
set_option maxHeartbeats 4000000
namespace Qk
open PySem PySem.Spec PyProof.Rows L2
/-! ### sets whose members are tuples of texts, of tuples, of any depth to 8 -/
/-- the key k stands at a -/
def KAt (h : Heap) (k : NestedKey) (a : Addr) : Prop := NestedIs h k (.ref a) ∧ k.depth ≤ 8
theorem parts_of {h : Heap} : ∀ {ks : List NestedKey} {vs : List Value} {n : Nat}, NestedAll h ks vs → NestedKey.depthAll ks ≤ n → ∀ v ∈ vs, ∃ k, NestedIs h k v ∧ k.depth ≤ n
  | _, _, _, .nil, _, v, m => nomatch m
  | _, _, n, .cons (k := k0) x y, hd, v, m => by
    simp only [NestedKey.depthAll] at hd
    rcases List.mem_cons.mp m with rfl | m
    · exact ⟨k0, x, by omega⟩
    · exact parts_of y (by omega) v m
section
variable {P : Program} {w : World} {A : Around} {E : Value → Shared → Prop} {s : Shared}
theorem notClass : ∀ (n : Nat) {k : NestedKey} {v : Value} {Q : Bool → Shared → Prop}, NestedIs s.heap k v → k.depth ≤ n → Q false s → wpAny (model P w) A (ofAClassStatement n v) Q E s := by
  intro n
  induction n with
  | zero =>
    intro k v Q hv hn hq
    cases hv with
    | tup => simp only [NestedKey.depth] at hn; omega
    | _ => exact wpAny_pure hq
  | succ n ih =>
    intro k v Q hv hn hq
    cases hv with
    | @tup b ob arr m ks hb hc hd hall =>
      simp only [NestedKey.depth] at hn
      have hps := parts_of hall (Nat.le_of_succ_le_succ hn)
      unfold ofAClassStatement
      refine wpAny_bind (wpAny_typeOf (T := "tuple") ⟨ob, hb, hc⟩ ?_)
      dsimp only
      rw [show (("tuple" : String) == "tuple") = true from by decide]
      simp only [if_true, Bool.not_true, Bool.false_eq_true, if_false]
      try refine wpAny_bind (wpAny_pure ?_)
      try simp only [Bool.not_true, Bool.false_eq_true, if_false]
      show wpAny _ _ (seqItems? (.ref b) >>= _) _ _ s
      refine wpAny_bind (wpAny_seqItems hb hd ?_)
      dsimp only
      refine wpAny_bind ?_
      show wpAny _ _ (forIn arr _ _) _ _ s
      rw [← Array.forIn_toList]
      refine wpAny_forIn_list _ (fun rest z s' => (z.1 = none ∧ s' = s) ∧ ∀ u ∈ rest, ∃ k, NestedIs s.heap k u ∧ k.depth ≤ n) _ ?_ ?_ _ _ ⟨⟨rfl, rfl⟩, hps⟩
      · rintro u rest z s' ⟨⟨hz, rfl⟩, hr⟩
        obtain ⟨k', g1, g2⟩ := hr u List.mem_cons_self
        refine wpAny_bind (ih g1 g2 ?_)
        simp only [Bool.false_eq_true, if_false]
        exact wpAny_pure ⟨⟨rfl, rfl⟩, fun u' hu' => hr u' (List.mem_cons_of_mem _ hu')⟩
      · rintro ⟨z1, z2⟩ s' ⟨⟨hz, rfl⟩, _⟩
        dsimp only at hz
        subst hz
        exact wpAny_pure hq
    | _ => exact wpAny_pure hq
theorem byValueOr : ∀ (n : Nat) {k : NestedKey} {v : Value} {Q : Bool → Shared → Prop}, NestedIs s.heap k v → (∀ b, Q b s) → wpAny (model P w) A (hashByValue n v) Q E s := by
  intro n
  induction n with
  | zero =>
    intro k v Q hv hq
    cases hv <;> exact wpAny_pure (hq _)
  | succ n ih =>
    intro k v Q hv hq
    cases hv with
    | @tup b ob arr m ks hb hc hd hall =>
      have hps := parts_of hall (Nat.le_refl _)
      unfold hashByValue
      refine wpAny_bind (wpAny_specialOf (T := "tuple") ⟨ob, hb, hc⟩ PySem.F.slot_tuple_hash.lookup ?_)
      show wpAny _ _ (seqItems? (.ref b) >>= _) _ _ s
      refine wpAny_bind (wpAny_seqItems hb hd ?_)
      refine wpAny_bind ?_
      show wpAny _ _ (forIn arr _ _) _ _ s
      rw [← Array.forIn_toList]
      refine wpAny_forIn_list _ (fun rest z s' => (z.1 = none ∧ s' = s) ∧ ∀ u ∈ rest, ∃ k, NestedIs s.heap k u ∧ k.depth ≤ NestedKey.depthAll ks) _ ?_ ?_ _ _ ⟨⟨rfl, rfl⟩, hps⟩
      · rintro u rest z s' ⟨⟨hz, rfl⟩, hr⟩
        obtain ⟨k', g1, g2⟩ := hr u List.mem_cons_self
        refine wpAny_bind (ih g1 fun b => ?_)
        cases b with
        | true =>
          simp only [Bool.not_true, Bool.false_eq_true, if_false]
          exact wpAny_pure ⟨⟨rfl, rfl⟩, fun u' hu' => hr u' (List.mem_cons_of_mem _ hu')⟩
        | false =>
          simp only [Bool.not_false, if_true]
          exact wpAny_pure (wpAny_pure (hq false))
      · rintro ⟨z1, z2⟩ s' ⟨⟨hz, rfl⟩, _⟩
        dsimp only at hz
        subst hz
        exact wpAny_pure (hq _)
    | _ => exact wpAny_pure (hq _)
/-- no member shows anything while it is looked for -/
theorem unseen {k : NestedKey} {x : Addr} {ys : List Value} {Q : Bool → Shared → Prop} (hx : KAt s.heap k x) (hy : ∀ y ∈ ys, ∃ k' c, y = .ref c ∧ KAt s.heap k' c) (hq : Q false s) :
    wpAny (model P w) A (searchCouldBeSeen (.ref x) ys) Q E s := by
  unfold searchCouldBeSeen
  refine wpAny_bind (wpAny_forIn_list _ (fun rest z s' => (z.1 = none ∧ s' = s) ∧ ∀ y ∈ rest, ∃ k' c, y = .ref c ∧ KAt s.heap k' c) _ ?_ ?_ _ _ ⟨⟨rfl, rfl⟩, hy⟩)
  · rintro y rest z s' ⟨⟨hz, rfl⟩, hr⟩
    obtain ⟨k', c, rfl, hc⟩ := hr y List.mem_cons_self
    have go : ∀ y ∈ rest, ∃ k' c, y = .ref c ∧ KAt s'.heap k' c := fun u m => hr u (List.mem_cons_of_mem _ m)
    dsimp only
    by_cases hv : (x == c || (carriedByValue (.ref x) && carriedByValue (.ref c))) = true
    · exact wp_if_pos hv (wpAny_pure ⟨⟨rfl, rfl⟩, go⟩)
    · refine wp_if_neg hv (wpAny_bind ((nestedKind P w).quiet hx ?_))
      simp only [Bool.not_true, Bool.false_eq_true, if_false]
      refine wpAny_bind ((nestedKind P w).quiet hc ?_)
      simp only [Bool.not_true, Bool.false_eq_true, if_false]
      refine wpAny_bind (notClass 8 hx.1 hx.2 ?_)
      simp only [Bool.false_eq_true, if_false]
      refine wpAny_bind (notClass 8 hc.1 hc.2 ?_)
      simp only [Bool.false_eq_true, if_false]
      exact wpAny_pure ⟨⟨rfl, rfl⟩, go⟩
  · rintro ⟨z1, z2⟩ s' ⟨⟨hz, rfl⟩, _⟩
    dsimp only at hz
    subst hz
    exact wpAny_pure hq
end
/-! ### where a probe gets to -/
abbrev pr (m : Nat) (h : Int) (c : Nat) : SetTable.Probe := nth m (runAt m (SetTable.bits h % (m + 1)) (SetTable.bits h)) c
theorem pr_clean (m : Nat) (h : Int) : ∀ c, (pr m h c).dummy = none
  | 0 => rfl
  | c + 1 => by
    show (nth m _ (c + 1)).dummy = none
    rw [nth_succ]
    have ih := pr_clean m h c
    unfold adv
    split <;> exact ih
theorem probe_at {t : SetTable} {hs : List Int} (T : TabB t hs) {h : Int} {K c : Nat} (hf : K < 10 * SetTable.turns t.mask) (hK : way t.mask h K ∉ t.place.toList) (hb : ∀ c, c < K → way t.mask h c ∈ t.place.toList) (ha : Nat → Int) (hc : c ≤ K) :
    (∃ d i, (c ≤ d ∧ d < K) ∧ t.place.toList[i]? = some (way t.mask h d) ∧ ha i = h ∧ (∀ e j, c ≤ e → e < d → t.place.toList[j]? = some (way t.mask h e) → ha j ≠ h) ∧ t.probe ha h (pr t.mask h c) = some (.candidate (way t.mask h d) i (pr t.mask h (d + 1)))) ∨
    (∀ e j, c ≤ e → e < K → t.place.toList[j]? = some (way t.mask h e) → ha j ≠ h) ∧ t.probe ha h (pr t.mask h c) = some (.empty (way t.mask h K) none) := by
  have sh : ∀ q, nth t.mask (pr t.mask h c) q = pr t.mask h (c + q) := fun q => (nth_add t.mask c _ q).symm
  have at_ : ∀ q, (nth t.mask (pr t.mask h c) q).j = way t.mask h (c + q) := fun q => congrArg SetTable.Probe.j (sh q)
  have eK : c + (K - c) = K := by omega
  rcases go_spec t T.up T.noD ha h (10 * SetTable.turns t.mask) (K - c) _ (pr_clean t.mask h c) (by omega) (fun q hq => by rw [at_]; exact hb _ (by omega)) (by rw [at_, eK]; exact hK) with ⟨q, i, g1, g2, g3, g4, g5⟩ | ⟨g1, g2⟩
  · refine .inl ⟨c + q, i, ⟨Nat.le_add_right _ _, by omega⟩, by rw [← at_]; exact g2, g3, fun e j he1 he2 hj => g4 (e - c) j (by omega) (by rw [at_, show c + (e - c) = e by omega]; exact hj), ?_⟩
    rw [← at_, show pr t.mask h (c + q + 1) = nth t.mask (pr t.mask h c) (q + 1) from (sh (q + 1)).symm]
    exact g5
  · refine .inr ⟨fun e j he1 he2 hj => g1 (e - c) j (by omega) (by rw [at_, show c + (e - c) = e by omega]; exact hj), ?_⟩
    rw [show way t.mask h K = (nth t.mask (pr t.mask h c) (K - c)).j by rw [at_, eK]]
    exact g2
/-! ### the set -/
abbrev Kp2 := NestedKey × Addr
/-- what the table has for a member -/
def ent (w : World) (p : Kp2) : Int × Value := (p.1.hash w, .ref p.2)
def hashesK (w : World) (L : List Kp2) : List Int := L.map fun p => p.1.hash w
/-- the set at a: L are its members (key and address), as the table has them -/
structure KSet (w : World) (h : Heap) (a : Addr) (L : List Kp2) (es : Array (Int × Value)) (ep : Nat) (t : SetTable) : Prop where
  ob : ∃ o, h.get? a = some o ∧ o.ExactSet ∧ o.data = .set es ep t
  rows : es.toList = L.map (ent w)
  tab : TabB t (hashesK w L)
  nd : (L.map Prod.fst).Nodup
  led : w.params.followText "set-order" = true ∨ t.led = true
  room : L.length * 5 < t.mask * 3
  few : L.length < 300
def KeysAt (h : Heap) (L : List Kp2) : Prop := ∀ p ∈ L, KAt h p.1 p.2
section
variable {P : Program} {w : World} {A : Around} {E : Value → Shared → Prop} {s : Shared} {h : Heap} {a : Addr} {L : List Kp2} {es : Array (Int × Value)} {ep : Nat} {t : SetTable}
theorem sz_rows (hr : es.toList = L.map (ent w)) : es.size = L.length := by
  rw [← Array.length_toList, hr, List.length_map]
theorem KSet.at_ (R : KSet w h a L es ep t) {i : Nat} {p : Kp2} (hi : L[i]? = some p) : es[i]? = some (ent w p) := by
  rw [← Array.getElem?_toList, R.rows, List.getElem?_map, hi]
  rfl
theorem len_h (L : List Kp2) : (hashesK w L).length = L.length := List.length_map _
theorem fits_of {hs : List Int} (T : TabB t hs) {n : Nat} (hn : hs.length = n) (hm : n ≤ t.mask) : t.fits n = true := by
  unfold SetTable.fits SetTable.fill
  have e : t.dummies.size = 0 := by rw [T.noD]; rfl
  rw [T.sz, hn, e]
  simp
  omega
theorem KSet.fits (R : KSet w h a L es ep t) : t.fits es.size = true := by
  rw [sz_rows R.rows]
  have := R.room
  exact fits_of R.tab (len_h L) (by omega)
theorem look (R : KSet w s.heap a L es ep t) (M : KeysAt s.heap L) {x : Addr} {k : NestedKey} (hx : KAt s.heap k x) (hu : A.units + 8 < cLine) {K : Nat} (hf : K < 10 * SetTable.turns t.mask)
    (hK : way t.mask (k.hash w) K ∉ t.place.toList) (hb : ∀ c, c < K → way t.mask (k.hash w) c ∈ t.place.toList) {Q : SetFound → Shared → Prop}
    (yes : k ∈ L.map Prod.fst → Q (.there none) s) (no : k ∉ L.map Prod.fst → Q (.free (way t.mask (k.hash w) K) false) s) :
    ∀ (f c : Nat) (stand : Option SetTable.Probe), stand.getD (t.probeStart (k.hash w)) = pr t.mask (k.hash w) c → c ≤ K → K < f + c →
      (∀ (i : Nat) (p : Kp2), L[i]? = some p → p.1 = k → ∃ d, c ≤ d ∧ d < K ∧ t.place.toList[i]? = some (way t.mask (k.hash w) d)) → wpAny (model P w) A (setSearchFrom a (.ref x) (k.hash w) true f stand) Q E s := by
  intro f
  induction f with
  | zero => intro c stand _ h1 h2; omega
  | succ f ih =>
    intro c stand hs h1 h2 hw
    obtain ⟨o, ho, hex, hd⟩ := R.ob
    rw [setSearchFrom_succ]
    refine wpAny_bind (wpAny_setState_of ho hd R.fits ?_)
    dsimp only
    refine wp_if_neg (by unfold SetTable.gaveWay; rw [R.tab.mB.odd]; decide) ?_
    try refine wpAny_bind (wpAny_pure ?_)
    have hh : ∀ (i : Nat) (p : Kp2), L[i]? = some p → (es[i]?.map (·.1)).getD 0 = p.1.hash w := fun i p hi => by rw [R.at_ hi]; rfl
    rcases probe_at R.tab hf hK hb (fun i => (es[i]?.map (·.1)).getD 0) h1 with ⟨d, i, ⟨d1, d2⟩, hi, _, hno, hp⟩ | ⟨hno, hp⟩
    · rw [hs, hp]
      dsimp only
      have hl : i < L.length := by
        have := (List.getElem?_eq_some_iff.mp hi).1
        rw [Array.length_toList, R.tab.sz, len_h] at this
        exact this
      obtain ⟨p, hpi⟩ : ∃ p, L[i]? = some p := ⟨_, List.getElem?_eq_getElem hl⟩
      have hpm := List.mem_of_getElem? hpi
      have tail : wpAny (model P w) A (searchRest a (.ref x) (k.hash w) true f es t (way t.mask (k.hash w) d) i (pr t.mask (k.hash w) (d + 1))) Q E s := by
        unfold searchRest
        rw [R.at_ hpi]
        unfold ent
        dsimp only
        refine wpAny_bind (wpAny_holding ((nestedKind P w).eqBool hu (M p hpm) hx ?_))
        refine wpAny_bind (wpAny_setState_of ho hd R.fits ?_)
        dsimp only
        by_cases hk : p.1 = k
        · refine wp_if_pos (by simp [hk]) (wpAny_pure (yes ?_))
          exact hk ▸ List.mem_map_of_mem hpm
        · refine wp_if_neg (by simp [hk]) ?_
          try refine wpAny_bind (wpAny_pure ?_)
          have live := slot_live R.tab.up hi
          rw [sameMem]
          simp only [if_true, live, R.at_ hpi, ent]
          refine wpAny_bind (wpAny_isSame_ref_self (wpAny_bind (wpAny_pure ?_)))
          simp only [if_true]
          refine wp_if_neg (by simp [hk]) (ih (d + 1) _ rfl d2 (by omega) fun j q hj hq => ?_)
          obtain ⟨e, e1, e2, e3⟩ := hw j q hj hq
          refine ⟨e, ?_, e2, e3⟩
          rcases Nat.lt_trichotomy e d with z | z | z
          · exact absurd ((hh j q hj).trans (by rw [hq])) (hno e j e1 z e3)
          · have l2 := slot_live R.tab.up (z ▸ e3)
            rw [live] at l2
            injection l2 with l2
            rw [← l2, hpi] at hj
            exact absurd ((congrArg Prod.fst (Option.some.inj hj)).trans hq) hk
          · exact z
      by_cases hl : t.led = true
      · refine wp_if_neg (by simp [hl]) ?_
        try refine wpAny_bind (wpAny_pure ?_)
        exact tail
      · refine wp_if_pos (by simp [hl]) (wpAny_bind (unseen hx (fun y hy => ?_) ?_))
        · obtain ⟨e, he, rfl⟩ := List.mem_map.mp hy
          have he2 : e ∈ es.toList := by
            have := (show e ∈ es ∧ _ by simpa using he).1
            simpa using this
          rw [R.rows] at he2
          obtain ⟨q, hq, rfl⟩ := List.mem_map.mp he2
          exact ⟨q.1, q.2, rfl, M q hq⟩
        · refine wp_if_neg (by decide) ?_
          try refine wpAny_bind (wpAny_pure ?_)
          exact tail
    · rw [hs, hp]
      dsimp only
      refine wpAny_pure (no fun hm => ?_)
      obtain ⟨q, hq, hk⟩ := List.mem_map.mp hm
      obtain ⟨j, hj⟩ := List.mem_iff_getElem?.mp hq
      obtain ⟨e, e1, e2, e3⟩ := hw j q hj hk
      exact hno e j e1 e2 e3 ((hh j q hj).trans (by rw [hk]))
theorem look_at (R : KSet w s.heap a L es ep t) (M : KeysAt s.heap L) {x : Addr} {k : NestedKey} (hx : KAt s.heap k x) (hu : A.units + 8 < cLine) {Q : SetFound → Shared → Prop}
    (yes : k ∈ L.map Prod.fst → Q (.there none) s)
    (no : ∀ K, k ∉ L.map Prod.fst → way t.mask (k.hash w) K ∉ t.place.toList → (∀ c, c < K → way t.mask (k.hash w) c ∈ t.place.toList) → Q (.free (way t.mask (k.hash w) K) false) s) :
    wpAny (model P w) A (setSearch a (.ref x) (k.hash w) true) Q E s := by
  have hr := R.room
  obtain ⟨K, f1, f2, f3⟩ := R.tab.stop (by rw [len_h]; omega) (k.hash w)
  have big : SetTable.turns t.mask ≤ 5000 := by
    have := R.tab.mB.top
    unfold SetTable.turns
    omega
  refine look R M hx hu f1 f2 f3 yes (fun hn => no K hn f2 f3) 100000 0 none rfl (Nat.zero_le _) (by omega) fun i p hi hp => ?_
  have h1 : (hashesK w L)[i]? = some (k.hash w) := by
    unfold hashesK
    rw [List.getElem?_map, hi, ← hp]
    rfl
  have h2 : i < t.place.toList.length := by
    rw [Array.length_toList, R.tab.sz, len_h]
    exact (List.getElem?_eq_some_iff.mp hi).1
  obtain ⟨d, d1, d2⟩ := R.tab.ahead f2 h1 (List.getElem?_eq_getElem h2)
  exact ⟨d, Nat.zero_le _, d1, by rw [d2]; exact List.getElem?_eq_getElem h2⟩
end
end Qk
set_option maxRecDepth 100000
set_option maxHeartbeats 4000000
namespace Qk
open PySem PySem.Spec PyProof.Rows L2
/-! ### putting a member in -/
theorem KAt.off {h h' : Heap} {k : NestedKey} {x a : Addr} {o : Obj} {es : Array (Int × Value)} {ep : Nat} {t : SetTable} (hx : KAt h k x) (ho : h.get? a = some o) (hd : o.data = .set es ep t) (hs : Heap.SameBut a h h') : KAt h' k x :=
  ⟨NestedIs.at (fun b ob vs n hb hv => (hs.2 b fun e => by
    subst e
    rw [ho] at hb
    cases hb
    rw [hd] at hv
    cases hv).trans hb) _ _ hx.1, hx.2⟩
theorem KAt.keep {h h' : Heap} {k : NestedKey} {x : Addr} (hx : KAt h k x) (hk : ∀ b o, h.get? b = some o → h'.get? b = some o) : KAt h' k x :=
  ⟨NestedIs.at (fun b ob vs n hb hv => hk b ob hb) _ _ hx.1, hx.2⟩
/-- rows taken in another order -/
theorem pick_rows {α β : Type} (g : α → β) (L : List α) (es : Array β) (hr : es.toList = L.map g) (order : Array Nat) (hp : order.toList.Perm (List.range L.length)) :
    ∃ L2 : List α, (order.filterMap (es[·]?)).toList = L2.map g ∧ L2.Perm L ∧ ∀ {γ : Type} (u : α → γ) (v : Nat → γ), (∀ i x, L[i]? = some x → v i = u x) → L2.map u = order.toList.map v := by
  have eg : ∀ i, es[i]? = (L[i]?).map g := fun i => by rw [← Array.getElem?_toList, hr, List.getElem?_map]
  refine ⟨order.toList.filterMap (L[·]?), ?_, ?_, fun u v huv => ?_⟩
  · rw [Array.toList_filterMap, List.map_filterMap]
    exact congrArg (fun f => List.filterMap f order.toList) (funext eg)
  · refine (hp.filterMap _).trans ?_
    have key : ∀ n, n ≤ L.length → (List.range n).filterMap (L[·]?) = L.take n := by
      intro n
      induction n with
      | zero => intro _; rfl
      | succ n ih =>
        intro hn
        rw [List.range_succ, List.filterMap_append, ih (by omega), List.take_add_one, List.getElem?_eq_getElem (show n < L.length by omega)]
        exact congrArg (List.take n L ++ ·) (List.filterMap_cons_some (List.getElem?_eq_getElem (show n < L.length by omega)))
    rw [key _ (Nat.le_refl _), List.take_length]
  · have : ∀ l : List Nat, (∀ i ∈ l, i < L.length) → (l.filterMap (L[·]?)).map u = l.map v := by
      intro l
      induction l with
      | nil => intro _; rfl
      | cons i l ih =>
        intro hl
        have hi := List.getElem?_eq_getElem (hl i List.mem_cons_self)
        rw [List.filterMap_cons_some hi, List.map_cons, List.map_cons, ih fun j hj => hl j (List.mem_cons_of_mem _ hj), huv i _ hi]
    exact this _ fun i hi => List.mem_range.mp (hp.mem_iff.mp hi)
section
variable {P : Program} {w : World} {A : Around} {E : Value → Shared → Prop} {s : Shared} {a : Addr} {L : List Kp2} {es : Array (Int × Value)} {ep : Nat} {t : SetTable}
/-- the table laid anew with more room -/
theorem relay {o : Obj} (ho : s.heap.get? a = some o) (hex : o.ExactSet) (hd : o.data = .set es ep t) (hr : es.toList = L.map (ent w)) (T : TabB t (hashesK w L)) (hm : L.length ≤ t.mask) (nd : (L.map Prod.fst).Nodup)
    (ld : w.params.followText "set-order" = true ∨ t.led = true) (few : L.length < 300) {wanted M : Nat} (hw : SetTable.sizeAbove wanted = M + 1) (hM : MaskB M) (hn : L.length * 5 < M * 3) {Q : Unit → Shared → Prop}
    (hQ : ∀ h' L' es' ep' t', Heap.SameBut a s.heap h' → KSet w h' a L' es' ep' t' → L'.Perm L → Q () { s with heap := h' }) : wpAny (model P w) A (setRelay a wanted) Q E s := by
  have hz := sz_rows hr
  have hfit : t.fits es.size = true := by rw [hz]; exact fits_of T (len_h L) hm
  have hM2 := hM.top
  obtain ⟨t2, order, q1, q2, q3, q4, q5⟩ := laid_anew t (hs := es.map (·.1)) (wanted := wanted) hw hM (by rw [Array.size_map, hz]; omega)
  rw [Array.size_map, hz] at q2
  obtain ⟨L2, r1, r2, r3⟩ := pick_rows (ent w) L es hr order q2
  rw [← r3 (fun p => p.1.hash w) (fun i => (es.map (·.1)).getD i 0) fun i p hp => by
    have e : es[i]? = some (ent w p) := by rw [← Array.getElem?_toList, hr, List.getElem?_map, hp]; rfl
    rw [Array.getD_eq_getD_getElem?, Array.getElem?_map, e]
    rfl] at q3
  have z2 : (order.filterMap (es[·]?)).size = L.length := by rw [sz_rows r1, r2.length_eq]
  rw [setRelay_eq]
  refine wpAny_bind (wpAny_setState_of ho hd hfit ?_)
  dsimp only
  refine wp_if_neg (by rw [sizeLine_eq]; omega) ?_
  try refine wpAny_bind (wpAny_pure ?_)
  rw [q1]
  dsimp only
  refine wpAny_bind (wp_if_neg (by rw [z2, hz]; simp) ?_)
  try refine wpAny_bind (wpAny_pure ?_)
  refine wpAny_pure ?_
  dsimp only
  refine wpAny_storeSet_of ho hd (hQ _ L2 (order.filterMap (es[·]?)) (ep + 1) t2 (Heap.SameBut.update ..) ?_ r2) (by rw [z2, sizeLine_eq]; omega)
  refine ⟨⟨_, store_at ho hd, ⟨hex.1, hex.2.1, hex.2.2⟩, rfl⟩, r1, q3, (r2.map Prod.fst).nodup_iff.mpr nd, by rw [q5]; exact ld, ?_, ?_⟩
  · rw [r2.length_eq, q4]; exact hn
  · rw [r2.length_eq]; exact few
theorem put_in (R : KSet w s.heap a L es ep t) (M : KeysAt s.heap L) {x : Addr} {k : NestedKey} (hx : KAt s.heap k x) (hu : A.units + 8 < cLine) (hfew : L.length + 1 < 300) {Q : Bool → Shared → Prop}
    (hQ : ∀ b h' L' es' ep' t', Heap.SameBut a s.heap h' → KSet w h' a L' es' ep' t' → (k ∈ L.map Prod.fst → L' = L) → (k ∉ L.map Prod.fst → L'.Perm ((k, x) :: L)) → Q b { s with heap := h' }) :
    wpAny (model P w) A (setAddHashed a (.ref x) (k.hash w)) Q E s := by
  obtain ⟨o, ho, hex, hd⟩ := id R.ob
  have hz := sz_rows R.rows
  have hroom := R.room
  unfold setAddHashed
  refine wpAny_holding ?_
  rw [show (100000 : Nat) = 99999 + 1 from rfl, setAddHashedIn_succ]
  refine wpAny_bind (wpAny_setState_of ho hd R.fits ?_)
  dsimp only
  refine wp_if_neg (by simp [byScan, Value.scannable]) ?_
  try refine wpAny_bind (wpAny_pure ?_)
  refine wpAny_bind (look_at R M hx hu (fun hm => ?_) fun K hm f2 f3 => ?_)
  · exact wpAny_pure (hQ false s.heap L es ep t (.refl a s.heap) R (fun _ => rfl) fun z => absurd hm z)
  · dsimp only
    refine wpAny_bind (wpAny_setState_of ho hd R.fits ?_)
    dsimp only
    obtain ⟨q2, q3, q9⟩ := R.tab.add f2 f3
    have q1 : (t.put (way t.mask (k.hash w) K)).2 = SetTable.below t.place (way t.mask (k.hash w) K) := rfl
    have q4 : (t.put (way t.mask (k.hash w) K)).1.mask = t.mask := rfl
    have q5 : (t.put (way t.mask (k.hash w) K)).1.led = t.led := rfl
    rw [len_h] at q2 q9
    generalize t.put (way t.mask (k.hash w) K) = pt at q1 q3 q4 q5 q9 ⊢
    obtain ⟨t1, pos⟩ := pt
    dsimp only at q1 q3 q4 q5 q9 ⊢
    subst q1
    generalize SetTable.below t.place (way t.mask (k.hash w) K) = pos at q2 q3 ⊢
    have eL : List.take pos (hashesK w L) ++ k.hash w :: List.drop pos (hashesK w L) = hashesK w (L.take pos ++ (k, x) :: L.drop pos) := by
      unfold hashesK
      rw [List.map_append, List.map_cons, List.map_take, List.map_drop]
    have er : (SetTable.insertAt es pos (k.hash w, Value.ref x)).toList = (L.take pos ++ (k, x) :: L.drop pos).map (ent w) := by
      rw [SetTable.toList_insertAt, R.rows, List.map_append, List.map_cons, List.map_take, List.map_drop]
      rfl
    rw [eL] at q3
    have pm : (L.take pos ++ (k, x) :: L.drop pos).Perm ((k, x) :: L) := by
      have z := List.perm_middle (a := (k, x)) (l₁ := L.take pos) (l₂ := L.drop pos)
      rw [List.take_append_drop] at z
      exact z
    generalize L.take pos ++ (k, x) :: L.drop pos = L1 at er pm q3
    generalize SetTable.insertAt es pos (k.hash w, Value.ref x) = es1 at er ⊢
    have l1 : L1.length = L.length + 1 := pm.length_eq
    have z1 := sz_rows er
    have nd1 : (L1.map Prod.fst).Nodup := (pm.map Prod.fst).nodup_iff.mpr (List.nodup_cons.mpr ⟨hm, R.nd⟩)
    have go : ∀ t2 : SetTable, t2.mask = t.mask → t2.led = t.led → t2.fill = L.length + 1 → TabB t2 (hashesK w L1) → wpAny (model P w) A (do
        storeSet a es1 t2
        if (!false && t2.tooFull) = true then do
          setRelay a (SetTable.grown (es.size + 1))
          pure true
        else pure true) Q E s := by
      intro t2 m1 m2 m3 T2
      have ld2 : w.params.followText "set-order" = true ∨ t2.led = true := by rw [m2]; exact R.led
      refine wpAny_bind (wpAny_storeSet_of ho hd ?_ (by rw [z1, l1, sizeLine_eq]; omega))
      have sb : Heap.SameBut a s.heap (s.heap.update a (Obj.putSet es1 t2)) := Heap.SameBut.update ..
      have ho1 := store_at (es' := es1) (t' := t2) ho hd
      generalize s.heap.update a (Obj.putSet es1 t2) = h1 at sb ho1 ⊢
      have ful : t2.tooFull = decide ((L.length + 1) * 5 ≥ t.mask * 3) := by
        unfold SetTable.tooFull
        rw [m3, m1]
      rw [ful, hz]
      by_cases c : (L.length + 1) * 5 ≥ t.mask * 3
      · refine wp_if_pos (by simpa using c) (wpAny_bind ?_)
        have nx : (t.mask = 7 ∧ L.length = 4) ∨ (t.mask = 31 ∧ L.length = 18) ∨ (t.mask = 127 ∧ L.length = 76) := by
          rcases R.tab.mB.is_ with e | e | e | e
          · exact .inl ⟨e, by omega⟩
          · exact .inr (.inl ⟨e, by omega⟩)
          · exact .inr (.inr ⟨e, by omega⟩)
          · omega
        have lay : ∀ N, SetTable.sizeAbove (SetTable.grown (L.length + 1)) = N + 1 → MaskB N → (L.length + 1) * 5 < N * 3 →
            wpAny (model P w) A (setRelay a (SetTable.grown (L.length + 1))) (fun _ s' => wpAny (model P w) A (pure true) Q E s') E { s with heap := h1 } := fun N e1 e2 e4 =>
          relay (s := { s with heap := h1 }) ho1 ⟨hex.1, hex.2.1, hex.2.2⟩ rfl er T2 (by rw [l1, m1]; rcases nx with ⟨_, _⟩ | ⟨_, _⟩ | ⟨_, _⟩ <;> omega) nd1 ld2 (by omega) (M := N) e1 e2 (by rw [l1]; exact e4)
            fun h2 L2 es2 ep2 t3 sb2 R2 p2 => wpAny_pure (hQ true h2 L2 es2 ep2 t3 (sb.trans sb2) R2 (fun z => absurd z hm) fun _ => p2.trans pm)
        rcases nx with ⟨_, e⟩ | ⟨_, e⟩ | ⟨_, e⟩
        · exact lay 31 (by rw [e]; exact size_20) mb31 (by omega)
        · exact lay 127 (by rw [e]; exact size_76) mb127 (by omega)
        · exact lay 511 (by rw [e]; exact size_308) mb511 (by omega)
      · refine wp_if_neg (by simpa using c) (wpAny_pure (hQ true h1 L1 es1 (ep + 1) t2 sb ⟨⟨_, ho1, ⟨hex.1, hex.2.1, hex.2.2⟩, rfl⟩, er, T2, nd1, ld2, by rw [l1, m1]; omega, by omega⟩ (fun z => absurd z hm) fun _ => pm))
    have g1 := go t1 q4 q5 q9 q3
    have g2 := go { t1 with plain := false } q4 q5 q9 ⟨q3.up, q3.noD, q3.many, q3.mB, q3.in_, q3.onW⟩
    by_cases hp : t1.plain = true
    · refine wp_if_pos hp (wpAny_bind (byValueOr 8 hx.1 fun b => ?_))
      cases b with
      | true => exact g1
      | false => exact g2
    · exact wp_if_neg hp (wpAny_bind (wpAny_pure g1))
/-! ### set(xs) -/
theorem KSet.keep {h h' : Heap} (R : KSet w h a L es ep t) (ha : ∀ o, h.get? a = some o → h'.get? a = some o) : KSet w h' a L es ep t := by
  obtain ⟨o, ho, r⟩ := R.ob
  exact ⟨⟨o, ha o ho, r⟩, R.rows, R.tab, R.nd, R.led, R.room, R.few⟩
theorem kset_new {h : Heap} (ho : h.get? a = some { cls := .type "set", dict := none, data := .set #[] 0 (.fresh 0 0 (!w.params.followText "set-order")) }) : KSet w h a [] #[] 0 (.fresh 0 0 (!w.params.followText "set-order")) where
  ob := ⟨_, ho, ⟨rfl, rfl, rfl⟩, rfl⟩
  rows := rfl
  tab := ⟨List.Pairwise.nil, rfl, rfl, mb7, (fun x hx => nomatch hx), (fun i h j hi => nomatch hi)⟩
  nd := List.nodup_nil
  led := by
    show _ ∨ (!w.params.followText "set-order") = true
    cases w.params.followText "set-order" <;> simp
  room := by
    show 0 * 5 < 7 * 3
    decide
  few := by
    show 0 < 300
    decide
/-- L has what the first i of ks have -/
structure Has (ks : List Kp2) (i : Nat) (L : List Kp2) : Prop where
  sub : ∀ p ∈ L, p ∈ ks.take i
  all : ∀ p ∈ ks.take i, p.1 ∈ L.map Prod.fst
  len : L.length ≤ i
theorem Has.next {ks L L' : List Kp2} {i : Nat} {p : Kp2} (g : Has ks i L) (hi : ks[i]? = some p) (c1 : p.1 ∈ L.map Prod.fst → L' = L) (c2 : p.1 ∉ L.map Prod.fst → L'.Perm (p :: L)) : Has ks (i + 1) L' := by
  have et : ks.take (i + 1) = ks.take i ++ [p] := by rw [List.take_add_one, hi]; rfl
  by_cases c : p.1 ∈ L.map Prod.fst
  · rw [c1 c]
    refine ⟨fun q hq => ?_, fun q hq => ?_, Nat.le_succ_of_le g.len⟩
    · rw [et]; exact List.mem_append_left _ (g.sub q hq)
    · rw [et] at hq
      rcases List.mem_append.mp hq with z | z
      · exact g.all q z
      · rw [List.mem_singleton.mp z]; exact c
  · have pm := c2 c
    refine ⟨fun q hq => ?_, fun q hq => ?_, by rw [pm.length_eq]; exact Nat.succ_le_succ g.len⟩
    · rw [et]
      rcases List.mem_cons.mp (pm.mem_iff.mp hq) with z | z
      · rw [z]; exact List.mem_append_right _ (List.mem_singleton.mpr rfl)
      · exact List.mem_append_left _ (g.sub q z)
    · rw [(pm.map Prod.fst).mem_iff, List.map_cons]
      rw [et] at hq
      rcases List.mem_append.mp hq with z | z
      · exact List.mem_cons_of_mem _ (g.all q z)
      · rw [List.mem_singleton.mp z]; exact List.mem_cons_self
end
end Qk
set_option maxRecDepth 100000
set_option maxHeartbeats 4000000
namespace Qk
open PySem PySem.Spec PyProof.Rows L2
section
variable {P : Program} {w : World} {A : Around} {R : Result → Shared → Prop} {I : Addr} {fp wr : List Addr} {G : Array GenState → Array GenState → Prop} {n : Nat} {Pv : Nat → Value → Prop} {St : Nat → Shared → Prop}
/-- the set is filled from what is walked over -/
theorem fillK (W : WalksS P w A.in1 I fp wr G n Pv St) (S : Addr) (hSf : S ∉ fp) (ks : List Kp2) (hn : n = ks.length) (hfew : ks.length < 300) (hval : ∀ i v, Pv i v → ∃ p, ks[i]? = some p ∧ v = .ref p.2)
    (h0 : Heap) (hk : KeysAt h0 ks) (hS0 : h0.get? S = none) (hw0 : ∀ b ∈ wr, h0.get? b = none) (hu : A.in1.units + 8 < cLine) :
    ∀ (k i : Nat) (s : Shared), n - i = k → i ≤ n → St i s → (∀ b o, h0.get? b = some o → s.heap.get? b = some o) → (∃ L es ep t, KSet w s.heap S L es ep t ∧ Has ks i L) →
      (∀ s' L es ep t, Moved (S :: wr) G s s' → KSet w s'.heap S L es ep t → Has ks n L → (∀ b o, h0.get? b = some o → s'.heap.get? b = some o) → R (.ok (.ret .none)) s') →
      codeAny (model P w) A (.builtin "set.update.loop" ⟨[.ref S, .ref I], []⟩) R s := by
  have hSw : S ∉ wr := fun h => hSf (W.sub _ h)
  have hsub : ∀ b ∈ wr, b ∈ S :: wr := fun b hb => List.mem_cons_of_mem _ hb
  have old : ∀ {s s' : Shared}, Moved wr G s s' → (∀ b o, h0.get? b = some o → s.heap.get? b = some o) → ∀ b o, h0.get? b = some o → s'.heap.get? b = some o := fun hm q b o e =>
    hm.heap b o (fun m => by rw [hw0 b m] at e; cases e) (q b o e)
  intro k
  induction k with
  | zero =>
    rintro i s e hi hst q ⟨L, es, ep, t, g, gh⟩ hR
    obtain rfl : i = n := by omega
    refine codeAny_builtin PyProof.Rows.F.entry_set_update_loop ?_
    rw [Around.under_plainId PyProof.Rows.F.plain_set_update_loop _]
    exact wpAny_bind (m := pyNext (.ref I)) (W.done s _ _ hst fun s' hm => wpAny_pure (hR s' L es ep t (hm.mono hsub) (g.keep fun o e => hm.heap S o hSw e) gh (old hm q)))
  | succ k ih =>
    rintro i s e hi hst q ⟨L, es, ep, t, g, gh⟩ hR
    have hlt : i < n := by omega
    refine codeAny_builtin PyProof.Rows.F.entry_set_update_loop ?_
    rw [Around.under_plainId PyProof.Rows.F.plain_set_update_loop _]
    refine wpAny_bind (m := pyNext (.ref I)) (W.item i s _ _ hlt hst fun v s' hP hst' hm => ?_)
    obtain ⟨p, hp, rfl⟩ := hval i v hP
    have q' := old hm q
    have at' : KeysAt s'.heap ks := fun u m => (hk u m).keep q'
    have in' : KeysAt s'.heap L := fun u m => at' u (List.mem_of_mem_take (gh.sub u m))
    have hx := at' p (List.mem_of_getElem? hp)
    show wpAny _ A.in1 (holding [Value.ref p.2] (setAdd S (.ref p.2)) >>= _) _ _ s'
    refine wpAny_bind (wpAny_holding ?_)
    unfold setAdd
    refine wpAny_holding (wpAny_bind ((nestedKind P w).pyHash hu hx ?_))
    refine put_in (s := { s' with toks := s'.toks + (nestedKind P w).draws p.1 }) (g.keep fun o e => hm.heap S o hSw e) in' hx hu (by have := gh.len; omega) fun b h' L' es' ep' t' sb g2 c1 c2 => ?_
    have q2 : ∀ b o, h0.get? b = some o → h'.get? b = some o := fun b o e => (sb.2 b fun z => by rw [z, hS0] at e; cases e).trans (q' b o e)
    refine wpAny_pure ⟨plainId_quiet PyProof.Rows.F.plain_set_update_loop _, ih (i + 1) _ (by omega) hlt (W.frame _ s' _ _ hst' (Nat.le_add_right _ _) fun b hb o e => ?_) q2 ⟨L', es', ep', t', g2, gh.next hp c1 c2⟩ fun s'' L2 es2 ep2 t2 hm2 g3 gh3 q3 => ?_⟩
    · rw [sb.2 b fun z => hSf (z ▸ hb)]
      exact e
    · refine hR s'' L2 es2 ep2 t2 (Moved.trans W.gtrans ((hm.mono hsub).then_heap (Nat.le_add_right _ _) fun b o hb e => ?_) hm2) g3 gh3 q3
      rw [sb.2 b fun z => hb (by rw [z]; exact List.mem_cons_self)]
      exact e
end
section
variable {P : Program} {w : World} {A : Around} {E : Value → Shared → Prop} {s : Shared}
set_option maxHeartbeats 8000000 in
theorem setK_list {l : Addr} {items : Array Value} (ks : List Kp2) {Q : Value → Shared → Prop} (hh : A.handled = none) (hl : s.heap.IsList l items) (hi : items.toList = ks.map fun p => Value.ref p.2) (hk : KeysAt s.heap ks) (hf : ks.length < 300) (hu : A.units + 16 < cLine)
    (h : ∀ (h' : Heap) (tk : Nat) L es ep t, KSet w h' s.heap.objs.size L es ep t → Has ks ks.length L → (∀ b o, s.heap.get? b = some o → h'.get? b = some o) → Q (.ref s.heap.objs.size) { s with heap := h', toks := tk }) :
    wpAny (model P w) A (call (.type "set") [.ref l]) Q E s := by
  obtain ⟨c, tl, hmro⟩ := PySem.F.called_set.mro
  have hmade := PySem.F.called_set.made
  have hsub := PySem.F.called_set.sub
  have hsz : items.size = ks.length := by rw [← Array.length_toList, hi, List.length_map]
  refine wpAny_call (codeAny_of_tree ?_)
  show wpAny _ _ (callAny (.type "set") _) _ _ _
  refine wpAny_pure ⟨Code.quiet_builtin _ (by decide +kernel), codeAny_builtin PySem.F.entry_type_call ?_⟩
  rw [Around.under_plain (weight_type_call_type "set" [.ref l] []) rfl]
  have q1 := PySem.F.called_set.notType
  have q2 := PySem.F.called_set.canCreate
  have q3 := PySem.F.typeCall_set_1 (.ref l)
  repeat (any_goals (first | assumption | wp_step))
  obtain ⟨B, hB⟩ : ∃ B : Bool, B = !w.params.followText "set-order" := ⟨_, rfl⟩
  refine codeAny_mono (code_set_led1 (.ref l) (E := E) (Q₁ := fun v s₁ => v = .ref s.heap.objs.size ∧ s₁ = { s with heap := s.heap.push { cls := .type "set", dict := none, data := .set #[] 0 (.fresh 0 0 B) } }) ⟨rfl, by rw [hB]⟩) fun r s₁ hr => ?_
  cases r with
  | error e => exact hr
  | ok fl =>
    cases fl with
    | ret v =>
      obtain ⟨rfl, rfl⟩ := hr
      have hS : (s.heap.push { cls := .type "set", dict := none, data := .set #[] 0 (.fresh 0 0 B) }).get? s.heap.objs.size = some { cls := .type "set", dict := none, data := .set #[] 0 (.fresh 0 0 B) } := Heap.get?_push_size _ rfl
      have hT : Shared.TypeIs { s with heap := s.heap.push { cls := .type "set", dict := none, data := .set #[] 0 (.fresh 0 0 B) } } (.ref s.heap.objs.size) "set" := ⟨_, hS, rfl⟩
      have q4 := PySem.F.called_set.init.lookup
      have q5 := PySem.F.called_set.init.bind (.ref s.heap.objs.size)
      repeat (any_goals (first | assumption | wp_step))
      refine codeAny_mono (codeAny_call_builtin (R := wants (fun r s₂ => r = .none ∧ ∃ h' tk L es ep t, s₂ = { s with heap := h', toks := tk } ∧ KSet w h' s.heap.objs.size L es ep t ∧ Has ks ks.length L ∧ (∀ b o, s.heap.get? b = some o → h'.get? b = some o)) E)
        PySem.F.called_set.init.plain PySem.F.entry_set_init (check_set_init_1 hT ?_)) fun r₂ s₂ hr₂ => ?_
      · have hlS : l < s.heap.objs.size := by
          obtain ⟨ol, hol, _⟩ := hl
          exact Heap.lt_size hol
        have hl1 : (s.heap.push { cls := .type "set", dict := none, data := .set #[] 0 (.fresh 0 0 B) }).IsList l items := hl.push _
        obtain ⟨ol, hol, hcl, nl, hdl⟩ := hl1
        obtain ⟨ocls, odict, odata, oslots⟩ := ol
        simp only at hcl hdl
        subst hcl; subst hdl
        have hol' := hol
        have q6 := PySem.F.sub_list_set
        have q7 := PySem.F.sub_list_frozenset
        have q8 : (Value.type "list" == Value.type "dict") = false := by decide
        have hl1 : (s.heap.push { cls := .type "set", dict := none, data := .set #[] 0 (.fresh 0 0 B) }).IsList l items := ⟨_, hol, rfl, nl, rfl⟩
        unfold Builtin.«set.__init__» noKeywords Builtin.Frozenset.updateFrom
        generalize hPI : pyIter = PI
        wp_walk
        subst hPI
        refine wpAny_pyIter_list hl1 ?_
        refine wpAny_bind (wpAny_runValue ?_)
        have hh3 : A.in1.in1.in1.handled = none := by simp [hh]
        have hps : (s.heap.push { cls := .type "set", dict := none, data := .set #[] 0 (.fresh 0 0 B) }).objs.size = s.heap.objs.size + 1 := Heap.size_push _ _
        have hneI : l ≠ (s.heap.push { cls := .type "set", dict := none, data := .set #[] 0 (.fresh 0 0 B) }).objs.size := by
          rw [hps]
          exact Nat.ne_of_lt (Nat.lt_succ_of_lt hlS)
        have hSf : s.heap.objs.size ∉ [(s.heap.push { cls := .type "set", dict := none, data := .set #[] 0 (.fresh 0 0 B) }).objs.size, l] := by
          rw [hps]
          simp only [List.mem_cons, List.not_mem_nil, or_false, not_or]
          exact ⟨Nat.ne_of_lt (Nat.lt_succ_self _), Nat.ne_of_gt hlS⟩
        have hval : ∀ (i : Nat) (v : Value), items[i]? = some v → ∃ p, ks[i]? = some p ∧ v = .ref p.2 := fun i v hv => by
          rw [← Array.getElem?_toList, hi, List.getElem?_map] at hv
          obtain ⟨p, hp, e⟩ := Option.map_eq_some_iff.mp hv
          exact ⟨p, hp, e.symm⟩
        refine fillK ((Walks.list hh3 _ l hneI items).toS) s.heap.objs.size hSf ks hsz hf hval s.heap hk (Heap.get?_none_of_le (Nat.le_refl _)) (fun b hb => Heap.get?_none_of_le (by rw [List.mem_singleton.mp hb, hps]; exact Nat.le_succ _))
          (by simp only [Around.in1_units]; omega) (items.size - 0) 0 _ (by omega) (Nat.zero_le _) ⟨⟨_, Heap.get?_push_size _ rfl, rfl, rfl⟩, (hl1.push _)⟩ (fun b o e => Heap.get?_push_of_some _ (Heap.get?_push_of_some _ e)) ?hS0 ?hR
        case hS0 =>
          have hget : ((s.heap.push { cls := .type "set", dict := none, data := .set #[] 0 (.fresh 0 0 B) }).push { cls := .type "list_iterator", data := .fields #[.ref l, .int 0 0] }).get? s.heap.objs.size
              = some { cls := .type "set", dict := none, data := .set #[] 0 (.fresh 0 0 B) } := Heap.get?_push_of_some _ hS
          refine ⟨[], #[], 0, .fresh 0 0 B, ?_, ⟨(fun p hp => nomatch hp), (fun p hp => by simp at hp), Nat.le_refl _⟩⟩
          subst hB
          exact kset_new hget
        case hR =>
          intro s' L es ep t hm hF g hk'
          obtain ⟨h', g', d', tk', os'⟩ := s'
          have eg : g' = s.gens := hm.gens
          have ed : d' = s.drawn := hm.drawn
          have eo : os' = s.os := hm.os
          subst eg; subst ed; subst eo
          show wpAny _ _ _ _ _ _
          refine wpAny_pure ?_
          show wpAny _ _ (ret Value.none) _ _ _
          rw [hsz] at g
          exact wpAny_pure ⟨rfl, h', tk', L, es, ep, t, rfl, hF, g, hk'⟩
      · cases r₂ with
        | error e => exact hr₂
        | ok fl₂ =>
          cases fl₂ with
          | ret r =>
            obtain ⟨rfl, h', tk, L, es, ep, t, rfl, hF, g, hk'⟩ := hr₂
            repeat (any_goals (first | assumption | wp_step))
            exact h _ _ _ _ _ _ hF g hk'
          | _ => exact hr₂.elim
    | _ => exact hr.elim
set_option maxHeartbeats 8000000 in
theorem setK_tuple {l : Addr} {items : Array Value} (ks : List Kp2) {Q : Value → Shared → Prop} (hh : A.handled = none) (hl : s.heap.IsTuple l items) (hi : items.toList = ks.map fun p => Value.ref p.2) (hk : KeysAt s.heap ks) (hf : ks.length < 300) (hu : A.units + 16 < cLine)
    (h : ∀ (h' : Heap) (tk : Nat) L es ep t, KSet w h' s.heap.objs.size L es ep t → Has ks ks.length L → (∀ b o, s.heap.get? b = some o → h'.get? b = some o) → Q (.ref s.heap.objs.size) { s with heap := h', toks := tk }) :
    wpAny (model P w) A (call (.type "set") [.ref l]) Q E s := by
  obtain ⟨c, tl, hmro⟩ := PySem.F.called_set.mro
  have hmade := PySem.F.called_set.made
  have hsub := PySem.F.called_set.sub
  have hsz : items.size = ks.length := by rw [← Array.length_toList, hi, List.length_map]
  refine wpAny_call (codeAny_of_tree ?_)
  show wpAny _ _ (callAny (.type "set") _) _ _ _
  refine wpAny_pure ⟨Code.quiet_builtin _ (by decide +kernel), codeAny_builtin PySem.F.entry_type_call ?_⟩
  rw [Around.under_plain (weight_type_call_type "set" [.ref l] []) rfl]
  have q1 := PySem.F.called_set.notType
  have q2 := PySem.F.called_set.canCreate
  have q3 := PySem.F.typeCall_set_1 (.ref l)
  repeat (any_goals (first | assumption | wp_step))
  obtain ⟨B, hB⟩ : ∃ B : Bool, B = !w.params.followText "set-order" := ⟨_, rfl⟩
  refine codeAny_mono (code_set_led1 (.ref l) (E := E) (Q₁ := fun v s₁ => v = .ref s.heap.objs.size ∧ s₁ = { s with heap := s.heap.push { cls := .type "set", dict := none, data := .set #[] 0 (.fresh 0 0 B) } }) ⟨rfl, by rw [hB]⟩) fun r s₁ hr => ?_
  cases r with
  | error e => exact hr
  | ok fl =>
    cases fl with
    | ret v =>
      obtain ⟨rfl, rfl⟩ := hr
      have hS : (s.heap.push { cls := .type "set", dict := none, data := .set #[] 0 (.fresh 0 0 B) }).get? s.heap.objs.size = some { cls := .type "set", dict := none, data := .set #[] 0 (.fresh 0 0 B) } := Heap.get?_push_size _ rfl
      have hT : Shared.TypeIs { s with heap := s.heap.push { cls := .type "set", dict := none, data := .set #[] 0 (.fresh 0 0 B) } } (.ref s.heap.objs.size) "set" := ⟨_, hS, rfl⟩
      have q4 := PySem.F.called_set.init.lookup
      have q5 := PySem.F.called_set.init.bind (.ref s.heap.objs.size)
      repeat (any_goals (first | assumption | wp_step))
      refine codeAny_mono (codeAny_call_builtin (R := wants (fun r s₂ => r = .none ∧ ∃ h' tk L es ep t, s₂ = { s with heap := h', toks := tk } ∧ KSet w h' s.heap.objs.size L es ep t ∧ Has ks ks.length L ∧ (∀ b o, s.heap.get? b = some o → h'.get? b = some o)) E)
        PySem.F.called_set.init.plain PySem.F.entry_set_init (check_set_init_1 hT ?_)) fun r₂ s₂ hr₂ => ?_
      · have hlS : l < s.heap.objs.size := by
          obtain ⟨ol, hol, _⟩ := hl
          exact Heap.lt_size hol
        have hl1 : (s.heap.push { cls := .type "set", dict := none, data := .set #[] 0 (.fresh 0 0 B) }).IsTuple l items := hl.push _
        obtain ⟨ol, hol, hcl, nl, hdl⟩ := hl1
        obtain ⟨ocls, odict, odata, oslots⟩ := ol
        simp only at hcl hdl
        subst hcl; subst hdl
        have hol' := hol
        have q6 := PySem.F.sub_tuple_set
        have q7 := PySem.F.sub_tuple_frozenset
        have q8 : (Value.type "tuple" == Value.type "dict") = false := by decide
        have hl1 : (s.heap.push { cls := .type "set", dict := none, data := .set #[] 0 (.fresh 0 0 B) }).IsTuple l items := ⟨_, hol, rfl, nl, rfl⟩
        unfold Builtin.«set.__init__» noKeywords Builtin.Frozenset.updateFrom
        generalize hPI : pyIter = PI
        wp_walk
        subst hPI
        refine wpAny_pyIter_tuple hl1 ?_
        refine wpAny_bind (wpAny_runValue ?_)
        have hh3 : A.in1.in1.in1.handled = none := by simp [hh]
        have hps : (s.heap.push { cls := .type "set", dict := none, data := .set #[] 0 (.fresh 0 0 B) }).objs.size = s.heap.objs.size + 1 := Heap.size_push _ _
        have hneI : l ≠ (s.heap.push { cls := .type "set", dict := none, data := .set #[] 0 (.fresh 0 0 B) }).objs.size := by
          rw [hps]
          exact Nat.ne_of_lt (Nat.lt_succ_of_lt hlS)
        have hSf : s.heap.objs.size ∉ [(s.heap.push { cls := .type "set", dict := none, data := .set #[] 0 (.fresh 0 0 B) }).objs.size, l] := by
          rw [hps]
          simp only [List.mem_cons, List.not_mem_nil, or_false, not_or]
          exact ⟨Nat.ne_of_lt (Nat.lt_succ_self _), Nat.ne_of_gt hlS⟩
        have hval : ∀ (i : Nat) (v : Value), items[i]? = some v → ∃ p, ks[i]? = some p ∧ v = .ref p.2 := fun i v hv => by
          rw [← Array.getElem?_toList, hi, List.getElem?_map] at hv
          obtain ⟨p, hp, e⟩ := Option.map_eq_some_iff.mp hv
          exact ⟨p, hp, e.symm⟩
        refine fillK ((Walks.tuple hh3 _ l hneI items).toS) s.heap.objs.size hSf ks hsz hf hval s.heap hk (Heap.get?_none_of_le (Nat.le_refl _)) (fun b hb => Heap.get?_none_of_le (by rw [List.mem_singleton.mp hb, hps]; exact Nat.le_succ _))
          (by simp only [Around.in1_units]; omega) (items.size - 0) 0 _ (by omega) (Nat.zero_le _) ⟨⟨_, Heap.get?_push_size _ rfl, rfl, rfl⟩, (hl1.push _)⟩ (fun b o e => Heap.get?_push_of_some _ (Heap.get?_push_of_some _ e)) ?hS0 ?hR
        case hS0 =>
          have hget : ((s.heap.push { cls := .type "set", dict := none, data := .set #[] 0 (.fresh 0 0 B) }).push { cls := .type "tuple_iterator", data := .fields #[.ref l, .int 0 0] }).get? s.heap.objs.size
              = some { cls := .type "set", dict := none, data := .set #[] 0 (.fresh 0 0 B) } := Heap.get?_push_of_some _ hS
          refine ⟨[], #[], 0, .fresh 0 0 B, ?_, ⟨(fun p hp => nomatch hp), (fun p hp => by simp at hp), Nat.le_refl _⟩⟩
          subst hB
          exact kset_new hget
        case hR =>
          intro s' L es ep t hm hF g hk'
          obtain ⟨h', g', d', tk', os'⟩ := s'
          have eg : g' = s.gens := hm.gens
          have ed : d' = s.drawn := hm.drawn
          have eo : os' = s.os := hm.os
          subst eg; subst ed; subst eo
          show wpAny _ _ _ _ _ _
          refine wpAny_pure ?_
          show wpAny _ _ (ret Value.none) _ _ _
          rw [hsz] at g
          exact wpAny_pure ⟨rfl, h', tk', L, es, ep, t, rfl, hF, g, hk'⟩
      · cases r₂ with
        | error e => exact hr₂
        | ok fl₂ =>
          cases fl₂ with
          | ret r =>
            obtain ⟨rfl, h', tk, L, es, ep, t, rfl, hF, g, hk'⟩ := hr₂
            repeat (any_goals (first | assumption | wp_step))
            exact h _ _ _ _ _ _ hF g hk'
          | _ => exact hr₂.elim
    | _ => exact hr.elim
end
end Qk
set_option maxRecDepth 100000
set_option maxHeartbeats 4000000
namespace Qk
open PySem PySem.Spec PyProof.Rows L2
/-! ### over the layer: set(xs) of questions, sorted(..) of it -/
def keyS (x : Str) : NestedKey := .text x
def nkQ (q : Qd) : NestedKey := .tup [.tup (q.1.map keyS), .text q.2]
theorem map_keyS_inj : ∀ {xs ys : List Str}, xs.map keyS = ys.map keyS → xs = ys
  | [], [], _ => rfl
  | [], _ :: _, h => nomatch h
  | _ :: _, [], h => nomatch h
  | x :: xs, y :: ys, h => by
    injection h with h1 h2
    injection h1 with h1
    rw [h1, map_keyS_inj h2]
theorem keyQ_inj {p q : Qd} (h : nkQ p = nkQ q) : p = q := by
  unfold nkQ at h
  injection h with h
  injection h with h1 h2
  injection h1 with h1
  injection h2 with h2
  injection h2 with h2
  exact Prod.ext (map_keyS_inj h1) h2
theorem depth_keyS : ∀ xs : List Str, NestedKey.depthAll (xs.map keyS) = 0
  | [] => rfl
  | _ :: xs => by
    rw [List.map_cons, NestedKey.depthAll, depth_keyS xs]
    rfl
theorem depth_keyQ (q : Qd) : (nkQ q).depth ≤ 8 := by
  unfold nkQ
  simp only [NestedKey.depth, NestedKey.depthAll, depth_keyS]
  decide
theorem all_keyS {h : Heap} : ∀ {us : List Value} {xs : List Str}, PyProof.Rows.StrsAre us xs → NestedAll h (xs.map keyS) us
  | _, _, .nil => .nil
  | _, _, .cons x t r => .cons (.text x t) (all_keyS r)
theorem IsQ.key {h : Heap} {a : Addr} {q : Qd} (x : IsQ h (.ref a) q) : KAt h (nkQ q) a := by
  obtain ⟨a', c, o, oc, t, us, n, m, e, ho, hc, hd, hoc, hcc, hdc, hs⟩ := x
  cases e
  exact ⟨.tup ho hc hd (.cons (.tup hoc hcc hdc (by simpa using all_keyS hs)) (.cons (.text _ _) .nil)), depth_keyQ q⟩
/-- the pairs of a question and where it stands -/
abbrev QPs := List (Qd × Addr)
def toK (L : QPs) : List Kp2 := L.map fun p => (nkQ p.1, p.2)
def KSet0 (w : World) (h : Heap) (a : Addr) (L : QPs) : Prop := ∃ es ep t, KSet w h a (toK L) es ep t
/-- the set of questions at a -/
def SetQ (w : World) (a : Addr) (L : QPs) : HO := .ext fun h => KSet0 w h a L
theorem setQ_new {P : Program} {w : World} {H : Hp} {h : Heap} {a : Addr} {L : QPs} (R : KSet0 w h a L) : ObjOk P w H h a (SetQ w a L) := by
  have ⟨es, ep, t, g⟩ := R
  have ⟨o, ho, _⟩ := g.ob
  exact ⟨R, ⟨o, ho⟩, fun h1 h2 p k => by
    have ⟨es', ep', t', g'⟩ : KSet0 w h1 a L := p
    exact ⟨es', ep', t', g'.keep fun u e => k u e⟩⟩
theorem fst_toK (L : QPs) : (toK L).map Prod.fst = L.map fun p => nkQ p.1 := by
  unfold toK
  rw [List.map_map]
  rfl
theorem mem_keys {L : QPs} {q : Qd} : nkQ q ∈ (toK L).map Prod.fst ↔ q ∈ L.map Prod.fst := by
  rw [fst_toK, List.mem_map, List.mem_map]
  exact ⟨fun ⟨p, hp, e⟩ => ⟨p, hp, keyQ_inj e⟩, fun ⟨p, hp, e⟩ => ⟨p, hp, by rw [e]⟩⟩
theorem nodup_keys {L : QPs} (h : ((toK L).map Prod.fst).Nodup) : (L.map Prod.fst).Nodup := by
  rw [fst_toK] at h
  have e : (L.map fun p => nkQ p.1) = (L.map Prod.fst).map nkQ := by rw [List.map_map]; rfl
  rw [e] at h
  exact List.Pairwise.of_map nkQ (fun a b hne e => hne (congrArg nkQ e)) h
theorem refs_q : ∀ {L : QPs} {us : List Value}, Vals (L.map fun p => V.ref p.2) us → us = (toK L).map fun p => Value.ref p.2
  | [], _, .nil => rfl
  | p :: L, _, .cons r t => by
    cases r
    show _ = Value.ref p.2 :: _
    rw [refs_q t]
    rfl
section
variable {X : Cx}
theorem Inv.isQ {pins : List (Addr × Obj)} {σ : L2.St} {H : Hp} {s : Shared} {a : Addr} {q : Qd} (I : Inv X pins σ H s) (h : QAt H a q.1 q.2) : IsQ s.heap (.ref a) q := by
  obtain ⟨c, g1, g2⟩ := h
  obtain ⟨_, i1, r1, o, ho, hc, n, hd⟩ := I.hok _ _ g1
  obtain ⟨_, i2, r2, oc, hoc, hcc, m, hdc⟩ := I.hok _ _ g2
  obtain ⟨u1, u2, rfl, ra, rb⟩ := vals2 r1
  obtain rfl : u1 = Value.ref c := ra
  obtain ⟨tk, rfl⟩ := rb
  exact ⟨a, c, o, oc, tk, i2, n, m, rfl, ho, hc, hd, hoc, hcc, hdc, r2.strs⟩
theorem QL.pairs {H : Hp} : ∀ {xs : List V} {qs : List Qd}, QL H xs qs → ∃ L : QPs, xs = L.map (fun p => V.ref p.2) ∧ qs = L.map Prod.fst ∧ ∀ p ∈ L, QAt H p.2 p.1.1 p.1.2
  | _, _, .nil => ⟨[], rfl, rfl, fun p hp => nomatch hp⟩
  | _, _, .cons (b := q) ⟨t, e, z⟩ r => by
    obtain ⟨L, rfl, rfl, h⟩ := QL.pairs r
    refine ⟨(q, t) :: L, by rw [e]; rfl, rfl, fun p hp => ?_⟩
    rcases List.mem_cons.mp hp with rfl | hp
    · exact z
    · exact h p hp
/-- the members of set(xs): questions of xs, each of them once -/
structure SetOfQ (H : Hp) (xs : List V) (qs : List Qd) (M : QPs) : Prop where
  at_ : ∀ p ∈ M, QAt H p.2 p.1.1 p.1.2
  sub : ∀ p ∈ M, V.ref p.2 ∈ xs
  mem : ∀ q, q ∈ M.map Prod.fst ↔ q ∈ qs
  nd : (M.map Prod.fst).Nodup
def rSetQ (K : PySem.W.Frag) (w : World) : List V → Hp → VK → Prop := fun vs H Q => ∃ (l : Addr) (xs : List V) (qs : List Qd), vs = [.ref l] ∧ (SqL K H l xs ∨ SqT K H l xs) ∧ QL H xs qs ∧ xs.length < 300 ∧
  ∀ (p : Addr) (M : QPs), H p = none → SetOfQ H xs qs M → Q (.ref p) (upd H p (SetQ w p M))
theorem cr_setQ (hc : X.calm = true) (hu : X.A.units + 16 < cLine) : CallR X (.type "set") (rSetQ X.K X.w) := by
  intro pins s σ H vs us Q I r h
  obtain ⟨l, xs, qs, rfl, hs, hq, hz, q⟩ := h
  obtain ⟨u, rfl, rx⟩ := vals1 r
  cases rx
  obtain ⟨L, rfl, rfl, at_⟩ := hq.pairs
  have keys : KeysAt s.heap (toK L) := fun p hp => by
    obtain ⟨x, hx, rfl⟩ := List.mem_map.mp hp
    exact (Inv.isQ I (at_ x hx)).key
  have hn : H s.heap.objs.size = none := I.hok.fresh (Nat.le_refl _)
  have len : (toK L).length < 300 := by
    unfold toK
    rw [List.length_map] at hz ⊢
    exact hz
  have fin : ∀ (h' : Heap) (tk : Nat) M es ep t, KSet X.w h' s.heap.objs.size M es ep t → Has (toK L) (toK L).length M → (∀ b o, s.heap.get? b = some o → h'.get? b = some o) →
      EP X pins σ Q (.ref s.heap.objs.size) { s with heap := h', toks := tk } := fun h' tk M es ep t g gh hk => by
    have back : ∀ M : List Kp2, (∀ p ∈ M, p ∈ toK L) → ∃ M' : QPs, (∀ p ∈ M', p ∈ L) ∧ M = toK M' := by
      intro M
      induction M with
      | nil => exact fun _ => ⟨[], (fun p hp => nomatch hp), rfl⟩
      | cons x M ih =>
        intro hM
        obtain ⟨M', m1, m2⟩ := ih fun p hp => hM p (List.mem_cons_of_mem _ hp)
        obtain ⟨y, hy, e⟩ := List.mem_map.mp (hM x List.mem_cons_self)
        refine ⟨y :: M', fun p hp => ?_, ?_⟩
        · rcases List.mem_cons.mp hp with z | z
          · rw [z]; exact hy
          · exact m1 p z
        · rw [m2, ← e]; rfl
    obtain ⟨M', m1, rfl⟩ := back M fun p hp => List.mem_of_mem_take (gh.sub p hp)
    refine ⟨.ref s.heap.objs.size, _, I.laid (t' := tk) hk (Nat.le_refl _) (setQ_new ⟨es, ep, t, g⟩), rfl, q _ M' hn ⟨fun p hp => at_ p (m1 p hp), fun p hp => List.mem_map.mpr ⟨p, m1 p hp, rfl⟩, fun z => ⟨fun hz => ?_, fun hz => ?_⟩, nodup_keys g.nd⟩⟩
    · obtain ⟨p, hp, e⟩ := List.mem_map.mp hz
      exact List.mem_map.mpr ⟨p, m1 p hp, e⟩
    · obtain ⟨p, hp, rfl⟩ := List.mem_map.mp hz
      refine mem_keys.mp (gh.all (nkQ p.1, p.2) ?_)
      rw [List.take_length]
      exact List.mem_map.mpr ⟨p, hp, rfl⟩
  rcases hs with hs | hs
  · obtain ⟨its, rv, pl, _⟩ := I.list hs
    exact setK_list (toK L) (I.ok.hd hc) pl.isList (by simpa using refs_q rv) keys len hu fin
  · obtain ⟨its, rv, pl, _⟩ := I.tuple hs
    exact setK_tuple (toK L) (I.ok.hd hc) pl (by simpa using refs_q rv) keys len hu fin
/-! ### sorted of such a set -/
/-- the question of a value that is a member -/
def kOf (M : QPs) : Value → Qd
  | .ref a => ((M.find? fun p => decide (p.2 = a)).map Prod.fst).getD ([], "")
  | _ => ([], "")
theorem kOf_at {M : QPs} {p : Qd × Addr} (hp : p ∈ M) : ∃ q ∈ M, q.2 = p.2 ∧ kOf M (.ref p.2) = q.1 := by
  cases hf : M.find? fun q => decide (q.2 = p.2) with
  | none => exact absurd (decide_eq_true rfl) (List.find?_eq_none.mp hf p hp)
  | some q =>
    refine ⟨q, List.mem_of_find?_eq_some hf, (by have := List.find?_some hf; simpa using this), ?_⟩
    show ((M.find? fun q => decide (q.2 = p.2)).map Prod.fst).getD _ = _
    rw [hf]
    rfl
def rSortSetQ (w : World) : List V → Hp → VK → Prop := fun vs H Q => ∃ (a : Addr) (M : QPs), vs = [.ref a] ∧ H a = some (SetQ w a M) ∧ (∀ p ∈ M, QAt H p.2 p.1.1 p.1.2) ∧ (∀ p ∈ M, ∀ c ∈ p.1.1, PyData.strOk c = true) ∧
  ∀ (ys : List V) (zs : List Qd) (p : Addr), H p = none → QL H ys zs → zs.Perm (M.map Prod.fst) → rising zs → (∀ y ∈ ys, ∃ q ∈ M, y = V.ref q.2) → Q (.ref p) (upd H p (.lst ys))
theorem cr_sortSetQ (hc : X.calm = true) (hu : X.A.units + 80 < cLine) : CallR X (.builtin "sorted") (rSortSetQ X.w) := by
  intro pins s σ H vs us Q I r h
  obtain ⟨a, M, rfl, ha, hm, ho, q⟩ := h
  obtain ⟨u, rfl, rx⟩ := vals1 r
  cases rx
  have ⟨es, ep, t, g⟩ : KSet0 X.w s.heap a M := (I.hok a _ ha).1
  obtain ⟨ob, gob, gex, gd⟩ := g.ob
  have hzs : es.size = M.length := by rw [sz_rows g.rows]; exact List.length_map _
  have hfew : M.length < 300 := by
    have := g.few
    unfold toK at this
    rw [List.length_map] at this
    exact this
  have hes : es.toList.map (·.2) = M.map fun p => Value.ref p.2 := by
    rw [g.rows, toK, List.map_map, List.map_map]
    rfl
  have isq : ∀ v, v ∈ (M.map fun p => Value.ref p.2) → IsQ s.heap v (kOf M v) ∧ (∀ c ∈ (kOf M v).1, PyData.strOk c = true) := fun v hv => by
    obtain ⟨p, hp, rfl⟩ := List.mem_map.mp hv
    obtain ⟨p', h1, h2, h3⟩ := kOf_at hp
    rw [h3, ← h2]
    exact ⟨Inv.isQ I (hm p' h1), ho p' h1⟩
  refine Calls.call_function_entry PyProof.Rows.kind_sorted PyProof.Rows.plain_sorted PyProof.Rows.entry_sorted (args_sorted1 _) ?_
  unfold Builtin.«sorted»
  refine wpAny_bind (m := checkCount "sorted" 1 1 _) (wpAny_pure ?_)
  refine wpAny_bind (collect_set (A := X.A.in1) (I.ok.hd hc) ⟨ob, gob, gex.1, gd⟩ g.fits (by unfold scanBound; omega) g.tab.up g.led fun s1 vs k1 hz g1 o1 pm => ?_)
  rw [hes] at pm
  have hvl : vs.length = M.length := by rw [pm.length_eq, List.length_map]
  refine wpAny_bind (wpAny_newList ?_ (by rw [sizeLine_eq]; omega))
  have hoL : (s1.heap.push (seqObj "list" vs.toArray 0)).get? s1.heap.objs.size = some (seqObj "list" vs.toArray 0) := Heap.get?_push_size _ rfl
  refine wpAny_bind (wpAny_holding (wpAny_call_entry PyProof.Rows.slot_list_sort ⟨_, hoL, rfl⟩ PyProof.Rows.entry_list_sort
    (SrtO.list_sort_ord (s := { s1 with heap := s1.heap.push (seqObj "list" vs.toArray 0) }) (swo_q (kOf M)) hoL (by rw [sizeLine_eq]; omega) (fun h2 => ?_) fun out h1 h2 => ⟨_, rfl, ?_⟩) (args_list_sort _)))
  · refine q_sortable (by show X.A.units + 1 + 1 + 64 < cLine; omega) (by omega) (fun v hv => (isq v (pm.mem_iff.mp hv)).2) (fun v hv => (isq v (pm.mem_iff.mp hv)).1.keeps fun b o e _ => Heap.get?_push_of_some _ (k1 b o e)) fun o e => ?_
    have e' : some o = some (seqObj "list" vs.toArray 0) := e.symm.trans hoL
    cases e'
    intro c
    exact absurd (Value.type.inj c) (by decide)
  · have pmO : out.Perm (M.map fun p => Value.ref p.2) := h2.perm.trans pm
    have h3 : ∀ u ∈ out, ∃ a, u = Value.ref a := fun u hu' => by
      obtain ⟨p, _, e⟩ := List.mem_map.mp (pmO.mem_iff.mp hu')
      exact ⟨p.2, e.symm⟩
    obtain ⟨n, hnO⟩ := sortedHeap_at (vs := vs) (out := out.toArray) hoL
    have old : ∀ b o, s.heap.get? b = some o → (sortedHeap (s1.heap.push (seqObj "list" vs.toArray 0)) s1.heap.objs.size vs out.toArray).get? b = some o := fun b o e => by
      have e1 := k1 b o e
      have lt := Heap.lt_size e1
      rw [sortedHeap_old (Nat.ne_of_lt lt) (by rw [size_push']; exact Nat.lt_succ_of_lt lt)]
      exact Heap.get?_push_of_some _ e1
    have hn : H s1.heap.objs.size = none := I.hok.fresh hz
    have lo : (out.map backV).length ≤ sizeLine := by rw [List.length_map, pmO.length_eq, List.length_map, sizeLine_eq]; omega
    have J : Inv X pins σ (upd H s1.heap.objs.size (.lst (out.map backV))) { s with heap := sortedHeap (s1.heap.push (seqObj "list" vs.toArray 0)) s1.heap.objs.size vs out.toArray, gens := s1.gens, drawn := s1.drawn, toks := s1.toks } :=
      I.call (ch := []) (Un.laid old hz hn) (I.hok.laid old hz ⟨lo, out, n, vals_back h3, hnO⟩) (by rw [g1]; exact I.bare) (fun _ z => nomatch z)
    have qat : ∀ v ∈ out, ∃ t, backV v = V.ref t ∧ QAt H t (kOf M v).1 (kOf M v).2 := fun v hv => by
      obtain ⟨p, hp, rfl⟩ := List.mem_map.mp (pmO.mem_iff.mp hv)
      obtain ⟨p', h1, h2, h3⟩ := kOf_at hp
      refine ⟨p.2, rfl, ?_⟩
      rw [h3, ← h2]
      exact hm p' h1
    have ql : ∀ {l : List Value}, (∀ v ∈ l, ∃ t, backV v = V.ref t ∧ QAt H t (kOf M v).1 (kOf M v).2) → QL H (l.map backV) (l.map (kOf M)) := by
      intro l
      induction l with
      | nil => exact fun _ => .nil
      | cons v l ih => exact fun hl => .cons (hl v List.mem_cons_self) (ih fun u hu' => hl u (List.mem_cons_of_mem _ hu'))
    have kk : (M.map fun p => Value.ref p.2).map (kOf M) = M.map Prod.fst := by
      rw [List.map_map]
      refine List.map_congr_left fun p hp => ?_
      obtain ⟨p', h1, h2, h3⟩ := kOf_at hp
      show kOf M (.ref p.2) = p.1
      rw [h3]
      have a1 := hm p' h1
      rw [h2] at a1
      exact QAt.uniq a1 (hm p hp)
    have hQ := q (out.map backV) (out.map (kOf M)) s1.heap.objs.size hn (ql qat) (by rw [← kk]; exact pmO.map (kOf M)) (List.pairwise_map.mpr h1) fun y hy => by
      obtain ⟨v, hv, rfl⟩ := List.mem_map.mp hy
      obtain ⟨p, hp, rfl⟩ := List.mem_map.mp (pmO.mem_iff.mp hv)
      exact ⟨p, hp, rfl⟩
    have eS : { s1 with heap := sortedHeap (s1.heap.push (seqObj "list" vs.toArray 0)) s1.heap.objs.size vs out.toArray } = { s with heap := sortedHeap (s1.heap.push (seqObj "list" vs.toArray 0)) s1.heap.objs.size vs out.toArray, gens := s1.gens, drawn := s1.drawn, toks := s1.toks } := by
      cases s1
      cases s
      cases o1
      rfl
    show wpAny _ _ _ _ _ _
    exact wpAny_pure ⟨_, rfl, by rw [eS]; exact ⟨.ref s1.heap.objs.size, _, J, rfl, hQ⟩⟩
end
end Qk
set_option maxRecDepth 100000
set_option maxHeartbeats 4000000
namespace Qk
open PySem PySem.Spec PyProof.Rows L2
/-! ### one question < another one -/
/-! ### enumerate of a list -/
/-! ### the questions of a list, each once, ascending -/
structure Dist (qs zs : List Qd) : Prop where
  nd : zs.Nodup
  up : rising zs
  mem : ∀ q, q ∈ zs ↔ q ∈ qs
theorem Dist.uniq {qs rs zs ys : List Qd} (h1 : Dist qs zs) (h2 : Dist rs ys) (h : ∀ q, q ∈ qs ↔ q ∈ rs) : zs = ys :=
  perm_ltQ ((List.perm_ext_iff_of_nodup h1.nd h2.nd).mpr fun q => ((h1.mem q).trans (h q)).trans (h2.mem q).symm) h1.up h2.up
/-- what is behind place i -/
theorem cut_behind (i : Nat) (xs : List V) : cutV xs (some ((i : Int) + 1)) none = xs.drop (i + 1) := by
  have e1 : ((i : Int) + 1) = ((i + 1 : Nat) : Int) := by omega
  rw [e1]
  unfold cutV
  rw [HT.sIx_none, HT.sIx_nat]
  by_cases h : i + 1 ≤ xs.length
  · rw [Nat.min_eq_left h]
    exact List.take_of_length_le (by rw [List.length_drop]; omega)
  · rw [Nat.min_eq_right (by omega), List.drop_of_length_le (Nat.le_refl _), List.drop_of_length_le (by omega)]
    simp
end Qk
set_option maxRecDepth 100000
set_option maxHeartbeats 4000000
namespace Qk
open PySem PySem.Spec PyProof.Rows L2
/-! ### what a question forces -/
def whole (cols : List Str) (e : Str) : List Str := if e = "" then cols else srt (cols ++ [e])
def fW (q : Qd) : Qd := (whole q.1 q.2, "")
def fP (q : Qd) : Qd := (q.1, "")
def fR (q : Qd) : Qd := ([], q.1.getD 0 "")
def forcedL (q : Qd) : List Qd := [q, fW q] ++ (if q.1 = [] then [] else [fP q]) ++ (if q.1.length = 1 then [fR q] else [])
theorem srt_own {xs : List Str} (h : sortedS xs = true) : srt xs = xs := (srt_eq (List.Perm.refl _) h).symm
theorem perm_of_srt {xs ys : List Str} (h : srt xs = srt ys) : xs.Perm ys := (srt_perm xs).symm.trans (h ▸ srt_perm ys)
theorem srt_congr {xs ys : List Str} (h : xs.Perm ys) : srt xs = srt ys := by
  have s := srt_pw xs
  exact perm_sorted ((srt_perm xs).trans (h.trans (srt_perm ys).symm)) s (srt_pw ys)
theorem srt_nil : srt [] = [] := List.eq_nil_of_length_eq_zero (by rw [srt_len]; rfl)
theorem getD_ne {ix : List Str} (R : ∀ c ∈ ix, c ∈ menu) {j : Nat} (hj : j < ix.length) : ix.getD j "" ≠ "" := by
  rw [List.getD_eq_getElem?_getD, List.getElem?_eq_getElem hj]
  exact menu_ne _ (R _ (List.getElem_mem hj))
theorem take_snoc {ix : List Str} {j : Nat} (hj : j < ix.length) : ix.take (j + 1) = ix.take j ++ [ix.getD j ""] := by
  rw [List.take_add_one, List.getD_eq_getElem?_getD, List.getElem?_eq_getElem hj]
  rfl
/-- each row that serves q serves what q forces -/
theorem forced_all {ix : List Str} (R : ∀ c ∈ ix, c ∈ menu) {q z : Qd} (hq : q ∈ allQ ix ix.length) (hz : z ∈ forcedL q) : z ∈ allQ ix ix.length := by
  obtain ⟨j, hj, h⟩ := mem_allQ.mp hq
  unfold forcedL at hz
  rcases List.mem_append.mp hz with hz | hz
  · rcases List.mem_append.mp hz with hz | hz
    · simp only [List.mem_cons, List.not_mem_nil, or_false] at hz
      rcases hz with rfl | rfl
      · exact hq
      · refine mem_allQ.mpr ⟨j, hj, .inr ?_⟩
        rcases h with rfl | rfl
        · unfold fW whole
          rw [if_neg (getD_ne R hj), take_snoc hj]
          exact congrArg (fun x => ((x, "") : Qd)) (srt_congr ((srt_perm _).append_right _))
        · unfold fW whole
          rw [if_pos rfl]
    · split at hz
      · cases hz
      · rename_i hne
        rw [List.mem_singleton.mp hz]
        rcases h with rfl | rfl
        · have hj0 : 0 < j := by
            rcases Nat.eq_zero_or_pos j with e | e
            · subst e
              exact absurd srt_nil hne
            · exact e
          exact mem_allQ.mpr ⟨j - 1, by omega, .inr (by rw [show j - 1 + 1 = j by omega]; rfl)⟩
        · exact mem_allQ.mpr ⟨j, hj, .inr rfl⟩
  · split at hz
    · rename_i h1
      rw [List.mem_singleton.mp hz]
      have h0 : 0 < ix.length := by omega
      have e0 : fR q = ((srt (ix.take 0), ix.getD 0 "") : Qd) := by
        refine Prod.ext (by rw [List.take_zero]; exact srt_nil.symm) ?_
        show q.1.getD 0 "" = ix.getD 0 ""
        have e1 : q.1 = srt (ix.take 1) := by
          rcases h with rfl | rfl
          · have : j = 1 := by
              have h2 : (srt (ix.take j)).length = 1 := h1
              rw [srt_len, List.length_take] at h2
              omega
            rw [this]
          · have : j + 1 = 1 := by
              have h2 : (srt (ix.take (j + 1))).length = 1 := h1
              rw [srt_len, List.length_take] at h2
              omega
            rw [this]
        have e2 : ix.take 1 = [ix.getD 0 ""] := by
          have := take_snoc (ix := ix) (j := 0) h0
          rw [List.take_zero] at this
          exact this
        rw [e1, e2]
        have e3 : srt [ix.getD 0 ""] = [ix.getD 0 ""] := by
          have p := srt_perm [ix.getD 0 ""]
          exact List.perm_singleton.mp p
        rw [e3]
        rfl
      rw [e0]
      exact mem_allQ.mpr ⟨0, h0, .inl rfl⟩
    · cases hz
/-- a proper part at the beginning isn't one at the end -/
theorem no_turn {cols : List Str} (nd : cols.Nodup) {j : Nat} (h1 : 1 ≤ j) (h2 : j < cols.length) (h : (cols.take j).Perm (cols.reverse.take j)) : False := by
  have h0 : 0 < cols.length := by omega
  have m1 : cols[0] ∈ cols.take j := List.mem_iff_getElem.mpr ⟨0, by rw [List.length_take]; omega, by rw [List.getElem_take]⟩
  have m2 := h.mem_iff.mp m1
  rw [List.take_reverse] at m2
  have m3 := List.mem_reverse.mp m2
  obtain ⟨i, hi, e⟩ := List.mem_iff_getElem.mp m3
  rw [List.getElem_drop] at e
  have := (List.getElem_inj nd).mp e
  omega
def rowA (q : Qd) : List Str := q.1 ++ (if q.2 = "" then [] else [q.2])
def rowB (q : Qd) : List Str := q.1.reverse ++ (if q.2 = "" then [] else [q.2])
theorem rowA_len (q : Qd) : (rowA q).length = q.1.length + (if q.2 = "" then 0 else 1) := by
  unfold rowA
  rw [List.length_append]
  split <;> rfl
theorem rowB_len (q : Qd) : (rowB q).length = q.1.length + (if q.2 = "" then 0 else 1) := by
  unfold rowB
  rw [List.length_append, List.length_reverse]
  split <;> rfl
theorem take_A {q : Qd} {j : Nat} (h : j ≤ q.1.length) : (rowA q).take j = q.1.take j := by
  unfold rowA
  rw [List.take_append_of_le_length h]
theorem take_B {q : Qd} {j : Nat} (h : j ≤ q.1.length) : (rowB q).take j = q.1.reverse.take j := by
  unfold rowB
  rw [List.take_append_of_le_length (by rw [List.length_reverse]; exact h)]
theorem getD_A {q : Qd} {j : Nat} (h : j < q.1.length) : (rowA q).getD j "" = q.1.getD j "" := by
  unfold rowA
  rw [List.getD_eq_getElem?_getD, List.getD_eq_getElem?_getD, List.getElem?_append_left h]
theorem getD_B {q : Qd} {j : Nat} (h : j < q.1.length) : (rowB q).getD j "" = q.1.reverse.getD j "" := by
  unfold rowB
  rw [List.getD_eq_getElem?_getD, List.getD_eq_getElem?_getD, List.getElem?_append_left (by rw [List.length_reverse]; exact h)]
theorem end_row {xs t : List Str} {e : Str} (h : t = if e = "" then [] else [e]) (he : e ≠ "") : (xs ++ t).getD xs.length "" = e := by
  subst h
  rw [if_neg he, List.getD_eq_getElem?_getD, List.getElem?_append_right (Nat.le_refl _), Nat.sub_self]
  rfl
structure Qn (q : Qd) : Prop where
  nd : q.1.Nodup
  srt : sortedS q.1 = true
  sub : ∀ c ∈ q.1, c ∈ menu
  esub : q.2 = "" ∨ q.2 ∈ menu
  some : q.2 = "" → q.1 ≠ []
theorem only_forced {q z : Qd} (Z : Qn q) (mA : ∀ c ∈ rowA q, c ∈ menu) (mB : ∀ c ∈ rowB q, c ∈ menu) (h1 : z ∈ allQ (rowA q) (rowA q).length) (h2 : z ∈ allQ (rowB q) (rowB q).length) : z ∈ forcedL q := by
  obtain ⟨i, hi, hA⟩ := mem_allQ.mp h1
  obtain ⟨j, hj, hB⟩ := mem_allQ.mp h2
  have lenA := rowA_len q
  have lenB := rowB_len q
  have nA := getD_ne mA hi
  have nB := getD_ne mB hj
  have tl : q.1.reverse.take q.1.length = q.1.reverse := List.take_of_length_le (by rw [List.length_reverse]; exact Nat.le_refl _)
  unfold forcedL
  rcases hA with rfl | rfl
  · rcases hB with hB | hB
    · -- ranged
      have e1 : srt ((rowA q).take i) = srt ((rowB q).take j) := congrArg Prod.fst hB
      have e2 : (rowA q).getD i "" = (rowB q).getD j "" := congrArg Prod.snd hB
      have hij : i = j := by
        have := congrArg List.length e1
        rw [srt_len, srt_len, List.length_take, List.length_take] at this
        omega
      subst hij
      rcases Nat.lt_or_ge i q.1.length with hl | hl
      · rw [take_A (Nat.le_of_lt hl), take_B (Nat.le_of_lt hl)] at e1
        rcases Nat.eq_zero_or_pos i with h0 | h0
        · subst h0
          rw [getD_A hl, getD_B hl] at e2
          have hn : q.1.length = 1 := by
            rw [List.getD_eq_getElem?_getD, List.getD_eq_getElem?_getD, List.getElem?_eq_getElem hl, List.getElem?_eq_getElem (by rw [List.length_reverse]; exact hl), List.getElem_reverse] at e2
            have e3 : q.1[0] = q.1[q.1.length - 1 - 0] := e2
            have := (List.getElem_inj Z.nd).mp e3
            omega
          refine List.mem_append_right _ ?_
          rw [if_pos hn, take_A (Nat.zero_le _), getD_A hl]
          refine List.mem_singleton.mpr (Prod.ext ?_ rfl)
          show srt (q.1.take 0) = []
          rw [List.take_zero]
          exact srt_nil
        · exact absurd (perm_of_srt e1) fun p => no_turn Z.nd h0 hl p
      · have he : q.2 ≠ "" := fun e => by rw [if_pos e] at lenA; omega
        have : i = q.1.length := by rw [if_neg he] at lenA; omega
        subst this
        refine List.mem_append_left _ (List.mem_append_left _ ?_)
        rw [take_A (Nat.le_refl _), List.take_length, srt_own Z.srt]
        have e3 : (rowA q).getD q.1.length "" = q.2 := end_row rfl he
        rw [e3]
        exact List.mem_cons_self
    · exact absurd (congrArg Prod.snd hB) nA
  · rcases hB with hB | hB
    · exact absurd (congrArg Prod.snd hB).symm nB
    · have e1 : srt ((rowA q).take (i + 1)) = srt ((rowB q).take (j + 1)) := congrArg Prod.fst hB
      have hij : i = j := by
        have := congrArg List.length e1
        rw [srt_len, srt_len, List.length_take, List.length_take] at this
        omega
      subst hij
      rcases Nat.lt_trichotomy (i + 1) q.1.length with hl | hl | hl
      · rw [take_A (Nat.le_of_lt hl), take_B (Nat.le_of_lt hl)] at e1
        exact absurd (perm_of_srt e1) fun p => no_turn Z.nd (by omega) hl p
      · refine List.mem_append_left _ (List.mem_append_right _ ?_)
        rw [if_neg (fun e => by rw [e] at hl; cases hl), hl, take_A (Nat.le_refl _), List.take_length, srt_own Z.srt]
        exact List.mem_singleton.mpr rfl
      · have he : q.2 ≠ "" := fun e => by rw [if_pos e] at lenA; omega
        refine List.mem_append_left _ (List.mem_append_left _ ?_)
        have : (rowA q).take (i + 1) = rowA q := List.take_of_length_le (by rw [if_neg he] at lenA; omega)
        rw [this]
        unfold fW whole rowA
        rw [if_neg he, if_neg he]
        exact List.mem_cons_of_mem _ List.mem_cons_self
end Qk
set_option maxRecDepth 100000
set_option maxHeartbeats 4000000
namespace Qk
open PySem PySem.Spec PyProof.Rows L2
/-! questions as the laws have them: their columns, what is below what -/
/-- all columns of a question, ascending -/
def allC (cols : List Str) (e : Str) : List Str := if e = "" then cols else srt (cols ++ [e])
theorem srt_self {xs : List Str} (h : sortedS xs = true) : srt xs = xs := (srt_eq (List.Perm.refl _) h).symm
theorem mem_all {cols : List Str} {e z : Str} (h : z ∈ allC cols e) : z ∈ cols ∨ (z = e ∧ e ≠ "") := by
  unfold allC at h
  split at h
  · exact .inl h
  · rename_i ne
    have := (srt_perm _).mem_iff.mp h
    rcases List.mem_append.mp this with q | q
    · exact .inl q
    · exact .inr ⟨List.mem_singleton.mp q, ne⟩
/-- a question as k13 has it -/
structure QZ (cols : List Str) (e : Str) : Prop where
  m : QM cols e
  ne : e ∉ cols
  le : cols.length + (if e = "" then 0 else 1) ≤ 12
theorem QZ.all_nd {cols : List Str} {e : Str} (h : QZ cols e) : (allC cols e).Nodup := by
  unfold allC
  split
  · exact h.m.nd
  · refine (srt_perm _).nodup_iff.mpr ?_
    rw [List.nodup_append]
    exact ⟨h.m.nd, by simp, fun a ha b hb => by rw [List.mem_singleton.mp hb]; exact fun q => h.ne (q ▸ ha)⟩
theorem QZ.all_le {cols : List Str} {e : Str} (h : QZ cols e) : (allC cols e).length ≤ 12 := by
  have := h.le
  unfold allC
  split
  · rename_i q
    rw [if_pos q] at this
    omega
  · rename_i q
    rw [if_neg q] at this
    rw [srt_len, List.length_append]
    simpa using this
theorem QZ.menu {cols : List Str} {e : Str} (h : QZ cols e) : ∀ z ∈ allC cols e, z ∈ menu := fun z hz => by
  rcases mem_all hz with q | ⟨rfl, ne⟩
  · exact h.m.sub _ q
  · exact h.m.esub.resolve_left ne
theorem nodup_len : ∀ (l D : List Str), l.Nodup → (∀ x ∈ l, x ∈ D) → l.length ≤ D.length
  | [], _, _, _ => Nat.zero_le _
  | x :: l, D, hn, hs => by
    obtain ⟨h1, h2⟩ := List.nodup_cons.mp hn
    have hx : x ∈ D := hs x List.mem_cons_self
    have ih := nodup_len l (D.erase x) h2 fun y hy => (List.mem_erase_of_ne (by rintro rfl; exact h1 hy)).2 (hs y (List.mem_cons_of_mem _ hy))
    have e := List.length_erase_of_mem hx
    have hp : 0 < D.length := List.length_pos_of_mem hx
    rw [List.length_cons]
    omega
theorem Qok.qz {xs cols : List Str} {e : Str} (h : Qok xs cols e) (R : Row xs) : QZ cols e := by
  refine ⟨h.qm R.sub, h.ne, ?_⟩
  have hsub : ∀ z ∈ (if e = "" then cols else cols ++ [e]), z ∈ xs := fun z hz => by
    split at hz
    · exact h.sub _ hz
    · rename_i ne
      rcases List.mem_append.mp hz with q | q
      · exact h.sub _ q
      · rw [List.mem_singleton.mp q]
        exact h.esub.resolve_left ne
  have hnd : (if e = "" then cols else cols ++ [e]).Nodup := by
    split
    · exact h.nd
    · rw [List.nodup_append]
      exact ⟨h.nd, by simp, fun a ha b hb => by rw [List.mem_singleton.mp hb]; exact fun q => h.ne (q ▸ ha)⟩
  have hle := nodup_len _ _ hnd hsub
  have := R.le
  split
  · rename_i q
    rw [if_pos q] at hle
    omega
  · rename_i q
    rw [if_neg q, List.length_append] at hle
    simp at hle
    omega
/-- the columns of a question as they stand -/
def rowC (cols : List Str) (e : Str) : List Str := if e = "" then cols else cols ++ [e]
theorem mem_row {cols : List Str} {e z : Str} : z ∈ rowC cols e ↔ z ∈ allC cols e := by
  unfold rowC allC
  split
  · exact Iff.rfl
  · exact (srt_perm _).mem_iff.symm
theorem row_len {cols : List Str} {e : Str} : (rowC cols e).length = (allC cols e).length := by
  unfold rowC allC
  split
  · rfl
  · rw [srt_len]
theorem QZ.row_le {cols : List Str} {e : Str} (h : QZ cols e) : (rowC cols e).length ≤ 12 := by
  rw [row_len]
  exact h.all_le
theorem QZ.row_nd {cols : List Str} {e : Str} (h : QZ cols e) : (rowC cols e).Nodup := by
  have := h.all_nd
  unfold rowC
  unfold allC at this
  split
  · rename_i q
    rw [if_pos q] at this
    exact this
  · rename_i q
    rw [if_neg q] at this
    exact (srt_perm _).nodup_iff.mp this
def spRow : Sp := fun vs H Q _ => ∃ (q : Addr) (cols : List Str) (e : Str), vs = [.ref q] ∧ QAt H q cols e ∧ QZ cols e ∧ ∀ (t : Addr) (H' : Hp), Same H H' → H' t = some (.tup ((rowC cols e).map V.str)) → Q (.ref t) H'
def spCols : Sp := fun vs H Q _ => ∃ (q : Addr) (cols : List Str) (e : Str), vs = [.ref q] ∧ QAt H q cols e ∧ QZ cols e ∧ ∀ (t : Addr) (H' : Hp), Same H H' → H' t = some (.tup ((allC cols e).map V.str)) → Q (.ref t) H'
theorem QZ.fine {cols : List Str} {e : Str} (h : QZ cols e) : Qfine (cols, e) := ⟨fun c hc => menu_okS _ (h.m.sub _ hc), h.m.esub.elim (fun q => by show okS e = true; rw [q]; exact okS_empty) (fun m => menu_okS _ m), h.m.le⟩
def QZs (qs : List Qd) : Prop := ∀ q ∈ qs, QZ q.1 q.2
theorem QZ.strOk {cols : List Str} {e : Str} (h : QZ cols e) : ∀ c ∈ cols, PyData.strOk c = true := fun c hc => menu_ok _ (h.m.sub _ hc)
end Qk
set_option maxRecDepth 100000
set_option maxHeartbeats 4000000
namespace Qk
open PySem PySem.Spec PyProof.Rows L2
/-! ### all parts of a row, all questions over it -/
/-- the columns that a part leaves -/
def left (ns p : List Str) : List Str := ns.filter fun c => !decide (c ∈ p)
end Qk
set_option maxRecDepth 100000
set_option maxHeartbeats 4000000
namespace Qk
open PySem PySem.Spec PyProof.Rows L2 ItX
/-! ### walks over an instance whose __iter__ gives the iterator of one of its lists -/
structure OwnIt (K : PySem.W.Frag) (C fi : Addr) : Prop where
  it : PySem.W.findIn K (.ref C) "__iter__" = some (some (.ref fi))
  fn : PySem.W.isFn K (.ref fi) = true
/-- defs whose promise may speak of how many objects there are when they begin -/
structure FnS (P : Program) (w : World) (K : PySem.W.Frag) (mg : Str → Option Value) (base : Heap) (k : Nat) (f : Addr) (fd : FuncData) (ps : List Str) (sp : Nat → Sp) : Prop where
  len : ∀ N vs H Q E, sp N vs H Q E → vs.length = ps.length
  run : ∀ (A : Around) (outer : List Env) (s : Shared) (H : Hp) (args : Args) (us : List Value) (vs : List V) (Q : VK) (E : XK), Room k A → Env0 P w K mg base A outer s H →
    BindsTo s fd args (ps.zip us) → Vals vs us → sp s.heap.objs.size vs H Q E → codeAny (model P w) A (.call (.ref f) args) (CR CX0 outer P w H s Q E) s
section
variable {P : Program} {w : World} {K : PySem.W.Frag} {mg : Str → Option Value} {base : Heap}
theorem okN {x qual : Str} {st : Stmt} {f : Addr} {fd : FuncData} {N ps : List Str} {k : Nat} {sp : Nat → Sp} (F : Fun K x qual st f fd) (S : FnScope N ps (defScope st)) (len : ∀ n vs H Q E, sp n vs H Q E → vs.length = ps.length)
    (body : ∀ (cdv : Value) (A : Around) (outer : List Env) (s : Shared) (H : Hp) (vs : List V) (Q : VK) (E : XK), Room k (A.deeper (envOfC qual (defScope st) s.heap.objs.size f cdv)) → sp s.heap.objs.size vs H Q E →
      ∃ t, PSs (cxOf CX0 P w K mg base N qual (defScope st) f cdv A outer s H E).nox (defBody st) t ∧ t { nx := fun _ H' => Q .non H', rt := Q } (start N vs) H) : FnS P w K mg base (k + 1) f fd ps sp := by
  refine ⟨len, fun A outer s H args us vs Q E hr e0 hb rv hsp => ?_⟩
  obtain ⟨oc, od, kV, doc, pm, an, cdv, ct, osl, rfl, lk, hcd⟩ := F.ex
  have hlen := len _ _ _ _ _ hsp
  have stay : ∀ b o, base.get? b = some o → s.heap.get? b = some o := fun b o e => (e0.bs b o e).1
  have inK : K.In s.heap := e0.mod.kin.keeps stay
  have pars : ∀ y ∈ ps.zip us, (defScope st).names.lookup y.1 = some .local ∨ ((defScope st).names.lookup y.1 = some .cell ∧ ((cellsFrom (s.heap.objs.size + 1) (defScope st).names []).lookup y.1).isSome = true) := by
    rintro ⟨nm, v⟩ hy
    exact (S.par nm (List.of_mem_zip hy).1).imp id fun q => ⟨q, PySem.W.cellsFrom_some _ _ _ (.inl q)⟩
  refine codeAny_call_function hr.depth (inK _ _ lk) rfl S.co S.gen rfl (PySem.W.codeRec_of inK hcd) (hb _ _ _ _ ?_)
  refine wpAny_newFunctionEnv_cells S.kind pars fun env he s1 xe => ?_
  subst he
  refine ⟨(e0.mod.nolimit.keeps stay).keeps xe.toInCall.keep, codeAny_func ?_⟩
  obtain ⟨t, ht, hq⟩ := body cdv A outer s H vs Q E (hr.deeper _) hsp
  refine wpAny_mono (ht.nox.run [] s1 (start N vs) H _ (inv_start S hr.hd e0 hlen rv xe) hq) (fun fl s' hs => ?_) fun _ _ z => z
  cases fl with
  | ret u =>
    obtain ⟨v, σ', H', J, r, q⟩ := hs
    exact ⟨v, H', J.os, J.bare, J.base, J.hok, r, q⟩
  | next =>
    obtain ⟨σ', H', J, q⟩ := hs
    exact ⟨V.non, H', J.os, J.bare, J.base, J.hok, rfl, q⟩
  | brk => exact hs.elim fun _ z => z.elim fun _ z => z.2.elim
  | cont => exact hs.elim fun _ z => z.elim fun _ z => z.2.elim
end
def spIterF (C : Addr) (f : Str) : Nat → Sp := fun N vs H Q _ => ∃ (a dx l : Addr) (fs : List (Str × V)) (xs : List V), vs = [.ref a] ∧ H a = some (.ins C dx fs) ∧ fs.lookup f = some (.ref l) ∧ H l = some (.lst xs) ∧ ∀ it, H it = none → N ≤ it → Q (.ref it) (upd H it (ItO l it 0))
def iOwn (K : PySem.W.Frag) (C : Addr) (f : Str) (te : TE) : TI := fun σ H R => te σ H fun x H1 => ∃ (a dx l : Addr) (fs : List (Str × V)) (xs : List V), x = .ref a ∧ H1 a = some (.ins C dx fs) ∧ fs.lookup f = some (.ref l) ∧ H1 l = some (.lst xs) ∧ R (Itl K l) H1
section
variable {X : Cx} {tg : Expr} {e : Expr} {te : TE}
theorem pi_own {C fi : Addr} {f : Str} {fd : FuncData} {n : Nat} (oc : OwnIt X.K C fi) (FI : FnS X.prog X.w X.K X.mg X.base n fi fd ["self"] (spIterF C f)) (bI : Binds X.K fd ["self"] []) (hr : Room n X.A) (he : PE X e te) : PI X tg e (iOwn X.K C f te) := by
  refine ⟨fun pins s σ H R I h => ?_⟩
  refine thn (he.run pins s σ H _ I h) fun v s1 ⟨x, H1, I1, r1, q1⟩ => ?_
  obtain ⟨a, dx, l, fs, xs, rfl, ha, hl, hx, q⟩ := q1
  cases r1
  obtain ⟨mA, J, _⟩ := ins_get I1.hok ha
  obtain ⟨od, J, _⟩ := J.look
  obtain ⟨m0, hF⟩ := I1.fr
  refine PySem.W.owit_iter hF I1.ok.mod.kin J oc.it oc.fn ?_
  have hsp : spIterF C f s1.heap.objs.size [.ref a] H1 (fun v H' => ∃ it, v = .ref it ∧ H1 it = none ∧ H' = upd H1 it (ItO l it 0) ∧ s1.heap.objs.size ≤ it) (fun _ _ _ => False) := ⟨a, dx, l, fs, xs, rfl, ha, hl, hx, fun it hit hn => ⟨it, rfl, hit, rfl, hn⟩⟩
  have r2 : Vals [V.ref a] [Value.ref a] := .cons rfl .nil
  refine wpAny_call (codeAny_mono (FI.run X.A X.stack s1 H1 ⟨[.ref a], []⟩ [.ref a] [.ref a] _ _ hr I1.env0 (by
    have := bI s1 [.ref a] I1.kIn (by rfl)
    simpa using this) r2 hsp) fun r s' hq' => ?_)
  cases r with
  | error e => exact pass0 pins σ H1 s1 e s' I1 hq'
  | ok fl =>
    cases fl with
    | next => exact False.elim hq'
    | brk => exact False.elim hq'
    | cont => exact False.elim hq'
    | ret u =>
      have hq2 := hq'
      obtain ⟨v0, H0, os0, bare0, un0, hok0, rv0, it0, ev0, hn0, eH0, fresh⟩ := hq2
      subst ev0
      subst eH0
      cases rv0
      have hi : (upd H1 it0 (ItO l it0 0)) it0 = some (ItO l it0 0) := upd_same
      have I' : Inv X pins σ (upd H1 it0 (ItO l it0 0)) s' := by
        obtain ⟨hh, g, d, t, os'⟩ := s'
        obtain rfl : os' = s1.os := os0
        exact I1.call (h' := hh) (g' := g) (d' := d) (t' := t) (ch := []) un0 hok0 bare0 (fun b z => absurd z (by simp))
      have eo := itO_get I' hi
      have st : s'.heap.IsListIter it0 l 0 := ⟨_, eo, rfl, rfl⟩
      unfold PySem.W.OwitIt
      refine wpAny_specialOf (T := "list_iterator") ⟨_, eo, rfl⟩ slot_listiter_next.lookup ?_
      have hi' := hi
      unfold ItO at hi'
      have I2 := inv_drop I' hi'
      have ed : dropH (upd H1 it0 (ItO l it0 0)) it0 = H1 := dropH_upd hn0
      rw [ed] at I2
      refine ⟨it0, [it0], _, _, H1, rfl, I2, turn_list l it0, st, fun b hb => ?_, q⟩
      have e : b = it0 := by simpa using hb
      rw [e]
      have fp := inv_fp I' hi (Nat.le_trans I1.sz fresh)
      rw [ed] at fp
      exact fp
end
end Qk
set_option maxRecDepth 100000
set_option maxHeartbeats 4000000
namespace Qk
open PySem PySem.Spec PyProof.Rows L2 ItX
/-! ### len(o), list(o) of such an instance -/
/-- an instance of C whose list f stands at l and has xs -/
def HasL (H : Hp) (C a : Addr) (f : Str) (l : Addr) (xs : List V) : Prop := ∃ (dx : Addr) (fs : List (Str × V)), H a = some (.ins C dx fs) ∧ fs.lookup f = some (.ref l) ∧ H l = some (.lst xs)
section
variable {X : Cx} {pins : List (Addr × Obj)} {σ : L2.St} {H : Hp} {s : Shared} {A1 : Around} {C a l fi fl : Addr} {f : Str} {fdI fdL : FuncData} {n : Nat} {xs : List V}
theorem HasL.off {q : Addr} {o : HO} (h : HasL H C a f l xs) (hq : H q = none) : HasL (upd H q o) C a f l xs := by
  obtain ⟨dx, fs, ha, hl, hx⟩ := h
  exact ⟨dx, fs, by rw [upd_ne (ne_of_none ha hq)]; exact ha, hl, by rw [upd_ne (ne_of_none hx hq)]; exact hx⟩
end
end Qk
set_option maxRecDepth 100000
set_option maxHeartbeats 4000000
namespace Qk
open PySem PySem.Spec PyProof.Rows L2
/-! comprehensions with two fors, turn by turn -/
/-! lists of rows of names -/
def TL (H : Hp) (vs : List V) (rs : List (List Str)) : Prop := Paired (fun (x : V) (r : List Str) => ∃ t, x = .ref t ∧ H t = some (.tup (r.map V.str))) vs rs
theorem TL.len {H : Hp} {vs : List V} {rs : List (List Str)} (h : TL H vs rs) : vs.length = rs.length := Paired.length h
theorem TL.same {H H' : Hp} {vs : List V} {rs : List (List Str)} (s : Same H H') (h : TL H vs rs) : TL H' vs rs := Paired.mapP h fun x r ⟨t, e, z⟩ => ⟨t, e, s _ _ z⟩
theorem TL.off {H : Hp} {p : Addr} {xs zs : List V} {vs : List V} {rs : List (List Str)} (hp : H p = some (.lst xs)) (h : TL H vs rs) : TL (upd H p (.lst zs)) vs rs := Paired.mapP h fun x r ⟨t, e, z⟩ => ⟨t, e, by
  rw [upd_ne fun g => by rw [g, hp] at z; cases z]
  exact z⟩
theorem TL.at_ {H : Hp} {vs : List V} {rs : List (List Str)} (h : TL H vs rs) {i : Nat} {x : V} (hi : vs[i]? = some x) : ∃ (t : Addr) (r : List Str), x = .ref t ∧ rs[i]? = some r ∧ H t = some (.tup (r.map V.str)) := by
  induction h generalizing i with
  | nil => simp at hi
  | @cons x0 r0 vs' rs' h1 _ ih =>
    cases i with
    | zero =>
      simp only [List.getElem?_cons_zero, Option.some.injEq] at hi
      subst hi
      obtain ⟨t, e, z⟩ := h1
      exact ⟨t, r0, e, rfl, z⟩
    | succ i => exact ih hi
theorem TL.snoc {H : Hp} {vs : List V} {rs : List (List Str)} {t : Addr} {r : List Str} (h : TL H vs rs) (ht : H t = some (.tup (r.map V.str))) : TL H (vs ++ [.ref t]) (rs ++ [r]) := paired_app h (.cons ⟨t, rfl, ht⟩ .nil)
theorem QL.off {H : Hp} {p : Addr} {xs zs : List V} {vs : List V} {qs : List Qd} (hp : H p = some (.lst xs)) (h : QL H vs qs) : QL (upd H p (.lst zs)) vs qs := Paired.mapP h fun x r ⟨t, e, c, z1, z2⟩ => ⟨t, e, c, by
  rw [upd_ne fun g => by rw [g, hp] at z1; cases z1]
  exact z1, by
  rw [upd_ne fun g => by rw [g, hp] at z2; cases z2]
  exact z2⟩
theorem QL.snoc {H : Hp} {vs : List V} {qs : List Qd} {t : Addr} {q : Qd} (h : QL H vs qs) (ht : QAt H t q.1 q.2) : QL H (vs ++ [.ref t]) (qs ++ [q]) := paired_app h (.cons ⟨t, rfl, ht⟩ .nil)
theorem QL.at_ {H : Hp} {xs : List V} {qs : List Qd} (h : QL H xs qs) {i : Nat} {x : V} (hi : xs[i]? = some x) : ∃ (t : Addr) (q : Qd), x = .ref t ∧ qs[i]? = some q ∧ QAt H t q.1 q.2 := by
  induction h generalizing i with
  | nil => simp at hi
  | @cons x0 q0 xs' qs' h1 _ ih =>
    cases i with
    | zero =>
      simp only [List.getElem?_cons_zero, Option.some.injEq] at hi
      subst hi
      obtain ⟨t, e, z⟩ := h1
      exact ⟨t, q0, e, rfl, z⟩
    | succ i => exact ih hi
/-- one more behind the list at p -/
theorem nodup_leQ : ∀ (l D : List Qd), l.Nodup → (∀ x ∈ l, x ∈ D) → l.length ≤ D.length
  | [], _, _, _ => Nat.zero_le _
  | x :: l, D, hn, hs => by
    obtain ⟨h1, h2⟩ := List.nodup_cons.mp hn
    have hx : x ∈ D := hs x List.mem_cons_self
    have ih := nodup_leQ l (D.erase x) h2 fun y hy => (List.mem_erase_of_ne (by rintro rfl; exact h1 hy)).2 (hs y (List.mem_cons_of_mem _ hy))
    have e := List.length_erase_of_mem hx
    have hp : 0 < D.length := List.length_pos_of_mem hx
    rw [List.length_cons]
    omega
end Qk
set_option maxRecDepth 100000
set_option maxHeartbeats 4000000
namespace Qk
open PySem PySem.Spec PyProof.Rows L2
/-! ### {elt for a in A for b in B}, without tests -/
abbrev twoFor (elt t0 i0 t1 i1 : Expr) (scope : Scope) (pos : Pos) : Expr := .SetComp elt [⟨t0, i0, [], 0⟩, ⟨t1, i1, [], 0⟩] scope pos
section
variable {P : Program} {w : World} {A : Around} {R : Result → Shared → Prop} {s : Shared} {elt t0 i0 t1 i1 : Expr} {scope : Scope} {pos : Pos} {it acc : Value} {env : Env}
/-- nothing is raised -/
abbrev wF {α : Type} (P : Program) (w : World) (A : Around) (t : Sem α) (Q : α → Shared → Prop) (s : Shared) : Prop := wpAny (model P w) A t Q (fun _ _ => False) s
theorem wF.any {α : Type} {t : Sem α} {Q Q' : α → Shared → Prop} {E : Value → Shared → Prop} (h : wF P w A t Q s) (k : ∀ a s, Q a s → Q' a s) : wpAny (model P w) A t Q' E s := wpAny_mono h k fun _ _ z => False.elim z
theorem inner_turn : compTurn (twoFor elt t0 i0 t1 i1 scope pos) 1 it acc env = (do
    standAt i1.pos
    match ← pyNext it with
    | none => pure (.done .next)
    | some v =>
      letOwnedTupleGo t1 it v
      assign t1 env v
      (do let x ← eval elt env; standAt elt.pos; let _ ← call (.builtin "set.add") [acc, x])
      again (.compLoop (twoFor elt t0 i0 t1 i1 scope pos) 1 it acc env)) := by rfl
theorem outer_turn : compTurn (twoFor elt t0 i0 t1 i1 scope pos) 0 it acc env = (do
    standAt i0.pos
    match ← pyNext it with
    | none => pure (.done .next)
    | some v =>
      letOwnedTupleGo t0 it v
      assign t0 env v
      let x ← eval i1 env
      standAt i1.pos
      let y ← foldedSetIterable i1 env x
      let _ ← runOwn (.compStart (twoFor elt t0 i0 t1 i1 scope pos) 1 (← holding [y] (pyIter y)) acc env) env
      again (.compLoop (twoFor elt t0 i0 t1 i1 scope pos) 0 it acc env)) := by rfl
/-- the inner loop by a bound on the turns -/
theorem inner_loop (J : Nat → Shared → Prop)
    (one : ∀ n s, J n s → wF P w A (pyNext it) (fun r a => match r with
      | none => R (.ok .next) a
      | some v => wF P w A (letOwnedTupleGo t1 it v) (fun _ b => wF P w A (assign t1 env v) (fun _ c => wF P w A (eval elt env) (fun x d => wF P w A (call (.builtin "set.add") [acc, x]) (fun _ e => ∃ m, m < n ∧ J m e) d) c) b) a) s)
    (n : Nat) (h : J n s) : codeAny (model P w) A (.compLoop (twoFor elt t0 i0 t1 i1 scope pos) 1 it acc env) R s := by
  refine codeAny_loop rfl J (fun k a hk => ?_) n h
  refine wpAny_noted ?_
  show wpAny _ A (compTurn (twoFor elt t0 i0 t1 i1 scope pos) 1 it acc env) _ _ a
  rw [inner_turn]
  refine wpAny_bind (wpAny_standAt (wpAny_bind (wF.any (one k a hk) fun r b hb => ?_)))
  match r, hb with
  | none, hb => exact wpAny_pure hb
  | some v, hb =>
    refine wpAny_bind (wF.any hb fun _ c hc => wpAny_bind (wF.any hc fun _ d hd => ?_))
    exact wpAny_bind (wpAny_bind (wF.any hd fun x e he => wpAny_bind (wpAny_standAt (wpAny_bind (wF.any he fun _ f hf => wpAny_pure (wpAny_pure ⟨rfl, hf⟩))))))
/-- the outer loop by a bound on the turns; in each the inner one from its start -/
theorem outer_loop (hfold : ∀ x, foldedSetIterable i1 env x = pure x) (J : Nat → Shared → Prop)
    (one : ∀ n s, J n s → wF P w A (pyNext it) (fun r a => match r with
      | none => R (.ok .next) a
      | some v => wF P w A (letOwnedTupleGo t0 it v) (fun _ b => wF P w A (assign t0 env v) (fun _ c => wF P w A (eval i1 env) (fun x d => wF P w A (pyIter x) (fun it1 e =>
          codeAny (model P w) A (.compStart (twoFor elt t0 i0 t1 i1 scope pos) 1 it1 acc env) (fun r f => match r with
            | .ok _ => ∃ m, m < n ∧ J m f
            | .error _ => False) e) d) c) b) a) s)
    (n : Nat) (h : J n s) : codeAny (model P w) A (.compLoop (twoFor elt t0 i0 t1 i1 scope pos) 0 it acc env) R s := by
  refine codeAny_loop rfl J (fun k a hk => ?_) n h
  refine wpAny_noted ?_
  show wpAny _ A (compTurn (twoFor elt t0 i0 t1 i1 scope pos) 0 it acc env) _ _ a
  rw [outer_turn]
  refine wpAny_bind (wpAny_standAt (wpAny_bind (wF.any (one k a hk) fun r b hb => ?_)))
  match r, hb with
  | none, hb => exact wpAny_pure hb
  | some v, hb =>
    refine wpAny_bind (wF.any hb fun _ c hc => wpAny_bind (wF.any hc fun _ d hd => wpAny_bind (wF.any hd fun x e he => ?_)))
    refine wpAny_bind (wpAny_standAt (wpAny_bind (wpAny_of_eq (hfold x) ?_)))
    refine wpAny_bind (wpAny_holding (wF.any he fun it1 f hf => ?_))
    refine wpAny_bind (wpAny_runOwn ?_)
    rw [Around.mark_none]
    refine codeAny_mono hf fun r g hg => ?_
    match r, hg with
    | .ok _, hg => first | exact wpAny_pure ⟨rfl, hg⟩ | exact wpAny_bind (wpAny_pure (wpAny_pure ⟨rfl, hg⟩))
    | .error _, hg => exact hg.elim
/-- the inner loop's start: the iterator asked once more, or not -/
theorem inner_start (h0 : codeAny (model P w) A (.compLoop (twoFor elt t0 i0 t1 i1 scope pos) 1 it acc env) R s)
    (h : wpAny (model P w) A (pyIter it) (fun j a => codeAny (model P w) A (.compLoop (twoFor elt t0 i0 t1 i1 scope pos) 1 j acc env) R a) (notedBy (model P w) A env fun x a => R (.error x) a) s) :
    codeAny (model P w) A (.compStart (twoFor elt t0 i0 t1 i1 scope pos) 1 it acc env) R s := by
  refine codeAny_of_tree (wpAny_notedAt ?_)
  unfold compStart
  refine wpAny_bind (wpAny_askSetting (wpAny_ite ?_))
  split
  all_goals first
    | exact wpAny_bind (wpAny_pure (wpAny_pure ⟨rfl, h0⟩))
    | exact wpAny_pure ⟨rfl, h0⟩
    | (refine wpAny_bind (wpAny_rule (wpAny_bind (wpAny_standAt ?_)))
       exact wpAny_bind (wpAny_mono h (fun _ _ q => wpAny_pure ⟨rfl, q⟩) fun _ _ q => q))
end
end Qk
set_option maxRecDepth 100000
set_option maxHeartbeats 4000000
namespace Qk
open PySem PySem.Spec PyProof.Rows L2
/-- a loop over J: Done behind it; each turn from a drawn value has to come to the word that is handed to it -/
def Loop (J : It) (Done : Hp → Prop) (Body : V → Hp → (Hp → Prop) → Prop) (H : Hp) : Prop :=
  ∃ W : Nat → Nat → Hp → Prop, (∃ m, W 0 m H) ∧ ∀ i m G, W i m G → (J.stop i G ∧ Done G) ∨ (J.go i G ∧ ∃ Nx : Hp → Prop, (∀ G', Nx G' → ∃ m', m' < m ∧ W (i + 1) m' G') ∧ ∀ x G', J.yld i G x G' → Body x G' Nx)
theorem Loop.list {K : PySem.W.Frag} {a : Addr} {xs : List V} {Done : Hp → Prop} {Body : V → Hp → (Hp → Prop) → Prop} {H : Hp} (Pv : Nat → Hp → Prop) (h0 : Pv 0 H) (hl : ∀ i G, i ≤ xs.length → Pv i G → SqL K G a xs)
    (one : ∀ i x G, xs[i]? = some x → Pv i G → Body x G (Pv (i + 1))) (end_ : ∀ G, Pv xs.length G → Done G) : Loop (Itl K a) Done Body H := by
  refine ⟨fun i m G => m + i = xs.length ∧ Pv i G, ⟨xs.length, rfl, h0⟩, fun i m G hw => ?_⟩
  obtain ⟨hm, p⟩ := hw
  have q := hl i G (by omega) p
  rcases Nat.lt_or_ge i xs.length with lt | ge
  · have g : xs[i]? = some xs[i] := List.getElem?_eq_getElem lt
    refine .inr ⟨⟨xs, xs[i], q, g⟩, Pv (i + 1), fun G' p' => ⟨m - 1, by omega, by omega, p'⟩, fun x G' y => ?_⟩
    obtain ⟨rfl, y⟩ := y
    exact one i x _ (y xs q) p
  · have e : i = xs.length := by omega
    exact .inl ⟨⟨xs, q, ge⟩, end_ G (e ▸ p)⟩
theorem Loop.tup {K : PySem.W.Frag} {a : Addr} {xs : List V} {Done : Hp → Prop} {Body : V → Hp → (Hp → Prop) → Prop} {H : Hp} (Pv : Nat → Hp → Prop) (h0 : Pv 0 H) (hl : ∀ i G, i ≤ xs.length → Pv i G → SqT K G a xs)
    (one : ∀ i x G, xs[i]? = some x → Pv i G → Body x G (Pv (i + 1))) (end_ : ∀ G, Pv xs.length G → Done G) : Loop (Itt K a) Done Body H := by
  refine ⟨fun i m G => m + i = xs.length ∧ Pv i G, ⟨xs.length, rfl, h0⟩, fun i m G hw => ?_⟩
  obtain ⟨hm, p⟩ := hw
  have q := hl i G (by omega) p
  rcases Nat.lt_or_ge i xs.length with lt | ge
  · have g : xs[i]? = some xs[i] := List.getElem?_eq_getElem lt
    refine .inr ⟨⟨xs, xs[i], q, g⟩, Pv (i + 1), fun G' p' => ⟨m - 1, by omega, by omega, p'⟩, fun x G' y => ?_⟩
    obtain ⟨rfl, y⟩ := y
    exact one i x _ (y xs q) p
  · have e : i = xs.length := by omega
    exact .inl ⟨⟨xs, q, ge⟩, end_ G (e ▸ p)⟩
/-- where a loop stands -/
def Stand (Y : Cx) (p : List (Addr × Obj)) (σ : L2.St) (fp : List Addr) (tn : Nat → Heap → Prop) (W : Nat → Nat → Hp → Prop) (n : Nat) (s : Shared) : Prop :=
  ∃ i G, Inv Y p σ G s ∧ tn i s.heap ∧ (∀ b ∈ fp, G b = none) ∧ W i n G
/-- σ' knows what σ knows -/
def Knows (σ σ' : L2.St) : Prop := σ.length = σ'.length ∧ ∀ (j : Nat) (v : V), σ[j]? = some (some v) → σ'[j]? = some (some v)
theorem ask_next {Y : Cx} {p : List (Addr × Obj)} {σ : L2.St} {tg : Expr} {J : It} {fp : List Addr} {it : Addr} {tn : Nat → Heap → Prop} {W : Nat → Nat → Hp → Prop} {Done : Hp → Prop} {Body : V → Hp → (Hp → Prop) → Prop} {n : Nat} {s : Shared}
    (hc : Y.calm = true) (T : Turn Y.prog Y.w Y.K tg J fp it tn) (ap : ∀ {G : Hp} {s : Shared}, Inv Y p σ G s → (∀ b ∈ fp, G b = none) → ∀ b ∈ fp, FpOk Y p G b)
    (hW : ∀ i m G, W i m G → (J.stop i G ∧ Done G) ∨ (J.go i G ∧ ∃ Nx : Hp → Prop, (∀ G', Nx G' → ∃ m', m' < m ∧ W (i + 1) m' G') ∧ ∀ x G', J.yld i G x G' → Body x G' Nx)) (h : Stand Y p σ fp tn W n s) :
    wF Y.prog Y.w Y.A (pyNext (.ref it)) (fun r a => match r with
      | none => ∃ G, Inv Y p σ G a ∧ Done G ∧ ∀ b ∈ fp, G b = none
      | some v => wF Y.prog Y.w Y.A (letOwnedTupleGo tg (.ref it) v) (fun _ b => ∃ (x : V) (G : Hp) (Nx : Hp → Prop), Inv Y (p ++ pinsAt fp b.heap) σ G b ∧ RelV x v ∧ Body x G Nx ∧
          ∀ (σ' : L2.St) (c : Shared) (G' : Hp), Inv Y (p ++ pinsAt fp b.heap) σ' G' c → Knows σ σ' → Nx G' → ∃ m, m < n ∧ Stand Y p σ fp tn W m c) a) s := by
  obtain ⟨i, G, I, st, nf, w⟩ := h
  rcases hW i n G w with ⟨hs, hd⟩ | ⟨hg, Nx, hN, hB⟩
  · refine thnF (T.done Y rfl rfl rfl hc i p s σ G (fun _ _ => False) I (ap I nf) st hs) fun r a ⟨e, I1⟩ => ?_
    subst e
    exact ⟨G, I1, hd, nf⟩
  · refine thnF (T.item Y rfl rfl rfl hc i p s σ G (fun _ _ => False) I (ap I nf) st hg) fun r a ⟨u, e, h1⟩ => ?_
    subst e
    refine thnF h1 fun _ b ⟨x, G1, I1, r1, y1, st1, n1⟩ => ?_
    refine ⟨x, G1, Nx, I1.pinned (ap I1 n1) (T.obj _ _ st1), r1, hB x G1 y1, fun σ' c G' I' kn nx => ?_⟩
    obtain ⟨m', hm, w'⟩ := hN G' nx
    have still : ∀ d ∈ fp, ∀ o, b.heap.get? d = some o → c.heap.get? d = some o ∧ G' d = none := fun d hd o e => by
      have z := I'.pin (d, o) (List.mem_append_right _ (List.mem_append_right _ (mem_pinsAt hd e)))
      exact ⟨z.1, z.2.1⟩
    refine ⟨m', hm, i + 1, G', I'.unpinned.weak kn.1 kn.2, T.keep _ _ _ st1 fun d hd o e => (still d hd o e).1, fun d hd => ?_, w'⟩
    obtain ⟨o, e, _⟩ := T.obj _ _ st1 d hd
    exact (still d hd o e).2
theorem Knows.wipe {σ : L2.St} (vs : List Nat) : Knows (wipe σ vs) σ := ⟨wipe_length _ _, fun j v e => (wipe_some e).1⟩
end Qk
set_option maxRecDepth 100000
set_option maxHeartbeats 4000000
namespace Qk
open PySem PySem.Spec PyProof.Rows L2
/-- {elt for t0 in i0 for t1 in i1}: SO the new set as it is laid, rA what set.add asks -/
def tSc2 (SO : Addr → HO) (rA : List V → Hp → VK → Prop) (wi : TI) (g : TG) (wi1 : TI) (g1 : TG) (te : TE) (vs vs1 : List Nat) : TE := fun σ H Q => wi σ H fun J H1 => ∀ D, H1 D = none →
  Loop J (Q (.ref D)) (fun x G Nx => g x (wipe σ vs) G fun σ2 G2 => wipe σ2 vs = wipe σ vs ∧ wi1 σ2 G2 fun J1 G3 =>
    Loop J1 Nx (fun y G4 Nx1 => g1 y (wipe σ2 vs1) G4 fun σ3 G5 => wipe σ3 vs1 = wipe σ2 vs1 ∧ te σ3 G5 fun z G6 => rA [.ref D, z] G6 fun _ G7 => Nx1 G7) G3) (upd H1 D (SO D))
section
variable {X : Cx}
theorem pe_sc2 {SO : Addr → HO} {rA : List V → Hp → VK → Prop} {elt t0 i0 t1 i1 : Expr} {scope : Scope} {own : List (Str × Nat)} {vs1 : List Nat} {pos : Pos} {wi wi1 : TI} {g g1 : TG} {te : TE} (hc : X.calm = true) (hN : X.N.Nodup)
    (hnew : ∀ (G : Hp) (h : Heap) (D : Addr), h.get? D = some { cls := .type "set", dict := none, data := .set #[] 0 (.fresh 0 0 (!X.w.params.followText "set-order")) } → ObjOk X.prog X.w G h D (SO D))
    (hi : PI X t0 i0 wi) (ok : BlkOk X.N X.env.scope scope own) (hv : ∀ i ∈ vs1, i ∈ own.map (·.2))
    (hg : ∀ (s : Shared) (H : Hp) (C : Addr) (cl : List (Str × Addr)) (fp : List Addr), PG (X.blk s H scope (compEnvC scope cl C X.env) fp) t0 g)
    (hi1 : ∀ (s : Shared) (H : Hp) (C : Addr) (cl : List (Str × Addr)) (fp : List Addr), PI (X.blk s H scope (compEnvC scope cl C X.env) fp) t1 i1 wi1)
    (hg1 : ∀ (s : Shared) (H : Hp) (C : Addr) (cl : List (Str × Addr)) (fp : List Addr), PG (X.blk s H scope (compEnvC scope cl C X.env) fp) t1 g1)
    (he : ∀ (s : Shared) (H : Hp) (C : Addr) (cl : List (Str × Addr)) (fp : List Addr), PE (X.blk s H scope (compEnvC scope cl C X.env) fp) elt te)
    (ha : ∀ (s : Shared) (H : Hp) (C : Addr) (cl : List (Str × Addr)) (fp : List Addr), CallR (X.blk s H scope (compEnvC scope cl C X.env) fp) (.builtin "set.add") rA)
    (hs : ∀ x, foldedSetIterable i0 X.env x = pure x := by intro _; rfl) (hfold : ∀ env x, foldedSetIterable i1 env x = pure x := by intro _ _; rfl) :
    PE X (.SetComp elt [⟨t0, i0, [], 0⟩, ⟨t1, i1, [], 0⟩] scope pos) (tSc2 SO rA wi g wi1 g1 te (own.map (·.2)) vs1) := by
  refine ⟨fun pins s σ H Q I h => ?_⟩
  rw [PpSet.eval_SetComp]
  have hfree : ∀ y ∈ scope.names, y.2 = .free → ∃ c, X.env.cells.lookup y.1 = some c := fun y hy e => (ok.free y hy e).elim (fun k => I.ok.has _ (.inl k)) fun k => I.ok.has _ (.inr k)
  refine wpAny_comprehension_free (use := none) rfl hs (closure_ok hfree) ok.kind (fun y hy e => by rw [ok.uniq y hy, e])
    (thn (hi.run pins s σ H _ I h) fun xv s1 hx => thn hx fun itv s2 h2 => ?_)
  obtain ⟨it, fp, tn, J, H2, rfl, I2, T, st2, f2, q⟩ := h2
  refine PpSet.newSet_ok (newEnv_comp ?_)
  obtain ⟨D, hD⟩ : ∃ D, D = s2.heap.objs.size := ⟨_, rfl⟩
  obtain ⟨W, ⟨m0, w0⟩, hW⟩ := q D (I2.hok.fresh (Nat.le_of_eq hD.symm))
  obtain ⟨s3, hs3⟩ : ∃ s3 : Shared, s3 = { s2 with heap := s2.heap.push { cls := .type "set", dict := none, data := .set #[] 0 (.fresh 0 0 (!X.w.params.followText "set-order")) } } := ⟨_, rfl⟩
  have p3 : s3.heap = s2.heap.push { cls := .type "set", dict := none, data := .set #[] 0 (.fresh 0 0 (!X.w.params.followText "set-order")) } := by rw [hs3]
  have gD : s3.heap.get? D = some { cls := .type "set", dict := none, data := .set #[] 0 (.fresh 0 0 (!X.w.params.followText "set-order")) } := by rw [p3, hD]; exact Heap.get?_push_size _ rfl
  have I3 : Inv X pins σ (upd H2 D (SO D)) s3 := by
    have z := I2.laid (t' := s2.toks) (a := D) (o := SO D) (h' := s3.heap) (fun b o e => by rw [p3]; exact Heap.get?_push_of_some _ e) (Nat.le_of_eq hD.symm) (hnew _ _ _ gD)
    rw [hs3] at z ⊢
    exact z
  rw [← hD, ← hs3]
  have f3 : ∀ b ∈ fp, FpOk X pins (upd H2 D (SO D)) b ∧ b < s3.heap.objs.size := fun b hb => by
    obtain ⟨o, e, _⟩ := T.obj _ _ st2 b hb
    have lt := Heap.lt_size e
    refine ⟨⟨?_, (f2 b hb).2⟩, by rw [p3, Heap.size_push]; exact Nat.lt_succ_of_lt lt⟩
    rw [upd_ne (fun e => by rw [e, hD] at lt; exact Nat.lt_irrefl _ lt)]
    exact (f2 b hb).1
  have st3 : tn 0 s3.heap := T.keep _ _ _ st2 fun b _ o e => by rw [p3]; exact Heap.get?_push_of_some _ e
  obtain ⟨H3, hH3⟩ : ∃ H3, H3 = upd H2 D (SO D) := ⟨_, rfl⟩
  rw [← hH3] at I3 f3 w0
  have I4 := block_start I3 ok hN f3
  obtain ⟨cl, hcl⟩ : ∃ cl, cl = cellsFrom (s3.heap.objs.size + 1) scope.names (cloFrom X.env.cells scope.names []) := ⟨_, rfl⟩
  rw [← hcl] at I4
  have pg := hg s3 H3 s3.heap.objs.size cl fp
  have pi1 := hi1 s3 H3 s3.heap.objs.size cl fp
  have pg1 := hg1 s3 H3 s3.heap.objs.size cl fp
  have pe := he s3 H3 s3.heap.objs.size cl fp
  have pa := ha s3 H3 s3.heap.objs.size cl fp
  show codeAny _ _ (.compStart (twoFor elt t0 i0 t1 i1 scope pos) 0 (.ref it) (.ref D) (compEnvC scope (cellsFrom (s3.heap.objs.size + 1) scope.names (cloFrom X.env.cells scope.names [])) s3.heap.objs.size X.env)) (compPost (model X.prog X.w) X.A X.xe none _ (.ref D) s3.heap.objs.size) { s3 with heap := pushCells (s3.heap.push { cls := .type "dict", data := .dict #[] }) scope.names }
  rw [← hcl]
  obtain ⟨ce, hce⟩ : ∃ ce, ce = compEnvC scope cl s3.heap.objs.size X.env := ⟨_, rfl⟩
  have cL : ce.locals = s3.heap.objs.size := by rw [hce]; rfl
  rw [← hce] at I4 pg pi1 pg1 pe pa ⊢
  obtain ⟨s4, hs4⟩ : ∃ s4 : Shared, s4 = { s3 with heap := pushCells (s3.heap.push { cls := .type "dict", data := .dict #[] }) scope.names } := ⟨_, rfl⟩
  rw [← hs4] at I4 ⊢
  have st4 : tn 0 s4.heap := T.keep _ _ _ st3 fun b _ o e => by rw [hs4]; exact pushCells_keeps _ _ _ _ (Heap.get?_push_of_some _ e)
  have ap : ∀ {G : Hp} {a : Shared}, Inv (X.blk s3 H3 scope ce fp) [] (wipe σ (own.map (·.2))) G a → (∀ b ∈ fp, G b = none) → ∀ b ∈ fp, FpOk (X.blk s3 H3 scope ce fp) [] G b := fun {G a} I' hn b hb =>
    ⟨hn b hb, (I'.ok.exf b hb).1, I'.ok.exfs b hb, .inl hb, fun x c e => (I'.ok.exf b hb).2 x c e, fun p hp => nomatch (show p ∈ ([] : List (Addr × Obj)) from hp)⟩
  have loop : codeAny (model X.prog X.w) X.A (.compLoop (twoFor elt t0 i0 t1 i1 scope pos) 0 (.ref it) (.ref D) ce) (compPost (model X.prog X.w) X.A X.xe none (EP X pins σ Q) (.ref D) s3.heap.objs.size) s4 := by
    refine outer_loop (hfold ce) (Stand (X.blk s3 H3 scope ce fp) [] (wipe σ (own.map (·.2))) fp tn W) (fun n a hst => ?_) m0 ⟨0, H3, I4, st4, fun b hb => (f3 b hb).1.1, w0⟩
    refine thnF (ask_next (Y := X.blk s3 H3 scope ce fp) hc T ap hW hst) fun r a hr => ?_
    match r, hr with
    | none, ⟨G, I6, hd, n6⟩ =>
      have I7 : Inv X pins σ G a := I3.call' (ch := fp) I6.os I6.base I6.hok I6.bare fun b hb => ⟨(f3 b hb).1.2.2.2.1, (f3 b hb).1.2.1, (f3 b hb).1.2.2.2.2.1, (f3 b hb).1.2.2.2.2.2⟩
      have nC : G ce.locals = none := I6.free
      obtain ⟨m, hn, _⟩ := I6.loc
      have hn' : a.heap.Ns ce.locals m := hn
      rw [cL] at nC hn'
      obtain ⟨f0, f1, f2', f3', f4, f5⟩ := I3.fpOk (Nat.le_refl _) nC
      exact ⟨m, hn', fun h'' sb => ⟨.ref D, G, I7.turned (t' := a.toks) (fun b o hb e => (sb.2 b hb).trans e) f0 f1 f3' f4 f5, rfl, hd⟩⟩
    | some v, hr =>
      refine thnF hr fun _ b ⟨x, G, Nx, I7, r7, hB, fin⟩ => ?_
      refine thnF (pg.run _ b _ G x v _ I7 r7 hB) fun _ c ⟨σ8, H8, I8, hw8, q8⟩ => ?_
      refine thnF (pi1.run _ c σ8 H8 _ I8 q8) fun xv d hx => thnF hx fun itv e h11 => ?_
      obtain ⟨it1, fp1, tn1, J1, H11, rfl, I11, T1, st11, f11, W1, ⟨m1, w1⟩, hW1⟩ := h11
      have kn8 : Knows (wipe σ (own.map (·.2))) (wipe σ8 vs1) := by
        rw [← hw8]
        refine ⟨by rw [wipe_length, wipe_length], fun j v e => ?_⟩
        obtain ⟨e1, e2⟩ := wipe_some e
        rw [wipe_out fun z => e2 (hv j z)]
        exact e1
      have loop1 : codeAny (model X.prog X.w) X.A (.compLoop (twoFor elt t0 i0 t1 i1 scope pos) 1 (.ref it1) (.ref D) ce) (fun r f => match r with
          | .ok _ => ∃ m, m < n ∧ Stand (X.blk s3 H3 scope ce fp) [] (wipe σ (own.map (·.2))) fp tn W m f
          | .error _ => False) e := by
        refine inner_loop (Stand (X.blk s3 H3 scope ce fp) ([] ++ pinsAt fp b.heap) (wipe σ8 vs1) fp1 tn1 W1) (fun k a1 hst1 => ?_) m1 ⟨0, H11, I11.weak (wipe_length _ _) (fun j v e => (wipe_some e).1), st11, fun b hb => (f11 b hb).1, w1⟩
        refine thnF (ask_next (Y := X.blk s3 H3 scope ce fp) hc T1 (fun _ hn d hd => ⟨hn d hd, (f11 d hd).2⟩) hW1 hst1) fun r1 a2 hr1 => ?_
        match r1, hr1 with
        | none, ⟨G1, I13, hd1, _⟩ => exact fin _ a2 G1 I13 kn8 hd1
        | some v1, hr1 =>
          refine thnF hr1 fun _ b1 ⟨x1, G1, Nx1, I14, r14, hB1, fin1⟩ => ?_
          refine thnF (pg1.run _ b1 _ G1 x1 v1 _ I14 r14 hB1) fun _ c1 ⟨σ15, H15, I15, hw15, q15⟩ => ?_
          refine thnF (pe.run _ c1 σ15 H15 _ I15 q15) fun z d1 ⟨yv, H17, I17, r17, nx⟩ => ?_
          refine thnF (pa _ d1 σ15 H17 [.ref D, yv] [.ref D, z] _ I17 (.cons rfl (.cons r17 .nil)) nx) fun _ e1 ⟨_, G7, I18, _, q7⟩ => ?_
          exact fin1 σ15 e1 G7 I18 (by rw [← hw15]; exact Knows.wipe _) q7
      exact inner_start loop1 (T1.self X.A 0 _ _ _ st11 loop1)
  exact PpSet.codeAny_compStart_set loop (T.self X.A 0 _ _ _ st4 loop)
end
end Qk
set_option maxRecDepth 100000
set_option maxHeartbeats 4000000
namespace Qk
open PySem PySem.Spec PyProof.Rows L2
/-! ### a set of texts whose table can be walked: its members in the order of the rows -/
/-- the row of a text -/
def RowT (P : Program) (w : World) (e : Int × Value) (x : Str) : Prop := e.1 = (strKind P w).hash x ∧ ∃ tk, e.2 = Value.str x tk
structure Txts (P : Program) (w : World) (h : Heap) (a : Addr) (xs : List Str) (o : Obj) (es : Array (Int × Value)) (ep : Nat) (t : SetTable) : Prop where
  ob : h.get? a = some o
  ex : o.ExactSet
  da : o.data = .set es ep t
  rows : Paired (RowT P w) es.toList xs
  nd : xs.Nodup
  few : es.size < scanBound
  fit : t.fits es.size = true
  ris : Ris t.place.toList
  led : w.params.followText "set-order" = true ∨ t.led = true
def TxtSet (P : Program) (w : World) (h : Heap) (a : Addr) (xs : List Str) : Prop := ∃ o es ep t, Txts P w h a xs o es ep t
section
variable {P : Program} {w : World} {h : Heap} {a : Addr} {xs : List Str} {o : Obj} {es : Array (Int × Value)} {ep : Nat} {t : SetTable}
theorem TxtSet.keep {h' : Heap} (R : TxtSet P w h a xs) (k : ∀ u, h.get? a = some u → h'.get? a = some u) : TxtSet P w h' a xs := by
  obtain ⟨o, es, ep, t, r⟩ := R
  exact ⟨o, es, ep, t, { r with ob := k _ r.ob }⟩
theorem TxtSet.fresh (w : World) (hh : h.get? a = some { cls := .type "set", dict := none, data := .set #[] 0 (.fresh 0 0 (!w.params.followText "set-order")) }) : TxtSet P w h a [] := by
  refine ⟨_, #[], 0, _, hh, ⟨rfl, rfl, rfl⟩, rfl, .nil, .nil, by decide, by rfl, .nil, ?_⟩
  show w.params.followText "set-order" = true ∨ (!w.params.followText "set-order") = true
  cases w.params.followText "set-order"
  · exact .inr rfl
  · exact .inl rfl
end
end Qk
set_option maxRecDepth 100000
set_option maxHeartbeats 4000000
set_option maxRecDepth 100000
set_option maxHeartbeats 4000000
set_option maxRecDepth 100000
set_option maxHeartbeats 4000000
namespace Qk
open PySem PySem.Spec PyProof.Rows L2
/-! ### set.add of a question (fewer than 64 members) -/
theorem perm_back {α β : Type} (f : α → β) {u v : List β} (p : u.Perm v) : ∀ {l : List α}, u = l.map f → ∃ m : List α, v = m.map f ∧ m.Perm l := by
  induction p with
  | nil => intro l e; exact ⟨l, e, .refl _⟩
  | cons x _ ih =>
    intro l e
    cases l with
    | nil => cases e
    | cons y l =>
      injection e with e1 e2
      obtain ⟨m, g1, g2⟩ := ih e2
      exact ⟨y :: m, by rw [g1, e1]; rfl, g2.cons _⟩
  | swap x y w =>
    intro l e
    cases l with
    | nil => cases e
    | cons a l =>
      cases l with
      | nil => injection e with _ e2; cases e2
      | cons b l =>
        injection e with e1 e2
        injection e2 with e2 e3
        exact ⟨b :: a :: l, by rw [e1, e2, e3]; rfl, .swap _ _ _⟩
  | trans _ _ i1 i2 =>
    intro l e
    obtain ⟨m, g1, g2⟩ := i1 e
    obtain ⟨k, h1, h2⟩ := i2 g1
    exact ⟨k, h1, h2.trans g2⟩
def rAddQ (w : World) : List V → Hp → VK → Prop := fun vs H Q => ∃ (a t : Addr) (q : Qd) (M : QPs), vs = [.ref a, .ref t] ∧ H a = some (SetQ w a M) ∧ (∀ p ∈ M, QAt H p.2 p.1.1 p.1.2) ∧ QAt H t q.1 q.2 ∧ M.length + 1 < 300 ∧
  ∀ M' : QPs, (q ∈ M.map Prod.fst → M' = M) → (q ∉ M.map Prod.fst → M'.Perm ((q, t) :: M)) → Q .non (upd H a (SetQ w a M'))
theorem setQ_fresh {P : Program} {w : World} {H : Hp} {h : Heap} {a : Addr} (hh : h.get? a = some { cls := .type "set", dict := none, data := .set #[] 0 (.fresh 0 0 (!w.params.followText "set-order")) }) : ObjOk P w H h a (SetQ w a []) :=
  setQ_new ⟨#[], 0, _, kset_new hh⟩
theorem toK_len (M : QPs) : (toK M).length = M.length := List.length_map _
theorem cr_addQ {X : Cx} (hu : X.A.units + 16 < cLine) : CallR X (.builtin "set.add") (rAddQ X.w) := by
  intro pins s σ H vs us Q I rv h
  obtain ⟨a, t, q, M, rfl, ha, hm, ht, room, k⟩ := h
  obtain ⟨u, u', rfl, r1, r2⟩ := vals2 rv
  cases r1
  cases r2
  obtain ⟨es, ep, tb, g⟩ : KSet0 X.w s.heap a M := (I.hok a _ ha).1
  obtain ⟨o, ob, ex, da⟩ := id g.ob
  have hx : KAt s.heap (nkQ q) t := (Inv.isQ I ht).key
  have hM : KeysAt s.heap (toK M) := fun p hp => by
    obtain ⟨x, hx, rfl⟩ := List.mem_map.mp hp
    exact (Inv.isQ I (hm x hx)).key
  refine wpAny_call_entry PySem.F.slot_set_add ⟨o, ob, ex.1⟩ PySem.F.entry_set_add ?_ (PySem.F.args_set_add_2 _ _)
  unfold Builtin.«set.add» Builtin.Frozenset.oneOther
  simp only [List.isEmpty_nil, bind_assoc]
  unfold Builtin.Frozenset.addrOf setAdd
  refine wpAny_bind (wpAny_pure (wpAny_bind (wpAny_pure (wpAny_bind (wpAny_holding ?_)))))
  refine wpAny_bind ((nestedKind X.prog X.w).pyHash (by show X.A.units + 1 + 8 < cLine; omega) hx ?_)
  refine put_in (s := { s with toks := s.toks + (nestedKind X.prog X.w).draws (nkQ q) }) g hM hx (by show X.A.units + 1 + 8 < cLine; omega) (by rw [toK_len]; exact room) fun b h' L' es' ep' t' sb new c1 c2 => ?_
  have he : ∃ u, h'.get? a = some u := by
    obtain ⟨o', ob', _⟩ := new.ob
    exact ⟨o', ob'⟩
  obtain ⟨M', eL, m1, m2⟩ : ∃ M' : QPs, L' = toK M' ∧ (q ∈ M.map Prod.fst → M' = M) ∧ (q ∉ M.map Prod.fst → M'.Perm ((q, t) :: M)) := by
    by_cases m : q ∈ M.map Prod.fst
    · exact ⟨M, c1 (mem_keys.mpr m), fun _ => rfl, fun z => absurd m z⟩
    · obtain ⟨M', e, p⟩ := perm_back (fun p : Qd × Addr => (nkQ p.1, p.2)) (c2 fun z => m (mem_keys.mp z)).symm (l := (q, t) :: M) rfl
      exact ⟨M', e, fun z => absurd z m, fun _ => p⟩
  subst eL
  exact wpAny_pure ⟨_, rfl, .non, _, I.write (e := a) (t' := s.toks + (nestedKind X.prog X.w).draws (nkQ q)) (by rw [ha]; trivial) (.inl rfl) (fun b u hb hu => (sb.2 b hb).trans hu) he (setQ_new ⟨es', ep', t', new⟩), rfl, k M' m1 m2⟩
end Qk
set_option maxRecDepth 100000
set_option maxHeartbeats 4000000
/-! rows of names in lists, as data; questions of all rows of a shelf -/
namespace Qk
open PySem PySem.Spec PyProof.Rows L2
theorem PI.or {X : Cx} {tg it : Expr} {wi wi' : TI} (h : PI X tg it wi) (h' : PI X tg it wi') : PI X tg it (fun σ H R => wi σ H R ∨ wi' σ H R) :=
  ⟨fun pins s σ H R I q => q.elim (h.run pins s σ H R I) (h'.run pins s σ H R I)⟩
theorem dok_qs3 {qs : List Qd} (h : ∀ q ∈ qs, Qfine q) (hl : qs.length ≤ 300) : DOk (.list (qs.map dq)) :=
  ⟨fine_qs h, by show PyData.depthAll _ + 1 ≤ 50; have := depth_qs qs; omega, by show costAll _ + 3 ≤ _; have := cost_qs h; omega⟩
/-- a row as data -/
def dR (r : List Str) : PyData := .tuple (r.map PyData.str)
theorem TL.dp {K : PySem.W.Frag} {H : Hp} : ∀ {xs : List V} {rs : List (List Str)}, TL H xs rs → DpAll K H xs (rs.map dR)
  | _, _, .nil => .nil
  | _, _, .cons ⟨t, e, z⟩ r => by
    subst e
    exact .cons (.tup (SqT.of z) (dp_strs _)) (TL.dp r)
theorem fine_r {r : List Str} (h : Row r) : fine (dR r) = true := fine_strs fun c hc => menu_okS c (h.sub c hc)
theorem cost_r {r : List Str} (h : Row r) : cost (dR r) ≤ 2600 := by
  have := h.le
  show costAll (r.map PyData.str) + 3 ≤ _
  rw [cost_strs]
  omega
theorem fine_rs : ∀ {rs : List (List Str)}, (∀ r ∈ rs, Row r) → fineAll (rs.map dR) = true
  | [], _ => rfl
  | r :: rs, h => by
    show (fine (dR r) && fineAll (rs.map dR)) = true
    rw [fine_rs fun q hq => h q (List.mem_cons_of_mem _ hq), Bool.and_true]
    exact fine_r (h r List.mem_cons_self)
theorem cost_rs : ∀ {rs : List (List Str)}, (∀ r ∈ rs, Row r) → costAll (rs.map dR) ≤ 2602 * rs.length
  | [], _ => Nat.le_refl 0
  | r :: rs, h => by
    have h1 := cost_r (h r List.mem_cons_self)
    have h2 := cost_rs fun q hq => h q (List.mem_cons_of_mem _ hq)
    show cost (dR r) + 2 + costAll (rs.map dR) ≤ _
    rw [List.length_cons]
    omega
theorem depth_rs : ∀ (rs : List (List Str)), PyData.depthAll (rs.map dR) ≤ 1
  | [] => Nat.zero_le _
  | r :: rs => by
    show max (PyData.depthAll (r.map PyData.str) + 1) (PyData.depthAll (rs.map dR)) ≤ 1
    rw [depth_strs]
    exact Nat.max_le.mpr ⟨Nat.le_refl 1, depth_rs rs⟩
theorem dok_rs {rs : List (List Str)} (h : ∀ r ∈ rs, Row r) (hl : rs.length ≤ 300) : DOk (.list (rs.map dR)) :=
  ⟨fine_rs h, by show PyData.depthAll _ + 1 ≤ 50; have := depth_rs rs; omega, by show costAll _ + 3 ≤ _; have := cost_rs h; omega⟩
theorem eqv_r (p q : List Str) : PyData.eqv (dR p) (dR q) = decide (p = q) := by
  show PyData.eqv (.tuple _) (.tuple _) = _
  rw [PyData.eqv, eqv_strs]
theorem eqv_rsAll : ∀ (xs ys : List (List Str)), PyData.eqvAll (xs.map dR) (ys.map dR) = decide (xs = ys)
  | [], [] => by simp [PyData.eqvAll]
  | [], y :: ys => by simp [PyData.eqvAll]
  | x :: xs, [] => by simp [PyData.eqvAll]
  | x :: xs, y :: ys => by
    show PyData.eqvAll (dR x :: xs.map dR) (dR y :: ys.map dR) = _
    rw [PyData.eqvAll, eqv_rsAll xs ys, eqv_r]
    by_cases h1 : x = y
    · subst h1
      by_cases h2 : xs = ys
      · subst h2
        simp
      · simp [h2]
    · simp [h1]
theorem eqv_rs (xs ys : List (List Str)) : PyData.eqv (.list (xs.map dR)) (.list (ys.map dR)) = decide (xs = ys) := by
  rw [PyData.eqv, eqv_rsAll]
theorem TL.kp {H H' : Hp} {b l : Addr} {xs : List V} {rs : List (List Str)} (B : Bag H b l) (s : Kp b H H') (h : TL H xs rs) : TL H' xs rs :=
  Paired.mapP h fun x r ⟨t, e, z⟩ => ⟨t, e, s _ _ z (B.ne_tup z)⟩
theorem TL.mem {H : Hp} {xs : List V} {rs : List (List Str)} (h : TL H xs rs) : ∀ x ∈ xs, ∃ (t : Addr) (r : List Str), x = .ref t ∧ r ∈ rs ∧ H t = some (.tup (r.map V.str)) := fun x hx => by
  obtain ⟨i, hi⟩ := List.mem_iff_getElem?.mp hx
  obtain ⟨t, r, e, h1, h2⟩ := h.at_ hi
  exact ⟨t, r, e, List.mem_of_getElem? h1, h2⟩
/-- taken in another order -/
theorem paired_perm {α β : Type} {F : α → β → Prop} {xs ys : List α} (hp : ys.Perm xs) : ∀ {us : List β}, Paired F xs us → ∃ vs, Paired F ys vs ∧ vs.Perm us := by
  have key : ∀ {xs ys : List α}, xs.Perm ys → ∀ {us : List β}, Paired F xs us → ∃ vs, Paired F ys vs ∧ vs.Perm us := by
    intro xs ys hp
    induction hp with
    | nil => intro us h; exact ⟨us, h, .refl _⟩
    | cons x _ ih =>
      intro us h
      cases h with
      | cons h1 h2 =>
        obtain ⟨vs, g1, g2⟩ := ih h2
        exact ⟨_ :: vs, .cons h1 g1, g2.cons _⟩
    | swap x y l =>
      intro us h
      cases h with
      | cons h1 h2 =>
        cases h2 with
        | cons h3 h4 => exact ⟨_, .cons h3 (.cons h1 h4), .swap _ _ _⟩
    | trans _ _ i1 i2 =>
      intro us h
      obtain ⟨vs, g1, g2⟩ := i1 h
      obtain ⟨ws, k1, k2⟩ := i2 g1
      exact ⟨ws, k1, k2.trans g2⟩
  exact fun {us} h => key hp.symm h
theorem Row.takeN {r : List Str} (R : Row r) {k : Nat} (hk : 0 < k) : Row (r.take k) :=
  ⟨R.nd.sublist (List.take_sublist _ _), fun c hc => R.sub c (List.mem_of_mem_take hc), by rw [List.length_take]; have := R.pos; omega, by rw [List.length_take]; have := R.le; omega⟩
/-- all questions of some rows -/
def famQ (rs : List (List Str)) : List Qd := rs.flatMap fun r => allQ r r.length
theorem famQ_len : ∀ {rs : List (List Str)}, (∀ r ∈ rs, Row r) → (famQ rs).length ≤ 24 * rs.length
  | [], _ => Nat.le_refl 0
  | r :: rs, h => by
    have h1 := (h r List.mem_cons_self).le
    have h2 := famQ_len (rs := rs) fun q hq => h q (List.mem_cons_of_mem _ hq)
    unfold famQ at h2 ⊢
    rw [List.flatMap_cons, List.length_append, allQ_len, List.length_cons]
    omega
theorem famQ_snoc (rs : List (List Str)) (r : List Str) : famQ (rs ++ [r]) = famQ rs ++ allQ r r.length := by
  unfold famQ
  rw [List.flatMap_append, List.flatMap_cons, List.flatMap_nil, List.append_nil]
theorem pwR_sorted : ∀ (r : List Str) (p : Str), (p :: r).Pairwise leS → risingS p r = true
  | [], _, _ => rfl
  | x :: r, p, h => by
    obtain ⟨h1, h2⟩ := List.pairwise_cons.mp h
    have h3 : ltCps x.cps.toList p.cps.toList = false := h1 x List.mem_cons_self
    show (!ltCps x.cps.toList p.cps.toList && risingS x r) = true
    rw [h3, pwR_sorted r x h2]
    rfl
theorem pwS_sorted {xs : List Str} (h : xs.Pairwise leS) : sortedS xs = true := by
  cases xs with
  | nil => rfl
  | cons x r => exact pwR_sorted r x h
theorem srt_sorted (xs : List Str) : sortedS (srt xs) = true := pwS_sorted (srt_pw xs)
theorem allQ_qz {r : List Str} (R : Row r) : ∀ q ∈ allQ r r.length, QZ q.1 q.2 := fun q hq => by
  obtain ⟨j, hj, e⟩ := mem_allQ.mp hq
  rcases e with rfl | rfl
  · have he : r[j]? = some (r.getD j "") := by
      rw [List.getD_eq_getElem?_getD, List.getElem?_eq_getElem hj]
      rfl
    exact (qok_ranged R (.refl _) he (srt_perm _) (by exact srt_sorted _)).qz R
  · exact (qok_plain R (.refl _) (srt_perm _) (by exact srt_sorted _)).qz R
theorem famQ_qz {rs : List (List Str)} (h : ∀ r ∈ rs, Row r) : QZs (famQ rs) := fun q hq => by
  obtain ⟨r, hr, hq⟩ := List.mem_flatMap.mp hq
  exact allQ_qz (h r hr) q hq
end Qk
set_option maxRecDepth 100000
set_option maxHeartbeats 4000000
namespace Qk
open PySem PySem.Spec PyProof.Rows L2
def top (i : Nat) : Stmt := PySem.Challenge.pw_narrowkeys_k36_whole_forced_and_served.main.body.getD i (.Pass ⟨0, 0, 0, 0⟩)
abbrev sIsCol : Stmt := top 10
abbrev sAreDiff : Stmt := top 11
abbrev sIsIndex : Stmt := top 12
abbrev sAreIxs : Stmt := top 13
abbrev sRow : Stmt := top 15
abbrev sCols : Stmt := top 16
abbrev sForced : Stmt := top 18
abbrev sForces : Stmt := top 19
abbrev sServ : Stmt := top 21
abbrev sQof : Stmt := top 22
abbrev sServed : Stmt := top 24
abbrev sInit : Stmt := inClass (top 26) 0
abbrev sIter : Stmt := inClass (top 26) 5
abbrev sIsServed : Stmt := top 28
abbrev sBag : Stmt := top 30
abbrev sTake : Stmt := top 31
abbrev sOne : Stmt := top 32
abbrev sMixed : Stmt := top 33
abbrev sNames : Stmt := top 34
abbrev sQuestion : Stmt := top 35
abbrev sIndex : Stmt := top 36
abbrev sIndexes : Stmt := top 37
abbrev sTwo : Stmt := top 38
abbrev sCommon : Stmt := top 39
abbrev sLaw : Stmt := top 40
structure Txt (K : PySem.W.Frag) (mg : Str → Option Value) : Prop where
  len : mg "len" = none
  int : mg "int" = none
  abs : mg "abs" = none
  tuple : mg "tuple" = none
  sorted : mg "sorted" = none
  range : mg "range" = none
  list : mg "list" = none
  set : mg "set" = none
  isinstance : mg "isinstance" = none
  str : mg "str" = none
  all : mg "all" = none
  enumerate : mg "enumerate" = none
  iter : mg "iter" = none
  longest : ∃ t, mg "LONGEST_COLUMN" = some (.int 8 t)
  limit : ∃ t, mg "LIMIT" = some (.int 48 t)
/-- the class Shelf -/
structure TxC (K : PySem.W.Frag) (mg : Str → Option Value) (C : Addr) : Prop where
  cl : Cls K C
  nQ : NoAttr K C "_indexes"
  mgC : mg "Shelf" = some (.ref C)
section
variable {P : Program} {w : World} {K : PySem.W.Frag} {mg : Str → Option Value} {base : Heap}
def sDead : TS := fun _ _ _ => False
theorem ps_dead {X : Cx} {st : Stmt} : PS X st sDead := ⟨fun _ _ _ _ _ _ h => h.elim⟩
theorem rep_snoc (n : Nat) : (List.replicate n true).map V.bl ++ [V.bl true] = (List.replicate (n + 1) true).map V.bl := by
  rw [List.replicate_succ', List.map_append]
  rfl
theorem rep_all (n : Nat) : (List.replicate n true).all id = true := by
  rw [List.all_eq_true]
  intro x hx
  rw [List.eq_of_mem_replicate hx]
  rfl
theorem menu_sz : ∀ c ∈ menu, c.cps.size ≤ 1000 := by decide +kernel
theorem scBag : FnScope ["_law_script", "_law_cell"] ["_law_script"] (defScope sBag) := ⟨rfl, rfl, rfl, by decide +kernel, rfl, by decide +kernel, by decide +kernel⟩
theorem ok_bag {f : Addr} {fd : FuncData} (F : Fun K "_law_bag" "_law_bag" sBag f fd) (T : Txt K mg) : FnOk P w K mg base CX0 1 f fd ["_law_script"] (spBag K) := by
  refine F.ok scBag (fun vs H Q E h => ?_) (fun cdv A outer s H vs Q E hr h => ?_)
  · obtain ⟨a, ns, rfl, _⟩ := h
    rfl
  · obtain ⟨a, ns, rfl, hS, hz, k⟩ := h
    have nd := scBag.nd
    refine ⟨_, pss_one (ps_ret (pe_lst (pa_cons pe_int (pa_cons pe_int (pa_cons pe_int (pa_cons (pe_lc (own := [("_law_cell", 1)]) (g := gName 1) (tt := tYes) rfl nd
      (pi_list (pe_slice sl_list (pv 0) po_none (po_some pe_int))) (blkOk_by (N := ["_law_script", "_law_cell"]) (sc := defScope sBag) (by decide +kernel)) (fun _ _ _ _ _ => pg_name (i := 1) nd rfl (Or.inl rfl)) (fun _ _ _ _ _ => pts_nil)
      (fun _ _ _ _ _ => pe_callB call_abs (by rfl) T.abs (by decide +kernel) (pa_cons (pv 1) pa_nil))) pa_nil)))))), ?_⟩
    refine ⟨_, rfl, _, rfl, a, _, rfl, hS, fun p hp => ⟨p, rfl, ⟨_, SqL.of upd_same⟩, fun D hD => ?_⟩⟩
    have e0 : cutV (ns.map V.int) none (some 63) = (ns.take 63).map V.int := (cut_to 63 _).trans List.map_take.symm
    have npD : p ≠ D := ne_of_none upd_same hD
    have s0 : Same H (upd H p (.lst (cutV (ns.map V.int) none (some 63)))) := same_new hp
    have nD : H D = none := s0.free hD
    refine lc_list (K := K) (a := p) (xs := (ns.take 63).map V.int) (fun i H' => Same H H' ∧ H' p = some (.lst ((ns.take 63).map V.int)) ∧ ∃ ms : List Int, H' D = some (.lst (ms.map V.int)) ∧ ms.length ≤ i ∧ ∀ n ∈ ms, 0 ≤ n)
      ⟨s0.trans (same_new hD), by rw [upd_ne npD, upd_same, e0], [], upd_same, Nat.le_refl _, by simp⟩ (fun i H' _ h => SqL.of h.2.1) ?_ ?_
    · rintro i x H' hi ⟨s1, h1, ms, h2, hl, hm⟩
      rw [List.getElem?_map] at hi
      cases e : (ns.take 63)[i]? with
      | none => rw [e] at hi; cases hi
      | some z =>
        rw [e] at hi
        obtain rfl : V.int z = x := Option.some.inj hi
        have hlt : i < 63 := by
          have := (List.getElem?_eq_some_iff.mp e).1
          rw [List.length_take] at this
          omega
        refine ⟨rfl, Exists.intro _ ⟨rfl, z, rfl, _, h2, by rw [List.length_map, sizeLine_eq]; omega, fun b o q => ?_, ?_, ms ++ [if z < 0 then -z else z], by rw [upd_same]; simp, by simp; omega, ?_⟩⟩
        · have : b ≠ D := ne_of_none q nD
          rw [upd_ne this]
          exact s1 _ _ q
        · rw [upd_ne npD]
          exact h1
        · intro n hn
          rcases List.mem_append.mp hn with hn | hn
          · exact hm n hn
          · obtain rfl := List.mem_singleton.mp hn
            split <;> omega
    · rintro H' ⟨s1, h1, ms, h2, hl, hm⟩
      refine ⟨by show 4 ≤ sizeLine; decide, fun q hq => ?_⟩
      have nDq : D ≠ q := ne_of_none h2 hq
      exact k q D _ (s1.free hq) ⟨0, 1234567891, 0, ms, upd_same, by rw [upd_ne nDq]; exact h2, nDq, by decide, by decide, by decide, hm⟩ (s1.trans (same_new hq))
theorem scTake : FnScope ["_law_bag_here", "_law_many", "_law_cell", "_law_mixed_here", "_law_drawn", "_law_begin", "_law_second"] ["_law_bag_here", "_law_many"] (defScope sTake) := ⟨rfl, rfl, rfl, by decide +kernel, rfl, by decide +kernel, by decide +kernel⟩
theorem ok_take {f : Addr} {fd : FuncData} (F : Fun K "_law_take" "_law_take" sTake f fd) (T : Txt K mg) : FnOk P w K mg base CX0 1 f fd ["_law_bag_here", "_law_many"] spTake := by
  refine F.ok scTake (fun vs H Q E h => ?_) (fun cdv A outer s H vs Q E hr h => ?_)
  · obtain ⟨b, l, n, rfl, _⟩ := h
    rfl
  · obtain ⟨b, l, n, rfl, B, n0, n1, k⟩ := h
    have nd := scTake.nd
    obtain ⟨h, m, p, ns, hb, hl, nlb, h0, m0, m1, hns⟩ := id B
    refine ⟨_, Evl.pss_cut (ps_if (pt_cmpR op_eq (pe_ix ix_list (pv 0) pe_int fun _ _ => rfl) pe_int (nomark _))
        (pss_cons (ps_set (i := 2) nd rfl (Or.inl rfl) pe_int)
        (Evl.pss_cut (ps_if (pt_cmpR op_lt (pe_ix ix_list (pv 0) pe_int fun _ _ => rfl) (pe_callB call_len_seq (by rfl) T.len PySem.boot_len (pa_cons (pe_ix ix_list (pv 0) pe_int fun _ _ => rfl) pa_nil)) (nomark _))
          (pss_one (ps_set (i := 2) nd rfl (Or.inl rfl) (pe_ix ix_list (pe_ix ix_list (pv 0) pe_int fun _ _ => rfl) (pe_ix ix_list (pv 0) pe_int fun _ _ => rfl) fun _ _ => rfl))) pss_nil)
        (pss_cons (ps_augS (pv 0) pe_int get_list pe_int ip_add set_list)
        (Evl.pss_cut (ps_if (pt_cmpR op_ge (pv 2) pe_int (nomark _)) (pss_one (ps_asg (pv 2) (pg_sub (pv 0) pe_int set_list))) pss_nil)
        (pss_cons (ps_set (i := 3) nd rfl (Or.inl rfl) (pe_op op_add (pe_op op_add (pe_op op_mul (pe_ix ix_list (pv 0) pe_int fun _ _ => rfl) pe_int)
            (pe_op op_mod (pe_callTy call_int1 (by rfl) T.int (by decide +kernel) (pa_cons (pv 2) pa_nil)) pe_int)) (pe_op op_mul pe_int (pe_ix ix_list (pv 0) pe_int fun _ _ => rfl))))
        (pss_one (ps_asg (pe_op op_mod (pe_callTy call_int1 (by rfl) T.int (by decide +kernel) (pa_cons (pv 3) pa_nil)) pe_int) (pg_sub (pv 0) pe_int set_list)))))))) pss_nil)
      (Evl.pss_cut (ps_if (pt_cmpR op_gt (pe_ix ix_list (pv 0) pe_int fun _ _ => rfl) pe_int (nomark _))
        (pss_cons (ps_set (i := 4) nd rfl (Or.inl rfl) (pe_op op_mod (pe_callTy call_int1 (by rfl) T.int (by decide +kernel) (pa_cons (pe_ix ix_list (pv 0) pe_int fun _ _ => rfl) pa_nil)) (pv 1)))
        (pss_cons (ps_asg (pe_op op_fdivN (pe_callTy call_int1 (by rfl) T.int (by decide +kernel) (pa_cons (pe_ix ix_list (pv 0) pe_int fun _ _ => rfl) pa_nil)) (pv 1)) (pg_sub (pv 0) pe_int set_list))
        (pss_one (ps_ret (pv 4))))) pss_nil)
      (pss_cons (ps_set (i := 5) nd rfl (Or.inl rfl) (pe_op op_mod (pe_callTy call_int1 (by rfl) T.int (by decide +kernel) (pa_cons (pe_op op_mul (pe_op op_add (pe_ix ix_list (pv 0) pe_int fun _ _ => rfl) pe_int) pe_int) pa_nil)) pe_int))
      (pss_cons (ps_set (i := 6) nd rfl (Or.inl rfl) (pe_op op_mod (pe_callTy call_int1 (by rfl) T.int (by decide +kernel) (pa_cons (pe_op op_mul (pe_op op_mod (pe_callTy call_int1 (by rfl) T.int (by decide +kernel) (pa_cons (pe_op op_mul (pv 5) (pv 5)) pa_nil)) pe_int) pe_int) pa_nil)) pe_int))
      (pss_one (ps_ret (pe_op op_mod (pe_callTy call_int1 (by rfl) T.int (by decide +kernel) (pa_cons (pe_op op_fdiv (pv 6) pe_int) pa_nil)) (pv 1)))))))
      , ?_⟩
    refine ⟨fun σ' H' => ∃ c2 c3, σ' = [some (.ref b), some (.int n), c2, c3, none, none, none] ∧ Bag H' b l ∧ Kp b H H', ?_, ?_⟩
    · refine ⟨_, rfl, b, _, _, _, rfl, rfl, SqL.of hb, rfl, rfl, _, rfl, ?_⟩
      refine ite2 (fun _ => ?_) (fun _ => ⟨_, _, rfl, B, Kp.refl _ _⟩)
      refine ⟨fun σ' H' => ∃ c : Int, 0 ≤ c ∧ σ' = [some (.ref b), some (.int n), some (.int c), none, none, none, none] ∧ H' = H, ?_, ?_⟩
      · refine ⟨_, rfl, b, _, _, _, rfl, rfl, SqL.of hb, rfl, _, rfl, b, _, _, _, rfl, rfl, SqL.of hb, rfl, _, _, rfl, .inl (SqL.of hl), _, _, rfl, rfl, _, rfl, ?_⟩
        refine ite2 (fun hc => ?_) (fun _ => ⟨0, Int.le_refl 0, rfl, rfl⟩)
        have hp : p < ns.length := by
          have := of_decide_eq_true hc
          rw [List.length_map] at this
          omega
        refine ⟨_, rfl, b, _, _, _, rfl, rfl, SqL.of hb, rfl, _, rfl, b, _, _, _, rfl, rfl, SqL.of hb, rfl, l, _, _, .int ns[p], rfl, rfl, SqL.of hl, atI_nat (by rw [List.getElem?_map, List.getElem?_eq_getElem hp]; rfl), ?_⟩
        exact ⟨ns[p], hns _ (List.getElem_mem hp), rfl, rfl⟩
      · rintro σ' H' ⟨c, hc, rfl, rfl⟩
        refine ⟨_, rfl, b, _, 2, _, rfl, rfl, SqL.of hb, rfl, _, _, rfl, rfl, b, _, _, 2, rfl, rfl, hb, rfl, ?_⟩
        have hl1 : (upd H' b (HO.lst [.int h, .int m, .int ((p + 1 : Nat) : Int), .ref l])) l = some (HO.lst (ns.map V.int)) := by rw [upd_ne nlb]; exact hl
        refine ⟨fun σ' H2 => ∃ h' : Int, 0 ≤ h' ∧ σ' = [some (.ref b), some (.int n), some (.int c), none, none, none, none] ∧ H2 b = some (.lst [.int h', .int m, .int ((p + 1 : Nat) : Int), .ref l]) ∧ Kp b H' H2, ?_, ?_⟩
        · refine ⟨_, rfl, _, _, rfl, rfl, _, rfl, ?_⟩
          refine ite2 (fun _ => ?_) (fun _ => ⟨h, h0, rfl, upd_same, Kp.at_ _ _ _⟩)
          refine ⟨_, rfl, _, rfl, b, _, 0, 0, rfl, rfl, upd_same, rfl, ?_⟩
          exact ⟨c, hc, rfl, upd_same, (Kp.at_ _ _ _).trans (Kp.at_ _ _ _)⟩
        · rintro σ' H2 ⟨h', h0', rfl, hb2, k2⟩
          have hl2 : H2 l = some (.lst (ns.map V.int)) := k2 _ _ hl nlb
          refine ⟨_, rfl, b, _, 1, _, rfl, rfl, SqL.of hb2, rfl, _, _, rfl, rfl, .inl ⟨by omega, by omega⟩, _, rfl, .inl ⟨_, rfl, _, _, rfl, rfl, (by show (0 : Int) < 2147483647; decide), _, _, rfl, rfl,
            _, rfl, b, _, 2, _, rfl, rfl, SqL.of hb2, rfl, _, _, rfl, rfl, .inl ⟨by decide, by decide⟩, _, _, rfl, rfl, _, rfl, .inl ⟨_, rfl, _, _, rfl, rfl, (by show (0 : Int) < 2147483647; decide), _, rfl, b, _, 1, 1, rfl, rfl, hb2, rfl, ?_⟩⟩⟩
          exact ⟨_, _, rfl, ⟨h', _, p + 1, ns, upd_same, (by rw [upd_ne nlb]; exact hl2), nlb, h0', Int.emod_nonneg _ (by decide), Int.emod_lt_of_pos _ (by decide), hns⟩, k2.trans (Kp.at_ _ _ _)⟩
    · rintro σ1 H1 ⟨c2, c3, rfl, B1, k1⟩
      clear hb hl hns h0 m0 m1
      obtain ⟨h, m, p, ns, hb, hl, nlb, h0, m0, m1, hns⟩ := id B1
      refine ⟨fun σ' H' => σ' = [some (.ref b), some (.int n), c2, c3, none, none, none] ∧ H' = H1, ?_, ?_⟩
      · refine ⟨_, rfl, b, _, 0, _, rfl, rfl, SqL.of hb, rfl, _, _, rfl, rfl, _, rfl, ?_⟩
        refine ite2 (fun _ => ?_) (fun _ => ⟨rfl, rfl⟩)
        obtain ⟨j, ej, hj⟩ := take_mod (k := h) n0
        refine ⟨_, rfl, b, _, 0, _, rfl, rfl, SqL.of hb, rfl, .inl ⟨_, rfl, _, rfl, _, _, rfl, rfl, n0, _, rfl, b, _, 0, _, rfl, rfl, SqL.of hb, rfl, .inl ⟨_, rfl, _, rfl, _, _, rfl, rfl, ⟨by omega, by omega⟩, _, rfl, b, _, 0, 0, rfl, rfl, hb, rfl, _, rfl, ?_⟩⟩⟩
        show Q (.int (h % n)) _
        rw [ej]
        refine k j _ hj ⟨_, m, p, ns, upd_same, (by rw [upd_ne nlb]; exact hl), nlb, ?_, m0, m1, hns⟩ (k1.trans (Kp.at_ _ _ _))
        show 0 ≤ h.fdiv n
        rw [Int.fdiv_eq_ediv_of_nonneg h (by omega)]
        exact Int.ediv_nonneg h0 (by omega)
      · rintro σ' H' ⟨rfl, rfl⟩
        have q1 : ∀ x : Int, 0 ≤ x % 1000000007 ∧ x % 1000000007 < 1000000007 := fun x => ⟨Int.emod_nonneg _ (by decide), Int.emod_lt_of_pos _ (by decide)⟩
        have q2 : ∀ x : Int, 0 ≤ x % 998244353 ∧ x % 998244353 < 998244353 := fun x => ⟨Int.emod_nonneg _ (by decide), Int.emod_lt_of_pos _ (by decide)⟩
        obtain ⟨u, eu⟩ : ∃ u, u = ((m + 1) * 39373) % 1000000007 := ⟨_, rfl⟩
        have hu := q1 ((m + 1) * 39373)
        rw [← eu] at hu
        obtain ⟨j, ej, hj⟩ := take_mod (k := (u * u % 998244353 * 30011 % 998244353) / 7) n0
        have hv := q2 (u * u)
        refine ⟨_, rfl, b, _, 1, _, rfl, rfl, SqL.of hb, rfl, _, _, rfl, rfl, _, _, rfl, rfl, .inl ⟨by omega, by omega⟩, .inl ⟨_, rfl, _, _, rfl, rfl, (by show (0 : Int) < 1000000007; decide), ?_⟩⟩
        show tSeq _ _ _ [some (.ref b), some (.int n), c2, c3, none, some (.int (((m + 1) * 39373) % 1000000007)), none] _
        rw [← eu]
        refine ⟨_, rfl, _, rfl, _, _, rfl, rfl, .inl ⟨by omega, by omega⟩, .inl ⟨_, rfl, _, _, rfl, rfl, (by show (0 : Int) < 998244353; decide), _, _, rfl, rfl, .inl ⟨by omega, by omega⟩, .inl ⟨_, rfl, _, _, rfl, rfl, (by show (0 : Int) < 998244353; decide), _, rfl, _, _, rfl, rfl, ⟨by decide, by decide⟩, .inl ⟨_, rfl, _, rfl, _, _, rfl, rfl, n0, ?_⟩⟩⟩⟩
        show Q (.int ((u * u % 998244353 * 30011 % 998244353) / 7 % n)) _
        rw [ej]
        exact k j _ hj B1 k1
theorem scOne : FnScope ["_law_bag_here", "_law_some"] ["_law_bag_here", "_law_some"] (defScope sOne) := ⟨rfl, rfl, rfl, by decide +kernel, rfl, by decide +kernel, by decide +kernel⟩
theorem ok_one {f : Addr} {fd : FuncData} (F : Fun K "_law_one" "_law_one" sOne f fd) (T : Txt K mg) (cT : Cal P w K mg base 1 "_law_take" ["_law_bag_here", "_law_many"] spTake) : FnOk P w K mg base CX0 2 f fd ["_law_bag_here", "_law_some"] spOne := by
  refine F.ok scOne (fun vs H Q E h => ?_) (fun cdv A outer s H vs Q E hr h => ?_)
  · obtain ⟨b, l, a, xs, rfl, _⟩ := h
    rfl
  · obtain ⟨b, l, a, xs, rfl, B, nab, ha, hne, hz, k⟩ := h
    refine ⟨_, pss_one (ps_ret (pe_ix ix_list (pv 1) (pe_call cT.G hr rfl cT.m cT.kp cT.b .nil pass0 (pa_cons (pv 0) (pa_cons (pe_callB call_len_seq (by rfl) T.len PySem.boot_len (pa_cons (pv 1) pa_nil)) pa_nil))) fun _ _ => rfl)), ?_⟩
    have hpos : 0 < xs.length := List.length_pos_iff.mpr hne
    refine ⟨_, rfl, _, rfl, _, rfl, _, _, rfl, .inl (SqL.of ha), b, l, _, rfl, B, by omega, by omega, fun j H' hj B' k' => ?_⟩
    have hj' : j < xs.length := by omega
    exact ⟨a, xs, j, xs[j], rfl, rfl, SqL.of (k' _ _ ha nab), atI_nat (List.getElem?_eq_getElem hj'), k _ _ (List.getElem_mem hj') B' k'⟩
theorem scMixed : FnScope ["_law_bag_here", "_law_things", "_law_found", "_law_thing"] ["_law_bag_here", "_law_things"] (defScope sMixed) := ⟨rfl, rfl, rfl, by decide +kernel, rfl, by decide +kernel, by decide +kernel⟩
theorem ok_mixed {f : Addr} {fd : FuncData} (F : Fun K "_law_mixed" "_law_mixed" sMixed f fd) (T : Txt K mg) (cT : Cal P w K mg base 1 "_law_take" ["_law_bag_here", "_law_many"] spTake) : FnOk P w K mg base CX0 2 f fd ["_law_bag_here", "_law_things"] spMixed := by
  refine F.ok scMixed (fun vs H Q E h => ?_) (fun cdv A outer s H vs Q E hr h => ?_)
  · obtain ⟨b, l, a, xs, rfl, _⟩ := h
    rfl
  · obtain ⟨b, l, a, xs, rfl, B, nab, ha, hz, k⟩ := h
    have nd := scMixed.nd
    refine ⟨_, pss_cons (ps_set (i := 2) nd rfl (Or.inl rfl) (pe_lst pa_nil)) (pss_cons (ps_for PassesOwn.never rfl (pi_list (pv 1)) (pg_name (i := 3) nd rfl (Or.inl rfl))
      (pss_one (ps_expr (pe_bm PySem.F.plainAttrs_list PySem.F.slot_list_insert PySem.F.type_list_insert mt_insert (pv 2)
        (pa_cons (pe_call cT.G hr rfl cT.m cT.kp cT.b .nil pass0 (pa_cons (pv 0) (pa_cons (pe_op op_add (pe_callB call_len_seq (by rfl) T.len PySem.boot_len (pa_cons (pv 2) pa_nil)) pe_int) pa_nil))) (pa_cons (pv 3) pa_nil))))))
      (pss_one (ps_ret (pv 2)))), ?_⟩
    refine ⟨by decide, fun p hp => ?_⟩
    have npb : p ≠ b := B.ne hp
    have nap : a ≠ p := ne_of_none ha hp
    refine ⟨_, rfl, a, rfl, ⟨_, SqL.of (by rw [upd_ne nap]; exact ha)⟩, for_list (K := K) (a := a) (xs := xs) (fun i σ H' => ∃ (ys : List V) (v : Option V), σ = [some (.ref b), some (.ref a), some (.ref p), v] ∧ ys.Perm (xs.take i) ∧ H' p = some (.lst ys) ∧ Bag H' b l ∧ Kp b H H')
      ⟨[], none, rfl, by simp, upd_same, B.new hp, Kp.new hp⟩ (fun i σ H' _ ⟨_, _, _, _, _, _, k'⟩ => SqL.of (k' _ _ ha nab)) ?_ ?_⟩
    · rintro i x σ H' hi ⟨ys, v, rfl, hp1, h1, B1, k1⟩
      have hil : i < xs.length := (List.getElem?_eq_some_iff.mp hi).1
      have hyl : ys.length = i := by
        rw [hp1.length_eq, List.length_take]
        omega
      refine ⟨_, rfl, .inl ⟨rfl, _, SqL.of h1⟩, _, rfl, _, rfl, _, _, rfl, .inl (SqL.of h1), _, _, rfl, rfl, b, l, _, rfl, B1, by omega, by omega, fun j H2 hj B2 k2 => ?_⟩
      refine ⟨_, rfl, p, ys, (j : Int), x, rfl, rfl, k2 _ _ h1 npb, Nat.lt_of_lt_of_le (show ys.length < 1000 by omega) (by rw [sizeLine_eq]; decide), by omega, by omega, ?_⟩
      refine ⟨ys.take j ++ [x] ++ ys.drop j, _, rfl, ?_, ?_, ?_, ?_⟩
      · have e1 : xs.take (i + 1) = xs.take i ++ [x] := by
          rw [List.take_add_one, hi]
          rfl
        rw [e1]
        have q1 : (ys.take j ++ [x] ++ ys.drop j).Perm (ys ++ [x]) := by
          have q2 : (ys.take j ++ ([x] ++ ys.drop j)).Perm (ys.take j ++ (ys.drop j ++ [x])) := List.Perm.append_left _ List.perm_append_comm
          rw [List.append_assoc]
          refine q2.trans ?_
          rw [← List.append_assoc, List.take_append_drop]
        exact q1.trans (hp1.append_right _)
      · rw [upd_same]
        simp
      · exact B2.upd npb.symm (B.nel hp)
      · intro c o hc ncb
        have : c ≠ p := ne_of_none hc hp
        rw [upd_ne this]
        exact k2 _ _ (k1 _ _ hc ncb) ncb
    · rintro σ H' ⟨ys, v, rfl, hp1, h1, B1, k1⟩
      rw [List.take_length] at hp1
      exact ⟨_, rfl, k ys p H' hp1 hp npb h1 B1 k1⟩
theorem scNames : FnScope ["_law_bag_here", "_law_many", "_law_menu"] ["_law_bag_here", "_law_many"] (defScope sNames) := ⟨rfl, rfl, rfl, by decide +kernel, rfl, by decide +kernel, by decide +kernel⟩
theorem ok_names {f : Addr} {fd : FuncData} (F : Fun K "_law_names" "_law_names" sNames f fd) (T : Txt K mg) (cM : Cal P w K mg base 2 "_law_mixed" ["_law_bag_here", "_law_things"] spMixed) : FnOk P w K mg base CX0 3 f fd ["_law_bag_here", "_law_many"] spNames := by
  refine F.ok scNames (fun vs H Q E h => ?_) (fun cdv A outer s H vs Q E hr h => ?_)
  · obtain ⟨b, l, n, rfl, _⟩ := h
    rfl
  · obtain ⟨b, l, n, rfl, B, k⟩ := h
    have nd := scNames.nd
    refine ⟨_, pss_cons (ps_set (i := 2) nd rfl (Or.inl rfl) (pe_lst (pa_cons pe_str (pa_cons pe_str (pa_cons pe_str (pa_cons pe_str (pa_cons pe_str (pa_cons pe_str (pa_cons pe_str (pa_cons pe_str (pa_cons pe_str (pa_cons pe_str (pa_cons pe_str (pa_cons pe_str pa_nil))))))))))))))
      (pss_one (ps_ret (pe_slice sl_list (pe_call cM.G hr rfl cM.m cM.kp cM.b .nil pass0 (pa_cons (pv 0) (pa_cons (pv 2) pa_nil))) po_none (po_some (pv 1))))), ?_⟩
    refine ⟨by show 12 ≤ sizeLine; decide, fun p hp => ?_⟩
    have npb : p ≠ b := B.ne hp
    refine ⟨_, rfl, _, rfl, b, l, p, menu0.map V.str, rfl, B.new hp, npb, upd_same, by show 12 < 1000; decide, fun ys q H' hp1 hq nqb h1 B1 k1 => ?_⟩
    refine ⟨_, rfl, _, rfl, q, ys, rfl, SqL.of h1, fun r hr => ?_⟩
    have e0 : cutV ys none (some (n : Int)) = ys.take n := cut_to n ys
    rw [e0]
    obtain ⟨zs, rfl, hzs⟩ := perm_strs hp1
    have hsub := (List.take_sublist n zs)
    have nrH : H r = none := by
      cases e : H r with
      | none => rfl
      | some o =>
        have ner : r ≠ p := ne_of_none e hp
        by_cases erb : r = b
        · subst erb
          obtain ⟨o', e'⟩ := B1.at_
          rw [e'] at hr
          cases hr
        · have := k1 r o (by rw [upd_ne ner]; exact e) erb
          rw [this] at hr
          cases hr
    refine k (zs.take n) r _ ⟨(hzs.nodup_iff.mpr menu0_nodup).sublist hsub, fun c hc => menu0_sub _ (hzs.mem_iff.mp (hsub.mem hc)), by rw [List.length_take, hzs.length_eq]; rfl⟩ nrH (B1.ne hr) (by rw [upd_same, List.map_take]) (B1.new hr) ((Kp.new hp).trans (k1.trans (Kp.new hr)))
theorem scQuestion : FnScope ["_law_bag_here", "_law_names_here", "_law_some", "_law_end"] ["_law_bag_here", "_law_names_here"] (defScope sQuestion) := ⟨rfl, rfl, rfl, by decide +kernel, rfl, by decide +kernel, by decide +kernel⟩
theorem ok_question {f : Addr} {fd : FuncData} (F : Fun K "_law_question" "_law_question" sQuestion f fd) (T : Txt K mg) (cT : Cal P w K mg base 1 "_law_take" ["_law_bag_here", "_law_many"] spTake) (cM : Cal P w K mg base 2 "_law_mixed" ["_law_bag_here", "_law_things"] spMixed) : FnOk P w K mg base CX0 3 f fd ["_law_bag_here", "_law_names_here"] spQuestion := by
  refine F.ok scQuestion (fun vs H Q E h => ?_) (fun cdv A outer s H vs Q E hr h => ?_)
  · obtain ⟨b, l, a, xs, rfl, _⟩ := h
    rfl
  · obtain ⟨b, l, a, xs, rfl, B, nab, ha, R, k⟩ := h
    have nd := scQuestion.nd
    have hr1 : Room 1 _ := hr.mono (by decide)
    refine ⟨_, pss_cons (ps_set (i := 2) nd rfl (Or.inl rfl) (pe_slice sl_list (pe_call cM.G hr rfl cM.m cM.kp cM.b .nil pass0 (pa_cons (pv 0) (pa_cons (pv 1) pa_nil))) po_none
        (po_some (pe_op op_add pe_int (pe_call cT.G hr1 rfl cT.m cT.kp cT.b .nil pass0 (pa_cons (pv 0) (pa_cons (pe_callB call_len_seq (by rfl) T.len PySem.boot_len (pa_cons (pv 1) pa_nil)) pa_nil)))))))
      (Evl.pss_cut (ps_set (i := 3) nd rfl (Or.inl rfl) (pe_ifExp (pt_cmpR op_eq (pe_call cT.G hr1 rfl cT.m cT.kp cT.b .nil pass0 (pa_cons (pv 0) (pa_cons pe_int pa_nil))) pe_int (nomark _))
        (pe_bm0 PySem.F.plainAttrs_list PySem.F.slot_list_pop PySem.F.type_list_pop mt_pop (pv 2)) pe_str))
      (pss_one (ps_ret (pe_tup (pa_cons (pe_callTy call_tuple_of (by rfl) T.tuple (by decide +kernel) (pa_cons (pe_callB cr_sortedST (by rfl) T.sorted (by decide +kernel) (pa_cons (pv 2) pa_nil)) pa_nil)) (pa_cons (pv 3) pa_nil)))))), ?_⟩
    have hl := R.le
    have hpos := R.pos
    refine ⟨_, rfl, _, rfl, b, l, a, _, rfl, B, nab, ha, by rw [List.length_map]; omega, fun ys0 p H1 hp0 hp hpb h1 B1 k1 => ?_⟩
    obtain ⟨ys, rfl, hy⟩ := perm_strs hp0
    have ha1 := k1 _ _ ha nab
    refine ⟨_, rfl, _, rfl, _, _, rfl, .inl (SqL.of ha1), b, l, _, rfl, B1, by rw [List.length_map]; omega, by rw [List.length_map]; omega, fun j H2 hj B2 k2 => ?_⟩
    rw [List.length_map] at hj
    refine ⟨_, _, rfl, rfl, _, rfl, p, _, rfl, SqL.of (k2 _ _ h1 hpb), fun r hr => ?_⟩
    have ec : cutV (ys.map V.str) none (some (1 + (j : Int))) = (ys.take (j + 1)).map V.str := by
      have e1 : (1 + (j : Int)) = ((j + 1 : Nat) : Int) := by omega
      rw [e1, cut_to, List.map_take]
    rw [ec]
    have hrb : r ≠ b := B2.ne hr
    have hyl := hy.length_eq
    refine ⟨fun σ' H' => ∃ (zs : List Str) (e : Str), σ' = [some (.ref b), some (.ref a), some (.ref r), some (.str e)] ∧ H' r = some (.lst (zs.map V.str)) ∧ zs.length ≤ 12 ∧ (∀ ws, ws.Perm zs → sortedS ws = true → Qok xs ws e) ∧ Bag H' b l ∧ Kp b H H', ?_, ?_⟩
    · refine ⟨_, rfl, b, l, 2, rfl, B2.new hr, by decide, by decide, fun j2 H3 hj2 B3 k3 => ?_⟩
      have kH3 : Kp b H H3 := k1.trans (k2.trans ((Kp.new hr).trans k3))
      have hr3 := k3 _ _ upd_same hrb
      refine ⟨rfl, _, rfl, ?_⟩
      refine ite2 (fun _ => ?_) (fun _ => ?_)
      · have hlt : j < ys.length := by omega
        have el : ((ys.take (j + 1)).map V.str)[((ys.take (j + 1)).map V.str).length - 1]? = some (V.str ys[j]) := by
          rw [List.length_map, List.length_take, Nat.min_eq_left (by omega), Nat.add_sub_cancel, List.getElem?_map, List.getElem?_take_of_lt (by omega), List.getElem?_eq_getElem hlt]
          rfl
        refine ⟨_, rfl, .inl ⟨rfl, _, SqL.of hr3⟩, r, _, _, rfl, rfl, hr3, el, ?_⟩
        have ed : ((ys.take (j + 1)).map V.str).dropLast = (ys.take j).map V.str := by
          rw [← List.map_dropLast, List.take_add_one, List.getElem?_eq_getElem hlt, Option.toList_some, List.dropLast_concat]
        rw [ed]
        refine ⟨ys.take j, ys[j], rfl, upd_same, by rw [List.length_take]; omega, fun ws hw hs => qok_ranged R hy (List.getElem?_eq_getElem hlt) hw hs, B3.upd hrb.symm (B2.nel hr), fun c o hc ncb => ?_⟩
        have ncr : c ≠ r := ne_of_none (k2 _ _ (k1 _ _ hc ncb) ncb) hr
        rw [upd_ne ncr]
        exact kH3 _ _ hc ncb
      · exact ⟨ys.take (j + 1), "", rfl, hr3, by rw [List.length_take]; omega, fun ws hw hs => qok_plain R hy hw hs, B3, kH3⟩
    · rintro σ' H' ⟨zs, e, rfl, h2, hz, hq, B4, k4⟩
      refine ⟨_, rfl, r, zs, rfl, .inl (SqL.of h2), by omega, fun ws p1 hw hs hp1 => ⟨p1, _, rfl, .inl ⟨SqL.of upd_same, fun p2 hp2 => ⟨_, rfl, by show 2 ≤ sizeLine; decide, fun p3 hp3 => ?_⟩⟩⟩⟩
      have s3 : Same H' _ := (same_new (o := .lst (ws.map V.str)) hp1).trans ((same_new (o := .tup (ws.map V.str)) hp2).trans (same_new (o := .tup [.ref p2, .str e]) hp3))
      exact k p3 ws e _ ⟨p2, upd_same, same_new hp3 _ _ upd_same⟩ (hq ws hw hs) (B4.same s3) (k4.trans (Kp.of s3))
theorem scIndex : FnScope ["_law_bag_here", "_law_names_here"] ["_law_bag_here", "_law_names_here"] (defScope sIndex) := ⟨rfl, rfl, rfl, by decide +kernel, rfl, by decide +kernel, by decide +kernel⟩
theorem ok_index {f : Addr} {fd : FuncData} (F : Fun K "_law_index" "_law_index" sIndex f fd) (T : Txt K mg) (cT : Cal P w K mg base 1 "_law_take" ["_law_bag_here", "_law_many"] spTake) (cM : Cal P w K mg base 2 "_law_mixed" ["_law_bag_here", "_law_things"] spMixed) : FnOk P w K mg base CX0 3 f fd ["_law_bag_here", "_law_names_here"] spIndex := by
  refine F.ok scIndex (fun vs H Q E h => ?_) (fun cdv A outer s H vs Q E hr h => ?_)
  · obtain ⟨b, l, a, xs, rfl, _⟩ := h
    rfl
  · obtain ⟨b, l, a, xs, rfl, B, nab, ha, R, k⟩ := h
    have nd := scIndex.nd
    have hr1 : Room 1 _ := hr.mono (by decide)
    refine ⟨_, pss_one (ps_ret (pe_callTy call_tuple_of (by rfl) T.tuple (by decide +kernel) (pa_cons (pe_slice sl_list (pe_call cM.G hr rfl cM.m cM.kp cM.b .nil pass0 (pa_cons (pv 0) (pa_cons (pv 1) pa_nil))) po_none
        (po_some (pe_op op_add pe_int (pe_call cT.G hr1 rfl cT.m cT.kp cT.b .nil pass0 (pa_cons (pv 0) (pa_cons (pe_callB call_len_seq (by rfl) T.len PySem.boot_len (pa_cons (pv 1) pa_nil)) pa_nil)))))) pa_nil))), ?_⟩
    have hl := R.le
    have hpos := R.pos
    refine ⟨_, rfl, _, rfl, b, l, a, _, rfl, B, nab, ha, by rw [List.length_map]; omega, fun ys0 p H1 hp0 hp hpb h1 B1 k1 => ?_⟩
    obtain ⟨ys, rfl, hy⟩ := perm_strs hp0
    have ha1 := k1 _ _ ha nab
    refine ⟨_, rfl, _, rfl, _, _, rfl, .inl (SqL.of ha1), b, l, _, rfl, B1, by rw [List.length_map]; omega, by rw [List.length_map]; omega, fun j H2 hj B2 k2 => ?_⟩
    rw [List.length_map] at hj
    refine ⟨_, _, rfl, rfl, _, rfl, p, _, rfl, SqL.of (k2 _ _ h1 hpb), fun r hr => ⟨r, _, rfl, .inl ⟨SqL.of upd_same, fun t ht => ?_⟩⟩⟩
    have ec : cutV (ys.map V.str) none (some (1 + (j : Int))) = (ys.take (j + 1)).map V.str := by
      have e1 : (1 + (j : Int)) = ((j + 1 : Nat) : Int) := by omega
      rw [e1, cut_to, List.map_take]
    rw [ec] at ht
    rw [ec]
    have hyl := hy.length_eq
    have sl := List.take_sublist (j + 1) ys
    have s2 : Same H2 _ := (same_new (o := .lst ((ys.take (j + 1)).map V.str)) hr).trans (same_new (o := .tup ((ys.take (j + 1)).map V.str)) ht)
    have hsub : ∀ c ∈ ys.take (j + 1), c ∈ xs := fun c hc => hy.mem_iff.mp (sl.mem hc)
    exact k t (ys.take (j + 1)) _ upd_same ⟨(hy.nodup_iff.mpr R.nd).sublist sl, fun c hc => R.sub _ (hsub c hc), by rw [List.length_take]; omega, by rw [List.length_take]; omega⟩ hsub (B2.same s2) (k1.trans (k2.trans (Kp.of s2)))
theorem scIsCol : FnScope ["thing"] ["thing"] (defScope sIsCol) := ⟨rfl, rfl, rfl, by decide +kernel, rfl, by decide +kernel, by decide +kernel⟩
theorem ok_iscol {f : Addr} {fd : FuncData} (F : Fun K "is_column" "is_column" sIsCol f fd) (T : Txt K mg) : FnOk P w K mg base CX0 1 f fd ["thing"] (spText K colS) := by
  refine F.ok scIsCol (fun vs H Q E h => ?_) (fun cdv A outer s H vs Q E hr h => ?_)
  · obtain ⟨x, rfl, _⟩ := h
    rfl
  · obtain ⟨x, rfl, h⟩ := h
    have nd := scIsCol.nd
    obtain ⟨tl, hl⟩ := T.longest
    refine ⟨_, pss_cons (ps_if (PW.pt (pw_or (pt_not (pt_val (pe_callB call_isi (by rfl) T.isinstance (by decide +kernel) (pa_cons (pv 0) (pa_cons (pe_bltn (v := .ty "str") (by rfl) T.str (by decide +kernel) rfl) pa_nil)))))
        (pw_or1 (pt_not (pt_chain op_le op_le pe_int (pe_callB call_len_str (by rfl) T.len PySem.boot_len (pa_cons (pv 0) pa_nil)) (pe_glob (v := .int 8) rfl hl ⟨tl, rfl⟩)))))) (pss_one (ps_ret pe_bl)) pss_nil)
      (pss_one (ps_ret (pe_and (pe_m0 PySem.F.slot_str_isascii PySem.F.type_str_isascii mt_isascii (pv 0)) (pe_and (pe_m0 PySem.F.slot_str_isalpha PySem.F.type_str_isalpha mt_isalpha (pv 0))
        (pe_one (pe_m0 PySem.F.slot_str_islower PySem.F.type_str_islower mt_islower (pv 0))))))), ?_⟩
    rcases h with ⟨z, rfl, hz, hok, k⟩ | ⟨t, ty, hk, k⟩
    · refine ⟨_, rfl, _, _, .type "str", .type "str", true, rfl, .ty "str", .base (.str z), kit_ty (by decide +kernel), _, rfl, ?_⟩
      refine iteF ?_
      have hlen : z.length = z.cps.size := rfl
      have kk := k H (Same.refl _)
      unfold colS at kk
      refine ⟨_, rfl, z, rfl, by rw [hlen, sizeLine_eq]; omega, 1, _, rfl, rfl, _, rfl, ?_⟩
      rw [hlen]
      by_cases c1 : 1 ≤ z.cps.size
      · have d1 : decide ((1 : Int) ≤ (z.cps.size : Int)) = true := decide_eq_true (by omega)
        rw [d1]
        refine iteT ?_
        refine ⟨_, 8, rfl, rfl, _, rfl, ?_⟩
        by_cases c2 : z.cps.size ≤ 8
        · have d2 : decide ((z.cps.size : Int) ≤ 8) = true := decide_eq_true (by omega)
          rw [d2]
          refine iteF ?_
          rw [decide_eq_true c1, decide_eq_true c2, ← low_iff z c1, Bool.true_and, Bool.true_and] at kk
          refine ⟨_, rfl, ⟨_, rfl⟩, z, rfl, rfl, True.intro, _, rfl, ?_⟩
          cases h1 : Txt.isascii z with
          | false =>
            rw [h1, Bool.false_and] at kk
            refine iteF ?_
            exact kk
          | true =>
            rw [h1, Bool.true_and] at kk
            refine iteT ?_
            refine ⟨_, rfl, ⟨_, rfl⟩, z, rfl, rfl, True.intro, _, rfl, ?_⟩
            cases h2 : Txt.isalpha z with
            | false =>
              rw [h2, Bool.false_and] at kk
              refine iteF ?_
              exact kk
            | true =>
              rw [h2, Bool.true_and] at kk
              refine iteT ?_
              exact ⟨_, rfl, ⟨_, rfl⟩, z, rfl, rfl, True.intro, kk⟩
        · have d2 : decide ((z.cps.size : Int) ≤ 8) = false := decide_eq_false (by omega)
          rw [d2]
          refine iteT ?_
          rw [decide_eq_false c2, Bool.and_false, Bool.false_and] at kk
          exact kk
      · have d1 : decide ((1 : Int) ≤ (z.cps.size : Int)) = false := decide_eq_false (by omega)
        rw [d1]
        refine iteF ?_
        refine ⟨_, rfl, ?_⟩
        refine iteT ?_
        rw [decide_eq_false c1, Bool.false_and, Bool.false_and] at kk
        exact kk
    · refine ⟨_, rfl, _, _, .type t, .type "str", false, rfl, .ty "str", ty, kit_ty hk, _, rfl, ?_⟩
      refine iteT ?_
      exact k
theorem scQof : FnScope ["index", "found", "many", "column", "front"] ["index"] (defScope sQof) := ⟨rfl, rfl, rfl, by decide +kernel, rfl, by decide +kernel, by decide +kernel⟩
theorem ok_qof {f : Addr} {fd : FuncData} (F : Fun K "questions_of" "questions_of" sQof f fd) (T : Txt K mg) : FnOk P w K mg base CX0 1 f fd ["index"] spQof := by
  refine F.ok scQof (fun vs H Q E h => ?_) (fun cdv A outer s H vs Q E hr h => ?_)
  · obtain ⟨t, ix, rfl, _⟩ := h
    rfl
  · obtain ⟨t, ix, rfl, ht, R, k⟩ := h
    have nd := scQof.nd
    have hu : A.units + 3 + 80 < cLine := by
      have := hr.un
      show A.units + 3 + 80 < cLine
      have e : (A.deeper (envOfC "questions_of" (defScope sQof) s.heap.objs.size f cdv)).units = A.units + 3 := rfl
      omega
    refine ⟨_, pss_cons (ps_set (i := 1) nd rfl (Or.inl rfl) (pe_lst pa_nil))
      (pss_cons (ps_for PassesOwn.never rfl (pi_enumT (by rfl) T.enumerate (pa_cons (pv 0) pa_nil)) (pg_tup (by rfl) (pgs_cons (pg_name (i := 2) nd rfl (Or.inl rfl)) (pgs_cons (pg_name (i := 3) nd rfl (Or.inl rfl)) pgs_nil)))
        (pss_cons (ps_set (i := 4) nd rfl (Or.inl rfl) (pe_callTy call_tuple_of (by rfl) T.tuple (by decide +kernel) (pa_cons (pe_callB cr_sortedST (by rfl) T.sorted (by decide +kernel) (pa_cons (pe_slice sl_tupA (pv 0) po_none (po_some (pv 2))) pa_nil)) pa_nil)))
        (pss_cons (ps_expr (pe_bm PySem.F.plainAttrs_list PySem.F.slot_list_append PySem.F.type_list_append mt_append (pv 1) (pa_cons (pe_tup (pa_cons (pv 4) (pa_cons (pv 3) pa_nil))) pa_nil)))
        (pss_one (ps_expr (pe_bm PySem.F.plainAttrs_list PySem.F.slot_list_append PySem.F.type_list_append mt_append (pv 1) (pa_cons (pe_tup (pa_cons
          (pe_callTy call_tuple_of (by rfl) T.tuple (by decide +kernel) (pa_cons (pe_callB cr_sortedST (by rfl) T.sorted (by decide +kernel) (pa_cons (pe_lst (StX.pa_star (pv 4) (pa_cons (pv 3) pa_nil))) pa_nil)) pa_nil)) (pa_cons pe_str pa_nil))) pa_nil)))))))
      (pss_one (ps_ret (pe_callB (cr_sortedQL hu) (by rfl) T.sorted (by decide +kernel) (pa_cons (pv 1) pa_nil))))), ?_⟩
    have hle := R.le
    refine ⟨by decide, fun p hp => ?_⟩
    have s0 : Same H (upd H p (.lst [])) := same_new hp
    have hlx : (ix.map V.str).length = ix.length := List.length_map _
    refine ⟨_, rfl, t, _, rfl, SqT.of (s0 _ _ ht), for_enumT (K := K) (a := t) (xs := ix.map V.str) (fun i σ H' => ∃ (v2 v3 v4 : Option V) (ys : List V), σ = [some (.ref t), some (.ref p), v2, v3, v4] ∧ Same H H' ∧ H' p = some (.lst ys) ∧ QL H' ys (allQ ix i))
      ⟨none, none, none, [], rfl, s0, upd_same, .nil⟩ (fun i σ H' _ ⟨_, _, _, _, _, s1, _⟩ => SqT.of (s1 _ _ ht)) ?_ ?_⟩
    · rintro i x σ H' hi ⟨v2, v3, v4, ys, rfl, s1, hpl, hq⟩ T1 hT1
      have hil : i < ix.length := by
        have := (List.getElem?_eq_some_iff.mp hi).1
        omega
      obtain rfl : V.str ix[i] = x := by
        rw [List.getElem?_map, List.getElem?_eq_getElem hil] at hi
        exact Option.some.inj hi
      have hgd : ix.getD i "" = ix[i] := by
        rw [List.getD_eq_getElem?_getD, List.getElem?_eq_getElem hil]
        rfl
      have sT : Same H' (upd H' T1 (.tup [.int (i : Nat), .str ix[i]])) := same_new hT1
      have hyl : ys.length = 2 * i := by rw [hq.len, allQ_len]
      refine ⟨T1, _, rfl, SqT.of upd_same, rfl, _, _, rfl, _, _, rfl, rfl, ?_⟩
      refine ⟨_, rfl, _, rfl, _, rfl, ?_⟩
      refine slA (sT _ _ (s1 _ _ ht)) ((cut_to i _).trans List.map_take.symm) fun r H2 s2 h2 => ?_
      refine ⟨r, ix.take i, rfl, .inr (SqT.of h2), by rw [List.length_take]; omega, fun ws q1 hw hs hq1 => ⟨q1, _, rfl, .inl ⟨SqL.of upd_same, fun fr hfr => ?_⟩⟩⟩
      have s3 : Same H' _ := sT.trans (s2.trans ((same_new (o := .lst (ws.map V.str)) hq1).trans (same_new (o := .tup (ws.map V.str)) hfr)))
      have ew : ws = srt (ix.take i) := srt_eq hw hs
      -- found.append((front, column))
      refine ⟨_, rfl, .inl ⟨rfl, _, SqL.of (s3 _ _ hpl)⟩, _, rfl, _, rfl, by show 2 ≤ sizeLine; decide, fun q2 hq2 => ⟨p, _, _, rfl, rfl, same_new hq2 _ _ (s3 _ _ hpl), small1000 (by omega), ?_⟩⟩
      have s4 := s3.trans (same_new (o := .tup [.ref fr, .str ix[i]]) hq2)
      have hfr4 : (upd (upd (upd H2 q1 (.lst (ws.map V.str))) fr (.tup (ws.map V.str))) q2 (.tup [.ref fr, .str ix[i]])) fr = some (.tup (ws.map V.str)) := same_new hq2 _ _ upd_same
      have nfrp : fr ≠ p := ne_of hfr4 (s4 _ _ hpl) (by intro z; cases z)
      have nq2p : q2 ≠ p := ne_of upd_same (s4 _ _ hpl) (by intro z; cases z)
      have hq4 : QL _ ys (allQ ix i) := hq.same s4
      -- all questions that stand are tuples: they stay when p's list changes
      have keepP : ∀ {H0 : Hp} {o : HO} {zs : List V} {qs : List Qd} {w0 : List V}, H0 p = some (.lst w0) → QL H0 zs qs → QL (upd H0 p o) zs qs := by
        intro H0 o zs qs w0 hp0 hz
        refine Paired.mapP hz fun x q ⟨t', e, c, g1, g2⟩ => ⟨t', e, c, ?_, ?_⟩
        · rw [upd_ne (ne_of g1 hp0 (by intro z; cases z))]
          exact g1
        · rw [upd_ne (ne_of g2 hp0 (by intro z; cases z))]
          exact g2
      have hA : QL (upd (upd (upd (upd H2 q1 (.lst (ws.map V.str))) fr (.tup (ws.map V.str))) q2 (.tup [.ref fr, .str ix[i]])) p (.lst (ys ++ [.ref q2]))) (ys ++ [.ref q2]) (allQ ix i ++ [(srt (ix.take i), ix.getD i "")]) := by
        refine keepP (s4 _ _ hpl) (paired_app hq4 (.cons ⟨q2, rfl, fr, ?_, ?_⟩ .nil))
        · show (_ : Option HO) = some (HO.tup [.ref fr, .str (ix.getD i "")])
          rw [hgd]
          exact upd_same
        · show (_ : Option HO) = some (HO.tup ((srt (ix.take i)).map V.str))
          rw [← ew]
          exact hfr4
      have hfr5 : (upd (upd (upd (upd H2 q1 (.lst (ws.map V.str))) fr (.tup (ws.map V.str))) q2 (.tup [.ref fr, .str ix[i]])) p (.lst (ys ++ [.ref q2]))) fr = some (.tup (ws.map V.str)) := by
        rw [upd_ne nfrp]
        exact hfr4
      -- found.append((tuple(sorted([*front, column])), ''))
      refine ⟨_, rfl, .inl ⟨rfl, _, SqL.of upd_same⟩, _, rfl, fr, _, rfl, .inl (SqT.of hfr5), _, rfl, ?_, fun d1 hd1 => ?_⟩
      · show (ws.map V.str ++ [V.str ix[i]]).length ≤ sizeLine
        have hwl := hw.length_eq
        rw [List.length_take] at hwl
        rw [List.length_append, List.length_map, sizeLine_eq]
        simp
        omega
      have e6 : ws.map V.str ++ [V.str ix[i]] = (ws ++ [ix[i]]).map V.str := by rw [List.map_append]; rfl
      show (fun (Hx : Hp) => _) (upd _ d1 (.lst (ws.map V.str ++ [V.str ix[i]])))
      rw [e6]
      refine ⟨d1, ws ++ [ix[i]], rfl, .inl (SqL.of upd_same), ?_, fun us d2 hu2 hs2 hd2 => ⟨d2, _, rfl, .inl ⟨SqL.of upd_same, fun d3 hd3 => ⟨by show 2 ≤ sizeLine; decide, fun d4 hd4 => ?_⟩⟩⟩⟩
      · have hwl := hw.length_eq
        rw [List.length_take] at hwl
        rw [List.length_append]
        simp
        omega
      have eu : us = srt (ix.take (i + 1)) := by
        refine srt_eq (hu2.trans ?_) hs2
        rw [List.take_add_one, List.getElem?_eq_getElem hil]
        exact hw.append_right _
      have sB : Same (upd (upd (upd (upd H2 q1 (.lst (ws.map V.str))) fr (.tup (ws.map V.str))) q2 (.tup [.ref fr, .str ix[i]])) p (.lst (ys ++ [.ref q2]))) _ :=
        (same_new (o := .lst ((ws ++ [ix[i]]).map V.str)) hd1).trans ((same_new (o := .lst (us.map V.str)) hd2).trans ((same_new (o := .tup (us.map V.str)) hd3).trans (same_new (o := .tup [.ref d3, .str ""]) hd4)))
      have hpB := sB _ _ (upd_same (H := (upd (upd (upd H2 q1 (.lst (ws.map V.str))) fr (.tup (ws.map V.str))) q2 (.tup [.ref fr, .str ix[i]]))) (a := p) (o := .lst (ys ++ [.ref q2])))
      refine ⟨p, _, _, rfl, rfl, hpB, small1000 (by rw [List.length_append]; simp; omega), ?_⟩
      refine ⟨_, _, _, _, rfl, fun c o hc => ?_, upd_same, ?_⟩
      · have ncp : c ≠ p := ne_of_none hc hp
        rw [upd_ne ncp]
        refine sB _ _ ?_
        rw [upd_ne ncp]
        exact s4 _ _ (s1 _ _ hc)
      · rw [allQ_succ]
        show QL _ (ys ++ [.ref q2] ++ [.ref d4]) (allQ ix i ++ [(srt (ix.take i), ix.getD i ""), (srt (ix.take (i + 1)), "")])
        have e7 : allQ ix i ++ [(srt (ix.take i), ix.getD i ""), ((srt (ix.take (i + 1)), ("" : Str)) : Qd)] = allQ ix i ++ [(srt (ix.take i), ix.getD i "")] ++ [((srt (ix.take (i + 1)), ("" : Str)) : Qd)] := by
          rw [List.append_assoc]
          rfl
        rw [e7]
        refine keepP hpB (paired_app (hA.same sB) (.cons ⟨d4, rfl, d3, upd_same, ?_⟩ .nil))
        show (_ : Option HO) = some (HO.tup ((srt (ix.take (i + 1))).map V.str))
        rw [← eu]
        exact same_new hd4 _ _ upd_same
    · rintro σ H' ⟨v2, v3, v4, ys, rfl, s1, hpl, hq⟩
      rw [hlx] at hq
      refine ⟨_, rfl, p, ys, _, rfl, SqL.of hpl, hq, fun q hq' c hc => okS_strOk ((allQ_fine R (Nat.le_refl _) q hq').c c hc), fun zs rs p2 h1 h2 h3 h4 => ?_⟩
      have sN := same_new (o := .lst zs) h4
      exact k zs rs p2 _ (s1.trans sN) (s1.free h4) upd_same (h1.same sN) h2 h3
theorem pw_risingS : ∀ (r : List Str) (p : Str), (p :: r).Pairwise leS → risingS p r = true
  | [], _, _ => rfl
  | x :: r, p, h => by
    obtain ⟨h1, h2⟩ := List.pairwise_cons.mp h
    have h3 : ltCps x.cps.toList p.cps.toList = false := h1 x List.mem_cons_self
    show (!ltCps x.cps.toList p.cps.toList && risingS x r) = true
    rw [h3, pw_risingS r x h2]
    rfl
theorem pw_sortedS {xs : List Str} (h : xs.Pairwise leS) : sortedS xs = true := by
  cases xs with
  | nil => rfl
  | cons x r => exact pw_risingS r x h
theorem exists_sorted (xs : List Str) : ∃ ws : List Str, ws.Perm xs ∧ sortedS ws = true := ⟨srt xs, srt_perm xs, pw_sortedS (srt_pw xs)⟩
theorem scServ : FnScope ["index", "question", "columns", "last", "many"] ["index", "question"] (defScope sServ) := ⟨rfl, rfl, rfl, by decide +kernel, rfl, by decide +kernel, by decide +kernel⟩
theorem ok_serv {f : Addr} {fd : FuncData} (F : Fun K "serves" "serves" sServ f fd) (T : Txt K mg) : FnOk P w K mg base CX0 1 f fd ["index", "question"] spServes := by
  refine F.ok scServ (fun vs H Q E h => ?_) (fun cdv A outer s H vs Q E hr h => ?_)
  · obtain ⟨t, q, ix, cols, e, rfl, _⟩ := h
    rfl
  · obtain ⟨t, q, ix, cols, e, rfl, ht, ⟨c, hq, hc⟩, hl, hxl, hxn, hxm, hcn, hcs, hcm, hem, k⟩ := h
    have nd := scServ.nd
    refine ⟨_, pss_cons (ps_asg (pv 1) (pg_tup (by rfl) (pgs_cons (pg_name (i := 2) nd rfl (Or.inl rfl)) (pgs_cons (pg_name (i := 3) nd rfl (Or.inl rfl)) pgs_nil))))
      (pss_cons (ps_set (i := 4) nd rfl (Or.inl rfl) (pe_callB call_len_seq (by rfl) T.len PySem.boot_len (pa_cons (pv 2) pa_nil)))
      (Evl.pss_cut (ps_if (PW.pt (pw_and (pt_cmpR op_ne (pv 3) pe_str (nomark _)) (pw_and1 (pt_cmpR (op_neD hr.units) (pe_slice sl_tupA (pv 0) (po_some (pv 4)) (po_some (pe_op op_add (pv 4) pe_int)))
          (pe_tup (pa_cons (pv 3) pa_nil)) (nomark _))))) (pss_one (ps_ret pe_bl)) pss_nil)
      (pss_one (ps_ret (pe_cmpR (op_eqD hr.units) (pe_callTy call_tuple_of (by rfl) T.tuple (by decide +kernel) (pa_cons (pe_callB cr_sortedST (by rfl) T.sorted (by decide +kernel)
        (pa_cons (pe_slice sl_tupA (pv 0) po_none (po_some (pv 4))) pa_nil)) pa_nil)) (pv 2) (nomark _)))))), ?_⟩
    have hlm : (cols.map V.str).length = cols.length := List.length_map _
    have fn : ∀ ws : List Str, ws.Perm (ix.take cols.length) → sortedS ws = true → (fault ix cols e = none ↔ ws = cols ∧ (e = "" ∨ ix[cols.length]? = some e)) := fun ws hw hs => fault_none hxn hcn hcs hw hs
    have cm : ∀ c ∈ cols, PyData.strOk c = true := fun c hc => menu_ok _ (hcm _ hc)
    refine ⟨_, rfl, q, _, rfl, SqT.of hq, rfl, _, _, rfl, _, _, rfl, rfl, _, rfl, _, _, rfl, .inr (SqT.of hc), ?_⟩
    rw [hlm]
    refine ⟨fun σ' H' => σ' = [some (.ref t), some (.ref q), some (.ref c), some (.str e), some (.int (cols.length : Int))] ∧ Same H H' ∧ (e = "" ∨ ix[cols.length]? = some e), ?_, ?_⟩
    · refine ⟨_, rfl, rfl, _, rfl, ?_⟩
      show if (!decide (V.str e = V.str "")) = true then _ else _
      by_cases he : e = ""
      · rw [decide_eq_true (congrArg V.str he)]
        refine iteF ?_
        refine iteF ?_
        exact ⟨rfl, Same.refl _, .inl he⟩
      · rw [decide_eq_false (fun h => he (by injection h))]
        refine iteT ?_
        refine ⟨_, rfl, _, rfl, _, rfl, _, rfl, _, _, rfl, rfl, _, rfl, ?_⟩
        refine slA ht (cut_one cols.length ix) fun r2 H4 s4 h4 => ?_
        refine ⟨_, rfl, by show 1 ≤ sizeLine; decide, fun p5 hp5 => ?_⟩
        have em : e ∈ menu := hem.resolve_left he
        have lm : ∀ c ∈ (ix.drop cols.length).take 1, PyData.strOk c = true := fun c hc => menu_ok _ (hxm _ ((List.drop_sublist _ _).mem ((List.take_sublist _ _).mem hc)))
        have s5 := s4.trans (same_new (o := .tup [.str e]) hp5)
        refine ⟨.tuple (((ix.drop cols.length).take 1).map PyData.str), .tuple ([e].map PyData.str), .tup (SqT.of (same_new hp5 _ _ h4)) (dp_strs _), .tup (SqT.of upd_same) (dp_strs [e]), shaped_tuple lm,
          shaped_tuple (fun c hc => by rw [List.mem_singleton.mp hc]; exact menu_ok _ em), _, rfl, ?_⟩
        show if (!PyData.eqv (.tuple (((ix.drop cols.length).take 1).map PyData.str)) (.tuple ([e].map PyData.str))) = true then _ else _
        rw [PyData.eqv, eqv_strs]
        by_cases hm : (ix.drop cols.length).take 1 = [e]
        · rw [decide_eq_true hm]
          refine iteF ?_
          exact ⟨rfl, s5, .inr (take_one.mp hm)⟩
        · rw [decide_eq_false hm]
          refine iteT ?_
          have kk := k _ s5
          have hf : ¬ fault ix cols e = none := fun h => by
            obtain ⟨ws, hw, hs⟩ := exists_sorted (ix.take cols.length)
            rcases ((fn ws hw hs).mp h).2 with q | q
            · exact he q
            · exact hm (take_one.mpr q)
          rw [decide_eq_false hf] at kk
          exact kk
    · rintro σ' H1 ⟨rfl, s1, hd⟩
      refine ⟨_, rfl, _, rfl, _, rfl, ?_⟩
      refine slA (s1 _ _ ht) ((cut_to cols.length _).trans List.map_take.symm) fun r H2 s2 h2 => ?_
      refine ⟨r, ix.take cols.length, rfl, .inr (SqT.of h2), by rw [List.length_take]; omega, fun ws p hw hs hp => ?_⟩
      refine ⟨p, _, rfl, .inl ⟨SqL.of upd_same, fun d hd2 => ?_⟩⟩
      have s5 := (s1.trans s2).trans ((same_new (o := .lst (ws.map V.str)) hp).trans (same_new (o := .tup (ws.map V.str)) hd2))
      have wm : ∀ c ∈ ws, PyData.strOk c = true := fun c hc => menu_ok _ (hxm _ ((List.take_sublist _ _).mem (hw.mem_iff.mp hc)))
      refine ⟨_, rfl, .tuple (ws.map PyData.str), .tuple (cols.map PyData.str), .tup (SqT.of upd_same) (dp_strs _), .tup (SqT.of (s5 _ _ hc)) (dp_strs _), shaped_tuple wm, shaped_tuple cm, ?_⟩
      have kk := k _ s5
      rw [PyData.eqv, eqv_strs]
      have e3 : decide (fault ix cols e = none) = decide (ws = cols) := decide_eq_decide.mpr ⟨fun h => ((fn ws hw hs).mp h).1, fun h => (fn ws hw hs).mpr ⟨h, hd⟩⟩
      rw [e3] at kk
      exact kk
theorem scRow : FnScope ["question", "columns", "last"] ["question"] (defScope sRow) := ⟨rfl, rfl, rfl, by decide +kernel, rfl, by decide +kernel, by decide +kernel⟩
theorem ok_row {f : Addr} {fd : FuncData} (F : Fun K "row_of" "row_of" sRow f fd) (T : Txt K mg) : FnOk P w K mg base CX0 1 f fd ["question"] spRow := by
  refine F.ok scRow (fun vs H Q E h => ?_) (fun cdv A outer s H vs Q E hr h => ?_)
  · obtain ⟨q, cols, e, rfl, _⟩ := h
    rfl
  · obtain ⟨q, cols, e, rfl, ⟨c, hq, hc⟩, Z, k⟩ := h
    have nd := scRow.nd
    refine ⟨_, pss_cons (ps_asg (pv 0) (pg_tup (by rfl) (pgs_cons (pg_name (i := 1) nd rfl (Or.inl rfl)) (pgs_cons (pg_name (i := 2) nd rfl (Or.inl rfl)) pgs_nil))))
      (pss_cons (ps_if (pt_cmpR op_eq (pv 2) pe_str (nomark _)) (pss_one (ps_ret (pv 1))) pss_nil)
      (pss_one (ps_ret (pe_tup (StX.pa_star (pv 1) (pa_cons (pv 2) pa_nil)))))), ?_⟩
    refine ⟨_, rfl, q, _, rfl, SqT.of hq, rfl, _, _, rfl, _, _, rfl, rfl, _, rfl, rfl, _, rfl, ?_⟩
    by_cases he : e = ""
    · rw [decide_eq_true (congrArg V.str he)]
      refine iteT ?_
      refine ⟨_, rfl, k c H (Same.refl _) ?_⟩
      unfold rowC
      rw [if_pos he]
      exact hc
    · rw [decide_eq_false (fun h => he (by injection h))]
      refine iteF ?_
      have hz := Z.le
      rw [if_neg he] at hz
      refine ⟨_, rfl, c, _, rfl, .inl (SqT.of hc), _, rfl, ?_, fun d1 hd1 => ?_⟩
      · show (cols.map V.str ++ [V.str e]).length ≤ sizeLine
        rw [List.length_append, List.length_map, sizeLine_eq]
        simp
        omega
      refine k d1 _ (same_new hd1) ?_
      unfold rowC
      rw [if_neg he, List.map_append]
      exact upd_same
theorem scCols : FnScope ["question"] ["question"] (defScope sCols) := ⟨rfl, rfl, rfl, by decide +kernel, rfl, by decide +kernel, by decide +kernel⟩
theorem ok_cols {f : Addr} {fd : FuncData} (F : Fun K "columns_of" "columns_of" sCols f fd) (T : Txt K mg) (cR : Cal P w K mg base 1 "row_of" ["question"] spRow) : FnOk P w K mg base CX0 2 f fd ["question"] spCols := by
  refine F.ok scCols (fun vs H Q E h => ?_) (fun cdv A outer s H vs Q E hr h => ?_)
  · obtain ⟨q, cols, e, rfl, _⟩ := h
    rfl
  · obtain ⟨q, cols, e, rfl, hq, Z, k⟩ := h
    refine ⟨_, pss_one (ps_ret (pe_callTy call_tuple_of (by rfl) T.tuple (by decide +kernel) (pa_cons (pe_callB cr_sortedST (by rfl) T.sorted (by decide +kernel)
      (pa_cons (pe_call cR.G hr rfl cR.m cR.kp cR.b .nil pass0 (pa_cons (pv 0) pa_nil)) pa_nil)) pa_nil))), ?_⟩
    refine ⟨_, rfl, q, cols, e, rfl, hq, Z, fun t H1 s1 ht => ⟨t, rowC cols e, rfl, .inr (SqT.of ht), by have := Z.row_le; omega, fun us d2 hu2 hs2 hd2 => ⟨d2, _, rfl, .inl ⟨SqL.of upd_same, fun d3 hd3 => ?_⟩⟩⟩⟩
    refine k d3 _ (s1.trans ((same_new hd2).trans (same_new hd3))) ?_
    have eu : us = allC cols e := by
      rw [srt_eq hu2 hs2]
      unfold allC rowC
      split
      · exact srt_self Z.m.srt
      · rfl
    rw [eu]
    exact upd_same
/-- a row that stands as a tuple is one -/
def spRowT : Sp := fun vs H Q _ => ∃ (t : Addr) (r : List Str), vs = [.ref t] ∧ H t = some (.tup (r.map V.str)) ∧ Row r ∧ ∀ H', Same H H' → Q (.bl true) H'
abbrev nAD : List Str := ["things", "thing"]
theorem scAreDiff : FnScope nAD ["things"] (defScope sAreDiff) := ⟨rfl, rfl, rfl, by decide +kernel, rfl, by decide +kernel, by decide +kernel⟩
theorem ok_arediff {f : Addr} {fd : FuncData} (F : Fun K "are_different_columns" "are_different_columns" sAreDiff f fd) (T : Txt K mg) (cC : Cal P w K mg base 1 "is_column" ["thing"] (spText K colS)) : FnOk P w K mg base CX0 2 f fd ["things"] spRowT := by
  refine F.ok scAreDiff (fun vs H Q E h => ?_) (fun cdv A outer s H vs Q E hr h => ?_)
  · obtain ⟨t, r, rfl, _⟩ := h
    rfl
  · obtain ⟨t, r, rfl, ht, R, k⟩ := h
    have nd := scAreDiff.nd
    refine ⟨_, pss_one (ps_ret (pe_and (pe_callB (cr_all rfl) (by rfl) T.all (by decide +kernel) (pa_cons (pe_lc (own := [("thing", 1)]) (g := gName 1) (tt := tYes) rfl nd (pi_tup (pv 0)) (blkOk_by (N := nAD) (sc := defScope sAreDiff) (by decide +kernel))
          (fun _ _ _ _ _ => pg_name (i := 1) nd rfl (by first | exact Or.inl rfl | exact Or.inr rfl)) (fun _ _ _ _ _ => pts_nil) (fun _ _ _ _ _ => pe_call cC.G hr rfl cC.m cC.kp cC.b .nil pass0 (pa_cons (pv 1) pa_nil))) pa_nil))
        (pe_one (pe_cmpR op_eq (pe_callB (r := rLenX P w) cr_lenX (by rfl) T.len PySem.boot_len (pa_cons (pe_callTy (r := rSetX K P w) (cr_setX rfl) (by rfl) T.set (by decide +kernel) (pa_cons (pv 0) pa_nil)) pa_nil)) (pe_callB call_len_seq (by rfl) T.len PySem.boot_len (pa_cons (pv 0) pa_nil)) (nomark _))))), ?_⟩
    refine ⟨_, rfl, t, rfl, ⟨_, SqT.of ht⟩, fun D hD => ?_⟩
    refine lc_tup (K := K) (a := t) (xs := r.map V.str) (fun i H' => Same H H' ∧ H' D = some (.lst ((List.replicate i true).map V.bl))) ⟨same_new hD, upd_same⟩ (fun i H' _ h => SqT.of (h.1 _ _ ht)) ?_ ?_
    · rintro i x H1 hx ⟨s1, hDl⟩
      rw [List.getElem?_map] at hx
      obtain ⟨c, hc, rfl⟩ := Option.map_eq_some_iff.mp hx
      have mc := R.sub c (List.mem_of_getElem? hc)
      have li : i < 12 := Nat.lt_of_lt_of_le (List.getElem?_eq_some_iff.mp hc).1 R.le
      refine ⟨rfl, Exists.intro _ ⟨rfl, _, rfl, .inl ⟨c, rfl, menu_sz c mc, menu_ok c mc, fun H2 s2 => ?_⟩⟩⟩
      rw [menu_col c mc]
      refine ⟨_, s2 _ _ hDl, small1000 (by simp; omega), fun b o hb => ?_, ?_⟩
      · rw [upd_ne (ne_of_none hb hD)]
        exact s2 _ _ (s1 _ _ hb)
      · rw [upd_same, rep_snoc]
    · rintro H1 ⟨s1, hDl⟩
      refine ⟨D, _, rfl, SqL.of hDl, _, rfl, ?_⟩
      rw [rep_all]
      refine iteT ?_
      have ht1 := s1 _ _ ht
      refine ⟨_, rfl, t, r, rfl, SqT.of ht1, Nat.le_trans R.le (by decide), fun p n hp hn he => ⟨p, _, n, rfl, upd_same, ?_⟩⟩
      have s2 := same_new (o := SetX P w p (fun z => decide (z ∈ r)) n) hp
      refine ⟨_, rfl, t, _, rfl, .inr (SqT.of (s2 _ _ ht1)), rfl, ?_⟩
      have e : decide (V.int (n : Int) = V.int ((r.map V.str).length : Int)) = true := by
        rw [he R.nd, List.length_map]
        exact decide_eq_true rfl
      show Q (V.bl (decide (V.int (n : Int) = V.int ((r.map V.str).length : Int)))) _
      rw [e]
      exact k _ (s1.trans s2)
theorem scIsIndex : FnScope ["thing"] ["thing"] (defScope sIsIndex) := ⟨rfl, rfl, rfl, by decide +kernel, rfl, by decide +kernel, by decide +kernel⟩
theorem ok_isindex {f : Addr} {fd : FuncData} (F : Fun K "is_index" "is_index" sIsIndex f fd) (T : Txt K mg) (cD : Cal P w K mg base 2 "are_different_columns" ["things"] spRowT) : FnOk P w K mg base CX0 3 f fd ["thing"] spRowT := by
  refine F.ok scIsIndex (fun vs H Q E h => ?_) (fun cdv A outer s H vs Q E hr h => ?_)
  · obtain ⟨t, r, rfl, _⟩ := h
    rfl
  · obtain ⟨t, r, rfl, ht, R, k⟩ := h
    refine ⟨_, pss_one (ps_ret (pe_and (pe_callB call_isi (by rfl) T.isinstance (by decide +kernel) (pa_cons (pv 0) (pa_cons (pe_bltn (v := .ty "tuple") (by rfl) T.tuple (by decide +kernel) rfl) pa_nil)))
      (pe_and (pe_cmpR op_gt (pe_callB call_len_seq (by rfl) T.len PySem.boot_len (pa_cons (pv 0) pa_nil)) pe_int (nomark _)) (pe_one (pe_call cD.G hr rfl cD.m cD.kp cD.b .nil pass0 (pa_cons (pv 0) pa_nil)))))), ?_⟩
    refine ⟨_, rfl, _, _, .type "tuple", .type "tuple", true, rfl, .ty "tuple", .base (.tup ht), kit_ty (by decide +kernel), _, rfl, ?_⟩
    refine iteT ?_
    refine ⟨_, rfl, _, _, rfl, .inr (SqT.of ht), _, 0, rfl, rfl, _, rfl, ?_⟩
    have hp := R.pos
    have e1 : decide ((0 : Int) < ((r.map V.str).length : Int)) = true := decide_eq_true (by rw [List.length_map]; omega)
    rw [e1]
    refine iteT ?_
    exact ⟨_, rfl, t, r, rfl, ht, R, k⟩
def spAreIxs : Sp := fun vs H Q _ => ∃ (a : Addr) (xs : List V) (rs : List (List Str)), vs = [.ref a] ∧ (H a = some (.lst xs) ∨ H a = some (.tup xs)) ∧ TL H xs rs ∧ xs.length < 64 ∧ (∀ r ∈ rs, Row r) ∧ ∀ H', Same H H' → Q (.bl true) H'
abbrev nAI : List Str := ["thing", "one"]
theorem scAreIxs : FnScope nAI ["thing"] (defScope sAreIxs) := ⟨rfl, rfl, rfl, by decide +kernel, rfl, by decide +kernel, by decide +kernel⟩
theorem ok_areixs {f : Addr} {fd : FuncData} (F : Fun K "are_indexes" "are_indexes" sAreIxs f fd) (T : Txt K mg) (cI : Cal P w K mg base 3 "is_index" ["thing"] spRowT) : FnOk P w K mg base CX0 4 f fd ["thing"] spAreIxs := by
  refine F.ok scAreIxs (fun vs H Q E h => ?_) (fun cdv A outer s H vs Q E hr h => ?_)
  · obtain ⟨a, xs, rs, rfl, _⟩ := h
    rfl
  · obtain ⟨a, xs, rs, rfl, ha, hq, hl, hz, k⟩ := h
    have nd := scAreIxs.nd
    refine ⟨_, pss_one (ps_ret (pe_and (pe_callB call_isiT (by rfl) T.isinstance (by decide +kernel) (pa_cons (pv 0) (pa_cons (pe_tup (pa_cons (pe_bltn (v := .ty "list") (by rfl) T.list (by decide +kernel) rfl) (pa_cons (pe_bltn (v := .ty "tuple") (by rfl) T.tuple (by decide +kernel) rfl) pa_nil))) pa_nil)))
      (pe_one (pe_callB (cr_all rfl) (by rfl) T.all (by decide +kernel) (pa_cons (pe_lc (own := [("one", 1)]) (g := gName 1) (tt := tYes) rfl nd (PI.or (pi_list (pv 0)) (pi_tup (pv 0))) (blkOk_by (N := nAI) (sc := defScope sAreIxs) (by decide +kernel))
        (fun _ _ _ _ _ => pg_name (i := 1) nd rfl (by first | exact Or.inl rfl | exact Or.inr rfl)) (fun _ _ _ _ _ => pts_nil) (fun _ _ _ _ _ => pe_call cI.G hr rfl cI.m cI.kp cI.b .nil pass0 (pa_cons (pv 1) pa_nil))) pa_nil))))), ?_⟩
    refine ⟨_, rfl, by show 2 ≤ sizeLine; decide, fun tp htp => ?_⟩
    have s0 := same_new (o := .tup [.ty "list", .ty "tuple"]) htp
    have step : ∀ {G0 : Hp} {D : Addr}, Same H G0 → G0 D = none → ∀ (i : Nat) (x : V) (H1 : Hp), xs[i]? = some x → (Same G0 H1 ∧ H1 D = some (.lst ((List.replicate i true).map V.bl))) → ∃ (t : Addr) (r : List Str), x = .ref t ∧ H1 t = some (.tup (r.map V.str)) ∧ Row r ∧ i < 64 := fun {G0 D} s hD i x H1 hx h => by
      obtain ⟨t, r, e, h1, h2⟩ := ((hq.same s).same h.1).at_ hx
      exact ⟨t, r, e, h2, hz r (List.mem_of_getElem? h1), Nat.lt_trans (List.getElem?_eq_some_iff.mp hx).1 hl⟩
    rcases ha with ha | ha
    · refine ⟨_, tp, _, .type "list", [.type "list", .type "tuple"], true, rfl, upd_same, .cons (.ty "list") (.cons (.ty "tuple") .nil), .base (.lst (s0 _ _ ha)), ?_, _, rfl, ?_⟩
      · exact kitAny_cons (b := true) (kit_ty (by decide +kernel)) (fun h => by cases h) (fun _ => rfl)
      refine iteT ?_
      have ha0 := s0 _ _ ha
      generalize upd H tp (.tup [.ty "list", .ty "tuple"]) = H0 at s0 ha0 ⊢
      refine .inl ⟨_, rfl, a, rfl, ⟨_, SqL.of ha0⟩, fun D hD => ?_⟩
      refine lc_list (K := K) (a := a) (xs := xs) (fun i H' => Same H0 H' ∧ H' D = some (.lst ((List.replicate i true).map V.bl))) ⟨same_new hD, upd_same⟩ (fun i H' _ h => SqL.of (h.1 _ _ ha0)) ?_ ?_
      · rintro i x H1 hx h1
        obtain ⟨t, r, rfl, ht, R, li⟩ := step s0 hD i x H1 hx h1
        obtain ⟨s1, hDl⟩ := h1
        refine ⟨rfl, Exists.intro _ ⟨rfl, t, r, rfl, ht, R, fun H2 s2 => ?_⟩⟩
        refine ⟨_, s2 _ _ hDl, small1000 (by simp; omega), fun b o hb => ?_, ?_⟩
        · rw [upd_ne (ne_of_none hb hD)]
          exact s2 _ _ (s1 _ _ hb)
        · rw [upd_same, rep_snoc]
      · rintro H1 ⟨s1, hDl⟩
        refine ⟨D, _, rfl, SqL.of hDl, ?_⟩
        rw [rep_all]
        exact k H1 (s0.trans s1)
    · refine ⟨_, tp, _, .type "tuple", [.type "list", .type "tuple"], true, rfl, upd_same, .cons (.ty "list") (.cons (.ty "tuple") .nil), .base (.tup (s0 _ _ ha)), ?_, _, rfl, ?_⟩
      · exact kitAny_cons (b := false) (kit_ty (by decide +kernel)) (fun _ => kitAny_cons (b := true) (kit_ty (by decide +kernel)) (fun h => by cases h) (fun _ => rfl)) (fun h => by cases h)
      refine iteT ?_
      have ha0 := s0 _ _ ha
      generalize upd H tp (.tup [.ty "list", .ty "tuple"]) = H0 at s0 ha0 ⊢
      refine .inr ⟨_, rfl, a, rfl, ⟨_, SqT.of ha0⟩, fun D hD => ?_⟩
      refine lc_tup (K := K) (a := a) (xs := xs) (fun i H' => Same H0 H' ∧ H' D = some (.lst ((List.replicate i true).map V.bl))) ⟨same_new hD, upd_same⟩ (fun i H' _ h => SqT.of (h.1 _ _ ha0)) ?_ ?_
      · rintro i x H1 hx h1
        obtain ⟨t, r, rfl, ht, R, li⟩ := step s0 hD i x H1 hx h1
        obtain ⟨s1, hDl⟩ := h1
        refine ⟨rfl, Exists.intro _ ⟨rfl, t, r, rfl, ht, R, fun H2 s2 => ?_⟩⟩
        refine ⟨_, s2 _ _ hDl, small1000 (by simp; omega), fun b o hb => ?_, ?_⟩
        · rw [upd_ne (ne_of_none hb hD)]
          exact s2 _ _ (s1 _ _ hb)
        · rw [upd_same, rep_snoc]
      · rintro H1 ⟨s1, hDl⟩
        refine ⟨D, _, rfl, SqL.of hDl, ?_⟩
        rw [rep_all]
        exact k H1 (s0.trans s1)
/-- a Shelf whose list stands at l -/
def HasI (H : Hp) (C a l : Addr) (xs : List V) : Prop := ∃ dx : Addr, H a = some (.ins C dx [("_indexes", .ref l)]) ∧ H l = some (.lst xs)
theorem HasI.same {H H' : Hp} {C a l : Addr} {xs : List V} (s : Same H H') (h : HasI H C a l xs) : HasI H' C a l xs := by
  obtain ⟨dx, h1, h2⟩ := h
  exact ⟨dx, s _ _ h1, s _ _ h2⟩
theorem HasI.kp {H H' : Hp} {C a l b : Addr} {xs : List V} (nb : l ≠ b) (na : a ≠ b) (s : Kp b H H') (h : HasI H C a l xs) : HasI H' C a l xs := by
  obtain ⟨dx, h1, h2⟩ := h
  exact ⟨dx, s _ _ h1 na, s _ _ h2 nb⟩
def spInitS (C : Addr) : Sp := fun vs H Q _ => ∃ (x a dx : Addr) (xs : List V) (rs : List (List Str)), vs = [.ref x, .ref a] ∧ H x = some (.ins C dx []) ∧ (H a = some (.lst xs) ∨ H a = some (.tup xs)) ∧ TL H xs rs ∧ xs.length ≤ 48 ∧ (∀ r ∈ rs, Row r) ∧
  ∀ (H' : Hp) (l : Addr), (∀ b o, H b = some o → b ≠ x → H' b = some o) → HasI H' C x l xs → H l = none → Q .non H'
theorem scInit : FnScope ["self", "indexes"] ["self", "indexes"] (defScope sInit) := ⟨rfl, rfl, rfl, by decide +kernel, rfl, by decide +kernel, by decide +kernel⟩
theorem ok_init {f C : Addr} {fd : FuncData} (F : Fun K "__init__" "Shelf.__init__" sInit f fd) (T : Txt K mg) (TC : TxC K mg C) (cQ : Cal P w K mg base 4 "are_indexes" ["thing"] spAreIxs) : FnOk P w K mg base CX0 5 f fd ["self", "indexes"] (spInitS C) := by
  refine F.ok scInit (fun vs H Q E h => ?_) (fun cdv A outer s H vs Q E hr h => ?_)
  · obtain ⟨x, a, dx, xs, rs, rfl, _⟩ := h
    rfl
  · obtain ⟨x, a, dx, xs, rs, rfl, hx, ha, hq, hl, hz, k⟩ := h
    obtain ⟨tl, htl⟩ := T.limit
    refine ⟨_, pss_cons (ps_if (pt_not (pt_val (pe_call cQ.G hr rfl cQ.m cQ.kp cQ.b .nil pass0 (pa_cons (pv 1) pa_nil)))) (pss_one ps_dead) pss_nil)
      (pss_cons (ps_if (pt_cmpR op_gt (pe_callB call_len_seq (by rfl) T.len PySem.boot_len (pa_cons (pv 1) pa_nil)) (pe_glob (v := .int 48) rfl htl ⟨tl, rfl⟩) (nomark _)) (pss_one ps_dead) pss_nil)
      (pss_one (ps_fld (pv 0) (pe_callTy call_list_of (by rfl) T.list (by decide +kernel) (pa_cons (pv 1) pa_nil)) rfl))), ?_⟩
    refine ⟨_, rfl, a, xs, rs, rfl, ha, hq, by omega, hz, fun H1 s1 => ⟨_, rfl, ?_⟩⟩
    refine iteF ?_
    have sq : SqL K H1 a xs ∨ SqT K H1 a xs := ha.imp (fun h => SqL.of (s1 _ _ h)) fun h => SqT.of (s1 _ _ h)
    refine ⟨_, rfl, _, _, rfl, sq, _, 48, rfl, rfl, _, rfl, ?_⟩
    have e1 : decide ((48 : Int) < (xs.length : Int)) = false := decide_eq_false (by omega)
    rw [e1]
    refine iteF ?_
    refine ⟨_, rfl, a, xs, rfl, sq, fun l hl0 => ?_⟩
    have s2 := same_new (o := .lst xs) hl0
    have hx2 := s2 _ _ (s1 _ _ hx)
    have nlx : l ≠ x := fun e => by rw [e, s1 _ _ hx] at hl0; cases hl0
    have hlH : H l = none := by
      cases e : H l with
      | none => rfl
      | some o =>
        rw [s1 _ _ e] at hl0
        cases hl0
    refine ⟨_, rfl, x, C, dx, [], rfl, hx2, TC.cl, TC.nQ, by show 0 < 1000; decide, ?_⟩
    exact k _ l (fun b o hb nb => by rw [upd_ne nb]; exact s2 _ _ (s1 _ _ hb)) ⟨dx, upd_same, by rw [upd_ne nlx]; exact upd_same⟩ hlH
theorem scIter : FnScope ["self"] ["self"] (defScope sIter) := ⟨rfl, rfl, rfl, by decide +kernel, rfl, by decide +kernel, by decide +kernel⟩
theorem ok_itr {f C : Addr} {fd : FuncData} (F : Fun K "__iter__" "Shelf.__iter__" sIter f fd) (T : Txt K mg) (TC : TxC K mg C) : FnS P w K mg base 1 f fd ["self"] (spIterF C "_indexes") := by
  refine okN F scIter (fun n vs H Q E h => ?_) (fun cdv A outer s H vs Q E hr h => ?_)
  · obtain ⟨a, dx, l, fs, xs, rfl, _⟩ := h
    rfl
  · obtain ⟨a, dx, l, fs, xs, rfl, ha, hl, hx, k⟩ := h
    refine ⟨_, pss_one (ps_ret (pe_callB ItX.call_iterN (by rfl) T.iter (by decide +kernel) (pa_cons (pe_fld (pv 0) rfl) pa_nil))), ?_⟩
    exact ⟨_, rfl, a, C, dx, fs, _, rfl, ha, TC.cl, TC.nQ, hl, l, xs, rfl, SqL.of hx, fun it h1 h2 => k it h1 h2⟩
/-- all questions that a shelf serves -/
def spServed (C : Addr) : Sp := fun vs H Q _ => ∃ (a l : Addr) (xs : List V) (rs : List (List Str)), vs = [.ref a] ∧ HasI H C a l xs ∧ TL H xs rs ∧ (∀ r ∈ rs, Row r) ∧ rs.length ≤ 12 ∧
  ∀ (H' : Hp) (p : Addr) (ys : List V) (zs : List Qd), Same H H' → H p = none → H' p = some (.lst ys) → QL H' ys zs → Dist (famQ rs) zs → Q (.ref p) H'
abbrev nSv : List Str := ["shelf", "index", "question"]
theorem scServed : FnScope nSv ["shelf"] (defScope sServed) := ⟨rfl, rfl, rfl, by decide +kernel, rfl, by decide +kernel, by decide +kernel⟩
theorem SetQ_ne {H : Hp} {D t : Addr} {M : QPs} {o : HO} (hD : H D = some (SetQ w D M)) (ht : H t = some o) (h : ∀ φ, o ≠ .ext φ) : t ≠ D := fun e => by
  rw [e, hD] at ht
  injection ht with ht
  exact h _ ht.symm
theorem QAt.offS {H : Hp} {D t : Addr} {M M' : QPs} {q : Qd} (hD : H D = some (SetQ w D M)) (h : QAt H t q.1 q.2) : QAt (upd H D (SetQ w D M')) t q.1 q.2 := by
  obtain ⟨c, h1, h2⟩ := h
  exact ⟨c, by rw [upd_ne (SetQ_ne hD h1 fun _ e => nomatch e)]; exact h1, by rw [upd_ne (SetQ_ne hD h2 fun _ e => nomatch e)]; exact h2⟩
theorem ok_served {f C fi : Addr} {fd fdI : FuncData} (F : Fun K "served" "served" sServed f fd) (T : Txt K mg) (oc : OwnIt K C fi) (FI : FnS P w K mg base 1 fi fdI ["self"] (spIterF C "_indexes")) (bI : Binds K fdI ["self"] [])
    (cQ : Cal P w K mg base 1 "questions_of" ["index"] spQof) : FnOk P w K mg base CX0 2 f fd ["shelf"] (spServed C) := by
  refine F.ok scServed (fun vs H Q E h => ?_) (fun cdv A outer s H vs Q E hr h => ?_)
  · obtain ⟨a, l, xs, rs, rfl, _⟩ := h
    rfl
  · obtain ⟨a, l, xs, rs, rfl, ⟨dx, ha, hl⟩, hq, hz, hm, k⟩ := h
    have nd := scServed.nd
    have hu80 : A.units + 3 + 80 < cLine := by
      have := hr.un
      have e : (A.deeper (envOfC "served" (defScope sServed) s.heap.objs.size f cdv)).units = A.units + 3 := rfl
      omega
    have hu16 : A.units + 3 + 16 < cLine := by omega
    refine ⟨_, pss_one (ps_ret (pe_callB (cr_sortSetQ rfl hu80) (by rfl) T.sorted (by decide +kernel) (pa_cons
      (by
        exact pe_sc2 (SO := fun D => SetQ w D []) (rA := rAddQ w) (own := [("index", 1), ("question", 2)]) (vs1 := [2]) (wi1 := iList K (tCall spQof [] (fun _ _ _ => False) _)) (g := gName 1) (g1 := gName 2) rfl nd (fun _ _ _ hh => setQ_fresh hh) (pi_own oc FI bI hr (pv 0))
            (blkOk_by (N := nSv) (sc := defScope sServed) (by decide +kernel)) (by decide) (fun _ _ _ _ _ => pg_name (i := 1) nd rfl (by first | exact Or.inl rfl | exact Or.inr rfl))
            (fun _ _ _ _ _ => pi_list (pe_call cQ.G hr rfl cQ.m cQ.kp cQ.b .nil pass0 (pa_cons (pv 1) pa_nil))) (fun _ _ _ _ _ => pg_name (i := 2) nd rfl (by first | exact Or.inl rfl | exact Or.inr rfl)) (fun _ _ _ _ _ => pv 2) (fun _ _ _ _ _ => cr_addQ hu16)) pa_nil))), ?_⟩
    refine ⟨_, rfl, a, dx, l, _, xs, rfl, ha, rfl, hl, fun D hD => ?_⟩
    have sD := same_new (o := SetQ w D []) hD
    have few : ∀ M : QPs, (M.map Prod.fst).Nodup → (∀ q, q ∈ M.map Prod.fst → q ∈ famQ rs) → M.length ≤ 288 := fun M h1 h2 => by
      have := nodup_leQ (M.map Prod.fst) (famQ rs) h1 h2
      rw [List.length_map] at this
      have h3 := famQ_len hz
      omega
    have fam_take : ∀ {i : Nat} {q : Qd}, q ∈ famQ (rs.take i) → q ∈ famQ rs := fun {i q} h => by
      obtain ⟨r, hr, hq⟩ := List.mem_flatMap.mp h
      exact List.mem_flatMap.mpr ⟨r, List.mem_of_mem_take hr, hq⟩
    refine Loop.list (K := K) (a := l) (xs := xs) (fun i G => Same H G ∧ ∃ M : QPs, G D = some (SetQ w D M) ∧ (∀ p ∈ M, QAt G p.2 p.1.1 p.1.2) ∧ (M.map Prod.fst).Nodup ∧ ∀ q, q ∈ M.map Prod.fst ↔ q ∈ famQ (rs.take i))
      ⟨sD, [], upd_same, (fun p hp => nomatch hp), List.nodup_nil, fun q => by simp [famQ]⟩ (fun i G _ h => SqL.of (h.1 _ _ hl)) ?_ ?_
    · rintro i y G hy ⟨s1, M, hM, mAt, mNd, mM⟩
      obtain ⟨t0, r, rfl, hri, hrt⟩ := (hq.same s1).at_ hy
      have R := hz r (List.mem_of_getElem? hri)
      have tk : rs.take (i + 1) = rs.take i ++ [r] := by rw [List.take_add_one, hri]; rfl
      refine ⟨rfl, _, rfl, t0, r, rfl, hrt, R, fun ys qs t G1 s2 htn ht hql hpm hri2 => ⟨t, rfl, ⟨_, SqL.of ht⟩, ?_⟩⟩
      have hM1 := s2 _ _ hM
      have tD : t ≠ D := SetQ_ne hM1 ht fun _ e => nomatch e
      have inR : ∀ q, q ∈ qs ↔ q ∈ allQ r r.length := fun q => hpm.mem_iff
      refine Loop.list (K := K) (a := t) (xs := ys) (fun j G => Same H G ∧ G t = some (.lst ys) ∧ QL G ys qs ∧ ∃ M : QPs, G D = some (SetQ w D M) ∧ (∀ p ∈ M, QAt G p.2 p.1.1 p.1.2) ∧ (M.map Prod.fst).Nodup ∧ ∀ q, q ∈ M.map Prod.fst ↔ q ∈ famQ (rs.take i) ∨ q ∈ qs.take j)
        ⟨s1.trans s2, ht, hql, M, hM1, fun p hp => (mAt p hp).same s2, mNd, fun q => by rw [mM q]; simp⟩ (fun j G _ h => SqL.of h.2.1) ?_ ?_
      · rintro j v G2 hv ⟨s3, ht2, hql2, N, hN, nAt, nNd, nM⟩
        obtain ⟨o, q, rfl, hqj, hqa⟩ := hql2.at_ hv
        have tk2 : qs.take (j + 1) = qs.take j ++ [q] := by rw [List.take_add_one, hqj]; rfl
        have nl : N.length ≤ 288 := few N nNd fun z hz2 => by
          rcases (nM z).mp hz2 with h | h
          · exact fam_take h
          · exact List.mem_flatMap.mpr ⟨r, List.mem_of_getElem? hri, (inR z).mp (List.mem_of_mem_take h)⟩
        refine ⟨rfl, _, rfl, D, o, q, N, rfl, hN, nAt, hqa, by omega, fun N' c1 c2 => ?_⟩
        have sU : Same H (upd G2 D (SetQ w D N')) := fun b o hb => by
          rw [upd_ne (ne_of_none hb hD)]
          exact s3 _ _ hb
        refine ⟨sU, by rw [upd_ne tD]; exact ht2, Paired.mapP hql2 fun x z ⟨v, e, h⟩ => ⟨v, e, h.offS hN⟩, N', upd_same, fun p hp => ?_, ?_, fun z => ?_⟩
        · by_cases m : q ∈ N.map Prod.fst
          · rw [c1 m] at hp
            exact (nAt p hp).offS hN
          · rcases List.mem_cons.mp ((c2 m).mem_iff.mp hp) with e | h
            · rw [e]
              exact QAt.offS (q := q) hN hqa
            · exact (nAt p h).offS hN
        · by_cases m : q ∈ N.map Prod.fst
          · rw [c1 m]
            exact nNd
          · exact ((c2 m).map Prod.fst).nodup_iff.mpr (List.nodup_cons.mpr ⟨m, nNd⟩)
        · rw [tk2, List.mem_append, List.mem_singleton, ← or_assoc, ← nM z]
          by_cases m : q ∈ N.map Prod.fst
          · rw [c1 m]
            exact ⟨.inl, fun h => h.elim id fun e => e ▸ m⟩
          · rw [((c2 m).map Prod.fst).mem_iff, List.map_cons, List.mem_cons]
            exact or_comm
      · rintro G2 ⟨s3, ht2, hql2, N, hN, nAt, nNd, nM⟩
        refine ⟨s3, N, hN, nAt, nNd, fun q => ?_⟩
        rw [hql.len, List.take_of_length_le (Nat.le_refl _)] at nM
        rw [nM q, tk, famQ_snoc, List.mem_append, inR q]
    · rintro G ⟨s1, M, hM, mAt, mNd, mM⟩
      rw [hq.len, List.take_of_length_le (Nat.le_refl _)] at mM
      refine ⟨D, M, rfl, hM, mAt, fun p hp c hc => ?_, fun ys zs p hpn hql hpm hup hsub => ?_⟩
      · exact (famQ_qz hz _ ((mM _).mp (List.mem_map_of_mem hp))).strOk c hc
      · have pN : H p = none := by
          cases e : H p with
          | none => rfl
          | some o =>
            have := s1 _ _ e
            rw [hpn] at this
            cases this
        have s2 := same_new (o := .lst ys) hpn
        exact k _ p ys zs (s1.trans s2) pN upd_same (hql.same s2) ⟨hpm.nodup_iff.mpr mNd, hup, fun q => hpm.mem_iff.trans (mM q)⟩
/-- some indexes over the names -/
def spIndexes : Sp := fun vs H Q _ => ∃ (b l a : Addr) (xs : List Str) (m : Nat), vs = [.ref b, .ref a, .int (m : Int)] ∧ Bag H b l ∧ a ≠ b ∧ H a = some (.lst (xs.map V.str)) ∧ Row xs ∧ m ≤ 20 ∧
  ∀ (p : Addr) (ys : List V) (rs : List (List Str)) (H' : Hp), H p = none → p ≠ b → H' p = some (.lst ys) → TL H' ys rs → (∀ r ∈ rs, Row r ∧ ∀ c ∈ r, c ∈ xs) → rs.length ≤ m → Bag H' b l → Kp b H H' → Q (.ref p) H'
abbrev nIxs : List Str := ["_law_bag_here", "_law_names_here", "_law_most", "_law_found", "_law_k", "_law_way", "_law_one_here"]
theorem scIndexes : FnScope nIxs ["_law_bag_here", "_law_names_here", "_law_most"] (defScope sIndexes) := ⟨rfl, rfl, rfl, by decide +kernel, rfl, by decide +kernel, by decide +kernel⟩
/-- what is drawn so far -/
def Ixs (H0 : Hp) (b l a p : Addr) (xs : List Str) (i : Nat) (H : Hp) : Prop := Bag H b l ∧ H a = some (.lst (xs.map V.str)) ∧ Kp b H0 H ∧ ∃ (ys : List V) (rs : List (List Str)), H p = some (.lst ys) ∧ TL H ys rs ∧ (∀ r ∈ rs, Row r ∧ ∀ c ∈ r, c ∈ xs) ∧ rs.length ≤ i
theorem Ixs.kp {H0 H H' : Hp} {b l a p : Addr} {xs : List Str} {i : Nat} (h : Ixs H0 b l a p xs i H) (nab : a ≠ b) (npb : p ≠ b) (B : Bag H' b l) (s : Kp b H H') : Ixs H0 b l a p xs i H' := by
  obtain ⟨B0, h1, h2, ys, rs, h3, h4, h5, h6⟩ := h
  exact ⟨B, s _ _ h1 nab, h2.trans s, ys, rs, s _ _ h3 npb, h4.kp B0 s, h5, h6⟩
theorem Ixs.push {H0 H : Hp} {b l a p t : Addr} {xs r : List Str} {i : Nat} (h : Ixs H0 b l a p xs i H) (hp0 : H0 p = none) (nap : a ≠ p) (npb : p ≠ b) (nlp : l ≠ p) (ht : H t = some (.tup (r.map V.str))) (R : Row r) (hs : ∀ c ∈ r, c ∈ xs) :
    ∃ ys, H p = some (.lst ys) ∧ ys.length ≤ i ∧ Ixs H0 b l a p xs (i + 1) (upd H p (.lst (ys ++ [.ref t]))) := by
  obtain ⟨B0, h1, h2, ys, rs, h3, h4, h5, h6⟩ := h
  refine ⟨ys, h3, by rw [h4.len]; exact h6, B0.upd npb.symm nlp, by rw [upd_ne nap]; exact h1, fun c o hc ncb => ?_, ys ++ [.ref t], rs ++ [r], upd_same, TL.off h3 (h4.snoc ht), fun q hq => ?_, by rw [List.length_append]; simp; omega⟩
  · rw [upd_ne (ne_of_none hc hp0)]
    exact h2 _ _ hc ncb
  · rcases List.mem_append.mp hq with g | g
    · exact h5 q g
    · rw [List.mem_singleton.mp g]
      exact ⟨R, hs⟩
theorem ok_indexes {f : Addr} {fd : FuncData} (F : Fun K "_law_indexes" "_law_indexes" sIndexes f fd) (T : Txt K mg) (cT : Cal P w K mg base 1 "_law_take" ["_law_bag_here", "_law_many"] spTake) (cO : Cal P w K mg base 2 "_law_one" ["_law_bag_here", "_law_some"] spOne)
    (cM : Cal P w K mg base 2 "_law_mixed" ["_law_bag_here", "_law_things"] spMixed) (cI : Cal P w K mg base 3 "_law_index" ["_law_bag_here", "_law_names_here"] spIndex) : FnOk P w K mg base CX0 4 f fd ["_law_bag_here", "_law_names_here", "_law_most"] spIndexes := by
  refine F.ok scIndexes (fun vs H Q E h => ?_) (fun cdv A outer s H vs Q E hr h => ?_)
  · obtain ⟨b, l, a, xs, m, rfl, _⟩ := h
    rfl
  · obtain ⟨b, l, a, xs, m, rfl, B, nab, ha, R, hm, k⟩ := h
    have nd := scIndexes.nd
    have hr1 : Room 1 _ := hr.mono (by decide)
    have hr2 : Room 2 _ := hr.mono (by decide)
    refine ⟨_, pss_cons (ps_set (i := 3) nd rfl (Or.inl rfl) (pe_lst pa_nil))
      (pss_cons (ps_for PassesOwn.never rfl (pi_range1 (by rfl) T.range (pa_cons (pe_call cT.G hr1 rfl cT.m cT.kp cT.b .nil pass0 (pa_cons (pv 0) (pa_cons (pe_op op_add (pv 2) pe_int) pa_nil))) pa_nil)) (pg_name (i := 4) nd rfl (Or.inl rfl))
        (pss_cons (ps_set (i := 5) nd rfl (Or.inl rfl) (pe_call cT.G hr1 rfl cT.m cT.kp cT.b .nil pass0 (pa_cons (pv 0) (pa_cons pe_int pa_nil))))
        (pss_one (ps_if (PW.pt (pw_or (pt_cmpR (op_eqD hr.units) (pv 3) (pe_lst pa_nil) (nomark _)) (pw_or1 (pt_cmpR op_lt (pv 5) pe_int (nomark _)))))
          (pss_one (ps_expr (pe_bm PySem.F.plainAttrs_list PySem.F.slot_list_append PySem.F.type_list_append mt_append (pv 3) (pa_cons (pe_call cI.G hr rfl cI.m cI.kp cI.b .nil pass0 (pa_cons (pv 0) (pa_cons (pv 1) pa_nil))) pa_nil))))
          (pss_cons (ps_set (i := 6) nd rfl (Or.inl rfl) (pe_call cO.G hr2 rfl cO.m cO.kp cO.b .nil pass0 (pa_cons (pv 0) (pa_cons (pv 3) pa_nil))))
            (pss_one (ps_expr (pe_bm PySem.F.plainAttrs_list PySem.F.slot_list_append PySem.F.type_list_append mt_append (pv 3) (pa_cons (pe_slice sl_tupA (pv 6) po_none (po_some (pe_op op_add pe_int (pe_call cT.G hr1 rfl cT.m cT.kp cT.b .nil pass0 (pa_cons (pv 0) (pa_cons (pe_callB call_len_seq (by rfl) T.len PySem.boot_len (pa_cons (pv 6) pa_nil)) pa_nil)))))) pa_nil)))))))))
      (pss_one (ps_ret (pe_call cM.G hr2 rfl cM.m cM.kp cM.b .nil pass0 (pa_cons (pv 0) (pa_cons (pv 3) pa_nil)))))), ?_⟩
    refine ⟨by decide, fun p hp => ?_⟩
    have npb := B.ne hp
    have nlp := B.nel hp
    have nap : a ≠ p := ne_of_none ha hp
    have s0 := same_new (o := .lst []) hp
    refine ⟨_, rfl, _, rfl, _, _, rfl, rfl, b, l, (m : Int) + 1, rfl, B.same s0, by omega, by omega, fun n H1 hn B1 k1 => ⟨(n : Int), rfl, by omega, by omega, ?_⟩⟩
    have k01 : Kp b H H1 := (Kp.of s0).trans k1
    refine for_range (lo := 0) (n := n) (fun i σ H' => (∃ (v4 v5 v6 : Option V), σ = [some (.ref b), some (.ref a), some (.int (m : Int)), some (.ref p), v4, v5, v6]) ∧ Ixs H b l a p xs i H')
      ⟨⟨_, _, _, rfl⟩, B1, k01 _ _ ha nab, k01, [], [], k1 _ _ upd_same npb, .nil, (fun r hr => nomatch hr), Nat.le_refl _⟩ ?_ ?_
    · rintro i σ H2 hi ⟨⟨v4, v5, v6, rfl⟩, G⟩
      refine ⟨_, rfl, b, l, 4, rfl, G.1, by decide, by decide, fun wy H3 hwy B3 k3 => ?_⟩
      have G3 := G.kp nab npb B3 k3
      obtain ⟨_, ha3, k03, ys, rs, hp3, ht3, hR3, hl3⟩ := id G3
      refine ⟨_, rfl, by decide, fun e0 he0 => ?_⟩
      have s4 := same_new (o := .lst []) he0
      have G4 := G3.kp nab npb (B3.same s4) (Kp.of s4)
      have hRR : ∀ r ∈ rs, Row r := fun r hr => (hR3 r hr).1
      refine ⟨.list (rs.map dR), .list (([] : List (List Str)).map dR), .lst (SqL.of (s4 _ _ hp3)) (ht3.same s4).dp, .lst (SqL.of upd_same) .nil, (dok_rs hRR (by omega)).shaped, (dok_rs (rs := []) (fun r h => nomatch h) (by decide)).shaped, _, rfl, ?_⟩
      rw [eqv_rs]
      generalize upd H3 e0 (.lst []) = H4 at s4 G4 ⊢
      have first : ∀ {D : Ends}, D.nx = (fun σ H' => (∃ (v4 v5 v6 : Option V), σ = [some (.ref b), some (.ref a), some (.int (m : Int)), some (.ref p), v4, v5, v6]) ∧ Ixs H b l a p xs (i + 1) H') → True := fun _ => trivial
      by_cases he : rs = []
      · rw [decide_eq_true he]
        refine iteT ?_
        obtain ⟨B4, ha4, k04, ys4, rs4, hp4, ht4, _⟩ := id G4
        refine ⟨_, rfl, .inl ⟨rfl, _, SqL.of hp4⟩, _, rfl, _, rfl, b, l, a, xs, rfl, B4, nab, ha4, R, fun t r H5 ht5 R5 hs5 B5 k5 => ?_⟩
        obtain ⟨us, g1, g2, g3⟩ := (G4.kp nab npb B5 k5).push hp nap npb nlp ht5 R5 hs5
        exact ⟨p, us, _, rfl, rfl, g1, small1000 (by omega), ⟨_, _, _, rfl⟩, g3⟩
      · rw [decide_eq_false he]
        refine iteF ?_
        refine ⟨_, rfl, _, _, rfl, rfl, _, rfl, ?_⟩
        cases hw : decide ((wy : Int) < 2) with
        | true =>
          refine iteT ?_
          obtain ⟨B4, ha4, k04, ys4, rs4, hp4, ht4, _⟩ := id G4
          refine ⟨_, rfl, .inl ⟨rfl, _, SqL.of hp4⟩, _, rfl, _, rfl, b, l, a, xs, rfl, B4, nab, ha4, R, fun t r H5 ht5 R5 hs5 B5 k5 => ?_⟩
          obtain ⟨us, g1, g2, g3⟩ := (G4.kp nab npb B5 k5).push hp nap npb nlp ht5 R5 hs5
          exact ⟨p, us, _, rfl, rfl, g1, small1000 (by omega), ⟨_, _, _, rfl⟩, g3⟩
        | false =>
          refine iteF ?_
          have hp4 := s4 _ _ hp3
          have ht4 := ht3.same s4
          have yne : ys ≠ [] := fun e => he (List.eq_nil_of_length_eq_zero (by rw [← ht3.len, e]; rfl))
          have B4 := G4.1
          refine ⟨_, rfl, _, rfl, b, l, p, ys, rfl, B4, npb, hp4, yne, by have := ht3.len; omega, fun x H5 hx B5 k5 => ?_⟩
          obtain ⟨t, r, rfl, hr5, htr⟩ := (ht4.kp B4 k5).mem x hx
          have G5 := G4.kp nab npb B5 k5
          obtain ⟨Rr, hsr⟩ := hR3 r hr5
          have rl := Rr.le
          have rp := Rr.pos
          have hp5 := k5 _ _ hp4 npb
          refine ⟨_, rfl, .inl ⟨rfl, _, SqL.of hp5⟩, _, rfl, _, rfl, _, rfl, _, _, rfl, .inr (SqT.of htr), b, l, _, rfl, B5, by rw [List.length_map]; omega, by rw [List.length_map]; omega, fun j H6 hj B6 k6 => ⟨_, _, rfl, rfl, _, rfl, ?_⟩⟩
          have ht6 := k6 _ _ htr (B5.ne_tup htr)
          have e1 : (1 + (j : Int)) = ((j + 1 : Nat) : Int) := by omega
          refine slA (ys := r.take (j + 1)) ht6 (by show cutV (r.map V.str) none (some (1 + (j : Int))) = _; rw [e1, cut_to, List.map_take]) fun t7 H7 s7 h7 => ?_
          have G7 := (G5.kp nab npb B6 k6).kp nab npb (B6.same s7) (Kp.of s7)
          obtain ⟨us, g1, g2, g3⟩ := G7.push hp nap npb nlp h7 (Rr.takeN (Nat.succ_pos j)) fun c hc => hsr c (List.mem_of_mem_take hc)
          exact ⟨p, us, _, rfl, rfl, g1, small1000 (by omega), ⟨_, _, _, rfl⟩, g3⟩
    · rintro σ H2 ⟨⟨v4, v5, v6, rfl⟩, B2, ha2, k2, ys, rs, hp2, ht2, hR2, hl2⟩
      refine ⟨_, rfl, _, rfl, b, l, p, ys, rfl, B2, npb, hp2, by have := ht2.len; omega, fun zs q H3 hpm hq0 hqb hq3 B3 k3 => ?_⟩
      obtain ⟨rs', g1, g2⟩ := paired_perm hpm (ht2.kp B2 k3)
      have qN : H q = none := by
        cases e : H q with
        | none => rfl
        | some o =>
          have := k2 _ _ e hqb
          rw [hq0] at this
          cases this
      exact k q zs rs' H3 qN hqb hq3 g1 (fun r hr => hR2 r (g2.mem_iff.mp hr)) (by rw [g2.length_eq]; omega) B3 (k2.trans k3)
theorem push_l {H : Hp} {p q : Addr} {ys : List V} {qs : List Qd} {z : Qd} (hp : H p = some (.lst ys)) (hq : QL H ys qs) (ha : QAt H q z.1 z.2) : QL (upd H p (.lst (ys ++ [.ref q]))) (ys ++ [.ref q]) (qs ++ [z]) := by
  have qk : ∀ {v : Addr} {r : Qd}, QAt H v r.1 r.2 → QAt (upd H p (.lst (ys ++ [.ref q]))) v r.1 r.2 := fun {v r} ⟨c0, g1, g2⟩ => by
    refine ⟨c0, ?_, ?_⟩
    · rw [upd_ne fun e => by rw [e, hp] at g1; cases g1]
      exact g1
    · rw [upd_ne fun e => by rw [e, hp] at g2; cases g2]
      exact g2
  exact paired_app (Paired.mapP hq fun x r ⟨v, e, z⟩ => ⟨v, e, qk z⟩) (.cons ⟨q, rfl, qk ha⟩ .nil)
theorem same_upd {H H' : Hp} {p : Addr} {o : HO} (s : Same H H') (hp : H p = none) : Same H (upd H' p o) := fun c u hc => by
  rw [upd_ne (ne_of_none hc hp)]
  exact s _ _ hc
theorem QZ.qn {q : Qd} (h : QZ q.1 q.2) : Qn q := ⟨h.m.nd, h.m.srt, h.m.sub, h.m.esub, h.m.some⟩
theorem fine_forced {q : Qd} (h : QZ q.1 q.2) : ∀ z ∈ forcedL q, Qfine z := fun z hz => by
  have ok : ∀ c ∈ q.1, okS c = true := fun c hc => menu_okS _ (h.m.sub _ hc)
  have hle := h.m.le
  unfold forcedL at hz
  rcases List.mem_append.mp hz with hz | hz
  · rcases List.mem_append.mp hz with hz | hz
    · simp only [List.mem_cons, List.not_mem_nil, or_false] at hz
      rcases hz with rfl | rfl
      · exact h.fine
      · exact ⟨fun c hc => menu_okS _ (h.menu c hc), okS_empty, h.all_le⟩
    · split at hz
      · cases hz
      · rw [List.mem_singleton.mp hz]
        exact ⟨ok, okS_empty, hle⟩
  · split at hz
    · rename_i h1
      rw [List.mem_singleton.mp hz]
      refine ⟨(fun c hc => nomatch hc), ?_, by show 0 ≤ 12; decide⟩
      show okS (q.1.getD 0 "") = true
      rw [List.getD_eq_getElem?_getD, List.getElem?_eq_getElem (by omega)]
      exact ok _ (List.getElem_mem (by omega))
    · cases hz
theorem forced_len (q : Qd) : (forcedL q).length ≤ 4 := by
  unfold forcedL
  rw [List.length_append, List.length_append]
  split <;> split <;> simp
def spForced : Sp := fun vs H Q _ => ∃ (q : Addr) (cols : List Str) (e : Str), vs = [.ref q] ∧ QAt H q cols e ∧ QZ cols e ∧
  ∀ (p : Addr) (ys : List V) (zs : List Qd) (H' : Hp), Same H H' → H p = none → H' p = some (.lst ys) → QL H' ys zs → Dist (forcedL (cols, e)) zs → Q (.ref p) H'
theorem scForced : FnScope ["question", "columns", "last", "found"] ["question"] (defScope sForced) := ⟨rfl, rfl, rfl, by decide +kernel, rfl, by decide +kernel, by decide +kernel⟩
theorem ok_forced {f : Addr} {fd : FuncData} (F : Fun K "forced" "forced" sForced f fd) (T : Txt K mg) (cC : Cal P w K mg base 2 "columns_of" ["question"] spCols) : FnOk P w K mg base CX0 3 f fd ["question"] spForced := by
  refine F.ok scForced (fun vs H Q E h => ?_) (fun cdv A outer s H vs Q E hr h => ?_)
  · obtain ⟨q, cols, e, rfl, _⟩ := h
    rfl
  · obtain ⟨q, cols, e, rfl, ⟨c, hq, hc⟩, Z, k⟩ := h
    have nd := scForced.nd
    have hu80 : A.units + 3 + 80 < cLine := by
      have := hr.un
      have e : (A.deeper (envOfC "forced" (defScope sForced) s.heap.objs.size f cdv)).units = A.units + 3 := rfl
      omega
    have hu16 : A.units + 3 + 16 < cLine := by omega
    refine ⟨_, pss_cons (ps_asg (pv 0) (pg_tup (by rfl) (pgs_cons (pg_name (i := 1) nd rfl (Or.inl rfl)) (pgs_cons (pg_name (i := 2) nd rfl (Or.inl rfl)) pgs_nil))))
      (pss_cons (ps_set (i := 3) nd rfl (Or.inl rfl) (pe_lst (pa_cons (pv 0) (pa_cons (pe_tup (pa_cons (pe_call cC.G hr rfl cC.m cC.kp cC.b .nil pass0 (pa_cons (pv 0) pa_nil)) (pa_cons pe_str pa_nil))) pa_nil))))
      (Evl.pss_cut (ps_if (pt_cmpR (op_neD hr.units) (pv 1) (pe_tup pa_nil) (nomark _))
        (pss_one (ps_expr (pe_bm PySem.F.plainAttrs_list PySem.F.slot_list_append PySem.F.type_list_append mt_append (pv 3) (pa_cons (pe_tup (pa_cons (pv 1) (pa_cons pe_str pa_nil))) pa_nil)))) pss_nil)
      (Evl.pss_cut (ps_if (pt_cmpR op_eq (pe_callB call_len_seq (by rfl) T.len PySem.boot_len (pa_cons (pv 1) pa_nil)) pe_int (nomark _))
        (pss_one (ps_expr (pe_bm PySem.F.plainAttrs_list PySem.F.slot_list_append PySem.F.type_list_append mt_append (pv 3) (pa_cons (pe_tup (pa_cons (pe_tup pa_nil) (pa_cons (pe_ix ix_tup (pv 1) pe_int fun _ _ => rfl) pa_nil))) pa_nil)))) pss_nil)
      (pss_one (ps_ret (pe_callB (cr_sortSetQ rfl hu80) (by rfl) T.sorted (by decide +kernel) (pa_cons (pe_callTy (cr_setQ rfl hu16) (by rfl) T.set (by decide +kernel) (pa_cons (pv 3) pa_nil)) pa_nil))))))), ?_⟩
    refine ⟨_, rfl, q, _, rfl, SqT.of hq, rfl, _, _, rfl, _, _, rfl, rfl, _, rfl, _, rfl, q, cols, e, rfl, ⟨c, hq, hc⟩, Z, fun t H1 s1 ht => ⟨by show 2 ≤ sizeLine; decide, fun tp htp => ⟨by show 2 ≤ sizeLine; decide, fun fo hfo => ?_⟩⟩⟩
    have st := same_new (o := .tup [.ref t, .str ""]) htp
    have sf := same_new (o := .lst [.ref q, .ref tp]) hfo
    have s2 : Same H (upd (upd H1 tp (.tup [.ref t, .str ""])) fo (.lst [.ref q, .ref tp])) := s1.trans (st.trans sf)
    have foN : H fo = none := by
      cases z : H fo with
      | none => rfl
      | some o =>
        have := st _ _ (s1 _ _ z)
        rw [hfo] at this
        cases this
    have q0 : QL (upd (upd H1 tp (.tup [.ref t, .str ""])) fo (.lst [.ref q, .ref tp])) [.ref q, .ref tp] [(cols, e), fW (cols, e)] :=
      .cons ⟨q, rfl, c, s2 _ _ hq, s2 _ _ hc⟩ (.cons ⟨tp, rfl, t, sf _ _ upd_same, sf _ _ (st _ _ ht)⟩ .nil)
    have cm : ∀ c ∈ cols, PyData.strOk c = true := fun c hc => menu_ok _ (Z.m.sub _ hc)
    refine ⟨fun σ' H' => ∃ (ys : List V) (qs : List Qd), σ' = [some (.ref q), some (.ref c), some (.str e), some (.ref fo)] ∧ Same H H' ∧ H' fo = some (.lst ys) ∧ QL H' ys qs ∧ qs.length ≤ 3 ∧ qs = [(cols, e), fW (cols, e)] ++ (if cols = [] then [] else [fP (cols, e)]), ?_, ?_⟩
    · refine ⟨_, rfl, by show 0 ≤ sizeLine; decide, fun e0 he0 => ?_⟩
      have s0 := same_new (o := .tup []) he0
      have fo0 := s0 _ _ (upd_same (H := upd H1 tp (.tup [.ref t, .str ""])) (a := fo) (o := .lst [.ref q, .ref tp]))
      refine ⟨.tuple (cols.map PyData.str), .tuple (([] : List Str).map PyData.str), .tup (SqT.of (s0 _ _ (s2 _ _ hc))) (dp_strs _), .tup (SqT.of upd_same) (dp_strs []), shaped_tuple cm, shaped_tuple (fun c hc => nomatch hc), _, rfl, ?_⟩
      show if (!PyData.eqv (.tuple (cols.map PyData.str)) (.tuple (([] : List Str).map PyData.str))) = true then _ else _
      rw [PyData.eqv, eqv_strs]
      by_cases hn : cols = []
      · rw [decide_eq_true hn]
        refine iteF ?_
        exact ⟨_, _, rfl, s2.trans s0, fo0, q0.same s0, by show 2 ≤ 3; decide, by rw [if_pos hn]; rfl⟩
      · rw [decide_eq_false hn]
        refine iteT ?_
        refine ⟨_, rfl, .inl ⟨rfl, _, SqL.of fo0⟩, _, rfl, by show 2 ≤ sizeLine; decide, fun t2 ht2 => ?_⟩
        have s3 := same_new (o := .tup [.ref c, .str ""]) ht2
        refine ⟨fo, _, _, rfl, rfl, s3 _ _ fo0, small1000 (by show 2 ≤ 1000; decide), _, _, rfl, same_upd (s2.trans (s0.trans s3)) foN, upd_same, push_l (z := fP (cols, e)) (s3 _ _ fo0) ((q0.same s0).same s3) ⟨c, upd_same, s3 _ _ (s0 _ _ (s2 _ _ hc))⟩, by show 3 ≤ 3; decide, by rw [if_neg hn]⟩
    rintro σ2 H2 ⟨ys, qs, rfl, s3, fo2, q2, l2, e2⟩
    refine ⟨fun σ' H' => ∃ (ys : List V) (qs : List Qd), σ' = [some (.ref q), some (.ref c), some (.str e), some (.ref fo)] ∧ Same H H' ∧ H' fo = some (.lst ys) ∧ QL H' ys qs ∧ qs = forcedL (cols, e), ?_, ?_⟩
    · refine ⟨_, rfl, _, _, rfl, .inr (SqT.of (s3 _ _ hc)), rfl, _, rfl, ?_⟩
      have e7 : decide (V.int ((cols.map V.str).length : Int) = V.int 1) = decide (cols.length = 1) := by
        rw [List.length_map]
        exact decide_eq_decide.mpr ⟨fun h => by injection h with h; omega, fun h => by rw [h]; rfl⟩
      show if decide (V.int ((cols.map V.str).length : Int) = V.int 1) = true then _ else _
      rw [e7]
      by_cases h1 : cols.length = 1
      · rw [decide_eq_true h1]
        refine iteT ?_
        refine ⟨_, rfl, .inl ⟨rfl, _, SqL.of fo2⟩, by show 0 ≤ sizeLine; decide, fun t0 ht0 => ?_⟩
        have s4 := same_new (o := .tup []) ht0
        have g0 : cols[0]? = some (cols.getD 0 "") := by
          rw [List.getD_eq_getElem?_getD, List.getElem?_eq_getElem (show 0 < cols.length by omega)]
          rfl
        refine ⟨_, rfl, c, _, 0, _, rfl, rfl, SqT.of (s4 _ _ (s3 _ _ hc)), atI_nat (j := 0) (by rw [List.getElem?_map, g0]; rfl), by show 2 ≤ sizeLine; decide, fun t2 ht2 => ?_⟩
        have s5 := same_new (o := .tup [.ref t0, .str (cols.getD 0 "")]) ht2
        refine ⟨fo, _, _, rfl, rfl, s5 _ _ (s4 _ _ fo2), small1000 (by rw [q2.len]; omega), _, _, rfl, same_upd (s3.trans (s4.trans s5)) foN, upd_same, push_l (z := fR (cols, e)) (s5 _ _ (s4 _ _ fo2)) ((q2.same s4).same s5) ⟨t0, upd_same, s5 _ _ upd_same⟩, ?_⟩
        rw [e2]
        unfold forcedL
        rw [if_pos h1]
      · rw [decide_eq_false h1]
        refine iteF ?_
        refine ⟨_, _, rfl, s3, fo2, q2, ?_⟩
        rw [e2]
        unfold forcedL
        rw [if_neg h1, List.append_nil]
    rintro σ3 H3 ⟨ys, qs, rfl, s4, fo3, q3, rfl⟩
    refine ⟨_, rfl, fo, ys, _, rfl, .inl (SqL.of fo3), q3, by rw [q3.len]; have := forced_len (cols, e); omega, fun p M hp S => ?_⟩
    have sp := same_new (o := SetQ w p M) hp
    have zz := fine_forced (q := (cols, e)) Z
    refine ⟨p, M, rfl, upd_same, fun m hm => (S.at_ m hm).same sp, fun m hm c hc => okS_strOk ((zz _ ((S.mem _).mp (List.mem_map_of_mem hm))).c c hc), fun ys zs d hd hql hpm hup hsub => ?_⟩
    have sd := same_new (o := .lst ys) hd
    have dN : H d = none := by
      cases z : H d with
      | none => rfl
      | some o =>
        have := sp _ _ (s4 _ _ z)
        exact absurd (show some o = none from this.symm.trans hd) (by simp)
    exact k d ys zs _ (s4.trans (sp.trans sd)) dN upd_same (hql.same sd) ⟨hpm.nodup_iff.mpr S.nd, hup, fun q => hpm.mem_iff.trans (S.mem q)⟩
def spForces : Sp := fun vs H Q _ => ∃ (q r : Addr) (cols : List Str) (e : Str) (x : Qd), vs = [.ref q, .ref r] ∧ QAt H q cols e ∧ QZ cols e ∧ QAt H r x.1 x.2 ∧ Qfine x ∧ ∀ (H' : Hp), Same H H' → Q (.bl (decide (x ∈ forcedL (cols, e)))) H'
theorem scForces : FnScope ["one", "other"] ["one", "other"] (defScope sForces) := ⟨rfl, rfl, rfl, by decide +kernel, rfl, by decide +kernel, by decide +kernel⟩
theorem ok_forces {f : Addr} {fd : FuncData} (F : Fun K "forces" "forces" sForces f fd) (T : Txt K mg) (cF : Cal P w K mg base 3 "forced" ["question"] spForced) : FnOk P w K mg base CX0 4 f fd ["one", "other"] spForces := by
  refine F.ok scForces (fun vs H Q E h => ?_) (fun cdv A outer s H vs Q E hr h => ?_)
  · obtain ⟨q, r, cols, e, x, rfl, _⟩ := h
    rfl
  · obtain ⟨q, r, cols, e, x, rfl, hq, Z, hx, fx, k⟩ := h
    have hu65 : A.units + 3 + 65 < cLine := by
      have := hr.un
      have e : (A.deeper (envOfC "forces" (defScope sForces) s.heap.objs.size f cdv)).units = A.units + 3 := rfl
      omega
    refine ⟨_, pss_one (ps_ret (pe_cmpR (op_inD hu65) (pv 1) (pe_call cF.G hr rfl cF.m cF.kp cF.b .nil pass0 (pa_cons (pv 0) pa_nil)) (by rfl))), ?_⟩
    refine ⟨_, rfl, _, rfl, q, cols, e, rfl, hq, Z, fun p ys zs H' s1 hp hp' hz D => ?_⟩
    have zf : ∀ z ∈ zs, Qfine z := fun z hz => fine_forced (q := (cols, e)) Z z ((D.mem z).mp hz)
    have zl : zs.length ≤ 4 := Nat.le_trans (nodup_leQ _ _ D.nd fun z hz => (D.mem z).mp hz) (forced_len _)
    refine ⟨dq x, zs.map dq, dp_q (hx.same s1), .lst (SqL.of hp') hz.dp, (dok_q fx).shaped, (dok_qs zf (by omega)).shaped, ?_⟩
    have e1 : ((zs.map dq).any fun z => PyData.eqv z (dq x)) = decide (x ∈ forcedL (cols, e)) := by
      rw [any_q]
      exact decide_eq_decide.mpr (D.mem x)
    rw [e1]
    exact k H' s1
def spIsServed (C : Addr) : Sp := fun vs H Q _ => ∃ (a l t : Addr) (xs : List V) (rs : List (List Str)) (q : Qd), vs = [.ref a, .ref t] ∧ HasI H C a l xs ∧ TL H xs rs ∧ (∀ r ∈ rs, Row r) ∧ QAt H t q.1 q.2 ∧ QZ q.1 q.2 ∧ ∀ H', Same H H' → Q (.bl (decide (q ∈ famQ rs))) H'
abbrev nIsS : List Str := ["shelf", "question", "index"]
theorem scIsServed : FnScope nIsS ["shelf", "question"] (defScope sIsServed) := ⟨rfl, rfl, rfl, by decide +kernel, rfl, by decide +kernel, by decide +kernel⟩
theorem QZ.in_row {q : Qd} (z : QZ q.1 q.2) {r : List Str} (R : Row r) : q ∈ allQ r r.length ↔ fault r q.1 q.2 = none :=
  allQ_serves (cols := q.1) (e := q.2) R z.m.nd z.m.srt z.m.some
theorem ok_isserved {f C fi : Addr} {fd fdI : FuncData} (F : Fun K "is_served" "is_served" sIsServed f fd) (T : Txt K mg) (oc : OwnIt K C fi) (FI : FnS P w K mg base 1 fi fdI ["self"] (spIterF C "_indexes")) (bI : Binds K fdI ["self"] [])
    (cV : Cal P w K mg base 1 "serves" ["index", "question"] spServes) : FnOk P w K mg base CX0 2 f fd ["shelf", "question"] (spIsServed C) := by
  refine F.ok scIsServed (fun vs H Q E h => ?_) (fun cdv A outer s H vs Q E hr h => ?_)
  · obtain ⟨a, l, t, xs, rs, q, rfl, _⟩ := h
    rfl
  · obtain ⟨a, l, t, xs, rs, q, rfl, ⟨dx, ha, hl⟩, hT, hz, hq, Z, k⟩ := h
    have nd := scIsServed.nd
    refine ⟨_, pss_cons (ps_for PassesOwn.never rfl (pi_own oc FI bI hr (pv 0)) (pg_name (i := 2) nd rfl (Or.inl rfl))
        (pss_one (ps_if (pt_val (pe_call cV.G hr rfl cV.m cV.kp cV.b .nil pass0 (pa_cons (pv 2) (pa_cons (pv 1) pa_nil)))) (pss_one (ps_ret pe_bl)) pss_nil)))
      (pss_one (ps_ret pe_bl)), ?_⟩
    refine ⟨_, rfl, a, dx, l, _, xs, rfl, ha, rfl, hl, ?_⟩
    refine for_list (K := K) (a := l) (xs := xs) (fun i σ H' => (∃ v2, σ = [some (.ref a), some (.ref t), v2]) ∧ Same H H' ∧ ∀ r ∈ rs.take i, q ∉ allQ r r.length) ⟨⟨_, rfl⟩, Same.refl _, by simp⟩ (fun i σ H' _ h => SqL.of (h.2.1 _ _ hl)) ?_ ?_
    · rintro i x σ H1 hx ⟨⟨v2, rfl⟩, s1, no⟩
      obtain ⟨t1, r, rfl, hri, hrt⟩ := (hT.same s1).at_ hx
      have rm := List.mem_of_getElem? hri
      have R := hz r rm
      have tk : rs.take (i + 1) = rs.take i ++ [r] := by rw [List.take_add_one, hri]; rfl
      refine ⟨_, rfl, _, rfl, t1, t, r, q.1, q.2, rfl, hrt, hq.same s1, Z.m.le, R.le, R.nd, R.sub, Z.m.nd, Z.m.srt, Z.m.sub, Z.m.esub, fun H2 s2 => ⟨_, rfl, ?_⟩⟩
      by_cases hf : fault r q.1 q.2 = none
      · rw [decide_eq_true hf]
        refine iteT ?_
        have e : decide (q ∈ famQ rs) = true := decide_eq_true (List.mem_flatMap.mpr ⟨r, rm, (Z.in_row R).mpr hf⟩)
        rw [← e]
        exact k H2 (s1.trans s2)
      · rw [decide_eq_false hf]
        refine iteF ?_
        refine ⟨⟨_, rfl⟩, s1.trans s2, fun r' hr' => ?_⟩
        rw [tk] at hr'
        rcases List.mem_append.mp hr' with h | h
        · exact no r' h
        · rw [List.mem_singleton.mp h]
          exact fun h => hf ((Z.in_row R).mp h)
    · rintro σ H1 ⟨⟨v2, rfl⟩, s1, no⟩
      rw [hT.len, List.take_of_length_le (Nat.le_refl _)] at no
      have e : decide (q ∈ famQ rs) = false := decide_eq_false fun h => by
        obtain ⟨r, hr, hm⟩ := List.mem_flatMap.mp h
        exact no r hr hm
      rw [← e]
      exact k H1 s1
def endC (q : Qd) : List Str := if q.2 = "" then [] else [q.2]
def rowD (q : Qd) : List Str := (q.1.drop 1 ++ q.1.take 1) ++ endC q
theorem rowC_A (q : Qd) : rowC q.1 q.2 = rowA q := by
  unfold rowC rowA
  split
  · rw [List.append_nil]
  · rfl
theorem QZ.rowA {q : Qd} (z : QZ q.1 q.2) : Row (rowA q) := by
  rw [← rowC_A]
  refine ⟨z.row_nd, fun c hc => z.menu c (mem_row.mp hc), ?_, z.row_le⟩
  rw [row_len]
  unfold allC
  split
  · rename_i e
    exact List.length_pos_iff.mpr (z.m.some e)
  · rw [srt_len, List.length_append]
    simp
theorem row_perm_of {xs ys : List Str} (R : Row xs) (hp : ys.Perm xs) : Row ys := ⟨hp.nodup_iff.mpr R.nd, fun c hc => R.sub _ (hp.mem_iff.mp hc), by rw [hp.length_eq]; exact R.pos, by rw [hp.length_eq]; exact R.le⟩
theorem turn_perm (xs : List Str) : (xs.drop 1 ++ xs.take 1).Perm xs := by
  have h : (xs.drop 1 ++ xs.take 1).Perm (xs.take 1 ++ xs.drop 1) := List.perm_append_comm
  rw [List.take_append_drop] at h
  exact h
theorem QZ.rowB {q : Qd} (z : QZ q.1 q.2) : Row (rowB q) := row_perm_of z.rowA ((List.reverse_perm q.1).append_right _)
theorem QZ.rowD {q : Qd} (z : QZ q.1 q.2) : Row (rowD q) := row_perm_of z.rowA ((turn_perm q.1).append_right _)
theorem serves_perm {q : Qd} (Z : Qn q) {p : List Str} (hp : p.Perm q.1) : q ∈ allQ (p ++ endC q) (p ++ endC q).length := by
  have e0 : srt p = q.1 := by rw [srt_congr hp, srt_own Z.srt]
  have hl := hp.length_eq
  have tl : (p ++ endC q).take p.length = p := List.take_left
  by_cases he : q.2 = ""
  · have hpos : 0 < q.1.length := List.length_pos_iff.mpr (Z.some he)
    refine mem_allQ.mpr ⟨p.length - 1, by rw [List.length_append]; omega, .inr ?_⟩
    rw [show p.length - 1 + 1 = p.length by omega, tl, e0]
    exact Prod.ext rfl he
  · have el : (endC q).length = 1 := by
      unfold endC
      rw [if_neg he]
      rfl
    refine mem_allQ.mpr ⟨p.length, by rw [List.length_append, el]; omega, .inl ?_⟩
    rw [tl, e0]
    exact Prod.ext rfl (end_row rfl he).symm
/-- what all three rows serve is what the question forces -/
theorem common_iff {q z : Qd} (Z : QZ q.1 q.2) : (z ∈ allQ (rowA q) (rowA q).length ∧ z ∈ allQ (rowB q) (rowB q).length) ∧ z ∈ allQ (rowD q) (rowD q).length ↔ z ∈ forcedL q := by
  have n := QZ.qn Z
  constructor
  · rintro ⟨⟨h1, h2⟩, _⟩
    exact only_forced n Z.rowA.sub Z.rowB.sub h1 h2
  · intro h
    exact ⟨⟨forced_all Z.rowA.sub (serves_perm n (.refl _)) h, forced_all Z.rowB.sub (serves_perm n (List.reverse_perm _)) h⟩, forced_all Z.rowD.sub (serves_perm n (turn_perm _)) h⟩
theorem forced_qz {q z : Qd} (Z : QZ q.1 q.2) (h : z ∈ forcedL q) : QZ z.1 z.2 := allQ_qz Z.rowA z ((common_iff Z).mpr h).1.1
theorem forced_on {q z x : Qd} (Z : QZ q.1 q.2) (h : z ∈ forcedL q) (hx : x ∈ forcedL z) : x ∈ forcedL q := by
  obtain ⟨⟨h1, h2⟩, h3⟩ := (common_iff Z).mpr h
  exact (common_iff Z).mp ⟨⟨forced_all Z.rowA.sub h1 hx, forced_all Z.rowB.sub h2 hx⟩, forced_all Z.rowD.sub h3 hx⟩
theorem forced_fam {rs : List (List Str)} (hz : ∀ r ∈ rs, Row r) {q z : Qd} (hq : q ∈ famQ rs) (h : z ∈ forcedL q) : z ∈ famQ rs := by
  obtain ⟨r, hr, hm⟩ := List.mem_flatMap.mp hq
  exact List.mem_flatMap.mpr ⟨r, hr, forced_all (hz r hr).sub hm h⟩
def spTwoR : Sp := fun vs H Q _ => ∃ (t : Addr) (q : Qd), vs = [.ref t] ∧ QAt H t q.1 q.2 ∧ q.1.length ≤ 12 ∧ ∀ (H' : Hp) (p r0 r1 r2 : Addr), Same H H' → H' p = some (.lst [.ref r0, .ref r1, .ref r2]) →
  H' r0 = some (.tup ((rowA q).map V.str)) → H' r1 = some (.tup ((rowB q).map V.str)) → H' r2 = some (.tup ((rowD q).map V.str)) → Q (.ref p) H'
abbrev nTwo : List Str := ["_law_question_here", "_law_some", "_law_end"]
theorem scTwo : FnScope nTwo ["_law_question_here"] (defScope sTwo) := ⟨rfl, rfl, rfl, by decide +kernel, rfl, by decide +kernel, by decide +kernel⟩
theorem ok_two {f : Addr} {fd : FuncData} (F : Fun K "_law_two" "_law_two" sTwo f fd) (T : Txt K mg) : FnOk P w K mg base CX0 1 f fd ["_law_question_here"] spTwoR := by
  refine F.ok scTwo (fun vs H Q E h => ?_) (fun cdv A outer s H vs Q E hr h => ?_)
  · obtain ⟨t, q, rfl, _⟩ := h
    rfl
  · obtain ⟨t, q, rfl, ⟨c, hq, hc⟩, hl12, k⟩ := h
    have nd := scTwo.nd
    refine ⟨_, Evl.pss_cut (ps_par (i := 1) (j := 2) rfl nd rfl rfl (by decide) rfl rfl (pa_cons (pe_callTy call_list_of (by rfl) T.list (by decide +kernel) (pa_cons (pe_ix ix_tup (pv 0) pe_int fun _ _ => rfl) pa_nil))
        (pa_cons (pe_ifExp (pt_cmpR op_ne (pe_ix ix_tup (pv 0) pe_int fun _ _ => rfl) pe_str (nomark _)) (pe_lst (pa_cons (pe_ix ix_tup (pv 0) pe_int fun _ _ => rfl) pa_nil)) (pe_lst pa_nil)) pa_nil)) (by rfl))
      (pss_one (ps_ret (pe_lst
        (pa_cons (pe_callTy call_tuple_of (by rfl) T.tuple (by decide +kernel) (pa_cons (pe_op op_cat (pv 1) (pv 2)) pa_nil))
        (pa_cons (pe_callTy call_tuple_of (by rfl) T.tuple (by decide +kernel) (pa_cons (pe_op op_cat (pe_revL (pv 1)) (pv 2)) pa_nil))
        (pa_cons (pe_callTy call_tuple_of (by rfl) T.tuple (by decide +kernel) (pa_cons (pe_op op_cat (pe_op op_cat (pe_slice sl_list (pv 1) (po_some pe_int) po_none) (pe_slice sl_list (pv 1) po_none (po_some pe_int))) (pv 2)) pa_nil)) pa_nil)))))), ?_⟩
    refine ⟨fun σ' H' => ∃ (s e : Addr), σ' = [some (.ref t), some (.ref s), some (.ref e)] ∧ Same H H' ∧ H' s = some (.lst (q.1.map V.str)) ∧ H' e = some (.lst ((endC q).map V.str)), ?_, ?_⟩
    · refine ⟨_, rfl, t, _, 0, _, rfl, rfl, SqT.of hq, (by exact atI_nat (j := 0) rfl), c, _, rfl, .inr (SqT.of hc), fun s hs => ?_⟩
      have s1 := same_new (o := .lst (q.1.map V.str)) hs
      have hs1 := upd_same (H := H) (a := s) (o := .lst (q.1.map V.str))
      generalize upd H s (.lst (q.1.map V.str)) = H1 at s1 hs1 ⊢
      refine ⟨_, rfl, t, _, 1, _, rfl, rfl, SqT.of (s1 _ _ hq), (by exact atI_nat (j := 1) rfl), rfl, _, rfl, ?_⟩
      show if (!decide (V.str q.2 = V.str "")) = true then _ else _
      by_cases he : q.2 = ""
      · rw [decide_eq_true (congrArg V.str he)]
        refine iteF ?_
        refine ⟨by decide, fun e he0 => ⟨_, _, rfl, s, e, rfl, s1.trans (same_new he0), same_new he0 _ _ hs1, ?_⟩⟩
        rw [upd_same]
        unfold endC
        rw [if_pos he]
        rfl
      · rw [decide_eq_false (fun h => he (by injection h))]
        refine iteT ?_
        refine ⟨_, rfl, t, _, 1, _, rfl, rfl, SqT.of (s1 _ _ hq), (by exact atI_nat (j := 1) rfl), by show 1 ≤ sizeLine; decide, fun e he0 => ⟨_, _, rfl, s, e, rfl, s1.trans (same_new he0), same_new he0 _ _ hs1, ?_⟩⟩
        rw [upd_same]
        unfold endC
        rw [if_neg he]
        rfl
    · rintro σ2 H2 ⟨s, e, rfl, s2, hs, he⟩
      have el : (endC q).length ≤ 1 := by
        unfold endC
        split <;> simp
      have sz : ∀ {xs : List V}, xs.length ≤ 12 → xs.length + ((endC q).map V.str).length ≤ sizeLine := fun {xs} h => by
        rw [List.length_map, sizeLine_eq]
        omega
      -- as it stands
      refine ⟨_, rfl, _, rfl, s, e, _, _, rfl, rfl, hs, he, sz (by rw [List.length_map]; exact hl12), fun p1 hp1 => ⟨p1, _, rfl, .inl ⟨SqL.of upd_same, fun r0 hr0 => ?_⟩⟩⟩
      have e0 : q.1.map V.str ++ (endC q).map V.str = (rowA q).map V.str := List.map_append.symm
      rw [e0] at hr0 ⊢
      have s3 := (same_new (o := .lst ((rowA q).map V.str)) hp1).trans (same_new (o := .tup ((rowA q).map V.str)) hr0)
      have h0 := upd_same (H := upd H2 p1 (.lst ((rowA q).map V.str))) (a := r0) (o := .tup ((rowA q).map V.str))
      generalize upd (upd H2 p1 (.lst ((rowA q).map V.str))) r0 (.tup ((rowA q).map V.str)) = H3 at s3 h0 ⊢
      have hs3 := s3 _ _ hs
      have he3 := s3 _ _ he
      -- turned about
      refine ⟨_, rfl, s, _, rfl, SqL.of hs3, fun p2 hp2 => ?_⟩
      have s4 := same_new (o := .lst (q.1.map V.str).reverse) hp2
      refine ⟨_, rfl, p2, e, _, _, rfl, rfl, upd_same, s4 _ _ he3, sz (by rw [List.length_reverse, List.length_map]; exact hl12), fun p3 hp3 => ⟨p3, _, rfl, .inl ⟨SqL.of upd_same, fun r1 hr1 => ?_⟩⟩⟩
      have e1 : (q.1.map V.str).reverse ++ (endC q).map V.str = (rowB q).map V.str := by
        rw [← List.map_reverse]
        exact List.map_append.symm
      rw [e1] at hr1 ⊢
      have s5 := s4.trans ((same_new (o := .lst ((rowB q).map V.str)) hp3).trans (same_new (o := .tup ((rowB q).map V.str)) hr1))
      have h1 := upd_same (H := upd (upd H3 p2 (.lst (q.1.map V.str).reverse)) p3 (.lst ((rowB q).map V.str))) (a := r1) (o := .tup ((rowB q).map V.str))
      generalize upd (upd (upd H3 p2 (.lst (q.1.map V.str).reverse)) p3 (.lst ((rowB q).map V.str))) r1 (.tup ((rowB q).map V.str)) = H5 at s5 h1 ⊢
      have hs5 := s5 _ _ hs3
      have he5 := s5 _ _ he3
      -- the first one at the end
      refine ⟨_, rfl, _, rfl, s, _, rfl, SqL.of hs5, fun p4 hp4 => ?_⟩
      have s6 := same_new (o := .lst (cutV (q.1.map V.str) (some 1) none)) hp4
      refine ⟨_, rfl, _, rfl, s, _, rfl, SqL.of (s6 _ _ hs5), fun p5 hp5 => ?_⟩
      have s7 := same_new (o := .lst (cutV (q.1.map V.str) none (some 1))) hp5
      have c1 : cutV (q.1.map V.str) (some 1) none = (q.1.drop 1).map V.str := by
        have := cut_behind 0 (q.1.map V.str)
        rw [List.map_drop]
        exact this
      have c2 : cutV (q.1.map V.str) none (some 1) = (q.1.take 1).map V.str := by
        have := cut_to 1 (q.1.map V.str)
        rw [List.map_take]
        exact this
      refine ⟨p4, p5, _, _, rfl, rfl, s7 _ _ upd_same, upd_same, by rw [c1, c2, List.length_map, List.length_map, List.length_drop, List.length_take, sizeLine_eq]; omega, fun p6 hp6 => ?_⟩
      have s8 := same_new (o := .lst (cutV (q.1.map V.str) (some 1) none ++ cutV (q.1.map V.str) none (some 1))) hp6
      refine ⟨_, rfl, p6, e, _, _, rfl, rfl, upd_same, s8 _ _ (s7 _ _ (s6 _ _ he5)), sz (by rw [c1, c2, List.length_append, List.length_map, List.length_map, List.length_drop, List.length_take]; omega), fun p7 hp7 => ⟨p7, _, rfl, .inl ⟨SqL.of upd_same, fun r2 hr2 => ?_⟩⟩⟩
      have s9 := s6.trans (s7.trans (s8.trans ((same_new (o := .lst (cutV (q.1.map V.str) (some 1) none ++ cutV (q.1.map V.str) none (some 1) ++ (endC q).map V.str)) hp7).trans (same_new (o := .tup (cutV (q.1.map V.str) (some 1) none ++ cutV (q.1.map V.str) none (some 1) ++ (endC q).map V.str)) hr2))))
      have e2 : cutV (q.1.map V.str) (some 1) none ++ cutV (q.1.map V.str) none (some 1) ++ (endC q).map V.str = (rowD q).map V.str := by
        unfold rowD
        rw [c1, c2, List.map_append, List.map_append]
      refine ⟨by show 3 ≤ sizeLine; decide, fun p hp => ?_⟩
      have s10 := same_new (o := .lst [.ref r0, .ref r1, .ref r2]) hp
      refine k _ p r0 r1 r2 (s2.trans (s3.trans (s5.trans (s9.trans s10)))) upd_same (s10 _ _ (s9 _ _ (s5 _ _ h0))) (s10 _ _ (s9 _ _ h1)) (s10 _ _ ?_)
      rw [upd_same, e2]
def spCommon : Sp := fun vs H Q _ => ∃ (t : Addr) (q : Qd), vs = [.ref t] ∧ QAt H t q.1 q.2 ∧ QZ q.1 q.2 ∧ ∀ (H' : Hp) (p : Addr) (ys : List V) (zs : List Qd), Same H H' → H' p = some (.lst ys) → QL H' ys zs → zs.Nodup → zs.length ≤ 24 → (∀ z, z ∈ zs ↔ z ∈ forcedL q) → Q (.ref p) H'
abbrev nCommon : List Str := ["_law_question_here", "_law_rows", "_law_found", "_law_one_here"]
theorem scCommon : FnScope nCommon ["_law_question_here"] (defScope sCommon) := ⟨rfl, rfl, rfl, by decide +kernel, rfl, by decide +kernel, by decide +kernel⟩
theorem allQ_nodup {r : List Str} (R : Row r) : (allQ r r.length).Nodup := by
  have key : ∀ n, n ≤ r.length → (allQ r n).Nodup := by
    intro n
    induction n with
    | zero => intro _; exact List.nodup_nil
    | succ n ih =>
      intro hn
      rw [allQ_succ, List.nodup_append]
      have hne := getD_ne R.sub (ix := r) (j := n) (by omega)
      refine ⟨ih (by omega), ?_, fun a ha b hb e => ?_⟩
      · show List.Nodup [_, _]
        rw [List.nodup_cons]
        refine ⟨fun h => ?_, by simp⟩
        have := congrArg Prod.snd (List.mem_singleton.mp h)
        exact hne this
      · subst e
        obtain ⟨j, hj, e1⟩ := mem_allQ.mp ha
        have hnj := getD_ne R.sub (ix := r) (j := j) (by omega)
        have hb2 : a = (srt (r.take n), r.getD n "") ∨ a = ((srt (r.take (n + 1)), ("" : Str)) : Qd) := by
          rcases List.mem_cons.mp hb with h | h
          · exact .inl h
          · exact .inr (List.mem_singleton.mp h)
        have ln : ∀ {i k : Nat}, srt (r.take i) = srt (r.take k) → min i r.length = min k r.length := fun {i k} h => by
          have := congrArg List.length h
          rw [srt_len, srt_len, List.length_take, List.length_take] at this
          exact this
        rcases e1 with rfl | rfl
        · rcases hb2 with h | h
          · have := ln (congrArg Prod.fst h)
            omega
          · exact hnj (congrArg Prod.snd h)
        · rcases hb2 with h | h
          · exact hne (congrArg Prod.snd h).symm
          · have := ln (congrArg Prod.fst h)
            omega
  exact key r.length (Nat.le_refl _)
theorem ok_common {f : Addr} {fd : FuncData} (F : Fun K "_law_common" "_law_common" sCommon f fd) (T : Txt K mg) (cT : Cal P w K mg base 1 "_law_two" ["_law_question_here"] spTwoR) (cQ : Cal P w K mg base 1 "questions_of" ["index"] spQof) : FnOk P w K mg base CX0 2 f fd ["_law_question_here"] spCommon := by
  refine F.ok scCommon (fun vs H Q E h => ?_) (fun cdv A outer s H vs Q E hr h => ?_)
  · obtain ⟨t, q, rfl, _⟩ := h
    rfl
  · obtain ⟨t, q, rfl, hq, Z, k⟩ := h
    have nd := scCommon.nd
    have hu65 : A.units + 3 + 65 < cLine := by
      have := hr.un
      have e : (A.deeper (envOfC "_law_common" (defScope sCommon) s.heap.objs.size f cdv)).units = A.units + 3 := rfl
      omega
    refine ⟨_, pss_cons (ps_set (i := 1) nd rfl (Or.inr rfl) (pe_call cT.G hr rfl cT.m cT.kp cT.b .nil pass0 (pa_cons (pv 0) pa_nil)))
      (pss_cons (ps_setLc (i := 2) (own := [("_law_one_here", 3)]) (g := gName 3) rfl nd rfl (by rfl) (sw_true rfl (by rfl) rfl (by decide)) (pi_list (pe_call cQ.G hr rfl cQ.m cQ.kp cQ.b .nil pass0 (pa_cons (pe_ix ix_list (pv 1) pe_int fun _ _ => rfl) pa_nil))) (blkOk_by (N := nCommon) (sc := defScope sCommon) (by decide +kernel)) (fun _ _ _ _ _ => pg_name (i := 3) nd rfl (by first | exact Or.inl rfl | exact Or.inr rfl))
        (fun _ _ _ _ _ => pts_one (pt_cmpR (r := rInD K) (op_inD hu65) (pv 3) (pe_call cQ.G hr rfl cQ.m cQ.kp cQ.b .nil pass0 (pa_cons (pe_ix (r := rIxL K) ix_list (pv 1) pe_int fun _ _ => rfl) pa_nil)) (by rfl))) (fun _ _ _ _ _ => pv 3))
      (pss_one (ps_ret (pe_lc (own := [("_law_one_here", 3)]) (g := gName 3) rfl nd (pi_list (pv 2)) (blkOk_by (N := nCommon) (sc := defScope sCommon) (by decide +kernel)) (fun _ _ _ _ _ => pg_name (i := 3) nd rfl (by first | exact Or.inl rfl | exact Or.inr rfl))
        (fun _ _ _ _ _ => pts_one (pt_cmpR (r := rInD K) (op_inD hu65) (pv 3) (pe_call cQ.G hr rfl cQ.m cQ.kp cQ.b .nil pass0 (pa_cons (pe_ix (r := rIxL K) ix_list (pv 1) pe_int fun _ _ => rfl) pa_nil)) (by rfl))) (fun _ _ _ _ _ => pv 3))))), ?_⟩
    refine ⟨_, rfl, t, q, rfl, hq, Z.m.le, fun H1 p r0 r1 r2 s1 hp h0 h1 h2 => ?_⟩
    have RA := Z.rowA
    have RB := Z.rowB
    have RD := Z.rowD
    refine ⟨_, rfl, p, _, 0, _, rfl, rfl, SqL.of hp, (by exact atI_nat (j := 0) rfl), r0, rowA q, rfl, h0, RA, fun ys zs a H2 s2 ha0 ha hql hpm hup => ⟨a, rfl, ⟨_, SqL.of ha⟩, fun D hD => ?_⟩⟩
    have zl : zs.length ≤ 24 := by rw [hpm.length_eq, allQ_len]; have := RA.le; omega
    have zf : ∀ z ∈ zs, QZ z.1 z.2 := fun z hz => allQ_qz RA z (hpm.mem_iff.mp hz)
    have yl := hql.len
    have step : ∀ {rr : Addr} {R : List Str} {H0 H3 : Hp} (RR : Row R) {o : Addr} {z : Qd} {ys' : List V} {rs : List Qd} {p' : Addr}, QZ z.1 z.2 → Same H0 H3 → QAt H3 o z.1 z.2 → H3 p' = some (.lst ys') → QL H3 ys' rs → rs.Perm (allQ R R.length) →
        rInD K (.ref o) (.ref p') H3 (fun v H' => v = .bl (decide (z ∈ allQ R R.length)) ∧ H' = H3) := fun {rr R H0 H3} RR {o z ys' rs p'} hz s hqa hp' hql' hpm' => by
      have rl : rs.length ≤ 100 := by rw [hpm'.length_eq, allQ_len]; have := RR.le; omega
      have rf : ∀ r ∈ rs, Qfine r := fun r hr => allQ_fine RR (Nat.le_refl _) r (hpm'.mem_iff.mp hr)
      refine ⟨dq z, rs.map dq, dp_q hqa, .lst (SqL.of hp') hql'.dp, (dok_q hz.fine).shaped, (dok_qs rf rl).shaped, ?_, rfl⟩
      rw [any_q]
      exact congrArg V.bl (decide_eq_decide.mpr hpm'.mem_iff)
    refine lc_list (K := K) (a := a) (xs := ys) (fun i H' => ∃ us : List V, Same H2 H' ∧ H' D = some (.lst us) ∧ us.length ≤ i ∧ QL H' us ((zs.take i).filter fun z => decide (z ∈ allQ (rowB q) (rowB q).length))) ⟨[], same_new hD, upd_same, Nat.le_refl _, .nil⟩ (fun i H' _ ⟨_, s, _⟩ => SqL.of (s _ _ ha)) ?_ ?_
    · rintro i x H3 hx ⟨us, s3, hUl, ul, qu⟩
      have hil : i < ys.length := (List.getElem?_eq_some_iff.mp hx).1
      obtain ⟨o, z, rfl, hzi, hza⟩ := (hql.same s3).at_ hx
      have et : zs.take (i + 1) = zs.take i ++ [z] := by rw [List.take_add_one, hzi]; rfl
      have zz := zf z (List.mem_of_getElem? hzi)
      rw [et, List.filter_append]
      have s13 := s2.trans s3
      refine ⟨rfl, Exists.intro _ ⟨rfl, Exists.intro _ ⟨rfl, p, _, 1, _, rfl, rfl, SqL.of (s13 _ _ hp), (by exact atI_nat (j := 1) rfl), r1, rowB q, rfl, s13 _ _ h1, RB, fun ys' rs p' H4 s4 hp0 hp' hql' hpm' hup' => ?_⟩⟩⟩
      obtain ⟨d, ds, g1, g2, g3, g4, g5, g6⟩ := step (rr := r1) RB zz s4 (hza.same s4) hp' hql' hpm'
      refine ⟨d, ds, g1, g2, g3, g4, _, rfl, ?_⟩
      have g7 : (ds.any fun x => PyData.eqv x d) = decide (z ∈ allQ (rowB q) (rowB q).length) := by injection g5
      rw [g7]
      have s34 := s3.trans s4
      cases hb : decide (z ∈ allQ (rowB q) (rowB q).length) with
      | false =>
        refine iteF ?_
        refine ⟨us, s34, s4 _ _ hUl, by omega, ?_⟩
        rw [List.filter_cons, hb, if_neg (by decide), List.filter_nil, List.append_nil]
        exact qu.same s4
      | true =>
        refine iteT ?_
        refine ⟨_, rfl, us, s4 _ _ hUl, small1000 (by omega), us ++ [.ref o], fun b o' hb' => ?_, upd_same, by rw [List.length_append]; simp; omega, ?_⟩
        · rw [upd_ne (ne_of_none hb' hD)]
          exact s34 _ _ hb'
        · rw [List.filter_cons, hb, if_pos rfl, List.filter_nil]
          exact QL.off (xs := us) (s4 _ _ hUl) ((qu.same s4).snoc (q := z) (hza.same s4))
    rintro H3 ⟨us, s3, hUl, ul, qu⟩
    rw [yl, List.take_of_length_le (Nat.le_refl _)] at qu
    have fl : (zs.filter fun z => decide (z ∈ allQ (rowB q) (rowB q).length)).length ≤ 24 := Nat.le_trans (List.length_filter_le _ _) zl
    have ff : ∀ z ∈ zs.filter (fun z => decide (z ∈ allQ (rowB q) (rowB q).length)), QZ z.1 z.2 := fun z hz => zf z (List.mem_filter.mp hz).1
    refine ⟨_, rfl, D, rfl, ⟨_, SqL.of hUl⟩, fun D2 hD2 => ?_⟩
    have ul2 := qu.len
    refine lc_list (K := K) (a := D) (xs := us) (fun i H' => ∃ vs : List V, Same H3 H' ∧ H' D2 = some (.lst vs) ∧ vs.length ≤ i ∧ QL H' vs (((zs.filter fun z => decide (z ∈ allQ (rowB q) (rowB q).length)).take i).filter fun z => decide (z ∈ allQ (rowD q) (rowD q).length))) ⟨[], same_new hD2, upd_same, Nat.le_refl _, .nil⟩ (fun i H' _ ⟨_, s, _⟩ => SqL.of (s _ _ hUl)) ?_ ?_
    · rintro i x H4 hx ⟨vs, s4, hVl, vl, qv⟩
      have hil : i < us.length := (List.getElem?_eq_some_iff.mp hx).1
      obtain ⟨o, z, rfl, hzi, hza⟩ := (qu.same s4).at_ hx
      have et : (zs.filter fun z => decide (z ∈ allQ (rowB q) (rowB q).length)).take (i + 1) = (zs.filter fun z => decide (z ∈ allQ (rowB q) (rowB q).length)).take i ++ [z] := by rw [List.take_add_one, hzi]; rfl
      have zz := ff z (List.mem_of_getElem? hzi)
      rw [et, List.filter_append]
      have s14 := s2.trans (s3.trans s4)
      refine ⟨rfl, Exists.intro _ ⟨rfl, Exists.intro _ ⟨rfl, p, _, 2, _, rfl, rfl, SqL.of (s14 _ _ hp), (by exact atI_nat (j := 2) rfl), r2, rowD q, rfl, s14 _ _ h2, RD, fun ys' rs p' H5 s5 hp0 hp' hql' hpm' hup' => ?_⟩⟩⟩
      obtain ⟨d, ds, g1, g2, g3, g4, g5, g6⟩ := step (rr := r2) RD zz s5 (hza.same s5) hp' hql' hpm'
      refine ⟨d, ds, g1, g2, g3, g4, _, rfl, ?_⟩
      have g7 : (ds.any fun x => PyData.eqv x d) = decide (z ∈ allQ (rowD q) (rowD q).length) := by injection g5
      rw [g7]
      have s45 := s4.trans s5
      cases hb : decide (z ∈ allQ (rowD q) (rowD q).length) with
      | false =>
        refine iteF ?_
        refine ⟨vs, s45, s5 _ _ hVl, by omega, ?_⟩
        rw [List.filter_cons, hb, if_neg (by decide), List.filter_nil, List.append_nil]
        exact qv.same s5
      | true =>
        refine iteT ?_
        refine ⟨_, rfl, vs, s5 _ _ hVl, small1000 (by omega), vs ++ [.ref o], fun b o' hb' => ?_, upd_same, by rw [List.length_append]; simp; omega, ?_⟩
        · rw [upd_ne (ne_of_none hb' hD2)]
          exact s45 _ _ hb'
        · rw [List.filter_cons, hb, if_pos rfl, List.filter_nil]
          exact QL.off (xs := vs) (s5 _ _ hVl) ((qv.same s5).snoc (q := z) (hza.same s5))
    rintro H4 ⟨vs, s4, hVl, vl, qv⟩
    rw [ul2, List.take_of_length_le (Nat.le_refl _)] at qv
    refine k H4 D2 vs _ (s1.trans (s2.trans (s3.trans s4))) hVl qv ?_ ?_ fun z => ?_
    · exact ((hpm.nodup_iff.mpr (allQ_nodup RA)).sublist List.filter_sublist).sublist List.filter_sublist
    · exact Nat.le_trans (List.length_filter_le _ _) fl
    · rw [List.mem_filter, List.mem_filter, decide_eq_true_eq, decide_eq_true_eq, hpm.mem_iff]
      exact common_iff Z
abbrev nLaw : List Str := ["_law_script", "_law_bag_here", "_law_turn", "_law_names_here", "_law_shelf", "_law_family", "_law_one_here", "_law_other", "_law_k", "_law_due", "_law_far"]
theorem scLaw : FnScope nLaw ["_law_script"] (defScope sLaw) := ⟨rfl, rfl, rfl, by decide +kernel, rfl, by decide +kernel, by decide +kernel⟩
def spLaw (K : PySem.W.Frag) : Sp := fun vs H Q _ => ∃ (a : Addr) (ns : List Int), vs = [.ref a] ∧ SqL K H a (ns.map V.int) ∧ ns.length ≤ 63 ∧ ∀ H', Q (.bl true) H'
theorem made_same {H : Hp} {x dx C : Addr} (nx : H x = none) (ndx : H dx = none) : Same H (upd (upd H dx (.own x)) x (.ins C dx [])) := fun c o e => by
  rw [upd_ne (ne_of_none e nx), upd_ne (ne_of_none e ndx)]
  exact e
theorem nil_shaped : SeqAt.shaped (.list []) = true := by decide +kernel
theorem Dist.few {rs : List (List Str)} {zs : List Qd} (D : Dist (famQ rs) zs) (hz : ∀ r ∈ rs, Row r) (hm : rs.length ≤ 12) : zs.length ≤ 288 := by
  have h1 := nodup_leQ zs (famQ rs) D.nd fun q hq => (D.mem q).mp hq
  have h2 := famQ_len hz
  omega
theorem forced_few {q : Qd} {zs : List Qd} (D : Dist (forcedL q) zs) : zs.length ≤ 4 := Nat.le_trans (nodup_leQ _ _ D.nd fun z hz => (D.mem z).mp hz) (forced_len q)
theorem ok_law {f C fI : Addr} {fd fdI : FuncData} (F : Fun K "law" "law" sLaw f fd) (T : Txt K mg) (TC : TxC K mg C)
    (M : Mk K C fI) (FI : FnOk P w K mg base CX0 5 fI fdI ["self", "indexes"] (spInitS C)) (bI : Binds K fdI ["self", "indexes"] [])
    (cB : Cal P w K mg base 1 "_law_bag" ["_law_script"] (spBag K))
    (cT : Cal P w K mg base 1 "_law_take" ["_law_bag_here", "_law_many"] spTake)
    (cN : Cal P w K mg base 3 "_law_names" ["_law_bag_here", "_law_many"] spNames)
    (cQ : Cal P w K mg base 3 "_law_question" ["_law_bag_here", "_law_names_here"] spQuestion)
    (cX : Cal P w K mg base 4 "_law_indexes" ["_law_bag_here", "_law_names_here", "_law_most"] spIndexes)
    (cC : Cal P w K mg base 2 "_law_common" ["_law_question_here"] spCommon)
    (cV : Cal P w K mg base 2 "served" ["shelf"] (spServed C))
    (cS : Cal P w K mg base 2 "is_served" ["shelf", "question"] (spIsServed C))
    (cF : Cal P w K mg base 3 "forced" ["question"] spForced)
    (cR : Cal P w K mg base 4 "forces" ["one", "other"] spForces) : FnOk P w K mg base CX0 7 f fd ["_law_script"] (spLaw K) := by
  refine F.ok scLaw (fun vs H Q E h => ?_) (fun cdv A outer s H vs Q E hr h => ?_)
  · obtain ⟨a, ns, rfl, _⟩ := h
    rfl
  · obtain ⟨a, ns, rfl, hS, hlen, k⟩ := h
    have nd := scLaw.nd
    have hr1 : Room 1 _ := hr.mono (by decide)
    have hr2 : Room 2 _ := hr.mono (by decide)
    have hr3 : Room 3 _ := hr.mono (by decide)
    have hr4 : Room 4 _ := hr.mono (by decide)
    have hu80 : A.units + 3 + 80 < cLine := by
      have := hr.un
      have e : (A.deeper (envOfC "law" (defScope sLaw) s.heap.objs.size f cdv)).units = A.units + 3 := rfl
      omega
    have hu65 : A.units + 3 + 65 < cLine := by omega
    refine ⟨_, pss_cons (ps_set (i := 1) nd rfl (by first | exact Or.inl rfl | exact Or.inr rfl) (pe_call cB.G hr1 rfl cB.m cB.kp cB.b .nil pass0 (pa_cons (pv 0) pa_nil)))
      (pss_cons (ps_for PassesOwn.never rfl (pi_range1 (by rfl) T.range (pa_cons pe_int pa_nil)) (pg_name (i := 2) nd rfl (by first | exact Or.inl rfl | exact Or.inr rfl))
        (pss_cons (ps_set (i := 3) nd rfl (by first | exact Or.inl rfl | exact Or.inr rfl) (pe_call cN.G hr3 rfl cN.m cN.kp cN.b .nil pass0 (pa_cons (pv 1) (pa_cons (pe_op op_add pe_int (pe_call cT.G hr1 rfl cT.m cT.kp cT.b .nil pass0 (pa_cons (pv 1) (pa_cons pe_int pa_nil)))) pa_nil))))
        (pss_cons (ps_set (i := 4) nd rfl (by first | exact Or.inl rfl | exact Or.inr rfl) (pe_make M FI hr rfl TC.mgC bI .nil pass0 (pa_cons (pe_call cX.G hr4 rfl cX.m cX.kp cX.b .nil pass0 (pa_cons (pv 1) (pa_cons (pv 3) (pa_cons pe_int pa_nil)))) pa_nil)))
        (pss_cons (ps_set (i := 5) nd rfl (by first | exact Or.inl rfl | exact Or.inr rfl) (pe_call cV.G hr2 rfl cV.m cV.kp cV.b .nil pass0 (pa_cons (pv 4) pa_nil)))
        (Evl.pss_cut (ps_for PassesOwn.never rfl (pi_list (pv 5)) (pg_name (i := 6) nd rfl (by first | exact Or.inl rfl | exact Or.inr rfl))
          (pss_one (ps_if (pt_cmpR (op_neD hr.units) (pe_lc (own := [("_law_other", 7)]) (g := gName 7) rfl nd (pi_list (pe_call cF.G hr3 rfl cF.m cF.kp cF.b .nil pass0 (pa_cons (pv 6) pa_nil))) (blkOk_by (N := nLaw) (sc := defScope sLaw) (by decide +kernel)) (fun _ _ _ _ _ => pg_name (i := 7) nd rfl (by first | exact Or.inl rfl | exact Or.inr rfl))
            (fun _ _ _ _ _ => pts_one (pt_cmpR (r := rNotInD K) (op_notInD hu65) (pv 7) (pv 5) (by rfl))) (fun _ _ _ _ _ => pv 7)) (pe_lst pa_nil) (nomark _)) (pss_one (ps_ret pe_bl)) pss_nil)))
        (pss_one (ps_for PassesOwn.never rfl (pi_range1 (by rfl) T.range (pa_cons pe_int pa_nil)) (pg_name (i := 8) nd rfl (by first | exact Or.inl rfl | exact Or.inr rfl))
          (pss_cons (ps_set (i := 6) nd rfl (by first | exact Or.inl rfl | exact Or.inr rfl) (pe_call cQ.G hr3 rfl cQ.m cQ.kp cQ.b .nil pass0 (pa_cons (pv 1) (pa_cons (pv 3) pa_nil))))
          (pss_cons (ps_setLc (i := 9) (own := [("_law_other", 7)]) (g := gName 7) rfl nd rfl (by rfl) (sw_true rfl (by rfl) rfl (by decide)) (pi_list (pe_call cF.G hr3 rfl cF.m cF.kp cF.b .nil pass0 (pa_cons (pv 6) pa_nil))) (blkOk_by (N := nLaw) (sc := defScope sLaw) (by decide +kernel)) (fun _ _ _ _ _ => pg_name (i := 7) nd rfl (by first | exact Or.inl rfl | exact Or.inr rfl))
            (fun _ _ _ _ _ => pts_one (pt_not (pt_val (pe_call cS.G hr2 rfl cS.m cS.kp cS.b .nil pass0 (pa_cons (pv 4) (pa_cons (pv 7) pa_nil)))))) (fun _ _ _ _ _ => pv 7))
          (Evl.pss_cut (ps_if (PW.pt (pw_or (PW.pt (pw_and (pt_val (pe_call cS.G hr2 rfl cS.m cS.kp cS.b .nil pass0 (pa_cons (pv 4) (pa_cons (pv 6) pa_nil)))) (pw_and1 (pt_cmpR (op_neD hr.units) (pv 9) (pe_lst pa_nil) (nomark _)))))
              (pw_or1 (pt_cmpR (op_notInD hu65) (pv 6) (pe_call cF.G hr3 rfl cF.m cF.kp cF.b .nil pass0 (pa_cons (pv 6) pa_nil)) (by rfl))))) (pss_one (ps_ret pe_bl)) pss_nil)
          (pss_cons (ps_if (pt_cmpR (op_neD hr.units) (pe_callB (cr_sortedQL hu80) (by rfl) T.sorted (by decide +kernel) (pa_cons (pe_call cC.G hr2 rfl cC.m cC.kp cC.b .nil pass0 (pa_cons (pv 6) pa_nil)) pa_nil)) (pe_call cF.G hr3 rfl cF.m cF.kp cF.b .nil pass0 (pa_cons (pv 6) pa_nil)) (nomark _)) (pss_one (ps_ret pe_bl)) pss_nil)
          (pss_one (ps_for PassesOwn.never rfl (pi_list (pe_call cF.G hr3 rfl cF.m cF.kp cF.b .nil pass0 (pa_cons (pv 6) pa_nil))) (pg_name (i := 7) nd rfl (by first | exact Or.inl rfl | exact Or.inr rfl))
            (pss_one (ps_if (PW.pt (pw_or (pt_not (pt_val (pe_call cR.G hr4 rfl cR.m cR.kp cR.b .nil pass0 (pa_cons (pv 6) (pa_cons (pv 7) pa_nil)))))
              (pw_or1 (pt_cmpR (op_neD hr.units) (pe_lc (own := [("_law_far", 10)]) (g := gName 10) rfl nd (pi_list (pe_call cF.G hr3 rfl cF.m cF.kp cF.b .nil pass0 (pa_cons (pv 7) pa_nil))) (blkOk_by (N := nLaw) (sc := defScope sLaw) (by decide +kernel)) (fun _ _ _ _ _ => pg_name (i := 10) nd rfl (by first | exact Or.inl rfl | exact Or.inr rfl))
                (fun _ _ _ _ _ => pts_one (pt_not (pt_val (pe_call cR.G hr4 rfl cR.m cR.kp cR.b .nil pass0 (pa_cons (pv 6) (pa_cons (pv 10) pa_nil)))))) (fun _ _ _ _ _ => pv 10)) (pe_lst pa_nil) (nomark _))))) (pss_one (ps_ret pe_bl)) pss_nil)))))))))))))))
      (pss_one (ps_ret pe_bl))), ?_⟩
    refine ⟨_, rfl, a, ns, rfl, hS, hlen, fun b l H1 hb B1 s1 => ?_⟩
    refine ⟨4, rfl, by decide, by decide, ?_⟩
    refine for_range (lo := 0) (n := 4) (fun i σ H' => Bag H' b l ∧ ∃ (v2 v3 v4 v5 v6 v7 v8 v9 v10 : Option V), σ = [some (.ref a), some (.ref b), v2, v3, v4, v5, v6, v7, v8, v9, v10])
      ⟨B1, none, none, none, none, none, none, none, none, none, rfl⟩ ?_ (fun σ H' _ => k H')
    rintro i σ H2 hi ⟨B2, v2, v3, v4, v5, v6, v7, v8, v9, v10, rfl⟩
    refine ⟨_, rfl, _, rfl, b, l, 8, rfl, B2, by decide, by decide, fun j H3 hj B3 k3 => ⟨_, _, rfl, rfl, b, l, 1 + j, rfl, B3, fun xs nm H4 hN hn0 hnb hn4 B4 k4 => ?_⟩⟩
    have R := hN.row (by omega)
    refine ⟨_, rfl, _, rfl, b, l, nm, xs, 8, rfl, B4, hnb, hn4, R, by decide, fun sA ys rs H5 hs0 hsb hs5 ht5 hR5 hl5 B5 k5 => fun x dx nx ndx nex => ?_⟩
    have hRR : ∀ r ∈ rs, Row r := fun r hr => (hR5 r hr).1
    have yl := ht5.len
    have hn5 := k5 _ _ hn4 hnb
    have sm := made_same (C := C) nx ndx
    refine ⟨x, sA, dx, ys, rs, rfl, upd_same, .inl (sm _ _ hs5), ht5.same sm, by omega, hRR, fun H6 ix hk6 hI6 hl6 => ⟨rfl, ?_⟩⟩
    have s6 : Same H5 H6 := fun c o e => hk6 c o (sm _ _ e) (ne_of_none e nx)
    have xb : x ≠ b := B5.ne nx
    have ixb : ix ≠ b := (B5.same sm).ne hl6
    refine ⟨_, rfl, x, ix, ys, rs, rfl, hI6, ht5.same s6, hRR, by omega, fun H7 fa fys zs s7 hfn hf7 hfq D => ?_⟩
    have s57 := s6.trans s7
    have B7 := B5.same s57
    have hn7 := s57 _ _ hn5
    have hI7 := hI6.same s7
    have ht7 := ht5.same s57
    have zl := D.few hRR (by omega)
    have zz : ∀ q ∈ zs, QZ q.1 q.2 := fun q hq => famQ_qz hRR q ((D.mem q).mp hq)
    have zf : ∀ q ∈ zs, Qfine q := fun q hq => (zz q hq).fine
    refine ⟨fun σ' H' => (∃ v6 v7, σ' = [some (.ref a), some (.ref b), some (.int (0 + (i : Int))), some (.ref nm), some (.ref x), some (.ref fa), v6, v7, v8, v9, v10]) ∧ Same H7 H', ?_, ?_⟩
    · refine ⟨_, rfl, fa, rfl, ⟨_, SqL.of hf7⟩, for_list (K := K) (a := fa) (xs := fys) (fun i' σ H' => (∃ v6 v7, σ = [some (.ref a), some (.ref b), some (.int (0 + (i : Int))), some (.ref nm), some (.ref x), some (.ref fa), v6, v7, v8, v9, v10]) ∧ Same H7 H')
        ⟨⟨_, _, rfl⟩, Same.refl _⟩ (fun i' σ H' _ h => SqL.of (h.2 _ _ hf7)) ?_ (fun σ H' h => h)⟩
      rintro i' y σ H8 hy ⟨⟨v6, v7, rfl⟩, s8⟩
      obtain ⟨t, q, rfl, hqi, hqa⟩ := (hfq.same s8).at_ hy
      have qm := List.mem_of_getElem? hqi
      have Z := zz q qm
      have qf := (D.mem q).mp qm
      refine ⟨_, rfl, t, q.1, q.2, rfl, hqa, Z, fun p2 ys2 zs2 H9 s9 hp0 hp2 hq2 D2 => ⟨p2, rfl, ⟨_, SqL.of hp2⟩, fun Dn hDn => ?_⟩⟩
      have s79 := s8.trans s9
      refine lc_list (K := K) (a := p2) (xs := ys2) (fun j H' => Same H9 H' ∧ H' Dn = some (.lst [])) ⟨same_new hDn, upd_same⟩ (fun j H' _ h => SqL.of (h.1 _ _ hp2)) ?_ ?_
      · rintro j y2 H10 hy2 ⟨s10, hDl⟩
        obtain ⟨o, z, rfl, hzi, hza⟩ := (hq2.same s10).at_ hy2
        have zm := (D2.mem z).mp (List.mem_of_getElem? hzi)
        have Zz := forced_qz (q := q) Z zm
        have s710 := s79.trans s10
        refine ⟨rfl, Exists.intro _ ⟨rfl, Exists.intro _ ⟨rfl, dq z, zs.map dq, dp_q hza, .lst (SqL.of (s710 _ _ hf7)) (hfq.same s710).dp, (dok_q Zz.fine).shaped, (dok_qs3 zf (by omega)).shaped, _, rfl, ?_⟩⟩⟩
        rw [any_q, decide_eq_true ((D.mem z).mpr (forced_fam hRR qf zm))]
        refine iteF ?_
        exact ⟨s10, hDl⟩
      · rintro H10 ⟨s10, hDl⟩
        refine ⟨by decide, fun e0 he0 => ?_⟩
        have s11 := same_new (o := .lst []) he0
        refine ⟨.list [], .list [], .lst (SqL.of (s11 _ _ hDl)) .nil, .lst (SqL.of upd_same) .nil, nil_shaped, nil_shaped, _, rfl, ?_⟩
        refine iteF ?_
        exact ⟨⟨_, _, rfl⟩, s79.trans (s10.trans s11)⟩
    rintro σ8 H8 ⟨⟨v6, v7, rfl⟩, s8⟩
    have k78 : Kp b H7 H8 := Kp.of s8
    refine ⟨4, rfl, by decide, by decide, ?_⟩
    refine for_range (lo := 0) (n := 4) (fun i' σ H' => (∃ v6 v7 v8 v9, σ = [some (.ref a), some (.ref b), some (.int (0 + (i : Int))), some (.ref nm), some (.ref x), some (.ref fa), v6, v7, v8, v9, v10]) ∧ Bag H' b l ∧ Kp b H7 H')
      ⟨⟨_, _, _, _, rfl⟩, B7.same s8, k78⟩ ?_ ?_
    · rintro i' σ H9 hi' ⟨⟨v6, v7, v8, v9, rfl⟩, B9, k9⟩
      refine ⟨_, rfl, _, rfl, b, l, nm, xs, rfl, B9, hnb, k9 _ _ hn7 hnb, R, fun t c e H10 hq10 ok10 B10 k10 => ?_⟩
      have Z := ok10.qz R
      have kk := k9.trans k10
      have hI10 := hI7.kp ixb xb kk
      have ht10 := ht7.kp B7 kk
      -- what isn't served of what it forces
      refine ⟨_, rfl, t, c, e, rfl, hq10, Z, fun p2 ys2 zs2 H11 s11 hp0 hp2 hq2 D2 => ⟨p2, rfl, ⟨_, SqL.of hp2⟩, fun Dn hDn => ?_⟩⟩
      have z2l := forced_few D2
      have y2l := hq2.len
      refine lc_list (K := K) (a := p2) (xs := ys2) (fun j H' => ∃ us : List V, Same H11 H' ∧ H' Dn = some (.lst us) ∧ us.length ≤ j ∧ QL H' us ((zs2.take j).filter fun z => !decide (z ∈ famQ rs))) ⟨[], same_new hDn, upd_same, Nat.le_refl _, .nil⟩ (fun j H' _ ⟨_, s, _⟩ => SqL.of (s _ _ hp2)) ?_ ?_
      · rintro j y2 H12 hy2 ⟨us, s12, hUl, ul, qu⟩
        have hjl : j < ys2.length := (List.getElem?_eq_some_iff.mp hy2).1
        obtain ⟨o, z, rfl, hzi, hza⟩ := (hq2.same s12).at_ hy2
        have zm := (D2.mem z).mp (List.mem_of_getElem? hzi)
        have Zz := forced_qz (q := (c, e)) Z zm
        have et : zs2.take (j + 1) = zs2.take j ++ [z] := by rw [List.take_add_one, hzi]; rfl
        have s1012 := s11.trans s12
        rw [et, List.filter_append]
        refine ⟨rfl, Exists.intro _ ⟨rfl, Exists.intro _ ⟨rfl, x, ix, o, ys, rs, z, rfl, hI10.same s1012, ht10.same s1012, hRR, hza, Zz, fun H13 s13 => ⟨_, rfl, ?_⟩⟩⟩⟩
        have s123 := s12.trans s13
        cases hb' : decide (z ∈ famQ rs) with
        | true =>
          refine iteF ?_
          refine ⟨us, s123, s13 _ _ hUl, by omega, ?_⟩
          rw [List.filter_cons, hb', if_neg (by decide), List.filter_nil, List.append_nil]
          exact qu.same s13
        | false =>
          refine iteT ?_
          refine ⟨_, rfl, us, s13 _ _ hUl, small1000 (by omega), us ++ [.ref o], fun b' o' hb2 => ?_, upd_same, by rw [List.length_append]; simp; omega, ?_⟩
          · rw [upd_ne (ne_of_none hb2 hDn)]
            exact s123 _ _ hb2
          · rw [List.filter_cons, hb', if_pos (by decide), List.filter_nil]
            exact QL.off (xs := us) (s13 _ _ hUl) ((qu.same s13).snoc (q := z) (hza.same s13))
      rintro H12 ⟨us, s12, hUl, ul, qu⟩
      rw [y2l, List.take_of_length_le (Nat.le_refl _)] at qu
      have s1012 := s11.trans s12
      have hq12 := hq10.same s1012
      have hI12 := hI10.same s1012
      have ht12 := ht10.same s1012
      have self : (c, e) ∈ forcedL (c, e) := by
        unfold forcedL
        exact List.mem_append_left _ (List.mem_append_left _ List.mem_cons_self)
      refine ⟨fun σ' H' => σ' = [some (.ref a), some (.ref b), some (.int (0 + (i : Int))), some (.ref nm), some (.ref x), some (.ref fa), some (.ref t), v7, some (.int (0 + (i' : Int))), some (.ref Dn), v10] ∧ Same H12 H', ?_, ?_⟩
      · refine ⟨_, rfl, _, rfl, x, ix, t, ys, rs, (c, e), rfl, hI12, ht12, hRR, hq12, Z, fun H13 s13 => ⟨_, rfl, ?_⟩⟩
        by_cases hf : (c, e) ∈ famQ rs
        · rw [decide_eq_true hf]
          refine iteT ?_
          have e0 : zs2.filter (fun z => !decide (z ∈ famQ rs)) = [] := List.filter_eq_nil_iff.mpr fun z hz => by
            rw [decide_eq_true (forced_fam hRR hf ((D2.mem z).mp hz))]
            decide
          rw [e0] at qu
          refine ⟨_, rfl, by decide, fun e1 he1 => ?_⟩
          have s14 := same_new (o := .lst []) he1
          refine ⟨.list (([] : List Qd).map dq), .list [], .lst (SqL.of (s14 _ _ (s13 _ _ hUl))) ((qu.same s13).same s14).dp, .lst (SqL.of upd_same) .nil, nil_shaped, nil_shaped, _, rfl, ?_⟩
          refine iteF ?_
          have s134 := s13.trans s14
          refine ⟨_, rfl, _, rfl, t, c, e, rfl, hq12.same s134, Z, fun p3 ys3 zs3 H15 s15 hp30 hp3 hq3 D3 => ?_⟩
          have f3 : ∀ z ∈ zs3, Qfine z := fun z hz => fine_forced (q := (c, e)) Z z ((D3.mem z).mp hz)
          have l3 := forced_few D3
          refine ⟨dq (c, e), zs3.map dq, dp_q ((hq12.same s134).same s15), .lst (SqL.of hp3) hq3.dp, (dok_q Z.fine).shaped, (dok_qs f3 (by omega)).shaped, _, rfl, ?_⟩
          rw [any_q, decide_eq_true ((D3.mem (c, e)).mpr self)]
          refine iteF ?_
          exact ⟨rfl, s134.trans s15⟩
        · rw [decide_eq_false hf]
          refine iteF ?_
          refine ⟨_, rfl, _, rfl, t, c, e, rfl, hq12.same s13, Z, fun p3 ys3 zs3 H15 s15 hp30 hp3 hq3 D3 => ?_⟩
          have f3 : ∀ z ∈ zs3, Qfine z := fun z hz => fine_forced (q := (c, e)) Z z ((D3.mem z).mp hz)
          have l3 := forced_few D3
          refine ⟨dq (c, e), zs3.map dq, dp_q ((hq12.same s13).same s15), .lst (SqL.of hp3) hq3.dp, (dok_q Z.fine).shaped, (dok_qs f3 (by omega)).shaped, _, rfl, ?_⟩
          rw [any_q, decide_eq_true ((D3.mem (c, e)).mpr self)]
          refine iteF ?_
          exact ⟨rfl, s13.trans s15⟩
      rintro σ13 H13 ⟨rfl, s13⟩
      have s1013 := s1012.trans s13
      have hq13 := hq12.same s13
      refine ⟨_, rfl, t, (c, e), rfl, hq13, Z, fun H14 pc yc zc s14 hpc hqc ndc lc memc => ⟨pc, yc, zc, rfl, SqL.of hpc, hqc, fun q hq => (forced_qz (q := (c, e)) Z ((memc q).mp hq)).strOk, fun yd zd pd hqd hpd hup hpdn => ?_⟩⟩
      have s15 := same_new (o := .lst yd) hpdn
      have Dc : Dist (forcedL (c, e)) zd := ⟨hpd.nodup_iff.mpr ndc, hup, fun q => hpd.mem_iff.trans (memc q)⟩
      have hq15 := (hq13.same s14).same s15
      refine ⟨_, rfl, t, c, e, rfl, hq15, Z, fun p4 ys4 zs4 H16 s16 hp40 hp4 hq4 D4 => ?_⟩
      have ez := Dc.uniq D4 fun _ => Iff.rfl
      subst ez
      have ff : ∀ z ∈ zd, Qfine z := fun z hz => fine_forced (q := (c, e)) Z z ((Dc.mem z).mp hz)
      have fl := forced_few Dc
      have dk := dok_qs ff (by omega)
      refine ⟨.list (zd.map dq), .list (zd.map dq), .lst (SqL.of (s16 _ _ upd_same)) ((hqd.same s15).same s16).dp, .lst (SqL.of hp4) hq4.dp, dk.shaped, dk.shaped, _, rfl, ?_⟩
      rw [SeqAt.eqv_refl _ (fine_lay _ dk.f).1]
      refine iteF ?_
      have s1016 := s1013.trans (s14.trans (s15.trans s16))
      have hq16 := hq10.same s1016
      -- each that it forces
      refine ⟨_, rfl, t, c, e, rfl, hq16, Z, fun p5 ys5 zs5 H17 s17 hp50 hp5 hq5 D5 => ⟨p5, rfl, ⟨_, SqL.of hp5⟩, ?_⟩⟩
      have s1017 := s1016.trans s17
      refine for_list (K := K) (a := p5) (xs := ys5) (fun j σ H' => (∃ v7, σ = [some (.ref a), some (.ref b), some (.int (0 + (i : Int))), some (.ref nm), some (.ref x), some (.ref fa), some (.ref t), v7, some (.int (0 + (i' : Int))), some (.ref Dn), v10]) ∧ Same H17 H')
        ⟨⟨_, rfl⟩, Same.refl _⟩ (fun j σ H' _ h => SqL.of (h.2 _ _ hp5)) ?_ ?_
      · rintro j y5 σ H18 hy5 ⟨⟨v7, rfl⟩, s18⟩
        obtain ⟨o, z, rfl, hzi, hza⟩ := (hq5.same s18).at_ hy5
        have zm := (D5.mem z).mp (List.mem_of_getElem? hzi)
        have Zz := forced_qz (q := (c, e)) Z zm
        have hq18 := (hq10.same s1017).same s18
        refine ⟨_, rfl, _, rfl, t, o, c, e, z, rfl, hq18, Z, hza, Zz.fine, fun H19 s19 => ⟨_, rfl, ?_⟩⟩
        rw [decide_eq_true zm]
        refine iteF ?_
        have hza19 := hza.same s19
        refine ⟨_, rfl, o, z.1, z.2, rfl, hza19, Zz, fun p6 ys6 zs6 H20 s20 hp60 hp6 hq6 D6 => ⟨p6, rfl, ⟨_, SqL.of hp6⟩, fun Df hDf => ?_⟩⟩
        have hq20 := (hq18.same s19).same s20
        refine lc_list (K := K) (a := p6) (xs := ys6) (fun j H' => Same H20 H' ∧ H' Df = some (.lst [])) ⟨same_new hDf, upd_same⟩ (fun j H' _ h => SqL.of (h.1 _ _ hp6)) ?_ ?_
        · rintro j6 y6 H21 hy6 ⟨s21, hDl⟩
          obtain ⟨o2, z2, rfl, hz2i, hz2a⟩ := (hq6.same s21).at_ hy6
          have zm2 := forced_on (q := (c, e)) Z zm ((D6.mem z2).mp (List.mem_of_getElem? hz2i))
          have Z2 := forced_qz (q := (c, e)) Z zm2
          refine ⟨rfl, Exists.intro _ ⟨rfl, Exists.intro _ ⟨rfl, t, o2, c, e, z2, rfl, hq20.same s21, Z, hz2a, Z2.fine, fun H22 s22 => ⟨_, rfl, ?_⟩⟩⟩⟩
          rw [decide_eq_true zm2]
          refine iteF ?_
          exact ⟨s21.trans s22, s22 _ _ hDl⟩
        · rintro H21 ⟨s21, hDl⟩
          refine ⟨by decide, fun e0 he0 => ?_⟩
          have s22 := same_new (o := .lst []) he0
          refine ⟨.list [], .list [], .lst (SqL.of (s22 _ _ hDl)) .nil, .lst (SqL.of upd_same) .nil, nil_shaped, nil_shaped, _, rfl, ?_⟩
          refine iteF ?_
          exact ⟨⟨_, rfl⟩, s18.trans (s19.trans (s20.trans (s21.trans s22)))⟩
      · rintro σ H18 ⟨⟨v7, rfl⟩, s18⟩
        have sE := s1017.trans s18
        exact ⟨⟨_, _, _, _, rfl⟩, B10.same sE, kk.trans (Kp.of sE)⟩
    · rintro σ H9 ⟨⟨v6, v7, v8, v9, rfl⟩, B9, k9⟩
      exact ⟨B9, _, _, _, _, _, _, _, _, _, rfl⟩
end
theorem all_mk {l : PySem.W.OpenLaw} {w : World} {K : PySem.W.Frag} {h : Heap} {mg : Str → Option Value} {fa f1 f2 f3 f4 f5 f6 f7 f8 f9 f10 f11 f12 f13 f14 f15 f16 f17 f18 f19 f20 f21 f22 f23 C fI fJ : Addr} {tL tM : Nat} (X : K.In h) (G : h.Ns mainGlobals mg) (hfa : mg "law" = some (.ref fa))
    {od1 an1 od2 an2 od3 an3 od4 an4 od5 an5 od6 an6 od7 an7 od8 an8 od9 an9 od10 an10 od11 an11 od12 an12 od13 an13 od14 an14 od15 an15 od16 an16 od17 an17 od18 an18 od19 an19 od20 an20 od21 an21 od22 an22 od23 an23 odI anI odJ anJ : Option Addr} {slI slJ sl1 sl2 sl3 sl4 sl5 sl6 sl7 sl8 sl9 sl10 sl11 sl12 sl13 sl14 sl15 sl16 sl17 sl18 sl19 sl20 sl21 sl22 sl23 : Array (Option Value)} {oc1 kV1 dc1 pm1 cd1 ct1 oc2 kV2 dc2 pm2 cd2 ct2 oc3 kV3 dc3 pm3 cd3 ct3 oc4 kV4 dc4 pm4 cd4 ct4 oc5 kV5 dc5 pm5 cd5 ct5 oc6 kV6 dc6 pm6 cd6 ct6 oc7 kV7 dc7 pm7 cd7 ct7 oc8 kV8 dc8 pm8 cd8 ct8 oc9 kV9 dc9 pm9 cd9 ct9 oc10 kV10 dc10 pm10 cd10 ct10 oc11 kV11 dc11 pm11 cd11 ct11 oc12 kV12 dc12 pm12 cd12 ct12 oc13 kV13 dc13 pm13 cd13 ct13 oc14 kV14 dc14 pm14 cd14 ct14 oc15 kV15 dc15 pm15 cd15 ct15 oc16 kV16 dc16 pm16 cd16 ct16 oc17 kV17 dc17 pm17 cd17 ct17 oc18 kV18 dc18 pm18 cd18 ct18 oc19 kV19 dc19 pm19 cd19 ct19 oc20 kV20 dc20 pm20 cd20 ct20 oc21 kV21 dc21 pm21 cd21 ct21 oc22 kV22 dc22 pm22 cd22 ct22 oc23 kV23 dc23 pm23 cd23 ct23 ocI kVI dcI pmI cdI ctI ocJ kVJ dcJ pmJ cdJ ctJ : Value}
    (a1 : PySem.W.nsIn K mainGlobals "is_column" = some (some (.ref f1))) (l1 : K.lookup f1 = some ⟨oc1, od1, .func (PySem.W.fnOf "is_column" "is_column" (defArgs sIsCol) (defBody sIsCol) (defScope sIsCol) .none kV1 dc1 pm1 an1 cd1 ct1), sl1⟩) (c1 : PySem.W.codeIn K cd1 "is_column" = true) (k1 : PySem.W.keepIn K (.ref f1) = true)
    (a2 : PySem.W.nsIn K mainGlobals "are_different_columns" = some (some (.ref f2))) (l2 : K.lookup f2 = some ⟨oc2, od2, .func (PySem.W.fnOf "are_different_columns" "are_different_columns" (defArgs sAreDiff) (defBody sAreDiff) (defScope sAreDiff) .none kV2 dc2 pm2 an2 cd2 ct2), sl2⟩) (c2 : PySem.W.codeIn K cd2 "are_different_columns" = true) (k2 : PySem.W.keepIn K (.ref f2) = true)
    (a3 : PySem.W.nsIn K mainGlobals "is_index" = some (some (.ref f3))) (l3 : K.lookup f3 = some ⟨oc3, od3, .func (PySem.W.fnOf "is_index" "is_index" (defArgs sIsIndex) (defBody sIsIndex) (defScope sIsIndex) .none kV3 dc3 pm3 an3 cd3 ct3), sl3⟩) (c3 : PySem.W.codeIn K cd3 "is_index" = true) (k3 : PySem.W.keepIn K (.ref f3) = true)
    (a4 : PySem.W.nsIn K mainGlobals "are_indexes" = some (some (.ref f4))) (l4 : K.lookup f4 = some ⟨oc4, od4, .func (PySem.W.fnOf "are_indexes" "are_indexes" (defArgs sAreIxs) (defBody sAreIxs) (defScope sAreIxs) .none kV4 dc4 pm4 an4 cd4 ct4), sl4⟩) (c4 : PySem.W.codeIn K cd4 "are_indexes" = true) (k4 : PySem.W.keepIn K (.ref f4) = true)
    (a5 : PySem.W.nsIn K mainGlobals "row_of" = some (some (.ref f5))) (l5 : K.lookup f5 = some ⟨oc5, od5, .func (PySem.W.fnOf "row_of" "row_of" (defArgs sRow) (defBody sRow) (defScope sRow) .none kV5 dc5 pm5 an5 cd5 ct5), sl5⟩) (c5 : PySem.W.codeIn K cd5 "row_of" = true) (k5 : PySem.W.keepIn K (.ref f5) = true)
    (a6 : PySem.W.nsIn K mainGlobals "columns_of" = some (some (.ref f6))) (l6 : K.lookup f6 = some ⟨oc6, od6, .func (PySem.W.fnOf "columns_of" "columns_of" (defArgs sCols) (defBody sCols) (defScope sCols) .none kV6 dc6 pm6 an6 cd6 ct6), sl6⟩) (c6 : PySem.W.codeIn K cd6 "columns_of" = true) (k6 : PySem.W.keepIn K (.ref f6) = true)
    (a7 : PySem.W.nsIn K mainGlobals "forced" = some (some (.ref f7))) (l7 : K.lookup f7 = some ⟨oc7, od7, .func (PySem.W.fnOf "forced" "forced" (defArgs sForced) (defBody sForced) (defScope sForced) .none kV7 dc7 pm7 an7 cd7 ct7), sl7⟩) (c7 : PySem.W.codeIn K cd7 "forced" = true) (k7 : PySem.W.keepIn K (.ref f7) = true)
    (a8 : PySem.W.nsIn K mainGlobals "forces" = some (some (.ref f8))) (l8 : K.lookup f8 = some ⟨oc8, od8, .func (PySem.W.fnOf "forces" "forces" (defArgs sForces) (defBody sForces) (defScope sForces) .none kV8 dc8 pm8 an8 cd8 ct8), sl8⟩) (c8 : PySem.W.codeIn K cd8 "forces" = true) (k8 : PySem.W.keepIn K (.ref f8) = true)
    (a9 : PySem.W.nsIn K mainGlobals "serves" = some (some (.ref f9))) (l9 : K.lookup f9 = some ⟨oc9, od9, .func (PySem.W.fnOf "serves" "serves" (defArgs sServ) (defBody sServ) (defScope sServ) .none kV9 dc9 pm9 an9 cd9 ct9), sl9⟩) (c9 : PySem.W.codeIn K cd9 "serves" = true) (k9 : PySem.W.keepIn K (.ref f9) = true)
    (a10 : PySem.W.nsIn K mainGlobals "questions_of" = some (some (.ref f10))) (l10 : K.lookup f10 = some ⟨oc10, od10, .func (PySem.W.fnOf "questions_of" "questions_of" (defArgs sQof) (defBody sQof) (defScope sQof) .none kV10 dc10 pm10 an10 cd10 ct10), sl10⟩) (c10 : PySem.W.codeIn K cd10 "questions_of" = true) (k10 : PySem.W.keepIn K (.ref f10) = true)
    (a11 : PySem.W.nsIn K mainGlobals "served" = some (some (.ref f11))) (l11 : K.lookup f11 = some ⟨oc11, od11, .func (PySem.W.fnOf "served" "served" (defArgs sServed) (defBody sServed) (defScope sServed) .none kV11 dc11 pm11 an11 cd11 ct11), sl11⟩) (c11 : PySem.W.codeIn K cd11 "served" = true) (k11 : PySem.W.keepIn K (.ref f11) = true)
    (a12 : PySem.W.nsIn K mainGlobals "is_served" = some (some (.ref f12))) (l12 : K.lookup f12 = some ⟨oc12, od12, .func (PySem.W.fnOf "is_served" "is_served" (defArgs sIsServed) (defBody sIsServed) (defScope sIsServed) .none kV12 dc12 pm12 an12 cd12 ct12), sl12⟩) (c12 : PySem.W.codeIn K cd12 "is_served" = true) (k12 : PySem.W.keepIn K (.ref f12) = true)
    (a13 : PySem.W.nsIn K mainGlobals "_law_bag" = some (some (.ref f13))) (l13 : K.lookup f13 = some ⟨oc13, od13, .func (PySem.W.fnOf "_law_bag" "_law_bag" (defArgs sBag) (defBody sBag) (defScope sBag) .none kV13 dc13 pm13 an13 cd13 ct13), sl13⟩) (c13 : PySem.W.codeIn K cd13 "_law_bag" = true) (k13 : PySem.W.keepIn K (.ref f13) = true)
    (a14 : PySem.W.nsIn K mainGlobals "_law_take" = some (some (.ref f14))) (l14 : K.lookup f14 = some ⟨oc14, od14, .func (PySem.W.fnOf "_law_take" "_law_take" (defArgs sTake) (defBody sTake) (defScope sTake) .none kV14 dc14 pm14 an14 cd14 ct14), sl14⟩) (c14 : PySem.W.codeIn K cd14 "_law_take" = true) (k14 : PySem.W.keepIn K (.ref f14) = true)
    (a15 : PySem.W.nsIn K mainGlobals "_law_one" = some (some (.ref f15))) (l15 : K.lookup f15 = some ⟨oc15, od15, .func (PySem.W.fnOf "_law_one" "_law_one" (defArgs sOne) (defBody sOne) (defScope sOne) .none kV15 dc15 pm15 an15 cd15 ct15), sl15⟩) (c15 : PySem.W.codeIn K cd15 "_law_one" = true) (k15 : PySem.W.keepIn K (.ref f15) = true)
    (a16 : PySem.W.nsIn K mainGlobals "_law_mixed" = some (some (.ref f16))) (l16 : K.lookup f16 = some ⟨oc16, od16, .func (PySem.W.fnOf "_law_mixed" "_law_mixed" (defArgs sMixed) (defBody sMixed) (defScope sMixed) .none kV16 dc16 pm16 an16 cd16 ct16), sl16⟩) (c16 : PySem.W.codeIn K cd16 "_law_mixed" = true) (k16 : PySem.W.keepIn K (.ref f16) = true)
    (a17 : PySem.W.nsIn K mainGlobals "_law_names" = some (some (.ref f17))) (l17 : K.lookup f17 = some ⟨oc17, od17, .func (PySem.W.fnOf "_law_names" "_law_names" (defArgs sNames) (defBody sNames) (defScope sNames) .none kV17 dc17 pm17 an17 cd17 ct17), sl17⟩) (c17 : PySem.W.codeIn K cd17 "_law_names" = true) (k17 : PySem.W.keepIn K (.ref f17) = true)
    (a18 : PySem.W.nsIn K mainGlobals "_law_question" = some (some (.ref f18))) (l18 : K.lookup f18 = some ⟨oc18, od18, .func (PySem.W.fnOf "_law_question" "_law_question" (defArgs sQuestion) (defBody sQuestion) (defScope sQuestion) .none kV18 dc18 pm18 an18 cd18 ct18), sl18⟩) (c18 : PySem.W.codeIn K cd18 "_law_question" = true) (k18 : PySem.W.keepIn K (.ref f18) = true)
    (a19 : PySem.W.nsIn K mainGlobals "_law_index" = some (some (.ref f19))) (l19 : K.lookup f19 = some ⟨oc19, od19, .func (PySem.W.fnOf "_law_index" "_law_index" (defArgs sIndex) (defBody sIndex) (defScope sIndex) .none kV19 dc19 pm19 an19 cd19 ct19), sl19⟩) (c19 : PySem.W.codeIn K cd19 "_law_index" = true) (k19 : PySem.W.keepIn K (.ref f19) = true)
    (a20 : PySem.W.nsIn K mainGlobals "_law_indexes" = some (some (.ref f20))) (l20 : K.lookup f20 = some ⟨oc20, od20, .func (PySem.W.fnOf "_law_indexes" "_law_indexes" (defArgs sIndexes) (defBody sIndexes) (defScope sIndexes) .none kV20 dc20 pm20 an20 cd20 ct20), sl20⟩) (c20 : PySem.W.codeIn K cd20 "_law_indexes" = true) (k20 : PySem.W.keepIn K (.ref f20) = true)
    (a21 : PySem.W.nsIn K mainGlobals "_law_two" = some (some (.ref f21))) (l21 : K.lookup f21 = some ⟨oc21, od21, .func (PySem.W.fnOf "_law_two" "_law_two" (defArgs sTwo) (defBody sTwo) (defScope sTwo) .none kV21 dc21 pm21 an21 cd21 ct21), sl21⟩) (c21 : PySem.W.codeIn K cd21 "_law_two" = true) (k21 : PySem.W.keepIn K (.ref f21) = true)
    (a22 : PySem.W.nsIn K mainGlobals "_law_common" = some (some (.ref f22))) (l22 : K.lookup f22 = some ⟨oc22, od22, .func (PySem.W.fnOf "_law_common" "_law_common" (defArgs sCommon) (defBody sCommon) (defScope sCommon) .none kV22 dc22 pm22 an22 cd22 ct22), sl22⟩) (c22 : PySem.W.codeIn K cd22 "_law_common" = true) (k22 : PySem.W.keepIn K (.ref f22) = true)
    (a23 : PySem.W.nsIn K mainGlobals "law" = some (some (.ref f23))) (l23 : K.lookup f23 = some ⟨oc23, od23, .func (PySem.W.fnOf "law" "law" (defArgs sLaw) (defBody sLaw) (defScope sLaw) .none kV23 dc23 pm23 an23 cd23 ct23), sl23⟩) (c23 : PySem.W.codeIn K cd23 "law" = true) (k23 : PySem.W.keepIn K (.ref f23) = true)
    (aC : PySem.W.nsIn K mainGlobals "Shelf" = some (some (.ref C)))
    (aL : PySem.W.nsIn K mainGlobals "LONGEST_COLUMN" = some (some (.int 8 tL)))
    (aM : PySem.W.nsIn K mainGlobals "LIMIT" = some (some (.int 48 tM)))
    (aI : PySem.W.findIn K (.ref C) "__init__" = some (some (.ref fI))) (iI : PySem.W.isFn K (.ref fI) = true) (lI : K.lookup fI = some ⟨ocI, odI, .func (PySem.W.fnOf "__init__" "Shelf.__init__" (defArgs sInit) (defBody sInit) (defScope sInit) .none kVI dcI pmI anI cdI ctI), slI⟩) (cI : PySem.W.codeIn K cdI "Shelf.__init__" = true) (kI : PySem.W.keepIn K (.ref fI) = true)
    (aJ : PySem.W.findIn K (.ref C) "__iter__" = some (some (.ref fJ))) (iJ : PySem.W.isFn K (.ref fJ) = true) (lJ : K.lookup fJ = some ⟨ocJ, odJ, .func (PySem.W.fnOf "__iter__" "Shelf.__iter__" (defArgs sIter) (defBody sIter) (defScope sIter) .none kVJ dcJ pmJ anJ cdJ ctJ), slJ⟩) (cJ : PySem.W.codeIn K cdJ "Shelf.__iter__" = true) (kJ : PySem.W.keepIn K (.ref fJ) = true)
    (pg : PySem.W.plainGet K C Str.empty = true) (hd : PySem.W.hasDictIn K C = true) (po : PySem.W.plainOver K C = true) (sa : PySem.W.findIn K (.ref C) "__setattr__" = some (some (.builtin "object.__setattr__"))) (mk : PySem.W.makesIn K C = true) (kc : PySem.W.keepIn K (.ref C) = true) (nQ : PySem.W.findIn K (.ref C) "_indexes" = some none)
    (zlen : PySem.W.nsIn K mainGlobals "len" = some none) (zint : PySem.W.nsIn K mainGlobals "int" = some none) (zabs : PySem.W.nsIn K mainGlobals "abs" = some none) (ztuple : PySem.W.nsIn K mainGlobals "tuple" = some none) (zsorted : PySem.W.nsIn K mainGlobals "sorted" = some none) (zrange : PySem.W.nsIn K mainGlobals "range" = some none) (zlist : PySem.W.nsIn K mainGlobals "list" = some none) (zset : PySem.W.nsIn K mainGlobals "set" = some none) (zisinstance : PySem.W.nsIn K mainGlobals "isinstance" = some none) (zstr : PySem.W.nsIn K mainGlobals "str" = some none) (zall : PySem.W.nsIn K mainGlobals "all" = some none) (zenumerate : PySem.W.nsIn K mainGlobals "enumerate" = some none) (ziter : PySem.W.nsIn K mainGlobals "iter" = some none) :
    ∃ fd : FuncData, (∀ (s : Shared) (v : Value), BindsTo s fd ⟨[v], []⟩ [("_law_script", v)]) ∧ ∀ base : Heap, K.In base → base.Ns mainGlobals mg → FnOk l.prog w K mg base CX0 7 fa fd ["_law_script"] (spLaw K) := by
  have e := hfa.symm.trans (PySem.W.mg_of X G a23)
  cases e
  have T : Txt K mg := ⟨PySem.W.mg_none_of X G zlen, PySem.W.mg_none_of X G zint, PySem.W.mg_none_of X G zabs, PySem.W.mg_none_of X G ztuple, PySem.W.mg_none_of X G zsorted, PySem.W.mg_none_of X G zrange, PySem.W.mg_none_of X G zlist, PySem.W.mg_none_of X G zset, PySem.W.mg_none_of X G zisinstance, PySem.W.mg_none_of X G zstr, PySem.W.mg_none_of X G zall, PySem.W.mg_none_of X G zenumerate, PySem.W.mg_none_of X G ziter, ⟨tL, PySem.W.mg_of X G aL⟩, ⟨tM, PySem.W.mg_of X G aM⟩⟩
  have TC : TxC K mg C := ⟨⟨pg, hd, po, sa⟩, nQ, PySem.W.mg_of X G aC⟩
  have FI := fun_mk (st := sInit) lI cI kI
  have bI := FI.binds (ps := ["self", "indexes"]) fun _ _ _ _ _ _ us hl => match us, hl with | [_, _], _ => rfl
  have FJ := fun_mk (st := sIter) lJ cJ kJ
  have bJ := FJ.binds (ps := ["self"]) fun _ _ _ _ _ _ us hl => match us, hl with | [_], _ => rfl
  have F1 := fun_mk (st := sIsCol) l1 c1 k1
  have b1 := F1.binds (ps := ["thing"]) fun _ _ _ _ _ _ us hl => match us, hl with | [_], _ => rfl
  have F2 := fun_mk (st := sAreDiff) l2 c2 k2
  have b2 := F2.binds (ps := ["things"]) fun _ _ _ _ _ _ us hl => match us, hl with | [_], _ => rfl
  have F3 := fun_mk (st := sIsIndex) l3 c3 k3
  have b3 := F3.binds (ps := ["thing"]) fun _ _ _ _ _ _ us hl => match us, hl with | [_], _ => rfl
  have F4 := fun_mk (st := sAreIxs) l4 c4 k4
  have b4 := F4.binds (ps := ["thing"]) fun _ _ _ _ _ _ us hl => match us, hl with | [_], _ => rfl
  have F5 := fun_mk (st := sRow) l5 c5 k5
  have b5 := F5.binds (ps := ["question"]) fun _ _ _ _ _ _ us hl => match us, hl with | [_], _ => rfl
  have F6 := fun_mk (st := sCols) l6 c6 k6
  have b6 := F6.binds (ps := ["question"]) fun _ _ _ _ _ _ us hl => match us, hl with | [_], _ => rfl
  have F7 := fun_mk (st := sForced) l7 c7 k7
  have b7 := F7.binds (ps := ["question"]) fun _ _ _ _ _ _ us hl => match us, hl with | [_], _ => rfl
  have F8 := fun_mk (st := sForces) l8 c8 k8
  have b8 := F8.binds (ps := ["one", "other"]) fun _ _ _ _ _ _ us hl => match us, hl with | [_, _], _ => rfl
  have F9 := fun_mk (st := sServ) l9 c9 k9
  have b9 := F9.binds (ps := ["index", "question"]) fun _ _ _ _ _ _ us hl => match us, hl with | [_, _], _ => rfl
  have F10 := fun_mk (st := sQof) l10 c10 k10
  have b10 := F10.binds (ps := ["index"]) fun _ _ _ _ _ _ us hl => match us, hl with | [_], _ => rfl
  have F11 := fun_mk (st := sServed) l11 c11 k11
  have b11 := F11.binds (ps := ["shelf"]) fun _ _ _ _ _ _ us hl => match us, hl with | [_], _ => rfl
  have F12 := fun_mk (st := sIsServed) l12 c12 k12
  have b12 := F12.binds (ps := ["shelf", "question"]) fun _ _ _ _ _ _ us hl => match us, hl with | [_, _], _ => rfl
  have F13 := fun_mk (st := sBag) l13 c13 k13
  have b13 := F13.binds (ps := ["_law_script"]) fun _ _ _ _ _ _ us hl => match us, hl with | [_], _ => rfl
  have F14 := fun_mk (st := sTake) l14 c14 k14
  have b14 := F14.binds (ps := ["_law_bag_here", "_law_many"]) fun _ _ _ _ _ _ us hl => match us, hl with | [_, _], _ => rfl
  have F15 := fun_mk (st := sOne) l15 c15 k15
  have b15 := F15.binds (ps := ["_law_bag_here", "_law_some"]) fun _ _ _ _ _ _ us hl => match us, hl with | [_, _], _ => rfl
  have F16 := fun_mk (st := sMixed) l16 c16 k16
  have b16 := F16.binds (ps := ["_law_bag_here", "_law_things"]) fun _ _ _ _ _ _ us hl => match us, hl with | [_, _], _ => rfl
  have F17 := fun_mk (st := sNames) l17 c17 k17
  have b17 := F17.binds (ps := ["_law_bag_here", "_law_many"]) fun _ _ _ _ _ _ us hl => match us, hl with | [_, _], _ => rfl
  have F18 := fun_mk (st := sQuestion) l18 c18 k18
  have b18 := F18.binds (ps := ["_law_bag_here", "_law_names_here"]) fun _ _ _ _ _ _ us hl => match us, hl with | [_, _], _ => rfl
  have F19 := fun_mk (st := sIndex) l19 c19 k19
  have b19 := F19.binds (ps := ["_law_bag_here", "_law_names_here"]) fun _ _ _ _ _ _ us hl => match us, hl with | [_, _], _ => rfl
  have F20 := fun_mk (st := sIndexes) l20 c20 k20
  have b20 := F20.binds (ps := ["_law_bag_here", "_law_names_here", "_law_most"]) fun _ _ _ _ _ _ us hl => match us, hl with | [_, _, _], _ => rfl
  have F21 := fun_mk (st := sTwo) l21 c21 k21
  have b21 := F21.binds (ps := ["_law_question_here"]) fun _ _ _ _ _ _ us hl => match us, hl with | [_], _ => rfl
  have F22 := fun_mk (st := sCommon) l22 c22 k22
  have b22 := F22.binds (ps := ["_law_question_here"]) fun _ _ _ _ _ _ us hl => match us, hl with | [_], _ => rfl
  have F23 := fun_mk (st := sLaw) l23 c23 k23
  have b23 := F23.binds (ps := ["_law_script"]) fun _ _ _ _ _ _ us hl => match us, hl with | [_], _ => rfl
  refine ⟨PySem.W.fnOf "law" "law" (defArgs sLaw) (defBody sLaw) (defScope sLaw) .none kV23 dc23 pm23 an23 cd23 ct23, fun s v => .of_eq rfl, fun base _ _ => ?_⟩
  let c_1 : Cal l.prog w K mg base 1 "is_column" ["thing"] (spText K colS) := ⟨_, _, ok_iscol F1 T, PySem.W.mg_of X G a1, k1, b1⟩
  let c_2 : Cal l.prog w K mg base 2 "are_different_columns" ["things"] (spRowT) := ⟨_, _, ok_arediff F2 T c_1, PySem.W.mg_of X G a2, k2, b2⟩
  let c_3 : Cal l.prog w K mg base 3 "is_index" ["thing"] (spRowT) := ⟨_, _, ok_isindex F3 T c_2, PySem.W.mg_of X G a3, k3, b3⟩
  let c_4 : Cal l.prog w K mg base 4 "are_indexes" ["thing"] (spAreIxs) := ⟨_, _, ok_areixs F4 T c_3, PySem.W.mg_of X G a4, k4, b4⟩
  have GJ : FnS l.prog w K mg base 1 fJ _ ["self"] (spIterF C "_indexes") := ok_itr FJ T TC
  have GI : FnOk l.prog w K mg base CX0 5 fI _ ["self", "indexes"] (spInitS C) := ok_init FI T TC c_4
  let c_5 : Cal l.prog w K mg base 1 "row_of" ["question"] (spRow) := ⟨_, _, ok_row F5 T, PySem.W.mg_of X G a5, k5, b5⟩
  let c_6 : Cal l.prog w K mg base 2 "columns_of" ["question"] (spCols) := ⟨_, _, ok_cols F6 T c_5, PySem.W.mg_of X G a6, k6, b6⟩
  let c_7 : Cal l.prog w K mg base 3 "forced" ["question"] (spForced) := ⟨_, _, ok_forced F7 T c_6, PySem.W.mg_of X G a7, k7, b7⟩
  let c_8 : Cal l.prog w K mg base 4 "forces" ["one", "other"] (spForces) := ⟨_, _, ok_forces F8 T c_7, PySem.W.mg_of X G a8, k8, b8⟩
  let c_9 : Cal l.prog w K mg base 1 "serves" ["index", "question"] (spServes) := ⟨_, _, ok_serv F9 T, PySem.W.mg_of X G a9, k9, b9⟩
  let c_10 : Cal l.prog w K mg base 1 "questions_of" ["index"] (spQof) := ⟨_, _, ok_qof F10 T, PySem.W.mg_of X G a10, k10, b10⟩
  let c_11 : Cal l.prog w K mg base 2 "served" ["shelf"] (spServed C) := ⟨_, _, ok_served F11 T ⟨aJ, iJ⟩ GJ bJ c_10, PySem.W.mg_of X G a11, k11, b11⟩
  let c_12 : Cal l.prog w K mg base 2 "is_served" ["shelf", "question"] (spIsServed C) := ⟨_, _, ok_isserved F12 T ⟨aJ, iJ⟩ GJ bJ c_9, PySem.W.mg_of X G a12, k12, b12⟩
  let c_13 : Cal l.prog w K mg base 1 "_law_bag" ["_law_script"] (spBag K) := ⟨_, _, ok_bag F13 T, PySem.W.mg_of X G a13, k13, b13⟩
  let c_14 : Cal l.prog w K mg base 1 "_law_take" ["_law_bag_here", "_law_many"] (spTake) := ⟨_, _, ok_take F14 T, PySem.W.mg_of X G a14, k14, b14⟩
  let c_15 : Cal l.prog w K mg base 2 "_law_one" ["_law_bag_here", "_law_some"] (spOne) := ⟨_, _, ok_one F15 T c_14, PySem.W.mg_of X G a15, k15, b15⟩
  let c_16 : Cal l.prog w K mg base 2 "_law_mixed" ["_law_bag_here", "_law_things"] (spMixed) := ⟨_, _, ok_mixed F16 T c_14, PySem.W.mg_of X G a16, k16, b16⟩
  let c_17 : Cal l.prog w K mg base 3 "_law_names" ["_law_bag_here", "_law_many"] (spNames) := ⟨_, _, ok_names F17 T c_16, PySem.W.mg_of X G a17, k17, b17⟩
  let c_18 : Cal l.prog w K mg base 3 "_law_question" ["_law_bag_here", "_law_names_here"] (spQuestion) := ⟨_, _, ok_question F18 T c_14 c_16, PySem.W.mg_of X G a18, k18, b18⟩
  let c_19 : Cal l.prog w K mg base 3 "_law_index" ["_law_bag_here", "_law_names_here"] (spIndex) := ⟨_, _, ok_index F19 T c_14 c_16, PySem.W.mg_of X G a19, k19, b19⟩
  let c_20 : Cal l.prog w K mg base 4 "_law_indexes" ["_law_bag_here", "_law_names_here", "_law_most"] (spIndexes) := ⟨_, _, ok_indexes F20 T c_14 c_15 c_16 c_19, PySem.W.mg_of X G a20, k20, b20⟩
  let c_21 : Cal l.prog w K mg base 1 "_law_two" ["_law_question_here"] (spTwoR) := ⟨_, _, ok_two F21 T, PySem.W.mg_of X G a21, k21, b21⟩
  let c_22 : Cal l.prog w K mg base 2 "_law_common" ["_law_question_here"] (spCommon) := ⟨_, _, ok_common F22 T c_21 c_10, PySem.W.mg_of X G a22, k22, b22⟩
  exact ok_law F23 T TC ⟨mk, aI, iI, kc⟩ GI bI c_13 c_14 c_17 c_18 c_20 c_22 c_11 c_12 c_7 c_8
theorem walk {l : PySem.W.OpenLaw} {q : Program} {loose : List Str} {XP : (Str → Option Value) → Heap → Prop} {YP : World → Heap → Prop} {d : DefRec} {K : Params → PySem.W.Frag} (hn : l.most = some 63) (hdf : d.params.defaults = [])
    (hY : ∀ (w : World) (h : Heap), YP w h → (K w.params).In h)
    (F : ∀ (w : World) (mg : Str → Option Value) (fa : Addr) (h : Heap), (K w.params).In h → h.Ns mainGlobals mg → mg d.name = some (.ref fa) →
      ∃ fd : FuncData, (∀ (s : Shared) (u : Value), BindsTo s fd ⟨[u], []⟩ [("_law_script", u)]) ∧ ∀ base : Heap, (K w.params).In base → base.Ns mainGlobals mg → FnOk l.prog w (K w.params) mg base CX0 7 fa fd ["_law_script"] (spLaw (K w.params))) :
    PySem.W.WalkO q loose XP YP l.row.toRowW d [] (fun f vs => PySem.call f vs) :=
  L2.walk_of (n := 63) (k := 7) (x := "_law_script") (CX := fun _ => CX0) (sp := fun w => spLaw (K w.params)) hn (by decide) hdf ⟨rfl, by decide, by decide⟩ hY F (fun _ _ a ns hl _ hS => ⟨a, ns, rfl, hS, hl, fun _ => rfl⟩) fun _ _ _ _ _ z => z
end Qk
open PySem PySem.W PyProof.Rows
set_option maxRecDepth 100000 in
set_option maxHeartbeats 0 in
theorem PySem.Challenge.cw_narrowkeys_k36_whole_forced_and_served_holds : PySem.Challenge.rw_narrowkeys_k36_whole_forced_and_served.Holds := by
  w_on; o_law; k_head; (case hw => w_witness2)
  k_fill
  refine Qk.walk (l := PySem.Challenge.rw_narrowkeys_k36_whole_forced_and_served) rfl rfl (fun w h Y => PySem.W.kIn_of Y) ?F
  case F =>
    intro w mg fa h KX G hmg
    refine' Qk.all_mk KX G hmg ?a1 ?l1 ?c1 ?k1 ?a2 ?l2 ?c2 ?k2 ?a3 ?l3 ?c3 ?k3 ?a4 ?l4 ?c4 ?k4 ?a5 ?l5 ?c5 ?k5 ?a6 ?l6 ?c6 ?k6 ?a7 ?l7 ?c7 ?k7 ?a8 ?l8 ?c8 ?k8 ?a9 ?l9 ?c9 ?k9 ?a10 ?l10 ?c10 ?k10 ?a11 ?l11 ?c11 ?k11 ?a12 ?l12 ?c12 ?k12 ?a13 ?l13 ?c13 ?k13 ?a14 ?l14 ?c14 ?k14 ?a15 ?l15 ?c15 ?k15 ?a16 ?l16 ?c16 ?k16 ?a17 ?l17 ?c17 ?k17 ?a18 ?l18 ?c18 ?k18 ?a19 ?l19 ?c19 ?k19 ?a20 ?l20 ?c20 ?k20 ?a21 ?l21 ?c21 ?k21 ?a22 ?l22 ?c22 ?k22 ?a23 ?l23 ?c23 ?k23 ?aC ?aL ?aM ?aI ?iI ?lI ?cI ?kI ?aJ ?iJ ?lJ ?cJ ?kJ ?pg ?hd ?po ?sa ?mk ?kc ?nQ ?zlen ?zint ?zabs ?ztuple ?zsorted ?zrange ?zlist ?zset ?zisinstance ?zstr ?zall ?zenumerate ?ziter
    (case a1 => k_is)
    (case l1 => k_is)
    (case c1 => k_is)
    (case k1 => k_is)
    (case a2 => k_is)
    (case l2 => k_is)
    (case c2 => k_is)
    (case k2 => k_is)
    (case a3 => k_is)
    (case l3 => k_is)
    (case c3 => k_is)
    (case k3 => k_is)
    (case a4 => k_is)
    (case l4 => k_is)
    (case c4 => k_is)
    (case k4 => k_is)
    (case a5 => k_is)
    (case l5 => k_is)
    (case c5 => k_is)
    (case k5 => k_is)
    (case a6 => k_is)
    (case l6 => k_is)
    (case c6 => k_is)
    (case k6 => k_is)
    (case a7 => k_is)
    (case l7 => k_is)
    (case c7 => k_is)
    (case k7 => k_is)
    (case a8 => k_is)
    (case l8 => k_is)
    (case c8 => k_is)
    (case k8 => k_is)
    (case a9 => k_is)
    (case l9 => k_is)
    (case c9 => k_is)
    (case k9 => k_is)
    (case a10 => k_is)
    (case l10 => k_is)
    (case c10 => k_is)
    (case k10 => k_is)
    (case a11 => k_is)
    (case l11 => k_is)
    (case c11 => k_is)
    (case k11 => k_is)
    (case a12 => k_is)
    (case l12 => k_is)
    (case c12 => k_is)
    (case k12 => k_is)
    (case a13 => k_is)
    (case l13 => k_is)
    (case c13 => k_is)
    (case k13 => k_is)
    (case a14 => k_is)
    (case l14 => k_is)
    (case c14 => k_is)
    (case k14 => k_is)
    (case a15 => k_is)
    (case l15 => k_is)
    (case c15 => k_is)
    (case k15 => k_is)
    (case a16 => k_is)
    (case l16 => k_is)
    (case c16 => k_is)
    (case k16 => k_is)
    (case a17 => k_is)
    (case l17 => k_is)
    (case c17 => k_is)
    (case k17 => k_is)
    (case a18 => k_is)
    (case l18 => k_is)
    (case c18 => k_is)
    (case k18 => k_is)
    (case a19 => k_is)
    (case l19 => k_is)
    (case c19 => k_is)
    (case k19 => k_is)
    (case a20 => k_is)
    (case l20 => k_is)
    (case c20 => k_is)
    (case k20 => k_is)
    (case a21 => k_is)
    (case l21 => k_is)
    (case c21 => k_is)
    (case k21 => k_is)
    (case a22 => k_is)
    (case l22 => k_is)
    (case c22 => k_is)
    (case k22 => k_is)
    (case a23 => k_is)
    (case l23 => k_is)
    (case c23 => k_is)
    (case k23 => k_is)
    (case aC => k_is)
    (case aL => k_is)
    (case aM => k_is)
    (case aI => k_is)
    (case iI => k_is)
    (case lI => k_is)
    (case cI => k_is)
    (case kI => k_is)
    (case aJ => k_is)
    (case iJ => k_is)
    (case lJ => k_is)
    (case cJ => k_is)
    (case kJ => k_is)
    (case pg => k_is)
    (case hd => k_is)
    (case po => k_is)
    (case sa => k_is)
    (case mk => k_is)
    (case kc => k_is)
    (case nQ => k_is)
    (case zlen => k_is)
    (case zint => k_is)
    (case zabs => k_is)
    (case ztuple => k_is)
    (case zsorted => k_is)
    (case zrange => k_is)
    (case zlist => k_is)
    (case zset => k_is)
    (case zisinstance => k_is)
    (case zstr => k_is)
    (case zall => k_is)
    (case zenumerate => k_is)
    (case ziter => k_is)
#print axioms PySem.Challenge.cw_narrowkeys_k36_whole_forced_and_served_holds
