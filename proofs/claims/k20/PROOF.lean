import PyProof.Rows.All
import HandS.TupSets
import HandS.SetKeys
import Wide.All
import OpenK.AllK
import Wide.FinOn
import HandS.ForMost
import HandS.More
import HandS.TupAny
import HandS.Star
import HandS.Evl
import PyProof.Rows.StrMeet
import HandS.Walk
import PyProof.StrLawsRepr
import HandS.SortRule
import HandS.Deep
import KE.GoesEnum
import KE.GoesMore
import HandS.ExcValue
import HandS.Strs
import KE.KeyNested
import KE.LtSeq
import HandS.OwnEq
import HandS.IsInst
import HandS.StrMore
import HandS.OwnIter
import HandS.IterVal
import KE.KOwnIter
import OpenK.KOps
import HandS.Keys
import HandS.SortKw
import KE.KSortKeyAny
import HandS.Comp
import HandS.SetBool
import HandS.ExcInit
import HandS.ExcIs
import HandS.ExcField
import KE.KExcIs
import KE.KExcInit
import KE.KExcMake
import OpenK.KMeth
import HandS.Exc
import HandS.ExcOwn
import HandS.WordsExc
import HandS.TryElse
import PyProof.NeKinds
import HandS.Dict
import PyProof.StrOps2
import HandS.Style
import HandS.StrSplit
import HandS.Zip
import HandS.Defaults
import HandS.CallRecv
import HandS.Gcd
import HandS.Sort
import KE.KMathGC
import KE.DatumOrd
import PySem.Challenge.RW_narrowkeys_k20_asked_told
set_option Elab.async false
set_option linter.all false
set_option maxRecDepth 100000
set_option maxHeartbeats 4000000
set_option maxRecDepth 100000
set_option maxHeartbeats 4000000
namespace Qk
open PySem PySem.Spec PyProof.Rows L2
/-- the set at a holds just the texts of S -/
def TSet (P : Program) (w : World) (h : Heap) (a : Addr) (S : Str → Bool) (n : Nat) : Prop := h.SetOf (strKind P w) a S n
section
variable {P : Program} {w : World} {A : Around} {E : Value → Shared → Prop} {s : Shared} {a o r : Addr} {S T R : Str → Bool} {n m k : Nat}
theorem TSet.keep {h h' : Heap} {a : Addr} {S : Str → Bool} {n : Nat} (x : TSet P w h a S n) (k : ∀ u, h.get? a = some u → h'.get? a = some u) : TSet P w h' a S n := by
  obtain ⟨oa, es, ep, t, ho, r⟩ := x
  exact ⟨oa, es, ep, t, k _ ho, r⟩
end
end Qk
set_option maxRecDepth 100000
set_option maxHeartbeats 4000000
set_option maxRecDepth 100000
set_option maxHeartbeats 4000000
namespace Qk
open PySem PySem.Spec PyProof.Rows L2
section
variable {X : Cx}
theorem get_list : PGet X (fun o i H Q => ∃ p xs j v, o = .ref p ∧ i = .int ((j : Nat) : Int) ∧ SqL X.K H p xs ∧ xs[j]? = some v ∧ Q v H) := by
  intro pins s σ H o i ov iv Q I ro ri h
  obtain ⟨p, xs, j, v, rfl, rfl, hx, ha, q⟩ := h
  cases ro
  obtain ⟨t, rfl⟩ := ri
  obtain ⟨its, r, pl, hz⟩ := I.list hx
  obtain ⟨w, ew, rw'⟩ := r.get ha
  have hj : j < xs.length := (List.getElem?_eq_some_iff.mp ha).1
  have hn := line63
  exact wpAny_getItem_list pl.isList (by omega) (by omega) (by simpa using ew) ⟨v, H, I, rw', q⟩
def rSortedST (K : PySem.W.Frag) : List V → Hp → VK → Prop := fun vs H Q => ∃ (a : Addr) (ss : List Str), vs = [V.ref a] ∧ (SqL K H a (ss.map V.str) ∨ SqT K H a (ss.map V.str)) ∧ ss.length < 64 ∧
  ∀ (ys : List Str) (p : Addr), ys.Perm ss → sortedS ys = true → H p = none → Q (.ref p) (upd H p (.lst (ys.map V.str)))
theorem cr_sortedST : CallR X (.builtin "sorted") (rSortedST X.K) := by
  intro pins s σ H vs us Q I r h
  obtain ⟨a, ss, rfl, hs, h64, q⟩ := h
  rcases hs with hs | hs
  · exact cr_sortedS pins s σ H _ us Q I r ⟨a, ss, rfl, hs, h64, q⟩
  · obtain ⟨its, rv, ⟨o, ho, hc, n, hd⟩, hz⟩ := I.tuple hs
    rw [Vals.ref1 r]
    have hS : StrsAre its ss := rv.strs
    have hl : its.length = ss.length := by
      have z := rv.length
      rw [List.length_map] at z
      exact z.symm
    refine Calls.call_function_entry PyProof.Rows.kind_sorted PyProof.Rows.plain_sorted PyProof.Rows.entry_sorted (PyProof.Rows.args_sorted1 _) ?_
    unfold Builtin.«sorted»
    refine wpAny_bind (m := checkCount "sorted" 1 1 _) (wpAny_pure ?_)
    refine wpAny_bind (wpAny_collect_seq a (.inr rfl) ho hc hd (fun h' hk => ?_) (by rw [List.size_toArray, hl, sizeLine_eq]; omega))
    have e0 : its.toArray.toList = its := by simp
    rw [e0]
    have I1 : Inv X pins σ H { s with heap := h' } := I.kept (t' := s.toks) hk
    refine wpAny_bind (wpAny_newList ?_ (by rw [hl, sizeLine_eq]; omega))
    have hoL : (h'.push (seqObj "list" its.toArray 0)).get? h'.objs.size = some (seqObj "list" its.toArray 0) := Heap.get?_push_size _ rfl
    show wpAny _ _ _ _ _ { s with heap := h'.push (seqObj "list" its.toArray 0) }
    refine wpAny_bind (wpAny_holding (wpAny_call_entry PyProof.Rows.slot_list_sort ⟨_, hoL, rfl⟩ PyProof.Rows.entry_list_sort
      (list_sort_treeK strKind_oneLt (s := { s with heap := h'.push (seqObj "list" its.toArray 0) }) hoL hS.keysOf (fun v₁ v₂ rest e => keyKind_strs (by rw [← e]; exact hS)) (by rw [hl]; exact h64) fun st' hp hs => ⟨_, rfl, ?_⟩)
      (PyProof.Rows.args_list_sort _)))
    obtain ⟨ys, g1, g2, g3⟩ := sorted_out_str hS hp hs
    obtain ⟨ep, he'⟩ := PyProof.Rows.sortedHeap_at (vs := its) (out := (arrOf st').map (·.2)) hoL
    have hlen : (ys.map V.str).length ≤ sizeLine := by
      rw [List.length_map, g2.length_eq]
      exact Nat.le_trans (Nat.le_of_lt h64) (by decide)
    have hfresh : H h'.objs.size = none := I1.hok.fresh (Nat.le_refl _)
    refine wpAny_pure ⟨_, rfl, .ref h'.objs.size, upd H h'.objs.size (.lst (ys.map V.str)), I1.laid (t' := s.toks) (fun b u hu => ?_) (Nat.le_refl _)
      (show ObjOk X.prog X.w _ _ h'.objs.size (.lst (ys.map V.str)) from ⟨hlen, ((arrOf st').map (·.2)).toList, ep, vals_of_strs g1, by rw [Array.toArray_toList]; exact he'⟩), rfl, q ys _ g2 g3 hfresh⟩
    have hb : b ≠ h'.objs.size := Nat.ne_of_lt (Heap.lt_size hu)
    have hu2 : (h'.push (seqObj "list" its.toArray 0)).get? b = some u := Heap.get?_push_of_some _ hu
    rw [PyProof.Rows.sortedHeap_old hb (Heap.lt_size hu2)]
    exact hu2
end
end Qk
set_option maxRecDepth 100000
set_option maxHeartbeats 4000000
namespace Qk
open PySem PySem.Spec PyProof.Rows L2
def Bag (H : Hp) (b l : Addr) : Prop := ∃ (h m : Int) (p : Nat) (ns : List Int), H b = some (.lst [.int h, .int m, .int (p : Int), .ref l]) ∧ H l = some (.lst (ns.map V.int)) ∧ l ≠ b ∧
  0 ≤ h ∧ 0 ≤ m ∧ m < 2147483647 ∧ ∀ n ∈ ns, 0 ≤ n
/-- all but b is kept -/
def Kp (b : Addr) (H H' : Hp) : Prop := ∀ c o, H c = some o → c ≠ b → H' c = some o
theorem Kp.refl (b : Addr) (H : Hp) : Kp b H H := fun _ _ e _ => e
theorem Kp.trans {b : Addr} {H H1 H2 : Hp} (x : Kp b H H1) (y : Kp b H1 H2) : Kp b H H2 := fun c o e n => y c o (x c o e n) n
theorem Kp.of {b : Addr} {H H' : Hp} (s : Same H H') : Kp b H H' := fun c o e _ => s c o e
theorem Kp.at_ (b : Addr) (H : Hp) (o : HO) : Kp b H (upd H b o) := fun c u e n => by rw [upd_ne n]; exact e
theorem Kp.new {b p : Addr} {H : Hp} {o : HO} (hp : H p = none) : Kp b H (L2.upd H p o) := fun c u e _ => by rw [upd_ne (ne_of_none e hp)]; exact e
theorem Bag.at_ {H : Hp} {b l : Addr} (B : Bag H b l) : ∃ o, H b = some o := by
  obtain ⟨h, m, p, ns, hb, _⟩ := B
  exact ⟨_, hb⟩
theorem Bag.same {H H' : Hp} {b l : Addr} (s : Same H H') (B : Bag H b l) : Bag H' b l := by
  obtain ⟨h, m, p, ns, hb, hl, r⟩ := B
  exact ⟨h, m, p, ns, s _ _ hb, s _ _ hl, r⟩
theorem same_new {H : Hp} {p : Addr} {o : HO} (h : H p = none) : Same H (upd H p o) := fun b x e => by
  rw [upd_ne (ne_of_none e h)]
  exact e
theorem Bag.new {H : Hp} {b l p : Addr} {o : HO} (B : Bag H b l) (h : H p = none) : Bag (upd H p o) b l := B.same (same_new h)
theorem Bag.ne {H : Hp} {b l p : Addr} (B : Bag H b l) (h : H p = none) : p ≠ b := by
  obtain ⟨o, e⟩ := B.at_
  exact (ne_of_none e h).symm
/-- the bag stands nowhere where something of another kind stands -/
theorem Bag.ne_tup {H : Hp} {b l p : Addr} {xs : List V} (B : Bag H b l) (h : H p = some (.tup xs)) : p ≠ b := by
  obtain ⟨h', m, q, ns, hb, _⟩ := B
  exact ne_of h hb (by intro z; cases z)
theorem Bag.ne_strs {H : Hp} {b l p : Addr} {xs : List Str} (B : Bag H b l) (h : H p = some (.lst (xs.map V.str))) : p ≠ b := by
  obtain ⟨h', m, q, ns, hb, _⟩ := B
  refine ne_of h hb fun z => ?_
  injection z with z
  cases xs with
  | nil => cases z
  | cons x xs =>
    rw [List.map_cons] at z
    injection z with z _
    cases z
/-- what stands beside the bag and its list may change -/
theorem Bag.off {H H' : Hp} {b l p : Addr} (B : Bag H b l) (h : ∀ c o, H c = some o → c ≠ p → H' c = some o) (nb : b ≠ p) (nl : l ≠ p) : Bag H' b l := by
  obtain ⟨h', m, q, ns, hb, hl, r⟩ := B
  exact ⟨h', m, q, ns, h _ _ hb nb, h _ _ hl nl, r⟩
theorem Bag.list {H : Hp} {b l : Addr} (B : Bag H b l) : ∃ o, H l = some o := by
  obtain ⟨h, m, p, ns, hb, hl, _⟩ := B
  exact ⟨_, hl⟩
theorem Bag.nel {H : Hp} {b l p : Addr} (B : Bag H b l) (h : H p = none) : l ≠ p := by
  obtain ⟨o, e⟩ := B.list
  exact ne_of_none e h
theorem Bag.upd {H : Hp} {b l p : Addr} {o : HO} (B : Bag H b l) (nb : b ≠ p) (nl : l ≠ p) : Bag (L2.upd H p o) b l :=
  B.off (fun c u e n => by rw [upd_ne n]; exact e) nb nl
theorem rIx {K : PySem.W.Frag} {H : Hp} {b : Addr} {xs : List V} {v : V} {Q : VK} (j : Nat) (h : H b = some (.lst xs)) (e : xs[j]? = some v) (q : Q v H) : rIxL K (.ref b) (.int (j : Int)) H Q :=
  ⟨b, xs, (j : Int), v, rfl, rfl, SqL.of h, atI_nat e, q⟩
theorem setIx {H : Hp} {b : Addr} {xs : List V} {v : V} {Q : Hp → Prop} (j : Nat) (h : H b = some (.lst xs)) (e : j < xs.length) (q : Q (upd H b (.lst (xs.set j v)))) : rSetL (.ref b) (.int (j : Int)) v H Q :=
  ⟨b, xs, (j : Int), j, rfl, rfl, h, Evl.ixN_nat e, q⟩
/-- a draw: a number below many, the bag moves on -/
def spTake : Sp := fun vs H Q _ => ∃ (b l : Addr) (n : Int), vs = [.ref b, .int n] ∧ Bag H b l ∧ 0 < n ∧ n < 1000000 ∧ ∀ (k : Nat) (H' : Hp), (k : Int) < n → Bag H' b l → Kp b H H' → Q (.int (k : Int)) H'
/-- one of a list -/
def spOne : Sp := fun vs H Q _ => ∃ (b l a : Addr) (xs : List V), vs = [.ref b, .ref a] ∧ Bag H b l ∧ a ≠ b ∧ H a = some (.lst xs) ∧ xs ≠ [] ∧ xs.length < 1000 ∧ ∀ (x : V) (H' : Hp), x ∈ xs → Bag H' b l → Kp b H H' → Q x H'
/-- a new list of the same things in some order -/
def spMixed : Sp := fun vs H Q _ => ∃ (b l a : Addr) (xs : List V), vs = [.ref b, .ref a] ∧ Bag H b l ∧ a ≠ b ∧ H a = some (.lst xs) ∧ xs.length < 1000 ∧
  ∀ (ys : List V) (p : Addr) (H' : Hp), ys.Perm xs → H p = none → p ≠ b → H' p = some (.lst ys) → Bag H' b l → Kp b H H' → Q (.ref p) H'
/-- the bag of a script -/
def spBag (K : PySem.W.Frag) : Sp := fun vs H Q _ => ∃ (a : Addr) (ns : List Int), vs = [.ref a] ∧ SqL K H a (ns.map V.int) ∧ ns.length ≤ 63 ∧ ∀ (b l : Addr) (H' : Hp), H b = none → Bag H' b l → Same H H' → Q (.ref b) H'
/-- a def that is called by its name -/
structure Cal (P : Program) (w : World) (K : PySem.W.Frag) (mg : Str → Option Value) (base : Heap) (k : Nat) (x : Str) (ps : List Str) (sp : Sp) where
  f : Addr
  fd : FuncData
  G : FnOk P w K mg base CX0 k f fd ps sp
  m : mg x = some (.ref f)
  kp : PySem.W.keepIn K (.ref f) = true
  b : Binds K fd ps []
theorem cut_to (k : Nat) (xs : List V) : cutV xs none (some (k : Int)) = xs.take k := by
  unfold cutV
  rw [HT.sIx_none, HT.sIx_nat, List.drop_zero, Nat.sub_zero]
  by_cases h : k ≤ xs.length
  · rw [Nat.min_eq_left h]
  · rw [Nat.min_eq_right (by omega), List.take_of_length_le (Nat.le_refl _), List.take_of_length_le (by omega)]
theorem take_mod {k n : Int} (hn : 0 < n) : ∃ j : Nat, k % n = (j : Int) ∧ (j : Int) < n := by
  have h1 := Int.emod_nonneg k (show n ≠ 0 by omega)
  have h2 := Int.emod_lt_of_pos k hn
  exact ⟨(k % n).toNat, by omega, by omega⟩
/-- the names that the laws draw from -/
def menu0 : List Str := ["a", "b", "ab", "ba", "job", "view", "pin", "quay", "stock", "golfer", "exhumed", "zzzzzzzz"]
/-- .. and others of other laws -/
def menu : List Str := menu0 ++ (["aa", "z", "power", "status", "ask", "quicklyx", "fghmndct", "q", "qq", "c", "d", "e", "f", "g", "h", "i", "j", "k", "l", "m"] : List Str)
theorem perm_strs {ys : List V} {xs : List Str} (h : ys.Perm (xs.map V.str)) : ∃ zs : List Str, ys = zs.map V.str ∧ zs.Perm xs := by
  have go : ∀ (ys : List V), (∀ y ∈ ys, ∃ z, y = V.str z) → ∃ zs : List Str, ys = zs.map V.str := by
    intro ys
    induction ys with
    | nil => intro _; exact ⟨[], rfl⟩
    | cons y ys ih =>
      intro h
      obtain ⟨z, rfl⟩ := h y List.mem_cons_self
      obtain ⟨zs, rfl⟩ := ih fun y hy => h y (List.mem_cons_of_mem _ hy)
      exact ⟨z :: zs, rfl⟩
  obtain ⟨zs, rfl⟩ := go ys fun y hy => by
    obtain ⟨z, _, e⟩ := List.mem_map.mp (h.mem_iff.mp hy)
    exact ⟨z, e.symm⟩
  refine ⟨zs, rfl, ?_⟩
  have unstr : ∀ l : List Str, (l.map V.str).map (fun v => match v with | .str z => z | _ => "") = l := fun l => by
    rw [List.map_map]
    exact (List.map_congr_left fun _ _ => rfl).trans (List.map_id _)
  have := h.map (fun v => match v with | .str z => z | _ => "")
  rwa [unstr, unstr] at this
/-- some of the menu's names, each once, n at most -/
structure Names (n : Nat) (xs : List Str) : Prop where
  nd : xs.Nodup
  sub : ∀ c ∈ xs, c ∈ menu
  len : xs.length = min n 12
/-- a row of names -/
structure Row (xs : List Str) : Prop where
  nd : xs.Nodup
  sub : ∀ c ∈ xs, c ∈ menu
  pos : 0 < xs.length
  le : xs.length ≤ 12
theorem Names.row {n : Nat} {xs : List Str} (h : Names n xs) (hn : 0 < n) : Row xs := ⟨h.nd, h.sub, by rw [h.len]; omega, by rw [h.len]; omega⟩
/-- a question as it stands -/
def QAt (H : Hp) (q : Addr) (cols : List Str) (e : Str) : Prop := ∃ c, H q = some (.tup [.ref c, .str e]) ∧ H c = some (.tup (cols.map V.str))
theorem QAt.same {H H' : Hp} {q : Addr} {cols : List Str} {e : Str} (s : Same H H') (h : QAt H q cols e) : QAt H' q cols e := by
  obtain ⟨c, h1, h2⟩ := h
  exact ⟨c, s _ _ h1, s _ _ h2⟩
theorem QAt.kp {H H' : Hp} {q b l : Addr} {cols : List Str} {e : Str} (B : Bag H b l) (s : Kp b H H') (h : QAt H q cols e) : QAt H' q cols e := by
  obtain ⟨c, h1, h2⟩ := h
  exact ⟨c, s _ _ h1 (B.ne_tup h1), s _ _ h2 (B.ne_tup h2)⟩
structure Qok (xs cols : List Str) (e : Str) : Prop where
  nd : cols.Nodup
  srt : sortedS cols = true
  sub : ∀ c ∈ cols, c ∈ xs
  esub : e = "" ∨ e ∈ xs
  ne : e ∉ cols
  some : e = "" → cols ≠ []
  le : cols.length ≤ 12
theorem menu_ne : ∀ c ∈ menu, c ≠ "" := by decide +kernel
/-- out of a beginning of some order of a row -/
theorem qok_plain {xs ys zs : List Str} {k : Nat} (R : Row xs) (hp : ys.Perm xs) (hz : zs.Perm (ys.take (k + 1))) (hs : sortedS zs = true) : Qok xs zs "" := by
  have sl := List.take_sublist (k + 1) ys
  have hsub : ∀ c ∈ zs, c ∈ xs := fun c hc => hp.mem_iff.mp (sl.mem (hz.mem_iff.mp hc))
  have hl := R.le
  have hpos := R.pos
  have hyl := hp.length_eq
  have hzl := hz.length_eq
  rw [List.length_take] at hzl
  refine ⟨hz.nodup_iff.mpr ((hp.nodup_iff.mpr R.nd).sublist sl), hs, hsub, .inl rfl, fun h => menu_ne _ (R.sub _ (hsub _ h)) rfl, fun _ h => ?_, by omega⟩
  rw [h] at hzl
  simp at hzl
  omega
theorem qok_ranged {xs ys zs : List Str} {k : Nat} {e : Str} (R : Row xs) (hp : ys.Perm xs) (he : ys[k]? = some e) (hz : zs.Perm (ys.take k)) (hs : sortedS zs = true) : Qok xs zs e := by
  have sl := List.take_sublist k ys
  have hsub : ∀ c ∈ zs, c ∈ xs := fun c hc => hp.mem_iff.mp (sl.mem (hz.mem_iff.mp hc))
  have hmem : e ∈ xs := hp.mem_iff.mp (List.mem_of_getElem? he)
  have hl := R.le
  have hyl := hp.length_eq
  have hzl := hz.length_eq
  rw [List.length_take] at hzl
  have ndy := hp.nodup_iff.mpr R.nd
  refine ⟨hz.nodup_iff.mpr (ndy.sublist sl), hs, hsub, .inr hmem, fun h => ?_, fun h => absurd h (menu_ne _ (R.sub _ hmem)), by omega⟩
  have h1 := hz.mem_iff.mp h
  have hk : k < ys.length := (List.getElem?_eq_some_iff.mp he).1
  have e2 : ys = ys.take k ++ ys.drop k := (List.take_append_drop k ys).symm
  have e3 : e ∈ ys.drop k := by
    have : (ys.drop k)[0]? = some e := by rw [List.getElem?_drop]; exact he
    exact List.mem_of_getElem? this
  rw [e2] at ndy
  exact (List.nodup_append.mp ndy).2.2 _ h1 _ e3 rfl
end Qk
set_option maxRecDepth 100000
set_option maxHeartbeats 4000000
namespace Qk
open PySem PySem.Spec PyProof.Rows L2
def leS (a b : Str) : Prop := ltCps b.cps.toList a.cps.toList = false
theorem str_ext {a b : Str} (h : a.cps.toList = b.cps.toList) : a = b := by
  obtain ⟨x⟩ := a
  obtain ⟨y⟩ := b
  simp only at h
  congr 1
  exact Array.toList_inj.mp h
theorem leS_antisymm {a b : Str} (h1 : leS a b) (h2 : leS b a) : a = b := by
  unfold leS at h1 h2
  rw [ltCps_eq] at h1 h2
  have n1 := of_decide_eq_false h1
  have n2 := of_decide_eq_false h2
  exact str_ext (List.le_antisymm (List.not_lt.mp n1) (List.not_lt.mp n2))
theorem leS_trans {a b c : Str} (h1 : leS a b) (h2 : leS b c) : leS a c := by
  unfold leS at *
  rw [ltCps_eq] at *
  have n1 := List.not_lt.mp (of_decide_eq_false h1)
  have n2 := List.not_lt.mp (of_decide_eq_false h2)
  exact decide_eq_false (List.not_lt.mpr (List.le_trans n1 n2))
theorem risingS_pw : ∀ (xs : List Str) (p : Str), risingS p xs = true → (p :: xs).Pairwise leS
  | [], p, _ => List.pairwise_singleton _ _
  | x :: r, p, h => by
    rw [risingS, Bool.and_eq_true] at h
    have h1 : leS p x := by
      have := h.1
      rw [Bool.not_eq_true'] at this
      exact this
    have ih := risingS_pw r x h.2
    refine List.pairwise_cons.mpr ⟨fun y hy => ?_, ih⟩
    rcases List.mem_cons.mp hy with rfl | hy
    · exact h1
    · exact leS_trans h1 ((List.pairwise_cons.mp ih).1 y hy)
theorem sortedS_pw {xs : List Str} (h : sortedS xs = true) : xs.Pairwise leS := by
  cases xs with
  | nil => exact List.Pairwise.nil
  | cons x r => exact risingS_pw r x h
theorem perm_sorted : ∀ {xs ys : List Str}, xs.Perm ys → xs.Pairwise leS → ys.Pairwise leS → xs = ys
  | [], ys, h, _, _ => (List.Perm.nil_eq h)
  | x :: xs, [], h, _, _ => absurd h.length_eq (by simp)
  | x :: xs, y :: ys, h, h1, h2 => by
    have e : x = y := by
      rcases List.mem_cons.mp (h.mem_iff.mp List.mem_cons_self) with e | m1
      · exact e
      · rcases List.mem_cons.mp (h.mem_iff.mpr List.mem_cons_self) with e | m2
        · exact e.symm
        · exact leS_antisymm ((List.pairwise_cons.mp h1).1 y m2) ((List.pairwise_cons.mp h2).1 x m1)
    subst e
    rw [perm_sorted (List.Perm.cons_inv h) (List.pairwise_cons.mp h1).2 (List.pairwise_cons.mp h2).2]
theorem menu_ok : ∀ c ∈ menu, PyData.strOk c = true := by decide +kernel
theorem lay_strs : ∀ {xs : List Str}, (∀ c ∈ xs, PyData.strOk c = true) → PyData.canLayAll0 (xs.map PyData.str) = true
  | [], _ => rfl
  | x :: xs, h => by
    show (PyData.canLay0 (.str x) && PyData.canLayAll0 (xs.map PyData.str)) = true
    rw [lay_strs fun c hc => h c (List.mem_cons_of_mem _ hc), Bool.and_true]
    exact h x List.mem_cons_self
theorem depth_strs : ∀ (xs : List Str), PyData.depthAll (xs.map PyData.str) = 0
  | [] => rfl
  | x :: xs => by
    show max (PyData.depth (.str x)) (PyData.depthAll (xs.map PyData.str)) = 0
    rw [depth_strs xs]
    rfl
theorem eqv_strs : ∀ (xs ys : List Str), PyData.eqvAll (xs.map PyData.str) (ys.map PyData.str) = decide (xs = ys)
  | [], [] => by simp [PyData.eqvAll]
  | [], y :: ys => by simp [PyData.eqvAll]
  | x :: xs, [] => by simp [PyData.eqvAll]
  | x :: xs, y :: ys => by
    show PyData.eqvAll (PyData.str x :: xs.map PyData.str) (PyData.str y :: ys.map PyData.str) = _
    rw [PyData.eqvAll, eqv_strs xs ys, PyData.eqv]
    by_cases h1 : x = y
    · subst h1
      by_cases h2 : xs = ys
      · subst h2
        simp
      · simp [h2]
    · simp [h1]
theorem shaped_list {xs : List Str} (h : ∀ c ∈ xs, PyData.strOk c = true) : SeqAt.shaped (.list (xs.map PyData.str)) = true := by
  unfold SeqAt.shaped
  rw [Bool.and_eq_true]
  exact ⟨lay_strs h, decide_eq_true (by rw [PyData.depth, depth_strs]; decide)⟩
theorem shaped_tuple {xs : List Str} (h : ∀ c ∈ xs, PyData.strOk c = true) : SeqAt.shaped (.tuple (xs.map PyData.str)) = true := by
  unfold SeqAt.shaped
  rw [Bool.and_eq_true]
  exact ⟨lay_strs h, decide_eq_true (by rw [PyData.depth, depth_strs]; decide)⟩
theorem dp_strs {K : PySem.W.Frag} {H : Hp} : ∀ (xs : List Str), DpAll K H (xs.map V.str) (xs.map PyData.str)
  | [] => .nil
  | x :: xs => .cons (.str x) (dp_strs xs)
theorem flat_strs (xs : List Str) : (xs.map V.str).all flatV = true := by
  rw [List.all_map]
  exact List.all_eq_true.mpr fun _ _ => rfl
theorem inV_strs (c : Str) (xs : List Str) : inV (.str c) (xs.map V.str) = decide (c ∈ xs) := by
  unfold inV
  rw [List.any_map]
  by_cases h : c ∈ xs
  · rw [decide_eq_true h]
    exact List.any_eq_true.mpr ⟨c, h, by show (c == c) = true; exact beq_self_eq_true c⟩
  · rw [decide_eq_false h]
    refine List.any_eq_false.mpr fun y hy e => h ?_
    have e' : (y == c) = true := e
    rw [← eq_of_beq e']
    exact hy
theorem slA {K : PySem.W.Frag} {H : Hp} {a : Addr} {xs : List Str} {lo hi : Option Int} {ys : List Str} {Q : VK} (h : H a = some (.tup (xs.map V.str))) (e : cutV (xs.map V.str) lo hi = ys.map V.str)
    (k : ∀ (r : Addr) (H' : Hp), Same H H' → H' r = some (.tup (ys.map V.str)) → Q (.ref r) H') : rSlA K (.ref a) lo hi H Q := by
  refine ⟨a, _, rfl, SqT.of h, fun hw => k a H (Same.refl _) ?_, fun _ p hp => ?_⟩
  · rw [h, ← e]
    unfold cutV
    rw [hw.1, hw.2, List.drop_zero, Nat.sub_zero, List.take_length]
  · rw [e]
    exact k p _ (same_new hp) upd_same
structure QM (cols : List Str) (e : Str) : Prop where
  nd : cols.Nodup
  srt : sortedS cols = true
  sub : ∀ c ∈ cols, c ∈ menu
  esub : e = "" ∨ e ∈ menu
  le : cols.length ≤ 12
  some : e = "" → cols ≠ []
theorem Qok.qm {xs cols : List Str} {e : Str} (h : Qok xs cols e) (R : ∀ c ∈ xs, c ∈ menu) : QM cols e :=
  ⟨h.nd, h.srt, fun c hc => R _ (h.sub _ hc), h.esub.imp id (fun m => R _ m), h.le, h.some⟩
theorem Row.take {xs : List Str} (R : Row xs) (k : Nat) : Row (xs.take (k + 1)) :=
  ⟨R.nd.sublist (List.take_sublist _ _), fun c hc => R.sub _ ((List.take_sublist _ _).mem hc), by have := R.pos; rw [List.length_take]; omega, by have := R.le; rw [List.length_take]; omega⟩
end Qk
set_option maxRecDepth 100000
set_option maxHeartbeats 4000000
namespace Qk
open PySem PySem.Spec PyProof.Rows L2
structure FnG (P : Program) (w : World) (K : PySem.W.Frag) (mg : Str → Option Value) (base : Heap) (k : Nat) (f : Addr) (fd : FuncData) (ps : List Str) (sp : Sp) : Prop where
  len : ∀ vs H Q E, sp vs H Q E → vs.length = ps.length
  run : ∀ (A : Around) (outer : List Env) (s : Shared) (H : Hp) (args : Args) (us : List Value) (vs : List V) (Q : VK) (E : XK), Room k A → A.guards = some [] → Env0 P w K mg base A outer s H →
    BindsTo s fd args (ps.zip us) → Vals vs us → sp vs H Q E → codeAny (model P w) A (.call (.ref f) args) (CR CX0 outer P w H s Q E) s
theorem FnG.of {P : Program} {w : World} {K : PySem.W.Frag} {mg : Str → Option Value} {base : Heap} {k : Nat} {f : Addr} {fd : FuncData} {ps : List Str} {sp : Sp} (F : FnOk P w K mg base CX0 k f fd ps sp) : FnG P w K mg base k f fd ps sp :=
  ⟨F.len, fun A o s H args us vs Q E hr _ e b v h => F.run A o s H args us vs Q E hr e b v h⟩
section
variable {P : Program} {w : World} {K : PySem.W.Frag} {mg : Str → Option Value} {base : Heap}
theorem okG {x qual : Str} {st : Stmt} {f : Addr} {fd : FuncData} {N ps : List Str} {k : Nat} {sp : Sp} (F : Fun K x qual st f fd) (S : FnScope N ps (defScope st)) (len : ∀ vs H Q E, sp vs H Q E → vs.length = ps.length)
    (body : ∀ (cdv : Value) (A : Around) (outer : List Env) (s : Shared) (H : Hp) (vs : List V) (Q : VK) (E : XK), Room k (A.deeper (envOfC qual (defScope st) s.heap.objs.size f cdv)) → A.guards = some [] → sp vs H Q E →
      ∃ t, PSs (cxOf CX0 P w K mg base N qual (defScope st) f cdv A outer s H E).nox (defBody st) t ∧ t { nx := fun _ H' => Q .non H', rt := Q } (start N vs) H) : FnG P w K mg base (k + 1) f fd ps sp := by
  obtain ⟨oc, od, kV, doc, pm, an, cdv, ct, osl, rfl, lk, hcd⟩ := F.ex
  constructor
  · exact len
  intro A outer s H args us vs Q E hr hg e0 hb rv hsp
  have hlen := len _ _ _ _ hsp
  have kept : ∀ b o, base.get? b = some o → s.heap.get? b = some o := fun b o e => (e0.bs b o e).1
  have KX : K.In s.heap := e0.mod.kin.keeps kept
  have par : ∀ y ∈ ps.zip us, (defScope st).names.lookup y.1 = some .local ∨ ((defScope st).names.lookup y.1 = some .cell ∧ ((cellsFrom (s.heap.objs.size + 1) (defScope st).names []).lookup y.1).isSome = true) := by
    rintro ⟨n, v⟩ hy
    exact (S.par n (List.of_mem_zip hy).1).imp id fun q => ⟨q, PySem.W.cellsFrom_some _ _ _ (.inl q)⟩
  refine codeAny_call_function hr.depth (KX _ _ lk) rfl S.co S.gen rfl (PySem.W.codeRec_of KX hcd) (hb _ _ _ _ ?_)
  refine wpAny_newFunctionEnv_cells S.kind par fun env he s1 xe => ?_
  subst he
  refine ⟨(e0.mod.nolimit.keeps kept).keeps xe.toInCall.keep, codeAny_func ?_⟩
  obtain ⟨t, ht, hq⟩ := body cdv A outer s H vs Q E (hr.deeper _) hg hsp
  refine wpAny_mono (ht.nox.run [] s1 (start N vs) H _ (inv_start S hr.hd e0 hlen rv xe) hq) (fun fl s' hs => ?_) fun _ _ z => z
  cases fl with
  | ret u =>
    obtain ⟨v, σ', H', J, r, q⟩ := hs
    exact ⟨v, H', J.os, J.bare, J.base, J.hok, r, q⟩
  | next =>
    obtain ⟨σ', H', J, q⟩ := hs
    exact ⟨V.non, H', J.os, J.bare, J.base, J.hok, rfl, q⟩
  | brk => exact hs.elim fun _ z => z.elim fun _ z => z.2.elim
  | cont => exact hs.elim fun _ z => z.elim fun _ z => z.2.elim
end
section
variable {X : Cx} {k : Nat} {f : Addr} {fd : FuncData} {ps : List Str} {sp : Sp} {x : Str} {p pos : Pos} {e : Expr} {es : List Expr} {t : TA}
theorem run_g {pins : List (Addr × Obj)} {σ : L2.St} {H : Hp} {s : Shared} {Q : VK} {us : List Value} {vs : List V} (F : FnG X.prog X.w X.K X.mg X.base k f fd ps sp) (hr : Room k X.A) (hg : X.A.guards = some []) (hb : Binds X.K fd ps [])
    (I : Inv X pins σ H s) (r : Vals vs us) (h : sp vs H Q E0) : wpAny (model X.prog X.w) X.A (call (.ref f) us) (EP X pins σ Q) X.xe s := by
  have hl : (us ++ ([] : List Value)).length = ps.length := by
    rw [List.append_nil, ← r.length]
    exact F.len _ _ _ _ h
  have hbd := hb s us I.kIn hl
  rw [List.append_nil] at hbd
  have c := F.run X.A X.stack s H ⟨us, []⟩ us vs Q E0 hr hg I.env0 hbd r h
  refine wpAny_call (codeAny_mono c fun r s' hq => ?_)
  cases r with
  | error e => exact False.elim hq
  | ok fl =>
    cases fl with
    | ret u => exact I.after hq
    | _ => exact False.elim hq
/-- a call by name of such a def, all arguments given -/
theorem pe_callg (F : FnG X.prog X.w X.K X.mg X.base k f fd ps sp) (hr : Room k X.A) (hg : X.A.guards = some []) (hgl : Gl X x) (hm : X.mg x = some (.ref f)) (hk : PySem.W.keepIn X.K (.ref f) = true) (hb : Binds X.K fd ps [])
    (ha : PA X (e :: es) t) (hdb : (x == ("__debug__" : Str)) = false := by decide) (he : starEach (e :: es) X.env = (false, eval e X.env) :: starEach es X.env := by rfl) (hpl : (backTo pos (starEach es X.env)).any (·.1) = false := by rfl) :
    PE X (.Call (.Name x p) (e :: es) [] pos) (fun σ H Q => t σ H fun vs H1 => sp vs H1 Q E0) := by
  constructor
  intro pins s σ H Q I h
  refine wpAny_Call_Name_kw (ld_glob I hgl hm ?_ hdb)
  refine PySem.W.callWith_K (h₀ := X.base) I.ok.mod.kin hk ?_ he hpl
  exact thn (ha.run pos pins s σ H _ I h) fun us s1 ⟨vs, H1, I1, r, q⟩ => ⟨I1.kIn, run_g F hr hg hb I1 r q⟩
/-- repr of data, where no repr is running -/
def rReprD (K : PySem.W.Frag) : List V → Hp → VK → Prop := fun vs H Q => ∃ (x : V) (d : PyData), vs = [x] ∧ Dp K H x d ∧ d.showable = true ∧ d.hasDict = false ∧ d.shown.length ≤ sizeLine ∧ d.depth ≤ 60 ∧ Q (.str d.shown) H
theorem call_reprD (hg : X.A.guards = some []) (hu : X.A.units + 64 < cLine) : CallR X (.builtin "repr") (rReprD X.K) := by
  intro pins s σ H xs us Q I r h
  obtain ⟨x, d, rfl, hd, h1, h2, h3, h4, q⟩ := h
  obtain ⟨u, rfl, rx⟩ := vals1 r
  obtain ⟨as, rd⟩ := Dp.reads I d x u hd rx
  cases hd with
  | non =>
    cases rx
    exact PySem.P.repr_of_none ⟨.str _, H, I.tok _, ⟨_, rfl⟩, q⟩
  | bl b =>
    cases rx
    exact PySem.P.repr_of_bool ⟨.str _, H, I.tok _, ⟨_, rfl⟩, q⟩
  | int i =>
    obtain ⟨tk, rfl⟩ := rx
    exact PySem.P.repr_of_int (by simpa [PyData.showable] using h1) ⟨.str _, H, I.tok _, ⟨_, rfl⟩, q⟩
  | str z =>
    obtain ⟨tk, rfl⟩ := rx
    exact PySem.P.repr_of_str ⟨.str _, H, I.tok _, ⟨_, rfl⟩, q⟩ h3
  | lst hs ha =>
    cases rx
    exact repr_of_reads' rd h1 (fun z => by rw [h2] at z; cases z) hg (by omega) (fun _ _ z => z) (fun h' u tk hk => ⟨.str _, H, I.kept hk, ⟨_, rfl⟩, q⟩) h3
  | tup hs ha =>
    cases rx
    exact repr_of_reads' rd h1 (fun z => by rw [h2] at z; cases z) hg (by omega) (fun _ _ z => z) (fun h' u tk hk => ⟨.str _, H, I.kept hk, ⟨_, rfl⟩, q⟩) h3
end
end Qk
set_option maxRecDepth 100000
set_option maxHeartbeats 4000000
namespace Qk
open PySem PySem.Spec PyProof.Rows L2
theorem law_g {P : Program} {w : World} {K : PySem.W.Frag} {mg mb : Str → Option Value} {k : Nat} {fa a : Addr} {fd : FuncData} {x : Str} {sp : Sp} {s₁ : Shared} {vs : List Value} {ns : List Int}
    (KX : K.In s₁.heap) (hns : s₁.heap.Ns mainGlobals mg) (hb : s₁.heap.Ns builtinsNs mb) (hbb : ∀ x : Str, x ≠ "__name__" → mb x = bootBuiltins x) (hlim : s₁.heap.NoLimit) (hg : s₁.gens = #[])
    (ha : s₁.heap.get? a = some { cls := .type "list", data := .seq vs.toArray }) (hi : IntsAre vs ns) (hl : ns.length ≤ sizeLine) (hr : Room k callerA)
    (F : ∀ base : Heap, K.In base → base.Ns mainGlobals mg → FnG P w K mg base k fa fd [x] sp) (hbind : ∀ (s : Shared) (u : Value), BindsTo s fd ⟨[u], []⟩ [(x, u)])
    (hsp : ∀ H : Hp, Only H → SqL K H a (ns.map V.int) → sp [.ref a] H (fun v _ => v = .bl true) fun _ _ _ => False) :
    codeAny (model P w) callerA (.call (.ref fa) ⟨[.ref a], []⟩) (fun r s' => r = .ok (.ret (.bool true)) ∧ OldK s₁.heap s'.heap ∧ s'.os = s₁.os ∧ AllBare s'.gens) s₁ := by
  let o : Obj := { cls := .type "list", data := .seq vs.toArray }
  have rv : Vals (ns.map V.int) vs := vals_ints hi
  have lenV : vs.length = ns.length := hi.length
  -- the abstract heap: the script alone, where the top does not know it
  let H : Hp := fun b => if b = a ∧ K.lookup a = none then some (.frz o (.lst (ns.map V.int))) else none
  have Hsome : ∀ {b u}, H b = some u → b = a ∧ K.lookup a = none ∧ u = .frz o (.lst (ns.map V.int)) := fun {b u} z => by
    by_cases c : b = a ∧ K.lookup a = none
    · have z2 : some (HO.frz o (.lst (ns.map V.int))) = some u := (if_pos c).symm.trans z
      exact ⟨c.1, c.2, (Option.some.inj z2).symm⟩
    · have z2 : (none : Option HO) = some u := (if_neg c).symm.trans z
      cases z2
  have hO : Only H := fun b => by
    cases q : H b with
    | none => exact .inl rfl
    | some u => exact .inr ⟨_, _, by rw [(Hsome q).2.2]⟩
  have hS : SqL K H a (ns.map V.int) := by
    cases q : K.lookup a with
    | none => exact .inl (.inr ⟨o, if_pos ⟨rfl, q⟩⟩)
    | some u =>
      have e := KX a u q
      rw [ha] at e
      cases e
      exact .inr ⟨_, vs.toArray, _, q, rfl, rfl, rfl, by rw [List.size_toArray, lenV]; exact hl, by simpa using rv⟩
  have hok : HOk P w H s₁.heap := fun b u z => by
    obtain ⟨rfl, _, rfl⟩ := Hsome z
    exact ⟨ha, by rw [List.length_map]; exact hl, vs, _, rv, ha⟩
  have keepB : ∀ {b : Addr} {u : Obj}, s₁.heap.get? b = some u → (b = a → K.lookup a ≠ none) → (hidT s₁.heap H).get? b = some u := fun {b u} e n => hidT_get e (by
    cases q : H b with
    | none => rfl
    | some z => exact absurd (Hsome q).2.1 (n (Hsome q).1))
  have keepN : ∀ {b : Addr} {m : Str → Option Value}, s₁.heap.Ns b m → (hidT s₁.heap H).Ns b m := fun {b m} ⟨u, es, ep, e, d, r⟩ => by
    refine ⟨u, es, ep, keepB e fun eb => ?_, d, r⟩
    subst eb
    rw [ha] at e
    cases e
    cases d
  have hKb : K.In (hidT s₁.heap H) := fun b u e => keepB (KX b u e) fun eb q => by
    subst eb
    rw [q] at e
    cases e
  have hM : Mod K mg (hidT s₁.heap H) := ⟨hKb, keepN hns, ⟨mb, keepN hb, hbb⟩, let ⟨mc, h1, h2⟩ := hlim; ⟨mc, keepN h1, h2⟩⟩
  have e0 : Env0 P w K mg (hidT s₁.heap H) callerA [] s₁ H := ⟨rfl, hM, fun _ _ e => of_hidT e, Nat.le_of_eq (hidT_size _ _), trivial, fun b z => absurd (show b ∈ ([] : List Addr) from z) (by simp), hok, .of_eq hg⟩
  have run := (F _ hKb (keepN hns)).run callerA [] s₁ H ⟨[.ref a], []⟩ [.ref a] [.ref a] _ _ hr rfl e0 (hbind s₁ (.ref a)) (.cons rfl .nil) (hsp H hO hS)
  refine codeAny_mono run fun r s' h => ?_
  cases r with
  | error e => exact False.elim h
  | ok fl =>
    cases fl with
    | ret u =>
      obtain ⟨v, H', os, bare, un, hok', r', q⟩ := h
      obtain rfl : v = .bl true := q
      obtain rfl : u = Value.bool true := r'
      refine ⟨rfl, OldK.of_keep fun b u e => ?_, os, bare⟩
      cases q : H b with
      | none => exact un.keep b u e q (fun z => absurd (show b ∈ ([] : List Addr) from z) (by simp)) (by simp)
      | some z =>
        obtain ⟨rfl, _, rfl⟩ := Hsome q
        obtain ⟨e2, _⟩ := hok' b _ (un.frzs b o _ q)
        rw [ha] at e
        cases e
        exact e2
    | _ => exact False.elim h
theorem walk_g {l : PySem.W.OpenLaw} {n k : Nat} {q : Program} {loose : List Str} {XP : (Str → Option Value) → Heap → Prop} {YP : World → Heap → Prop} {d : DefRec} {K : Params → PySem.W.Frag} {sp : World → Sp} {x : Str}
    (hn : l.most = some n) (hn2 : n ≤ sizeLine) (hdf : d.params.defaults = []) (hr : Room k callerA) (hY : ∀ (w : World) (h : Heap), YP w h → (K w.params).In h)
    (F : ∀ (w : World) (mg : Str → Option Value) (fa : Addr) (h : Heap), (K w.params).In h → h.Ns mainGlobals mg → mg d.name = some (.ref fa) →
      ∃ fd : FuncData, (∀ (s : Shared) (u : Value), BindsTo s fd ⟨[u], []⟩ [(x, u)]) ∧ ∀ base : Heap, (K w.params).In base → base.Ns mainGlobals mg → FnG l.prog w (K w.params) mg base k fa fd [x] (sp w))
    (hsp : ∀ (w : World) (H : Hp) (a : Addr) (ns : List Int), ns.length ≤ n → Only H → SqL (K w.params) H a (ns.map V.int) → sp w [.ref a] H (fun v _ => v = .bl true) fun _ _ _ => False) :
    PySem.W.WalkO q loose XP YP l.row.toRowW d [] (fun f vs => PySem.call f vs) := by
  refine Att.attach_call hn hdf fun w s₀ s₁ mg mb fa o pm cd doc a vs ns G Y ho hd hcd hmg hobj hints hlen hg => ?_
  obtain ⟨fd, hb, hF⟩ := F w mg fa _ (hY w _ Y) G.T.g hmg
  exact law_g (hY w _ Y) G.T.g G.T.b G.T.builtins G.T.nolimit hg hobj hints (Nat.le_trans hlen hn2) hr hF hb fun H hO hS => hsp w H a ns hlen hO hS
mutual
def fine : PyData → Bool
  | .none => true
  | .bool _ => true
  | .int i => decide (i.natAbs < 10 ^ 60)
  | .str x => PyData.strOk x && decide (x.cps.size ≤ 20)
  | .list xs => fineAll xs
  | .tuple xs => fineAll xs
  | .dict _ => false
def fineAll : List PyData → Bool
  | [] => true
  | x :: xs => fine x && fineAll xs
end
mutual
def cost : PyData → Nat
  | .none => 4
  | .bool _ => 5
  | .int _ => 64
  | .str _ => 210
  | .list xs => costAll xs + 3
  | .tuple xs => costAll xs + 3
  | .dict _ => 0
def costAll : List PyData → Nat
  | [] => 0
  | x :: xs => cost x + 2 + costAll xs
end
mutual
theorem fine_lay : ∀ d : PyData, fine d = true → d.canLay0 = true ∧ d.showable = true ∧ d.hasDict = false
  | .none, _ => ⟨rfl, rfl, rfl⟩
  | .bool _, _ => ⟨rfl, rfl, rfl⟩
  | .int i, h => by
    have hi : i.natAbs < 10 ^ 60 := of_decide_eq_true h
    refine ⟨rfl, ?_, rfl⟩
    show decide (i.natAbs.log2 < 1920) = true
    refine decide_eq_true ?_
    by_cases h0 : i.natAbs = 0
    · rw [h0]
      decide
    · exact Nat.lt_of_lt_of_le ((Nat.log2_lt h0).mpr (Nat.lt_of_lt_of_le hi (show 10 ^ 60 ≤ 2 ^ 200 by decide))) (by decide)
  | .str x, h => by
    have h' : (PyData.strOk x && decide (x.cps.size ≤ 20)) = true := h
    rw [Bool.and_eq_true] at h'
    exact ⟨h'.1, rfl, rfl⟩
  | .list xs, h => fine_layAll xs h
  | .tuple xs, h => fine_layAll xs h
  | .dict _, h => by cases h
theorem fine_layAll : ∀ xs : List PyData, fineAll xs = true → PyData.canLayAll0 xs = true ∧ PyData.showableAll xs = true ∧ PyData.hasDictAll xs = false
  | [], _ => ⟨rfl, rfl, rfl⟩
  | x :: xs, h => by
    have h' : (fine x && fineAll xs) = true := h
    rw [Bool.and_eq_true] at h'
    obtain ⟨a1, a2, a3⟩ := fine_lay x h'.1
    obtain ⟨b1, b2, b3⟩ := fine_layAll xs h'.2
    refine ⟨?_, ?_, ?_⟩
    · show (PyData.canLay0 x && PyData.canLayAll0 xs) = true
      rw [a1, b1]
      rfl
    · show (PyData.showable x && PyData.showableAll xs) = true
      rw [a2, b2]
      rfl
    · show (PyData.hasDict x || PyData.hasDictAll xs) = false
      rw [a3, b3]
      rfl
end
theorem listText_le (ts : List Str) : (listText ts).length ≤ piled ts + 2 := by
  cases ts with
  | nil => decide
  | cons t r =>
    have e : listText (t :: r) = textFrom 1 ("[" ++ "" ++ t) r ++ "]" := rfl
    rw [e, strLen_append, textFrom_length_pos r 1 _ (by decide), strLen_append, piled_cons]
    have e1 : (("[" : Str) ++ ("" : Str)).length = 1 := rfl
    have e2 : ((("]" : String) : Str)).length = 1 := rfl
    have e3 : (((("[" : String) : Str) ++ (("" : String) : Str)) : Str).length = 1 := rfl
    omega
theorem tupleText_le (ts : List Str) : (tupleText ts).length ≤ piled ts + 3 := by
  unfold tupleText
  rw [strLen_append, strLen_append]
  have e1 : (("(" : String) : Str).length = 1 := rfl
  have e2 : ((if (ts.length == 1) = true then ",)" else ")" : String) : Str).length ≤ 2 := by
    split
    · decide
    · decide
  cases ts with
  | nil =>
    have : (Str.join ", " ([] : List Str)).length = 0 := rfl
    omega
  | cons t r =>
    have := join_length_add (t :: r) (by simp)
    omega
mutual
theorem shown_le : ∀ d : PyData, fine d = true → d.shown.length ≤ cost d
  | .none, _ => by decide
  | .bool b, _ => by cases b <;> decide
  | .int i, h => by
    have hi : i.natAbs < 10 ^ 60 := of_decide_eq_true h
    have e := int_text_length_le10 (k := 60) (a := i) (by decide) hi
    show (Str.ofString (toString i)).length ≤ 64
    rw [PySem.ofString_length]
    omega
  | .str x, h => by
    have h' : (PyData.strOk x && decide (x.cps.size ≤ 20)) = true := h
    rw [Bool.and_eq_true] at h'
    have h2 : x.length ≤ 20 := of_decide_eq_true h'.2
    have h3 : ∀ c ∈ x.cps.toList, c < 16 ^ 8 := fun c hc => by
      have := Array.all_eq_true'.mp h'.1 c (by simpa using hc)
      have := of_decide_eq_true this
      omega
    have := PySem.StrLaws.reprText_len x h3
    show (reprText x).length ≤ 210
    omega
  | .list xs, h => by
    have := listText_le (PyData.shownAll xs)
    have h2 := shown_leAll xs h
    show (listText (PyData.shownAll xs)).length ≤ costAll xs + 3
    omega
  | .tuple xs, h => by
    have := tupleText_le (PyData.shownAll xs)
    have h2 := shown_leAll xs h
    show (tupleText (PyData.shownAll xs)).length ≤ costAll xs + 3
    omega
  | .dict _, h => by cases h
theorem shown_leAll : ∀ xs : List PyData, fineAll xs = true → piled (PyData.shownAll xs) ≤ costAll xs
  | [], _ => Nat.le_refl 0
  | x :: xs, h => by
    have h' : (fine x && fineAll xs) = true := h
    rw [Bool.and_eq_true] at h'
    have h1 := shown_le x h'.1
    have h2 := shown_leAll xs h'.2
    show piled (PyData.shown x :: PyData.shownAll xs) ≤ cost x + 2 + costAll xs
    rw [piled_cons]
    omega
end
structure DOk (d : PyData) : Prop where
  f : fine d = true
  dp : d.depth ≤ 50
  c : cost d ≤ 1000000
theorem DOk.shaped {d : PyData} (h : DOk d) : SeqAt.shaped d = true := by
  unfold SeqAt.shaped
  rw [(fine_lay d h.f).1]
  exact decide_eq_true (Nat.le_trans h.dp (by decide))
theorem DOk.len {d : PyData} (h : DOk d) : d.shown.length ≤ sizeLine := Nat.le_trans (shown_le d h.f) (Nat.le_trans h.c (by rw [sizeLine_eq]; decide))
mutual
theorem Dp.same {K : PySem.W.Frag} {H H' : Hp} (s : Same H H') : ∀ (d : PyData) (v : V), Dp K H v d → Dp K H' v d
  | .none, _, h => by cases h; exact .non
  | .bool _, _, h => by cases h; exact .bl _
  | .int _, _, h => by cases h; exact .int _
  | .str _, _, h => by cases h; exact .str _
  | .list ds, _, h => by
    cases h with
    | lst h1 h2 => exact .lst (s.seq h1) (Dp.sameAll s ds _ h2)
  | .tuple ds, _, h => by
    cases h with
    | tup h1 h2 => exact .tup (Evl.ex_t s h1) (Dp.sameAll s ds _ h2)
  | .dict _, _, h => by cases h
theorem Dp.sameAll {K : PySem.W.Frag} {H H' : Hp} (s : Same H H') : ∀ (ds : List PyData) (vs : List V), DpAll K H vs ds → DpAll K H' vs ds
  | [], _, h => by cases h; exact .nil
  | d :: ds, _, h => by
    cases h with
    | cons h1 h2 => exact .cons (Dp.same s d _ h1) (Dp.sameAll s ds _ h2)
end
/-- two data that are the same -/
def spAlikeD (K : PySem.W.Frag) : Sp := fun vs H Q _ => ∃ (x y : V) (d : PyData), vs = [x, y] ∧ Dp K H x d ∧ Dp K H y d ∧ DOk d ∧ Q (.bl true) H
theorem fine_int {i : Int} (h : i.natAbs < 10 ^ 60) : fine (.int i) = true := decide_eq_true h
/-- the names as data -/
def okS (c : Str) : Bool := PyData.strOk c && decide (c.cps.size ≤ 20)
theorem menu_okS : ∀ c ∈ menu, okS c = true := by decide +kernel
theorem fine_strs : ∀ {xs : List Str}, (∀ c ∈ xs, okS c = true) → fineAll (xs.map PyData.str) = true
  | [], _ => rfl
  | x :: xs, h => by
    show (fine (.str x) && fineAll (xs.map PyData.str)) = true
    rw [fine_strs fun c hc => h c (List.mem_cons_of_mem _ hc), Bool.and_true]
    exact h x List.mem_cons_self
theorem cost_strs : ∀ (xs : List Str), costAll (xs.map PyData.str) = 212 * xs.length
  | [] => rfl
  | x :: xs => by
    show cost (.str x) + 2 + costAll (xs.map PyData.str) = _
    rw [cost_strs xs, List.length_cons]
    show 210 + 2 + _ = _
    omega
/-- a question as data -/
def dQ (cols : List Str) (e : Str) : PyData := .tuple [.tuple (cols.map PyData.str), .str e]
theorem dp_q {K : PySem.W.Frag} {H : Hp} {q : Addr} {cols : List Str} {e : Str} (h : QAt H q cols e) : Dp K H (.ref q) (dQ cols e) := by
  obtain ⟨c, h1, h2⟩ := h
  exact .tup (SqT.of h1) (.cons (.tup (SqT.of h2) (dp_strs _)) (.cons (.str e) .nil))
structure CalG (P : Program) (w : World) (K : PySem.W.Frag) (mg : Str → Option Value) (base : Heap) (k : Nat) (x : Str) (ps : List Str) (sp : Sp) where
  f : Addr
  fd : FuncData
  G : FnG P w K mg base k f fd ps sp
  m : mg x = some (.ref f)
  kp : PySem.W.keepIn K (.ref f) = true
  b : Binds K fd ps []
end Qk
set_option maxRecDepth 100000
set_option maxHeartbeats 4000000
namespace Qk
open PySem PySem.Spec PyProof.Rows L2
def ltS (a b : Str) : Bool := decide (a.cps.toList < b.cps.toList)
def lexS : List Str → List Str → Bool
  | [], [] => false
  | [], _ :: _ => true
  | _ :: _, [] => false
  | x :: xs, y :: ys => if x = y then lexS xs ys else ltS x y
theorem ltS_irrefl (a : Str) : ltS a a = false := decide_eq_false (List.lt_irrefl _)
theorem ltS_tri {a b : Str} (h : a ≠ b) : ltS a b = true ∨ ltS b a = true := by
  unfold ltS
  by_cases h1 : a.cps.toList < b.cps.toList
  · exact .inl (decide_eq_true h1)
  · by_cases h2 : b.cps.toList < a.cps.toList
    · exact .inr (decide_eq_true h2)
    · exact absurd (str_ext (List.le_antisymm (List.not_lt.mp h2) (List.not_lt.mp h1))) h
theorem ltS_trans {a b c : Str} (h1 : ltS a b = true) (h2 : ltS b c = true) : ltS a c = true := by
  unfold ltS at *
  exact decide_eq_true (List.lt_trans (of_decide_eq_true h1) (of_decide_eq_true h2))
theorem ltS_asym {a b : Str} (h1 : ltS a b = true) : ltS b a = false := by
  cases h2 : ltS b a with
  | false => rfl
  | true =>
    have := ltS_trans h1 h2
    rw [ltS_irrefl] at this
    cases this
theorem lexS_irrefl : ∀ a : List Str, lexS a a = false
  | [] => rfl
  | x :: xs => by
    rw [lexS, if_pos rfl]
    exact lexS_irrefl xs
theorem lexS_tri : ∀ {a b : List Str}, a ≠ b → lexS a b = true ∨ lexS b a = true
  | [], [], h => absurd rfl h
  | [], _ :: _, _ => .inl rfl
  | _ :: _, [], _ => .inr rfl
  | x :: xs, y :: ys, h => by
    rw [lexS, lexS]
    by_cases e : x = y
    · subst e
      rw [if_pos rfl, if_pos rfl]
      exact lexS_tri fun z => h (by rw [z])
    · rw [if_neg e, if_neg (Ne.symm e)]
      exact ltS_tri e
theorem lexS_trans : ∀ {a b c : List Str}, lexS a b = true → lexS b c = true → lexS a c = true
  | [], [], _, h, _ => by cases h
  | [], _ :: _, [], _, h => by cases h
  | [], _ :: _, _ :: _, _, _ => rfl
  | _ :: _, [], _, h, _ => by cases h
  | _ :: _, _ :: _, [], _, h => by cases h
  | x :: xs, y :: ys, z :: zs, h1, h2 => by
    rw [lexS] at h1 h2 ⊢
    by_cases e1 : x = y
    · subst e1
      rw [if_pos rfl] at h1
      by_cases e2 : x = z
      · rw [if_pos e2] at h2 ⊢
        exact lexS_trans h1 h2
      · rw [if_neg e2] at h2 ⊢
        exact h2
    · rw [if_neg e1] at h1
      by_cases e2 : y = z
      · subst e2
        rw [if_neg e1]
        exact h1
      · rw [if_neg e2] at h2
        have h3 := ltS_trans h1 h2
        have e3 : x ≠ z := fun e => by
          subst e
          rw [ltS_asym h1] at h2
          cases h2
        rw [if_neg e3]
        exact h3
theorem lexS_asym {a b : List Str} (h1 : lexS a b = true) : lexS b a = false := by
  cases h2 : lexS b a with
  | false => rfl
  | true =>
    have := lexS_trans h1 h2
    rw [lexS_irrefl] at this
    cases this
abbrev Qd := List Str × Str
def ltQ (p q : Qd) : Bool := if p.1 = q.1 then ltS p.2 q.2 else lexS p.1 q.1
theorem ltQ_irrefl (p : Qd) : ltQ p p = false := by
  unfold ltQ
  rw [if_pos rfl]
  exact ltS_irrefl _
theorem ltQ_tri {p q : Qd} (h : p ≠ q) : ltQ p q = true ∨ ltQ q p = true := by
  unfold ltQ
  by_cases e : p.1 = q.1
  · rw [if_pos e, if_pos e.symm]
    exact ltS_tri fun z => h (Prod.ext e z)
  · rw [if_neg e, if_neg (Ne.symm e)]
    exact lexS_tri e
theorem ltQ_trans {p q r : Qd} (h1 : ltQ p q = true) (h2 : ltQ q r = true) : ltQ p r = true := by
  unfold ltQ at *
  by_cases e1 : p.1 = q.1
  · rw [if_pos e1] at h1
    by_cases e2 : q.1 = r.1
    · rw [if_pos e2] at h2
      rw [if_pos (e1.trans e2)]
      exact ltS_trans h1 h2
    · rw [if_neg e2] at h2
      rw [if_neg (e1 ▸ e2), e1]
      exact h2
  · rw [if_neg e1] at h1
    by_cases e2 : q.1 = r.1
    · rw [if_pos e2] at h2
      rw [if_neg (e2 ▸ e1), ← e2]
      exact h1
    · rw [if_neg e2] at h2
      have h3 := lexS_trans h1 h2
      have e3 : p.1 ≠ r.1 := fun e => by
        rw [e] at h1
        rw [lexS_asym h1] at h2
        cases h2
      rw [if_neg e3]
      exact h3
theorem ltQ_asym {p q : Qd} (h1 : ltQ p q = true) : ltQ q p = false := by
  cases h2 : ltQ q p with
  | false => rfl
  | true =>
    have := ltQ_trans h1 h2
    rw [ltQ_irrefl] at this
    cases this
theorem swo_q {α : Type} (k : α → Qd) : SrtO.Swo fun x y => ltQ (k x) (k y) := by
  refine ⟨fun x y h => ltQ_asym h, fun x y z h1 h2 => ?_⟩
  -- not y < x, not z < y: not z < x
  cases h3 : ltQ (k z) (k x) with
  | false => rfl
  | true =>
    by_cases e : k x = k y
    · rw [e] at h3
      have : ltQ (k z) (k y) = false := h2
      rw [this] at h3
      cases h3
    · rcases ltQ_tri e with h | h
      · have h4 : ltQ (k z) (k y) = true := ltQ_trans h3 h
        rw [h2] at h4
        cases h4
      · have : ltQ (k y) (k x) = false := h1
        rw [this] at h
        cases h
theorem perm_ltQ : ∀ {xs ys : List Qd}, xs.Perm ys → xs.Pairwise (fun a b => ltQ b a = false) → ys.Pairwise (fun a b => ltQ b a = false) → xs = ys
  | [], ys, h, _, _ => List.Perm.nil_eq h
  | x :: xs, [], h, _, _ => absurd h.length_eq (by simp)
  | x :: xs, y :: ys, h, h1, h2 => by
    have e : x = y := by
      rcases List.mem_cons.mp (h.mem_iff.mp List.mem_cons_self) with e | m1
      · exact e
      · rcases List.mem_cons.mp (h.mem_iff.mpr List.mem_cons_self) with e | m2
        · exact e.symm
        · have a1 := (List.pairwise_cons.mp h1).1 y m2
          have a2 := (List.pairwise_cons.mp h2).1 x m1
          by_cases e : x = y
          · exact e
          · rcases ltQ_tri e with h | h
            · rw [a2] at h; cases h
            · rw [a1] at h; cases h
    subst e
    rw [perm_ltQ (List.Perm.cons_inv h) (List.pairwise_cons.mp h1).2 (List.pairwise_cons.mp h2).2]
section
open PySem.SeqAt
open PySem.AutoSeq1 (wpAny_loadPart')
open PySem.MeetsSeq PySem.MeetsSeq2 PySem.MeetsSeq3
theorem eqAt_str (A : Around) (s : Shared) (a : Str) (t : Tok) (c : Str) (u : Tok) : ∃ e, SeqAt.EqAt A s (.str a t) (.str c u) e ∧ (e = true ↔ a = c) :=
  ⟨(a == c), SeqAt.EqAt.str_str a t c u, by simp⟩
theorem rcLt_str (A : Around) (s : Shared) (a : Str) (t : Tok) (c : Str) (u : Tok) (prog : Program) (w : World) (E : Value → Shared → Prop) (Q : Value → Shared → Prop) (h : Q (.bool (ltS a c)) s) :
    wpAny (model prog w) A (richCompare .Lt (.str a t) (.str c u)) Q E s := by
  have z : wpAny (model prog w) A (compareOp .Lt (.str a t) (.str c u)) Q E s := PySem.P.lt_str h
  exact z
theorem tuple_lt_texts (l b : Addr) (us vs : Array Value) (n m : Nat) (d1 d2 : Option Addr) (sl1 sl2 : Array (Option Value)) (xs ys : List Str) (hx : StrsAre us.toList xs) (hy : StrsAre vs.toList ys) :
    Meets (Builtin.«tuple.__lt__» ⟨[.ref l, .ref b], []⟩)
      (fun _ R s => s.heap.get? l = some { cls := .type "tuple", dict := d1, data := .seq us n, slots := sl1 } ∧ s.heap.get? b = some { cls := .type "tuple", dict := d2, data := .seq vs m, slots := sl2 } ∧
        R (.ok (.ret (.bool (lexS xs ys)))) s) :=
  .of_wp fun prog w A R s h => by
    obtain ⟨hp, g, d, tk, os⟩ := s; obtain ⟨hl, hb, h⟩ := h
    have f2 := AutoSeq1.sub_tuple_tuple
    have z1 : us.size = xs.length := by rw [← hx.length]; simp
    have z2 : vs.size = ys.length := by rw [← hy.length]; simp
    wp_walk using wpAny_loadPart' hl, wpAny_loadPart' hb, wpAny_forIn_list _ (fun rest b s' => b.1 = none ∧ s' = ⟨hp, g, d, tk, os⟩ ∧ ∃ (as bs : List Value) (x' y' : List Str), rest = as.zip bs ∧
      StrsAre as x' ∧ StrsAre bs y' ∧ x'.length + vs.size = y'.length + us.size ∧ R (.ok (.ret (.bool (lexS x' y')))) ⟨hp, g, d, tk, os⟩) _
    case turn =>
      rintro ⟨u, v⟩ rest b s' ⟨hb', rfl, as, bs, x', y', hz, ha, hc, hlen, hR⟩
      cases ha with
      | nil => rw [List.zip_nil_left] at hz; cases hz
      | cons a t ha' =>
        cases hc with
        | nil => rw [List.zip_nil_right] at hz; cases hz
        | cons c t2 hc' =>
          rw [List.zip_cons_cons] at hz
          injection hz with e1 hrest
          injection e1 with eu ev
          subst eu ev
          rw [lexS] at hR
          simp only [List.length_cons] at hlen
          obtain ⟨e, he, hiff⟩ := eqAt_str A.in1 ⟨hp, g, d, tk, os⟩ a t c t2
          refine wpAny_bind (he prog w _ _ ?_)
          cases e with
          | true =>
            rw [if_pos (hiff.mp rfl)] at hR
            wp_walk
            exact ⟨rfl, rfl, _, _, _, _, hrest, ha', hc', by omega, hR⟩
          | false =>
            rw [if_neg (fun q => absurd (hiff.mpr q) Bool.false_ne_true)] at hR
            have hri := rcLt_str A.in1 ⟨hp, g, d, tk, os⟩ a t c t2 prog w
            wp_walk using hri
            exact ⟨_, rfl, by simpa using hR⟩
    case fin =>
      rintro ⟨b1, b2⟩ s' ⟨hb', rfl, as, bs, x', y', hz, ha, hc, hlen, hR⟩
      simp only at hb'
      subst hb'
      have hv : lexS x' y' = decide (us.size < vs.size) := by
        cases ha with
        | nil =>
          cases hc with
          | nil =>
            simp only [List.length_nil] at hlen
            exact (decide_eq_false (by omega)).symm
          | cons c u hw =>
            simp only [List.length_nil, List.length_cons] at hlen
            exact (decide_eq_true (by omega)).symm
        | cons a t hv =>
          cases hc with
          | nil =>
            simp only [List.length_nil, List.length_cons] at hlen
            exact (decide_eq_false (by omega)).symm
          | cons c u hw =>
            rw [List.zip_cons_cons] at hz
            cases hz
      rw [hv] at hR
      wp_walk
      exact ⟨_, rfl, by simpa [Builtin.Tuple.tupleCompareSizes] using hR⟩
    case h =>
      exact ⟨rfl, rfl, us.toList, vs.toList, xs, ys, rfl, hx, hy, by omega, h⟩
theorem lt_tupTexts {prog : Program} {w : World} {A : Around} {E : Value → Shared → Prop} {s : Shared} {l b : Addr} {us vs : Array Value} {xs ys : List Str} {Q : Value → Shared → Prop} (hl : IsTup s.heap l us) (hb : IsTup s.heap b vs)
    (hx : StrsAre us.toList xs) (hy : StrsAre vs.toList ys) (hu : A.units < cLine) (h : Q (.bool (lexS xs ys)) s) : wpAny (model prog w) A (compareOp .Lt (.ref l) (.ref b)) Q E s := by
  obtain ⟨⟨c1, d1, e1, sl1⟩, ho, hc, n, hd⟩ := id hl
  obtain ⟨⟨c2, d2, e2, sl2⟩, ho2, hc2, m, hd2⟩ := id hb
  simp only at hc hd hc2 hd2
  subst hc hd hc2 hd2
  exact richCompare_meets_room (op := .Lt) ⟨_, ho, rfl⟩ ⟨_, ho2, rfl⟩ PySem.F.slot_tuple_lt PySem.F.entry_tuple_lt (PySem.F.args_tuple_lt_2 _ _) (tuple_lt_texts l b us vs n m d1 d2 sl1 sl2 xs ys hx hy)
    ⟨ho, ho2, show Value.bool (lexS xs ys) ≠ Value.notImplemented ∧ Q (.bool (lexS xs ys)) s from ⟨(fun x => nomatch x), h⟩⟩ hu
end
/-- v is a question in the heap -/
def IsQ (h : Heap) (v : Value) (q : Qd) : Prop := ∃ (a c : Addr) (o oc : Obj) (t : Tok) (us : List Value) (n m : Nat), v = .ref a ∧ h.get? a = some o ∧ o.cls = .type "tuple" ∧ o.data = .seq #[.ref c, .str q.2 t] n ∧
  h.get? c = some oc ∧ oc.cls = .type "tuple" ∧ oc.data = .seq us.toArray m ∧ StrsAre us q.1
theorem IsQ.keeps {h h' : Heap} {v : Value} {q : Qd} (x : IsQ h v q) (k : ∀ b o, h.get? b = some o → o.cls = .type "tuple" → h'.get? b = some o) : IsQ h' v q := by
  obtain ⟨a, c, o, oc, t, us, n, m, e, ho, hc, hd, hoc, hcc, hdc, hs⟩ := x
  exact ⟨a, c, o, oc, t, us, n, m, e, k _ _ ho hc, hc, hd, k _ _ hoc hcc, hcc, hdc, hs⟩
section
variable {prog : Program} {w : World} {A : Around} {E : Value → Shared → Prop} {s : Shared}
theorem reads_strs {h : Heap} : ∀ {us : List Value} {xs : List Str}, StrsAre us xs → ∃ as, ReadsAll h us (xs.map PyData.str) as
  | _, _, .nil => ⟨_, ReadsAll.nil⟩
  | _, _, .cons x t r => by
    obtain ⟨as, q⟩ := reads_strs (h := h) r
    exact ⟨_, ReadsAll.cons (Reads.str x t) q⟩
theorem q_cmp {vs : List Value} {k : Value → Qd} (hu : A.units + 64 < cLine) (hm : ∀ v ∈ vs, ∀ c ∈ (k v).1, PyData.strOk c = true) (hp : ∀ v ∈ vs, IsQ s.heap v (k v)) : SrtO.Cmp prog w A s (tuples' false) (fun p => p.1 ∈ vs) (SrtO.lt2 fun v u => ltQ (k v) (k u)) := by
  intro p q hm1 hm2
  have h1 := hp _ hm1
  have h2 := hp _ hm2
  have m1 := hm _ hm1
  have m2 := hm _ hm2
  show wpAny (model prog w) A (keyLt' (tuples' false) p.1 q.1) (fun r s' => s' = s ∧ r = ltQ (k p.1) (k q.1)) (fun _ _ => False) s
  generalize k p.1 = x at h1 m1 ⊢
  generalize k q.1 = y at h2 m2 ⊢
  obtain ⟨xc, xe⟩ := x
  obtain ⟨yc, ye⟩ := y
  obtain ⟨a, c, o, oc, t, us, n, m, e, ho, hc, hd, hoc, hcc, hdc, hs⟩ := h1
  obtain ⟨a', c', o', oc', t', us', n', m', e', ho', hc', hd', hoc', hcc', hdc', hs'⟩ := h2
  rw [e, e']
  refine PySem.W.kat_lt ho hd ho' hd' ?_
  show PySem.W.KatLex prog w A false (decide (2 < 2)) _ [(.ref c, .ref c'), (.str xe t, .str ye t')] 0 s
  obtain ⟨as, r1⟩ := reads_strs (h := s.heap) hs
  obtain ⟨bs, r2⟩ := reads_strs (h := s.heap) hs'
  have rd1 : Reads s.heap (.ref c) (.tuple (xc.map PyData.str)) as := Reads.tuple hoc hcc hdc (by simpa using r1)
  have rd2 : Reads s.heap (.ref c') (.tuple (yc.map PyData.str)) bs := Reads.tuple hoc' hcc' hdc' (by simpa using r2)
  have l1 : (PyData.tuple (xc.map PyData.str)).canLay0 = true := lay_strs m1
  have l2 : (PyData.tuple (yc.map PyData.str)).canLay0 = true := lay_strs m2
  refine PySem.W.kat_cons (SeqAt.eqBoolOverData prog w A _ s _ _ _ _ as bs _ rd1 rd2 l1 l2 ?_ ?_)
  · have : (PyData.tuple (xc.map PyData.str)).depth = 1 := by
      show PyData.depthAll _ + 1 = 1
      rw [depth_strs]
    omega
  rw [PyData.eqv, eqv_strs]
  by_cases ex : xc = yc
  · rw [decide_eq_true ex]
    refine PySem.W.kat_yes (PySem.W.kat_cons (SeqAt.EqAt.str_str xe t ye t' prog w _ _ ?_))
    by_cases ey : xe = ye
    · have e3 : ltQ (xc, xe) (yc, ye) = false := by rw [ex, ey]; exact ltQ_irrefl _
      have e4 : (xe == ye) = true := beq_iff_eq.mpr ey
      rw [e4]
      exact PySem.W.kat_yes (PySem.W.kat_nil ⟨rfl, e3.symm⟩)
    · have e3 : ltQ (xc, xe) (yc, ye) = ltS xe ye := if_pos ex
      have e4 : (xe == ye) = false := beq_eq_false_iff_ne.mpr ey
      rw [e4]
      refine PySem.W.kat_no (PySem.W.kat_one _ _ (rcLt_str A s xe t ye t' prog w _ _ ?_))
      exact (show s = s ∧ ltS xe ye = ltQ (xc, xe) (yc, ye) from ⟨rfl, e3.symm⟩)
  · rw [decide_eq_false ex]
    have e3 : ltQ (xc, xe) (yc, ye) = lexS xc yc := if_neg ex
    refine PySem.W.kat_no (PySem.W.kat_one _ _ (lt_tupTexts (us := us.toArray) (vs := us'.toArray) ⟨oc, hoc, hcc, m, hdc⟩ ⟨oc', hoc', hcc', m', hdc'⟩ (by simpa using hs) (by simpa using hs') (by omega) ?_))
    exact (show s = s ∧ lexS xc yc = ltQ (xc, xe) (yc, ye) from ⟨rfl, e3.symm⟩)
theorem q_firsts {h : Heap} : ∀ {vs : List Value} {k : Value → Qd}, (∀ v ∈ vs, IsQ h v (k v)) → ∃ fs : List Value, PySem.W.KatTups h vs fs ∧ fs.length = vs.length ∧ ∀ f ∈ fs, ∃ c oc, f = Value.ref c ∧ h.get? c = some oc ∧ oc.cls = .type "tuple"
  | [], _, _ => ⟨[], PySem.W.KatTups.nil, rfl, fun _ hm => by simp at hm⟩
  | v :: vs, k, hp => by
    obtain ⟨fs, h1, h2, h3⟩ := q_firsts (vs := vs) (k := k) fun v' hm => hp v' (List.mem_cons_of_mem _ hm)
    obtain ⟨a, c, o, oc, t, us, n, m, e, ho, hc, hd, hoc, hcc, hdc, hs⟩ := hp v List.mem_cons_self
    subst e
    refine ⟨.ref c :: fs, PySem.W.KatTups.cons ho hc hd rfl h1, by rw [List.length_cons, List.length_cons, h2], fun f hm => ?_⟩
    rcases List.mem_cons.mp hm with rfl | hm
    · exact ⟨c, oc, rfl, hoc, hcc⟩
    · exact h3 f hm
theorem q_sortable {a : Addr} {vs : List Value} {k : Value → Qd} (hu : A.units + 64 < cLine) (h0 : 0 < vs.length) (hm : ∀ v ∈ vs, ∀ c ∈ (k v).1, PyData.strOk c = true) (hp : ∀ v ∈ vs, IsQ s.heap v (k v)) (ha : ∀ o, s.heap.get? a = some o → o.cls ≠ .type "tuple") :
    SrtO.SortableO prog w A s a vs fun v u => ltQ (k v) (k u) := by
  intro h' keep
  have hp' : ∀ v ∈ vs, IsQ h' v (k v) := fun v hm => (hp v hm).keeps fun b o e c => keep b o (fun z => by subst z; exact ha o e c) e
  obtain ⟨fs, h1, h2, h3⟩ := q_firsts hp'
  refine ⟨tuples' false, fun Q E hq => ?_, q_cmp hu hm hp'⟩
  refine PySem.W.kat_kind (T := .type "tuple") h1 (by omega) (fun f hf => ?_) (by rfl) ?_
  · obtain ⟨c, oc, rfl, hoc, hcc⟩ := h3 f hf
    rw [← hcc]
    exact (PySem.W.Looks.ld hoc).andThen PySem.W.Looks.now
  · have e : (Value.type "tuple" != Value.type "tuple") = false := by first | decide +kernel | rfl | decide
    rw [e]
    exact hq
end
end Qk
set_option maxRecDepth 100000
set_option maxHeartbeats 4000000
set_option maxRecDepth 100000
set_option maxHeartbeats 4000000
namespace Qk
open PySem PySem.Spec PyProof.Rows L2
instance (a b : Str) : Decidable (leS a b) := by unfold leS; infer_instance
def srt (xs : List Str) : List Str := xs.mergeSort (fun a b => decide (leS a b))
theorem leS_total (a b : Str) : leS a b ∨ leS b a := by
  unfold leS
  rw [ltCps_eq, ltCps_eq]
  by_cases h : b.cps.toList < a.cps.toList
  · right
    refine decide_eq_false fun h2 => List.lt_irrefl _ (List.lt_trans h h2)
  · left
    exact decide_eq_false h
theorem srt_perm (xs : List Str) : (srt xs).Perm xs := List.mergeSort_perm _ _
theorem srt_pw (xs : List Str) : (srt xs).Pairwise leS := by
  have h := List.pairwise_mergeSort (le := fun a b => decide (leS a b)) (fun a b c h1 h2 => decide_eq_true (leS_trans (of_decide_eq_true h1) (of_decide_eq_true h2)))
    (fun a b => by
      rcases leS_total a b with h | h
      · simp [h]
      · simp [h]) xs
  exact h.imp fun h => of_decide_eq_true h
theorem srt_eq {ws xs : List Str} (h : ws.Perm xs) (hs : sortedS ws = true) : ws = srt xs := perm_sorted (h.trans (srt_perm xs).symm) (sortedS_pw hs) (srt_pw xs)
theorem srt_len (xs : List Str) : (srt xs).length = xs.length := (srt_perm xs).length_eq
def QL (H : Hp) (xs : List V) (qs : List Qd) : Prop := Paired (fun (x : V) (q : Qd) => ∃ t, x = .ref t ∧ QAt H t q.1 q.2) xs qs
theorem QL.len {H : Hp} {xs : List V} {qs : List Qd} (h : QL H xs qs) : xs.length = qs.length := Paired.length h
theorem QL.same {H H' : Hp} {xs : List V} {qs : List Qd} (s : Same H H') (h : QL H xs qs) : QL H' xs qs := Paired.mapP h fun x q ⟨t, e, z⟩ => ⟨t, e, z.same s⟩
theorem QL.kp {H H' : Hp} {b l : Addr} {xs : List V} {qs : List Qd} (B : Bag H b l) (s : Kp b H H') (h : QL H xs qs) : QL H' xs qs := Paired.mapP h fun x q ⟨t, e, z⟩ => ⟨t, e, z.kp B s⟩
theorem paired_app {α β : Type} {F : α → β → Prop} : ∀ {xs xs' : List α} {ys ys' : List β}, Paired F xs ys → Paired F xs' ys' → Paired F (xs ++ xs') (ys ++ ys')
  | _, _, _, _, .nil, h => h
  | _, _, _, _, .cons r t, h => .cons r (paired_app t h)
theorem QAt.uniq {H : Hp} {t : Addr} {c1 c2 : List Str} {e1 e2 : Str} (h1 : QAt H t c1 e1) (h2 : QAt H t c2 e2) : (c1, e1) = (c2, e2) := by
  obtain ⟨a, x1, x2⟩ := h1
  obtain ⟨b, y1, y2⟩ := h2
  rw [x1] at y1
  injection y1 with y1
  injection y1 with y1
  injection y1 with y1 y3
  injection y3 with y3 _
  injection y1 with y1
  injection y3 with y3
  subst y1
  rw [x2] at y2
  injection y2 with y2
  injection y2 with y2
  have : c1 = c2 := by
    have inj : ∀ {l m : List Str}, l.map V.str = m.map V.str → l = m := fun {l m} h => by
      induction l generalizing m with
      | nil => cases m with
        | nil => rfl
        | cons _ _ => cases h
      | cons x l ih => cases m with
        | nil => cases h
        | cons y m =>
          rw [List.map_cons, List.map_cons] at h
          injection h with h h'
          injection h with h
          rw [h, ih h']
    exact inj y2
  rw [this, y3]
theorem QL.mem {H : Hp} : ∀ {xs : List V} {qs : List Qd}, QL H xs qs → ∀ x ∈ xs, ∃ (t : Addr) (q : Qd), x = V.ref t ∧ QAt H t q.1 q.2 ∧ q ∈ qs
  | _, _, .nil, x, hx => by cases hx
  | _, _, .cons ⟨t, e, z⟩ r, x, hx => by
    rcases List.mem_cons.mp hx with rfl | hx
    · exact ⟨t, _, e, z, List.mem_cons_self⟩
    · obtain ⟨t', q', a, b, c⟩ := QL.mem r x hx
      exact ⟨t', q', a, b, List.mem_cons_of_mem _ c⟩
/-- no question stands behind a greater one -/
def rising (qs : List Qd) : Prop := qs.Pairwise (fun a b => ltQ b a = false)
def dq (q : Qd) : PyData := dQ q.1 q.2
theorem QL.dp {K : PySem.W.Frag} {H : Hp} : ∀ {xs : List V} {qs : List Qd}, QL H xs qs → DpAll K H xs (qs.map dq)
  | _, _, .nil => .nil
  | _, _, .cons ⟨t, e, z⟩ r => by
    subst e
    exact .cons (dp_q z) (QL.dp r)
structure Qfine (q : Qd) : Prop where
  c : ∀ c ∈ q.1, okS c = true
  e : okS q.2 = true
  l : q.1.length ≤ 12
theorem okS_empty : okS "" = true := by decide +kernel
theorem fine_q {q : Qd} (h : Qfine q) : fine (dq q) = true := by
  show (fine (.tuple (q.1.map PyData.str)) && (fine (.str q.2) && true)) = true
  rw [Bool.and_true, Bool.and_eq_true]
  exact ⟨fine_strs h.c, h.e⟩
theorem cost_q {q : Qd} (h : Qfine q) : cost (dq q) ≤ 3000 := by
  have hl := h.l
  show costAll (q.1.map PyData.str) + 3 + 2 + (210 + 2 + 0) + 3 ≤ 3000
  rw [cost_strs]
  omega
theorem depth_q (q : Qd) : (dq q).depth = 2 := by
  show max (PyData.depthAll (q.1.map PyData.str) + 1) (max 0 0) + 1 = 2
  rw [depth_strs]
  rfl
theorem fine_qs : ∀ {qs : List Qd}, (∀ q ∈ qs, Qfine q) → fineAll (qs.map dq) = true
  | [], _ => rfl
  | q :: qs, h => by
    show (fine (dq q) && fineAll (qs.map dq)) = true
    rw [fine_qs fun q hq => h q (List.mem_cons_of_mem _ hq), Bool.and_true]
    exact fine_q (h q List.mem_cons_self)
theorem cost_qs : ∀ {qs : List Qd}, (∀ q ∈ qs, Qfine q) → costAll (qs.map dq) ≤ 3002 * qs.length
  | [], _ => Nat.le_refl 0
  | q :: qs, h => by
    have h1 := cost_q (h q List.mem_cons_self)
    have h2 := cost_qs fun q hq => h q (List.mem_cons_of_mem _ hq)
    show cost (dq q) + 2 + costAll (qs.map dq) ≤ _
    rw [List.length_cons]
    omega
theorem depth_qs : ∀ (qs : List Qd), PyData.depthAll (qs.map dq) ≤ 2
  | [] => Nat.zero_le _
  | q :: qs => by
    show max (dq q).depth (PyData.depthAll (qs.map dq)) ≤ 2
    rw [depth_q]
    exact Nat.max_le.mpr ⟨Nat.le_refl 2, depth_qs qs⟩
theorem dok_q {q : Qd} (h : Qfine q) : DOk (dq q) := ⟨fine_q h, by rw [depth_q]; decide, Nat.le_trans (cost_q h) (by decide)⟩
theorem dok_qs {qs : List Qd} (h : ∀ q ∈ qs, Qfine q) (hl : qs.length ≤ 100) : DOk (.list (qs.map dq)) :=
  ⟨fine_qs h, by show PyData.depthAll _ + 1 ≤ 50; have := depth_qs qs; omega, by show costAll _ + 3 ≤ _; have := cost_qs h; omega⟩
theorem eqv_q (p q : Qd) : PyData.eqv (dq p) (dq q) = decide (p = q) := by
  show PyData.eqv (.tuple [.tuple (p.1.map PyData.str), .str p.2]) (.tuple [.tuple (q.1.map PyData.str), .str q.2]) = _
  have e0 : PyData.eqv (.tuple (p.1.map PyData.str)) (.tuple (q.1.map PyData.str)) = decide (p.1 = q.1) := by rw [PyData.eqv, eqv_strs]
  rw [PyData.eqv, PyData.eqvAll, PyData.eqvAll, PyData.eqvAll, e0, PyData.eqv, Bool.and_true]
  by_cases h1 : p.1 = q.1
  · by_cases h2 : p.2 = q.2
    · rw [decide_eq_true h1, decide_eq_true (Prod.ext h1 h2), h2, beq_self_eq_true]
      rfl
    · rw [decide_eq_true h1, decide_eq_false (fun e => h2 (by rw [e]))]
      rw [beq_eq_false_iff_ne.mpr h2]
      rfl
  · rw [decide_eq_false h1, decide_eq_false (fun e => h1 (by rw [e]))]
    rfl
theorem any_q (q : Qd) (qs : List Qd) : ((qs.map dq).any fun z => PyData.eqv z (dq q)) = decide (q ∈ qs) := by
  rw [List.any_map]
  by_cases h : q ∈ qs
  · rw [decide_eq_true h]
    exact List.any_eq_true.mpr ⟨q, h, by show PyData.eqv (dq q) (dq q) = true; rw [eqv_q]; exact decide_eq_true rfl⟩
  · rw [decide_eq_false h]
    refine List.any_eq_false.mpr fun y hy e => h ?_
    have e' : PyData.eqv (dq y) (dq q) = true := e
    rw [eqv_q] at e'
    rw [← of_decide_eq_true e']
    exact hy
theorem QM.fine {cols : List Str} {e : Str} (h : QM cols e) : Qfine (cols, e) :=
  ⟨fun c hc => menu_okS _ (h.sub c hc), by rcases h.esub with z | z
                                           · show okS e = true
                                             rw [z]
                                             exact okS_empty
                                           · exact menu_okS _ z, h.le⟩
end Qk
set_option maxRecDepth 100000
set_option maxHeartbeats 4000000
namespace Qk
open PySem PySem.Spec PyProof.Rows L2
def SetX (P : Program) (w : World) (a : Addr) (S : Str → Bool) (n : Nat) : HO := .ext fun h => TSet P w h a S n
end Qk
set_option maxRecDepth 100000
set_option maxHeartbeats 4000000
set_option maxRecDepth 100000
set_option maxHeartbeats 4000000
namespace Qk
open PySem PySem.Spec PyProof.Rows L2
/-- the slots met by so many steps from x, as bits -/
def orbit (m : Nat) : Nat → Nat → Nat → Nat
  | 0, _, acc => acc
  | f + 1, x, acc => orbit m f ((x * 5 + 1) % (m + 1)) (acc ||| 2 ^ x)
theorem orbit_bit (m j : Nat) : ∀ f k acc, (orbit m f (lcgN m k) acc).testBit j = true → acc.testBit j = true ∨ ∃ b, b < k + f ∧ lcgN m b = j
  | 0, k, acc, h => .inl h
  | f + 1, k, acc, h => by
    rcases orbit_bit m j f (k + 1) (acc ||| 2 ^ lcgN m k) h with g | ⟨b, hb, e⟩
    · rw [Nat.testBit_or, Nat.testBit_two_pow] at g
      cases ha : acc.testBit j with
      | true => exact .inl rfl
      | false =>
        rw [ha, Bool.false_or, decide_eq_true_eq] at g
        exact .inr ⟨k, by omega, g⟩
    · exact .inr ⟨b, by omega, e⟩
def goF (m : Nat) : Nat → Nat → Nat
  | 0, x => x
  | f + 1, x => goF m f ((x * 5 + 1) % (m + 1))
theorem goF_eq (m : Nat) : ∀ f k, goF m f (lcgN m k) = lcgN m (k + f)
  | 0, _ => rfl
  | f + 1, k => by
    rw [show k + (f + 1) = k + 1 + f by omega]
    exact goF_eq m f (k + 1)
/-- each slot is met in a round -/
structure MaskB (m : Nat) : Prop where
  all : ∀ j, j ≤ m → ∃ b, b ≤ m ∧ lcgN m b = j
  rnd : lcgN m (m + 1) = 0
  is_ : m = 7 ∨ m = 31 ∨ m = 127 ∨ m = 511
theorem maskB_of {m : Nat} (h1 : orbit m (m + 1) 0 0 = 2 ^ (m + 1) - 1) (h2 : goF m (m + 1) 0 = 0) (h3 : m = 7 ∨ m = 31 ∨ m = 127 ∨ m = 511) : MaskB m := by
  refine ⟨fun j hj => ?_, ?_, h3⟩
  · have e : (orbit m (m + 1) (lcgN m 0) 0).testBit j = true := by
      show (orbit m (m + 1) 0 0).testBit j = true
      rw [h1, Nat.testBit_two_pow_sub_one]
      exact decide_eq_true (Nat.lt_succ_of_le hj)
    rcases orbit_bit m j (m + 1) 0 0 e with g | ⟨b, hb, e⟩
    · rw [Nat.zero_testBit] at g
      cases g
    · exact ⟨b, by omega, e⟩
  · have e := goF_eq m (m + 1) 0
    rw [Nat.zero_add] at e
    rw [← e]
    exact h2
theorem mb7 : MaskB 7 := maskB_of (by decide +kernel) (by decide +kernel) (by decide)
theorem mb31 : MaskB 31 := maskB_of (by decide +kernel) (by decide +kernel) (by decide)
theorem mb127 : MaskB 127 := maskB_of (by decide +kernel) (by decide +kernel) (by decide)
theorem mb511 : MaskB 511 := maskB_of (by decide +kernel) (by decide +kernel) (by decide)
theorem MaskB.odd {m : Nat} (hm : MaskB m) : m % 2 = 1 := by
  rcases hm.is_ with e | e | e | e <;> rw [e]
theorem MaskB.top {m : Nat} (hm : MaskB m) : m ≤ 511 := by
  rcases hm.is_ with e | e | e | e <;> omega
theorem MaskB.again {m : Nat} (hm : MaskB m) : ∀ k, lcgN m (m + 1 + k) = lcgN m k
  | 0 => hm.rnd
  | k + 1 => by
    have ih := hm.again k
    show (lcgN m (m + 1 + k) * 5 + 1) % (m + 1) = _
    rw [ih]
    rfl
theorem MaskB.to {m i j : Nat} (hm : MaskB m) (hi : i ≤ m) (hj : j ≤ m) : ∃ k, k ≤ m ∧ lcgI m i k = j := by
  obtain ⟨a, a1, rfl⟩ := hm.all i hi
  obtain ⟨b, b1, rfl⟩ := hm.all j hj
  by_cases c : a ≤ b
  · exact ⟨b - a, by omega, by rw [lcgN_add, show a + (b - a) = b by omega]⟩
  · exact ⟨m + 1 + b - a, by omega, by rw [lcgN_add, show a + (m + 1 + b - a) = m + 1 + b by omega, hm.again]⟩
theorem MaskB.meets {m : Nat} (hm : MaskB m) (h : Int) {j : Nat} (hj : j ≤ m) : ∃ n, n ≤ m + 12 ∧ runI m (SetTable.bits h) n = j := by
  obtain ⟨k, k1, k2⟩ := hm.to (runI_le m (SetTable.bits h) 12) hj
  refine ⟨12 + k, by omega, ?_⟩
  rw [runI_tail (bits_lt h), k2]
theorem way_in (m : Nat) (h : Int) (k : Nat) : way m h k ≤ m := by
  have r := runEnd_bd (show SetTable.bits h % (m + 1) ≤ m from Nat.le_of_lt_succ (Nat.mod_lt _ (Nat.succ_pos m)))
  have q := nth_in (m := m) k (runAt m (SetTable.bits h % (m + 1)) (SetTable.bits h))
    (show SetTable.bits h % (m + 1) + (SetTable.runEnd m (SetTable.bits h % (m + 1)) - SetTable.bits h % (m + 1)) ≤ m by omega)
  exact Nat.le_trans (Nat.le_add_right _ _) q
theorem MaskB.way_to {m : Nat} (hm : MaskB m) (h : Int) {j : Nat} (hj : j ≤ m) : ∃ n, n ≤ m + 12 ∧ way m h (off m (SetTable.bits h % (m + 1)) (SetTable.bits h) n) = j := by
  obtain ⟨n, n1, n2⟩ := hm.meets h hj
  refine ⟨n, n1, ?_⟩
  unfold way
  rw [nth_off, itL_run, n2]
  rfl
theorem off_le (m : Nat) : ∀ (n i b : Nat), i ≤ m → off m i b n ≤ 10 * n
  | 0, _, _, _ => Nat.le_refl _
  | n + 1, i, b, hi => by
    have r := runEnd_bd hi
    have ih := off_le m n (SetTable.leap m i b).1 (SetTable.leap m i b).2 (leap_le m i b)
    show SetTable.runEnd m i - i + 1 + off m (SetTable.leap m i b).1 (SetTable.leap m i b).2 n ≤ _
    omega
/-- on h's way, j comes behind places of ps alone -/
def OnWay (m : Nat) (ps : List Nat) (h : Int) (j : Nat) : Prop := ∃ k, way m h k = j ∧ ∀ c, c < k → way m h c ∈ ps
structure TabB (t : SetTable) (hs : List Int) : Prop where
  up : Ris t.place.toList
  noD : t.dummies = #[]
  many : t.place.toList.length = hs.length
  mB : MaskB t.mask
  in_ : ∀ x ∈ t.place.toList, x ≤ t.mask
  onW : ∀ (i : Nat) (h : Int) (j : Nat), hs[i]? = some h → t.place.toList[i]? = some j → OnWay t.mask t.place.toList h j
theorem TabB.sz {t : SetTable} {hs : List Int} (T : TabB t hs) : t.place.size = hs.length := by
  rw [← Array.length_toList]
  exact T.many
theorem TabB.stop {t : SetTable} {hs : List Int} (T : TabB t hs) (hl : hs.length ≤ t.mask) (h : Int) :
    ∃ K, K < 10 * SetTable.turns t.mask ∧ way t.mask h K ∉ t.place.toList ∧ ∀ k, k < K → way t.mask h k ∈ t.place.toList := by
  obtain ⟨j, j1, j2⟩ := st_missing t.place.toList (t.mask + 1) (by rw [T.many]; omega)
  obtain ⟨n, n1, n2⟩ := T.mB.way_to h (Nat.le_of_lt_succ j1)
  have ob := off_le t.mask n (SetTable.bits h % (t.mask + 1)) (SetTable.bits h) (Nat.le_of_lt_succ (Nat.mod_lt _ (Nat.succ_pos t.mask)))
  obtain ⟨K, K1, K2, K3⟩ := st_least (p := fun k => way t.mask h k ∉ t.place.toList) _ (n2 ▸ j2)
  refine ⟨K, ?_, K2, fun k hk => Classical.byContradiction fun q => K3 k hk q⟩
  unfold SetTable.turns
  omega
theorem TabB.ahead {t : SetTable} {hs : List Int} (T : TabB t hs) {h : Int} {K i j : Nat} (hK : way t.mask h K ∉ t.place.toList) (hi : hs[i]? = some h) (hj : t.place.toList[i]? = some j) :
    ∃ k, k < K ∧ way t.mask h k = j := by
  obtain ⟨k, e, b⟩ := T.onW i h j hi hj
  refine ⟨k, Nat.lt_of_not_le fun c => hK ?_, e⟩
  rcases Nat.lt_or_eq_of_le c with c | c
  · exact b K c
  · rw [c, e]
    exact List.mem_of_getElem? hj
theorem OnWay.more {m : Nat} {ps ps' : List Nat} {h : Int} {j : Nat} (W : OnWay m ps h j) (hp : ∀ x ∈ ps, x ∈ ps') : OnWay m ps' h j := by
  obtain ⟨k, e, b⟩ := W
  exact ⟨k, e, fun c hc => hp _ (b c hc)⟩
/-- one is put in -/
theorem TabB.add {t : SetTable} {hs : List Int} (T : TabB t hs) {h : Int} {K : Nat} (hK : way t.mask h K ∉ t.place.toList) (hb : ∀ k, k < K → way t.mask h k ∈ t.place.toList) :
    SetTable.below t.place (way t.mask h K) ≤ hs.length ∧
      TabB (t.put (way t.mask h K)).1 (hs.take (SetTable.below t.place (way t.mask h K)) ++ h :: hs.drop (SetTable.below t.place (way t.mask h K))) ∧
      (t.put (way t.mask h K)).1.fill = hs.length + 1 := by
  have wl := way_in t.mask h K
  have W0 : OnWay t.mask t.place.toList h (way t.mask h K) := ⟨K, rfl, hb⟩
  generalize way t.mask h K = j at hK wl W0
  have c1 := (below_cut T.up j).1
  have cl : SetTable.below t.place j ≤ t.place.toList.length := c1
  have pp := put_place t j
  have fresh : t.place[SetTable.below t.place j]? ≠ some j := fun e => hK (List.mem_of_getElem? (show t.place.toList[SetTable.below t.place j]? = some j by rw [Array.getElem?_toList, e]))
  have hl : SetTable.below t.place j ≤ hs.length := by rw [← T.many]; exact cl
  have all : ∀ x ∈ t.place.toList, x ∈ (t.put j).1.place.toList := fun x hx => by rw [pp]; exact mem_ins.mpr (.inr hx)
  have ln : (t.put j).1.place.toList.length = hs.length + 1 := by rw [pp, len_ins _ cl, T.many]
  refine ⟨hl, ⟨ris_insert T.up fresh, put_dm T.noD j, ln.trans (len_ins _ hl h).symm, T.mB, fun x hx => ?_, fun i g k e1 e2 => ?_⟩, ?_⟩
  · rw [pp] at hx
    exact (mem_ins.mp hx).elim (fun e => e ▸ wl) (T.in_ x)
  · rw [pp, tins_get _ cl] at e2
    rw [tins_get _ hl] at e1
    show OnWay t.mask _ g k
    split at e1
    · rename_i q
      rw [if_pos q] at e2
      exact (T.onW i g k e1 e2).more all
    · rename_i q
      rw [if_neg q] at e2
      split at e1
      · rename_i q2
        rw [if_pos q2] at e2
        cases e1
        cases e2
        exact W0.more all
      · rename_i q2
        rw [if_neg q2] at e2
        exact (T.onW (i - 1) g k e1 e2).more all
  · unfold SetTable.fill
    rw [put_dm T.noD j, ← Array.length_toList, ln]
    rfl
theorem MaskB.free {m : Nat} (hm : MaskB m) (owner : Array (Option Nat)) (h : Int) {j : Nat} (hj : j ≤ m) (hf : oAt owner j = none) :
    ∃ K, SetTable.layClean.free m owner (SetTable.turns m) (SetTable.bits h % (m + 1)) (SetTable.bits h) = some (way m h K) ∧ oAt owner (way m h K) = none ∧ ∀ k, k < K → oAt owner (way m h k) ≠ none := by
  obtain ⟨n, n1, n2⟩ := hm.way_to h hj
  obtain ⟨K, K1, K2, K3⟩ := st_least (p := fun k => oAt owner (way m h k) = none) _ (by rw [← n2] at hf; exact hf)
  refine ⟨K, free_spec m owner _ n _ _ K (by unfold SetTable.turns; omega) K1 (fun k hk => ?_) (by rw [show oAt owner (nth m (runAt m _ _) K).j = none from K2]; rfl), K2, K3⟩
  cases e : oAt owner (way m h k) with
  | none => exact absurd e (K3 k hk)
  | some x => rfl
theorem own_step {m : Nat} (hm : MaskB m) {done : List Int} {owner : Array (Option Nat)} (W : Own m done owner) (hl : done.length ≤ m) (h : Int) :
    ∃ o', stepF m (some (owner, done.length)) h = some (o', done.length + 1) ∧ Own m (done ++ [h]) o' := by
  obtain ⟨ps, p1, p2⟩ := W.ps
  obtain ⟨i, i1, i2⟩ := st_missing ps (m + 1) (by omega)
  have il := Nat.le_of_lt_succ i1
  obtain ⟨K, e1, e2, e3⟩ := hm.free owner h il (Classical.byContradiction fun q => i2 (p2 i il q))
  have wl := way_in m h K
  have W0 : ∀ k, k < K → oAt owner (way m h k) ≠ none := e3
  refine ⟨_, stepF_some e1, ?_⟩
  generalize ew : way m h K = v at e1 e2 wl
  have self : oAt (owner.setIfInBounds v (some done.length)) v = some done.length := oAt_set_self _ (by rw [W.sz]; omega)
  have othr : ∀ {y}, y ≠ v → oAt (owner.setIfInBounds v (some done.length)) y = oAt owner y := fun q => oAt_set_ne _ q
  have keep : ∀ {y}, oAt owner y ≠ none → oAt (owner.setIfInBounds v (some done.length)) y ≠ none := fun {y} q => by
    rcases Classical.em (y = v) with c | c
    · rw [c, e2] at q
      exact absurd rfl q
    · rw [othr c]
      exact q
  have dl : (done ++ [h]).length = done.length + 1 := by simp
  constructor
  · simp [W.sz]
  · intro y k yl e
    rcases Classical.em (y = v) with c | c
    · rw [c, self] at e
      cases e
      exact ⟨h, K, by simp, ew.trans c.symm, fun k hk => keep (W0 k hk)⟩
    · rw [othr c] at e
      obtain ⟨g, L, a1, a2, a3⟩ := W.at_ y k yl e
      have kl := (List.getElem?_eq_some_iff.mp a1).1
      exact ⟨g, L, by rw [List.getElem?_append_left kl, a1], a2, fun k hk => keep (a3 k hk)⟩
  · intro k hk
    rw [dl] at hk
    rcases Nat.lt_or_eq_of_le (Nat.le_of_lt_succ hk) with c | c
    · obtain ⟨y, y1, y2⟩ := W.all k c
      exact ⟨y, y1, by rw [othr (fun z => by rw [z, e2] at y2; cases y2), y2]⟩
    · exact ⟨v, wl, by rw [c, self]⟩
  · refine ⟨v :: ps, by rw [dl, List.length_cons, p1], fun y yl q => ?_⟩
    rcases Classical.em (y = v) with c | c
    · rw [c]
      exact List.mem_cons_self
    · rw [othr c] at q
      exact List.mem_cons_of_mem _ (p2 y yl q)
theorem own_all {m : Nat} (hm : MaskB m) : ∀ (rest done : List Int) (owner : Array (Option Nat)), Own m done owner → done.length + rest.length ≤ m →
    ∃ o', rest.foldl (stepF m) (some (owner, done.length)) = some (o', done.length + rest.length) ∧ Own m (done ++ rest) o'
  | [], done, owner, W, _ => ⟨owner, rfl, by simpa using W⟩
  | h :: rest, done, owner, W, hl => by
    rw [List.length_cons] at hl
    obtain ⟨o1, q1, W1⟩ := own_step hm W (by omega) h
    have dl : (done ++ [h]).length = done.length + 1 := by simp
    obtain ⟨o2, q2, W2⟩ := own_all hm rest (done ++ [h]) o1 W1 (by omega)
    refine ⟨o2, ?_, by simpa using W2⟩
    rw [List.foldl_cons, q1, ← dl, q2, dl, List.length_cons]
    congr 2
    omega
/-- all is found again behind the laying -/
theorem laid_anew (t : SetTable) {hs : Array Int} {wanted M : Nat} (hw : SetTable.sizeAbove wanted = M + 1) (hM : MaskB M) (hn : hs.size ≤ M) :
    ∃ t2 order, t.relaid hs wanted = some (t2, order) ∧ order.toList.Perm (List.range hs.size) ∧ TabB t2 (order.toList.map fun i => hs.getD i 0) ∧ t2.mask = M ∧ t2.led = t.led := by
  have hw' : SetTable.sizeAbove wanted - 1 = M := by omega
  obtain ⟨owner, f, W⟩ := own_all hM hs.toList [] _ (Own.init M) (by rw [Array.length_toList]; simpa using hn)
  rw [List.nil_append] at W
  have lc : SetTable.layClean M hs = some owner := by
    rw [layClean_eq]
    exact congrArg (Option.map Prod.fst) f
  have ml : ∀ {j k}, (j, k) ∈ liveOf M owner ↔ j ≤ M ∧ oAt owner j = some k := fun {j k} => mem_live W.sz
  obtain ⟨r1, r2⟩ := ris_live (fun j => owner.getD j none) (List.range (M + 1)) (by unfold Ris; exact List.pairwise_lt_range)
  have r1 : Ris ((liveOf M owner).map Prod.fst) := r1
  have zs : hs.toList.length = hs.size := rfl
  have lv : (liveOf M owner).length = hs.size := by
    obtain ⟨ps, p1, p2⟩ := W.ps
    refine Nat.le_antisymm ?_ ?_
    · rw [← zs, ← p1, ← List.length_map (f := Prod.fst)]
      refine nat_nodup_len _ ps (r1.imp fun q => Nat.ne_of_lt q) fun x hx => ?_
      obtain ⟨⟨y, k⟩, hy, rfl⟩ := List.mem_map.mp hx
      have := ml.mp hy
      exact p2 y this.1 (by rw [this.2]; simp)
    · rw [← List.length_map (f := Prod.snd)]
      refine Nat.le_trans (Nat.le_of_eq List.length_range.symm) (nat_nodup_len (List.range hs.size) _ List.nodup_range fun k hk => ?_)
      obtain ⟨j, j1, j2⟩ := W.all k (List.mem_range.mp hk)
      exact List.mem_map.mpr ⟨(j, k), ml.mpr ⟨j1, j2⟩, rfl⟩
  refine ⟨tabOf t M owner, ((liveOf M owner).map (·.2)).toArray, by rw [relaid_eq, hw', lc]; rfl, ?_, ?_, rfl, rfl⟩
  · refine perm_range _ _ ((List.length_map _).trans lv) fun k hk => ?_
    obtain ⟨j, j1, j2⟩ := W.all k (by rw [zs]; exact hk)
    exact List.mem_map.mpr ⟨(j, k), ml.mpr ⟨j1, j2⟩, rfl⟩
  · have ep : (tabOf t M owner).place.toList = (liveOf M owner).map Prod.fst := rfl
    constructor
    · exact r1
    · rfl
    · rw [ep, List.length_map, List.length_map, List.length_map]
    · exact hM
    · intro x hx
      exact Nat.le_of_lt_succ (List.mem_range.mp (r2 x hx))
    · intro i h j e1 e2
      rw [ep] at e2 ⊢
      show OnWay M _ h j
      rw [List.toList_toArray, List.getElem?_map, List.getElem?_map] at e1
      rw [List.getElem?_map] at e2
      obtain ⟨⟨y, k⟩, hy, rfl⟩ := Option.map_eq_some_iff.mp e2
      rw [hy] at e1
      have e1 : hs.getD k 0 = h := Option.some.inj e1
      obtain ⟨y1, y2⟩ := ml.mp (List.mem_of_getElem? hy)
      obtain ⟨g, K, a1, a2, a3⟩ := W.at_ y k y1 y2
      have eg : hs.getD k 0 = g := by
        rw [Array.getD_eq_getD_getElem?, ← Array.getElem?_toList, a1]
        rfl
      rw [← e1, eg]
      refine ⟨K, a2, fun c hc => ?_⟩
      cases z : oAt owner (way M g c) with
      | none => exact absurd z (a3 c hc)
      | some k2 => exact List.mem_map.mpr ⟨(way M g c, k2), ml.mpr ⟨way_in M g c, z⟩, rfl⟩
theorem size_308 : SetTable.sizeAbove (SetTable.grown 77) = 512 := by decide +kernel
end Qk
set_option maxRecDepth 100000
set_option maxHeartbeats 4000000
namespace Qk
open PySem PySem.Spec PyProof.Rows L2
/-- the key k stands at a -/
def KAt (h : Heap) (k : NestedKey) (a : Addr) : Prop := NestedIs h k (.ref a) ∧ k.depth ≤ 8
theorem parts_of {h : Heap} : ∀ {ks : List NestedKey} {vs : List Value} {n : Nat}, NestedAll h ks vs → NestedKey.depthAll ks ≤ n → ∀ v ∈ vs, ∃ k, NestedIs h k v ∧ k.depth ≤ n
  | _, _, _, .nil, _, v, m => nomatch m
  | _, _, n, .cons (k := k0) x y, hd, v, m => by
    simp only [NestedKey.depthAll] at hd
    rcases List.mem_cons.mp m with rfl | m
    · exact ⟨k0, x, by omega⟩
    · exact parts_of y (by omega) v m
section
variable {P : Program} {w : World} {A : Around} {E : Value → Shared → Prop} {s : Shared}
theorem notClass : ∀ (n : Nat) {k : NestedKey} {v : Value} {Q : Bool → Shared → Prop}, NestedIs s.heap k v → k.depth ≤ n → Q false s → wpAny (model P w) A (ofAClassStatement n v) Q E s := by
  intro n
  induction n with
  | zero =>
    intro k v Q hv hn hq
    cases hv with
    | tup => simp only [NestedKey.depth] at hn; omega
    | _ => exact wpAny_pure hq
  | succ n ih =>
    intro k v Q hv hn hq
    cases hv with
    | @tup b ob arr m ks hb hc hd hall =>
      simp only [NestedKey.depth] at hn
      have hps := parts_of hall (Nat.le_of_succ_le_succ hn)
      unfold ofAClassStatement
      refine wpAny_bind (wpAny_typeOf (T := "tuple") ⟨ob, hb, hc⟩ ?_)
      dsimp only
      rw [show (("tuple" : String) == "tuple") = true from by decide]
      simp only [if_true, Bool.not_true, Bool.false_eq_true, if_false]
      try refine wpAny_bind (wpAny_pure ?_)
      try simp only [Bool.not_true, Bool.false_eq_true, if_false]
      show wpAny _ _ (seqItems? (.ref b) >>= _) _ _ s
      refine wpAny_bind (wpAny_seqItems hb hd ?_)
      dsimp only
      refine wpAny_bind ?_
      show wpAny _ _ (forIn arr _ _) _ _ s
      rw [← Array.forIn_toList]
      refine wpAny_forIn_list _ (fun rest z s' => (z.1 = none ∧ s' = s) ∧ ∀ u ∈ rest, ∃ k, NestedIs s.heap k u ∧ k.depth ≤ n) _ ?_ ?_ _ _ ⟨⟨rfl, rfl⟩, hps⟩
      · rintro u rest z s' ⟨⟨hz, rfl⟩, hr⟩
        obtain ⟨k', g1, g2⟩ := hr u List.mem_cons_self
        refine wpAny_bind (ih g1 g2 ?_)
        simp only [Bool.false_eq_true, if_false]
        exact wpAny_pure ⟨⟨rfl, rfl⟩, fun u' hu' => hr u' (List.mem_cons_of_mem _ hu')⟩
      · rintro ⟨z1, z2⟩ s' ⟨⟨hz, rfl⟩, _⟩
        dsimp only at hz
        subst hz
        exact wpAny_pure hq
    | _ => exact wpAny_pure hq
theorem byValueOr : ∀ (n : Nat) {k : NestedKey} {v : Value} {Q : Bool → Shared → Prop}, NestedIs s.heap k v → (∀ b, Q b s) → wpAny (model P w) A (hashByValue n v) Q E s := by
  intro n
  induction n with
  | zero =>
    intro k v Q hv hq
    cases hv <;> exact wpAny_pure (hq _)
  | succ n ih =>
    intro k v Q hv hq
    cases hv with
    | @tup b ob arr m ks hb hc hd hall =>
      have hps := parts_of hall (Nat.le_refl _)
      unfold hashByValue
      refine wpAny_bind (wpAny_specialOf (T := "tuple") ⟨ob, hb, hc⟩ PySem.F.slot_tuple_hash.lookup ?_)
      show wpAny _ _ (seqItems? (.ref b) >>= _) _ _ s
      refine wpAny_bind (wpAny_seqItems hb hd ?_)
      refine wpAny_bind ?_
      show wpAny _ _ (forIn arr _ _) _ _ s
      rw [← Array.forIn_toList]
      refine wpAny_forIn_list _ (fun rest z s' => (z.1 = none ∧ s' = s) ∧ ∀ u ∈ rest, ∃ k, NestedIs s.heap k u ∧ k.depth ≤ NestedKey.depthAll ks) _ ?_ ?_ _ _ ⟨⟨rfl, rfl⟩, hps⟩
      · rintro u rest z s' ⟨⟨hz, rfl⟩, hr⟩
        obtain ⟨k', g1, g2⟩ := hr u List.mem_cons_self
        refine wpAny_bind (ih g1 fun b => ?_)
        cases b with
        | true =>
          simp only [Bool.not_true, Bool.false_eq_true, if_false]
          exact wpAny_pure ⟨⟨rfl, rfl⟩, fun u' hu' => hr u' (List.mem_cons_of_mem _ hu')⟩
        | false =>
          simp only [Bool.not_false, if_true]
          exact wpAny_pure (wpAny_pure (hq false))
      · rintro ⟨z1, z2⟩ s' ⟨⟨hz, rfl⟩, _⟩
        dsimp only at hz
        subst hz
        exact wpAny_pure (hq _)
    | _ => exact wpAny_pure (hq _)
/-- no member shows anything while it is looked for -/
theorem unseen {k : NestedKey} {x : Addr} {ys : List Value} {Q : Bool → Shared → Prop} (hx : KAt s.heap k x) (hy : ∀ y ∈ ys, ∃ k' c, y = .ref c ∧ KAt s.heap k' c) (hq : Q false s) :
    wpAny (model P w) A (searchCouldBeSeen (.ref x) ys) Q E s := by
  unfold searchCouldBeSeen
  refine wpAny_bind (wpAny_forIn_list _ (fun rest z s' => (z.1 = none ∧ s' = s) ∧ ∀ y ∈ rest, ∃ k' c, y = .ref c ∧ KAt s.heap k' c) _ ?_ ?_ _ _ ⟨⟨rfl, rfl⟩, hy⟩)
  · rintro y rest z s' ⟨⟨hz, rfl⟩, hr⟩
    obtain ⟨k', c, rfl, hc⟩ := hr y List.mem_cons_self
    have go : ∀ y ∈ rest, ∃ k' c, y = .ref c ∧ KAt s'.heap k' c := fun u m => hr u (List.mem_cons_of_mem _ m)
    dsimp only
    by_cases hv : (x == c || (carriedByValue (.ref x) && carriedByValue (.ref c))) = true
    · exact wp_if_pos hv (wpAny_pure ⟨⟨rfl, rfl⟩, go⟩)
    · refine wp_if_neg hv (wpAny_bind ((nestedKind P w).quiet hx ?_))
      simp only [Bool.not_true, Bool.false_eq_true, if_false]
      refine wpAny_bind ((nestedKind P w).quiet hc ?_)
      simp only [Bool.not_true, Bool.false_eq_true, if_false]
      refine wpAny_bind (notClass 8 hx.1 hx.2 ?_)
      simp only [Bool.false_eq_true, if_false]
      refine wpAny_bind (notClass 8 hc.1 hc.2 ?_)
      simp only [Bool.false_eq_true, if_false]
      exact wpAny_pure ⟨⟨rfl, rfl⟩, go⟩
  · rintro ⟨z1, z2⟩ s' ⟨⟨hz, rfl⟩, _⟩
    dsimp only at hz
    subst hz
    exact wpAny_pure hq
end
abbrev pr (m : Nat) (h : Int) (c : Nat) : SetTable.Probe := nth m (runAt m (SetTable.bits h % (m + 1)) (SetTable.bits h)) c
theorem pr_clean (m : Nat) (h : Int) : ∀ c, (pr m h c).dummy = none
  | 0 => rfl
  | c + 1 => by
    show (nth m _ (c + 1)).dummy = none
    rw [nth_succ]
    have ih := pr_clean m h c
    unfold adv
    split <;> exact ih
theorem probe_at {t : SetTable} {hs : List Int} (T : TabB t hs) {h : Int} {K c : Nat} (hf : K < 10 * SetTable.turns t.mask) (hK : way t.mask h K ∉ t.place.toList) (hb : ∀ c, c < K → way t.mask h c ∈ t.place.toList) (ha : Nat → Int) (hc : c ≤ K) :
    (∃ d i, (c ≤ d ∧ d < K) ∧ t.place.toList[i]? = some (way t.mask h d) ∧ ha i = h ∧ (∀ e j, c ≤ e → e < d → t.place.toList[j]? = some (way t.mask h e) → ha j ≠ h) ∧ t.probe ha h (pr t.mask h c) = some (.candidate (way t.mask h d) i (pr t.mask h (d + 1)))) ∨
    (∀ e j, c ≤ e → e < K → t.place.toList[j]? = some (way t.mask h e) → ha j ≠ h) ∧ t.probe ha h (pr t.mask h c) = some (.empty (way t.mask h K) none) := by
  have sh : ∀ q, nth t.mask (pr t.mask h c) q = pr t.mask h (c + q) := fun q => (nth_add t.mask c _ q).symm
  have at_ : ∀ q, (nth t.mask (pr t.mask h c) q).j = way t.mask h (c + q) := fun q => congrArg SetTable.Probe.j (sh q)
  have eK : c + (K - c) = K := by omega
  rcases go_spec t T.up T.noD ha h (10 * SetTable.turns t.mask) (K - c) _ (pr_clean t.mask h c) (by omega) (fun q hq => by rw [at_]; exact hb _ (by omega)) (by rw [at_, eK]; exact hK) with ⟨q, i, g1, g2, g3, g4, g5⟩ | ⟨g1, g2⟩
  · refine .inl ⟨c + q, i, ⟨Nat.le_add_right _ _, by omega⟩, by rw [← at_]; exact g2, g3, fun e j he1 he2 hj => g4 (e - c) j (by omega) (by rw [at_, show c + (e - c) = e by omega]; exact hj), ?_⟩
    rw [← at_, show pr t.mask h (c + q + 1) = nth t.mask (pr t.mask h c) (q + 1) from (sh (q + 1)).symm]
    exact g5
  · refine .inr ⟨fun e j he1 he2 hj => g1 (e - c) j (by omega) (by rw [at_, show c + (e - c) = e by omega]; exact hj), ?_⟩
    rw [show way t.mask h K = (nth t.mask (pr t.mask h c) (K - c)).j by rw [at_, eK]]
    exact g2
abbrev Kp2 := NestedKey × Addr
/-- what the table has for a member -/
def ent (w : World) (p : Kp2) : Int × Value := (p.1.hash w, .ref p.2)
def hashesK (w : World) (L : List Kp2) : List Int := L.map fun p => p.1.hash w
/-- the set at a: L are its members (key and address), as the table has them -/
structure KSet (w : World) (h : Heap) (a : Addr) (L : List Kp2) (es : Array (Int × Value)) (ep : Nat) (t : SetTable) : Prop where
  ob : ∃ o, h.get? a = some o ∧ o.ExactSet ∧ o.data = .set es ep t
  rows : es.toList = L.map (ent w)
  tab : TabB t (hashesK w L)
  nd : (L.map Prod.fst).Nodup
  led : w.params.followText "set-order" = true ∨ t.led = true
  room : L.length * 5 < t.mask * 3
  few : L.length < 300
def KeysAt (h : Heap) (L : List Kp2) : Prop := ∀ p ∈ L, KAt h p.1 p.2
section
variable {P : Program} {w : World} {A : Around} {E : Value → Shared → Prop} {s : Shared} {h : Heap} {a : Addr} {L : List Kp2} {es : Array (Int × Value)} {ep : Nat} {t : SetTable}
theorem sz_rows (hr : es.toList = L.map (ent w)) : es.size = L.length := by
  rw [← Array.length_toList, hr, List.length_map]
theorem KSet.at_ (R : KSet w h a L es ep t) {i : Nat} {p : Kp2} (hi : L[i]? = some p) : es[i]? = some (ent w p) := by
  rw [← Array.getElem?_toList, R.rows, List.getElem?_map, hi]
  rfl
theorem len_h (L : List Kp2) : (hashesK w L).length = L.length := List.length_map _
theorem fits_of {hs : List Int} (T : TabB t hs) {n : Nat} (hn : hs.length = n) (hm : n ≤ t.mask) : t.fits n = true := by
  unfold SetTable.fits SetTable.fill
  have e : t.dummies.size = 0 := by rw [T.noD]; rfl
  rw [T.sz, hn, e]
  simp
  omega
theorem KSet.fits (R : KSet w h a L es ep t) : t.fits es.size = true := by
  rw [sz_rows R.rows]
  have := R.room
  exact fits_of R.tab (len_h L) (by omega)
theorem look (R : KSet w s.heap a L es ep t) (M : KeysAt s.heap L) {x : Addr} {k : NestedKey} (hx : KAt s.heap k x) (hu : A.units + 8 < cLine) {K : Nat} (hf : K < 10 * SetTable.turns t.mask)
    (hK : way t.mask (k.hash w) K ∉ t.place.toList) (hb : ∀ c, c < K → way t.mask (k.hash w) c ∈ t.place.toList) {Q : SetFound → Shared → Prop}
    (yes : k ∈ L.map Prod.fst → Q (.there none) s) (no : k ∉ L.map Prod.fst → Q (.free (way t.mask (k.hash w) K) false) s) :
    ∀ (f c : Nat) (stand : Option SetTable.Probe), stand.getD (t.probeStart (k.hash w)) = pr t.mask (k.hash w) c → c ≤ K → K < f + c →
      (∀ (i : Nat) (p : Kp2), L[i]? = some p → p.1 = k → ∃ d, c ≤ d ∧ d < K ∧ t.place.toList[i]? = some (way t.mask (k.hash w) d)) → wpAny (model P w) A (setSearchFrom a (.ref x) (k.hash w) true f stand) Q E s := by
  intro f
  induction f with
  | zero => intro c stand _ h1 h2; omega
  | succ f ih =>
    intro c stand hs h1 h2 hw
    obtain ⟨o, ho, hex, hd⟩ := R.ob
    rw [setSearchFrom_succ]
    refine wpAny_bind (wpAny_setState_of ho hd R.fits ?_)
    dsimp only
    refine wp_if_neg (by unfold SetTable.gaveWay; rw [R.tab.mB.odd]; decide) ?_
    try refine wpAny_bind (wpAny_pure ?_)
    have hh : ∀ (i : Nat) (p : Kp2), L[i]? = some p → (es[i]?.map (·.1)).getD 0 = p.1.hash w := fun i p hi => by rw [R.at_ hi]; rfl
    rcases probe_at R.tab hf hK hb (fun i => (es[i]?.map (·.1)).getD 0) h1 with ⟨d, i, ⟨d1, d2⟩, hi, _, hno, hp⟩ | ⟨hno, hp⟩
    · rw [hs, hp]
      dsimp only
      have hl : i < L.length := by
        have := (List.getElem?_eq_some_iff.mp hi).1
        rw [Array.length_toList, R.tab.sz, len_h] at this
        exact this
      obtain ⟨p, hpi⟩ : ∃ p, L[i]? = some p := ⟨_, List.getElem?_eq_getElem hl⟩
      have hpm := List.mem_of_getElem? hpi
      have tail : wpAny (model P w) A (searchRest a (.ref x) (k.hash w) true f es t (way t.mask (k.hash w) d) i (pr t.mask (k.hash w) (d + 1))) Q E s := by
        unfold searchRest
        rw [R.at_ hpi]
        unfold ent
        dsimp only
        refine wpAny_bind (wpAny_holding ((nestedKind P w).eqBool hu (M p hpm) hx ?_))
        refine wpAny_bind (wpAny_setState_of ho hd R.fits ?_)
        dsimp only
        by_cases hk : p.1 = k
        · refine wp_if_pos (by simp [hk]) (wpAny_pure (yes ?_))
          exact hk ▸ List.mem_map_of_mem hpm
        · refine wp_if_neg (by simp [hk]) ?_
          try refine wpAny_bind (wpAny_pure ?_)
          have live := slot_live R.tab.up hi
          rw [sameMem]
          simp only [if_true, live, R.at_ hpi, ent]
          refine wpAny_bind (wpAny_isSame_ref_self (wpAny_bind (wpAny_pure ?_)))
          simp only [if_true]
          refine wp_if_neg (by simp [hk]) (ih (d + 1) _ rfl d2 (by omega) fun j q hj hq => ?_)
          obtain ⟨e, e1, e2, e3⟩ := hw j q hj hq
          refine ⟨e, ?_, e2, e3⟩
          rcases Nat.lt_trichotomy e d with z | z | z
          · exact absurd ((hh j q hj).trans (by rw [hq])) (hno e j e1 z e3)
          · have l2 := slot_live R.tab.up (z ▸ e3)
            rw [live] at l2
            injection l2 with l2
            rw [← l2, hpi] at hj
            exact absurd ((congrArg Prod.fst (Option.some.inj hj)).trans hq) hk
          · exact z
      by_cases hl : t.led = true
      · refine wp_if_neg (by simp [hl]) ?_
        try refine wpAny_bind (wpAny_pure ?_)
        exact tail
      · refine wp_if_pos (by simp [hl]) (wpAny_bind (unseen hx (fun y hy => ?_) ?_))
        · obtain ⟨e, he, rfl⟩ := List.mem_map.mp hy
          have he2 : e ∈ es.toList := by
            have := (show e ∈ es ∧ _ by simpa using he).1
            simpa using this
          rw [R.rows] at he2
          obtain ⟨q, hq, rfl⟩ := List.mem_map.mp he2
          exact ⟨q.1, q.2, rfl, M q hq⟩
        · refine wp_if_neg (by decide) ?_
          try refine wpAny_bind (wpAny_pure ?_)
          exact tail
    · rw [hs, hp]
      dsimp only
      refine wpAny_pure (no fun hm => ?_)
      obtain ⟨q, hq, hk⟩ := List.mem_map.mp hm
      obtain ⟨j, hj⟩ := List.mem_iff_getElem?.mp hq
      obtain ⟨e, e1, e2, e3⟩ := hw j q hj hk
      exact hno e j e1 e2 e3 ((hh j q hj).trans (by rw [hk]))
theorem look_at (R : KSet w s.heap a L es ep t) (M : KeysAt s.heap L) {x : Addr} {k : NestedKey} (hx : KAt s.heap k x) (hu : A.units + 8 < cLine) {Q : SetFound → Shared → Prop}
    (yes : k ∈ L.map Prod.fst → Q (.there none) s)
    (no : ∀ K, k ∉ L.map Prod.fst → way t.mask (k.hash w) K ∉ t.place.toList → (∀ c, c < K → way t.mask (k.hash w) c ∈ t.place.toList) → Q (.free (way t.mask (k.hash w) K) false) s) :
    wpAny (model P w) A (setSearch a (.ref x) (k.hash w) true) Q E s := by
  have hr := R.room
  obtain ⟨K, f1, f2, f3⟩ := R.tab.stop (by rw [len_h]; omega) (k.hash w)
  have big : SetTable.turns t.mask ≤ 5000 := by
    have := R.tab.mB.top
    unfold SetTable.turns
    omega
  refine look R M hx hu f1 f2 f3 yes (fun hn => no K hn f2 f3) 100000 0 none rfl (Nat.zero_le _) (by omega) fun i p hi hp => ?_
  have h1 : (hashesK w L)[i]? = some (k.hash w) := by
    unfold hashesK
    rw [List.getElem?_map, hi, ← hp]
    rfl
  have h2 : i < t.place.toList.length := by
    rw [Array.length_toList, R.tab.sz, len_h]
    exact (List.getElem?_eq_some_iff.mp hi).1
  obtain ⟨d, d1, d2⟩ := R.tab.ahead f2 h1 (List.getElem?_eq_getElem h2)
  exact ⟨d, Nat.zero_le _, d1, by rw [d2]; exact List.getElem?_eq_getElem h2⟩
end
end Qk
set_option maxRecDepth 100000
set_option maxHeartbeats 4000000
namespace Qk
open PySem PySem.Spec PyProof.Rows L2
theorem KAt.off {h h' : Heap} {k : NestedKey} {x a : Addr} {o : Obj} {es : Array (Int × Value)} {ep : Nat} {t : SetTable} (hx : KAt h k x) (ho : h.get? a = some o) (hd : o.data = .set es ep t) (hs : Heap.SameBut a h h') : KAt h' k x :=
  ⟨NestedIs.at (fun b ob vs n hb hv => (hs.2 b fun e => by
    subst e
    rw [ho] at hb
    cases hb
    rw [hd] at hv
    cases hv).trans hb) _ _ hx.1, hx.2⟩
theorem KAt.keep {h h' : Heap} {k : NestedKey} {x : Addr} (hx : KAt h k x) (hk : ∀ b o, h.get? b = some o → h'.get? b = some o) : KAt h' k x :=
  ⟨NestedIs.at (fun b ob vs n hb hv => hk b ob hb) _ _ hx.1, hx.2⟩
/-- rows taken in another order -/
theorem pick_rows {α β : Type} (g : α → β) (L : List α) (es : Array β) (hr : es.toList = L.map g) (order : Array Nat) (hp : order.toList.Perm (List.range L.length)) :
    ∃ L2 : List α, (order.filterMap (es[·]?)).toList = L2.map g ∧ L2.Perm L ∧ ∀ {γ : Type} (u : α → γ) (v : Nat → γ), (∀ i x, L[i]? = some x → v i = u x) → L2.map u = order.toList.map v := by
  have eg : ∀ i, es[i]? = (L[i]?).map g := fun i => by rw [← Array.getElem?_toList, hr, List.getElem?_map]
  refine ⟨order.toList.filterMap (L[·]?), ?_, ?_, fun u v huv => ?_⟩
  · rw [Array.toList_filterMap, List.map_filterMap]
    exact congrArg (fun f => List.filterMap f order.toList) (funext eg)
  · refine (hp.filterMap _).trans ?_
    have key : ∀ n, n ≤ L.length → (List.range n).filterMap (L[·]?) = L.take n := by
      intro n
      induction n with
      | zero => intro _; rfl
      | succ n ih =>
        intro hn
        rw [List.range_succ, List.filterMap_append, ih (by omega), List.take_add_one, List.getElem?_eq_getElem (show n < L.length by omega)]
        exact congrArg (List.take n L ++ ·) (List.filterMap_cons_some (List.getElem?_eq_getElem (show n < L.length by omega)))
    rw [key _ (Nat.le_refl _), List.take_length]
  · have : ∀ l : List Nat, (∀ i ∈ l, i < L.length) → (l.filterMap (L[·]?)).map u = l.map v := by
      intro l
      induction l with
      | nil => intro _; rfl
      | cons i l ih =>
        intro hl
        have hi := List.getElem?_eq_getElem (hl i List.mem_cons_self)
        rw [List.filterMap_cons_some hi, List.map_cons, List.map_cons, ih fun j hj => hl j (List.mem_cons_of_mem _ hj), huv i _ hi]
    exact this _ fun i hi => List.mem_range.mp (hp.mem_iff.mp hi)
section
variable {P : Program} {w : World} {A : Around} {E : Value → Shared → Prop} {s : Shared} {a : Addr} {L : List Kp2} {es : Array (Int × Value)} {ep : Nat} {t : SetTable}
/-- the table laid anew with more room -/
theorem relay {o : Obj} (ho : s.heap.get? a = some o) (hex : o.ExactSet) (hd : o.data = .set es ep t) (hr : es.toList = L.map (ent w)) (T : TabB t (hashesK w L)) (hm : L.length ≤ t.mask) (nd : (L.map Prod.fst).Nodup)
    (ld : w.params.followText "set-order" = true ∨ t.led = true) (few : L.length < 300) {wanted M : Nat} (hw : SetTable.sizeAbove wanted = M + 1) (hM : MaskB M) (hn : L.length * 5 < M * 3) {Q : Unit → Shared → Prop}
    (hQ : ∀ h' L' es' ep' t', Heap.SameBut a s.heap h' → KSet w h' a L' es' ep' t' → L'.Perm L → Q () { s with heap := h' }) : wpAny (model P w) A (setRelay a wanted) Q E s := by
  have hz := sz_rows hr
  have hfit : t.fits es.size = true := by rw [hz]; exact fits_of T (len_h L) hm
  have hM2 := hM.top
  obtain ⟨t2, order, q1, q2, q3, q4, q5⟩ := laid_anew t (hs := es.map (·.1)) (wanted := wanted) hw hM (by rw [Array.size_map, hz]; omega)
  rw [Array.size_map, hz] at q2
  obtain ⟨L2, r1, r2, r3⟩ := pick_rows (ent w) L es hr order q2
  rw [← r3 (fun p => p.1.hash w) (fun i => (es.map (·.1)).getD i 0) fun i p hp => by
    have e : es[i]? = some (ent w p) := by rw [← Array.getElem?_toList, hr, List.getElem?_map, hp]; rfl
    rw [Array.getD_eq_getD_getElem?, Array.getElem?_map, e]
    rfl] at q3
  have z2 : (order.filterMap (es[·]?)).size = L.length := by rw [sz_rows r1, r2.length_eq]
  rw [setRelay_eq]
  refine wpAny_bind (wpAny_setState_of ho hd hfit ?_)
  dsimp only
  refine wp_if_neg (by rw [sizeLine_eq]; omega) ?_
  try refine wpAny_bind (wpAny_pure ?_)
  rw [q1]
  dsimp only
  refine wpAny_bind (wp_if_neg (by rw [z2, hz]; simp) ?_)
  try refine wpAny_bind (wpAny_pure ?_)
  refine wpAny_pure ?_
  dsimp only
  refine wpAny_storeSet_of ho hd (hQ _ L2 (order.filterMap (es[·]?)) (ep + 1) t2 (Heap.SameBut.update ..) ?_ r2) (by rw [z2, sizeLine_eq]; omega)
  refine ⟨⟨_, store_at ho hd, ⟨hex.1, hex.2.1, hex.2.2⟩, rfl⟩, r1, q3, (r2.map Prod.fst).nodup_iff.mpr nd, by rw [q5]; exact ld, ?_, ?_⟩
  · rw [r2.length_eq, q4]; exact hn
  · rw [r2.length_eq]; exact few
theorem put_in (R : KSet w s.heap a L es ep t) (M : KeysAt s.heap L) {x : Addr} {k : NestedKey} (hx : KAt s.heap k x) (hu : A.units + 8 < cLine) (hfew : L.length + 1 < 300) {Q : Bool → Shared → Prop}
    (hQ : ∀ b h' L' es' ep' t', Heap.SameBut a s.heap h' → KSet w h' a L' es' ep' t' → (k ∈ L.map Prod.fst → L' = L) → (k ∉ L.map Prod.fst → L'.Perm ((k, x) :: L)) → Q b { s with heap := h' }) :
    wpAny (model P w) A (setAddHashed a (.ref x) (k.hash w)) Q E s := by
  obtain ⟨o, ho, hex, hd⟩ := id R.ob
  have hz := sz_rows R.rows
  have hroom := R.room
  unfold setAddHashed
  refine wpAny_holding ?_
  rw [show (100000 : Nat) = 99999 + 1 from rfl, setAddHashedIn_succ]
  refine wpAny_bind (wpAny_setState_of ho hd R.fits ?_)
  dsimp only
  refine wp_if_neg (by simp [byScan, Value.scannable]) ?_
  try refine wpAny_bind (wpAny_pure ?_)
  refine wpAny_bind (look_at R M hx hu (fun hm => ?_) fun K hm f2 f3 => ?_)
  · exact wpAny_pure (hQ false s.heap L es ep t (.refl a s.heap) R (fun _ => rfl) fun z => absurd hm z)
  · dsimp only
    refine wpAny_bind (wpAny_setState_of ho hd R.fits ?_)
    dsimp only
    obtain ⟨q2, q3, q9⟩ := R.tab.add f2 f3
    have q1 : (t.put (way t.mask (k.hash w) K)).2 = SetTable.below t.place (way t.mask (k.hash w) K) := rfl
    have q4 : (t.put (way t.mask (k.hash w) K)).1.mask = t.mask := rfl
    have q5 : (t.put (way t.mask (k.hash w) K)).1.led = t.led := rfl
    rw [len_h] at q2 q9
    generalize t.put (way t.mask (k.hash w) K) = pt at q1 q3 q4 q5 q9 ⊢
    obtain ⟨t1, pos⟩ := pt
    dsimp only at q1 q3 q4 q5 q9 ⊢
    subst q1
    generalize SetTable.below t.place (way t.mask (k.hash w) K) = pos at q2 q3 ⊢
    have eL : List.take pos (hashesK w L) ++ k.hash w :: List.drop pos (hashesK w L) = hashesK w (L.take pos ++ (k, x) :: L.drop pos) := by
      unfold hashesK
      rw [List.map_append, List.map_cons, List.map_take, List.map_drop]
    have er : (SetTable.insertAt es pos (k.hash w, Value.ref x)).toList = (L.take pos ++ (k, x) :: L.drop pos).map (ent w) := by
      rw [SetTable.toList_insertAt, R.rows, List.map_append, List.map_cons, List.map_take, List.map_drop]
      rfl
    rw [eL] at q3
    have pm : (L.take pos ++ (k, x) :: L.drop pos).Perm ((k, x) :: L) := by
      have z := List.perm_middle (a := (k, x)) (l₁ := L.take pos) (l₂ := L.drop pos)
      rw [List.take_append_drop] at z
      exact z
    generalize L.take pos ++ (k, x) :: L.drop pos = L1 at er pm q3
    generalize SetTable.insertAt es pos (k.hash w, Value.ref x) = es1 at er ⊢
    have l1 : L1.length = L.length + 1 := pm.length_eq
    have z1 := sz_rows er
    have nd1 : (L1.map Prod.fst).Nodup := (pm.map Prod.fst).nodup_iff.mpr (List.nodup_cons.mpr ⟨hm, R.nd⟩)
    have go : ∀ t2 : SetTable, t2.mask = t.mask → t2.led = t.led → t2.fill = L.length + 1 → TabB t2 (hashesK w L1) → wpAny (model P w) A (do
        storeSet a es1 t2
        if (!false && t2.tooFull) = true then do
          setRelay a (SetTable.grown (es.size + 1))
          pure true
        else pure true) Q E s := by
      intro t2 m1 m2 m3 T2
      have ld2 : w.params.followText "set-order" = true ∨ t2.led = true := by rw [m2]; exact R.led
      refine wpAny_bind (wpAny_storeSet_of ho hd ?_ (by rw [z1, l1, sizeLine_eq]; omega))
      have sb : Heap.SameBut a s.heap (s.heap.update a (Obj.putSet es1 t2)) := Heap.SameBut.update ..
      have ho1 := store_at (es' := es1) (t' := t2) ho hd
      generalize s.heap.update a (Obj.putSet es1 t2) = h1 at sb ho1 ⊢
      have ful : t2.tooFull = decide ((L.length + 1) * 5 ≥ t.mask * 3) := by
        unfold SetTable.tooFull
        rw [m3, m1]
      rw [ful, hz]
      by_cases c : (L.length + 1) * 5 ≥ t.mask * 3
      · refine wp_if_pos (by simpa using c) (wpAny_bind ?_)
        have nx : (t.mask = 7 ∧ L.length = 4) ∨ (t.mask = 31 ∧ L.length = 18) ∨ (t.mask = 127 ∧ L.length = 76) := by
          rcases R.tab.mB.is_ with e | e | e | e
          · exact .inl ⟨e, by omega⟩
          · exact .inr (.inl ⟨e, by omega⟩)
          · exact .inr (.inr ⟨e, by omega⟩)
          · omega
        have lay : ∀ N, SetTable.sizeAbove (SetTable.grown (L.length + 1)) = N + 1 → MaskB N → (L.length + 1) * 5 < N * 3 →
            wpAny (model P w) A (setRelay a (SetTable.grown (L.length + 1))) (fun _ s' => wpAny (model P w) A (pure true) Q E s') E { s with heap := h1 } := fun N e1 e2 e4 =>
          relay (s := { s with heap := h1 }) ho1 ⟨hex.1, hex.2.1, hex.2.2⟩ rfl er T2 (by rw [l1, m1]; rcases nx with ⟨_, _⟩ | ⟨_, _⟩ | ⟨_, _⟩ <;> omega) nd1 ld2 (by omega) (M := N) e1 e2 (by rw [l1]; exact e4)
            fun h2 L2 es2 ep2 t3 sb2 R2 p2 => wpAny_pure (hQ true h2 L2 es2 ep2 t3 (sb.trans sb2) R2 (fun z => absurd z hm) fun _ => p2.trans pm)
        rcases nx with ⟨_, e⟩ | ⟨_, e⟩ | ⟨_, e⟩
        · exact lay 31 (by rw [e]; exact size_20) mb31 (by omega)
        · exact lay 127 (by rw [e]; exact size_76) mb127 (by omega)
        · exact lay 511 (by rw [e]; exact size_308) mb511 (by omega)
      · refine wp_if_neg (by simpa using c) (wpAny_pure (hQ true h1 L1 es1 (ep + 1) t2 sb ⟨⟨_, ho1, ⟨hex.1, hex.2.1, hex.2.2⟩, rfl⟩, er, T2, nd1, ld2, by rw [l1, m1]; omega, by omega⟩ (fun z => absurd z hm) fun _ => pm))
    have g1 := go t1 q4 q5 q9 q3
    have g2 := go { t1 with plain := false } q4 q5 q9 ⟨q3.up, q3.noD, q3.many, q3.mB, q3.in_, q3.onW⟩
    by_cases hp : t1.plain = true
    · refine wp_if_pos hp (wpAny_bind (byValueOr 8 hx.1 fun b => ?_))
      cases b with
      | true => exact g1
      | false => exact g2
    · exact wp_if_neg hp (wpAny_bind (wpAny_pure g1))
theorem KSet.keep {h h' : Heap} (R : KSet w h a L es ep t) (ha : ∀ o, h.get? a = some o → h'.get? a = some o) : KSet w h' a L es ep t := by
  obtain ⟨o, ho, r⟩ := R.ob
  exact ⟨⟨o, ha o ho, r⟩, R.rows, R.tab, R.nd, R.led, R.room, R.few⟩
theorem kset_new {h : Heap} (ho : h.get? a = some { cls := .type "set", dict := none, data := .set #[] 0 (.fresh 0 0 (!w.params.followText "set-order")) }) : KSet w h a [] #[] 0 (.fresh 0 0 (!w.params.followText "set-order")) where
  ob := ⟨_, ho, ⟨rfl, rfl, rfl⟩, rfl⟩
  rows := rfl
  tab := ⟨List.Pairwise.nil, rfl, rfl, mb7, (fun x hx => nomatch hx), (fun i h j hi => nomatch hi)⟩
  nd := List.nodup_nil
  led := by
    show _ ∨ (!w.params.followText "set-order") = true
    cases w.params.followText "set-order" <;> simp
  room := by
    show 0 * 5 < 7 * 3
    decide
  few := by
    show 0 < 300
    decide
/-- L has what the first i of ks have -/
structure Has (ks : List Kp2) (i : Nat) (L : List Kp2) : Prop where
  sub : ∀ p ∈ L, p ∈ ks.take i
  all : ∀ p ∈ ks.take i, p.1 ∈ L.map Prod.fst
  len : L.length ≤ i
theorem Has.next {ks L L' : List Kp2} {i : Nat} {p : Kp2} (g : Has ks i L) (hi : ks[i]? = some p) (c1 : p.1 ∈ L.map Prod.fst → L' = L) (c2 : p.1 ∉ L.map Prod.fst → L'.Perm (p :: L)) : Has ks (i + 1) L' := by
  have et : ks.take (i + 1) = ks.take i ++ [p] := by rw [List.take_add_one, hi]; rfl
  by_cases c : p.1 ∈ L.map Prod.fst
  · rw [c1 c]
    refine ⟨fun q hq => ?_, fun q hq => ?_, Nat.le_succ_of_le g.len⟩
    · rw [et]; exact List.mem_append_left _ (g.sub q hq)
    · rw [et] at hq
      rcases List.mem_append.mp hq with z | z
      · exact g.all q z
      · rw [List.mem_singleton.mp z]; exact c
  · have pm := c2 c
    refine ⟨fun q hq => ?_, fun q hq => ?_, by rw [pm.length_eq]; exact Nat.succ_le_succ g.len⟩
    · rw [et]
      rcases List.mem_cons.mp (pm.mem_iff.mp hq) with z | z
      · rw [z]; exact List.mem_append_right _ (List.mem_singleton.mpr rfl)
      · exact List.mem_append_left _ (g.sub q z)
    · rw [(pm.map Prod.fst).mem_iff, List.map_cons]
      rw [et] at hq
      rcases List.mem_append.mp hq with z | z
      · exact List.mem_cons_of_mem _ (g.all q z)
      · rw [List.mem_singleton.mp z]; exact List.mem_cons_self
end
end Qk
set_option maxRecDepth 100000
set_option maxHeartbeats 4000000
namespace Qk
open PySem PySem.Spec PyProof.Rows L2
section
variable {P : Program} {w : World} {A : Around} {R : Result → Shared → Prop} {I : Addr} {fp wr : List Addr} {G : Array GenState → Array GenState → Prop} {n : Nat} {Pv : Nat → Value → Prop} {St : Nat → Shared → Prop}
/-- the set is filled from what is walked over -/
theorem fillK (W : WalksS P w A.in1 I fp wr G n Pv St) (S : Addr) (hSf : S ∉ fp) (ks : List Kp2) (hn : n = ks.length) (hfew : ks.length < 300) (hval : ∀ i v, Pv i v → ∃ p, ks[i]? = some p ∧ v = .ref p.2)
    (h0 : Heap) (hk : KeysAt h0 ks) (hS0 : h0.get? S = none) (hw0 : ∀ b ∈ wr, h0.get? b = none) (hu : A.in1.units + 8 < cLine) :
    ∀ (k i : Nat) (s : Shared), n - i = k → i ≤ n → St i s → (∀ b o, h0.get? b = some o → s.heap.get? b = some o) → (∃ L es ep t, KSet w s.heap S L es ep t ∧ Has ks i L) →
      (∀ s' L es ep t, Moved (S :: wr) G s s' → KSet w s'.heap S L es ep t → Has ks n L → (∀ b o, h0.get? b = some o → s'.heap.get? b = some o) → R (.ok (.ret .none)) s') →
      codeAny (model P w) A (.builtin "set.update.loop" ⟨[.ref S, .ref I], []⟩) R s := by
  have hSw : S ∉ wr := fun h => hSf (W.sub _ h)
  have hsub : ∀ b ∈ wr, b ∈ S :: wr := fun b hb => List.mem_cons_of_mem _ hb
  have old : ∀ {s s' : Shared}, Moved wr G s s' → (∀ b o, h0.get? b = some o → s.heap.get? b = some o) → ∀ b o, h0.get? b = some o → s'.heap.get? b = some o := fun hm q b o e =>
    hm.heap b o (fun m => by rw [hw0 b m] at e; cases e) (q b o e)
  intro k
  induction k with
  | zero =>
    rintro i s e hi hst q ⟨L, es, ep, t, g, gh⟩ hR
    obtain rfl : i = n := by omega
    refine codeAny_builtin PyProof.Rows.F.entry_set_update_loop ?_
    rw [Around.under_plainId PyProof.Rows.F.plain_set_update_loop _]
    exact wpAny_bind (m := pyNext (.ref I)) (W.done s _ _ hst fun s' hm => wpAny_pure (hR s' L es ep t (hm.mono hsub) (g.keep fun o e => hm.heap S o hSw e) gh (old hm q)))
  | succ k ih =>
    rintro i s e hi hst q ⟨L, es, ep, t, g, gh⟩ hR
    have hlt : i < n := by omega
    refine codeAny_builtin PyProof.Rows.F.entry_set_update_loop ?_
    rw [Around.under_plainId PyProof.Rows.F.plain_set_update_loop _]
    refine wpAny_bind (m := pyNext (.ref I)) (W.item i s _ _ hlt hst fun v s' hP hst' hm => ?_)
    obtain ⟨p, hp, rfl⟩ := hval i v hP
    have q' := old hm q
    have at' : KeysAt s'.heap ks := fun u m => (hk u m).keep q'
    have in' : KeysAt s'.heap L := fun u m => at' u (List.mem_of_mem_take (gh.sub u m))
    have hx := at' p (List.mem_of_getElem? hp)
    show wpAny _ A.in1 (holding [Value.ref p.2] (setAdd S (.ref p.2)) >>= _) _ _ s'
    refine wpAny_bind (wpAny_holding ?_)
    unfold setAdd
    refine wpAny_holding (wpAny_bind ((nestedKind P w).pyHash hu hx ?_))
    refine put_in (s := { s' with toks := s'.toks + (nestedKind P w).draws p.1 }) (g.keep fun o e => hm.heap S o hSw e) in' hx hu (by have := gh.len; omega) fun b h' L' es' ep' t' sb g2 c1 c2 => ?_
    have q2 : ∀ b o, h0.get? b = some o → h'.get? b = some o := fun b o e => (sb.2 b fun z => by rw [z, hS0] at e; cases e).trans (q' b o e)
    refine wpAny_pure ⟨plainId_quiet PyProof.Rows.F.plain_set_update_loop _, ih (i + 1) _ (by omega) hlt (W.frame _ s' _ _ hst' (Nat.le_add_right _ _) fun b hb o e => ?_) q2 ⟨L', es', ep', t', g2, gh.next hp c1 c2⟩ fun s'' L2 es2 ep2 t2 hm2 g3 gh3 q3 => ?_⟩
    · rw [sb.2 b fun z => hSf (z ▸ hb)]
      exact e
    · refine hR s'' L2 es2 ep2 t2 (Moved.trans W.gtrans ((hm.mono hsub).then_heap (Nat.le_add_right _ _) fun b o hb e => ?_) hm2) g3 gh3 q3
      rw [sb.2 b fun z => hb (by rw [z]; exact List.mem_cons_self)]
      exact e
end
section
variable {P : Program} {w : World} {A : Around} {E : Value → Shared → Prop} {s : Shared}
set_option maxHeartbeats 8000000 in
theorem setK_list {l : Addr} {items : Array Value} (ks : List Kp2) {Q : Value → Shared → Prop} (hh : A.handled = none) (hl : s.heap.IsList l items) (hi : items.toList = ks.map fun p => Value.ref p.2) (hk : KeysAt s.heap ks) (hf : ks.length < 300) (hu : A.units + 16 < cLine)
    (h : ∀ (h' : Heap) (tk : Nat) L es ep t, KSet w h' s.heap.objs.size L es ep t → Has ks ks.length L → (∀ b o, s.heap.get? b = some o → h'.get? b = some o) → Q (.ref s.heap.objs.size) { s with heap := h', toks := tk }) :
    wpAny (model P w) A (call (.type "set") [.ref l]) Q E s := by
  obtain ⟨c, tl, hmro⟩ := PySem.F.called_set.mro
  have hmade := PySem.F.called_set.made
  have hsub := PySem.F.called_set.sub
  have hsz : items.size = ks.length := by rw [← Array.length_toList, hi, List.length_map]
  refine wpAny_call (codeAny_of_tree ?_)
  show wpAny _ _ (callAny (.type "set") _) _ _ _
  refine wpAny_pure ⟨Code.quiet_builtin _ (by decide +kernel), codeAny_builtin PySem.F.entry_type_call ?_⟩
  rw [Around.under_plain (weight_type_call_type "set" [.ref l] []) rfl]
  have q1 := PySem.F.called_set.notType
  have q2 := PySem.F.called_set.canCreate
  have q3 := PySem.F.typeCall_set_1 (.ref l)
  repeat (any_goals (first | assumption | wp_step))
  obtain ⟨B, hB⟩ : ∃ B : Bool, B = !w.params.followText "set-order" := ⟨_, rfl⟩
  refine codeAny_mono (code_set_led1 (.ref l) (E := E) (Q₁ := fun v s₁ => v = .ref s.heap.objs.size ∧ s₁ = { s with heap := s.heap.push { cls := .type "set", dict := none, data := .set #[] 0 (.fresh 0 0 B) } }) ⟨rfl, by rw [hB]⟩) fun r s₁ hr => ?_
  cases r with
  | error e => exact hr
  | ok fl =>
    cases fl with
    | ret v =>
      obtain ⟨rfl, rfl⟩ := hr
      have hS : (s.heap.push { cls := .type "set", dict := none, data := .set #[] 0 (.fresh 0 0 B) }).get? s.heap.objs.size = some { cls := .type "set", dict := none, data := .set #[] 0 (.fresh 0 0 B) } := Heap.get?_push_size _ rfl
      have hT : Shared.TypeIs { s with heap := s.heap.push { cls := .type "set", dict := none, data := .set #[] 0 (.fresh 0 0 B) } } (.ref s.heap.objs.size) "set" := ⟨_, hS, rfl⟩
      have q4 := PySem.F.called_set.init.lookup
      have q5 := PySem.F.called_set.init.bind (.ref s.heap.objs.size)
      repeat (any_goals (first | assumption | wp_step))
      refine codeAny_mono (codeAny_call_builtin (R := wants (fun r s₂ => r = .none ∧ ∃ h' tk L es ep t, s₂ = { s with heap := h', toks := tk } ∧ KSet w h' s.heap.objs.size L es ep t ∧ Has ks ks.length L ∧ (∀ b o, s.heap.get? b = some o → h'.get? b = some o)) E)
        PySem.F.called_set.init.plain PySem.F.entry_set_init (check_set_init_1 hT ?_)) fun r₂ s₂ hr₂ => ?_
      · have hlS : l < s.heap.objs.size := by
          obtain ⟨ol, hol, _⟩ := hl
          exact Heap.lt_size hol
        have hl1 : (s.heap.push { cls := .type "set", dict := none, data := .set #[] 0 (.fresh 0 0 B) }).IsList l items := hl.push _
        obtain ⟨ol, hol, hcl, nl, hdl⟩ := hl1
        obtain ⟨ocls, odict, odata, oslots⟩ := ol
        simp only at hcl hdl
        subst hcl; subst hdl
        have hol' := hol
        have q6 := PySem.F.sub_list_set
        have q7 := PySem.F.sub_list_frozenset
        have q8 : (Value.type "list" == Value.type "dict") = false := by decide
        have hl1 : (s.heap.push { cls := .type "set", dict := none, data := .set #[] 0 (.fresh 0 0 B) }).IsList l items := ⟨_, hol, rfl, nl, rfl⟩
        unfold Builtin.«set.__init__» noKeywords Builtin.Frozenset.updateFrom
        generalize hPI : pyIter = PI
        wp_walk
        subst hPI
        refine wpAny_pyIter_list hl1 ?_
        refine wpAny_bind (wpAny_runValue ?_)
        have hh3 : A.in1.in1.in1.handled = none := by simp [hh]
        have hps : (s.heap.push { cls := .type "set", dict := none, data := .set #[] 0 (.fresh 0 0 B) }).objs.size = s.heap.objs.size + 1 := Heap.size_push _ _
        have hneI : l ≠ (s.heap.push { cls := .type "set", dict := none, data := .set #[] 0 (.fresh 0 0 B) }).objs.size := by
          rw [hps]
          exact Nat.ne_of_lt (Nat.lt_succ_of_lt hlS)
        have hSf : s.heap.objs.size ∉ [(s.heap.push { cls := .type "set", dict := none, data := .set #[] 0 (.fresh 0 0 B) }).objs.size, l] := by
          rw [hps]
          simp only [List.mem_cons, List.not_mem_nil, or_false, not_or]
          exact ⟨Nat.ne_of_lt (Nat.lt_succ_self _), Nat.ne_of_gt hlS⟩
        have hval : ∀ (i : Nat) (v : Value), items[i]? = some v → ∃ p, ks[i]? = some p ∧ v = .ref p.2 := fun i v hv => by
          rw [← Array.getElem?_toList, hi, List.getElem?_map] at hv
          obtain ⟨p, hp, e⟩ := Option.map_eq_some_iff.mp hv
          exact ⟨p, hp, e.symm⟩
        refine fillK ((Walks.list hh3 _ l hneI items).toS) s.heap.objs.size hSf ks hsz hf hval s.heap hk (Heap.get?_none_of_le (Nat.le_refl _)) (fun b hb => Heap.get?_none_of_le (by rw [List.mem_singleton.mp hb, hps]; exact Nat.le_succ _))
          (by simp only [Around.in1_units]; omega) (items.size - 0) 0 _ (by omega) (Nat.zero_le _) ⟨⟨_, Heap.get?_push_size _ rfl, rfl, rfl⟩, (hl1.push _)⟩ (fun b o e => Heap.get?_push_of_some _ (Heap.get?_push_of_some _ e)) ?hS0 ?hR
        case hS0 =>
          have hget : ((s.heap.push { cls := .type "set", dict := none, data := .set #[] 0 (.fresh 0 0 B) }).push { cls := .type "list_iterator", data := .fields #[.ref l, .int 0 0] }).get? s.heap.objs.size
              = some { cls := .type "set", dict := none, data := .set #[] 0 (.fresh 0 0 B) } := Heap.get?_push_of_some _ hS
          refine ⟨[], #[], 0, .fresh 0 0 B, ?_, ⟨(fun p hp => nomatch hp), (fun p hp => by simp at hp), Nat.le_refl _⟩⟩
          subst hB
          exact kset_new hget
        case hR =>
          intro s' L es ep t hm hF g hk'
          obtain ⟨h', g', d', tk', os'⟩ := s'
          have eg : g' = s.gens := hm.gens
          have ed : d' = s.drawn := hm.drawn
          have eo : os' = s.os := hm.os
          subst eg; subst ed; subst eo
          show wpAny _ _ _ _ _ _
          refine wpAny_pure ?_
          show wpAny _ _ (ret Value.none) _ _ _
          rw [hsz] at g
          exact wpAny_pure ⟨rfl, h', tk', L, es, ep, t, rfl, hF, g, hk'⟩
      · cases r₂ with
        | error e => exact hr₂
        | ok fl₂ =>
          cases fl₂ with
          | ret r =>
            obtain ⟨rfl, h', tk, L, es, ep, t, rfl, hF, g, hk'⟩ := hr₂
            repeat (any_goals (first | assumption | wp_step))
            exact h _ _ _ _ _ _ hF g hk'
          | _ => exact hr₂.elim
    | _ => exact hr.elim
set_option maxHeartbeats 8000000 in
theorem setK_tuple {l : Addr} {items : Array Value} (ks : List Kp2) {Q : Value → Shared → Prop} (hh : A.handled = none) (hl : s.heap.IsTuple l items) (hi : items.toList = ks.map fun p => Value.ref p.2) (hk : KeysAt s.heap ks) (hf : ks.length < 300) (hu : A.units + 16 < cLine)
    (h : ∀ (h' : Heap) (tk : Nat) L es ep t, KSet w h' s.heap.objs.size L es ep t → Has ks ks.length L → (∀ b o, s.heap.get? b = some o → h'.get? b = some o) → Q (.ref s.heap.objs.size) { s with heap := h', toks := tk }) :
    wpAny (model P w) A (call (.type "set") [.ref l]) Q E s := by
  obtain ⟨c, tl, hmro⟩ := PySem.F.called_set.mro
  have hmade := PySem.F.called_set.made
  have hsub := PySem.F.called_set.sub
  have hsz : items.size = ks.length := by rw [← Array.length_toList, hi, List.length_map]
  refine wpAny_call (codeAny_of_tree ?_)
  show wpAny _ _ (callAny (.type "set") _) _ _ _
  refine wpAny_pure ⟨Code.quiet_builtin _ (by decide +kernel), codeAny_builtin PySem.F.entry_type_call ?_⟩
  rw [Around.under_plain (weight_type_call_type "set" [.ref l] []) rfl]
  have q1 := PySem.F.called_set.notType
  have q2 := PySem.F.called_set.canCreate
  have q3 := PySem.F.typeCall_set_1 (.ref l)
  repeat (any_goals (first | assumption | wp_step))
  obtain ⟨B, hB⟩ : ∃ B : Bool, B = !w.params.followText "set-order" := ⟨_, rfl⟩
  refine codeAny_mono (code_set_led1 (.ref l) (E := E) (Q₁ := fun v s₁ => v = .ref s.heap.objs.size ∧ s₁ = { s with heap := s.heap.push { cls := .type "set", dict := none, data := .set #[] 0 (.fresh 0 0 B) } }) ⟨rfl, by rw [hB]⟩) fun r s₁ hr => ?_
  cases r with
  | error e => exact hr
  | ok fl =>
    cases fl with
    | ret v =>
      obtain ⟨rfl, rfl⟩ := hr
      have hS : (s.heap.push { cls := .type "set", dict := none, data := .set #[] 0 (.fresh 0 0 B) }).get? s.heap.objs.size = some { cls := .type "set", dict := none, data := .set #[] 0 (.fresh 0 0 B) } := Heap.get?_push_size _ rfl
      have hT : Shared.TypeIs { s with heap := s.heap.push { cls := .type "set", dict := none, data := .set #[] 0 (.fresh 0 0 B) } } (.ref s.heap.objs.size) "set" := ⟨_, hS, rfl⟩
      have q4 := PySem.F.called_set.init.lookup
      have q5 := PySem.F.called_set.init.bind (.ref s.heap.objs.size)
      repeat (any_goals (first | assumption | wp_step))
      refine codeAny_mono (codeAny_call_builtin (R := wants (fun r s₂ => r = .none ∧ ∃ h' tk L es ep t, s₂ = { s with heap := h', toks := tk } ∧ KSet w h' s.heap.objs.size L es ep t ∧ Has ks ks.length L ∧ (∀ b o, s.heap.get? b = some o → h'.get? b = some o)) E)
        PySem.F.called_set.init.plain PySem.F.entry_set_init (check_set_init_1 hT ?_)) fun r₂ s₂ hr₂ => ?_
      · have hlS : l < s.heap.objs.size := by
          obtain ⟨ol, hol, _⟩ := hl
          exact Heap.lt_size hol
        have hl1 : (s.heap.push { cls := .type "set", dict := none, data := .set #[] 0 (.fresh 0 0 B) }).IsTuple l items := hl.push _
        obtain ⟨ol, hol, hcl, nl, hdl⟩ := hl1
        obtain ⟨ocls, odict, odata, oslots⟩ := ol
        simp only at hcl hdl
        subst hcl; subst hdl
        have hol' := hol
        have q6 := PySem.F.sub_tuple_set
        have q7 := PySem.F.sub_tuple_frozenset
        have q8 : (Value.type "tuple" == Value.type "dict") = false := by decide
        have hl1 : (s.heap.push { cls := .type "set", dict := none, data := .set #[] 0 (.fresh 0 0 B) }).IsTuple l items := ⟨_, hol, rfl, nl, rfl⟩
        unfold Builtin.«set.__init__» noKeywords Builtin.Frozenset.updateFrom
        generalize hPI : pyIter = PI
        wp_walk
        subst hPI
        refine wpAny_pyIter_tuple hl1 ?_
        refine wpAny_bind (wpAny_runValue ?_)
        have hh3 : A.in1.in1.in1.handled = none := by simp [hh]
        have hps : (s.heap.push { cls := .type "set", dict := none, data := .set #[] 0 (.fresh 0 0 B) }).objs.size = s.heap.objs.size + 1 := Heap.size_push _ _
        have hneI : l ≠ (s.heap.push { cls := .type "set", dict := none, data := .set #[] 0 (.fresh 0 0 B) }).objs.size := by
          rw [hps]
          exact Nat.ne_of_lt (Nat.lt_succ_of_lt hlS)
        have hSf : s.heap.objs.size ∉ [(s.heap.push { cls := .type "set", dict := none, data := .set #[] 0 (.fresh 0 0 B) }).objs.size, l] := by
          rw [hps]
          simp only [List.mem_cons, List.not_mem_nil, or_false, not_or]
          exact ⟨Nat.ne_of_lt (Nat.lt_succ_self _), Nat.ne_of_gt hlS⟩
        have hval : ∀ (i : Nat) (v : Value), items[i]? = some v → ∃ p, ks[i]? = some p ∧ v = .ref p.2 := fun i v hv => by
          rw [← Array.getElem?_toList, hi, List.getElem?_map] at hv
          obtain ⟨p, hp, e⟩ := Option.map_eq_some_iff.mp hv
          exact ⟨p, hp, e.symm⟩
        refine fillK ((Walks.tuple hh3 _ l hneI items).toS) s.heap.objs.size hSf ks hsz hf hval s.heap hk (Heap.get?_none_of_le (Nat.le_refl _)) (fun b hb => Heap.get?_none_of_le (by rw [List.mem_singleton.mp hb, hps]; exact Nat.le_succ _))
          (by simp only [Around.in1_units]; omega) (items.size - 0) 0 _ (by omega) (Nat.zero_le _) ⟨⟨_, Heap.get?_push_size _ rfl, rfl, rfl⟩, (hl1.push _)⟩ (fun b o e => Heap.get?_push_of_some _ (Heap.get?_push_of_some _ e)) ?hS0 ?hR
        case hS0 =>
          have hget : ((s.heap.push { cls := .type "set", dict := none, data := .set #[] 0 (.fresh 0 0 B) }).push { cls := .type "tuple_iterator", data := .fields #[.ref l, .int 0 0] }).get? s.heap.objs.size
              = some { cls := .type "set", dict := none, data := .set #[] 0 (.fresh 0 0 B) } := Heap.get?_push_of_some _ hS
          refine ⟨[], #[], 0, .fresh 0 0 B, ?_, ⟨(fun p hp => nomatch hp), (fun p hp => by simp at hp), Nat.le_refl _⟩⟩
          subst hB
          exact kset_new hget
        case hR =>
          intro s' L es ep t hm hF g hk'
          obtain ⟨h', g', d', tk', os'⟩ := s'
          have eg : g' = s.gens := hm.gens
          have ed : d' = s.drawn := hm.drawn
          have eo : os' = s.os := hm.os
          subst eg; subst ed; subst eo
          show wpAny _ _ _ _ _ _
          refine wpAny_pure ?_
          show wpAny _ _ (ret Value.none) _ _ _
          rw [hsz] at g
          exact wpAny_pure ⟨rfl, h', tk', L, es, ep, t, rfl, hF, g, hk'⟩
      · cases r₂ with
        | error e => exact hr₂
        | ok fl₂ =>
          cases fl₂ with
          | ret r =>
            obtain ⟨rfl, h', tk, L, es, ep, t, rfl, hF, g, hk'⟩ := hr₂
            repeat (any_goals (first | assumption | wp_step))
            exact h _ _ _ _ _ _ hF g hk'
          | _ => exact hr₂.elim
    | _ => exact hr.elim
end
end Qk
set_option maxRecDepth 100000
set_option maxHeartbeats 4000000
namespace Qk
open PySem PySem.Spec PyProof.Rows L2
def keyS (x : Str) : NestedKey := .text x
def nkQ (q : Qd) : NestedKey := .tup [.tup (q.1.map keyS), .text q.2]
theorem map_keyS_inj : ∀ {xs ys : List Str}, xs.map keyS = ys.map keyS → xs = ys
  | [], [], _ => rfl
  | [], _ :: _, h => nomatch h
  | _ :: _, [], h => nomatch h
  | x :: xs, y :: ys, h => by
    injection h with h1 h2
    injection h1 with h1
    rw [h1, map_keyS_inj h2]
theorem keyQ_inj {p q : Qd} (h : nkQ p = nkQ q) : p = q := by
  unfold nkQ at h
  injection h with h
  injection h with h1 h2
  injection h1 with h1
  injection h2 with h2
  injection h2 with h2
  exact Prod.ext (map_keyS_inj h1) h2
theorem depth_keyS : ∀ xs : List Str, NestedKey.depthAll (xs.map keyS) = 0
  | [] => rfl
  | _ :: xs => by
    rw [List.map_cons, NestedKey.depthAll, depth_keyS xs]
    rfl
theorem depth_keyQ (q : Qd) : (nkQ q).depth ≤ 8 := by
  unfold nkQ
  simp only [NestedKey.depth, NestedKey.depthAll, depth_keyS]
  decide
theorem all_keyS {h : Heap} : ∀ {us : List Value} {xs : List Str}, PyProof.Rows.StrsAre us xs → NestedAll h (xs.map keyS) us
  | _, _, .nil => .nil
  | _, _, .cons x t r => .cons (.text x t) (all_keyS r)
theorem IsQ.key {h : Heap} {a : Addr} {q : Qd} (x : IsQ h (.ref a) q) : KAt h (nkQ q) a := by
  obtain ⟨a', c, o, oc, t, us, n, m, e, ho, hc, hd, hoc, hcc, hdc, hs⟩ := x
  cases e
  exact ⟨.tup ho hc hd (.cons (.tup hoc hcc hdc (by simpa using all_keyS hs)) (.cons (.text _ _) .nil)), depth_keyQ q⟩
/-- the pairs of a question and where it stands -/
abbrev QPs := List (Qd × Addr)
def toK (L : QPs) : List Kp2 := L.map fun p => (nkQ p.1, p.2)
def KSet0 (w : World) (h : Heap) (a : Addr) (L : QPs) : Prop := ∃ es ep t, KSet w h a (toK L) es ep t
/-- the set of questions at a -/
def SetQ (w : World) (a : Addr) (L : QPs) : HO := .ext fun h => KSet0 w h a L
theorem setQ_new {P : Program} {w : World} {H : Hp} {h : Heap} {a : Addr} {L : QPs} (R : KSet0 w h a L) : ObjOk P w H h a (SetQ w a L) := by
  have ⟨es, ep, t, g⟩ := R
  have ⟨o, ho, _⟩ := g.ob
  exact ⟨R, ⟨o, ho⟩, fun h1 h2 p k => by
    have ⟨es', ep', t', g'⟩ : KSet0 w h1 a L := p
    exact ⟨es', ep', t', g'.keep fun u e => k u e⟩⟩
theorem fst_toK (L : QPs) : (toK L).map Prod.fst = L.map fun p => nkQ p.1 := by
  unfold toK
  rw [List.map_map]
  rfl
theorem mem_keys {L : QPs} {q : Qd} : nkQ q ∈ (toK L).map Prod.fst ↔ q ∈ L.map Prod.fst := by
  rw [fst_toK, List.mem_map, List.mem_map]
  exact ⟨fun ⟨p, hp, e⟩ => ⟨p, hp, keyQ_inj e⟩, fun ⟨p, hp, e⟩ => ⟨p, hp, by rw [e]⟩⟩
theorem nodup_keys {L : QPs} (h : ((toK L).map Prod.fst).Nodup) : (L.map Prod.fst).Nodup := by
  rw [fst_toK] at h
  have e : (L.map fun p => nkQ p.1) = (L.map Prod.fst).map nkQ := by rw [List.map_map]; rfl
  rw [e] at h
  exact List.Pairwise.of_map nkQ (fun a b hne e => hne (congrArg nkQ e)) h
theorem refs_q : ∀ {L : QPs} {us : List Value}, Vals (L.map fun p => V.ref p.2) us → us = (toK L).map fun p => Value.ref p.2
  | [], _, .nil => rfl
  | p :: L, _, .cons r t => by
    cases r
    show _ = Value.ref p.2 :: _
    rw [refs_q t]
    rfl
section
variable {X : Cx}
theorem Inv.isQ {pins : List (Addr × Obj)} {σ : L2.St} {H : Hp} {s : Shared} {a : Addr} {q : Qd} (I : Inv X pins σ H s) (h : QAt H a q.1 q.2) : IsQ s.heap (.ref a) q := by
  obtain ⟨c, g1, g2⟩ := h
  obtain ⟨_, i1, r1, o, ho, hc, n, hd⟩ := I.hok _ _ g1
  obtain ⟨_, i2, r2, oc, hoc, hcc, m, hdc⟩ := I.hok _ _ g2
  obtain ⟨u1, u2, rfl, ra, rb⟩ := vals2 r1
  obtain rfl : u1 = Value.ref c := ra
  obtain ⟨tk, rfl⟩ := rb
  exact ⟨a, c, o, oc, tk, i2, n, m, rfl, ho, hc, hd, hoc, hcc, hdc, r2.strs⟩
theorem QL.pairs {H : Hp} : ∀ {xs : List V} {qs : List Qd}, QL H xs qs → ∃ L : QPs, xs = L.map (fun p => V.ref p.2) ∧ qs = L.map Prod.fst ∧ ∀ p ∈ L, QAt H p.2 p.1.1 p.1.2
  | _, _, .nil => ⟨[], rfl, rfl, fun p hp => nomatch hp⟩
  | _, _, .cons (b := q) ⟨t, e, z⟩ r => by
    obtain ⟨L, rfl, rfl, h⟩ := QL.pairs r
    refine ⟨(q, t) :: L, by rw [e]; rfl, rfl, fun p hp => ?_⟩
    rcases List.mem_cons.mp hp with rfl | hp
    · exact z
    · exact h p hp
/-- the members of set(xs): questions of xs, each of them once -/
structure SetOfQ (H : Hp) (xs : List V) (qs : List Qd) (M : QPs) : Prop where
  at_ : ∀ p ∈ M, QAt H p.2 p.1.1 p.1.2
  sub : ∀ p ∈ M, V.ref p.2 ∈ xs
  mem : ∀ q, q ∈ M.map Prod.fst ↔ q ∈ qs
  nd : (M.map Prod.fst).Nodup
def rSetQ (K : PySem.W.Frag) (w : World) : List V → Hp → VK → Prop := fun vs H Q => ∃ (l : Addr) (xs : List V) (qs : List Qd), vs = [.ref l] ∧ (SqL K H l xs ∨ SqT K H l xs) ∧ QL H xs qs ∧ xs.length < 300 ∧
  ∀ (p : Addr) (M : QPs), H p = none → SetOfQ H xs qs M → Q (.ref p) (upd H p (SetQ w p M))
theorem cr_setQ (hc : X.calm = true) (hu : X.A.units + 16 < cLine) : CallR X (.type "set") (rSetQ X.K X.w) := by
  intro pins s σ H vs us Q I r h
  obtain ⟨l, xs, qs, rfl, hs, hq, hz, q⟩ := h
  obtain ⟨u, rfl, rx⟩ := vals1 r
  cases rx
  obtain ⟨L, rfl, rfl, at_⟩ := hq.pairs
  have keys : KeysAt s.heap (toK L) := fun p hp => by
    obtain ⟨x, hx, rfl⟩ := List.mem_map.mp hp
    exact (Inv.isQ I (at_ x hx)).key
  have hn : H s.heap.objs.size = none := I.hok.fresh (Nat.le_refl _)
  have len : (toK L).length < 300 := by
    unfold toK
    rw [List.length_map] at hz ⊢
    exact hz
  have fin : ∀ (h' : Heap) (tk : Nat) M es ep t, KSet X.w h' s.heap.objs.size M es ep t → Has (toK L) (toK L).length M → (∀ b o, s.heap.get? b = some o → h'.get? b = some o) →
      EP X pins σ Q (.ref s.heap.objs.size) { s with heap := h', toks := tk } := fun h' tk M es ep t g gh hk => by
    have back : ∀ M : List Kp2, (∀ p ∈ M, p ∈ toK L) → ∃ M' : QPs, (∀ p ∈ M', p ∈ L) ∧ M = toK M' := by
      intro M
      induction M with
      | nil => exact fun _ => ⟨[], (fun p hp => nomatch hp), rfl⟩
      | cons x M ih =>
        intro hM
        obtain ⟨M', m1, m2⟩ := ih fun p hp => hM p (List.mem_cons_of_mem _ hp)
        obtain ⟨y, hy, e⟩ := List.mem_map.mp (hM x List.mem_cons_self)
        refine ⟨y :: M', fun p hp => ?_, ?_⟩
        · rcases List.mem_cons.mp hp with z | z
          · rw [z]; exact hy
          · exact m1 p z
        · rw [m2, ← e]; rfl
    obtain ⟨M', m1, rfl⟩ := back M fun p hp => List.mem_of_mem_take (gh.sub p hp)
    refine ⟨.ref s.heap.objs.size, _, I.laid (t' := tk) hk (Nat.le_refl _) (setQ_new ⟨es, ep, t, g⟩), rfl, q _ M' hn ⟨fun p hp => at_ p (m1 p hp), fun p hp => List.mem_map.mpr ⟨p, m1 p hp, rfl⟩, fun z => ⟨fun hz => ?_, fun hz => ?_⟩, nodup_keys g.nd⟩⟩
    · obtain ⟨p, hp, e⟩ := List.mem_map.mp hz
      exact List.mem_map.mpr ⟨p, m1 p hp, e⟩
    · obtain ⟨p, hp, rfl⟩ := List.mem_map.mp hz
      refine mem_keys.mp (gh.all (nkQ p.1, p.2) ?_)
      rw [List.take_length]
      exact List.mem_map.mpr ⟨p, hp, rfl⟩
  rcases hs with hs | hs
  · obtain ⟨its, rv, pl, _⟩ := I.list hs
    exact setK_list (toK L) (I.ok.hd hc) pl.isList (by simpa using refs_q rv) keys len hu fin
  · obtain ⟨its, rv, pl, _⟩ := I.tuple hs
    exact setK_tuple (toK L) (I.ok.hd hc) pl (by simpa using refs_q rv) keys len hu fin
/-- the question of a value that is a member -/
def kOf (M : QPs) : Value → Qd
  | .ref a => ((M.find? fun p => decide (p.2 = a)).map Prod.fst).getD ([], "")
  | _ => ([], "")
theorem kOf_at {M : QPs} {p : Qd × Addr} (hp : p ∈ M) : ∃ q ∈ M, q.2 = p.2 ∧ kOf M (.ref p.2) = q.1 := by
  cases hf : M.find? fun q => decide (q.2 = p.2) with
  | none => exact absurd (decide_eq_true rfl) (List.find?_eq_none.mp hf p hp)
  | some q =>
    refine ⟨q, List.mem_of_find?_eq_some hf, (by have := List.find?_some hf; simpa using this), ?_⟩
    show ((M.find? fun q => decide (q.2 = p.2)).map Prod.fst).getD _ = _
    rw [hf]
    rfl
def rSortSetQ (w : World) : List V → Hp → VK → Prop := fun vs H Q => ∃ (a : Addr) (M : QPs), vs = [.ref a] ∧ H a = some (SetQ w a M) ∧ (∀ p ∈ M, QAt H p.2 p.1.1 p.1.2) ∧ (∀ p ∈ M, ∀ c ∈ p.1.1, PyData.strOk c = true) ∧
  ∀ (ys : List V) (zs : List Qd) (p : Addr), H p = none → QL H ys zs → zs.Perm (M.map Prod.fst) → rising zs → (∀ y ∈ ys, ∃ q ∈ M, y = V.ref q.2) → Q (.ref p) (upd H p (.lst ys))
theorem cr_sortSetQ (hc : X.calm = true) (hu : X.A.units + 80 < cLine) : CallR X (.builtin "sorted") (rSortSetQ X.w) := by
  intro pins s σ H vs us Q I r h
  obtain ⟨a, M, rfl, ha, hm, ho, q⟩ := h
  obtain ⟨u, rfl, rx⟩ := vals1 r
  cases rx
  have ⟨es, ep, t, g⟩ : KSet0 X.w s.heap a M := (I.hok a _ ha).1
  obtain ⟨ob, gob, gex, gd⟩ := g.ob
  have hzs : es.size = M.length := by rw [sz_rows g.rows]; exact List.length_map _
  have hfew : M.length < 300 := by
    have := g.few
    unfold toK at this
    rw [List.length_map] at this
    exact this
  have hes : es.toList.map (·.2) = M.map fun p => Value.ref p.2 := by
    rw [g.rows, toK, List.map_map, List.map_map]
    rfl
  have isq : ∀ v, v ∈ (M.map fun p => Value.ref p.2) → IsQ s.heap v (kOf M v) ∧ (∀ c ∈ (kOf M v).1, PyData.strOk c = true) := fun v hv => by
    obtain ⟨p, hp, rfl⟩ := List.mem_map.mp hv
    obtain ⟨p', h1, h2, h3⟩ := kOf_at hp
    rw [h3, ← h2]
    exact ⟨Inv.isQ I (hm p' h1), ho p' h1⟩
  refine Calls.call_function_entry PyProof.Rows.kind_sorted PyProof.Rows.plain_sorted PyProof.Rows.entry_sorted (args_sorted1 _) ?_
  unfold Builtin.«sorted»
  refine wpAny_bind (m := checkCount "sorted" 1 1 _) (wpAny_pure ?_)
  refine wpAny_bind (collect_set (A := X.A.in1) (I.ok.hd hc) ⟨ob, gob, gex.1, gd⟩ g.fits (by unfold scanBound; omega) g.tab.up g.led fun s1 vs k1 hz g1 o1 pm => ?_)
  rw [hes] at pm
  have hvl : vs.length = M.length := by rw [pm.length_eq, List.length_map]
  refine wpAny_bind (wpAny_newList ?_ (by rw [sizeLine_eq]; omega))
  have hoL : (s1.heap.push (seqObj "list" vs.toArray 0)).get? s1.heap.objs.size = some (seqObj "list" vs.toArray 0) := Heap.get?_push_size _ rfl
  refine wpAny_bind (wpAny_holding (wpAny_call_entry PyProof.Rows.slot_list_sort ⟨_, hoL, rfl⟩ PyProof.Rows.entry_list_sort
    (SrtO.list_sort_ord (s := { s1 with heap := s1.heap.push (seqObj "list" vs.toArray 0) }) (swo_q (kOf M)) hoL (by rw [sizeLine_eq]; omega) (fun h2 => ?_) fun out h1 h2 => ⟨_, rfl, ?_⟩) (args_list_sort _)))
  · refine q_sortable (by show X.A.units + 1 + 1 + 64 < cLine; omega) (by omega) (fun v hv => (isq v (pm.mem_iff.mp hv)).2) (fun v hv => (isq v (pm.mem_iff.mp hv)).1.keeps fun b o e _ => Heap.get?_push_of_some _ (k1 b o e)) fun o e => ?_
    have e' : some o = some (seqObj "list" vs.toArray 0) := e.symm.trans hoL
    cases e'
    intro c
    exact absurd (Value.type.inj c) (by decide)
  · have pmO : out.Perm (M.map fun p => Value.ref p.2) := h2.perm.trans pm
    have h3 : ∀ u ∈ out, ∃ a, u = Value.ref a := fun u hu' => by
      obtain ⟨p, _, e⟩ := List.mem_map.mp (pmO.mem_iff.mp hu')
      exact ⟨p.2, e.symm⟩
    obtain ⟨n, hnO⟩ := sortedHeap_at (vs := vs) (out := out.toArray) hoL
    have old : ∀ b o, s.heap.get? b = some o → (sortedHeap (s1.heap.push (seqObj "list" vs.toArray 0)) s1.heap.objs.size vs out.toArray).get? b = some o := fun b o e => by
      have e1 := k1 b o e
      have lt := Heap.lt_size e1
      rw [sortedHeap_old (Nat.ne_of_lt lt) (by rw [size_push']; exact Nat.lt_succ_of_lt lt)]
      exact Heap.get?_push_of_some _ e1
    have hn : H s1.heap.objs.size = none := I.hok.fresh hz
    have lo : (out.map backV).length ≤ sizeLine := by rw [List.length_map, pmO.length_eq, List.length_map, sizeLine_eq]; omega
    have J : Inv X pins σ (upd H s1.heap.objs.size (.lst (out.map backV))) { s with heap := sortedHeap (s1.heap.push (seqObj "list" vs.toArray 0)) s1.heap.objs.size vs out.toArray, gens := s1.gens, drawn := s1.drawn, toks := s1.toks } :=
      I.call (ch := []) (Un.laid old hz hn) (I.hok.laid old hz ⟨lo, out, n, vals_back h3, hnO⟩) (by rw [g1]; exact I.bare) (fun _ z => nomatch z)
    have qat : ∀ v ∈ out, ∃ t, backV v = V.ref t ∧ QAt H t (kOf M v).1 (kOf M v).2 := fun v hv => by
      obtain ⟨p, hp, rfl⟩ := List.mem_map.mp (pmO.mem_iff.mp hv)
      obtain ⟨p', h1, h2, h3⟩ := kOf_at hp
      refine ⟨p.2, rfl, ?_⟩
      rw [h3, ← h2]
      exact hm p' h1
    have ql : ∀ {l : List Value}, (∀ v ∈ l, ∃ t, backV v = V.ref t ∧ QAt H t (kOf M v).1 (kOf M v).2) → QL H (l.map backV) (l.map (kOf M)) := by
      intro l
      induction l with
      | nil => exact fun _ => .nil
      | cons v l ih => exact fun hl => .cons (hl v List.mem_cons_self) (ih fun u hu' => hl u (List.mem_cons_of_mem _ hu'))
    have kk : (M.map fun p => Value.ref p.2).map (kOf M) = M.map Prod.fst := by
      rw [List.map_map]
      refine List.map_congr_left fun p hp => ?_
      obtain ⟨p', h1, h2, h3⟩ := kOf_at hp
      show kOf M (.ref p.2) = p.1
      rw [h3]
      have a1 := hm p' h1
      rw [h2] at a1
      exact QAt.uniq a1 (hm p hp)
    have hQ := q (out.map backV) (out.map (kOf M)) s1.heap.objs.size hn (ql qat) (by rw [← kk]; exact pmO.map (kOf M)) (List.pairwise_map.mpr h1) fun y hy => by
      obtain ⟨v, hv, rfl⟩ := List.mem_map.mp hy
      obtain ⟨p, hp, rfl⟩ := List.mem_map.mp (pmO.mem_iff.mp hv)
      exact ⟨p, hp, rfl⟩
    have eS : { s1 with heap := sortedHeap (s1.heap.push (seqObj "list" vs.toArray 0)) s1.heap.objs.size vs out.toArray } = { s with heap := sortedHeap (s1.heap.push (seqObj "list" vs.toArray 0)) s1.heap.objs.size vs out.toArray, gens := s1.gens, drawn := s1.drawn, toks := s1.toks } := by
      cases s1
      cases s
      cases o1
      rfl
    show wpAny _ _ _ _ _ _
    exact wpAny_pure ⟨_, rfl, by rw [eS]; exact ⟨.ref s1.heap.objs.size, _, J, rfl, hQ⟩⟩
end
end Qk
set_option maxRecDepth 100000
set_option maxHeartbeats 4000000
namespace Qk
open PySem PySem.Spec PyProof.Rows L2
structure Dist (qs zs : List Qd) : Prop where
  nd : zs.Nodup
  up : rising zs
  mem : ∀ q, q ∈ zs ↔ q ∈ qs
theorem Dist.uniq {qs rs zs ys : List Qd} (h1 : Dist qs zs) (h2 : Dist rs ys) (h : ∀ q, q ∈ qs ↔ q ∈ rs) : zs = ys :=
  perm_ltQ ((List.perm_ext_iff_of_nodup h1.nd h2.nd).mpr fun q => ((h1.mem q).trans (h q)).trans (h2.mem q).symm) h1.up h2.up
/-- what is behind place i -/
theorem cut_behind (i : Nat) (xs : List V) : cutV xs (some ((i : Int) + 1)) none = xs.drop (i + 1) := by
  have e1 : ((i : Int) + 1) = ((i + 1 : Nat) : Int) := by omega
  rw [e1]
  unfold cutV
  rw [HT.sIx_none, HT.sIx_nat]
  by_cases h : i + 1 ≤ xs.length
  · rw [Nat.min_eq_left h]
    exact List.take_of_length_le (by rw [List.length_drop]; omega)
  · rw [Nat.min_eq_right (by omega), List.drop_of_length_le (Nat.le_refl _), List.drop_of_length_le (by omega)]
    simp
end Qk
set_option maxRecDepth 100000
set_option maxHeartbeats 4000000
set_option maxRecDepth 100000
set_option maxHeartbeats 4000000
namespace PySem.W
open PySem PyProof.Rows
theorem qo_bind (self : Value) : bindSpecial (.builtin "object.__ne__") self = pure (.builtin "object.__ne__", [self]) :=
  (Slot.of (T := "object") (name := "__ne__") (owner := "object") (n := "__ne__") (by rw [typeLookup_type, builtinLookup_eq_fast]; kernel_rfl) (by decide +kernel) (by decide +kernel) (by decide +kernel)
    (.inl (by decide +kernel)) (by rw [isSubtype_type]; kernel_rfl)).bind self
theorem qo_plain : plainId "object.__ne__" = true := by decide +kernel
section
variable {prog : Program} {w : World} {A A₀ : Around} {E : Value → Shared → Prop} {s : Shared} {K : Frag} {x C L f : Addr} {h₀ : Heap} {m : Str → Option Value} {ox : Obj} {od : Option Obj} {name : Str} {b tb : Value}
/-- what an own == may answer -/
def BoolGiven (Q : Bool → Shared → Prop) (v : Value) (s' : Shared) : Prop := ∃ r, v = .bool r ∧ Q r s'
theorem qo_ne {Q : Value → Shared → Prop} (hu : A.units + 1 < cLine) (F : Fr h₀ L s.heap m) (X₀ : K.In h₀) (I : InstAt s.heap x ox C od) (hb : Looks (model prog w) s.heap (typeOf b) tb) (hn : notFirst K C tb = true)
    (hs : findIn K (.ref C) "__ne__" = some (some (.builtin "object.__ne__"))) (hq : findIn K (.ref C) "__eq__" = some (some (.ref f))) (hf : isFn K (.ref f) = true) (ho : subIn K (.ref C) (.type "object") = some true)
    (h : wpAny (model prog w) A.in1 (call (.ref f) [.ref x, b]) (BoolGiven fun r s' => Q (.bool (!r)) s') E s) : wpAny (model prog w) A (richCompare .NotEq (.ref x) b) Q E s := by
  have X := X₀.keeps F.keep
  have hi : Looks (model prog w) s.heap (isInstance (.ref x) (.type "object")) true := I.type.andThen (looks_subIn X ho)
  have run : wpAny (model prog w) A.in1 (Builtin.«object.__ne__» ⟨[.ref x, b], []⟩) (fun fin s' => match fin with | .done fl => (match fl with | .ret v => Q v s' ∧ ∃ r, v = .bool r | _ => False) | .again _ => False) E s := by
    unfold Builtin.«object.__ne__»
    show wpAny _ _ (do
      cRoomFor "comparison" [.ref x, b]
      match ← callSpecialIfBound? (.ref x) "__eq__" [b] with
      | some .notImplemented | none => ret .notImplemented
      | some r => ret (.bool (!(← truthy r)))) _ _ s
    refine wpAny_bind (wpAny_cRoomFor (by show A.units + 1 < cLine; exact hu) ?_)
    refine wpAny_bind (ifBound_K X I hq hf (wpAny_mono h (fun v s' hv => ?_) fun _ _ e => e))
    obtain ⟨r, rfl, hr⟩ := hv
    show wpAny _ _ (truthy (.bool r) >>= fun t => ret (.bool (!t))) _ _ s'
    refine wpAny_bind (wpAny_truthy_bool (wpAny_pure ?_))
    exact ⟨hr, _, rfl⟩
  have one : wpAny (model prog w) A (tryCompare (.ref x) (cmpInfo .NotEq).2.1 b) (fun r s' => ∃ v, r = some v ∧ Q v s') E s := by
    unfold tryCompare
    refine wpAny_bind ?_
    simp only [callSpecialIfBound?, bindSpecialIfBound?]
    refine wpAny_holding (wpAny_bind (wpAny_bind (wpAny_bind (I.type.here ((looks_findIn X hs).here ?_)))))
    have fin : wpAny (model prog w) A (call (.builtin "object.__ne__") ([.ref x] ++ [b]) >>= fun v => pure (some v)) (fun r s' => wpAny (model prog w) A (match r with | some .notImplemented | none => pure none | some v => pure (some v)) (fun r s' => ∃ v, r = some v ∧ Q v s') E s') E s := by
      refine wpAny_bind (wpAny_call (codeAny_call_builtin qo_plain PySem.F.cmpEntry_ne (check_slot PySem.F.cmpKind_ne PySem.F.cmpSplit_ne hi (PySem.F.cmpArgs_ne _ _) (wpAny_mono run (fun fin s' hv => ?_) fun _ _ e => e))))
      cases fin with
      | again c => exact hv.elim
      | done fl =>
        cases fl with
        | ret v =>
          obtain ⟨q, r, rfl⟩ := hv
          exact wpAny_pure (wpAny_pure ⟨_, rfl, q⟩)
        | _ => exact hv.elim
    refine wpAny_bind (wpAny_askSetting (wpAny_ite ?_))
    simp only [qo_bind]
    split
    · exact wpAny_bind (wpAny_pure (wpAny_pure (by exact fin)))
    · exact wpAny_tryCatch (wpAny_bind (wpAny_pure (wpAny_pure (by exact fin))))
  unfold richCompare
  simp only [oneThing_ref]
  refine wpAny_holding (wpAny_bind (wpAny_cRoomFor (Nat.lt_of_succ_lt hu) ?_))
  refine wpAny_bind (I.type.here (wpAny_bind (hb.here ?_)))
  split
  · rename_i q
    have e : subIn K tb (.ref C) = some false := by
      rcases Bool.or_eq_true_iff.mp hn with e | e
      · rw [beq_iff_eq.mp e] at q; simp at q
      · exact beq_iff_eq.mp e
    refine wpAny_bind ((looks_subIn X e).here ?_)
    simp only [Bool.false_eq_true, if_false]
    refine wpAny_bind (wpAny_mono one (fun r s' z => ?_) fun _ _ e => e)
    obtain ⟨v, rfl, hq⟩ := z
    exact wpAny_pure hq
  · refine wpAny_bind (wpAny_pure ?_)
    simp only [Bool.false_eq_true, if_false]
    refine wpAny_bind (wpAny_mono one (fun r s' z => ?_) fun _ _ e => e)
    obtain ⟨v, rfl, hq⟩ := z
    exact wpAny_pure hq
end
end PySem.W
namespace Qk
open PySem PySem.Spec PyProof.Rows L2
/-- what a class with an own == has in the written part -/
structure OwnEq (K : PySem.W.Frag) (C f : Addr) : Prop where
  eq : PySem.W.findIn K (.ref C) "__eq__" = some (some (.ref f))
  fn : PySem.W.isFn K (.ref f) = true
  ne : PySem.W.findIn K (.ref C) "__ne__" = some (some (.builtin "object.__ne__"))
  ob : PySem.W.subIn K (.ref C) (.type "object") = some true
section
variable {X : Cx} {C f : Addr} {fd : FuncData} {n : Nat} {sp : Sp}
/-- x == y by x's own ==; x != y: the opposite -/
def rOwn (K : PySem.W.Frag) (C : Addr) (sp : Sp) (neg : Bool) : R2 := fun x y H Q => ∃ (a dx : Addr) (fs : List (Str × V)) (tb : Value), x = .ref a ∧ H a = some (.ins C dx fs) ∧ TyX K H y tb ∧ PySem.W.notFirst K C tb = true ∧
  sp [x, y] H (fun v H' => ∃ r, v = .bl r ∧ Q (.bl (if neg = true then !r else r)) H') E0
theorem run_own {A : Around} {pins : List (Addr × Obj)} {σ : L2.St} {H : Hp} {s : Shared} {Q : VK} {us : List Value} {vs : List V} (F : FnOk X.prog X.w X.K X.mg X.base CX0 n f fd ["self", "other"] sp) (hA : Sub X n A) (hb : Binds X.K fd ["self", "other"] [])
    (I : Inv X pins σ H s) (r : Vals vs us) (h : sp vs H Q E0) : wpAny (model X.prog X.w) A (call (.ref f) us) (EP X pins σ Q) X.xe s := by
  have e0 : Env0 X.prog X.w X.K X.mg X.base A X.stack s H := by
    have e := I.env0
    exact ⟨by rw [hA.fr]; exact e.frames, e.mod, e.bs, e.bsz, e.funs, e.frf, e.hok, e.bare⟩
  have hl : (us ++ ([] : List Value)).length = ["self", "other"].length := by
    rw [List.append_nil, ← r.length]
    exact F.len _ _ _ _ h
  have hbd := hb s us I.kIn hl
  rw [List.append_nil] at hbd
  refine wpAny_call (codeAny_mono (F.run A X.stack s H ⟨us, []⟩ us vs Q E0 hA.room e0 hbd r h) fun r s' hq => ?_)
  cases r with
  | error e => exact False.elim hq
  | ok fl =>
    cases fl with
    | ret u => exact I.after hq
    | next => exact False.elim hq
    | brk => exact False.elim hq
    | cont => exact False.elim hq
theorem op_eqO (O : OwnEq X.K C f) (F : FnOk X.prog X.w X.K X.mg X.base CX0 n f fd ["self", "other"] sp) (hr : Room n X.A) (hb : Binds X.K fd ["self", "other"] []) : OpR X (compareOp .Eq) (rOwn X.K C sp false) := by
  intro pins s σ H x y v u Q I rx ry hq
  obtain ⟨a, dx, fs, tb, rfl, ha, ty, hn, h⟩ := hq
  cases rx
  obtain ⟨P, Z, hP, _⟩ := kit_of I ry ty
  obtain ⟨mA, J, _⟩ := ins_get I.hok ha
  obtain ⟨od, J, _⟩ := J.look
  obtain ⟨m, hF⟩ := I.fr
  refine PySem.W.cmp_K (op := .Eq) (tb := tb) hr.units0 hF I.ok.mod.kin J (Z.ty _ _ I.kIn hP) hn O.eq O.fn ?_
  refine wpAny_mono (run_own (us := [.ref a, u]) (vs := [.ref a, y]) F ⟨hr, rfl⟩ hb I (.cons rfl (.cons ry .nil)) h) (fun r s' z => ?_) fun _ _ e => e
  obtain ⟨w, H', I', rw', r, rfl, q⟩ := z
  cases rw'
  exact ⟨.bl r, H', I', rfl, q⟩
theorem op_neO (O : OwnEq X.K C f) (F : FnOk X.prog X.w X.K X.mg X.base CX0 n f fd ["self", "other"] sp) (hr : Room (n + 1) X.A) (hb : Binds X.K fd ["self", "other"] []) : OpR X (compareOp .NotEq) (rOwn X.K C sp true) := by
  intro pins s σ H x y v u Q I rx ry hq
  obtain ⟨a, dx, fs, tb, rfl, ha, ty, hn, h⟩ := hq
  cases rx
  obtain ⟨P, Z, hP, _⟩ := kit_of I ry ty
  obtain ⟨mA, J, _⟩ := ins_get I.hok ha
  obtain ⟨od, J, _⟩ := J.look
  obtain ⟨m, hF⟩ := I.fr
  show wpAny (model X.prog X.w) X.A (richCompare .NotEq (.ref a) u) (EP X pins σ Q) X.xe s
  refine PySem.W.qo_ne (tb := tb) (by have := hr.units; omega) hF I.ok.mod.kin J (Z.ty _ _ I.kIn hP) hn O.ne O.eq O.fn O.ob ?_
  refine wpAny_mono (run_own (us := [.ref a, u]) (vs := [.ref a, y]) F (Sub.in1 ⟨hr, rfl⟩) hb I (.cons rfl (.cons ry .nil)) h) (fun r s' z => ?_) fun _ _ e => e
  obtain ⟨w, H', I', rw', r, rfl, q⟩ := z
  cases rw'
  exact ⟨r, rfl, .bl (!r), H', I', rfl, q⟩
end
end Qk
set_option maxRecDepth 100000
set_option maxHeartbeats 4000000
namespace Qk
open PySem PySem.Spec PyProof.Rows L2
/-- a column, as a text -/
def colS (z : Str) : Bool := (decide (1 ≤ z.cps.size) && decide (z.cps.size ≤ 8)) && z.cps.toList.all fun c => decide (97 ≤ c) && decide (c ≤ 122)
theorem menu_col : ∀ c ∈ menu, colS c = true := by decide +kernel
theorem ascii_tab : ((List.range 128).all fun c => (Unicode.isAlpha c == (decide (65 ≤ c) && decide (c ≤ 90) || decide (97 ≤ c) && decide (c ≤ 122))) && (Unicode.isLower c == (decide (97 ≤ c) && decide (c ≤ 122))) &&
    ((Unicode.isUpper c || Unicode.isTitle c) == (decide (65 ≤ c) && decide (c ≤ 90)))) = true := by decide +kernel
theorem ascii_facts {c : Nat} (h : c < 128) : Unicode.isAlpha c = (decide (65 ≤ c) && decide (c ≤ 90) || decide (97 ≤ c) && decide (c ≤ 122)) ∧ Unicode.isLower c = (decide (97 ≤ c) && decide (c ≤ 122)) ∧
    (Unicode.isUpper c || Unicode.isTitle c) = (decide (65 ≤ c) && decide (c ≤ 90)) := by
  have := List.all_eq_true.mp ascii_tab c (List.mem_range.mpr h)
  simp only [Bool.and_eq_true, beq_iff_eq] at this
  exact ⟨this.1.1, this.1.2, this.2⟩
/-- s.isascii() and s.isalpha() and s.islower(): all signs are a to z, and there is one -/
theorem low_iff (z : Str) (h : 1 ≤ z.cps.size) : (Txt.isascii z && (Txt.isalpha z && Txt.islower z)) = z.cps.toList.all fun c => decide (97 ≤ c) && decide (c ≤ 122) := by
  have e1 : Txt.isascii z = z.cps.toList.all fun c => decide (c < 128) := by
    show z.cps.all (· < 128) = _
    rw [← Array.all_toList]
  have e2 : Txt.isalpha z = z.cps.toList.all Unicode.isAlpha := by
    show (decide (z.length > 0) && z.cps.all Unicode.isAlpha) = _
    rw [decide_eq_true (show z.length > 0 from h), Bool.true_and, ← Array.all_toList]
  have e3 : Txt.islower z = (z.cps.toList.any Unicode.isLower && !z.cps.toList.any fun c => Unicode.isUpper c || Unicode.isTitle c) := by
    show (z.cps.any Unicode.isLower && !z.cps.any fun c => Unicode.isUpper c || Unicode.isTitle c) = _
    rw [← Array.any_toList, ← Array.any_toList]
  rw [e1, e2, e3]
  have hl : z.cps.toList ≠ [] := by
    intro q
    have : z.cps.toList.length = 0 := by rw [q]; rfl
    rw [Array.length_toList] at this
    omega
  generalize z.cps.toList = l at hl
  rw [Bool.eq_iff_iff]
  simp only [Bool.and_eq_true, List.all_eq_true, List.any_eq_true, Bool.not_eq_true', List.any_eq_false, decide_eq_true_eq]
  constructor
  · rintro ⟨ha, hb, ⟨d, hd, hdl⟩, hc⟩ c hcm
    obtain ⟨f1, f2, f3⟩ := ascii_facts (ha c hcm)
    have h1 := hb c hcm
    have h2 := hc c hcm
    rw [f3] at h2
    rw [f1] at h1
    simp only [Bool.or_eq_true, Bool.and_eq_true, decide_eq_true_eq] at h1 h2
    rcases h1 with h1 | h1
    · exact absurd h1 h2
    · exact h1
  · intro ha
    have lt : ∀ c ∈ l, c < 128 := fun c hc => by
      have := ha c hc
      omega
    refine ⟨lt, fun c hc => ?_, ?_, fun c hc => ?_⟩
    · rw [(ascii_facts (lt c hc)).1]
      have := ha c hc
      simp only [Bool.or_eq_true, Bool.and_eq_true, decide_eq_true_eq]
      exact .inr this
    · obtain ⟨c, hc⟩ := List.exists_mem_of_ne_nil l hl
      refine ⟨c, hc, ?_⟩
      rw [(ascii_facts (lt c hc)).2.1]
      have := ha c hc
      simp only [Bool.and_eq_true, decide_eq_true_eq]
      exact this
    · rw [(ascii_facts (lt c hc)).2.2]
      have := ha c hc
      simp only [Bool.and_eq_true, decide_eq_true_eq]
      omega
end Qk
set_option maxRecDepth 100000
set_option maxHeartbeats 4000000
namespace Qk
open PySem PySem.Spec PyProof.Rows L2
/-- all columns of a question, ascending -/
def allC (cols : List Str) (e : Str) : List Str := if e = "" then cols else srt (cols ++ [e])
theorem srt_self {xs : List Str} (h : sortedS xs = true) : srt xs = xs := (srt_eq (List.Perm.refl _) h).symm
theorem mem_all {cols : List Str} {e z : Str} (h : z ∈ allC cols e) : z ∈ cols ∨ (z = e ∧ e ≠ "") := by
  unfold allC at h
  split at h
  · exact .inl h
  · rename_i ne
    have := (srt_perm _).mem_iff.mp h
    rcases List.mem_append.mp this with q | q
    · exact .inl q
    · exact .inr ⟨List.mem_singleton.mp q, ne⟩
/-- a question as k13 has it -/
structure QZ (cols : List Str) (e : Str) : Prop where
  m : QM cols e
  ne : e ∉ cols
  le : cols.length + (if e = "" then 0 else 1) ≤ 12
theorem QZ.all_nd {cols : List Str} {e : Str} (h : QZ cols e) : (allC cols e).Nodup := by
  unfold allC
  split
  · exact h.m.nd
  · refine (srt_perm _).nodup_iff.mpr ?_
    rw [List.nodup_append]
    exact ⟨h.m.nd, by simp, fun a ha b hb => by rw [List.mem_singleton.mp hb]; exact fun q => h.ne (q ▸ ha)⟩
theorem QZ.all_le {cols : List Str} {e : Str} (h : QZ cols e) : (allC cols e).length ≤ 12 := by
  have := h.le
  unfold allC
  split
  · rename_i q
    rw [if_pos q] at this
    omega
  · rename_i q
    rw [if_neg q] at this
    rw [srt_len, List.length_append]
    simpa using this
theorem QZ.menu {cols : List Str} {e : Str} (h : QZ cols e) : ∀ z ∈ allC cols e, z ∈ menu := fun z hz => by
  rcases mem_all hz with q | ⟨rfl, ne⟩
  · exact h.m.sub _ q
  · exact h.m.esub.resolve_left ne
theorem nodup_len : ∀ (l D : List Str), l.Nodup → (∀ x ∈ l, x ∈ D) → l.length ≤ D.length
  | [], _, _, _ => Nat.zero_le _
  | x :: l, D, hn, hs => by
    obtain ⟨h1, h2⟩ := List.nodup_cons.mp hn
    have hx : x ∈ D := hs x List.mem_cons_self
    have ih := nodup_len l (D.erase x) h2 fun y hy => (List.mem_erase_of_ne (by rintro rfl; exact h1 hy)).2 (hs y (List.mem_cons_of_mem _ hy))
    have e := List.length_erase_of_mem hx
    have hp : 0 < D.length := List.length_pos_of_mem hx
    rw [List.length_cons]
    omega
theorem Qok.qz {xs cols : List Str} {e : Str} (h : Qok xs cols e) (R : Row xs) : QZ cols e := by
  refine ⟨h.qm R.sub, h.ne, ?_⟩
  have hsub : ∀ z ∈ (if e = "" then cols else cols ++ [e]), z ∈ xs := fun z hz => by
    split at hz
    · exact h.sub _ hz
    · rename_i ne
      rcases List.mem_append.mp hz with q | q
      · exact h.sub _ q
      · rw [List.mem_singleton.mp q]
        exact h.esub.resolve_left ne
  have hnd : (if e = "" then cols else cols ++ [e]).Nodup := by
    split
    · exact h.nd
    · rw [List.nodup_append]
      exact ⟨h.nd, by simp, fun a ha b hb => by rw [List.mem_singleton.mp hb]; exact fun q => h.ne (q ▸ ha)⟩
  have hle := nodup_len _ _ hnd hsub
  have := R.le
  split
  · rename_i q
    rw [if_pos q] at hle
    omega
  · rename_i q
    rw [if_neg q, List.length_append] at hle
    simp at hle
    omega
/-- the columns of a question as they stand -/
def rowC (cols : List Str) (e : Str) : List Str := if e = "" then cols else cols ++ [e]
theorem mem_row {cols : List Str} {e z : Str} : z ∈ rowC cols e ↔ z ∈ allC cols e := by
  unfold rowC allC
  split
  · exact Iff.rfl
  · exact (srt_perm _).mem_iff.symm
theorem row_len {cols : List Str} {e : Str} : (rowC cols e).length = (allC cols e).length := by
  unfold rowC allC
  split
  · rfl
  · rw [srt_len]
theorem QZ.row_le {cols : List Str} {e : Str} (h : QZ cols e) : (rowC cols e).length ≤ 12 := by
  rw [row_len]
  exact h.all_le
theorem QZ.row_nd {cols : List Str} {e : Str} (h : QZ cols e) : (rowC cols e).Nodup := by
  have := h.all_nd
  unfold rowC
  unfold allC at this
  split
  · rename_i q
    rw [if_pos q] at this
    exact this
  · rename_i q
    rw [if_neg q] at this
    exact (srt_perm _).nodup_iff.mp this
def spRow : Sp := fun vs H Q _ => ∃ (q : Addr) (cols : List Str) (e : Str), vs = [.ref q] ∧ QAt H q cols e ∧ QZ cols e ∧ ∀ (t : Addr) (H' : Hp), Same H H' → H' t = some (.tup ((rowC cols e).map V.str)) → Q (.ref t) H'
def spCols : Sp := fun vs H Q _ => ∃ (q : Addr) (cols : List Str) (e : Str), vs = [.ref q] ∧ QAt H q cols e ∧ QZ cols e ∧ ∀ (t : Addr) (H' : Hp), Same H H' → H' t = some (.tup ((allC cols e).map V.str)) → Q (.ref t) H'
theorem QZ.fine {cols : List Str} {e : Str} (h : QZ cols e) : Qfine (cols, e) := ⟨fun c hc => menu_okS _ (h.m.sub _ hc), h.m.esub.elim (fun q => by show okS e = true; rw [q]; exact okS_empty) (fun m => menu_okS _ m), h.m.le⟩
def QZs (qs : List Qd) : Prop := ∀ q ∈ qs, QZ q.1 q.2
theorem QZ.strOk {cols : List Str} {e : Str} (h : QZ cols e) : ∀ c ∈ cols, PyData.strOk c = true := fun c hc => menu_ok _ (h.m.sub _ hc)
end Qk
set_option maxRecDepth 100000
set_option maxHeartbeats 4000000
namespace Qk
open PySem PySem.Spec PyProof.Rows L2
/-- the columns that a part leaves -/
def left (ns p : List Str) : List Str := ns.filter fun c => !decide (c ∈ p)
end Qk
set_option maxRecDepth 100000
set_option maxHeartbeats 4000000
namespace Qk
open PySem PySem.Spec PyProof.Rows L2 ItX
structure OwnIt (K : PySem.W.Frag) (C fi : Addr) : Prop where
  it : PySem.W.findIn K (.ref C) "__iter__" = some (some (.ref fi))
  fn : PySem.W.isFn K (.ref fi) = true
/-- defs whose promise may speak of how many objects there are when they begin -/
structure FnS (P : Program) (w : World) (K : PySem.W.Frag) (mg : Str → Option Value) (base : Heap) (k : Nat) (f : Addr) (fd : FuncData) (ps : List Str) (sp : Nat → Sp) : Prop where
  len : ∀ N vs H Q E, sp N vs H Q E → vs.length = ps.length
  run : ∀ (A : Around) (outer : List Env) (s : Shared) (H : Hp) (args : Args) (us : List Value) (vs : List V) (Q : VK) (E : XK), Room k A → Env0 P w K mg base A outer s H →
    BindsTo s fd args (ps.zip us) → Vals vs us → sp s.heap.objs.size vs H Q E → codeAny (model P w) A (.call (.ref f) args) (CR CX0 outer P w H s Q E) s
section
variable {P : Program} {w : World} {K : PySem.W.Frag} {mg : Str → Option Value} {base : Heap}
theorem okN {x qual : Str} {st : Stmt} {f : Addr} {fd : FuncData} {N ps : List Str} {k : Nat} {sp : Nat → Sp} (F : Fun K x qual st f fd) (S : FnScope N ps (defScope st)) (len : ∀ n vs H Q E, sp n vs H Q E → vs.length = ps.length)
    (body : ∀ (cdv : Value) (A : Around) (outer : List Env) (s : Shared) (H : Hp) (vs : List V) (Q : VK) (E : XK), Room k (A.deeper (envOfC qual (defScope st) s.heap.objs.size f cdv)) → sp s.heap.objs.size vs H Q E →
      ∃ t, PSs (cxOf CX0 P w K mg base N qual (defScope st) f cdv A outer s H E).nox (defBody st) t ∧ t { nx := fun _ H' => Q .non H', rt := Q } (start N vs) H) : FnS P w K mg base (k + 1) f fd ps sp := by
  refine ⟨len, fun A outer s H args us vs Q E hr e0 hb rv hsp => ?_⟩
  obtain ⟨oc, od, kV, doc, pm, an, cdv, ct, osl, rfl, lk, hcd⟩ := F.ex
  have hlen := len _ _ _ _ _ hsp
  have stay : ∀ b o, base.get? b = some o → s.heap.get? b = some o := fun b o e => (e0.bs b o e).1
  have inK : K.In s.heap := e0.mod.kin.keeps stay
  have pars : ∀ y ∈ ps.zip us, (defScope st).names.lookup y.1 = some .local ∨ ((defScope st).names.lookup y.1 = some .cell ∧ ((cellsFrom (s.heap.objs.size + 1) (defScope st).names []).lookup y.1).isSome = true) := by
    rintro ⟨nm, v⟩ hy
    exact (S.par nm (List.of_mem_zip hy).1).imp id fun q => ⟨q, PySem.W.cellsFrom_some _ _ _ (.inl q)⟩
  refine codeAny_call_function hr.depth (inK _ _ lk) rfl S.co S.gen rfl (PySem.W.codeRec_of inK hcd) (hb _ _ _ _ ?_)
  refine wpAny_newFunctionEnv_cells S.kind pars fun env he s1 xe => ?_
  subst he
  refine ⟨(e0.mod.nolimit.keeps stay).keeps xe.toInCall.keep, codeAny_func ?_⟩
  obtain ⟨t, ht, hq⟩ := body cdv A outer s H vs Q E (hr.deeper _) hsp
  refine wpAny_mono (ht.nox.run [] s1 (start N vs) H _ (inv_start S hr.hd e0 hlen rv xe) hq) (fun fl s' hs => ?_) fun _ _ z => z
  cases fl with
  | ret u =>
    obtain ⟨v, σ', H', J, r, q⟩ := hs
    exact ⟨v, H', J.os, J.bare, J.base, J.hok, r, q⟩
  | next =>
    obtain ⟨σ', H', J, q⟩ := hs
    exact ⟨V.non, H', J.os, J.bare, J.base, J.hok, rfl, q⟩
  | brk => exact hs.elim fun _ z => z.elim fun _ z => z.2.elim
  | cont => exact hs.elim fun _ z => z.elim fun _ z => z.2.elim
end
def spIterF (C : Addr) (f : Str) : Nat → Sp := fun N vs H Q _ => ∃ (a dx l : Addr) (fs : List (Str × V)) (xs : List V), vs = [.ref a] ∧ H a = some (.ins C dx fs) ∧ fs.lookup f = some (.ref l) ∧ H l = some (.lst xs) ∧ ∀ it, H it = none → N ≤ it → Q (.ref it) (upd H it (ItO l it 0))
def iOwn (K : PySem.W.Frag) (C : Addr) (f : Str) (te : TE) : TI := fun σ H R => te σ H fun x H1 => ∃ (a dx l : Addr) (fs : List (Str × V)) (xs : List V), x = .ref a ∧ H1 a = some (.ins C dx fs) ∧ fs.lookup f = some (.ref l) ∧ H1 l = some (.lst xs) ∧ R (Itl K l) H1
section
variable {X : Cx} {tg : Expr} {e : Expr} {te : TE}
theorem pi_own {C fi : Addr} {f : Str} {fd : FuncData} {n : Nat} (oc : OwnIt X.K C fi) (FI : FnS X.prog X.w X.K X.mg X.base n fi fd ["self"] (spIterF C f)) (bI : Binds X.K fd ["self"] []) (hr : Room n X.A) (he : PE X e te) : PI X tg e (iOwn X.K C f te) := by
  refine ⟨fun pins s σ H R I h => ?_⟩
  refine thn (he.run pins s σ H _ I h) fun v s1 ⟨x, H1, I1, r1, q1⟩ => ?_
  obtain ⟨a, dx, l, fs, xs, rfl, ha, hl, hx, q⟩ := q1
  cases r1
  obtain ⟨mA, J, _⟩ := ins_get I1.hok ha
  obtain ⟨od, J, _⟩ := J.look
  obtain ⟨m0, hF⟩ := I1.fr
  refine PySem.W.owit_iter hF I1.ok.mod.kin J oc.it oc.fn ?_
  have hsp : spIterF C f s1.heap.objs.size [.ref a] H1 (fun v H' => ∃ it, v = .ref it ∧ H1 it = none ∧ H' = upd H1 it (ItO l it 0) ∧ s1.heap.objs.size ≤ it) (fun _ _ _ => False) := ⟨a, dx, l, fs, xs, rfl, ha, hl, hx, fun it hit hn => ⟨it, rfl, hit, rfl, hn⟩⟩
  have r2 : Vals [V.ref a] [Value.ref a] := .cons rfl .nil
  refine wpAny_call (codeAny_mono (FI.run X.A X.stack s1 H1 ⟨[.ref a], []⟩ [.ref a] [.ref a] _ _ hr I1.env0 (by
    have := bI s1 [.ref a] I1.kIn (by rfl)
    simpa using this) r2 hsp) fun r s' hq' => ?_)
  cases r with
  | error e => exact pass0 pins σ H1 s1 e s' I1 hq'
  | ok fl =>
    cases fl with
    | next => exact False.elim hq'
    | brk => exact False.elim hq'
    | cont => exact False.elim hq'
    | ret u =>
      have hq2 := hq'
      obtain ⟨v0, H0, os0, bare0, un0, hok0, rv0, it0, ev0, hn0, eH0, fresh⟩ := hq2
      subst ev0
      subst eH0
      cases rv0
      have hi : (upd H1 it0 (ItO l it0 0)) it0 = some (ItO l it0 0) := upd_same
      have I' : Inv X pins σ (upd H1 it0 (ItO l it0 0)) s' := by
        obtain ⟨hh, g, d, t, os'⟩ := s'
        obtain rfl : os' = s1.os := os0
        exact I1.call (h' := hh) (g' := g) (d' := d) (t' := t) (ch := []) un0 hok0 bare0 (fun b z => absurd z (by simp))
      have eo := itO_get I' hi
      have st : s'.heap.IsListIter it0 l 0 := ⟨_, eo, rfl, rfl⟩
      unfold PySem.W.OwitIt
      refine wpAny_specialOf (T := "list_iterator") ⟨_, eo, rfl⟩ slot_listiter_next.lookup ?_
      have hi' := hi
      unfold ItO at hi'
      have I2 := inv_drop I' hi'
      have ed : dropH (upd H1 it0 (ItO l it0 0)) it0 = H1 := dropH_upd hn0
      rw [ed] at I2
      refine ⟨it0, [it0], _, _, H1, rfl, I2, turn_list l it0, st, fun b hb => ?_, q⟩
      have e : b = it0 := by simpa using hb
      rw [e]
      have fp := inv_fp I' hi (Nat.le_trans I1.sz fresh)
      rw [ed] at fp
      exact fp
end
end Qk
set_option maxRecDepth 100000
set_option maxHeartbeats 4000000
namespace Qk
open PySem PySem.Spec PyProof.Rows L2 ItX
structure OwnLen (K : PySem.W.Frag) (C fl : Addr) : Prop where
  ln : PySem.W.findIn K (.ref C) "__len__" = some (some (.ref fl))
  fn : PySem.W.isFn K (.ref fl) = true
def spLenF (C : Addr) (f : Str) : Sp := fun vs H Q _ => ∃ (a dx l : Addr) (fs : List (Str × V)) (xs : List V), vs = [.ref a] ∧ H a = some (.ins C dx fs) ∧ fs.lookup f = some (.ref l) ∧ H l = some (.lst xs) ∧ Q (.int (xs.length : Int)) H
/-- an instance of C whose list f stands at l and has xs -/
def HasL (H : Hp) (C a : Addr) (f : Str) (l : Addr) (xs : List V) : Prop := ∃ (dx : Addr) (fs : List (Str × V)), H a = some (.ins C dx fs) ∧ fs.lookup f = some (.ref l) ∧ H l = some (.lst xs)
section
variable {X : Cx} {pins : List (Addr × Obj)} {σ : L2.St} {H : Hp} {s : Shared} {A1 : Around} {C a l fi fl : Addr} {f : Str} {fdI fdL : FuncData} {n : Nat} {xs : List V}
theorem env_sub (sb : Sub X n A1) (I : Inv X pins σ H s) : Env0 X.prog X.w X.K X.mg X.base A1 X.stack s H := by
  have e := I.env0
  constructor
  case frames => rw [sb.fr]; exact e.frames
  all_goals first | exact e.mod | exact e.bs | exact e.bsz | exact e.funs | exact e.frf | exact e.hok | exact e.bare
theorem iter_own (sb : Sub X n A1) (oc : OwnIt X.K C fi) (FI : FnS X.prog X.w X.K X.mg X.base n fi fdI ["self"] (spIterF C f)) (bI : Binds X.K fdI ["self"] []) (I : Inv X pins σ H s) (h : HasL H C a f l xs) {Q : Value → Shared → Prop}
    (hQ : ∀ it s', Inv X pins σ (upd H it (ItO l it 0)) s' → H it = none → X.s_0.heap.objs.size ≤ it → Q (.ref it) s') : wpAny (model X.prog X.w) A1 (pyIter (.ref a)) Q X.xe s := by
  obtain ⟨dx, fs, ha, hl, hx⟩ := h
  obtain ⟨mA, J, _⟩ := ins_get I.hok ha
  obtain ⟨od, J, _⟩ := J.look
  obtain ⟨m0, hF⟩ := I.fr
  refine PySem.W.owit_iter hF I.ok.mod.kin J oc.it oc.fn ?_
  have hsp : spIterF C f s.heap.objs.size [.ref a] H (fun v H' => ∃ it, v = .ref it ∧ H it = none ∧ H' = upd H it (ItO l it 0) ∧ s.heap.objs.size ≤ it) (fun _ _ _ => False) := ⟨a, dx, l, fs, xs, rfl, ha, hl, hx, fun it hit hn => ⟨it, rfl, hit, rfl, hn⟩⟩
  have r2 : Vals [V.ref a] [Value.ref a] := .cons rfl .nil
  refine wpAny_call (codeAny_mono (FI.run A1 X.stack s H ⟨[.ref a], []⟩ [.ref a] [.ref a] _ _ sb.room (env_sub sb I) (by
    have := bI s [.ref a] I.kIn (by rfl)
    simpa using this) r2 hsp) fun r s' hq' => ?_)
  cases r with
  | error e => exact pass0 pins σ H s e s' I hq'
  | ok fl =>
    cases fl with
    | next => exact False.elim hq'
    | brk => exact False.elim hq'
    | cont => exact False.elim hq'
    | ret u =>
      have hq2 := hq'
      obtain ⟨v0, H0, os0, bare0, un0, hok0, rv0, it0, ev0, hn0, eH0, fresh⟩ := hq2
      subst ev0
      subst eH0
      cases rv0
      have hi : (upd H it0 (ItO l it0 0)) it0 = some (ItO l it0 0) := upd_same
      have I' : Inv X pins σ (upd H it0 (ItO l it0 0)) s' := by
        obtain ⟨hh, g, d, t, os'⟩ := s'
        obtain rfl : os' = s.os := os0
        exact I.call (h' := hh) (g' := g) (d' := d) (t' := t) (ch := []) un0 hok0 bare0 (fun b z => absurd z (by simp))
      have eo := itO_get I' hi
      have st : s'.heap.IsListIter it0 l 0 := ⟨_, eo, rfl, rfl⟩
      unfold PySem.W.OwitIt
      refine wpAny_specialOf (T := "list_iterator") ⟨_, eo, rfl⟩ slot_listiter_next.lookup ?_
      exact hQ it0 s' I' hn0 (Nat.le_trans I.sz fresh)
theorem len_own (sb : Sub X n A1.in1) (oc : OwnLen X.K C fl) (FL : FnOk X.prog X.w X.K X.mg X.base CX0 n fl fdL ["self"] (spLenF C f)) (bL : Binds X.K fdL ["self"] []) (I : Inv X pins σ H s) (h : HasL H C a f l xs) (hz : xs.length ≤ 1000) {Q : Value → Shared → Prop} {E : Value → Shared → Prop}
    (hQ : ∀ t s', Inv X pins σ H s' → Q (.int (xs.length : Int) t) s') : wpAny (model X.prog X.w) A1 (call (.builtin "len") [.ref a]) Q E s := by
  obtain ⟨dx, fs, ha, hl, hx⟩ := h
  obtain ⟨mA, J, _⟩ := ins_get I.hok ha
  obtain ⟨od, J, _⟩ := J.look
  obtain ⟨m0, hF⟩ := I.fr
  refine PySem.W.len_K hF I.ok.mod.kin J oc.ln oc.fn ?_
  have hsp : spLenF C f [.ref a] H (fun v H' => v = .int (xs.length : Int) ∧ H' = H) (fun _ _ _ => False) := ⟨a, dx, l, fs, xs, rfl, ha, hl, hx, rfl, rfl⟩
  have r2 : Vals [V.ref a] [Value.ref a] := .cons rfl .nil
  refine wpAny_call (codeAny_mono (FL.run A1.in1 X.stack s H ⟨[.ref a], []⟩ [.ref a] [.ref a] _ _ sb.room (env_sub sb I) (by
    have := bL s [.ref a] I.kIn (by rfl)
    simpa using this) r2 hsp) fun r s' hq' => ?_)
  cases r with
  | error e => exact False.elim hq'
  | ok fl =>
    cases fl with
    | next => exact False.elim hq'
    | brk => exact False.elim hq'
    | cont => exact False.elim hq'
    | ret u =>
      obtain ⟨v, H', I', rv, ev, eH⟩ := I.after hq'
      subst ev
      rw [eH] at I'
      obtain ⟨t, rfl⟩ := rv
      exact ⟨⟨by omega, by omega⟩, hQ _ _ (I'.tok _)⟩
/-- len(o) -/
def rLenOwn (C : Addr) (f : Str) : List V → Hp → VK → Prop := fun vs H Q => ∃ (a l : Addr) (xs : List V), vs = [.ref a] ∧ HasL H C a f l xs ∧ xs.length ≤ 1000 ∧ Q (.int (xs.length : Int)) H
theorem call_lenOwn (oc : OwnLen X.K C fl) (FL : FnOk X.prog X.w X.K X.mg X.base CX0 n fl fdL ["self"] (spLenF C f)) (bL : Binds X.K fdL ["self"] []) (hr : Room (n + 1) X.A) : CallR X (.builtin "len") (rLenOwn C f) := by
  intro pins s σ H vs us Q I r h
  obtain ⟨a, l, xs, rfl, hh, hz, q⟩ := h
  obtain ⟨u, rfl, ru⟩ := r.one
  cases ru
  exact len_own (Sub.in1 (⟨hr, rfl⟩ : Sub X (n + 1) X.A)) oc FL bL I hh hz fun t s' I' => ⟨.int _, H, I', ⟨t, rfl⟩, q⟩
theorem if_yes {α : Type} {M : Model} {A : Around} {E : Value → Shared → Prop} {s : Shared} {c : Bool} {a b : Sem α} {Q : α → Shared → Prop} (hc : c = true) (h : wpAny M A a Q E s) : wpAny M A (if c = true then a else b) Q E s := by
  subst hc
  exact h
/-- the room that list() asks for -/
theorem hint_own (sb : Sub X n A1.in1) (oc : OwnLen X.K C fl) (FL : FnOk X.prog X.w X.K X.mg X.base CX0 n fl fdL ["self"] (spLenF C f)) (bL : Binds X.K fdL ["self"] []) (I : Inv X pins σ H s) (h : HasL H C a f l xs) (hz : xs.length ≤ 1000) {Q : Bool → Shared → Prop}
    (hQ : ∀ b s', Inv X pins σ H s' → Q b s') : wpAny (model X.prog X.w) A1 (Builtin.List.listLengthHint (.ref a)) Q X.xe s := by
  obtain ⟨dx, fs, ha, hl, hx⟩ := id h
  obtain ⟨mA, J, _⟩ := ins_get I.hok ha
  obtain ⟨od, J, _⟩ := J.look
  unfold Builtin.List.listLengthHint
  refine wpAny_bind (wpAny_bind (J.type.here ((PySem.W.looks_findIn I.kIn oc.ln).here ?_)))
  refine PySem.W.KFB.if_not rfl ?_
  refine if_yes rfl ?_
  refine wpAny_bind (wpAny_rule ?_)
  refine wpAny_bind (wpAny_attempt (len_own sb oc FL bL I h hz fun t s' I' => ?_))
  dsimp only
  refine wpAny_bind (wpAny_of_eq (show asInt? (.int (xs.length : Int) t) = pure (some (xs.length : Int)) from rfl) ?_)
  dsimp only
  refine PySem.W.KFB.if_not (by unfold Builtin.List.listTooLong; rw [Int.toNat_natCast]; exact decide_eq_false (by rw [sizeLine_eq]; omega)) ?_
  exact wpAny_pure (hQ _ _ I')
theorem ext_own {it q : Addr} {Rs : Result → Shared → Prop} (hh : A1.handled = none) (hq : H q = none) (hx : H l = some (.lst xs)) (hz : xs.length ≤ 1000) (fp : ∀ acc, FpOk X pins (upd H q (.lst acc)) it)
    (hdone : ∀ s', Inv X pins σ (upd H q (.lst xs)) s' → Rs (.ok (.ret .none)) s') :
    ∀ (k i : Nat) (s : Shared), xs.length - i = k → i ≤ xs.length → Inv X pins σ (upd H q (.lst (xs.take i))) s → s.heap.IsListIter it l i → codeAny (model X.prog X.w) A1 (.builtin "list.extend.loop" ⟨[.ref q, .ref it, .none], []⟩) Rs s := by
  have hlq : l ≠ q := ne_of_none hx hq
  have hin : A1.in1.handled = none := by simp [hh]
  intro k
  induction k with
  | zero =>
    intro i s hk hi I st
    have ei : i = xs.length := by omega
    obtain ⟨its, rv, p, _⟩ := I.list (SqL.of (show (upd H q (.lst (xs.take i))) l = some (.lst xs) by rw [upd_ne hlq]; exact hx))
    have hl := rv.length
    obtain ⟨f0, f1, f2, f3, f4, f5⟩ := fp (xs.take i)
    refine codeAny_builtin PySem.F.entry_extend_loop ?_
    rw [Around.under_plainId PySem.F.plain_extend_loop _]
    show wpAny _ A1.in1 (pyNext (.ref it) >>= _) _ _ s
    refine wpAny_bind (wpAny_pyNext_list_end hin st p.isList (by simp; omega) fun h' eb => wpAny_pure (hdone _ ?_))
    have I1 : Inv X pins σ (upd H q (.lst (xs.take i))) { s with heap := h' } := I.turned (t' := s.toks) (fun b o hb e => eb b o hb e) f0 f1 f3 f4 f5
    rw [ei, List.take_of_length_le (Nat.le_refl _)] at I1
    exact I1
  | succ k ih =>
    intro i s hk hi I st
    have hlt : i < xs.length := by omega
    obtain ⟨its, rv, p, _⟩ := I.list (SqL.of (show (upd H q (.lst (xs.take i))) l = some (.lst xs) by rw [upd_ne hlq]; exact hx))
    have hxi : xs[i]? = some xs[i] := List.getElem?_eq_getElem hlt
    obtain ⟨u, hu, ru⟩ := rv.get hxi
    obtain ⟨f0, f1, f2, f3, f4, f5⟩ := fp (xs.take i)
    refine codeAny_builtin PySem.F.entry_extend_loop ?_
    rw [Around.under_plainId PySem.F.plain_extend_loop _]
    show wpAny _ A1.in1 (pyNext (.ref it) >>= _) _ _ s
    refine wpAny_bind (wpAny_pyNext_list_item st p.isList (x := u) (by simpa using hu) fun h' st' sb => ?_)
    have I1 : Inv X pins σ (upd H q (.lst (xs.take i))) { s with heap := h' } := I.turned (t' := s.toks) (fun b o hb e => (sb.2 b hb).trans e) f0 f1 f3 f4 f5
    show wpAny _ A1.in1 (updateSeq q (·.push u) >>= _) _ _ _
    obtain ⟨z, its2, k2, r2, hl2, e⟩ := I1.lstM upd_same
    have tl : (xs.take i).length = i := by rw [List.length_take]; omega
    refine wpAny_bind (wpAny_updateSeq e rfl (wpAny_pure ⟨plainId_quiet PySem.F.plain_extend_loop _, ?_⟩) (by rw [List.size_toArray]; omega) (by show (its2.toArray.push u).size ≤ sizeLine + 1; rw [Array.size_push, List.size_toArray, sizeLine_eq]; omega))
    have I2 := I1.lset (f := (·.push u)) (its := its2) (its' := its2 ++ [u]) (ys := xs.take i ++ [xs[i]]) (t' := s.toks) upd_same e (by simp) (r2.append (.cons ru .nil)) (by rw [List.length_append, tl, sizeLine_eq]; show i + 1 ≤ _; omega)
    rw [upd_upd] at I2
    have et : xs.take (i + 1) = xs.take i ++ [xs[i]] := by rw [List.take_add_one, hxi]; rfl
    rw [← et] at I2
    refine ih (i + 1) _ (by omega) hlt I2 (st'.at fun o e2 => ?_)
    have niq : it ≠ q := fun z => by rw [z, upd_same] at f0; cases f0
    exact (Heap.get?_update_ne _ _ _ _ niq).trans e2
/-- an empty list behind all -/
abbrev laidL (s : Shared) : Shared := { s with heap := s.heap.push { cls := .type "list", data := .seq #[] } }
/-- list(o) -/
def rListOwn (C : Addr) (f : Str) : List V → Hp → VK → Prop := fun vs H Q => ∃ (a l : Addr) (xs : List V), vs = [.ref a] ∧ HasL H C a f l xs ∧ xs.length ≤ 1000 ∧ ∀ q, H q = none → Q (.ref q) (upd H q (.lst xs))
theorem HasL.off {q : Addr} {o : HO} (h : HasL H C a f l xs) (hq : H q = none) : HasL (upd H q o) C a f l xs := by
  obtain ⟨dx, fs, ha, hl, hx⟩ := h
  exact ⟨dx, fs, by rw [upd_ne (ne_of_none ha hq)]; exact ha, hl, by rw [upd_ne (ne_of_none hx hq)]; exact hx⟩
theorem call_listOwnF (hc : X.calm = true) (oc : OwnIt X.K C fi) (FI : FnS X.prog X.w X.K X.mg X.base n fi fdI ["self"] (spIterF C f)) (bI : Binds X.K fdI ["self"] [])
    (ol : OwnLen X.K C fl) (FL : FnOk X.prog X.w X.K X.mg X.base CX0 n fl fdL ["self"] (spLenF C f)) (bL : Binds X.K fdL ["self"] []) (hr : Room (n + 3) X.A) : CallR X (.type "list") (rListOwn C f) := by
  intro pins s σ H vs us Q I rv h
  obtain ⟨a, l, xs, rfl, hh, hz, q⟩ := h
  obtain ⟨u, rfl, ru⟩ := rv.one
  cases ru
  have sb2 : Sub X (n + 1) X.A.in1.in1 := Sub.in1 (Sub.in1 (⟨hr, rfl⟩ : Sub X (n + 3) X.A))
  have sb3 : Sub X n X.A.in1.in1.in1 := Sub.in1 sb2
  have sb1 : Sub X n X.A.in1.in1 := ⟨sb2.room.mono (Nat.le_succ _), sb2.fr⟩
  refine callType_codes (Q₁ := fun o z => o = .ref s.heap.objs.size ∧ z = laidL s) PySem.F.called_list (PySem.F.typeCall_list_1 _) PySem.F.entry_list_init (code_list_new _ ⟨rfl, rfl⟩) ?_
  rintro o z ⟨rfl, rfl⟩
  have hS : (laidL s).heap.get? s.heap.objs.size = some { cls := .type "list", data := .seq #[] } := Heap.get?_push_size _ rfl
  refine ⟨⟨_, hS, by rfl⟩, by exact PySem.F.args_list_init_2 _ _, ?_⟩
  have fr : H s.heap.objs.size = none := I.hok.fresh (Nat.le_refl _)
  obtain ⟨S, eS⟩ : ∃ S, S = s.heap.objs.size := ⟨_, rfl⟩
  rw [← eS] at fr hS ⊢
  have I1 : Inv X pins σ (upd H S (.lst [])) { s with heap := s.heap.push { cls := .type "list", data := .seq #[] } } := by
    rw [eS]
    exact I.lnew (its := []) (t' := s.toks) .nil (Nat.zero_le _)
  show wpAny _ _ (do let old ← Builtin.List.listItems (.ref S); Builtin.List.listUpdate (.ref S) (fun _ => #[]); letGo old.toList.reverse; Builtin.List.listExtendWith (.ref S) (.ref a) .none) _ _ _
  refine wpAny_bind ?_
  unfold Builtin.List.listItems
  refine wpAny_bind (wpAny_seqItems hS rfl (wpAny_pure ?_))
  show wpAny _ _ (updateSeq S (fun _ => #[]) >>= fun _ => letGo (#[] : Array Value).toList.reverse >>= fun _ => Builtin.List.listExtendWith (.ref S) (.ref a) .none) _ _ _
  refine wpAny_bind (wpAny_updateSeq hS rfl ?_)
  have I2 := I1.lset (t' := s.toks) (ys := []) (its' := []) (its := []) (f := fun _ => #[]) upd_same hS rfl .nil (Nat.zero_le _)
  rw [upd_upd] at I2
  refine wpAny_bind (wpAny_letGo ?_)
  generalize ({ s with heap := (s.heap.push { cls := .type "list", data := .seq #[] }).update S (Obj.mapSeq fun _ => #[]) } : Shared) = s2 at I2 ⊢
  have hh2 := hh.off (o := .lst []) fr
  obtain ⟨dx, fs, ha, hl, hx⟩ := id hh
  have hSa : S ≠ a := fun z => by rw [z, ha] at fr; cases fr
  obtain ⟨dx2, fs2, ha2, _⟩ := id hh2
  obtain ⟨mA, J, _⟩ := ins_get I2.hok ha2
  obtain ⟨od, J, _⟩ := J.look
  unfold Builtin.List.listExtendWith
  refine wpAny_bind (J.type.here ?_)
  have h1 : Builtin.List.listSameRef (.ref S) (.ref a) = false := by simp [Builtin.List.listSameRef, hSa]
  have h2 : (Value.ref C == Value.type "list") = false := rfl
  have h3 : (Value.ref C == Value.type "tuple") = false := rfl
  simp only [h1, h2, h3, Bool.or_false, Bool.false_eq_true, if_false]
  refine wpAny_bind (iter_own sb1 oc FI bI I2 hh2 fun it s3 I3 itn fp0 => ?_)
  refine wpAny_bind (wpAny_holding (hint_own sb3 ol FL bL I3 (hh2.off itn) hz fun b s4 I4 => ?_))
  have eo := itO_get I4 upd_same
  have st : s4.heap.IsListIter it l 0 := ⟨_, eo, rfl, rfl⟩
  have fp := inv_fp I4 (a := it) upd_same fp0
  have I5 := inv_drop I4 (a := it) (φ := _) (by exact upd_same)
  rw [dropH_upd itn] at fp I5
  have nis : it ≠ S := fun z => by rw [z, upd_same] at itn; cases itn
  have fpA : ∀ acc, FpOk X pins (upd H S (.lst acc)) it := fun acc => by
    obtain ⟨f0, f1, f2, f3, f4, f5⟩ := fp
    refine ⟨?_, f1, f2, f3, f4, f5⟩
    rw [upd_ne nis] at f0 ⊢
    exact f0
  have hdn : X.A.in1.handled = none := by simp [I.ok.hd hc]
  have hgo : ∀ s5, Inv X pins σ (upd H S (.lst [])) s5 → s5.heap.IsListIter it l 0 → codeAny (model X.prog X.w) X.A.in1 (.builtin "list.extend.loop" ⟨[.ref S, .ref it, .none], []⟩) (wants (fun r s₂ => r = .none ∧ EP X pins σ Q (.ref S) s₂) X.xe) s5 := fun s5 J5 st5 =>
    ext_own (A1 := X.A.in1) (it := it) (q := S) hdn fr hx hz fpA (fun s' J' => ⟨rfl, .ref S, _, J', rfl, q S fr⟩) (xs.length - 0) 0 s5 rfl (Nat.zero_le _) J5 st5
  refine wpAny_ite_split (fun _ => ?_) (fun _ => wpAny_pure ⟨plainId_quiet PySem.F.plain_extend_loop _, hgo s4 I5 st⟩)
  obtain ⟨z, its, k, r3, hl3, e3⟩ := I5.lstM upd_same
  cases r3
  refine wpAny_bind (wpAny_rule ?_)
  refine wpAny_bind ?_
  show wpAny _ _ (updateSeq S (·.push .none) >>= fun _ => updateSeq S (·.pop)) _ _ _
  refine wpAny_bind (wpAny_updateSeq e3 rfl ?_)
  have I6 := I5.lset (f := (·.push Value.none)) (its' := [Value.none]) (ys := [.non]) (t' := s4.toks) upd_same e3 (by simp) (.cons rfl .nil) (by rw [List.length_singleton, sizeLine_eq]; decide)
  rw [upd_upd] at I6
  obtain ⟨z4, its4, k4, r4, hl4, e4⟩ := I6.lstM upd_same
  obtain ⟨u4, rfl, ru4⟩ := r4.one
  refine wpAny_updateSeq e4 rfl ?_ (by show 1 ≤ sizeLine; rw [sizeLine_eq]; decide) (by show 0 ≤ sizeLine + 1; exact Nat.zero_le _)
  have I7 := I6.lset (f := (·.pop)) (its := [u4]) (its' := []) (ys := []) (t' := s4.toks) upd_same e4 (by rfl) .nil (Nat.zero_le _)
  rw [upd_upd] at I7
  refine wpAny_pure ⟨plainId_quiet PySem.F.plain_extend_loop _, ?_⟩
  have st5 : ((s4.heap.update S (Obj.mapSeq fun x => x.push Value.none)).update S (Obj.mapSeq fun x => x.pop)).IsListIter it l 0 :=
    Heap.IsListIter.at (Heap.IsListIter.at st fun o e => (Heap.get?_update_ne _ _ _ _ nis).trans e) fun o e => (Heap.get?_update_ne _ _ _ _ nis).trans e
  exact hgo _ I7 st5
end
end Qk
set_option maxRecDepth 100000
set_option maxHeartbeats 4000000
namespace Qk
open PySem PySem.Spec PyProof.Rows L2
def TL (H : Hp) (vs : List V) (rs : List (List Str)) : Prop := Paired (fun (x : V) (r : List Str) => ∃ t, x = .ref t ∧ H t = some (.tup (r.map V.str))) vs rs
theorem TL.len {H : Hp} {vs : List V} {rs : List (List Str)} (h : TL H vs rs) : vs.length = rs.length := Paired.length h
theorem TL.same {H H' : Hp} {vs : List V} {rs : List (List Str)} (s : Same H H') (h : TL H vs rs) : TL H' vs rs := Paired.mapP h fun x r ⟨t, e, z⟩ => ⟨t, e, s _ _ z⟩
theorem TL.off {H : Hp} {p : Addr} {xs zs : List V} {vs : List V} {rs : List (List Str)} (hp : H p = some (.lst xs)) (h : TL H vs rs) : TL (upd H p (.lst zs)) vs rs := Paired.mapP h fun x r ⟨t, e, z⟩ => ⟨t, e, by
  rw [upd_ne fun g => by rw [g, hp] at z; cases z]
  exact z⟩
theorem TL.at_ {H : Hp} {vs : List V} {rs : List (List Str)} (h : TL H vs rs) {i : Nat} {x : V} (hi : vs[i]? = some x) : ∃ (t : Addr) (r : List Str), x = .ref t ∧ rs[i]? = some r ∧ H t = some (.tup (r.map V.str)) := by
  induction h generalizing i with
  | nil => simp at hi
  | @cons x0 r0 vs' rs' h1 _ ih =>
    cases i with
    | zero =>
      simp only [List.getElem?_cons_zero, Option.some.injEq] at hi
      subst hi
      obtain ⟨t, e, z⟩ := h1
      exact ⟨t, r0, e, rfl, z⟩
    | succ i => exact ih hi
theorem TL.snoc {H : Hp} {vs : List V} {rs : List (List Str)} {t : Addr} {r : List Str} (h : TL H vs rs) (ht : H t = some (.tup (r.map V.str))) : TL H (vs ++ [.ref t]) (rs ++ [r]) := paired_app h (.cons ⟨t, rfl, ht⟩ .nil)
theorem QL.off {H : Hp} {p : Addr} {xs zs : List V} {vs : List V} {qs : List Qd} (hp : H p = some (.lst xs)) (h : QL H vs qs) : QL (upd H p (.lst zs)) vs qs := Paired.mapP h fun x r ⟨t, e, c, z1, z2⟩ => ⟨t, e, c, by
  rw [upd_ne fun g => by rw [g, hp] at z1; cases z1]
  exact z1, by
  rw [upd_ne fun g => by rw [g, hp] at z2; cases z2]
  exact z2⟩
theorem QL.snoc {H : Hp} {vs : List V} {qs : List Qd} {t : Addr} {q : Qd} (h : QL H vs qs) (ht : QAt H t q.1 q.2) : QL H (vs ++ [.ref t]) (qs ++ [q]) := paired_app h (.cons ⟨t, rfl, ht⟩ .nil)
theorem QL.at_ {H : Hp} {xs : List V} {qs : List Qd} (h : QL H xs qs) {i : Nat} {x : V} (hi : xs[i]? = some x) : ∃ (t : Addr) (q : Qd), x = .ref t ∧ qs[i]? = some q ∧ QAt H t q.1 q.2 := by
  induction h generalizing i with
  | nil => simp at hi
  | @cons x0 q0 xs' qs' h1 _ ih =>
    cases i with
    | zero =>
      simp only [List.getElem?_cons_zero, Option.some.injEq] at hi
      subst hi
      obtain ⟨t, e, z⟩ := h1
      exact ⟨t, q0, e, rfl, z⟩
    | succ i => exact ih hi
/-- one more behind the list at p -/
theorem nodup_leQ : ∀ (l D : List Qd), l.Nodup → (∀ x ∈ l, x ∈ D) → l.length ≤ D.length
  | [], _, _, _ => Nat.zero_le _
  | x :: l, D, hn, hs => by
    obtain ⟨h1, h2⟩ := List.nodup_cons.mp hn
    have hx : x ∈ D := hs x List.mem_cons_self
    have ih := nodup_leQ l (D.erase x) h2 fun y hy => (List.mem_erase_of_ne (by rintro rfl; exact h1 hy)).2 (hs y (List.mem_cons_of_mem _ hy))
    have e := List.length_erase_of_mem hx
    have hp : 0 < D.length := List.length_pos_of_mem hx
    rw [List.length_cons]
    omega
theorem eqv_qsAll : ∀ (xs ys : List Qd), PyData.eqvAll (xs.map dq) (ys.map dq) = decide (xs = ys)
  | [], [] => by simp [PyData.eqvAll]
  | [], y :: ys => by simp [PyData.eqvAll]
  | x :: xs, [] => by simp [PyData.eqvAll]
  | x :: xs, y :: ys => by
    show PyData.eqvAll (dq x :: xs.map dq) (dq y :: ys.map dq) = _
    rw [PyData.eqvAll, eqv_qsAll xs ys, eqv_q]
    by_cases h1 : x = y
    · subst h1
      by_cases h2 : xs = ys
      · subst h2
        simp
      · simp [h2]
    · simp [h1]
theorem eqv_qs (xs ys : List Qd) : PyData.eqv (.list (xs.map dq)) (.list (ys.map dq)) = decide (xs = ys) := by
  rw [PyData.eqv, eqv_qsAll]
end Qk
set_option maxRecDepth 100000
set_option maxHeartbeats 4000000
set_option maxRecDepth 100000
set_option maxHeartbeats 4000000
namespace Qk
open PySem PySem.Spec PyProof.Rows L2
abbrev twoFor (elt t0 i0 t1 i1 : Expr) (scope : Scope) (pos : Pos) : Expr := .SetComp elt [⟨t0, i0, [], 0⟩, ⟨t1, i1, [], 0⟩] scope pos
section
variable {P : Program} {w : World} {A : Around} {R : Result → Shared → Prop} {s : Shared} {elt t0 i0 t1 i1 : Expr} {scope : Scope} {pos : Pos} {it acc : Value} {env : Env}
/-- nothing is raised -/
abbrev wF {α : Type} (P : Program) (w : World) (A : Around) (t : Sem α) (Q : α → Shared → Prop) (s : Shared) : Prop := wpAny (model P w) A t Q (fun _ _ => False) s
theorem wF.any {α : Type} {t : Sem α} {Q Q' : α → Shared → Prop} {E : Value → Shared → Prop} (h : wF P w A t Q s) (k : ∀ a s, Q a s → Q' a s) : wpAny (model P w) A t Q' E s := wpAny_mono h k fun _ _ z => False.elim z
theorem inner_turn : compTurn (twoFor elt t0 i0 t1 i1 scope pos) 1 it acc env = (do
    standAt i1.pos
    match ← pyNext it with
    | none => pure (.done .next)
    | some v =>
      letOwnedTupleGo t1 it v
      assign t1 env v
      (do let x ← eval elt env; standAt elt.pos; let _ ← call (.builtin "set.add") [acc, x])
      again (.compLoop (twoFor elt t0 i0 t1 i1 scope pos) 1 it acc env)) := by rfl
theorem outer_turn : compTurn (twoFor elt t0 i0 t1 i1 scope pos) 0 it acc env = (do
    standAt i0.pos
    match ← pyNext it with
    | none => pure (.done .next)
    | some v =>
      letOwnedTupleGo t0 it v
      assign t0 env v
      let x ← eval i1 env
      standAt i1.pos
      let y ← foldedSetIterable i1 env x
      let _ ← runOwn (.compStart (twoFor elt t0 i0 t1 i1 scope pos) 1 (← holding [y] (pyIter y)) acc env) env
      again (.compLoop (twoFor elt t0 i0 t1 i1 scope pos) 0 it acc env)) := by rfl
/-- the inner loop by a bound on the turns -/
theorem inner_loop (J : Nat → Shared → Prop)
    (one : ∀ n s, J n s → wF P w A (pyNext it) (fun r a => match r with
      | none => R (.ok .next) a
      | some v => wF P w A (letOwnedTupleGo t1 it v) (fun _ b => wF P w A (assign t1 env v) (fun _ c => wF P w A (eval elt env) (fun x d => wF P w A (call (.builtin "set.add") [acc, x]) (fun _ e => ∃ m, m < n ∧ J m e) d) c) b) a) s)
    (n : Nat) (h : J n s) : codeAny (model P w) A (.compLoop (twoFor elt t0 i0 t1 i1 scope pos) 1 it acc env) R s := by
  refine codeAny_loop rfl J (fun k a hk => ?_) n h
  refine wpAny_noted ?_
  show wpAny _ A (compTurn (twoFor elt t0 i0 t1 i1 scope pos) 1 it acc env) _ _ a
  rw [inner_turn]
  refine wpAny_bind (wpAny_standAt (wpAny_bind (wF.any (one k a hk) fun r b hb => ?_)))
  match r, hb with
  | none, hb => exact wpAny_pure hb
  | some v, hb =>
    refine wpAny_bind (wF.any hb fun _ c hc => wpAny_bind (wF.any hc fun _ d hd => ?_))
    exact wpAny_bind (wpAny_bind (wF.any hd fun x e he => wpAny_bind (wpAny_standAt (wpAny_bind (wF.any he fun _ f hf => wpAny_pure (wpAny_pure ⟨rfl, hf⟩))))))
/-- the outer loop by a bound on the turns; in each the inner one from its start -/
theorem outer_loop (hfold : ∀ x, foldedSetIterable i1 env x = pure x) (J : Nat → Shared → Prop)
    (one : ∀ n s, J n s → wF P w A (pyNext it) (fun r a => match r with
      | none => R (.ok .next) a
      | some v => wF P w A (letOwnedTupleGo t0 it v) (fun _ b => wF P w A (assign t0 env v) (fun _ c => wF P w A (eval i1 env) (fun x d => wF P w A (pyIter x) (fun it1 e =>
          codeAny (model P w) A (.compStart (twoFor elt t0 i0 t1 i1 scope pos) 1 it1 acc env) (fun r f => match r with
            | .ok _ => ∃ m, m < n ∧ J m f
            | .error _ => False) e) d) c) b) a) s)
    (n : Nat) (h : J n s) : codeAny (model P w) A (.compLoop (twoFor elt t0 i0 t1 i1 scope pos) 0 it acc env) R s := by
  refine codeAny_loop rfl J (fun k a hk => ?_) n h
  refine wpAny_noted ?_
  show wpAny _ A (compTurn (twoFor elt t0 i0 t1 i1 scope pos) 0 it acc env) _ _ a
  rw [outer_turn]
  refine wpAny_bind (wpAny_standAt (wpAny_bind (wF.any (one k a hk) fun r b hb => ?_)))
  match r, hb with
  | none, hb => exact wpAny_pure hb
  | some v, hb =>
    refine wpAny_bind (wF.any hb fun _ c hc => wpAny_bind (wF.any hc fun _ d hd => wpAny_bind (wF.any hd fun x e he => ?_)))
    refine wpAny_bind (wpAny_standAt (wpAny_bind (wpAny_of_eq (hfold x) ?_)))
    refine wpAny_bind (wpAny_holding (wF.any he fun it1 f hf => ?_))
    refine wpAny_bind (wpAny_runOwn ?_)
    rw [Around.mark_none]
    refine codeAny_mono hf fun r g hg => ?_
    match r, hg with
    | .ok _, hg => first | exact wpAny_pure ⟨rfl, hg⟩ | exact wpAny_bind (wpAny_pure (wpAny_pure ⟨rfl, hg⟩))
    | .error _, hg => exact hg.elim
/-- the inner loop's start: the iterator asked once more, or not -/
theorem inner_start (h0 : codeAny (model P w) A (.compLoop (twoFor elt t0 i0 t1 i1 scope pos) 1 it acc env) R s)
    (h : wpAny (model P w) A (pyIter it) (fun j a => codeAny (model P w) A (.compLoop (twoFor elt t0 i0 t1 i1 scope pos) 1 j acc env) R a) (notedBy (model P w) A env fun x a => R (.error x) a) s) :
    codeAny (model P w) A (.compStart (twoFor elt t0 i0 t1 i1 scope pos) 1 it acc env) R s := by
  refine codeAny_of_tree (wpAny_notedAt ?_)
  unfold compStart
  refine wpAny_bind (wpAny_askSetting (wpAny_ite ?_))
  split
  all_goals first
    | exact wpAny_bind (wpAny_pure (wpAny_pure ⟨rfl, h0⟩))
    | exact wpAny_pure ⟨rfl, h0⟩
    | (refine wpAny_bind (wpAny_rule (wpAny_bind (wpAny_standAt ?_)))
       exact wpAny_bind (wpAny_mono h (fun _ _ q => wpAny_pure ⟨rfl, q⟩) fun _ _ q => q))
end
end Qk
set_option maxRecDepth 100000
set_option maxHeartbeats 4000000
namespace Qk
open PySem PySem.Spec PyProof.Rows L2
/-- a loop over J: Done behind it; each turn from a drawn value has to come to the word that is handed to it -/
def Loop (J : It) (Done : Hp → Prop) (Body : V → Hp → (Hp → Prop) → Prop) (H : Hp) : Prop :=
  ∃ W : Nat → Nat → Hp → Prop, (∃ m, W 0 m H) ∧ ∀ i m G, W i m G → (J.stop i G ∧ Done G) ∨ (J.go i G ∧ ∃ Nx : Hp → Prop, (∀ G', Nx G' → ∃ m', m' < m ∧ W (i + 1) m' G') ∧ ∀ x G', J.yld i G x G' → Body x G' Nx)
theorem Loop.list {K : PySem.W.Frag} {a : Addr} {xs : List V} {Done : Hp → Prop} {Body : V → Hp → (Hp → Prop) → Prop} {H : Hp} (Pv : Nat → Hp → Prop) (h0 : Pv 0 H) (hl : ∀ i G, i ≤ xs.length → Pv i G → SqL K G a xs)
    (one : ∀ i x G, xs[i]? = some x → Pv i G → Body x G (Pv (i + 1))) (end_ : ∀ G, Pv xs.length G → Done G) : Loop (Itl K a) Done Body H := by
  refine ⟨fun i m G => m + i = xs.length ∧ Pv i G, ⟨xs.length, rfl, h0⟩, fun i m G hw => ?_⟩
  obtain ⟨hm, p⟩ := hw
  have q := hl i G (by omega) p
  rcases Nat.lt_or_ge i xs.length with lt | ge
  · have g : xs[i]? = some xs[i] := List.getElem?_eq_getElem lt
    refine .inr ⟨⟨xs, xs[i], q, g⟩, Pv (i + 1), fun G' p' => ⟨m - 1, by omega, by omega, p'⟩, fun x G' y => ?_⟩
    obtain ⟨rfl, y⟩ := y
    exact one i x _ (y xs q) p
  · have e : i = xs.length := by omega
    exact .inl ⟨⟨xs, q, ge⟩, end_ G (e ▸ p)⟩
theorem Loop.tup {K : PySem.W.Frag} {a : Addr} {xs : List V} {Done : Hp → Prop} {Body : V → Hp → (Hp → Prop) → Prop} {H : Hp} (Pv : Nat → Hp → Prop) (h0 : Pv 0 H) (hl : ∀ i G, i ≤ xs.length → Pv i G → SqT K G a xs)
    (one : ∀ i x G, xs[i]? = some x → Pv i G → Body x G (Pv (i + 1))) (end_ : ∀ G, Pv xs.length G → Done G) : Loop (Itt K a) Done Body H := by
  refine ⟨fun i m G => m + i = xs.length ∧ Pv i G, ⟨xs.length, rfl, h0⟩, fun i m G hw => ?_⟩
  obtain ⟨hm, p⟩ := hw
  have q := hl i G (by omega) p
  rcases Nat.lt_or_ge i xs.length with lt | ge
  · have g : xs[i]? = some xs[i] := List.getElem?_eq_getElem lt
    refine .inr ⟨⟨xs, xs[i], q, g⟩, Pv (i + 1), fun G' p' => ⟨m - 1, by omega, by omega, p'⟩, fun x G' y => ?_⟩
    obtain ⟨rfl, y⟩ := y
    exact one i x _ (y xs q) p
  · have e : i = xs.length := by omega
    exact .inl ⟨⟨xs, q, ge⟩, end_ G (e ▸ p)⟩
/-- where a loop stands -/
def Stand (Y : Cx) (p : List (Addr × Obj)) (σ : L2.St) (fp : List Addr) (tn : Nat → Heap → Prop) (W : Nat → Nat → Hp → Prop) (n : Nat) (s : Shared) : Prop :=
  ∃ i G, Inv Y p σ G s ∧ tn i s.heap ∧ (∀ b ∈ fp, G b = none) ∧ W i n G
/-- σ' knows what σ knows -/
def Knows (σ σ' : L2.St) : Prop := σ.length = σ'.length ∧ ∀ (j : Nat) (v : V), σ[j]? = some (some v) → σ'[j]? = some (some v)
theorem ask_next {Y : Cx} {p : List (Addr × Obj)} {σ : L2.St} {tg : Expr} {J : It} {fp : List Addr} {it : Addr} {tn : Nat → Heap → Prop} {W : Nat → Nat → Hp → Prop} {Done : Hp → Prop} {Body : V → Hp → (Hp → Prop) → Prop} {n : Nat} {s : Shared}
    (hc : Y.calm = true) (T : Turn Y.prog Y.w Y.K tg J fp it tn) (ap : ∀ {G : Hp} {s : Shared}, Inv Y p σ G s → (∀ b ∈ fp, G b = none) → ∀ b ∈ fp, FpOk Y p G b)
    (hW : ∀ i m G, W i m G → (J.stop i G ∧ Done G) ∨ (J.go i G ∧ ∃ Nx : Hp → Prop, (∀ G', Nx G' → ∃ m', m' < m ∧ W (i + 1) m' G') ∧ ∀ x G', J.yld i G x G' → Body x G' Nx)) (h : Stand Y p σ fp tn W n s) :
    wF Y.prog Y.w Y.A (pyNext (.ref it)) (fun r a => match r with
      | none => ∃ G, Inv Y p σ G a ∧ Done G ∧ ∀ b ∈ fp, G b = none
      | some v => wF Y.prog Y.w Y.A (letOwnedTupleGo tg (.ref it) v) (fun _ b => ∃ (x : V) (G : Hp) (Nx : Hp → Prop), Inv Y (p ++ pinsAt fp b.heap) σ G b ∧ RelV x v ∧ Body x G Nx ∧
          ∀ (σ' : L2.St) (c : Shared) (G' : Hp), Inv Y (p ++ pinsAt fp b.heap) σ' G' c → Knows σ σ' → Nx G' → ∃ m, m < n ∧ Stand Y p σ fp tn W m c) a) s := by
  obtain ⟨i, G, I, st, nf, w⟩ := h
  rcases hW i n G w with ⟨hs, hd⟩ | ⟨hg, Nx, hN, hB⟩
  · refine thnF (T.done Y rfl rfl rfl hc i p s σ G (fun _ _ => False) I (ap I nf) st hs) fun r a ⟨e, I1⟩ => ?_
    subst e
    exact ⟨G, I1, hd, nf⟩
  · refine thnF (T.item Y rfl rfl rfl hc i p s σ G (fun _ _ => False) I (ap I nf) st hg) fun r a ⟨u, e, h1⟩ => ?_
    subst e
    refine thnF h1 fun _ b ⟨x, G1, I1, r1, y1, st1, n1⟩ => ?_
    refine ⟨x, G1, Nx, I1.pinned (ap I1 n1) (T.obj _ _ st1), r1, hB x G1 y1, fun σ' c G' I' kn nx => ?_⟩
    obtain ⟨m', hm, w'⟩ := hN G' nx
    have still : ∀ d ∈ fp, ∀ o, b.heap.get? d = some o → c.heap.get? d = some o ∧ G' d = none := fun d hd o e => by
      have z := I'.pin (d, o) (List.mem_append_right _ (List.mem_append_right _ (mem_pinsAt hd e)))
      exact ⟨z.1, z.2.1⟩
    refine ⟨m', hm, i + 1, G', I'.unpinned.weak kn.1 kn.2, T.keep _ _ _ st1 fun d hd o e => (still d hd o e).1, fun d hd => ?_, w'⟩
    obtain ⟨o, e, _⟩ := T.obj _ _ st1 d hd
    exact (still d hd o e).2
theorem Knows.wipe {σ : L2.St} (vs : List Nat) : Knows (wipe σ vs) σ := ⟨wipe_length _ _, fun j v e => (wipe_some e).1⟩
end Qk
set_option maxRecDepth 100000
set_option maxHeartbeats 4000000
namespace Qk
open PySem PySem.Spec PyProof.Rows L2
/-- {elt for t0 in i0 for t1 in i1}: SO the new set as it is laid, rA what set.add asks -/
def tSc2 (SO : Addr → HO) (rA : List V → Hp → VK → Prop) (wi : TI) (g : TG) (wi1 : TI) (g1 : TG) (te : TE) (vs vs1 : List Nat) : TE := fun σ H Q => wi σ H fun J H1 => ∀ D, H1 D = none →
  Loop J (Q (.ref D)) (fun x G Nx => g x (wipe σ vs) G fun σ2 G2 => wipe σ2 vs = wipe σ vs ∧ wi1 σ2 G2 fun J1 G3 =>
    Loop J1 Nx (fun y G4 Nx1 => g1 y (wipe σ2 vs1) G4 fun σ3 G5 => wipe σ3 vs1 = wipe σ2 vs1 ∧ te σ3 G5 fun z G6 => rA [.ref D, z] G6 fun _ G7 => Nx1 G7) G3) (upd H1 D (SO D))
section
variable {X : Cx}
theorem pe_sc2 {SO : Addr → HO} {rA : List V → Hp → VK → Prop} {elt t0 i0 t1 i1 : Expr} {scope : Scope} {own : List (Str × Nat)} {vs1 : List Nat} {pos : Pos} {wi wi1 : TI} {g g1 : TG} {te : TE} (hc : X.calm = true) (hN : X.N.Nodup)
    (hnew : ∀ (G : Hp) (h : Heap) (D : Addr), h.get? D = some { cls := .type "set", dict := none, data := .set #[] 0 (.fresh 0 0 (!X.w.params.followText "set-order")) } → ObjOk X.prog X.w G h D (SO D))
    (hi : PI X t0 i0 wi) (ok : BlkOk X.N X.env.scope scope own) (hv : ∀ i ∈ vs1, i ∈ own.map (·.2))
    (hg : ∀ (s : Shared) (H : Hp) (C : Addr) (cl : List (Str × Addr)) (fp : List Addr), PG (X.blk s H scope (compEnvC scope cl C X.env) fp) t0 g)
    (hi1 : ∀ (s : Shared) (H : Hp) (C : Addr) (cl : List (Str × Addr)) (fp : List Addr), PI (X.blk s H scope (compEnvC scope cl C X.env) fp) t1 i1 wi1)
    (hg1 : ∀ (s : Shared) (H : Hp) (C : Addr) (cl : List (Str × Addr)) (fp : List Addr), PG (X.blk s H scope (compEnvC scope cl C X.env) fp) t1 g1)
    (he : ∀ (s : Shared) (H : Hp) (C : Addr) (cl : List (Str × Addr)) (fp : List Addr), PE (X.blk s H scope (compEnvC scope cl C X.env) fp) elt te)
    (ha : ∀ (s : Shared) (H : Hp) (C : Addr) (cl : List (Str × Addr)) (fp : List Addr), CallR (X.blk s H scope (compEnvC scope cl C X.env) fp) (.builtin "set.add") rA)
    (hs : ∀ x, foldedSetIterable i0 X.env x = pure x := by intro _; rfl) (hfold : ∀ env x, foldedSetIterable i1 env x = pure x := by intro _ _; rfl) :
    PE X (.SetComp elt [⟨t0, i0, [], 0⟩, ⟨t1, i1, [], 0⟩] scope pos) (tSc2 SO rA wi g wi1 g1 te (own.map (·.2)) vs1) := by
  refine ⟨fun pins s σ H Q I h => ?_⟩
  rw [PpSet.eval_SetComp]
  have hfree : ∀ y ∈ scope.names, y.2 = .free → ∃ c, X.env.cells.lookup y.1 = some c := fun y hy e => (ok.free y hy e).elim (fun k => I.ok.has _ (.inl k)) fun k => I.ok.has _ (.inr k)
  refine wpAny_comprehension_free (use := none) rfl hs (closure_ok hfree) ok.kind (fun y hy e => by rw [ok.uniq y hy, e])
    (thn (hi.run pins s σ H _ I h) fun xv s1 hx => thn hx fun itv s2 h2 => ?_)
  obtain ⟨it, fp, tn, J, H2, rfl, I2, T, st2, f2, q⟩ := h2
  refine PpSet.newSet_ok (newEnv_comp ?_)
  obtain ⟨D, hD⟩ : ∃ D, D = s2.heap.objs.size := ⟨_, rfl⟩
  obtain ⟨W, ⟨m0, w0⟩, hW⟩ := q D (I2.hok.fresh (Nat.le_of_eq hD.symm))
  obtain ⟨s3, hs3⟩ : ∃ s3 : Shared, s3 = { s2 with heap := s2.heap.push { cls := .type "set", dict := none, data := .set #[] 0 (.fresh 0 0 (!X.w.params.followText "set-order")) } } := ⟨_, rfl⟩
  have p3 : s3.heap = s2.heap.push { cls := .type "set", dict := none, data := .set #[] 0 (.fresh 0 0 (!X.w.params.followText "set-order")) } := by rw [hs3]
  have gD : s3.heap.get? D = some { cls := .type "set", dict := none, data := .set #[] 0 (.fresh 0 0 (!X.w.params.followText "set-order")) } := by rw [p3, hD]; exact Heap.get?_push_size _ rfl
  have I3 : Inv X pins σ (upd H2 D (SO D)) s3 := by
    have z := I2.laid (t' := s2.toks) (a := D) (o := SO D) (h' := s3.heap) (fun b o e => by rw [p3]; exact Heap.get?_push_of_some _ e) (Nat.le_of_eq hD.symm) (hnew _ _ _ gD)
    rw [hs3] at z ⊢
    exact z
  rw [← hD, ← hs3]
  have f3 : ∀ b ∈ fp, FpOk X pins (upd H2 D (SO D)) b ∧ b < s3.heap.objs.size := fun b hb => by
    obtain ⟨o, e, _⟩ := T.obj _ _ st2 b hb
    have lt := Heap.lt_size e
    refine ⟨⟨?_, (f2 b hb).2⟩, by rw [p3, Heap.size_push]; exact Nat.lt_succ_of_lt lt⟩
    rw [upd_ne (fun e => by rw [e, hD] at lt; exact Nat.lt_irrefl _ lt)]
    exact (f2 b hb).1
  have st3 : tn 0 s3.heap := T.keep _ _ _ st2 fun b _ o e => by rw [p3]; exact Heap.get?_push_of_some _ e
  obtain ⟨H3, hH3⟩ : ∃ H3, H3 = upd H2 D (SO D) := ⟨_, rfl⟩
  rw [← hH3] at I3 f3 w0
  have I4 := block_start I3 ok hN f3
  obtain ⟨cl, hcl⟩ : ∃ cl, cl = cellsFrom (s3.heap.objs.size + 1) scope.names (cloFrom X.env.cells scope.names []) := ⟨_, rfl⟩
  rw [← hcl] at I4
  have pg := hg s3 H3 s3.heap.objs.size cl fp
  have pi1 := hi1 s3 H3 s3.heap.objs.size cl fp
  have pg1 := hg1 s3 H3 s3.heap.objs.size cl fp
  have pe := he s3 H3 s3.heap.objs.size cl fp
  have pa := ha s3 H3 s3.heap.objs.size cl fp
  show codeAny _ _ (.compStart (twoFor elt t0 i0 t1 i1 scope pos) 0 (.ref it) (.ref D) (compEnvC scope (cellsFrom (s3.heap.objs.size + 1) scope.names (cloFrom X.env.cells scope.names [])) s3.heap.objs.size X.env)) (compPost (model X.prog X.w) X.A X.xe none _ (.ref D) s3.heap.objs.size) { s3 with heap := pushCells (s3.heap.push { cls := .type "dict", data := .dict #[] }) scope.names }
  rw [← hcl]
  obtain ⟨ce, hce⟩ : ∃ ce, ce = compEnvC scope cl s3.heap.objs.size X.env := ⟨_, rfl⟩
  have cL : ce.locals = s3.heap.objs.size := by rw [hce]; rfl
  rw [← hce] at I4 pg pi1 pg1 pe pa ⊢
  obtain ⟨s4, hs4⟩ : ∃ s4 : Shared, s4 = { s3 with heap := pushCells (s3.heap.push { cls := .type "dict", data := .dict #[] }) scope.names } := ⟨_, rfl⟩
  rw [← hs4] at I4 ⊢
  have st4 : tn 0 s4.heap := T.keep _ _ _ st3 fun b _ o e => by rw [hs4]; exact pushCells_keeps _ _ _ _ (Heap.get?_push_of_some _ e)
  have ap : ∀ {G : Hp} {a : Shared}, Inv (X.blk s3 H3 scope ce fp) [] (wipe σ (own.map (·.2))) G a → (∀ b ∈ fp, G b = none) → ∀ b ∈ fp, FpOk (X.blk s3 H3 scope ce fp) [] G b := fun {G a} I' hn b hb =>
    ⟨hn b hb, (I'.ok.exf b hb).1, I'.ok.exfs b hb, .inl hb, fun x c e => (I'.ok.exf b hb).2 x c e, fun p hp => nomatch (show p ∈ ([] : List (Addr × Obj)) from hp)⟩
  have loop : codeAny (model X.prog X.w) X.A (.compLoop (twoFor elt t0 i0 t1 i1 scope pos) 0 (.ref it) (.ref D) ce) (compPost (model X.prog X.w) X.A X.xe none (EP X pins σ Q) (.ref D) s3.heap.objs.size) s4 := by
    refine outer_loop (hfold ce) (Stand (X.blk s3 H3 scope ce fp) [] (wipe σ (own.map (·.2))) fp tn W) (fun n a hst => ?_) m0 ⟨0, H3, I4, st4, fun b hb => (f3 b hb).1.1, w0⟩
    refine thnF (ask_next (Y := X.blk s3 H3 scope ce fp) hc T ap hW hst) fun r a hr => ?_
    match r, hr with
    | none, ⟨G, I6, hd, n6⟩ =>
      have I7 : Inv X pins σ G a := I3.call' (ch := fp) I6.os I6.base I6.hok I6.bare fun b hb => ⟨(f3 b hb).1.2.2.2.1, (f3 b hb).1.2.1, (f3 b hb).1.2.2.2.2.1, (f3 b hb).1.2.2.2.2.2⟩
      have nC : G ce.locals = none := I6.free
      obtain ⟨m, hn, _⟩ := I6.loc
      have hn' : a.heap.Ns ce.locals m := hn
      rw [cL] at nC hn'
      obtain ⟨f0, f1, f2', f3', f4, f5⟩ := I3.fpOk (Nat.le_refl _) nC
      exact ⟨m, hn', fun h'' sb => ⟨.ref D, G, I7.turned (t' := a.toks) (fun b o hb e => (sb.2 b hb).trans e) f0 f1 f3' f4 f5, rfl, hd⟩⟩
    | some v, hr =>
      refine thnF hr fun _ b ⟨x, G, Nx, I7, r7, hB, fin⟩ => ?_
      refine thnF (pg.run _ b _ G x v _ I7 r7 hB) fun _ c ⟨σ8, H8, I8, hw8, q8⟩ => ?_
      refine thnF (pi1.run _ c σ8 H8 _ I8 q8) fun xv d hx => thnF hx fun itv e h11 => ?_
      obtain ⟨it1, fp1, tn1, J1, H11, rfl, I11, T1, st11, f11, W1, ⟨m1, w1⟩, hW1⟩ := h11
      have kn8 : Knows (wipe σ (own.map (·.2))) (wipe σ8 vs1) := by
        rw [← hw8]
        refine ⟨by rw [wipe_length, wipe_length], fun j v e => ?_⟩
        obtain ⟨e1, e2⟩ := wipe_some e
        rw [wipe_out fun z => e2 (hv j z)]
        exact e1
      have loop1 : codeAny (model X.prog X.w) X.A (.compLoop (twoFor elt t0 i0 t1 i1 scope pos) 1 (.ref it1) (.ref D) ce) (fun r f => match r with
          | .ok _ => ∃ m, m < n ∧ Stand (X.blk s3 H3 scope ce fp) [] (wipe σ (own.map (·.2))) fp tn W m f
          | .error _ => False) e := by
        refine inner_loop (Stand (X.blk s3 H3 scope ce fp) ([] ++ pinsAt fp b.heap) (wipe σ8 vs1) fp1 tn1 W1) (fun k a1 hst1 => ?_) m1 ⟨0, H11, I11.weak (wipe_length _ _) (fun j v e => (wipe_some e).1), st11, fun b hb => (f11 b hb).1, w1⟩
        refine thnF (ask_next (Y := X.blk s3 H3 scope ce fp) hc T1 (fun _ hn d hd => ⟨hn d hd, (f11 d hd).2⟩) hW1 hst1) fun r1 a2 hr1 => ?_
        match r1, hr1 with
        | none, ⟨G1, I13, hd1, _⟩ => exact fin _ a2 G1 I13 kn8 hd1
        | some v1, hr1 =>
          refine thnF hr1 fun _ b1 ⟨x1, G1, Nx1, I14, r14, hB1, fin1⟩ => ?_
          refine thnF (pg1.run _ b1 _ G1 x1 v1 _ I14 r14 hB1) fun _ c1 ⟨σ15, H15, I15, hw15, q15⟩ => ?_
          refine thnF (pe.run _ c1 σ15 H15 _ I15 q15) fun z d1 ⟨yv, H17, I17, r17, nx⟩ => ?_
          refine thnF (pa _ d1 σ15 H17 [.ref D, yv] [.ref D, z] _ I17 (.cons rfl (.cons r17 .nil)) nx) fun _ e1 ⟨_, G7, I18, _, q7⟩ => ?_
          exact fin1 σ15 e1 G7 I18 (by rw [← hw15]; exact Knows.wipe _) q7
      exact inner_start loop1 (T1.self X.A 0 _ _ _ st11 loop1)
  exact PpSet.codeAny_compStart_set loop (T.self X.A 0 _ _ _ st4 loop)
end
end Qk
set_option maxRecDepth 100000
set_option maxHeartbeats 4000000
namespace Qk
open PySem PySem.Spec PyProof.Rows L2
/-- the row of a text -/
def RowT (P : Program) (w : World) (e : Int × Value) (x : Str) : Prop := e.1 = (strKind P w).hash x ∧ ∃ tk, e.2 = Value.str x tk
structure Txts (P : Program) (w : World) (h : Heap) (a : Addr) (xs : List Str) (o : Obj) (es : Array (Int × Value)) (ep : Nat) (t : SetTable) : Prop where
  ob : h.get? a = some o
  ex : o.ExactSet
  da : o.data = .set es ep t
  rows : Paired (RowT P w) es.toList xs
  nd : xs.Nodup
  few : es.size < scanBound
  fit : t.fits es.size = true
  ris : Ris t.place.toList
  led : w.params.followText "set-order" = true ∨ t.led = true
def TxtSet (P : Program) (w : World) (h : Heap) (a : Addr) (xs : List Str) : Prop := ∃ o es ep t, Txts P w h a xs o es ep t
section
variable {P : Program} {w : World} {h : Heap} {a : Addr} {xs : List Str} {o : Obj} {es : Array (Int × Value)} {ep : Nat} {t : SetTable}
theorem rows_elems : ∀ {l : List (Int × Value)} {xs : List Str}, Paired (RowT P w) l xs → ElemsOf (strKind P w) l := by
  intro l xs h
  induction h with
  | nil => exact fun e he => nomatch he
  | cons r _ ih =>
    intro e he
    rcases List.mem_cons.mp he with rfl | he
    · obtain ⟨h1, tk, h2⟩ := r
      refine ⟨⟨_, ?_, h1⟩, by rw [h2]; rfl⟩
      rw [h2]
      exact strKind_is _ _ _ _
    · exact ih e he
theorem rows_len {l : List (Int × Value)} {xs : List Str} (h : Paired (RowT P w) l xs) : l.length = xs.length := by
  induction h with
  | nil => rfl
  | cons _ _ ih => rw [List.length_cons, List.length_cons, ih]
/-- the text x stands in a row just if it is a member -/
theorem rows_mem {l : List (Int × Value)} {xs : List Str} (h : Paired (RowT P w) l xs) (x : Str) : (∃ e ∈ l, (strKind P w).is x e.2 = true) ↔ x ∈ xs := by
  induction h with
  | nil => simp
  | @cons e y l ys r _ ih =>
    obtain ⟨_, tk, h2⟩ := r
    have e1 : (strKind P w).is x e.2 = true ↔ x = y := by
      rw [h2]
      show ((y == x) = true) ↔ x = y
      rw [beq_iff_eq]
      exact eq_comm
    rw [List.mem_cons, ← ih, ← e1]
    constructor
    · rintro ⟨d, hd, hx⟩
      rcases List.mem_cons.mp hd with rfl | hd
      · exact .inl hx
      · exact .inr ⟨d, hd, hx⟩
    · rintro (hx | ⟨d, hd, hx⟩)
      · exact ⟨e, List.mem_cons_self, hx⟩
      · exact ⟨d, List.mem_cons_of_mem _ hd, hx⟩
/-- rows in another order are those of the members in another order -/
theorem rows_perm {l l' : List (Int × Value)} (p : l'.Perm l) : ∀ {xs : List Str}, Paired (RowT P w) l xs → ∃ ys, Paired (RowT P w) l' ys ∧ ys.Perm xs := by
  have flip : ∀ {l l' : List (Int × Value)}, l.Perm l' → ∀ {xs : List Str}, Paired (RowT P w) l xs → ∃ ys, Paired (RowT P w) l' ys ∧ ys.Perm xs := by
    intro l l' p
    induction p with
    | nil => intro xs h; exact ⟨xs, h, .refl _⟩
    | cons e _ ih =>
      intro xs h
      cases h with
      | cons r h =>
        obtain ⟨ys, g, q⟩ := ih h
        exact ⟨_, .cons r g, q.cons _⟩
    | swap e f l =>
      intro xs h
      cases h with
      | cons r h =>
        cases h with
        | cons r' h => exact ⟨_, .cons r' (.cons r h), .swap _ _ _⟩
    | trans _ _ i1 i2 =>
      intro xs h
      obtain ⟨ys, g1, q1⟩ := i1 h
      obtain ⟨zs, g2, q2⟩ := i2 g1
      exact ⟨zs, g2, q2.trans q1⟩
  exact fun {xs} h => flip p.symm h
theorem TxtSet.keep {h' : Heap} (R : TxtSet P w h a xs) (k : ∀ u, h.get? a = some u → h'.get? a = some u) : TxtSet P w h' a xs := by
  obtain ⟨o, es, ep, t, r⟩ := R
  exact ⟨o, es, ep, t, { r with ob := k _ r.ob }⟩
theorem TxtSet.fresh (w : World) (hh : h.get? a = some { cls := .type "set", dict := none, data := .set #[] 0 (.fresh 0 0 (!w.params.followText "set-order")) }) : TxtSet P w h a [] := by
  refine ⟨_, #[], 0, _, hh, ⟨rfl, rfl, rfl⟩, rfl, .nil, .nil, by decide, by rfl, .nil, ?_⟩
  show w.params.followText "set-order" = true ∨ (!w.params.followText "set-order") = true
  cases w.params.followText "set-order"
  · exact .inr rfl
  · exact .inl rfl
end
end Qk
set_option maxRecDepth 100000
set_option maxHeartbeats 4000000
namespace Qk
open PySem PySem.Spec PyProof.Rows L2
section
variable {P : Program} {w : World} {A : Around} {E : Value → Shared → Prop} {s : Shared} {a : Addr} {xs : List Str}
/-- the rows stored, and laid anew where the table is too full -/
theorem txt_store {g : Bool → Sem Unit} (say : ∀ (b : Bool) (c : Shared) (Q : Unit → Shared → Prop), Q () c → wpAny (model P w) A (g b) Q E c) {o : Obj} {es : Array (Int × Value)} {ep : Nat} {t : SetTable} (ob : s.heap.get? a = some o) (ex : o.ExactSet) (da : o.data = .set es ep t)
    {es1 : Array (Int × Value)} {t2 : SetTable} {zs : List Str} (rows : Paired (RowT P w) es1.toList zs) (nd : zs.Nodup) (few : es1.size < scanBound) (fit : t2.fits es1.size = true) (ris : Ris t2.place.toList) (led : w.params.followText "set-order" = true ∨ t2.led = true) {wd : Bool} {R : Option Bool → Shared → Prop}
    (hR : ∀ h' ys, Heap.SameBut a s.heap h' → TxtSet P w h' a ys → ys.Perm zs → R (some true) { s with heap := h' }) :
    wpAny (model P w) A (do
      storeSet a es1 t2
      if (!wd && t2.tooFull) = true then do
          g (relayAll t2 es1 (SetTable.grown es1.size)).2.2
          storeSet a (relayAll t2 es1 (SetTable.grown es1.size)).1 (relayAll t2 es1 (SetTable.grown es1.size)).2.1
          pure (some true)
        else pure (some true)) R E s := by
  have one := store_at (es' := es1) (t' := t2) ob da
  have but := Heap.SameBut.update s.heap a (Obj.putSet es1 t2)
  refine wpAny_bind (wpAny_storeSet_of ob da ?_ (fits_of_scanBound few))
  by_cases full : (!wd && t2.tooFull) = true
  · rw [if_pos full]
    obtain ⟨ys, rows', pm⟩ := rows_perm (relayAll_perm t2 es1 (SetTable.grown es1.size)) rows
    have few' : (relayAll t2 es1 (SetTable.grown es1.size)).1.size < scanBound := by
      rw [← Array.length_toList, rows_len rows', pm.length_eq, ← rows_len rows, Array.length_toList]
      exact few
    refine wpAny_bind (say _ _ _ (wpAny_bind (wpAny_storeSet_of one rfl ?_ (fits_of_scanBound few'))))
    have two := store_at (es' := (relayAll t2 es1 (SetTable.grown es1.size)).1) (t' := (relayAll t2 es1 (SetTable.grown es1.size)).2.1) one rfl
    exact wpAny_pure (hR _ ys (but.trans (Heap.SameBut.update _ a _)) ⟨_, _, _, _, two, ex, rfl, rows', pm.nodup_iff.mpr nd, few', relayAll_fits t2 es1 _, relayAll_ris t2 es1 _, led.imp id fun z => (relayAll_led t2 es1 _).trans z⟩ pm)
  · rw [if_neg full]
    exact wpAny_pure (hR _ zs but ⟨_, es1, _, t2, one, ex, rfl, rows, nd, few, fit, ris, led⟩ (.refl _))
theorem txt_hashed {x : Str} {tk : Tok} {Q : Bool → Shared → Prop} (R : TxtSet P w s.heap a xs) (room : xs.length + 1 < scanBound)
    (hQ : ∀ b h' ys, Heap.SameBut a s.heap h' → TxtSet P w h' a ys → (x ∈ xs → ys = xs) → (x ∉ xs → ys.Perm (x :: xs)) → Q b { s with heap := h' }) :
    wpAny (model P w) A (setAddHashed a (.str x tk) ((strKind P w).hash x)) Q E s := by
  obtain ⟨o, es, ep, t, r⟩ := R
  have hel := rows_elems r.rows
  have sz : es.size = xs.length := by rw [← Array.length_toList, rows_len r.rows]
  have sc : (Value.str x tk).scannable = true := rfl
  unfold setAddHashed setAddHashedIn
  refine wpAny_holding ?_
  refine wpAny_bind (wpAny_setState_of r.ob r.da r.fit ?_)
  dsimp only
  rw [byScan_of sc r.few hel]
  simp only [↓reduceIte]
  unfold setAddByScan
  refine wpAny_bind (wpAny_bind (wpAny_rule (wpAny_bind (wpAny_setScan_of (strKind_is P w x tk) r.ob r.da r.fit hel ?_))))
  cases fi : List.findIdx? (fun e => (strKind P w).is x e.2) es.toList with
  | some j =>
    dsimp only
    obtain ⟨hj, pj, _⟩ := List.findIdx?_eq_some_iff_getElem.mp fi
    have mx : x ∈ xs := (rows_mem r.rows x).mp ⟨_, List.getElem_mem hj, pj⟩
    exact wpAny_pure (wpAny_pure (hQ false s.heap xs (Heap.SameBut.refl a s.heap) ⟨o, es, ep, t, r⟩ (fun _ => rfl) fun z => absurd mx z))
  | none =>
    dsimp only
    have nx : x ∉ xs := fun z => by
      obtain ⟨e, he, q⟩ := (rows_mem r.rows x).mpr z
      have c := List.findIdx?_eq_none_iff.mp fi e he
      rw [q] at c
      cases c
    have pm0 := layNew_perm t es ((strKind P w).hash x) (.str x tk)
    have fit1 := layNew_fits t es ((strKind P w).hash x) (.str x tk)
    have ris1 := layNew_ris t es ((strKind P w).hash x) (.str x tk) r.ris
    have led1 := layNew_led t es ((strKind P w).hash x) (.str x tk)
    generalize layNew t es ((strKind P w).hash x) (.str x tk) = Z at pm0 fit1 ris1 led1 ⊢
    obtain ⟨es1, t1, wd, gave⟩ := Z
    dsimp only at pm0 fit1 ris1 led1 ⊢
    rw [Array.toList_push] at pm0
    have pc : es1.toList.Perm (((strKind P w).hash x, Value.str x tk) :: es.toList) := pm0.trans (List.perm_append_singleton _ _)
    obtain ⟨zs, rows1, pm1⟩ := rows_perm pc (Paired.cons (a := ((strKind P w).hash x, Value.str x tk)) (b := x) ⟨rfl, tk, rfl⟩ r.rows)
    have nd1 : zs.Nodup := pm1.nodup_iff.mpr (List.nodup_cons.mpr ⟨nx, r.nd⟩)
    have few1 : es1.size < scanBound := by
      rw [← Array.length_toList, rows_len rows1, pm1.length_eq, List.length_cons]
      exact room
    have ledt : w.params.followText "set-order" = true ∨ t1.led = true := r.led.imp id fun z => led1.trans z
    have fin : ∀ h' ys, Heap.SameBut a s.heap h' → TxtSet P w h' a ys → ys.Perm zs → Q true { s with heap := h' } := fun h' ys sb R' q => hQ true h' ys sb R' (fun z => absurd z nx) fun _ => q.trans pm1
    have quietly : ∀ (b : Bool) {c : Shared} {Q' : Unit → Shared → Prop}, Q' () c → wpAny (model P w) A (match b with | true => rule "set.scan.the-table-gave-way" | false => pure ()) Q' E c := fun b c Q' q => by
      cases b
      · exact wpAny_pure q
      · exact wpAny_rule q
    refine wpAny_bind (quietly _ ?_)
    split
    · refine wpAny_bind ?_
      rw [hashByValue_scannable 8 sc]
      refine wpAny_pure (txt_store ?_ r.ob r.ex r.da rows1 nd1 few1 ?_ ?_ ?_ ?_)
      · intro b c Q' q
        cases b <;> first | exact wpAny_pure q | exact wpAny_rule q
      · first | exact fit1 | (split <;> first | exact fit1 | exact SetTable.fits_plain_off fit1)
      · first | exact ris1 | (split <;> exact ris1)
      · first | exact ledt | (split <;> exact ledt)
      · intro h' ys sb R' q
        exact wpAny_pure (fin h' ys sb R' q)
    · refine wpAny_bind (wpAny_pure ?_)
      simp only [↓reduceIte]
      refine txt_store ?_ r.ob r.ex r.da rows1 nd1 few1 fit1 ris1 ledt ?_
      · intro b c Q' q
        cases b <;> first | exact wpAny_pure q | exact wpAny_rule q
      · intro h' ys sb R' q
        exact wpAny_pure (fin h' ys sb R' q)
end
end Qk
set_option maxRecDepth 100000
set_option maxHeartbeats 4000000
namespace Qk
open PySem PySem.Spec PyProof.Rows L2
def TxtO (P : Program) (w : World) (a : Addr) (xs : List Str) : HO := .ext fun h => TxtSet P w h a xs
theorem txtO_ok {P : Program} {w : World} {H : Hp} {h : Heap} {a : Addr} {xs : List Str} (R : TxtSet P w h a xs) : ObjOk P w H h a (TxtO P w a xs) := by
  have ⟨o, _, _, _, r⟩ := R
  exact ⟨R, ⟨o, r.ob⟩, fun _ _ p k => p.keep k⟩
/-- set.add of a text -/
def rAddT (P : Program) (w : World) : List V → Hp → VK → Prop := fun vs H Q => ∃ (a : Addr) (x : Str) (xs : List Str), vs = [.ref a, .str x] ∧ H a = some (TxtO P w a xs) ∧ xs.length + 1 < scanBound ∧
  ∀ ys, (x ∈ xs → ys = xs) → (x ∉ xs → ys.Perm (x :: xs)) → Q .non (upd H a (TxtO P w a ys))
/-- sorted of such a set -/
def rSortT (P : Program) (w : World) : List V → Hp → VK → Prop := fun vs H Q => ∃ (a : Addr) (xs : List Str), vs = [.ref a] ∧ H a = some (TxtO P w a xs) ∧ xs.length < 64 ∧
  ∀ (ys : List Str) (p : Addr), ys.Perm xs → sortedS ys = true → H p = none → Q (.ref p) (upd H p (.lst (ys.map V.str)))
theorem strs_rows {P : Program} {w : World} {l : List (Int × Value)} {xs : List Str} (h : Paired (RowT P w) l xs) : StrsAre (l.map (·.2)) xs := by
  induction h with
  | nil => exact .nil
  | @cons e y l ys r _ ih =>
    obtain ⟨_, tk, h2⟩ := r
    show StrsAre (e.2 :: l.map (·.2)) (y :: ys)
    rw [h2]
    exact .cons y tk ih
theorem strs_perm {us vs : List Value} (p : us.Perm vs) : ∀ {xs : List Str}, StrsAre us xs → ∃ ys, StrsAre vs ys ∧ ys.Perm xs := by
  induction p with
  | nil => intro xs h; exact ⟨xs, h, .refl _⟩
  | cons u _ ih =>
    intro xs h
    cases h with
    | cons x t h =>
      obtain ⟨ys, g, q⟩ := ih h
      exact ⟨_, .cons x t g, q.cons _⟩
  | swap u v l =>
    intro xs h
    cases h with
    | cons x t h =>
      cases h with
      | cons y t' h => exact ⟨_, .cons y t' (.cons x t h), .swap _ _ _⟩
  | trans _ _ i1 i2 =>
    intro xs h
    obtain ⟨ys, g1, q1⟩ := i1 h
    obtain ⟨zs, g2, q2⟩ := i2 g1
    exact ⟨zs, g2, q2.trans q1⟩
section
variable {X : Cx}
theorem cr_addT : CallR X (.builtin "set.add") (rAddT X.prog X.w) := by
  intro pins s σ H vs us Q I rv h
  obtain ⟨a, x, xs, rfl, ha, room, q⟩ := h
  obtain ⟨u, u', rfl, r1, tk, r2⟩ := vals2 rv
  cases r1
  subst r2
  have R : TxtSet X.prog X.w s.heap a xs := (I.hok a _ ha).1
  obtain ⟨o, es, ep, t, r⟩ := id R
  refine wpAny_call_entry PySem.F.slot_set_add ⟨o, r.ob, r.ex.1⟩ PySem.F.entry_set_add ?_ (PySem.F.args_set_add_2 _ _)
  unfold Builtin.«set.add» Builtin.Frozenset.oneOther
  simp only [List.isEmpty_nil, bind_assoc]
  unfold Builtin.Frozenset.addrOf setAdd
  refine wpAny_bind (wpAny_pure (wpAny_bind (wpAny_pure (wpAny_bind (wpAny_holding ?_)))))
  refine wpAny_bind ((strKind X.prog X.w).pyHash (strKind_is X.prog X.w x tk) ?_)
  refine txt_hashed (s := { s with toks := s.toks + 1 }) R room fun b h' ys sb new c1 c2 => ?_
  have he : ∃ u, h'.get? a = some u := by
    have ⟨o', _, _, _, r'⟩ := new
    exact ⟨o', r'.ob⟩
  exact wpAny_pure ⟨_, rfl, .non, _, I.write (e := a) (t' := s.toks + 1) (by rw [ha]; trivial) (.inl rfl) (fun b u hb hu => (sb.2 b hb).trans hu) he (txtO_ok new), rfl, q ys c1 c2⟩
theorem cr_sortT (hc : X.calm = true) : CallR X (.builtin "sorted") (rSortT X.prog X.w) := by
  intro pins s σ H vs us Q I rv h
  obtain ⟨a, xs, rfl, ha, h64, q⟩ := h
  obtain ⟨u, rfl, rx⟩ := vals1 rv
  cases rx
  obtain ⟨o, es, ep, t, r⟩ : TxtSet X.prog X.w s.heap a xs := (I.hok a _ ha).1
  refine Calls.call_function_entry PyProof.Rows.kind_sorted PyProof.Rows.plain_sorted PyProof.Rows.entry_sorted (args_sorted1 _) ?_
  unfold Builtin.«sorted»
  refine wpAny_bind (m := checkCount "sorted" 1 1 _) (wpAny_pure (wpAny_bind (collect_set (A := X.A.in1) (I.ok.hd hc) ⟨o, r.ob, r.ex.1, r.da⟩ r.fit r.few r.ris r.led fun s1 vs k1 hz g1 o1 pm => ?_)))
  obtain ⟨zs, hS, hp0⟩ := strs_perm pm.symm (strs_rows r.rows)
  have hl : vs.length = zs.length := hS.length
  have zl : zs.length < 64 := by rw [hp0.length_eq]; exact h64
  refine wpAny_bind (wpAny_newList ?_ (by rw [hl, sizeLine_eq]; omega))
  have hoL : (s1.heap.push (seqObj "list" vs.toArray 0)).get? s1.heap.objs.size = some (seqObj "list" vs.toArray 0) := Heap.get?_push_size _ rfl
  refine wpAny_bind (wpAny_holding (wpAny_call_entry PyProof.Rows.slot_list_sort ⟨_, hoL, rfl⟩ PyProof.Rows.entry_list_sort
    (list_sort_treeK strKind_oneLt (s := { s1 with heap := s1.heap.push (seqObj "list" vs.toArray 0) }) hoL hS.keysOf (fun v₁ v₂ rest e => keyKind_strs (by rw [← e]; exact hS)) (by rw [hl]; exact zl) fun st' hp hs => ⟨_, rfl, ?_⟩)
    (PyProof.Rows.args_list_sort _)))
  obtain ⟨ys, e1, e2, e3⟩ := sorted_out_str hS hp hs
  obtain ⟨n, hn⟩ := PyProof.Rows.sortedHeap_at (vs := vs) (out := (arrOf st').map (·.2)) hoL
  have old : ∀ b u, s.heap.get? b = some u → (sortedHeap (s1.heap.push (seqObj "list" vs.toArray 0)) s1.heap.objs.size vs ((arrOf st').map (·.2))).get? b = some u := fun b u e => by
    have c := k1 b u e
    have lt := Heap.lt_size c
    rw [PyProof.Rows.sortedHeap_old (Nat.ne_of_lt lt) (by rw [size_push']; exact Nat.lt_succ_of_lt lt)]
    exact Heap.get?_push_of_some _ c
  have nN : H s1.heap.objs.size = none := I.hok.fresh hz
  have lo : (ys.map V.str).length ≤ sizeLine := by
    rw [List.length_map, e2.length_eq, sizeLine_eq]
    omega
  have J : Inv X pins σ (upd H s1.heap.objs.size (.lst (ys.map V.str))) { s with heap := sortedHeap (s1.heap.push (seqObj "list" vs.toArray 0)) s1.heap.objs.size vs ((arrOf st').map (·.2)), gens := s1.gens, drawn := s1.drawn, toks := s1.toks } :=
    I.call (ch := []) (Un.laid old hz nN) (I.hok.laid old hz ⟨lo, ((arrOf st').map (·.2)).toList, n, vals_of_strs e1, by rw [Array.toArray_toList]; exact hn⟩) (by rw [g1]; exact I.bare) (fun _ z => nomatch z)
  have eo : ({ s1 with heap := sortedHeap (s1.heap.push (seqObj "list" vs.toArray 0)) s1.heap.objs.size vs ((arrOf st').map (·.2)) } : Shared) = { s with heap := sortedHeap (s1.heap.push (seqObj "list" vs.toArray 0)) s1.heap.objs.size vs ((arrOf st').map (·.2)), gens := s1.gens, drawn := s1.drawn, toks := s1.toks } := by
    obtain ⟨_, _, _, _, os'⟩ := s1
    obtain rfl : os' = s.os := o1
    rfl
  refine wpAny_pure ⟨_, rfl, .ref s1.heap.objs.size, _, ?_, rfl, q ys _ (e2.trans hp0) e3 nN⟩
  show Inv X pins σ _ ({ s1 with heap := sortedHeap (s1.heap.push (seqObj "list" vs.toArray 0)) s1.heap.objs.size vs ((arrOf st').map (·.2)) } : Shared)
  rw [eo]
  exact J
end
end Qk
set_option maxRecDepth 100000
set_option maxHeartbeats 4000000
set_option maxRecDepth 100000
set_option maxHeartbeats 4000000
namespace Qk
open PySem PySem.Spec PyProof.Rows L2
/-- an error of the class at C stands at a -/
def Er (H : Hp) (a C : Addr) : Prop := H a = some (exo a C none) ∨ ∃ d fs, H a = some (exo a C (some d)) ∧ H d = some (exd d fs)
theorem Er.same {H H' : Hp} {a C : Addr} (s : Same H H') (h : Er H a C) : Er H' a C := by
  rcases h with h | ⟨d, fs, h, hd⟩
  · exact .inl (s _ _ h)
  · exact .inr ⟨d, fs, s _ _ h, s _ _ hd⟩
end Qk
set_option maxRecDepth 100000
set_option maxHeartbeats 4000000
namespace Qk
open PySem PySem.Spec PyProof.Rows L2
mutual
inductive D1 (H : Hp) : V → PyData → Prop
  | non : D1 H .non .none
  | bl (b : Bool) : D1 H (.bl b) (.bool b)
  | int (i : Int) : D1 H (.int i) (.int i)
  | str (x : Str) : D1 H (.str x) (.str x)
  | lst {a : Addr} {xs : List V} {ds : List PyData} : H a = some (.lst xs) → a ≠ sysModules → D1A H xs ds → D1 H (.ref a) (.list ds)
  | tup {a : Addr} {xs : List V} {ds : List PyData} : H a = some (.tup xs) → D1A H xs ds → D1 H (.ref a) (.tuple ds)
inductive D1A (H : Hp) : List V → List PyData → Prop
  | nil : D1A H [] []
  | cons {v : V} {vs : List V} {d : PyData} {ds : List PyData} : D1 H v d → D1A H vs ds → D1A H (v :: vs) (d :: ds)
end
def kD : Key → PyData
  | .inl i => .int i
  | .inr x => .str x
inductive D2K (H : Hp) : List (Key × V) → List (PyData × PyData) → Prop
  | nil : D2K H [] []
  | cons {k : Key} {v : V} {d : PyData} {kvs : List (Key × V)} {D : List (PyData × PyData)} : D1 H v d → D2K H kvs D → D2K H ((k, v) :: kvs) ((kD k, d) :: D)
def D2 (H : Hp) (v : V) (d : PyData) : Prop := D1 H v d ∨ ∃ a kvs D, v = .ref a ∧ H a = some (.dK kvs) ∧ D2K H kvs D ∧ d = .dict D
section
variable {X : Cx} {pins : List (Addr × Obj)} {σ : L2.St} {H : Hp} {s : Shared}
mutual
theorem D1.reads (I : Inv X pins σ H s) : ∀ (d : PyData) (v : V) (u : Value), D1 H v d → RelV v u → ∃ as, Reads s.heap u d as ∧ sysModules ∉ as
  | .none, _, _, h, r => by
    cases h
    cases r
    exact ⟨_, Reads.none, by simp⟩
  | .bool b, _, _, h, r => by
    cases h
    cases r
    exact ⟨_, Reads.bool b, by simp⟩
  | .int i, _, _, h, r => by
    cases h
    obtain ⟨t, rfl⟩ := r
    exact ⟨_, Reads.int i t, by simp⟩
  | .str x, _, _, h, r => by
    cases h
    obtain ⟨t, rfl⟩ := r
    exact ⟨_, Reads.str x t, by simp⟩
  | .list ds, _, _, h, r => by
    cases h with
    | lst hs hn ha =>
      cases r
      obtain ⟨its, rv, ⟨o, n, ho, hc, _, hd⟩, _⟩ := I.list (SqL.of hs)
      obtain ⟨as, hr, ns⟩ := D1.readsAll I ds _ its ha rv
      refine ⟨_, Reads.list ho hc hd hr, fun z => ?_⟩
      rcases List.mem_cons.mp z with e | e
      · exact hn e.symm
      · exact ns e
  | .tuple ds, _, _, h, r => by
    cases h with
    | tup hs ha =>
      cases r
      obtain ⟨its, rv, ⟨o, ho, hc, n, hd⟩, _⟩ := I.tuple (SqT.of hs)
      obtain ⟨as, hr, ns⟩ := D1.readsAll I ds _ its ha rv
      exact ⟨_, Reads.tuple ho hc hd hr, ns⟩
  | .dict _, _, _, h, _ => by cases h
theorem D1.readsAll (I : Inv X pins σ H s) : ∀ (ds : List PyData) (vs : List V) (us : List Value), D1A H vs ds → Vals vs us → ∃ as, ReadsAll s.heap us ds as ∧ sysModules ∉ as
  | [], _, _, h, r => by
    cases h
    cases r
    exact ⟨_, ReadsAll.nil, by simp⟩
  | d :: ds, _, _, h, r => by
    cases h with
    | cons h1 h2 =>
      cases r with
      | cons r1 r2 =>
        obtain ⟨as, q1, n1⟩ := D1.reads I d _ _ h1 r1
        obtain ⟨bs, q2, n2⟩ := D1.readsAll I ds _ _ h2 r2
        refine ⟨_, ReadsAll.cons q1 q2, fun z => ?_⟩
        rcases List.mem_append.mp z with e | e
        · exact n1 e
        · exact n2 e
end
theorem D2K.reads (I : Inv X pins σ H s) {kvs : List (Key × V)} {D : List (PyData × PyData)} (h : D2K H kvs D) : ∀ (vs : List (Key × Value)) (es : List DictEntry), KV kvs vs → Pairs (mixKind X.prog X.w) es vs →
    ∃ as bs, ReadsAll s.heap (es.map (·.key)) (D.map (·.1)) as ∧ ReadsAll s.heap (es.map (·.val)) (D.map (·.2)) bs ∧ sysModules ∉ as ∧ sysModules ∉ bs := by
  induction h with
  | nil =>
    intro vs es r p
    cases r
    cases p
    exact ⟨_, _, ReadsAll.nil, ReadsAll.nil, by simp, by simp⟩
  | @cons k v d kvs D h1 h2 ih =>
    intro vs es r p
    cases r with
    | @cons _ q _ vs' r1 r2 =>
      cases p with
      | @cons e _ es' _ p1 p2 p3 =>
        obtain ⟨as, bs, q1, q2, n1, n2⟩ := ih _ _ r2 p3
        obtain ⟨cs, q3, n3⟩ := D1.reads I d v e.val h1 (by rw [p2]; exact r1.2)
        have hk : ∃ ds, Reads s.heap e.key (kD k) ds ∧ sysModules ∉ ds := by
          have e1 : k = q.1 := r1.1
          rw [← e1] at p1
          rcases keyIs_shape (show keyIs k e.key = true from p1) with ⟨i, t, rfl, e2⟩ | ⟨x, t, rfl, e2⟩
          · rw [e2]
            exact ⟨_, Reads.int i t, by simp⟩
          · rw [e2]
            exact ⟨_, Reads.str x t, by simp⟩
        obtain ⟨ds, q4, n4⟩ := hk
        refine ⟨_, _, ReadsAll.cons q4 q1, ReadsAll.cons q3 q2, fun z => ?_, fun z => ?_⟩
        · rcases List.mem_append.mp z with e | e
          · exact n4 e
          · exact n1 e
        · rcases List.mem_append.mp z with e | e
          · exact n3 e
          · exact n2 e
theorem D2.reads (I : Inv X pins σ H s) {v : V} {d : PyData} {u : Value} (h : D2 H v d) (r : RelV v u) : ∃ as, Reads s.heap u d as ∧ sysModules ∉ as := by
  rcases h with h | ⟨a, kvs, D, rfl, ha, hk, rfl⟩
  · exact D1.reads I d v u h r
  · cases r
    obtain ⟨z, hd, vs, rel, ⟨o, es, ep, h1, h2, h3, h4, h5, h6⟩⟩ := dk_of I.hok ha
    obtain ⟨as, bs, q1, q2, n1, n2⟩ := hk.reads I vs es.toList rel h5
    refine ⟨_, Reads.dict h1 h2.1 h3 q1 q2, fun z => ?_⟩
    rcases List.mem_append.mp z with e | e
    · rcases List.mem_cons.mp e with e | e
      · rw [← e] at hd
        simp at hd
      · exact n1 e
    · exact n2 e
end
end Qk
set_option maxRecDepth 100000
set_option maxHeartbeats 4000000
namespace Qk
open PySem PySem.Spec PyProof.Rows L2
/-- an error with its one field -/
def ErF (H : Hp) (a C : Addr) (f : Str) (x : V) : Prop := ∃ d, H a = some (exo a C (some d)) ∧ H d = some (exd d [(f, x)])
theorem ErF.same {H H' : Hp} {a C : Addr} {f : Str} {x : V} (s : Same H H') (h : ErF H a C f x) : ErF H' a C f x := by
  obtain ⟨d, h1, h2⟩ := h
  exact ⟨d, s _ _ h1, s _ _ h2⟩
mutual
theorem D1.same {H H' : Hp} (s : Same H H') : ∀ (d : PyData) (v : V), D1 H v d → D1 H' v d
  | .none, _, h => by
    cases h
    exact .non
  | .bool b, _, h => by
    cases h
    exact .bl b
  | .int i, _, h => by
    cases h
    exact .int i
  | .str x, _, h => by
    cases h
    exact .str x
  | .list ds, _, h => by
    cases h with
    | lst a b c => exact .lst (s _ _ a) b (D1.sameAll s ds _ c)
  | .tuple ds, _, h => by
    cases h with
    | tup a c => exact .tup (s _ _ a) (D1.sameAll s ds _ c)
  | .dict _, _, h => by cases h
theorem D1.sameAll {H H' : Hp} (s : Same H H') : ∀ (ds : List PyData) (vs : List V), D1A H vs ds → D1A H' vs ds
  | [], _, h => by
    cases h
    exact .nil
  | d :: ds, _, h => by
    cases h with
    | cons a b => exact .cons (D1.same s d _ a) (D1.sameAll s ds _ b)
end
def tyD : PyData → String
  | .none => "NoneType"
  | .bool _ => "bool"
  | .int _ => "int"
  | .str _ => "str"
  | .list _ => "list"
  | .tuple _ => "tuple"
  | .dict _ => "dict"
theorem D1.ty {K : PySem.W.Frag} {H : Hp} {v : V} {d : PyData} (h : D1 H v d) : TyX K H v (.type (tyD d)) := by
  cases h with
  | non => exact .base .non
  | bl b => exact .base (.bl b)
  | int i => exact .base (.int i)
  | str x => exact .base (.str x)
  | lst a b c => exact .base (.lst a)
  | tup a c => exact .base (.tup a)
theorem ErF.off {H : Hp} {a b C : Addr} {f : Str} {x : V} {o u : HO} (h : ErF H a C f x) (hb : H b = some o) (ho : ∀ φ, o ≠ .ext φ) : ErF (L2.upd H b u) a C f x := by
  obtain ⟨d, h1, h2⟩ := h
  refine ⟨d, ?_, ?_⟩
  · rw [upd_ne (ne_of h1 hb fun z => ho _ z.symm)]
    exact h1
  · rw [upd_ne (ne_of h2 hb fun z => ho _ z.symm)]
    exact h2
theorem D2K.same {H H' : Hp} (s : Same H H') {kvs : List (Key × V)} {D : List (PyData × PyData)} (h : D2K H kvs D) : D2K H' kvs D := by
  induction h with
  | nil => exact .nil
  | cons h1 _ ih => exact .cons (D1.same s _ _ h1) ih
theorem D2.same {H H' : Hp} (s : Same H H') {v : V} {d : PyData} (h : D2 H v d) : D2 H' v d := by
  rcases h with h | ⟨a, kvs, D, rfl, ha, hk, rfl⟩
  · exact .inl (D1.same s _ _ h)
  · exact .inr ⟨a, kvs, D, rfl, s _ _ ha, hk.same s, rfl⟩
end Qk
set_option maxRecDepth 100000
set_option maxHeartbeats 4000000
namespace Qk
open PySem PySem.Spec PyProof.Rows L2
theorem dok_qs3 {qs : List Qd} (h : ∀ q ∈ qs, Qfine q) (hl : qs.length ≤ 300) : DOk (.list (qs.map dq)) :=
  ⟨fine_qs h, by show PyData.depthAll _ + 1 ≤ 50; have := depth_qs qs; omega, by show costAll _ + 3 ≤ _; have := cost_qs h; omega⟩
/-- a row as data -/
def dR (r : List Str) : PyData := .tuple (r.map PyData.str)
theorem TL.dp {K : PySem.W.Frag} {H : Hp} : ∀ {xs : List V} {rs : List (List Str)}, TL H xs rs → DpAll K H xs (rs.map dR)
  | _, _, .nil => .nil
  | _, _, .cons ⟨t, e, z⟩ r => by
    subst e
    exact .cons (.tup (SqT.of z) (dp_strs _)) (TL.dp r)
theorem TL.kp {H H' : Hp} {b l : Addr} {xs : List V} {rs : List (List Str)} (B : Bag H b l) (s : Kp b H H') (h : TL H xs rs) : TL H' xs rs :=
  Paired.mapP h fun x r ⟨t, e, z⟩ => ⟨t, e, s _ _ z (B.ne_tup z)⟩
theorem TL.mem {H : Hp} {xs : List V} {rs : List (List Str)} (h : TL H xs rs) : ∀ x ∈ xs, ∃ (t : Addr) (r : List Str), x = .ref t ∧ r ∈ rs ∧ H t = some (.tup (r.map V.str)) := fun x hx => by
  obtain ⟨i, hi⟩ := List.mem_iff_getElem?.mp hx
  obtain ⟨t, r, e, h1, h2⟩ := h.at_ hi
  exact ⟨t, r, e, List.mem_of_getElem? h1, h2⟩
/-- taken in another order -/
theorem paired_perm {α β : Type} {F : α → β → Prop} {xs ys : List α} (hp : ys.Perm xs) : ∀ {us : List β}, Paired F xs us → ∃ vs, Paired F ys vs ∧ vs.Perm us := by
  have key : ∀ {xs ys : List α}, xs.Perm ys → ∀ {us : List β}, Paired F xs us → ∃ vs, Paired F ys vs ∧ vs.Perm us := by
    intro xs ys hp
    induction hp with
    | nil => intro us h; exact ⟨us, h, .refl _⟩
    | cons x _ ih =>
      intro us h
      cases h with
      | cons h1 h2 =>
        obtain ⟨vs, g1, g2⟩ := ih h2
        exact ⟨_ :: vs, .cons h1 g1, g2.cons _⟩
    | swap x y l =>
      intro us h
      cases h with
      | cons h1 h2 =>
        cases h2 with
        | cons h3 h4 => exact ⟨_, .cons h3 (.cons h1 h4), .swap _ _ _⟩
    | trans _ _ i1 i2 =>
      intro us h
      obtain ⟨vs, g1, g2⟩ := i1 h
      obtain ⟨ws, k1, k2⟩ := i2 g1
      exact ⟨ws, k1, k2.trans g2⟩
  exact fun {us} h => key hp.symm h
end Qk
set_option maxRecDepth 100000
set_option maxHeartbeats 4000000
namespace Qk
open PySem PySem.Spec PyProof.Rows L2
structure OwnIn (K : PySem.W.Frag) (C f : Addr) : Prop where
  at_ : PySem.W.findIn K (.ref C) "__contains__" = some (some (.ref f))
  fn : PySem.W.isFn K (.ref f) = true
def rInO (C : Addr) (sp : Sp) (neg : Bool) : R2 := fun x y H Q => ∃ (a dx : Addr) (fs : List (Str × V)), y = .ref a ∧ H a = some (.ins C dx fs) ∧ sp [.ref a, x] H (fun v H' => ∃ r, v = .bl r ∧ Q (.bl (if neg = true then !r else r)) H') E0
section
variable {X : Cx} {C f : Addr} {fd : FuncData} {n : Nat} {sp : Sp} {p1 p2 : Str}
theorem run_two {A : Around} {pins : List (Addr × Obj)} {σ : L2.St} {H : Hp} {s : Shared} {Q : VK} {us : List Value} {vs : List V} (F : FnOk X.prog X.w X.K X.mg X.base CX0 n f fd [p1, p2] sp) (hA : Sub X n A) (hb : Binds X.K fd [p1, p2] [])
    (I : Inv X pins σ H s) (r : Vals vs us) (h : sp vs H Q E0) : wpAny (model X.prog X.w) A (call (.ref f) us) (EP X pins σ Q) X.xe s := by
  have e0 : Env0 X.prog X.w X.K X.mg X.base A X.stack s H := env_sub hA I
  have hl : (us ++ ([] : List Value)).length = [p1, p2].length := by
    rw [List.append_nil, ← r.length]
    exact F.len _ _ _ _ h
  have hbd := hb s us I.kIn hl
  rw [List.append_nil] at hbd
  refine wpAny_call (codeAny_mono (F.run A X.stack s H ⟨us, []⟩ us vs Q E0 hA.room e0 hbd r h) fun r s' hq => ?_)
  cases r with
  | error e => exact False.elim hq
  | ok fl =>
    cases fl with
    | ret u => exact I.after hq
    | next => exact False.elim hq
    | brk => exact False.elim hq
    | cont => exact False.elim hq
theorem op_inO (O : OwnIn X.K C f) (F : FnOk X.prog X.w X.K X.mg X.base CX0 n f fd [p1, p2] sp) (hr : Room n X.A) (hb : Binds X.K fd [p1, p2] []) : OpR X (compareOp .In) (rInO C sp false) := by
  intro pins s σ H x y v u Q I rx ry hq
  obtain ⟨a, dx, fs, rfl, ha, h⟩ := hq
  cases ry
  obtain ⟨mA, J, _⟩ := ins_get I.hok ha
  obtain ⟨od, J, _⟩ := J.look
  obtain ⟨m, hF⟩ := I.fr
  refine PySem.W.in_K hF I.ok.mod.kin J O.at_ O.fn ?_
  refine wpAny_mono (run_two (us := [.ref a, v]) (vs := [.ref a, x]) F ⟨hr, rfl⟩ hb I (.cons rfl (.cons rx .nil)) h) (fun r s' z => ?_) fun _ _ e => e
  obtain ⟨w, H', I', rw', r, rfl, q⟩ := z
  cases rw'
  exact wpAny_pure ⟨.bl r, H', I', rfl, q⟩
end
end Qk
set_option maxRecDepth 100000
set_option maxHeartbeats 4000000
set_option maxRecDepth 100000
set_option maxHeartbeats 4000000
namespace Qk
open PySem PySem.Spec PyProof.Rows L2
/-- an error that was raised: its class and its dict -/
def erx (a : Addr) (cls : Value) (d : Option Addr) : HO := .ext fun h => ∃ (oe : Obj) (vs : Array Value), h.get? a = some oe ∧ Zc cls d oe ∧ oe.data = .fields vs
end Qk
set_option maxRecDepth 100000
set_option maxHeartbeats 4000000
namespace Qk
open PySem PySem.Spec PyProof.Rows L2
section
variable {X : Cx} {pins : List (Addr × Obj)} {σ : L2.St} {H : Hp} {s : Shared}
/-- an error of the class C that was raised, its fields -/
def Erx (H : Hp) (a C d : Addr) (fs : List (Str × V)) : Prop := H a = some (erx a (.ref C) (some d)) ∧ H d = some (.xd fs)
theorem Erx.same {H H' : Hp} {a C d : Addr} {fs : List (Str × V)} (s : Same H H') (h : Erx H a C d fs) : Erx H' a C d fs := ⟨s _ _ h.1, s _ _ h.2⟩
end
end Qk
set_option maxRecDepth 100000
set_option maxHeartbeats 4000000
set_option maxRecDepth 100000
set_option maxHeartbeats 4000000
set_option maxRecDepth 100000
set_option maxHeartbeats 4000000
namespace Qk
open PySem PySem.Spec PyProof.Rows L2
section
variable {X : Cx}
/-- set(xs), xs a list of texts -/
def rSetL (K : PySem.W.Frag) (P : Program) (w : World) : List V → Hp → VK → Prop := fun vs H Q => ∃ (l : Addr) (xs : List Str), vs = [.ref l] ∧ SqL K H l (xs.map V.str) ∧ xs.length ≤ 1000 ∧
  ∀ (p : Addr) (n : Nat), H p = none → n ≤ xs.length → (n = xs.length ↔ xs.Nodup) → Q (.ref p) (upd H p (SetX P w p (fun z => decide (z ∈ xs)) n))
/-- xs != [], whatever xs holds -/
def rNeNil (K : PySem.W.Frag) : R2 := fun x y H Q => ∃ (a b : Addr) (xs : List V), x = .ref a ∧ y = .ref b ∧ SqL K H a xs ∧ SqL K H b [] ∧ Q (.bl (!decide (xs = []))) H
theorem op_neNil (hu : X.A.units + 64 < cLine) : OpR X (compareOp .NotEq) (rNeNil X.K) := by
  intro pins s σ H x y v u Q I rx ry h
  obtain ⟨a, b, xs, rfl, rfl, ha, hb, q⟩ := h
  cases rx
  cases ry
  by_cases hx : xs = []
  · subst hx
    exact op_neD hu pins s σ H (.ref a) (.ref b) (.ref a) (.ref b) Q I rfl rfl ⟨.list [], .list [], .lst ha .nil, .lst hb .nil, rfl, rfl, q⟩
  · obtain ⟨its, rv, pl, _⟩ := I.list ha
    obtain ⟨jts, rv2, pl2, _⟩ := I.list hb
    have l1 : its.length = xs.length := rv.length.symm
    have l2 : jts.length = 0 := rv2.length.symm
    have ne : xs.length ≠ 0 := fun e => hx (List.eq_nil_of_length_eq_zero e)
    rw [decide_eq_false hx] at q
    refine PySem.SeqAt.RcNeAt.lists_lengths pl.isList pl2.isList (by simp [l1, l2, ne]) (by omega) X.prog X.w X.xe _ ⟨.bl true, H, I, rfl, q⟩
end
end Qk
set_option maxRecDepth 100000
set_option maxHeartbeats 4000000
namespace Qk
open PySem PySem.Spec PyProof.Rows L2
/-- a flat value: a text is of signs as they are written, where it is short -/
def Flat (H : Hp) (A : Addr → Prop) (x : V) : Prop := x = .non ∨ (∃ b, x = .bl b) ∨ (∃ i, x = .int i) ∨ (∃ z : Str, x = .str z ∧ z.cps.size ≤ 10000 ∧ (z.cps.size ≤ 8 → PyData.strOk z = true)) ∨ ∃ a kvs, x = .ref a ∧ ¬ A a ∧ H a = some (.dK kvs)
/-- a value whose lists and tuples lie at most n deep, none of them at an address of A -/
def VA (mx : Nat) (H : Hp) (A : Addr → Prop) : Nat → V → Prop
  | 0, x => Flat H A x
  | n + 1, x => Flat H A x ∨ ∃ a xs, x = .ref a ∧ ¬ A a ∧ (H a = some (.lst xs) ∨ H a = some (.tup xs)) ∧ xs.length ≤ mx ∧ ∀ y ∈ xs, VA mx H A n y
section
variable {mx : Nat} {H H' : Hp} {A A' : Addr → Prop}
theorem Flat.keep {x : V} (k : ∀ c o, H c = some o → ¬ A c → H' c = some o ∧ ¬ A' c) (h : Flat H A x) : Flat H' A' x := by
  rcases h with h | h | h | h | ⟨a, kvs, e, na, ha⟩
  · exact .inl h
  · exact .inr (.inl h)
  · exact .inr (.inr (.inl h))
  · exact .inr (.inr (.inr (.inl h)))
  · exact .inr (.inr (.inr (.inr ⟨a, kvs, e, (k _ _ ha na).2, (k _ _ ha na).1⟩)))
theorem VA.keep : ∀ {n : Nat} {x : V}, (∀ c o, H c = some o → ¬ A c → H' c = some o ∧ ¬ A' c) → VA mx H A n x → VA mx H' A' n x
  | 0, x, k, h => Flat.keep k h
  | n + 1, x, k, h => by
    rcases h with h | ⟨a, xs, e, na, ha, hl, hx⟩
    · exact .inl (Flat.keep k h)
    · refine .inr ⟨a, xs, e, ?_, ?_, hl, fun y hy => VA.keep k (hx y hy)⟩
      · rcases ha with ha | ha
        · exact (k _ _ ha na).2
        · exact (k _ _ ha na).2
      · rcases ha with ha | ha
        · exact .inl (k _ _ ha na).1
        · exact .inr (k _ _ ha na).1
theorem VA.same {n : Nat} {x : V} (s : Same H H') (h : VA mx H A n x) : VA mx H' A n x := VA.keep (fun c o e na => ⟨s c o e, na⟩) h
theorem Flat.va {x : V} (h : Flat H A x) : ∀ {n : Nat}, VA mx H A n x
  | 0 => h
  | _ + 1 => .inl h
theorem VA.up : ∀ {n : Nat} {x : V}, VA mx H A n x → VA mx H A (n + 1) x
  | 0, _, h => .inl h
  | n + 1, _, h => by
    rcases h with h | ⟨a, xs, e, na, ha, hl, hx⟩
    · exact .inl h
    · exact .inr ⟨a, xs, e, na, ha, hl, fun y hy => VA.up (hx y hy)⟩
theorem VA.le {n m : Nat} (h : n ≤ m) {x : V} (v : VA mx H A n x) : VA mx H A m x := by
  obtain ⟨k, rfl⟩ := Nat.le.dest h
  clear h
  induction k with
  | zero => exact v
  | succ k ih => exact ih.up
/-- what stands in the heap stands outside of A -/
def Out (H : Hp) (A : Addr → Prop) : Prop := ∀ c, A c → ∃ o, H c = some o
end
/-- new values: all that they are made of is newer than H0 -/
def old (H0 : Hp) : Addr → Prop := fun c => ∃ o, H0 c = some o
theorem VA.old {mx : Nat} {H0 H : Hp} {A : Addr → Prop} {n : Nat} {x : V} (h : VA mx H (old H0) n x) (hA : Out H0 A) : VA mx H A n x := VA.keep (fun c o e na => ⟨e, fun ha => na (hA c ha)⟩) h
theorem VA.older {mx : Nat} {H0 H1 H : Hp} {n : Nat} {x : V} (s : Same H0 H1) (h : VA mx H (Qk.old H1) n x) : VA mx H (Qk.old H0) n x := VA.keep (fun c o e na => ⟨e, fun ⟨u, hu⟩ => na ⟨u, s _ _ hu⟩⟩) h
theorem VA.wide : ∀ {n mx my : Nat} {H : Hp} {A : Addr → Prop} {x : V}, mx ≤ my → VA mx H A n x → VA my H A n x
  | 0, _, _, _, _, _, _, h => h
  | n + 1, mx, my, H, A, x, hm, h => by
    rcases h with h | ⟨a, xs, e, na, ha, hl, hx⟩
    · exact .inl h
    · exact .inr ⟨a, xs, e, na, ha, Nat.le_trans hl hm, fun y hy => VA.wide hm (hx y hy)⟩
theorem VA.fresh {mx n : Nat} {H : Hp} {A : Addr → Prop} {x : V} {p : Addr} {o : HO} (hp : H p = none) (h : VA mx H A n x) : VA mx (upd H p o) (fun c => A c ∨ c = p) n x :=
  VA.keep (fun c u e na => ⟨by rw [upd_ne (ne_of_none e hp)]; exact e, fun ha => ha.elim na fun ec => ne_of_none e hp ec⟩) h
def tLit (mx n : Nat) : TE := fun σ H Q => ∀ (H' : Hp) (v : V), Same H H' → VA mx H' (old H) n v → Q v H'
def tLits (mx n m : Nat) : TA := fun σ H R => ∀ (H' : Hp) (vs : List V), Same H H' → vs.length = m → (∀ v ∈ vs, VA mx H' (old H) n v) → R vs H'
section
variable {X : Cx} {mx : Nat}
theorem PE.imp {e : Expr} {t t' : TE} (h : PE X e t) (hi : ∀ σ H Q, t' σ H Q → t σ H Q) : PE X e t' := ⟨fun pins s σ H Q I q => h.run pins s σ H Q I (hi σ H Q q)⟩
theorem PA.imp {es : List Expr} {t t' : TA} (h : PA X es t) (hi : ∀ σ H Q, t' σ H Q → t σ H Q) : PA X es t' := ⟨fun pos pins s σ H Q I q => h.run pos pins s σ H Q I (hi σ H Q q)⟩
theorem pe_litC {e : Expr} {v : V} (h : PE X e (tC v)) (f : ∀ H A, Flat H A v) {n : Nat} : PE X e (tLit mx n) := PE.imp h fun σ H Q q => q H v (Same.refl _) (f H _).va
theorem pa_lits0 {n : Nat} : PA X [] (tLits mx n 0) := PA.imp pa_nil fun σ H Q q => q H [] (Same.refl _) rfl fun v hv => nomatch hv
theorem pa_lits {n m : Nat} {e : Expr} {es : List Expr} (h : PE X e (tLit mx n)) (hs : PA X es (tLits mx n m)) (hst : starEach (e :: es) X.env = (false, eval e X.env) :: starEach es X.env := by rfl) : PA X (e :: es) (tLits mx n (m + 1)) :=
  PA.imp (pa_cons h hs hst) fun σ H Q q => fun H1 v s1 v1 => fun H2 vs s2 hl v2 => q H2 (v :: vs) (s1.trans s2) (by rw [List.length_cons, hl]) fun u hu => by
    rcases List.mem_cons.mp hu with rfl | hu
    · exact VA.same s2 v1
    · exact VA.older s1 (v2 u hu)
theorem lit_new {H H1 : Hp} {n m : Nat} {vs : List V} {p : Addr} {o : HO} (s : Same H H1) (hp : H1 p = none) (ho : o = .tup vs ∨ o = .lst vs) (hl : vs.length = m) (hm : m ≤ mx) (hv : ∀ v ∈ vs, VA mx H1 (old H) n v) : VA mx (upd H1 p o) (old H) (n + 1) (.ref p) := by
  refine .inr ⟨p, vs, rfl, fun ⟨u, hu⟩ => ?_, ?_, by omega, fun y hy => VA.same (same_new hp) (hv y hy)⟩
  · rw [s _ _ hu] at hp
    cases hp
  · rcases ho with rfl | rfl
    · exact .inr upd_same
    · exact .inl upd_same
theorem pe_litT {n m : Nat} {es : List Expr} {x1} {pos : Pos} (h : PA X es (tLits mx n m)) (hm : m ≤ mx := by decide) (h4 : mx ≤ 1000 := by decide) : PE X (.Tuple es x1 pos) (tLit mx (n + 1)) :=
  PE.imp (pe_tup h) fun σ H Q q => fun H1 vs s hl hv => ⟨by rw [hl]; rw [sizeLine_eq]; omega, fun p hp => q _ _ (s.trans (same_new hp)) (lit_new s hp (.inl rfl) hl hm hv)⟩
theorem pe_litL {n m : Nat} {es : List Expr} {pos : Pos} (h : PA X es (tLits mx n m)) (hm : m ≤ mx := by decide) (h4 : mx ≤ 1000 := by decide) : PE X (.List es pos) (tLit mx (n + 1)) :=
  PE.imp (pe_lst h) fun σ H Q q => fun H1 vs s hl hv => ⟨by rw [hl]; rw [sizeLine_eq]; omega, fun p hp => q _ _ (s.trans (same_new hp)) (lit_new s hp (.inr rfl) hl hm hv)⟩
theorem pe_litD0 {n : Nat} {pos : Pos} : PE X (.Dict [] [] pos) (tLit mx n) :=
  PE.imp pe_dnewK fun σ H Q q => fun p hp => q _ _ (same_new hp) (Flat.va (.inr (.inr (.inr (.inr ⟨p, [], rfl, fun ⟨u, hu⟩ => (by rw [hp] at hu; cases hu), upd_same⟩)))))
theorem fl_str {z : Str} (h : z.cps.size ≤ 10000) (ok : z.cps.size ≤ 8 → PyData.strOk z = true) : ∀ H A, Flat H A (.str z) := fun H A => .inr (.inr (.inr (.inl ⟨z, rfl, h, ok⟩)))
theorem fl_int (i : Int) : ∀ H A, Flat H A (.int i) := fun H A => .inr (.inr (.inl ⟨i, rfl⟩))
theorem fl_bl (b : Bool) : ∀ H A, Flat H A (.bl b) := fun H A => .inr (.inl ⟨b, rfl⟩)
theorem fl_non : ∀ H A, Flat H A .non := fun H A => .inl rfl
/-- a text so many times -/
def rMulS : R2 := fun x y H Q => ∃ (z : Str) (n : Int), x = .str z ∧ y = .int n ∧ 2 ≤ n ∧ n ≤ 10000 ∧ z.cps.size = 1 ∧ ∀ u : Str, u.cps.size = n.toNat → Q (.str u) H
theorem fold_size (z : Array Nat) : ∀ (k : Nat) (acc : Array Nat), ((List.replicate k z).foldl (· ++ ·) acc).size = acc.size + k * z.size
  | 0, acc => by simp
  | k + 1, acc => by
    rw [List.replicate_succ, List.foldl_cons, fold_size z k, Array.size_append, Nat.succ_mul]
    omega
theorem op_mulS : OpR X (binaryOp .Mult) rMulS := by
  intro pins s σ H x y v u Q I rx ry h
  obtain ⟨z, n, rfl, rfl, h2, hn, hz, q⟩ := h
  obtain ⟨t, rfl⟩ := rx
  obtain ⟨t', rfl⟩ := ry
  have hl : z.length = 1 := hz
  refine P.mul_str ?_ (fun _ _ => ?_) (fun _ _ => ?_) ?_
  · rw [decide_eq_false (by omega), decide_eq_false (by omega)]
    rfl
  · rw [hl]
    have : (1 : Int) ≤ (2 ^ 63 - 1) / n := by
      refine Int.le_ediv_of_mul_le (by omega) (by omega)
    omega
  · rw [hl]
    show decide (1 * n.toNat > sizeLine) = false
    exact decide_eq_false (by rw [sizeLine_eq]; omega)
  · have e0 : ¬ n < 1 := by omega
    have e1 : (n == 1 || z.length == 0) = false := by
      rw [hl]
      simp
      omega
    rw [if_neg e0, if_neg (by rw [e1]; decide)]
    have es : (⟨(List.replicate n.toNat z.cps).foldl (· ++ ·) #[]⟩ : Str).cps.size = n.toNat := by
      show ((List.replicate n.toNat z.cps).foldl (· ++ ·) #[]).size = n.toNat
      rw [fold_size, hz]
      simp
    exact ⟨by show _ ≤ sizeLine; rw [sizeLine_eq]; show (⟨(List.replicate n.toNat z.cps).foldl (· ++ ·) #[]⟩ : Str).cps.size ≤ _; omega, .str _, H, I.tok _, ⟨_, rfl⟩, q _ es⟩
theorem pe_litD1 {k v : Expr} {z : Str} {x : V} {n : Nat} {pos : Pos} (hk : PE X k (tC (.str z))) (hv : PE X v (tC x)) : PE X (.Dict [some k] [v] pos) (tLit mx n) :=
  PE.imp (pe_disp (pps_cons hk hv pps_nil) rfl rfl (by simp) (by show 1 ≤ 15; decide)) fun σ H Q q => fun p hp => ⟨upd_same, [(Sum.inr z, x)], rfl, by show 1 ≤ 15; decide, q _ _ (fun c o hc => by rw [upd_ne (ne_of_none hc hp), upd_ne (ne_of_none hc hp)]; exact hc)
    (Flat.va (.inr (.inr (.inr (.inr ⟨p, _, rfl, fun ⟨u, hu⟩ => (by rw [hp] at hu; cases hu), upd_same⟩)))))⟩
theorem pe_litNeg {e : Expr} {i : Int} {n : Nat} {pos : Pos} (h : PE X e (tC (.int i))) : PE X (.UnaryOp .USub e pos) (tLit mx n) :=
  PE.imp (pe_un (r := rU fun i => .int (-i)) un_neg h) fun σ H Q q => ⟨i, rfl, q H _ (Same.refl _) (fl_int _ H _).va⟩
theorem pe_litPow {e f : Expr} {n : Nat} {pos : Pos} (h : PE X e (tC (.int 10))) (g : PE X f (tC (.int 39))) : PE X (.BinOp e .Pow f pos) (tLit mx n) :=
  PE.imp (pe_op op_pow h g) fun σ H Q q => ⟨10, 39, rfl, rfl, ⟨by decide, by decide, by decide⟩, q H _ (Same.refl _) (fl_int _ H _).va⟩
theorem pe_litMul {e f : Expr} {z : Str} {n : Nat} {i : Int} {pos : Pos} (h : PE X e (tC (.str z))) (g : PE X f (tC (.int i))) (hz : z.cps.size = 1) (h1 : 9 ≤ i) (h2 : i ≤ 10000) : PE X (.BinOp e .Mult f pos) (tLit mx n) :=
  PE.imp (pe_op op_mulS h g) fun σ H Q q => ⟨z, i, rfl, rfl, by omega, h2, hz, fun u hu => q H _ (Same.refl _) (fl_str (by omega) (fun h => by omega) H _).va⟩
end
end Qk
set_option maxRecDepth 100000
set_option maxHeartbeats 4000000
namespace Qk
open PySem PySem.Spec PyProof.Rows L2
section
variable {P : Program} {w : World} {A : Around} {R : Result → Shared → Prop} {I : Addr} {fp wr : List Addr} {G : Array GenState → Array GenState → Prop} {n : Nat} {Pv : Nat → Value → Prop} {St : Nat → Shared → Prop}
/-- what stands after i turns -/
def FillT (P : Program) (w : World) (xs : List Str) (S : Addr) (i : Nat) (h : Heap) : Prop := ∃ ys, TxtSet P w h S ys ∧ ys.Nodup ∧ (∀ z, z ∈ ys ↔ z ∈ xs.take i) ∧ ys.length ≤ i
theorem fill_loopT (W : WalksS P w A.in1 I fp wr G n Pv St) (S : Addr) (hSf : S ∉ fp) (xs : List Str) (hsz : xs.length = n) (hn1 : n ≤ 1000) (hval : ∀ i v, Pv i v → ∃ t, v = .str (xs.getD i Str.empty) t) :
    ∀ (k i : Nat) (s : Shared), n - i = k → i ≤ n → St i s → FillT P w xs S i s.heap → (∀ s', Moved (S :: wr) G s s' → FillT P w xs S n s'.heap → R (.ok (.ret .none)) s') →
      codeAny (model P w) A (.builtin "set.update.loop" ⟨[.ref S, .ref I], []⟩) R s := by
  have hSw : S ∉ wr := fun h => hSf (W.sub _ h)
  have hsub : ∀ b ∈ wr, b ∈ S :: wr := fun b hb => List.mem_cons_of_mem _ hb
  have same : ∀ {s s' : Shared} {i : Nat}, Moved wr G s s' → FillT P w xs S i s.heap → FillT P w xs S i s'.heap := fun hm ⟨j, g, q⟩ => ⟨j, g.keep fun u e => hm.heap S _ hSw e, q⟩
  intro k
  induction k with
  | zero =>
    intro i s hk hi hst hS hR
    obtain rfl : i = n := by omega
    refine codeAny_builtin PyProof.Rows.F.entry_set_update_loop ?_
    rw [Around.under_plainId PyProof.Rows.F.plain_set_update_loop _]
    exact wpAny_bind (m := pyNext (.ref I)) (W.done s _ _ hst fun s' hm => wpAny_pure (hR s' (hm.mono hsub) (same hm hS)))
  | succ k ih =>
    intro i s hk hi hst hS hR
    have hlt : i < n := by omega
    refine codeAny_builtin PyProof.Rows.F.entry_set_update_loop ?_
    rw [Around.under_plainId PyProof.Rows.F.plain_set_update_loop _]
    refine wpAny_bind (m := pyNext (.ref I)) (W.item i s _ _ hlt hst fun v s' hP hst' hm => ?_)
    obtain ⟨t, rfl⟩ := hval i v hP
    obtain ⟨ys, g, hnd, hmem, hj⟩ := same hm hS
    show wpAny _ A.in1 (holding [Value.str (xs.getD i Str.empty) t] (setAdd S (.str (xs.getD i Str.empty) t)) >>= _) _ _ s'
    refine wpAny_bind (wpAny_holding ?_)
    unfold setAdd
    refine wpAny_holding (wpAny_bind ((strKind P w).pyHash (k := xs.getD i Str.empty) (strKind_is _ _ _ _) ?_))
    refine txt_hashed (s := { s' with toks := s'.toks + 1 }) g (by unfold scanBound; omega) fun b h' zs hsb g2 c1 c2 => ?_
    have hx : xs[i]? = some (xs.getD i Str.empty) := by
      rw [List.getD_eq_getElem?_getD, List.getElem?_eq_getElem (by omega)]
      rfl
    have ht : xs.take (i + 1) = xs.take i ++ [xs.getD i Str.empty] := by rw [List.take_add_one, hx]; rfl
    have g3 : FillT P w xs S (i + 1) h' := by
      by_cases hm' : xs.getD i Str.empty ∈ ys
      · have e := c1 hm'
        subst e
        refine ⟨zs, g2, hnd, fun z => ?_, by omega⟩
        rw [ht, List.mem_append, List.mem_singleton, ← hmem z]
        exact ⟨.inl, fun h => h.elim id fun h => by rw [h]; exact hm'⟩
      · have p := c2 hm'
        refine ⟨zs, g2, p.nodup_iff.mpr (List.nodup_cons.mpr ⟨hm', hnd⟩), fun z => ?_, by rw [p.length_eq, List.length_cons]; omega⟩
        rw [ht, List.mem_append, List.mem_singleton, ← hmem z, p.mem_iff, List.mem_cons]
        exact or_comm
    refine wpAny_pure ⟨plainId_quiet PyProof.Rows.F.plain_set_update_loop _, ih (i + 1) _ (by omega) hlt (W.frame _ s' _ _ hst' (Nat.le_succ _) fun b hb o e => ?_) g3 fun s'' hm'' hS'' => ?_⟩
    · rw [hsb.2 b (fun h : b = S => hSf (by rw [← h]; exact hb))]
      exact e
    · refine hR s'' (Moved.trans W.gtrans ((hm.mono hsub).then_heap (Nat.le_succ _) fun b o hb e => ?_) hm'') hS''
      rw [hsb.2 b (fun h : b = S => hb (by rw [h]; exact List.mem_cons_self))]
      exact e
end
section
variable {P : Program} {w : World} {A : Around} {E : Value → Shared → Prop} {s : Shared}
set_option maxHeartbeats 8000000 in
theorem set_tupleW {l : Addr} {items : Array Value} {xs : List Str} {Q : Value → Shared → Prop} (hh : A.handled = none) (hl : s.heap.IsTuple l items) (hi : PyProof.Rows.StrsAre items.toList xs) (hn1 : xs.length ≤ 1000)
    (h : ∀ (h' : Heap) (tk : Nat), FillT P w xs s.heap.objs.size items.size h' → (∀ b o, s.heap.get? b = some o → h'.get? b = some o) → Q (.ref s.heap.objs.size) { s with heap := h', toks := tk }) :
    wpAny (model P w) A (call (.type "set") [.ref l]) Q E s := by
  obtain ⟨c, tl, hmro⟩ := PySem.F.called_set.mro
  have hmade := PySem.F.called_set.made
  have hsub := PySem.F.called_set.sub
  refine wpAny_call (codeAny_of_tree ?_)
  show wpAny _ _ (callAny (.type "set") _) _ _ _
  refine wpAny_pure ⟨Code.quiet_builtin _ (by decide +kernel), codeAny_builtin PySem.F.entry_type_call ?_⟩
  rw [Around.under_plain (weight_type_call_type "set" [.ref l] []) rfl]
  have q1 := PySem.F.called_set.notType
  have q2 := PySem.F.called_set.canCreate
  have q3 := PySem.F.typeCall_set_1 (.ref l)
  repeat (any_goals (first | assumption | wp_step))
  obtain ⟨N, hN⟩ : ∃ N, N = s.heap.objs.size := ⟨_, rfl⟩
  obtain ⟨B, hB⟩ : ∃ B : Bool, B = !w.params.followText "set-order" := ⟨_, rfl⟩
  refine codeAny_mono (code_set_led1 (.ref l) (E := E) (Q₁ := fun v s₁ => v = .ref s.heap.objs.size ∧ s₁ = { s with heap := s.heap.push { cls := .type "set", dict := none, data := .set #[] 0 (.fresh 0 0 B) } }) ⟨rfl, by rw [hB]⟩) fun r s₁ hr => ?_
  cases r with
  | error e => exact hr
  | ok fl =>
    cases fl with
    | ret v =>
      obtain ⟨rfl, rfl⟩ := hr
      have hS : (s.heap.push { cls := .type "set", dict := none, data := .set #[] 0 (.fresh 0 0 B) }).get? s.heap.objs.size = some { cls := .type "set", dict := none, data := .set #[] 0 (.fresh 0 0 B) } := Heap.get?_push_size _ rfl
      have hT : Shared.TypeIs { s with heap := s.heap.push { cls := .type "set", dict := none, data := .set #[] 0 (.fresh 0 0 B) } } (.ref s.heap.objs.size) "set" := ⟨_, hS, rfl⟩
      have q4 := PySem.F.called_set.init.lookup
      have q5 := PySem.F.called_set.init.bind (.ref s.heap.objs.size)
      repeat (any_goals (first | assumption | wp_step))
      refine codeAny_mono (codeAny_call_builtin (R := wants (fun r s₂ => r = .none ∧ ∃ h' tk, s₂ = { s with heap := h', toks := tk } ∧ FillT P w xs s.heap.objs.size items.size h' ∧ (∀ b o, s.heap.get? b = some o → h'.get? b = some o)) E)
        PySem.F.called_set.init.plain PySem.F.entry_set_init (check_set_init_1 hT ?_)) fun r₂ s₂ hr₂ => ?_
      · have hlS : l < s.heap.objs.size := by
          obtain ⟨ol, hol, _⟩ := hl
          exact Heap.lt_size hol
        have hl1 : (s.heap.push { cls := .type "set", dict := none, data := .set #[] 0 (.fresh 0 0 B) }).IsTuple l items := hl.push _
        obtain ⟨ol, hol, hcl, nl, hdl⟩ := hl1
        obtain ⟨ocls, odict, odata, oslots⟩ := ol
        simp only at hcl hdl
        subst hcl; subst hdl
        have hol' := hol
        have q6 := PySem.F.sub_tuple_set
        have q7 := PySem.F.sub_tuple_frozenset
        have q8 : (Value.type "tuple" == Value.type "dict") = false := by decide
        have hl1 : (s.heap.push { cls := .type "set", dict := none, data := .set #[] 0 (.fresh 0 0 B) }).IsTuple l items := ⟨_, hol, rfl, nl, rfl⟩
        unfold Builtin.«set.__init__» noKeywords Builtin.Frozenset.updateFrom
        generalize hPI : pyIter = PI
        wp_walk
        subst hPI
        refine wpAny_pyIter_tuple hl1 ?_
        refine wpAny_bind (wpAny_runValue ?_)
        have hh3 : A.in1.in1.in1.handled = none := by simp [hh]
        have hps : (s.heap.push { cls := .type "set", dict := none, data := .set #[] 0 (.fresh 0 0 B) }).objs.size = s.heap.objs.size + 1 := Heap.size_push _ _
        have hneI : l ≠ (s.heap.push { cls := .type "set", dict := none, data := .set #[] 0 (.fresh 0 0 B) }).objs.size := by
          rw [hps]
          exact Nat.ne_of_lt (Nat.lt_succ_of_lt hlS)
        have hSf : s.heap.objs.size ∉ [(s.heap.push { cls := .type "set", dict := none, data := .set #[] 0 (.fresh 0 0 B) }).objs.size, l] := by
          rw [hps]
          simp only [List.mem_cons, List.not_mem_nil, or_false, not_or]
          exact ⟨Nat.ne_of_lt (Nat.lt_succ_self _), Nat.ne_of_gt hlS⟩
        have hsz : xs.length = items.size := by rw [← StrsAre.len_eq hi, Array.length_toList]
        have hval : ∀ (i : Nat) (v : Value), items[i]? = some v → ∃ t, v = .str (xs.getD i Str.empty) t := fun i v hv => SS.strs_at hi i v (by rw [Array.getElem?_toList]; exact hv)
        refine fill_loopT ((Walks.tuple hh3 _ l hneI items).toS) s.heap.objs.size hSf xs hsz (by rw [← hsz]; exact hn1) hval (items.size - 0) 0 _ (by omega) (Nat.zero_le _)
          ⟨⟨_, Heap.get?_push_size _ rfl, rfl, rfl⟩, (hl1.push _)⟩ ?hS0 ?hR
        case hS0 =>
          have hget : ((s.heap.push { cls := .type "set", dict := none, data := .set #[] 0 (.fresh 0 0 B) }).push { cls := .type "tuple_iterator", data := .fields #[.ref l, .int 0 0] }).get? s.heap.objs.size
              = some { cls := .type "set", dict := none, data := .set #[] 0 (.fresh 0 0 B) } := Heap.get?_push_of_some _ hS
          refine ⟨[], ?_, List.nodup_nil, fun z => by simp, Nat.le_refl _⟩
          subst hB
          exact TxtSet.fresh w hget
        case hR =>
          intro s' hm hF
          obtain ⟨h', g', d', tk', os'⟩ := s'
          have eg : g' = s.gens := hm.gens
          have ed : d' = s.drawn := hm.drawn
          have eo : os' = s.os := hm.os
          subst eg; subst ed; subst eo
          show wpAny _ _ _ _ _ _
          refine wpAny_pure ?_
          show wpAny _ _ (ret Value.none) _ _ _
          refine wpAny_pure ⟨rfl, h', tk', rfl, hF, fun b o e => ?_⟩
          have hb := Heap.lt_size e
          refine hm.heap b o ?_ (Heap.get?_push_of_some _ (Heap.get?_push_of_some _ e))
          rw [hps]
          simp only [List.mem_cons, List.mem_singleton, List.not_mem_nil, or_false, not_or]
          exact ⟨Nat.ne_of_lt hb, Nat.ne_of_lt (Nat.lt_succ_of_lt hb)⟩
      · cases r₂ with
        | error e => exact hr₂
        | ok fl₂ =>
          cases fl₂ with
          | ret r =>
            obtain ⟨rfl, h', tk, rfl, hF, hk'⟩ := hr₂
            repeat (any_goals (first | assumption | wp_step))
            exact h _ _ hF hk'
          | _ => exact hr₂.elim
    | _ => exact hr.elim
set_option maxHeartbeats 8000000 in
theorem set_listW {l : Addr} {items : Array Value} {xs : List Str} {Q : Value → Shared → Prop} (hh : A.handled = none) (hl : s.heap.IsList l items) (hi : PyProof.Rows.StrsAre items.toList xs) (hn1 : xs.length ≤ 1000)
    (h : ∀ (h' : Heap) (tk : Nat), FillT P w xs s.heap.objs.size items.size h' → (∀ b o, s.heap.get? b = some o → h'.get? b = some o) → Q (.ref s.heap.objs.size) { s with heap := h', toks := tk }) :
    wpAny (model P w) A (call (.type "set") [.ref l]) Q E s := by
  obtain ⟨c, tl, hmro⟩ := PySem.F.called_set.mro
  have hmade := PySem.F.called_set.made
  have hsub := PySem.F.called_set.sub
  refine wpAny_call (codeAny_of_tree ?_)
  show wpAny _ _ (callAny (.type "set") _) _ _ _
  refine wpAny_pure ⟨Code.quiet_builtin _ (by decide +kernel), codeAny_builtin PySem.F.entry_type_call ?_⟩
  rw [Around.under_plain (weight_type_call_type "set" [.ref l] []) rfl]
  have q1 := PySem.F.called_set.notType
  have q2 := PySem.F.called_set.canCreate
  have q3 := PySem.F.typeCall_set_1 (.ref l)
  repeat (any_goals (first | assumption | wp_step))
  obtain ⟨N, hN⟩ : ∃ N, N = s.heap.objs.size := ⟨_, rfl⟩
  obtain ⟨B, hB⟩ : ∃ B : Bool, B = !w.params.followText "set-order" := ⟨_, rfl⟩
  refine codeAny_mono (code_set_led1 (.ref l) (E := E) (Q₁ := fun v s₁ => v = .ref s.heap.objs.size ∧ s₁ = { s with heap := s.heap.push { cls := .type "set", dict := none, data := .set #[] 0 (.fresh 0 0 B) } }) ⟨rfl, by rw [hB]⟩) fun r s₁ hr => ?_
  cases r with
  | error e => exact hr
  | ok fl =>
    cases fl with
    | ret v =>
      obtain ⟨rfl, rfl⟩ := hr
      have hS : (s.heap.push { cls := .type "set", dict := none, data := .set #[] 0 (.fresh 0 0 B) }).get? s.heap.objs.size = some { cls := .type "set", dict := none, data := .set #[] 0 (.fresh 0 0 B) } := Heap.get?_push_size _ rfl
      have hT : Shared.TypeIs { s with heap := s.heap.push { cls := .type "set", dict := none, data := .set #[] 0 (.fresh 0 0 B) } } (.ref s.heap.objs.size) "set" := ⟨_, hS, rfl⟩
      have q4 := PySem.F.called_set.init.lookup
      have q5 := PySem.F.called_set.init.bind (.ref s.heap.objs.size)
      repeat (any_goals (first | assumption | wp_step))
      refine codeAny_mono (codeAny_call_builtin (R := wants (fun r s₂ => r = .none ∧ ∃ h' tk, s₂ = { s with heap := h', toks := tk } ∧ FillT P w xs s.heap.objs.size items.size h' ∧ (∀ b o, s.heap.get? b = some o → h'.get? b = some o)) E)
        PySem.F.called_set.init.plain PySem.F.entry_set_init (check_set_init_1 hT ?_)) fun r₂ s₂ hr₂ => ?_
      · have hlS : l < s.heap.objs.size := by
          obtain ⟨ol, hol, _⟩ := hl
          exact Heap.lt_size hol
        have hl1 : (s.heap.push { cls := .type "set", dict := none, data := .set #[] 0 (.fresh 0 0 B) }).IsList l items := hl.push _
        obtain ⟨ol, hol, hcl, nl, hdl⟩ := hl1
        obtain ⟨ocls, odict, odata, oslots⟩ := ol
        simp only at hcl hdl
        subst hcl; subst hdl
        have hol' := hol
        have q6 := PySem.F.sub_list_set
        have q7 := PySem.F.sub_list_frozenset
        have q8 : (Value.type "list" == Value.type "dict") = false := by decide
        have hl1 : (s.heap.push { cls := .type "set", dict := none, data := .set #[] 0 (.fresh 0 0 B) }).IsList l items := ⟨_, hol, rfl, nl, rfl⟩
        unfold Builtin.«set.__init__» noKeywords Builtin.Frozenset.updateFrom
        generalize hPI : pyIter = PI
        wp_walk
        subst hPI
        refine wpAny_pyIter_list hl1 ?_
        refine wpAny_bind (wpAny_runValue ?_)
        have hh3 : A.in1.in1.in1.handled = none := by simp [hh]
        have hps : (s.heap.push { cls := .type "set", dict := none, data := .set #[] 0 (.fresh 0 0 B) }).objs.size = s.heap.objs.size + 1 := Heap.size_push _ _
        have hneI : l ≠ (s.heap.push { cls := .type "set", dict := none, data := .set #[] 0 (.fresh 0 0 B) }).objs.size := by
          rw [hps]
          exact Nat.ne_of_lt (Nat.lt_succ_of_lt hlS)
        have hSf : s.heap.objs.size ∉ [(s.heap.push { cls := .type "set", dict := none, data := .set #[] 0 (.fresh 0 0 B) }).objs.size, l] := by
          rw [hps]
          simp only [List.mem_cons, List.not_mem_nil, or_false, not_or]
          exact ⟨Nat.ne_of_lt (Nat.lt_succ_self _), Nat.ne_of_gt hlS⟩
        have hsz : xs.length = items.size := by rw [← StrsAre.len_eq hi, Array.length_toList]
        have hval : ∀ (i : Nat) (v : Value), items[i]? = some v → ∃ t, v = .str (xs.getD i Str.empty) t := fun i v hv => SS.strs_at hi i v (by rw [Array.getElem?_toList]; exact hv)
        refine fill_loopT ((Walks.list hh3 _ l hneI items).toS) s.heap.objs.size hSf xs hsz (by rw [← hsz]; exact hn1) hval (items.size - 0) 0 _ (by omega) (Nat.zero_le _)
          ⟨⟨_, Heap.get?_push_size _ rfl, rfl, rfl⟩, (hl1.push _)⟩ ?hS0 ?hR
        case hS0 =>
          have hget : ((s.heap.push { cls := .type "set", dict := none, data := .set #[] 0 (.fresh 0 0 B) }).push { cls := .type "list_iterator", data := .fields #[.ref l, .int 0 0] }).get? s.heap.objs.size
              = some { cls := .type "set", dict := none, data := .set #[] 0 (.fresh 0 0 B) } := Heap.get?_push_of_some _ hS
          refine ⟨[], ?_, List.nodup_nil, fun z => by simp, Nat.le_refl _⟩
          subst hB
          exact TxtSet.fresh w hget
        case hR =>
          intro s' hm hF
          obtain ⟨h', g', d', tk', os'⟩ := s'
          have eg : g' = s.gens := hm.gens
          have ed : d' = s.drawn := hm.drawn
          have eo : os' = s.os := hm.os
          subst eg; subst ed; subst eo
          show wpAny _ _ _ _ _ _
          refine wpAny_pure ?_
          show wpAny _ _ (ret Value.none) _ _ _
          refine wpAny_pure ⟨rfl, h', tk', rfl, hF, fun b o e => ?_⟩
          have hb := Heap.lt_size e
          refine hm.heap b o ?_ (Heap.get?_push_of_some _ (Heap.get?_push_of_some _ e))
          rw [hps]
          simp only [List.mem_cons, List.mem_singleton, List.not_mem_nil, or_false, not_or]
          exact ⟨Nat.ne_of_lt hb, Nat.ne_of_lt (Nat.lt_succ_of_lt hb)⟩
      · cases r₂ with
        | error e => exact hr₂
        | ok fl₂ =>
          cases fl₂ with
          | ret r =>
            obtain ⟨rfl, h', tk, rfl, hF, hk'⟩ := hr₂
            repeat (any_goals (first | assumption | wp_step))
            exact h _ _ hF hk'
          | _ => exact hr₂.elim
    | _ => exact hr.elim
end
/-- set(xs), xs a list or a tuple of texts: its members, each once -/
def rSetW (K : PySem.W.Frag) (P : Program) (w : World) : List V → Hp → VK → Prop := fun vs H Q => ∃ (l : Addr) (xs : List Str), vs = [.ref l] ∧ (SqL K H l (xs.map V.str) ∨ SqT K H l (xs.map V.str)) ∧ xs.length ≤ 1000 ∧
  ∀ (p : Addr) (ys : List Str), H p = none → ys.Nodup → (∀ z, z ∈ ys ↔ z ∈ xs) → ys.length ≤ xs.length → Q (.ref p) (upd H p (TxtO P w p ys))
section
variable {X : Cx}
theorem cr_setW (hc : X.calm = true) : CallR X (.type "set") (rSetW X.K X.prog X.w) := by
  intro pins s σ H vs us Q I r h
  obtain ⟨l, xs, rfl, hq, hz, q⟩ := h
  obtain ⟨u, rfl, rx⟩ := vals1 r
  cases rx
  have hn : H s.heap.objs.size = none := I.hok.fresh (Nat.le_refl _)
  rcases hq with hq | hq
  · obtain ⟨its, rv, pl, _⟩ := I.list hq
    have hlen : its.toArray.size = xs.length := by rw [List.size_toArray, ← rv.length, List.length_map]
    refine set_listW (I.ok.hd hc) pl.isList (by simpa using strsAre_of rv) hz fun h' tk ⟨ys, g, nd, hm, hl⟩ hk => ?_
    rw [hlen] at hm hl
    rw [List.take_of_length_le (Nat.le_refl _)] at hm
    exact ⟨.ref _, _, I.laidN hk (Heap.get?_none_of_le (Nat.le_refl _)) hn (txtO_ok g), rfl, q _ ys hn nd hm hl⟩
  · obtain ⟨its, rv, pl, _⟩ := I.tuple hq
    have hlen : its.toArray.size = xs.length := by rw [List.size_toArray, ← rv.length, List.length_map]
    refine set_tupleW (I.ok.hd hc) pl (by simpa using strsAre_of rv) hz fun h' tk ⟨ys, g, nd, hm, hl⟩ hk => ?_
    rw [hlen] at hm hl
    rw [List.take_of_length_le (Nat.le_refl _)] at hm
    exact ⟨.ref _, _, I.laidN hk (Heap.get?_none_of_le (Nat.le_refl _)) hn (txtO_ok g), rfl, q _ ys hn nd hm hl⟩
end
end Qk
set_option maxRecDepth 100000
set_option maxHeartbeats 4000000
namespace Qk
open PySem PySem.Spec PyProof.Rows L2
def top (i : Nat) : Stmt := PySem.Challenge.pw_narrowkeys_k20_asked_told.main.body.getD i (.Pass ⟨0, 0, 0, 0⟩)
abbrev sIsCol : Stmt := top 8
abbrev sAreCols : Stmt := top 9
abbrev sAsc : Stmt := top 10
abbrev sIsEmpty : Stmt := top 11
abbrev sIsLast : Stmt := top 12
abbrev sIsQ : Stmt := top 13
abbrev sAreQs : Stmt := top 14
abbrev sRow : Stmt := top 16
abbrev sCols : Stmt := top 17
abbrev sBag : Stmt := top 21
abbrev sTake : Stmt := top 22
abbrev sOne : Stmt := top 23
abbrev sMixed : Stmt := top 24
abbrev sAlike : Stmt := top 25
abbrev sTruth : Stmt := top 26
abbrev sNames : Stmt := top 27
abbrev sQOf : Stmt := top 28
abbrev sQuestions : Stmt := top 29
abbrev sLAll : Stmt := top 30
abbrev sLCols : Stmt := top 31
abbrev sLIsCol : Stmt := top 32
abbrev sLAreCols : Stmt := top 33
abbrev sLIsQ : Stmt := top 34
abbrev sOdd : Stmt := top 35
abbrev sBent : Stmt := top 36
abbrev sRight : Stmt := top 37
abbrev sWalks : Stmt := top 38
abbrev sUnlike : Stmt := top 39
abbrev sLaw : Stmt := top 40
abbrev sAInit : Stmt := inClass (top 19) 0
abbrev sAEq : Stmt := inClass (top 19) 1
abbrev sALen : Stmt := inClass (top 19) 5
abbrev sAIn : Stmt := inClass (top 19) 6
abbrev sAIter : Stmt := inClass (top 19) 7
abbrev sAQns : Stmt := inClass (top 19) 8
abbrev sColumns : Stmt := inClass (top 19) 9
structure Txt (K : PySem.W.Frag) (mg : Str → Option Value) : Prop where
  len : mg "len" = none
  int : mg "int" = none
  abs : mg "abs" = none
  tuple : mg "tuple" = none
  sorted : mg "sorted" = none
  range : mg "range" = none
  repr : mg "repr" = none
  list : mg "list" = none
  set : mg "set" = none
  isinstance : mg "isinstance" = none
  str : mg "str" = none
  all : mg "all" = none
  enumerate : mg "enumerate" = none
  iter : mg "iter" = none
  zip : mg "zip" = none
  bool : mg "bool" = none
  dict : mg "dict" = none
  longest : ∃ t, mg "LONGEST_COLUMN" = some (.int 8 t)
  limit : ∃ t, mg "LIMIT" = some (.int 48 t)
structure TxA (K : PySem.W.Frag) (mg : Str → Option Value) (C : Addr) : Prop where
  cl : Cls K C
  nQ : NoAttr K C "_questions"
  mgC : mg "Asked" = some (.ref C)
  ha : PySem.W.findIn K (.ref C) "__class__" = some (some (.builtin "object.__class__"))
  hn : PySem.W.specialIn K (.builtin "object.__class__") "__get__" = some (some (.builtin "getset_descriptor.__get__"))
  ht : PySem.W.takesIn K (.builtin "object.__class__") = some true
  hm : PySem.W.mroIn K C (.type "object") = some true
theorem kit_self {K : PySem.W.Frag} {C : Addr} : PySem.W.kitOne K (.ref C) (.ref C) = some true := by
  unfold PySem.W.kitOne
  exact if_pos (beq_iff_eq.mpr rfl)
section
variable {P : Program} {w : World} {K : PySem.W.Frag} {mg : Str → Option Value} {base : Heap}
def sDead : TS := fun _ _ _ => False
theorem TxA.ty {C : Addr} (T : TxA K mg C) {H : Hp} {a dx : Addr} {fs : List (Str × V)} (h : H a = some (.ins C dx fs)) : TyX K H (.ref a) (.ref C) := .base (.ins h T.cl T.ha T.hn T.ht T.hm)
theorem ps_dead {X : Cx} {st : Stmt} : PS X st sDead := ⟨fun _ _ _ _ _ _ h => h.elim⟩
theorem scBag : FnScope ["_law_script", "_law_cell"] ["_law_script"] (defScope sBag) := ⟨rfl, rfl, rfl, by decide +kernel, rfl, by decide +kernel, by decide +kernel⟩
theorem ok_bag {f : Addr} {fd : FuncData} (F : Fun K "_law_bag" "_law_bag" sBag f fd) (T : Txt K mg) : FnOk P w K mg base CX0 1 f fd ["_law_script"] (spBag K) := by
  refine F.ok scBag (fun vs H Q E h => ?_) (fun cdv A outer s H vs Q E hr h => ?_)
  · obtain ⟨a, ns, rfl, _⟩ := h
    rfl
  · obtain ⟨a, ns, rfl, hS, hz, k⟩ := h
    have nd := scBag.nd
    refine ⟨_, pss_one (ps_ret (pe_lst (pa_cons pe_int (pa_cons pe_int (pa_cons pe_int (pa_cons (pe_lc (own := [("_law_cell", 1)]) (g := gName 1) (tt := tYes) rfl nd
      (pi_list (pe_slice sl_list (pv 0) po_none (po_some pe_int))) (blkOk_by (N := ["_law_script", "_law_cell"]) (sc := defScope sBag) (by decide +kernel)) (fun _ _ _ _ _ => pg_name (i := 1) nd rfl (Or.inl rfl)) (fun _ _ _ _ _ => pts_nil)
      (fun _ _ _ _ _ => pe_callB call_abs (by rfl) T.abs (by decide +kernel) (pa_cons (pv 1) pa_nil))) pa_nil)))))), ?_⟩
    refine ⟨_, rfl, _, rfl, a, _, rfl, hS, fun p hp => ⟨p, rfl, ⟨_, SqL.of upd_same⟩, fun D hD => ?_⟩⟩
    have e0 : cutV (ns.map V.int) none (some 63) = (ns.take 63).map V.int := (cut_to 63 _).trans List.map_take.symm
    have npD : p ≠ D := ne_of_none upd_same hD
    have s0 : Same H (upd H p (.lst (cutV (ns.map V.int) none (some 63)))) := same_new hp
    have nD : H D = none := s0.free hD
    refine lc_list (K := K) (a := p) (xs := (ns.take 63).map V.int) (fun i H' => Same H H' ∧ H' p = some (.lst ((ns.take 63).map V.int)) ∧ ∃ ms : List Int, H' D = some (.lst (ms.map V.int)) ∧ ms.length ≤ i ∧ ∀ n ∈ ms, 0 ≤ n)
      ⟨s0.trans (same_new hD), by rw [upd_ne npD, upd_same, e0], [], upd_same, Nat.le_refl _, by simp⟩ (fun i H' _ h => SqL.of h.2.1) ?_ ?_
    · rintro i x H' hi ⟨s1, h1, ms, h2, hl, hm⟩
      rw [List.getElem?_map] at hi
      cases e : (ns.take 63)[i]? with
      | none => rw [e] at hi; cases hi
      | some z =>
        rw [e] at hi
        obtain rfl : V.int z = x := Option.some.inj hi
        have hlt : i < 63 := by
          have := (List.getElem?_eq_some_iff.mp e).1
          rw [List.length_take] at this
          omega
        refine ⟨rfl, Exists.intro _ ⟨rfl, z, rfl, _, h2, by rw [List.length_map, sizeLine_eq]; omega, fun b o q => ?_, ?_, ms ++ [if z < 0 then -z else z], by rw [upd_same]; simp, by simp; omega, ?_⟩⟩
        · have : b ≠ D := ne_of_none q nD
          rw [upd_ne this]
          exact s1 _ _ q
        · rw [upd_ne npD]
          exact h1
        · intro n hn
          rcases List.mem_append.mp hn with hn | hn
          · exact hm n hn
          · obtain rfl := List.mem_singleton.mp hn
            split <;> omega
    · rintro H' ⟨s1, h1, ms, h2, hl, hm⟩
      refine ⟨by show 4 ≤ sizeLine; decide, fun q hq => ?_⟩
      have nDq : D ≠ q := ne_of_none h2 hq
      exact k q D _ (s1.free hq) ⟨0, 1234567891, 0, ms, upd_same, by rw [upd_ne nDq]; exact h2, nDq, by decide, by decide, by decide, hm⟩ (s1.trans (same_new hq))
theorem scTake : FnScope ["_law_bag_here", "_law_upto", "_law_cell", "_law_mixed_here", "_law_drawn", "_law_begin", "_law_second"] ["_law_bag_here", "_law_upto"] (defScope sTake) := ⟨rfl, rfl, rfl, by decide +kernel, rfl, by decide +kernel, by decide +kernel⟩
theorem ok_take {f : Addr} {fd : FuncData} (F : Fun K "_law_take" "_law_take" sTake f fd) (T : Txt K mg) : FnOk P w K mg base CX0 1 f fd ["_law_bag_here", "_law_upto"] spTake := by
  refine F.ok scTake (fun vs H Q E h => ?_) (fun cdv A outer s H vs Q E hr h => ?_)
  · obtain ⟨b, l, n, rfl, _⟩ := h
    rfl
  · obtain ⟨b, l, n, rfl, B, n0, n1, k⟩ := h
    have nd := scTake.nd
    obtain ⟨h, m, p, ns, hb, hl, nlb, h0, m0, m1, hns⟩ := id B
    refine ⟨_, Evl.pss_cut (ps_if (pt_cmpR op_eq (pe_ix ix_list (pv 0) pe_int fun _ _ => rfl) pe_int (nomark _))
        (pss_cons (ps_set (i := 2) nd rfl (Or.inl rfl) pe_int)
        (Evl.pss_cut (ps_if (pt_cmpR op_lt (pe_ix ix_list (pv 0) pe_int fun _ _ => rfl) (pe_callB call_len_seq (by rfl) T.len PySem.boot_len (pa_cons (pe_ix ix_list (pv 0) pe_int fun _ _ => rfl) pa_nil)) (nomark _))
          (pss_one (ps_set (i := 2) nd rfl (Or.inl rfl) (pe_ix ix_list (pe_ix ix_list (pv 0) pe_int fun _ _ => rfl) (pe_ix ix_list (pv 0) pe_int fun _ _ => rfl) fun _ _ => rfl))) pss_nil)
        (pss_cons (ps_augS (pv 0) pe_int get_list pe_int ip_add set_list)
        (Evl.pss_cut (ps_if (pt_cmpR op_ge (pv 2) pe_int (nomark _)) (pss_one (ps_asg (pv 2) (pg_sub (pv 0) pe_int set_list))) pss_nil)
        (pss_cons (ps_set (i := 3) nd rfl (Or.inl rfl) (pe_op op_add (pe_op op_add (pe_op op_mul (pe_ix ix_list (pv 0) pe_int fun _ _ => rfl) pe_int)
            (pe_op op_mod (pe_callTy call_int1 (by rfl) T.int (by decide +kernel) (pa_cons (pv 2) pa_nil)) pe_int)) (pe_op op_mul pe_int (pe_ix ix_list (pv 0) pe_int fun _ _ => rfl))))
        (pss_one (ps_asg (pe_op op_mod (pe_callTy call_int1 (by rfl) T.int (by decide +kernel) (pa_cons (pv 3) pa_nil)) pe_int) (pg_sub (pv 0) pe_int set_list)))))))) pss_nil)
      (Evl.pss_cut (ps_if (pt_cmpR op_gt (pe_ix ix_list (pv 0) pe_int fun _ _ => rfl) pe_int (nomark _))
        (pss_cons (ps_set (i := 4) nd rfl (Or.inl rfl) (pe_op op_mod (pe_callTy call_int1 (by rfl) T.int (by decide +kernel) (pa_cons (pe_ix ix_list (pv 0) pe_int fun _ _ => rfl) pa_nil)) (pv 1)))
        (pss_cons (ps_asg (pe_op op_fdivN (pe_callTy call_int1 (by rfl) T.int (by decide +kernel) (pa_cons (pe_ix ix_list (pv 0) pe_int fun _ _ => rfl) pa_nil)) (pv 1)) (pg_sub (pv 0) pe_int set_list))
        (pss_one (ps_ret (pv 4))))) pss_nil)
      (pss_cons (ps_set (i := 5) nd rfl (Or.inl rfl) (pe_op op_mod (pe_callTy call_int1 (by rfl) T.int (by decide +kernel) (pa_cons (pe_op op_mul (pe_op op_add (pe_ix ix_list (pv 0) pe_int fun _ _ => rfl) pe_int) pe_int) pa_nil)) pe_int))
      (pss_cons (ps_set (i := 6) nd rfl (Or.inl rfl) (pe_op op_mod (pe_callTy call_int1 (by rfl) T.int (by decide +kernel) (pa_cons (pe_op op_mul (pe_op op_mod (pe_callTy call_int1 (by rfl) T.int (by decide +kernel) (pa_cons (pe_op op_mul (pv 5) (pv 5)) pa_nil)) pe_int) pe_int) pa_nil)) pe_int))
      (pss_one (ps_ret (pe_op op_mod (pe_callTy call_int1 (by rfl) T.int (by decide +kernel) (pa_cons (pe_op op_fdiv (pv 6) pe_int) pa_nil)) (pv 1)))))))
      , ?_⟩
    refine ⟨fun σ' H' => ∃ c2 c3, σ' = [some (.ref b), some (.int n), c2, c3, none, none, none] ∧ Bag H' b l ∧ Kp b H H', ?_, ?_⟩
    · refine ⟨_, rfl, b, _, _, _, rfl, rfl, SqL.of hb, rfl, rfl, _, rfl, ?_⟩
      refine ite2 (fun _ => ?_) (fun _ => ⟨_, _, rfl, B, Kp.refl _ _⟩)
      refine ⟨fun σ' H' => ∃ c : Int, 0 ≤ c ∧ σ' = [some (.ref b), some (.int n), some (.int c), none, none, none, none] ∧ H' = H, ?_, ?_⟩
      · refine ⟨_, rfl, b, _, _, _, rfl, rfl, SqL.of hb, rfl, _, rfl, b, _, _, _, rfl, rfl, SqL.of hb, rfl, _, _, rfl, .inl (SqL.of hl), _, _, rfl, rfl, _, rfl, ?_⟩
        refine ite2 (fun hc => ?_) (fun _ => ⟨0, Int.le_refl 0, rfl, rfl⟩)
        have hp : p < ns.length := by
          have := of_decide_eq_true hc
          rw [List.length_map] at this
          omega
        refine ⟨_, rfl, b, _, _, _, rfl, rfl, SqL.of hb, rfl, _, rfl, b, _, _, _, rfl, rfl, SqL.of hb, rfl, l, _, _, .int ns[p], rfl, rfl, SqL.of hl, atI_nat (by rw [List.getElem?_map, List.getElem?_eq_getElem hp]; rfl), ?_⟩
        exact ⟨ns[p], hns _ (List.getElem_mem hp), rfl, rfl⟩
      · rintro σ' H' ⟨c, hc, rfl, rfl⟩
        refine ⟨_, rfl, b, _, 2, _, rfl, rfl, SqL.of hb, rfl, _, _, rfl, rfl, b, _, _, 2, rfl, rfl, hb, rfl, ?_⟩
        have hl1 : (upd H' b (HO.lst [.int h, .int m, .int ((p + 1 : Nat) : Int), .ref l])) l = some (HO.lst (ns.map V.int)) := by rw [upd_ne nlb]; exact hl
        refine ⟨fun σ' H2 => ∃ h' : Int, 0 ≤ h' ∧ σ' = [some (.ref b), some (.int n), some (.int c), none, none, none, none] ∧ H2 b = some (.lst [.int h', .int m, .int ((p + 1 : Nat) : Int), .ref l]) ∧ Kp b H' H2, ?_, ?_⟩
        · refine ⟨_, rfl, _, _, rfl, rfl, _, rfl, ?_⟩
          refine ite2 (fun _ => ?_) (fun _ => ⟨h, h0, rfl, upd_same, Kp.at_ _ _ _⟩)
          refine ⟨_, rfl, _, rfl, b, _, 0, 0, rfl, rfl, upd_same, rfl, ?_⟩
          exact ⟨c, hc, rfl, upd_same, (Kp.at_ _ _ _).trans (Kp.at_ _ _ _)⟩
        · rintro σ' H2 ⟨h', h0', rfl, hb2, k2⟩
          have hl2 : H2 l = some (.lst (ns.map V.int)) := k2 _ _ hl nlb
          refine ⟨_, rfl, b, _, 1, _, rfl, rfl, SqL.of hb2, rfl, _, _, rfl, rfl, .inl ⟨by omega, by omega⟩, _, rfl, .inl ⟨_, rfl, _, _, rfl, rfl, (by show (0 : Int) < 2147483647; decide), _, _, rfl, rfl,
            _, rfl, b, _, 2, _, rfl, rfl, SqL.of hb2, rfl, _, _, rfl, rfl, .inl ⟨by decide, by decide⟩, _, _, rfl, rfl, _, rfl, .inl ⟨_, rfl, _, _, rfl, rfl, (by show (0 : Int) < 2147483647; decide), _, rfl, b, _, 1, 1, rfl, rfl, hb2, rfl, ?_⟩⟩⟩
          exact ⟨_, _, rfl, ⟨h', _, p + 1, ns, upd_same, (by rw [upd_ne nlb]; exact hl2), nlb, h0', Int.emod_nonneg _ (by decide), Int.emod_lt_of_pos _ (by decide), hns⟩, k2.trans (Kp.at_ _ _ _)⟩
    · rintro σ1 H1 ⟨c2, c3, rfl, B1, k1⟩
      clear hb hl hns h0 m0 m1
      obtain ⟨h, m, p, ns, hb, hl, nlb, h0, m0, m1, hns⟩ := id B1
      refine ⟨fun σ' H' => σ' = [some (.ref b), some (.int n), c2, c3, none, none, none] ∧ H' = H1, ?_, ?_⟩
      · refine ⟨_, rfl, b, _, 0, _, rfl, rfl, SqL.of hb, rfl, _, _, rfl, rfl, _, rfl, ?_⟩
        refine ite2 (fun _ => ?_) (fun _ => ⟨rfl, rfl⟩)
        obtain ⟨j, ej, hj⟩ := take_mod (k := h) n0
        refine ⟨_, rfl, b, _, 0, _, rfl, rfl, SqL.of hb, rfl, .inl ⟨_, rfl, _, rfl, _, _, rfl, rfl, n0, _, rfl, b, _, 0, _, rfl, rfl, SqL.of hb, rfl, .inl ⟨_, rfl, _, rfl, _, _, rfl, rfl, ⟨by omega, by omega⟩, _, rfl, b, _, 0, 0, rfl, rfl, hb, rfl, _, rfl, ?_⟩⟩⟩
        show Q (.int (h % n)) _
        rw [ej]
        refine k j _ hj ⟨_, m, p, ns, upd_same, (by rw [upd_ne nlb]; exact hl), nlb, ?_, m0, m1, hns⟩ (k1.trans (Kp.at_ _ _ _))
        show 0 ≤ h.fdiv n
        rw [Int.fdiv_eq_ediv_of_nonneg h (by omega)]
        exact Int.ediv_nonneg h0 (by omega)
      · rintro σ' H' ⟨rfl, rfl⟩
        have q1 : ∀ x : Int, 0 ≤ x % 1000000007 ∧ x % 1000000007 < 1000000007 := fun x => ⟨Int.emod_nonneg _ (by decide), Int.emod_lt_of_pos _ (by decide)⟩
        have q2 : ∀ x : Int, 0 ≤ x % 998244353 ∧ x % 998244353 < 998244353 := fun x => ⟨Int.emod_nonneg _ (by decide), Int.emod_lt_of_pos _ (by decide)⟩
        obtain ⟨u, eu⟩ : ∃ u, u = ((m + 1) * 39373) % 1000000007 := ⟨_, rfl⟩
        have hu := q1 ((m + 1) * 39373)
        rw [← eu] at hu
        obtain ⟨j, ej, hj⟩ := take_mod (k := (u * u % 998244353 * 30011 % 998244353) / 7) n0
        have hv := q2 (u * u)
        refine ⟨_, rfl, b, _, 1, _, rfl, rfl, SqL.of hb, rfl, _, _, rfl, rfl, _, _, rfl, rfl, .inl ⟨by omega, by omega⟩, .inl ⟨_, rfl, _, _, rfl, rfl, (by show (0 : Int) < 1000000007; decide), ?_⟩⟩
        show tSeq _ _ _ [some (.ref b), some (.int n), c2, c3, none, some (.int (((m + 1) * 39373) % 1000000007)), none] _
        rw [← eu]
        refine ⟨_, rfl, _, rfl, _, _, rfl, rfl, .inl ⟨by omega, by omega⟩, .inl ⟨_, rfl, _, _, rfl, rfl, (by show (0 : Int) < 998244353; decide), _, _, rfl, rfl, .inl ⟨by omega, by omega⟩, .inl ⟨_, rfl, _, _, rfl, rfl, (by show (0 : Int) < 998244353; decide), _, rfl, _, _, rfl, rfl, ⟨by decide, by decide⟩, .inl ⟨_, rfl, _, rfl, _, _, rfl, rfl, n0, ?_⟩⟩⟩⟩
        show Q (.int ((u * u % 998244353 * 30011 % 998244353) / 7 % n)) _
        rw [ej]
        exact k j _ hj B1 k1
theorem scOne : FnScope ["_law_bag_here", "_law_some"] ["_law_bag_here", "_law_some"] (defScope sOne) := ⟨rfl, rfl, rfl, by decide +kernel, rfl, by decide +kernel, by decide +kernel⟩
theorem ok_one {f : Addr} {fd : FuncData} (F : Fun K "_law_one" "_law_one" sOne f fd) (T : Txt K mg) (cT : Cal P w K mg base 1 "_law_take" ["_law_bag_here", "_law_upto"] spTake) : FnOk P w K mg base CX0 2 f fd ["_law_bag_here", "_law_some"] spOne := by
  refine F.ok scOne (fun vs H Q E h => ?_) (fun cdv A outer s H vs Q E hr h => ?_)
  · obtain ⟨b, l, a, xs, rfl, _⟩ := h
    rfl
  · obtain ⟨b, l, a, xs, rfl, B, nab, ha, hne, hz, k⟩ := h
    refine ⟨_, pss_one (ps_ret (pe_ix ix_list (pv 1) (pe_call cT.G hr rfl cT.m cT.kp cT.b .nil pass0 (pa_cons (pv 0) (pa_cons (pe_callB call_len_seq (by rfl) T.len PySem.boot_len (pa_cons (pv 1) pa_nil)) pa_nil))) fun _ _ => rfl)), ?_⟩
    have hpos : 0 < xs.length := List.length_pos_iff.mpr hne
    refine ⟨_, rfl, _, rfl, _, rfl, _, _, rfl, .inl (SqL.of ha), b, l, _, rfl, B, by omega, by omega, fun j H' hj B' k' => ?_⟩
    have hj' : j < xs.length := by omega
    exact ⟨a, xs, j, xs[j], rfl, rfl, SqL.of (k' _ _ ha nab), atI_nat (List.getElem?_eq_getElem hj'), k _ _ (List.getElem_mem hj') B' k'⟩
theorem scMixed : FnScope ["_law_bag_here", "_law_things", "_law_found", "_law_thing"] ["_law_bag_here", "_law_things"] (defScope sMixed) := ⟨rfl, rfl, rfl, by decide +kernel, rfl, by decide +kernel, by decide +kernel⟩
theorem ok_mixed {f : Addr} {fd : FuncData} (F : Fun K "_law_mixed" "_law_mixed" sMixed f fd) (T : Txt K mg) (cT : Cal P w K mg base 1 "_law_take" ["_law_bag_here", "_law_upto"] spTake) : FnOk P w K mg base CX0 2 f fd ["_law_bag_here", "_law_things"] spMixed := by
  refine F.ok scMixed (fun vs H Q E h => ?_) (fun cdv A outer s H vs Q E hr h => ?_)
  · obtain ⟨b, l, a, xs, rfl, _⟩ := h
    rfl
  · obtain ⟨b, l, a, xs, rfl, B, nab, ha, hz, k⟩ := h
    have nd := scMixed.nd
    refine ⟨_, pss_cons (ps_set (i := 2) nd rfl (Or.inl rfl) (pe_lst pa_nil)) (pss_cons (ps_for PassesOwn.never rfl (pi_list (pv 1)) (pg_name (i := 3) nd rfl (Or.inl rfl))
      (pss_one (ps_expr (pe_bm PySem.F.plainAttrs_list PySem.F.slot_list_insert PySem.F.type_list_insert mt_insert (pv 2)
        (pa_cons (pe_call cT.G hr rfl cT.m cT.kp cT.b .nil pass0 (pa_cons (pv 0) (pa_cons (pe_op op_add (pe_callB call_len_seq (by rfl) T.len PySem.boot_len (pa_cons (pv 2) pa_nil)) pe_int) pa_nil))) (pa_cons (pv 3) pa_nil))))))
      (pss_one (ps_ret (pv 2)))), ?_⟩
    refine ⟨by decide, fun p hp => ?_⟩
    have npb : p ≠ b := B.ne hp
    have nap : a ≠ p := ne_of_none ha hp
    refine ⟨_, rfl, a, rfl, ⟨_, SqL.of (by rw [upd_ne nap]; exact ha)⟩, for_list (K := K) (a := a) (xs := xs) (fun i σ H' => ∃ (ys : List V) (v : Option V), σ = [some (.ref b), some (.ref a), some (.ref p), v] ∧ ys.Perm (xs.take i) ∧ H' p = some (.lst ys) ∧ Bag H' b l ∧ Kp b H H')
      ⟨[], none, rfl, by simp, upd_same, B.new hp, Kp.new hp⟩ (fun i σ H' _ ⟨_, _, _, _, _, _, k'⟩ => SqL.of (k' _ _ ha nab)) ?_ ?_⟩
    · rintro i x σ H' hi ⟨ys, v, rfl, hp1, h1, B1, k1⟩
      have hil : i < xs.length := (List.getElem?_eq_some_iff.mp hi).1
      have hyl : ys.length = i := by
        rw [hp1.length_eq, List.length_take]
        omega
      refine ⟨_, rfl, .inl ⟨rfl, _, SqL.of h1⟩, _, rfl, _, rfl, _, _, rfl, .inl (SqL.of h1), _, _, rfl, rfl, b, l, _, rfl, B1, by omega, by omega, fun j H2 hj B2 k2 => ?_⟩
      refine ⟨_, rfl, p, ys, (j : Int), x, rfl, rfl, k2 _ _ h1 npb, Nat.lt_of_lt_of_le (show ys.length < 1000 by omega) (by rw [sizeLine_eq]; decide), by omega, by omega, ?_⟩
      refine ⟨ys.take j ++ [x] ++ ys.drop j, _, rfl, ?_, ?_, ?_, ?_⟩
      · have e1 : xs.take (i + 1) = xs.take i ++ [x] := by
          rw [List.take_add_one, hi]
          rfl
        rw [e1]
        have q1 : (ys.take j ++ [x] ++ ys.drop j).Perm (ys ++ [x]) := by
          have q2 : (ys.take j ++ ([x] ++ ys.drop j)).Perm (ys.take j ++ (ys.drop j ++ [x])) := List.Perm.append_left _ List.perm_append_comm
          rw [List.append_assoc]
          refine q2.trans ?_
          rw [← List.append_assoc, List.take_append_drop]
        exact q1.trans (hp1.append_right _)
      · rw [upd_same]
        simp
      · exact B2.upd npb.symm (B.nel hp)
      · intro c o hc ncb
        have : c ≠ p := ne_of_none hc hp
        rw [upd_ne this]
        exact k2 _ _ (k1 _ _ hc ncb) ncb
    · rintro σ H' ⟨ys, v, rfl, hp1, h1, B1, k1⟩
      rw [List.take_length] at hp1
      exact ⟨_, rfl, k ys p H' hp1 hp npb h1 B1 k1⟩
def menu13 : List Str := ["a", "b", "aa", "ab", "z", "zzzzzzzz", "job", "view", "power", "status", "ask", "quicklyx", "fghmndct"]
def nm (at_ m : Nat) : List Str := ((menu13 ++ menu13).drop at_).take m
theorem nm_tab : ((List.range 13).all fun a => (List.range 13).all fun m => decide ((nm a m).Nodup) && decide (∀ c ∈ nm a m, c ∈ menu) && decide ((nm a m).length = m)) = true := by decide +kernel
theorem nm_facts {a m : Nat} (ha : a < 13) (hm : m ≤ 12) : (nm a m).Nodup ∧ (∀ c ∈ nm a m, c ∈ menu) ∧ (nm a m).length = m := by
  have := List.all_eq_true.mp (List.all_eq_true.mp nm_tab a (List.mem_range.mpr ha)) m (List.mem_range.mpr (by omega))
  simp only [Bool.and_eq_true, decide_eq_true_eq] at this
  exact ⟨this.1.1, this.1.2, this.2⟩
theorem split13 : Txt.split "a b aa ab z zzzzzzzz job view power status ask quicklyx fghmndct" " " = menu13 := by decide +kernel
abbrev nNames : List Str := ["_law_bag_here", "_law_many", "_law_menu", "_law_at"]
theorem scNames : FnScope nNames ["_law_bag_here", "_law_many"] (defScope sNames) := ⟨rfl, rfl, rfl, by decide +kernel, rfl, by decide +kernel, by decide +kernel⟩
theorem cut_mid {xs : List Str} {lo k : Nat} (h : lo + k ≤ xs.length) : cutV (xs.map V.str) (some (lo : Int)) (some ((lo + k : Nat) : Int)) = ((xs.drop lo).take k).map V.str := by
  unfold cutV
  rw [HT.sIx_nat, HT.sIx_nat, List.length_map, Nat.min_eq_left (show lo ≤ xs.length by omega), Nat.min_eq_left h, List.map_take, List.map_drop]
  congr 1
  omega
theorem SlR.or {X : Cx} {r r' : V → Option Int → Option Int → Hp → VK → Prop} (h : SlR X r) (h' : SlR X r') : SlR X (fun x lo hi H Q => r x lo hi H Q ∨ r' x lo hi H Q) :=
  fun pins s σ H x v vl vu lo hi sl Q I rx hs pl pu q => q.elim (h pins s σ H x v vl vu lo hi sl Q I rx hs pl pu) (h' pins s σ H x v vl vu lo hi sl Q I rx hs pl pu)
/-- a row of names, as a list or a tuple -/
def RowAt (H : Hp) (t : Addr) (xs : List Str) : Prop := H t = some (.lst (xs.map V.str)) ∨ H t = some (.tup (xs.map V.str))
theorem RowAt.same {H H' : Hp} {t : Addr} {xs : List Str} (s : Same H H') (h : RowAt H t xs) : RowAt H' t xs := h.imp (s _ _) (s _ _)
theorem RowAt.seq {K : PySem.W.Frag} {H : Hp} {t : Addr} {xs : List Str} (h : RowAt H t xs) : SqL K H t (xs.map V.str) ∨ SqT K H t (xs.map V.str) := h.imp SqL.of SqT.of
theorem RowAt.ix {K : PySem.W.Frag} {H : Hp} {t : Addr} {xs : List Str} {i : Nat} {c : Str} {Q : VK} (h : RowAt H t xs) (hi : xs[i]? = some c) (q : Q (.str c) H) : L2.rIx K (.ref t) (.int (i : Int)) H Q := by
  have e : atI (xs.map V.str) (i : Int) = some (V.str c) := atI_nat (by rw [List.getElem?_map, hi]; rfl)
  rcases h with h | h
  · exact .inl ⟨t, _, _, _, rfl, rfl, SqL.of h, e, q⟩
  · exact .inr (.inl ⟨t, _, _, _, rfl, rfl, SqT.of h, e, q⟩)
theorem RowAt.cut {K : PySem.W.Frag} {H : Hp} {t : Addr} {xs : List Str} {k : Nat} {Q : VK} (h : RowAt H t xs) (q : ∀ (r : Addr) (H' : Hp), Same H H' → RowAt H' r (xs.take k) → Q (.ref r) H') : rSlL K (.ref t) none (some (k : Int)) H Q ∨ rSlA K (.ref t) none (some (k : Int)) H Q := by
  have e : cutV (xs.map V.str) none (some (k : Int)) = (xs.take k).map V.str := by rw [cut_to, List.map_take]
  rcases h with h | h
  · refine .inl ⟨t, _, rfl, SqL.of h, fun r hr => ?_⟩
    refine q r _ (same_new hr) (.inl ?_)
    rw [upd_same, e]
  · exact .inr (slA h e fun r H' s hr => q r H' s (.inr hr))
def spQOf : Sp := fun vs H Q _ => ∃ (b l t : Addr) (xs : List Str), vs = [.ref b, .ref t] ∧ Bag H b l ∧ t ≠ b ∧ RowAt H t xs ∧ Row xs ∧ ∀ (q : Addr) (cols : List Str) (e : Str) (H' : Hp), QAt H' q cols e → Qok xs cols e → Bag H' b l → Kp b H H' → Q (.ref q) H'
abbrev nQOf : List Str := ["_law_bag_here", "_law_row", "_law_k", "_law_is_ranged"]
theorem scQOf : FnScope nQOf ["_law_bag_here", "_law_row"] (defScope sQOf) := ⟨rfl, rfl, rfl, by decide +kernel, rfl, by decide +kernel, by decide +kernel⟩
theorem ok_qOf {f : Addr} {fd : FuncData} (F : Fun K "_law_question_of" "_law_question_of" sQOf f fd) (T : Txt K mg) (cT : Cal P w K mg base 1 "_law_take" ["_law_bag_here", "_law_upto"] spTake) : FnOk P w K mg base CX0 2 f fd ["_law_bag_here", "_law_row"] spQOf := by
  refine F.ok scQOf (fun vs H Q E h => ?_) (fun cdv A outer s H vs Q E hr h => ?_)
  · obtain ⟨b, l, t, xs, rfl, _⟩ := h
    rfl
  · obtain ⟨b, l, t, xs, rfl, B, tb, ht, R, k⟩ := h
    have nd := scQOf.nd
    refine ⟨_, pss_cons (ps_set (i := 2) nd rfl (Or.inl rfl) (pe_call cT.G hr rfl cT.m cT.kp cT.b .nil pass0 (pa_cons (pv 0) (pa_cons (pe_op op_add (pe_callB call_len_seq (by rfl) T.len PySem.boot_len (pa_cons (pv 1) pa_nil)) pe_int) pa_nil))))
      (pss_cons (ps_if (pt_cmpR op_eq (pv 2) pe_int (nomark _)) (pss_one (ps_ret (pe_tup (pa_cons (pe_tup pa_nil) (pa_cons (pe_ix ix_seq (pv 1) pe_int fun _ _ => rfl) pa_nil))))) pss_nil)
      (Evl.pss_cut (ps_set (i := 3) nd rfl (Or.inl rfl) (pe_and (pe_cmpR op_lt (pv 2) (pe_callB call_len_seq (by rfl) T.len PySem.boot_len (pa_cons (pv 1) pa_nil)) (nomark _)) (pe_one (pe_cmpR op_eq (pe_call cT.G hr rfl cT.m cT.kp cT.b .nil pass0 (pa_cons (pv 0) (pa_cons pe_int pa_nil))) pe_int (nomark _)))))
      (pss_one (ps_ret (pe_tup (pa_cons (pe_callTy call_tuple_of (by rfl) T.tuple (by decide +kernel) (pa_cons (pe_callB cr_sortedST (by rfl) T.sorted (by decide +kernel) (pa_cons (pe_slice (SlR.or sl_list sl_tupA) (pv 1) po_none (po_some (pv 2))) pa_nil)) pa_nil))
        (pa_cons (pe_ifExp (pt_val (pv 3)) (pe_ix ix_seq (pv 1) (pv 2) fun _ _ => rfl) pe_str) pa_nil))))))), ?_⟩
    have hl := R.le
    have hpos := R.pos
    have hlen : (xs.map V.str).length = xs.length := List.length_map _
    have seq : ∀ {H' : Hp}, RowAt H' t xs → SqL K H' t (xs.map V.str) ∨ SqT K H' t (xs.map V.str) := fun h => h.seq
    have rk : ∀ {H' : Hp}, Kp b H H' → RowAt H' t xs := fun k' => ht.imp (fun h => k' _ _ h tb) fun h => k' _ _ h tb
    refine ⟨_, rfl, _, rfl, t, _, rfl, seq ht, _, _, rfl, rfl, b, l, _, rfl, B, by omega, by omega, fun j H1 hj B1 k1 => ?_⟩
    have ht1 := rk k1
    refine ⟨_, rfl, rfl, _, rfl, ?_⟩
    show if decide (V.int (j : Int) = V.int 0) = true then _ else _
    by_cases j0 : j = 0
    · subst j0
      refine iteT ?_
      refine ⟨by decide, fun t1 ht1' => ?_⟩
      have s1 := same_new (o := .tup []) ht1'
      have h0 : xs[0]? = some xs[0] := List.getElem?_eq_getElem hpos
      refine ⟨_, rfl, (ht1.same s1).ix (i := 0) h0 ⟨by show 2 ≤ sizeLine; decide, fun t2 ht2 => ?_⟩⟩
      have s2 := same_new (o := .tup [.ref t1, .str xs[0]]) ht2
      exact k t2 [] xs[0] _ ⟨t1, upd_same, s2 _ _ upd_same⟩ (qok_ranged (k := 0) R (.refl _) h0 (by simp) (by rfl)) (B1.same (s1.trans s2)) (k1.trans (Kp.of (s1.trans s2)))
    · rw [decide_eq_false (fun h => j0 (by injection h with h; omega))]
      refine iteF ?_
      refine ⟨fun σ' H' => ∃ r : Bool, σ' = [some (.ref b), some (.ref t), some (.int (j : Int)), some (.bl r)] ∧ (r = true → j < xs.length) ∧ Bag H' b l ∧ Kp b H H', ?_, ?_⟩
      · refine ⟨_, rfl, _, rfl, t, _, rfl, seq ht1, _, _, rfl, rfl, _, rfl, ?_⟩
        rw [hlen]
        by_cases hjl : j < xs.length
        · rw [decide_eq_true (show (j : Int) < (xs.length : Int) by omega)]
          refine iteT ?_
          refine ⟨_, rfl, b, l, 2, rfl, B1, by decide, by decide, fun j2 H2 hj2 B2 k2 => ⟨rfl, ?_⟩⟩
          exact ⟨_, rfl, fun _ => hjl, B2, k1.trans k2⟩
        · rw [decide_eq_false (show ¬ (j : Int) < (xs.length : Int) by omega)]
          refine iteF ?_
          exact ⟨_, rfl, (fun h => nomatch h), B1, k1⟩
      · rintro σ2 H2 ⟨r, rfl, hr2, B2, k2⟩
        have ht2 := rk k2
        refine ⟨_, rfl, _, rfl, _, rfl, ht2.cut fun r' H3 s3 h3 => ?_⟩
        refine ⟨r', xs.take j, rfl, h3.seq, by rw [List.length_take]; omega, fun ws p1 hw hs hp1 => ⟨p1, _, rfl, .inl ⟨SqL.of upd_same, fun p2 hp2 => ?_⟩⟩⟩
        have s4 : Same H2 _ := s3.trans ((same_new (o := .lst (ws.map V.str)) hp1).trans (same_new (o := .tup (ws.map V.str)) hp2))
        have h5 : (upd (upd H3 p1 (.lst (ws.map V.str))) p2 (.tup (ws.map V.str))) p2 = some (.tup (ws.map V.str)) := upd_same
        generalize upd (upd H3 p1 (.lst (ws.map V.str))) p2 (.tup (ws.map V.str)) = H4 at s4 h5 ⊢
        refine ⟨_, rfl, _, rfl, ?_⟩
        cases r with
        | true =>
          refine iteT ?_
          have hjl := hr2 rfl
          have hg : xs[j]? = some xs[j] := List.getElem?_eq_getElem hjl
          refine ⟨_, rfl, _, rfl, (ht2.same s4).ix hg ⟨by show 2 ≤ sizeLine; decide, fun p3 hp3 => ?_⟩⟩
          have s5 := same_new (o := .tup [.ref p2, .str xs[j]]) hp3
          exact k p3 ws xs[j] _ ⟨p2, upd_same, s5 _ _ h5⟩ (qok_ranged R (.refl _) hg hw hs) (B2.same (s4.trans s5)) (k2.trans (Kp.of (s4.trans s5)))
        | false =>
          refine iteF ?_
          refine ⟨by show 2 ≤ sizeLine; decide, fun p3 hp3 => ?_⟩
          have s5 := same_new (o := .tup [.ref p2, .str ""]) hp3
          have ej : xs.take j = xs.take (j - 1 + 1) := by rw [show j - 1 + 1 = j by omega]
          exact k p3 ws "" _ ⟨p2, upd_same, s5 _ _ h5⟩ (qok_plain (k := j - 1) R (.refl _) (by rw [← ej]; exact hw) hs) (B2.same (s4.trans s5)) (k2.trans (Kp.of (s4.trans s5)))
/-- rows of names as lists -/
def LL (H : Hp) (vs : List V) (rs : List (List Str)) : Prop := Paired (fun (x : V) (r : List Str) => ∃ t, x = .ref t ∧ H t = some (.lst (r.map V.str))) vs rs
theorem LL.kp {H H' : Hp} {b l : Addr} {vs : List V} {rs : List (List Str)} (B : Bag H b l) (s : Kp b H H') (h : LL H vs rs) : LL H' vs rs := Paired.mapP h fun x r ⟨t, e, z⟩ => ⟨t, e, s _ _ z (B.ne_strs z)⟩
theorem LL.same {H H' : Hp} {vs : List V} {rs : List (List Str)} (s : Same H H') (h : LL H vs rs) : LL H' vs rs := Paired.mapP h fun x r ⟨t, e, z⟩ => ⟨t, e, s _ _ z⟩
theorem LL.len {H : Hp} {vs : List V} {rs : List (List Str)} (h : LL H vs rs) : vs.length = rs.length := Paired.length h
theorem LL.mem {H : Hp} {vs : List V} {rs : List (List Str)} (h : LL H vs rs) : ∀ x ∈ vs, ∃ (t : Addr) (r : List Str), x = .ref t ∧ r ∈ rs ∧ H t = some (.lst (r.map V.str)) := by
  induction h with
  | nil => intro x hx; cases hx
  | @cons x0 r0 vs' rs' h1 _ ih =>
    intro x hx
    rcases List.mem_cons.mp hx with e | hx
    · obtain ⟨t, e1, e2⟩ := h1
      exact ⟨t, r0, e.trans e1, List.mem_cons_self, e2⟩
    · obtain ⟨t, r, g1, g2, g3⟩ := ih x hx
      exact ⟨t, r, g1, List.mem_cons_of_mem _ g2, g3⟩
/-- a list of refs alone isn't the bag -/
theorem Bag.ne_refs {H : Hp} {b l p : Addr} {ys : List V} (B : Bag H b l) (hp : H p = some (.lst ys)) (h : ∀ y ∈ ys, ∃ t, y = V.ref t) : p ≠ b := fun e => by
  obtain ⟨g, m, k, ns, hb, _⟩ := B
  rw [e, hb] at hp
  injection hp with hp
  injection hp with hp
  obtain ⟨t, e2⟩ := h (.int g) (by rw [← hp]; exact List.mem_cons_self)
  cases e2
theorem QL.refs {H : Hp} {ys : List V} {qs : List Qd} (h : QL H ys qs) : ∀ y ∈ ys, ∃ t, y = V.ref t := fun y hy => by
  obtain ⟨t, _, e, _⟩ := h.mem y hy
  exact ⟨t, e⟩
theorem TL.refs {H : Hp} {ys : List V} {rs : List (List Str)} (h : TL H ys rs) : ∀ y ∈ ys, ∃ t, y = V.ref t := fun y hy => by
  obtain ⟨t, _, e, _⟩ := h.mem y hy
  exact ⟨t, e⟩
theorem LL.refs {H : Hp} {ys : List V} {rs : List (List Str)} (h : LL H ys rs) : ∀ y ∈ ys, ∃ t, y = V.ref t := fun y hy => by
  obtain ⟨t, _, e, _⟩ := h.mem y hy
  exact ⟨t, e⟩
/-- a list of questions that grows -/
structure Grow (H0 : Hp) (b l p : Addr) (n : Nat) (H : Hp) : Prop where
  bag : Bag H b l
  kp : Kp b H0 H
  qs : ∃ (ys : List V) (qs : List Qd), H p = some (.lst ys) ∧ QL H ys qs ∧ QZs qs ∧ qs.length = n
theorem Grow.step {H0 H H' : Hp} {b l p : Addr} {n : Nat} (g : Grow H0 b l p n H) (npb : p ≠ b) (B : Bag H' b l) (k : Kp b H H') : Grow H0 b l p n H' := by
  obtain ⟨ys, qs, h1, h2, h3, h4⟩ := g.qs
  exact ⟨B, g.kp.trans k, ys, qs, k _ _ h1 npb, h2.kp g.bag k, h3, h4⟩
theorem Grow.push {H0 H : Hp} {b l p q : Addr} {n : Nat} {c : List Str} {e : Str} (g : Grow H0 b l p n H) (hp0 : H0 p = none) (npb : p ≠ b) (nlp : l ≠ p) (hq : QAt H q c e) (Z : QZ c e) :
    ∃ ys, H p = some (.lst ys) ∧ ys.length = n ∧ Grow H0 b l p (n + 1) (upd H p (.lst (ys ++ [.ref q]))) := by
  obtain ⟨ys, qs, h1, h2, h3, h4⟩ := g.qs
  refine ⟨ys, h1, by rw [h2.len]; exact h4, g.bag.upd npb.symm nlp, fun c' o hc ncb => ?_, ys ++ [.ref q], qs ++ [(c, e)], upd_same, QL.off (xs := ys) h1 (h2.snoc (q := (c, e)) hq), fun x hx => ?_, by rw [List.length_append, h4]; rfl⟩
  · rw [upd_ne (ne_of_none hc hp0)]
    exact g.kp _ _ hc ncb
  · rcases List.mem_append.mp hx with m | m
    · exact h3 x m
    · rw [List.mem_singleton.mp m]
      exact Z
end
end Qk
set_option maxRecDepth 100000
set_option maxHeartbeats 4000000
namespace Qk
open PySem PySem.Spec PyProof.Rows L2
section
variable {P : Program} {w : World} {K : PySem.W.Frag} {mg : Str → Option Value} {base : Heap}
theorem pw_risingS : ∀ (r : List Str) (p : Str), (p :: r).Pairwise leS → risingS p r = true
  | [], _, _ => rfl
  | x :: r, p, h => by
    obtain ⟨h1, h2⟩ := List.pairwise_cons.mp h
    have h3 : ltCps x.cps.toList p.cps.toList = false := h1 x List.mem_cons_self
    show (!ltCps x.cps.toList p.cps.toList && risingS x r) = true
    rw [h3, pw_risingS r x h2]
    rfl
theorem pw_sortedS {xs : List Str} (h : xs.Pairwise leS) : sortedS xs = true := by
  cases xs with
  | nil => rfl
  | cons x r => exact pw_risingS r x h
def FlatS (z : Str) : Prop := z.cps.size ≤ 10000 ∧ (z.cps.size ≤ 8 → PyData.strOk z = true)
/-- a text, or something of another kind -/
def TxV (K : PySem.W.Frag) (H : Hp) (x : V) : Prop := (∃ z, x = .str z ∧ FlatS z) ∨ ((∀ z, x ≠ .str z) ∧ ∃ t : String, TyX K H x (.type t) ∧ kitB t "str" = some false)
/-- a tuple, or something of another kind -/
def TuV (K : PySem.W.Frag) (H : Hp) (n : Nat) (A : Addr → Prop) (x : V) : Prop := (∃ a xs, x = .ref a ∧ H a = some (.tup xs) ∧ xs.length ≤ 40 ∧ ∀ y ∈ xs, VA 40 H A n y) ∨ ((∀ a xs, x = .ref a → H a ≠ some (.tup xs)) ∧ ∃ t : String, TyX K H x (.type t) ∧ kitB t "tuple" = some false)
theorem Flat.tx {H : Hp} {A : Addr → Prop} {x : V} (h : Flat H A x) : TxV K H x := by
  rcases h with rfl | ⟨b, rfl⟩ | ⟨i, rfl⟩ | ⟨z, rfl, h1, h2⟩ | ⟨a, kvs, rfl, _, ha⟩
  · exact .inr ⟨(fun z e => nomatch e), "NoneType", .base .non, by decide +kernel⟩
  · exact .inr ⟨(fun z e => nomatch e), "bool", .base (.bl b), by decide +kernel⟩
  · exact .inr ⟨(fun z e => nomatch e), "int", .base (.int i), by decide +kernel⟩
  · exact .inl ⟨z, rfl, h1, h2⟩
  · exact .inr ⟨(fun z e => nomatch e), "dict", .base (.dK ha), by decide +kernel⟩
theorem VA.tx {H : Hp} {A : Addr → Prop} : ∀ {n : Nat} {x : V}, VA 40 H A n x → TxV K H x
  | 0, _, h => Flat.tx h
  | n + 1, _, h => by
    rcases h with h | ⟨a, xs, rfl, _, ha | ha, _⟩
    · exact Flat.tx h
    · exact .inr ⟨(fun z e => nomatch e), "list", .base (.lst ha), by decide +kernel⟩
    · exact .inr ⟨(fun z e => nomatch e), "tuple", .base (.tup ha), by decide +kernel⟩
theorem Flat.tu {H : Hp} {A : Addr → Prop} {n : Nat} {x : V} (h : Flat H A x) : TuV K H n A x := by
  rcases h with rfl | ⟨b, rfl⟩ | ⟨i, rfl⟩ | ⟨z, rfl, h1, h2⟩ | ⟨a, kvs, rfl, _, ha⟩
  · exact .inr ⟨(fun a xs e => nomatch e), "NoneType", .base .non, by decide +kernel⟩
  · exact .inr ⟨(fun a xs e => nomatch e), "bool", .base (.bl b), by decide +kernel⟩
  · exact .inr ⟨(fun a xs e => nomatch e), "int", .base (.int i), by decide +kernel⟩
  · exact .inr ⟨(fun a xs e => nomatch e), "str", .base (.str z), by decide +kernel⟩
  · exact .inr ⟨(fun b xs e h => by injection e with e; subst e; rw [ha] at h; cases h), "dict", .base (.dK ha), by decide +kernel⟩
theorem VA.tu {H : Hp} {A : Addr → Prop} : ∀ {n : Nat} {x : V}, VA 40 H A n x → TuV K H (n - 1) A x
  | 0, _, h => Flat.tu h
  | n + 1, _, h => by
    rcases h with h | ⟨a, xs, rfl, _, ha | ha, hl, hx⟩
    · exact Flat.tu h
    · exact .inr ⟨(fun b xs e h => by injection e with e; subst e; rw [ha] at h; cases h), "list", .base (.lst ha), by decide +kernel⟩
    · exact .inl ⟨a, xs, rfl, ha, hl, hx⟩
def colV : V → Bool
  | .str z => colS z
  | _ => false
theorem colV_str {x : V} (h : colV x = true) : ∃ z, x = .str z ∧ colS z = true := by
  cases x with
  | str z => exact ⟨z, rfl, h⟩
  | _ => cases h
theorem texts_of : ∀ {xs : List V}, xs.all colV = true → ∃ zs : List Str, xs = zs.map V.str ∧ ∀ z ∈ zs, colS z = true
  | [], _ => ⟨[], rfl, (fun z h => nomatch h)⟩
  | x :: xs, h => by
    rw [List.all_cons, Bool.and_eq_true] at h
    obtain ⟨z, rfl, hz⟩ := colV_str h.1
    obtain ⟨zs, rfl, hs⟩ := texts_of h.2
    refine ⟨z :: zs, rfl, fun y hy => ?_⟩
    rcases List.mem_cons.mp hy with rfl | hy
    · exact hz
    · exact hs y hy
theorem col_of {z : Str} (h : colS z = true) : 1 ≤ z.cps.size ∧ z.cps.size ≤ 8 := by
  unfold colS at h
  simp only [Bool.and_eq_true, decide_eq_true_eq] at h
  exact ⟨h.1.1, h.1.2⟩
theorem col_ok {z : Str} (h : colS z = true) (f : FlatS z) : PyData.strOk z = true ∧ z.cps.size ≤ 20 := ⟨f.2 (col_of h).2, by have := (col_of h).2; omega⟩
/-- one value in, a truth out, by the text alone -/
def spTx (K : PySem.W.Frag) (f : Str → Bool) : Sp := fun vs H Q _ => ∃ x, vs = [x] ∧ TxV K H x ∧ ∀ (H' : Hp) (r : Bool), Same H H' → ((∀ z, x = .str z → r = f z) ∧ ((∀ z, x ≠ .str z) → r = false)) → Q (.bl r) H'
theorem scIsCol : FnScope ["thing"] ["thing"] (defScope sIsCol) := ⟨rfl, rfl, rfl, by decide +kernel, rfl, by decide +kernel, by decide +kernel⟩
theorem ok_iscolA {f : Addr} {fd : FuncData} (F : Fun K "is_column" "is_column" sIsCol f fd) (T : Txt K mg) : FnOk P w K mg base CX0 1 f fd ["thing"] (spTx K colS) := by
  refine F.ok scIsCol (fun vs H Q E h => ?_) (fun cdv A outer s H vs Q E hr h => ?_)
  · obtain ⟨x, rfl, _⟩ := h
    rfl
  · obtain ⟨x, rfl, hx, k⟩ := h
    have nd := scIsCol.nd
    obtain ⟨tl, hl⟩ := T.longest
    refine ⟨_, pss_cons (ps_if (PW.pt (pw_or (pt_not (pt_val (pe_callB call_isi (by rfl) T.isinstance (by decide +kernel) (pa_cons (pv 0) (pa_cons (pe_bltn (v := .ty "str") (by rfl) T.str (by decide +kernel) rfl) pa_nil)))))
        (pw_or1 (pt_not (pt_chain op_le op_le pe_int (pe_callB call_len_str (by rfl) T.len PySem.boot_len (pa_cons (pv 0) pa_nil)) (pe_glob (v := .int 8) rfl hl ⟨tl, rfl⟩)))))) (pss_one (ps_ret pe_bl)) pss_nil)
      (pss_one (ps_ret (pe_and (pe_m0 PySem.F.slot_str_isascii PySem.F.type_str_isascii mt_isascii (pv 0)) (pe_and (pe_m0 PySem.F.slot_str_isalpha PySem.F.type_str_isalpha mt_isalpha (pv 0))
        (pe_one (pe_m0 PySem.F.slot_str_islower PySem.F.type_str_islower mt_islower (pv 0))))))), ?_⟩
    rcases hx with ⟨z, rfl, hz, hok⟩ | ⟨hne, t, ty, hk⟩
    · refine ⟨_, rfl, _, _, .type "str", .type "str", true, rfl, .ty "str", .base (.str z), kit_ty (by decide +kernel), _, rfl, ?_⟩
      refine iteF ?_
      have hlen : z.length = z.cps.size := rfl
      have kk : Q (.bl (colS z)) H := k H (colS z) (Same.refl _) ⟨fun y e => by injection e with e; rw [e], fun h => absurd rfl (h z)⟩
      unfold colS at kk
      refine ⟨_, rfl, z, rfl, by rw [hlen, sizeLine_eq]; omega, 1, _, rfl, rfl, _, rfl, ?_⟩
      rw [hlen]
      by_cases c1 : 1 ≤ z.cps.size
      · have d1 : decide ((1 : Int) ≤ (z.cps.size : Int)) = true := decide_eq_true (by omega)
        rw [d1]
        refine iteT ?_
        refine ⟨_, 8, rfl, rfl, _, rfl, ?_⟩
        by_cases c2 : z.cps.size ≤ 8
        · have d2 : decide ((z.cps.size : Int) ≤ 8) = true := decide_eq_true (by omega)
          rw [d2]
          refine iteF ?_
          rw [decide_eq_true c1, decide_eq_true c2, ← low_iff z c1, Bool.true_and, Bool.true_and] at kk
          refine ⟨_, rfl, ⟨_, rfl⟩, z, rfl, rfl, True.intro, _, rfl, ?_⟩
          cases h1 : Txt.isascii z with
          | false =>
            rw [h1, Bool.false_and] at kk
            refine iteF ?_
            exact kk
          | true =>
            rw [h1, Bool.true_and] at kk
            refine iteT ?_
            refine ⟨_, rfl, ⟨_, rfl⟩, z, rfl, rfl, True.intro, _, rfl, ?_⟩
            cases h2 : Txt.isalpha z with
            | false =>
              rw [h2, Bool.false_and] at kk
              refine iteF ?_
              exact kk
            | true =>
              rw [h2, Bool.true_and] at kk
              refine iteT ?_
              exact ⟨_, rfl, ⟨_, rfl⟩, z, rfl, rfl, True.intro, kk⟩
        · have d2 : decide ((z.cps.size : Int) ≤ 8) = false := decide_eq_false (by omega)
          rw [d2]
          refine iteT ?_
          rw [decide_eq_false c2, Bool.and_false, Bool.false_and] at kk
          exact kk
      · have d1 : decide ((1 : Int) ≤ (z.cps.size : Int)) = false := decide_eq_false (by omega)
        rw [d1]
        refine iteF ?_
        refine ⟨_, rfl, ?_⟩
        refine iteT ?_
        rw [decide_eq_false c1, Bool.false_and, Bool.false_and] at kk
        exact kk
    · refine ⟨_, rfl, _, _, .type t, .type "str", false, rfl, .ty "str", ty, kit_ty hk, _, rfl, ?_⟩
      refine iteT ?_
      exact k H false (Same.refl _) ⟨fun z e => absurd e (hne z), fun _ => rfl⟩
theorem scIsEmpty : FnScope ["thing"] ["thing"] (defScope sIsEmpty) := ⟨rfl, rfl, rfl, by decide +kernel, rfl, by decide +kernel, by decide +kernel⟩
theorem ok_isemptyA {f : Addr} {fd : FuncData} (F : Fun K "is_empty" "is_empty" sIsEmpty f fd) (T : Txt K mg) : FnOk P w K mg base CX0 1 f fd ["thing"] (spTx K fun z => decide (z = "")) := by
  refine F.ok scIsEmpty (fun vs H Q E h => ?_) (fun cdv A outer s H vs Q E hr h => ?_)
  · obtain ⟨x, rfl, _⟩ := h
    rfl
  · obtain ⟨x, rfl, hx, k⟩ := h
    refine ⟨_, pss_one (ps_ret (pe_and (pe_callB call_isi (by rfl) T.isinstance (by decide +kernel) (pa_cons (pv 0) (pa_cons (pe_bltn (v := .ty "str") (by rfl) T.str (by decide +kernel) rfl) pa_nil))) (pe_one (pe_cmpR op_eq (pv 0) pe_str (nomark _))))), ?_⟩
    rcases hx with ⟨z, rfl, hz⟩ | ⟨hne, t, ty, hk⟩
    · refine ⟨_, rfl, _, _, .type "str", .type "str", true, rfl, .ty "str", .base (.str z), kit_ty (by decide +kernel), _, rfl, ?_⟩
      refine iteT ?_
      refine ⟨_, rfl, rfl, ?_⟩
      have e1 : decide (V.str z = V.str "") = decide (z = "") := decide_eq_decide.mpr ⟨fun h => by injection h, fun h => congrArg V.str h⟩
      rw [e1]
      exact k H _ (Same.refl _) ⟨fun y e => by injection e with e; rw [e], fun h => absurd rfl (h z)⟩
    · refine ⟨_, rfl, _, _, .type t, .type "str", false, rfl, .ty "str", ty, kit_ty hk, _, rfl, ?_⟩
      refine iteF ?_
      exact k H false (Same.refl _) ⟨fun z e => absurd e (hne z), fun _ => rfl⟩
/-- zip(t, t[1:]): each with the next one -/
theorem walk_next {K : PySem.W.Frag} {a b : Addr} {xs : List V} : Walk (RZ.ItzT K a b) (xs.length - 1) (fun H => SqT K H a xs ∧ SqT K H b (xs.drop 1)) (fun i H v H' => ∃ (T : Addr) (x y : V), v = .ref T ∧ H T = none ∧ H' = upd H T (.tup [x, y]) ∧ xs[i]? = some x ∧ xs[i + 1]? = some y) := by
  have nx : ∀ i, (xs.drop 1)[i]? = xs[i + 1]? := fun i => by rw [List.getElem?_drop, Nat.add_comm]
  constructor
  · intro i G lt ⟨qa, qb⟩
    have l2 : i + 1 < xs.length := by omega
    exact ⟨xs, xs.drop 1, xs[i], xs[i + 1], qa, qb, List.getElem?_eq_getElem (by omega), (nx i).trans (List.getElem?_eq_getElem l2)⟩
  · intro G ⟨qa, qb⟩
    exact ⟨xs, xs.drop 1, qa, qb, .inr (by rw [List.length_drop]; exact Nat.le_refl _)⟩
  · intro i G v G' _ ⟨qa, qb⟩ ⟨T, x, y, e1, e2, e3, e4, e5⟩
    exact ⟨T, x, y, e1, e2, e3, e4 xs qa, (nx i).symm.trans (e5 _ qb)⟩
theorem rep_snoc (n : Nat) : (List.replicate n true).map V.bl ++ [V.bl true] = (List.replicate (n + 1) true).map V.bl := by
  rw [List.replicate_succ', List.map_append]
  rfl
theorem rep_all (n : Nat) : (List.replicate n true).all id = true := by
  rw [List.all_eq_true]
  intro x hx
  rw [List.eq_of_mem_replicate hx]
  rfl
theorem menu_sz : ∀ c ∈ menu, c.cps.size ≤ 1000 := by decide +kernel
theorem ltCps_dec : ∀ a b : List Nat, ltCps a b = decide (a < b)
  | [], [] => by simp [ltCps]
  | [], _ :: _ => by simp [ltCps]
  | _ :: _, [] => by simp [ltCps]
  | a :: r, b :: t => by
    rw [ltCps, ltCps_dec r t, Bool.eq_iff_iff]
    simp [List.cons_lt_cons_iff]
theorem slice_whole {H1 : Hp} {cols : List Str} {t : Addr} (ht : H1 t = some (.tup (cols.map V.str))) (hw : HT.sIx (cols.map V.str).length 0 (some 1) = 0 ∧ HT.sIx (cols.map V.str).length (cols.map V.str).length none = (cols.map V.str).length) : H1 t = some (.tup ((cols.drop 1).map V.str)) := by
  have e0 : cols = [] := by
    have h1 := hw.1
    rw [show (1 : Int) = ((1 : Nat) : Int) from rfl, HT.sIx_nat] at h1
    rw [List.length_map] at h1
    have : cols.length = 0 := by omega
    exact List.eq_nil_of_length_eq_zero this
  rw [ht, e0]
  rfl
theorem slice_part {H1 : Hp} {cols : List Str} {q : Addr} (hq : H1 q = none) : (upd H1 q (.tup (cutV (cols.map V.str) (some 1) none))) q = some (.tup ((cols.drop 1).map V.str)) := by
  have ec : cutV (cols.map V.str) (some 1) none = (cols.drop 1).map V.str := by
    have := cut_behind 0 (cols.map V.str)
    rw [List.map_drop]
    exact this
  rw [ec]
  exact upd_same
def ltP (a b : Str) : Prop := a.cps.toList < b.cps.toList
def adjL : List Str → List Bool
  | a :: b :: r => decide (a.cps.toList < b.cps.toList) :: adjL (b :: r)
  | _ => []
theorem adj_len : ∀ cols : List Str, (adjL cols).length = cols.length - 1
  | [] => rfl
  | [_] => rfl
  | a :: b :: r => by
    show (adjL (b :: r)).length + 1 = _
    rw [adj_len (b :: r)]
    simp
theorem adj_at : ∀ {cols : List Str} {i : Nat} {c d : Str}, cols[i]? = some c → cols[i + 1]? = some d → (adjL cols)[i]? = some (decide (c.cps.toList < d.cps.toList))
  | [], _, _, _, h, _ => by simp at h
  | [_], i, _, _, _, h => by simp at h
  | a :: b :: r, 0, c, d, h1, h2 => by
    simp at h1 h2
    subst h1 h2
    rfl
  | a :: b :: r, i + 1, c, d, h1, h2 => by
    show (adjL (b :: r))[i]? = _
    exact adj_at (by simpa using h1) (by simpa using h2)
theorem adj_pw : ∀ cols : List Str, (adjL cols).all id = true ↔ cols.Pairwise ltP
  | [] => by simp [adjL]
  | [_] => by simp [adjL]
  | a :: b :: r => by
    have ih := adj_pw (b :: r)
    show (decide (a.cps.toList < b.cps.toList) && (adjL (b :: r)).all id) = true ↔ _
    rw [Bool.and_eq_true, decide_eq_true_eq, ih]
    constructor
    · rintro ⟨h1, h2⟩
      refine .cons (fun y hy => ?_) h2
      rcases List.mem_cons.mp hy with rfl | hy
      · exact h1
      · exact List.lt_trans h1 ((List.pairwise_cons.mp h2).1 y hy)
    · intro h
      obtain ⟨h1, h2⟩ := List.pairwise_cons.mp h
      exact ⟨h1 b List.mem_cons_self, h2⟩
theorem pw_good {cols : List Str} : cols.Pairwise ltP ↔ cols.Nodup ∧ sortedS cols = true := by
  constructor
  · intro h
    refine ⟨h.imp fun {a b} q e => ?_, pw_sortedS (h.imp fun {a b} q => ?_)⟩
    · rw [e] at q
      exact List.lt_irrefl _ q
    · show ltCps b.cps.toList a.cps.toList = false
      rw [ltCps_dec]
      exact decide_eq_false (List.lt_asymm q)
  · rintro ⟨h1, h2⟩
    have pw := sortedS_pw h2
    refine (pw.and h1).imp fun {a b} ⟨q1, q2⟩ => ?_
    have q1' : ltCps b.cps.toList a.cps.toList = false := q1
    rw [ltCps_dec] at q1'
    rcases List.le_iff_lt_or_eq.mp (List.not_lt.mp (of_decide_eq_false q1')) with q | q
    · exact q
    · exact absurd (str_ext q) q2
/-- columns as they stand in a question -/
def ColsV (H : Hp) (x : V) : Prop := ∃ t cols, x = .ref t ∧ H t = some (.tup (cols.map V.str)) ∧ (∀ c ∈ cols, colS c = true) ∧ cols.Nodup ∧ sortedS cols = true
def spAscA : Sp := fun vs H Q _ => ∃ (t : Addr) (cols : List Str), vs = [.ref t] ∧ H t = some (.tup (cols.map V.str)) ∧ cols.length ≤ 40 ∧ ∀ (H' : Hp) (r : Bool), Same H H' → (r = true ↔ cols.Nodup ∧ sortedS cols = true) → Q (.bl r) H'
abbrev nAsc : List Str := ["things", "one", "other"]
theorem scAsc : FnScope nAsc ["things"] (defScope sAsc) := ⟨rfl, rfl, rfl, by decide +kernel, rfl, by decide +kernel, by decide +kernel⟩
theorem ok_ascA {f : Addr} {fd : FuncData} (F : Fun K "is_ascending" "is_ascending" sAsc f fd) (T : Txt K mg) : FnOk P w K mg base CX0 1 f fd ["things"] spAscA := by
  refine F.ok scAsc (fun vs H Q E h => ?_) (fun cdv A outer s H vs Q E hr h => ?_)
  · obtain ⟨t, cols, rfl, _⟩ := h
    rfl
  · obtain ⟨t, cols, rfl, ht, hl, k⟩ := h
    have al := adj_len cols
    have kall : ∀ {G : Hp}, Same H G → Q (.bl ((adjL cols).all id)) G := fun s => k _ _ s ((adj_pw cols).trans pw_good)
    have nd := scAsc.nd
    refine ⟨_, pss_one (ps_ret (pe_callB (cr_all rfl) (by rfl) T.all (by decide +kernel) (pa_cons (pe_lc (own := [("one", 1), ("other", 2)]) (g := gTup K 2 (gCons (gName 1) (gCons (gName 2) gNil))) (tt := tYes) rfl nd (RZ.pi_zipA (by rfl) T.zip (pa_cons (pv 0) (pa_cons (pe_slice sl_tupA (pv 0) (po_some pe_int) po_none) pa_nil)))
        (blkOk_by (N := nAsc) (sc := defScope sAsc) (by decide +kernel)) (fun _ _ _ _ _ => pg_tup (by rfl) (pgs_cons (pg_name (i := 1) nd rfl (by first | exact Or.inl rfl | exact Or.inr rfl)) (pgs_cons (pg_name (i := 2) nd rfl (by first | exact Or.inl rfl | exact Or.inr rfl)) pgs_nil)))
        (fun _ _ _ _ _ => pts_nil) (fun _ _ _ _ _ => pe_cmpR op_lt_str (pv 1) (pv 2) (nomark _))) pa_nil))), ?_⟩
    have ht1 := ht
    refine ⟨_, rfl, _, rfl, 1, rfl, t, _, rfl, SqT.of ht1, fun hw => ?_, fun hw q hq0 => ?_⟩
    · have hq := slice_whole ht1 hw
      refine ⟨t, t, _, _, rfl, .inr ⟨SqT.of (ht1), SqT.of hq, fun D2 hD2 => ?_⟩⟩
      refine lc_it (walk_next (xs := cols.map V.str)) (fun i H' => Same H H' ∧ H' D2 = some (.lst (((adjL cols).take i).map V.bl))) ⟨same_new hD2, upd_same⟩
        (fun i H' _ h => ⟨SqT.of (h.1 _ _ ht1), SqT.of (h.1 _ _ (by rw [← List.map_drop]; exact hq))⟩) ?_ ?_
      · rintro i x H3 H4 hi ⟨s3, hDl3⟩ y
        obtain ⟨T4, x1, y1, rfl, hT, rfl, hx1, hy1⟩ := y
        rw [List.length_map] at hi
        rw [List.getElem?_map] at hx1 hy1
        obtain ⟨c, hc, rfl⟩ := Option.map_eq_some_iff.mp hx1
        obtain ⟨d, hd, rfl⟩ := Option.map_eq_some_iff.mp hy1
        have sT := same_new (o := .tup [V.str c, V.str d]) hT
        refine ⟨T4, _, rfl, SqT.of upd_same, rfl, _, _, rfl, _, _, rfl, rfl, rfl, ?_⟩
        refine ⟨_, rfl, _, rfl, c, d, rfl, rfl, ?_⟩
        have ai := adj_at hc hd
        have ei : (adjL cols).take (i + 1) = (adjL cols).take i ++ [decide (c.cps.toList < d.cps.toList)] := by rw [List.take_add_one, ai]; rfl
        refine ⟨_, sT _ _ hDl3, small1000 (by simp; omega), fun b o hb => ?_, ?_⟩
        · rw [upd_ne (ne_of_none hb hD2)]
          exact sT _ _ (s3 _ _ hb)
        · rw [upd_same, ei, List.map_append]
          rfl
      · rintro H3 ⟨s3, hDl3⟩
        rw [List.take_of_length_le (by rw [List.length_map]; omega)] at hDl3
        refine ⟨D2, _, rfl, SqL.of hDl3, ?_⟩
        exact kall s3
    · have s2 := same_new (o := .tup (cutV (cols.map V.str) (some 1) none)) hq0
      have hq := slice_part (cols := cols) hq0
      generalize upd H q (.tup (cutV (cols.map V.str) (some 1) none)) = H2 at s2 hq ⊢
      refine ⟨t, q, _, _, rfl, .inr ⟨SqT.of (s2 _ _ ht1), SqT.of hq, fun D2 hD2 => ?_⟩⟩
      refine lc_it (walk_next (xs := cols.map V.str)) (fun i H' => Same H2 H' ∧ H' D2 = some (.lst (((adjL cols).take i).map V.bl))) ⟨same_new hD2, upd_same⟩
        (fun i H' _ h => ⟨SqT.of (h.1 _ _ (s2 _ _ ht1)), SqT.of (h.1 _ _ (by rw [← List.map_drop]; exact hq))⟩) ?_ ?_
      · rintro i x H3 H4 hi ⟨s3, hDl3⟩ y
        obtain ⟨T4, x1, y1, rfl, hT, rfl, hx1, hy1⟩ := y
        rw [List.length_map] at hi
        rw [List.getElem?_map] at hx1 hy1
        obtain ⟨c, hc, rfl⟩ := Option.map_eq_some_iff.mp hx1
        obtain ⟨d, hd, rfl⟩ := Option.map_eq_some_iff.mp hy1
        have sT := same_new (o := .tup [V.str c, V.str d]) hT
        refine ⟨T4, _, rfl, SqT.of upd_same, rfl, _, _, rfl, _, _, rfl, rfl, rfl, ?_⟩
        refine ⟨_, rfl, _, rfl, c, d, rfl, rfl, ?_⟩
        have ai := adj_at hc hd
        have ei : (adjL cols).take (i + 1) = (adjL cols).take i ++ [decide (c.cps.toList < d.cps.toList)] := by rw [List.take_add_one, ai]; rfl
        refine ⟨_, sT _ _ hDl3, small1000 (by simp; omega), fun b o hb => ?_, ?_⟩
        · rw [upd_ne (ne_of_none hb hD2)]
          exact sT _ _ (s3 _ _ hb)
        · rw [upd_same, ei, List.map_append]
          rfl
      · rintro H3 ⟨s3, hDl3⟩
        rw [List.take_of_length_le (by rw [List.length_map]; omega)] at hDl3
        refine ⟨D2, _, rfl, SqL.of hDl3, ?_⟩
        exact kall (s2.trans s3)
end
end Qk
set_option maxRecDepth 100000
set_option maxHeartbeats 4000000
namespace Qk
open PySem PySem.Spec PyProof.Rows L2
section
variable {P : Program} {w : World} {K : PySem.W.Frag} {mg : Str → Option Value} {base : Heap}
theorem str_mem {z : Str} {l : List Str} (h : V.str z ∈ l.map V.str) : z ∈ l := by
  obtain ⟨y, hy, e⟩ := List.mem_map.mp h
  injection e with e
  rw [← e]
  exact hy
def SpV (H : Hp) (x : V) : Prop := ∃ A n, VA 40 H A n x
theorem SpV.same {H H' : Hp} {x : V} (s : Same H H') (h : SpV H x) : SpV H' x := by
  obtain ⟨A, n, h⟩ := h
  exact ⟨A, n, VA.same s h⟩
theorem SpV.tx {H : Hp} {x : V} (h : SpV H x) : TxV K H x := by
  obtain ⟨A, n, h⟩ := h
  exact h.tx
/-- a tuple whose parts are such again, or something else -/
theorem SpV.tu {H : Hp} {x : V} (h : SpV H x) : (∃ a xs, x = .ref a ∧ H a = some (.tup xs) ∧ xs.length ≤ 40 ∧ ∀ y ∈ xs, SpV H y) ∨ ((∀ a xs, x = .ref a → H a ≠ some (.tup xs)) ∧ ∃ t : String, TyX K H x (.type t) ∧ kitB t "tuple" = some false) := by
  obtain ⟨A, n, h⟩ := h
  rcases h.tu (K := K) with ⟨a, xs, e, ha, hl, hx⟩ | h
  · exact .inl ⟨a, xs, e, ha, hl, fun y hy => ⟨A, _, hx y hy⟩⟩
  · exact .inr h
theorem ColsV.same {H H' : Hp} {x : V} (s : Same H H') (h : ColsV H x) : ColsV H' x := by
  obtain ⟨t, cols, e, ht, h⟩ := h
  exact ⟨t, cols, e, s _ _ ht, h⟩
theorem ColsV.of {H : Hp} {a : Addr} {xs : List V} (ha : H a = some (.tup xs)) (h : ColsV H (.ref a)) : ∃ cols : List Str, xs = cols.map V.str ∧ (∀ c ∈ cols, colS c = true) ∧ cols.Nodup ∧ sortedS cols = true := by
  obtain ⟨t, cols, e, ht, h⟩ := h
  injection e with e
  subst e
  rw [ha] at ht
  injection ht with ht
  injection ht with ht
  exact ⟨cols, ht, h⟩
theorem strs_ok (K : PySem.W.Frag) {H : Hp} {cols : List Str} (h : ∀ y ∈ cols.map V.str, SpV H y) (hc : ∀ c ∈ cols, colS c = true) : ∀ c ∈ cols, PyData.strOk c = true := fun c m => by
  rcases (h (.str c) (List.mem_map_of_mem m)).tx (K := K) with ⟨z, e, f⟩ | ⟨ne, _⟩
  · injection e with e
    subst e
    exact (col_ok (hc c m) f).1
  · exact absurd rfl (ne c)
theorem all_strs {cols : List Str} : (cols.map V.str).all colV = true ↔ ∀ c ∈ cols, colS c = true := by
  rw [List.all_map, List.all_eq_true]
  exact Iff.rfl
def spCv : Sp := fun vs H Q _ => ∃ x, vs = [x] ∧ SpV H x ∧ ∀ (H' : Hp) (r : Bool), Same H H' → (r = true ↔ ColsV H x) → Q (.bl r) H'
abbrev nAC : List Str := ["thing", "one"]
theorem scAreCols : FnScope nAC ["thing"] (defScope sAreCols) := ⟨rfl, rfl, rfl, by decide +kernel, rfl, by decide +kernel, by decide +kernel⟩
theorem ok_arecolsA {f : Addr} {fd : FuncData} (F : Fun K "are_columns" "are_columns" sAreCols f fd) (T : Txt K mg) (cC : Cal P w K mg base 1 "is_column" ["thing"] (spTx K colS)) (cA : Cal P w K mg base 1 "is_ascending" ["things"] spAscA) : FnOk P w K mg base CX0 2 f fd ["thing"] spCv := by
  refine F.ok scAreCols (fun vs H Q E h => ?_) (fun cdv A outer s H vs Q E hr h => ?_)
  · obtain ⟨x, rfl, _⟩ := h
    rfl
  · obtain ⟨x, rfl, hx, k⟩ := h
    have nd := scAreCols.nd
    refine ⟨_, pss_cons (ps_if (PW.pt (pw_or (pt_not (pt_val (pe_callB call_isi (by rfl) T.isinstance (by decide +kernel) (pa_cons (pv 0) (pa_cons (pe_bltn (v := .ty "tuple") (by rfl) T.tuple (by decide +kernel) rfl) pa_nil)))))
        (pw_or1 (pt_not (pt_val (pe_callB (cr_all rfl) (by rfl) T.all (by decide +kernel) (pa_cons (pe_lc (own := [("one", 1)]) (g := gName 1) (tt := tYes) rfl nd (pi_tup (pv 0)) (blkOk_by (N := nAC) (sc := defScope sAreCols) (by decide +kernel))
          (fun _ _ _ _ _ => pg_name (i := 1) nd rfl (by first | exact Or.inl rfl | exact Or.inr rfl)) (fun _ _ _ _ _ => pts_nil) (fun _ _ _ _ _ => pe_call cC.G hr rfl cC.m cC.kp cC.b .nil pass0 (pa_cons (pv 1) pa_nil))) pa_nil))))))) (pss_one (ps_ret pe_bl)) pss_nil)
      (pss_one (ps_ret (pe_call cA.G hr rfl cA.m cA.kp cA.b .nil pass0 (pa_cons (pv 0) pa_nil)))), ?_⟩
    rcases hx.tu (K := K) with ⟨a, xs, rfl, ha, hl, hv⟩ | ⟨hne, t, ty, hk⟩
    · refine ⟨_, rfl, _, _, .type "tuple", .type "tuple", true, rfl, .ty "tuple", .base (.tup ha), kit_ty (by decide +kernel), _, rfl, ?_⟩
      refine iteF ?_
      refine ⟨_, rfl, a, rfl, ⟨_, SqT.of ha⟩, fun D hD => ?_⟩
      refine lc_tup (K := K) (a := a) (xs := xs) (fun i H' => Same H H' ∧ H' D = some (.lst (((xs.take i).map colV).map V.bl))) ⟨same_new hD, upd_same⟩ (fun i H' _ h => SqT.of (h.1 _ _ ha)) ?_ ?_
      · rintro i x H1 hx ⟨s1, hDl⟩
        have et : xs.take (i + 1) = xs.take i ++ [x] := by rw [List.take_add_one, hx]; rfl
        have hil : i < xs.length := (List.getElem?_eq_some_iff.mp hx).1
        refine ⟨rfl, Exists.intro _ ⟨rfl, x, rfl, ((hv x (List.mem_of_getElem? hx)).same s1).tx, fun H2 r s2 hr2 => ?_⟩⟩
        have er : r = colV x := by
          cases x with
          | str z => exact hr2.1 z rfl
          | _ => exact hr2.2 (fun z e => nomatch e)
        refine ⟨_, s2 _ _ hDl, small1000 (by simp; omega), fun b' o ho => ?_, ?_⟩
        · rw [upd_ne (ne_of_none ho hD)]
          exact s2 _ _ (s1 _ _ ho)
        · rw [upd_same, et, er]
          simp
      · rintro H1 ⟨s1, hDl⟩
        rw [List.take_of_length_le (Nat.le_refl _)] at hDl
        refine ⟨D, _, rfl, SqL.of hDl, _, rfl, ?_⟩
        have eall : (xs.map colV).all id = xs.all colV := by rw [List.all_map]; rfl
        rw [eall]
        cases hc : xs.all colV with
        | false =>
          refine iteT ?_
          refine k H1 false s1 ⟨fun h => (nomatch h), fun h => ?_⟩
          obtain ⟨cols, rfl, h1, _⟩ := ColsV.of ha h
          rw [all_strs.mpr h1] at hc
          cases hc
        | true =>
          refine iteF ?_
          obtain ⟨zs, rfl, hz⟩ := texts_of hc
          refine ⟨_, rfl, a, zs, rfl, s1 _ _ ha, by rw [List.length_map] at hl; exact hl, fun H2 r s2 hr2 => k H2 r (s1.trans s2) (hr2.trans ⟨fun h => ⟨a, zs, rfl, ha, hz, h⟩, fun h => ?_⟩)⟩
          obtain ⟨cols, e, _, h2⟩ := ColsV.of ha h
          have : zs = cols := by
            have inj : ∀ (l m : List Str), l.map V.str = m.map V.str → l = m := fun l => by
              induction l with
              | nil => intro m e; cases m with
                | nil => rfl
                | cons y m => cases e
              | cons x l ih => intro m e; cases m with
                | nil => cases e
                | cons y m =>
                  injection e with e1 e2
                  injection e1 with e1
                  rw [e1, ih m e2]
            exact inj _ _ e
          rw [this]
          exact h2
    · refine ⟨_, rfl, _, _, .type t, .type "tuple", false, rfl, .ty "tuple", ty, kit_ty hk, _, rfl, ?_⟩
      refine iteT ?_
      exact k H false (Same.refl _) ⟨fun h => (nomatch h), fun ⟨a, cols, e, h, _⟩ => absurd h (hne a _ e)⟩
def lastB (x : V) (zs : List Str) : Bool := match x with
  | .str z => decide (z = "") || (colS z && !decide (z ∈ zs))
  | _ => false
theorem lastB_not {x : V} {zs : List Str} (h : ∀ z, x ≠ .str z) : lastB x zs = false := by
  cases x with
  | str z => exact absurd rfl (h z)
  | _ => rfl
def spLastA (K : PySem.W.Frag) : Sp := fun vs H Q _ => ∃ (x : V) (t : Addr) (zs : List Str), vs = [x, .ref t] ∧ H t = some (.tup (zs.map V.str)) ∧ SpV H x ∧ ∀ H', Same H H' → Q (.bl (lastB x zs)) H'
theorem scIsLast : FnScope ["thing", "columns"] ["thing", "columns"] (defScope sIsLast) := ⟨rfl, rfl, rfl, by decide +kernel, rfl, by decide +kernel, by decide +kernel⟩
theorem ok_islastA {f : Addr} {fd : FuncData} (F : Fun K "is_last" "is_last" sIsLast f fd) (T : Txt K mg) (cC : Cal P w K mg base 1 "is_column" ["thing"] (spTx K colS)) (cE : Cal P w K mg base 1 "is_empty" ["thing"] (spTx K fun z => decide (z = ""))) :
    FnOk P w K mg base CX0 2 f fd ["thing", "columns"] (spLastA K) := by
  refine F.ok scIsLast (fun vs H Q E h => ?_) (fun cdv A outer s H vs Q E hr h => ?_)
  · obtain ⟨x, t, zs, rfl, _⟩ := h
    rfl
  · obtain ⟨x, t, zs, rfl, ht, hx, k⟩ := h
    refine ⟨_, pss_one (ps_ret (pe_or (pe_call cE.G hr rfl cE.m cE.kp cE.b .nil pass0 (pa_cons (pv 0) pa_nil)) (pe_one (pe_and (pe_call cC.G hr rfl cC.m cC.kp cC.b .nil pass0 (pa_cons (pv 0) pa_nil))
      (pe_one (pe_cmpR op_notIn_seq (pv 0) (pv 1) (by rfl))))))), ?_⟩
    refine ⟨_, rfl, x, rfl, hx.tx, fun H1 r s1 hr1 => ⟨_, rfl, ?_⟩⟩
    rcases hx.tx (K := K) with ⟨z, rfl, hz⟩ | ⟨hne, _⟩
    · have e1 := hr1.1 z rfl
      subst e1
      have kk : ∀ H', Same H H' → Q (.bl (decide (z = "") || (colS z && !decide (z ∈ zs)))) H' := k
      show if decide (z = "") = true then _ else _
      by_cases he : z = ""
      · rw [decide_eq_true he] at kk ⊢
        refine iteT ?_
        exact kk H1 s1
      · rw [decide_eq_false he] at kk ⊢
        refine iteF ?_
        refine ⟨_, rfl, _, rfl, (hx.same s1).tx, fun H2 r2 s2 hr2 => ⟨_, rfl, ?_⟩⟩
        have e2 := hr2.1 z rfl
        subst e2
        have s3 := s1.trans s2
        cases hc : colS z with
        | false =>
          refine iteF ?_
          have := kk H2 s3
          rw [hc] at this
          exact this
        | true =>
          refine iteT ?_
          refine ⟨_, rfl, _, rfl, t, _, rfl, .inr (SqT.of (s3 _ _ ht)), rfl, flat_strs _, ?_⟩
          have := kk H2 s3
          rw [hc] at this
          show Q (.bl (!inV (.str z) (zs.map V.str))) H2
          rw [inV_strs]
          exact this
    · have e1 := hr1.2 hne
      subst e1
      refine iteF ?_
      refine ⟨_, rfl, _, rfl, (hx.same s1).tx, fun H2 r2 s2 hr2 => ⟨_, rfl, ?_⟩⟩
      have e2 := hr2.2 hne
      subst e2
      refine iteF ?_
      have := k H2 (s1.trans s2)
      rw [lastB_not hne] at this
      exact this
/-- a question, whatever its columns are -/
structure QC (q : Qd) : Prop where
  col : ∀ c ∈ q.1, colS c = true
  nd : q.1.Nodup
  srt : sortedS q.1 = true
  last : q.2 = "" ∨ (colS q.2 = true ∧ q.2 ∉ q.1)
  some : q.2 = "" → q.1 ≠ []
def IsQv (H : Hp) (x : V) : Prop := ∃ t q, x = .ref t ∧ QAt H t q.1 q.2 ∧ QC q
def spQv : Sp := fun vs H Q _ => ∃ x, vs = [x] ∧ SpV H x ∧ ∀ (H' : Hp) (r : Bool), Same H H' → (r = true ↔ IsQv H x) → Q (.bl r) H'
theorem IsQv.of {H : Hp} {a : Addr} {xs : List V} (ha : H a = some (.tup xs)) (h : IsQv H (.ref a)) : ∃ c q, xs = [.ref c, .str q.2] ∧ H c = some (.tup (q.1.map V.str)) ∧ QC q := by
  obtain ⟨t, q, e, ⟨c, h1, h2⟩, hq⟩ := h
  injection e with e
  subst e
  rw [ha] at h1
  injection h1 with h1
  injection h1 with h1
  exact ⟨c, q, h1, h2, hq⟩
theorem lastB_iff {x : V} {zs : List Str} : lastB x zs = true ↔ ∃ z, x = .str z ∧ (z = "" ∨ (colS z = true ∧ z ∉ zs)) := by
  cases x with
  | str z =>
    show (decide (z = "") || (colS z && !decide (z ∈ zs))) = true ↔ _
    simp
  | _ => exact ⟨fun h => (nomatch h), fun ⟨z, e, _⟩ => (nomatch e)⟩
theorem scIsQ : FnScope ["thing", "columns", "last"] ["thing"] (defScope sIsQ) := ⟨rfl, rfl, rfl, by decide +kernel, rfl, by decide +kernel, by decide +kernel⟩
theorem ok_isqA {f : Addr} {fd : FuncData} (F : Fun K "is_question" "is_question" sIsQ f fd) (T : Txt K mg) (cA : Cal P w K mg base 2 "are_columns" ["thing"] spCv) (cL : Cal P w K mg base 2 "is_last" ["thing", "columns"] (spLastA K)) : FnOk P w K mg base CX0 3 f fd ["thing"] spQv := by
  refine F.ok scIsQ (fun vs H Q E h => ?_) (fun cdv A outer s H vs Q E hr h => ?_)
  · obtain ⟨x, rfl, _⟩ := h
    rfl
  · obtain ⟨x, rfl, hx, k⟩ := h
    have nd := scIsQ.nd
    refine ⟨_, pss_cons (ps_if (PW.pt (pw_or (pt_not (pt_val (pe_callB call_isi (by rfl) T.isinstance (by decide +kernel) (pa_cons (pv 0) (pa_cons (pe_bltn (v := .ty "tuple") (by rfl) T.tuple (by decide +kernel) rfl) pa_nil)))))
        (pw_or1 (pt_cmpR op_ne (pe_callB call_len_seq (by rfl) T.len PySem.boot_len (pa_cons (pv 0) pa_nil)) pe_int (nomark _))))) (pss_one (ps_ret pe_bl)) pss_nil)
      (pss_cons (ps_asg (pv 0) (pg_tup (by rfl) (pgs_cons (pg_name (i := 1) nd rfl (Or.inl rfl)) (pgs_cons (pg_name (i := 2) nd rfl (Or.inl rfl)) pgs_nil))))
      (pss_cons (ps_if (PW.pt (pw_or (pt_not (pt_val (pe_call cA.G hr rfl cA.m cA.kp cA.b .nil pass0 (pa_cons (pv 1) pa_nil))))
        (pw_or1 (pt_not (pt_val (pe_call cL.G hr rfl cL.m cL.kp cL.b .nil pass0 (pa_cons (pv 2) (pa_cons (pv 1) pa_nil)))))))) (pss_one (ps_ret pe_bl)) pss_nil)
      (pss_one (ps_ret (pe_or (pe_cmpR (op_neD hr.units) (pv 1) (pe_tup pa_nil) (nomark _)) (pe_one (pe_cmpR op_ne (pv 2) pe_str (nomark _)))))))), ?_⟩
    rcases hx.tu (K := K) with ⟨a, xs, rfl, ha, hl, hv⟩ | ⟨hne, t, ty, hk⟩
    · refine ⟨_, rfl, _, _, .type "tuple", .type "tuple", true, rfl, .ty "tuple", .base (.tup ha), kit_ty (by decide +kernel), _, rfl, ?_⟩
      refine iteF ?_
      refine ⟨_, rfl, _, _, rfl, .inr (SqT.of ha), rfl, _, rfl, ?_⟩
      show if (!decide (V.int (xs.length : Int) = V.int 2)) = true then _ else _
      by_cases h2 : xs.length = 2
      · rw [decide_eq_true (by rw [h2]; rfl)]
        refine iteF ?_
        match xs, h2, hv, ha with
        | [u, v], _, hv, ha =>
        have hu := hv u List.mem_cons_self
        have hvv := hv v (List.mem_cons_of_mem _ List.mem_cons_self)
        refine ⟨_, rfl, a, _, rfl, SqT.of ha, rfl, _, _, rfl, _, _, rfl, rfl, ?_⟩
        refine ⟨_, rfl, u, rfl, hu, fun H1 r s1 hr1 => ⟨_, rfl, ?_⟩⟩
        cases r with
        | false =>
          refine iteT ?_
          refine k H1 false s1 ⟨fun h => (nomatch h), fun h => ?_⟩
          obtain ⟨c, q, e, hc, hq⟩ := IsQv.of ha h
          injection e with e1 e2
          exact absurd (hr1.mpr ⟨c, q.1, e1, hc, hq.col, hq.nd, hq.srt⟩) (by decide)
        | true =>
          refine iteF ?_
          obtain ⟨c, cols, rfl, hc, h1, h3, h4⟩ := hr1.mp rfl
          have cok : ∀ c ∈ cols, PyData.strOk c = true := by
            rcases hu.tu (K := K) with ⟨c', xs', e, hc', _, hvs⟩ | ⟨hne, _⟩
            · injection e with e
              subst e
              rw [hc] at hc'
              injection hc' with hc'
              injection hc' with hc'
              subst hc'
              exact strs_ok K hvs h1
            · exact absurd hc (hne c _ rfl)
          refine ⟨_, rfl, _, rfl, v, c, cols, rfl, s1 _ _ hc, hvv.same s1, fun H2 s2 => ⟨_, rfl, ?_⟩⟩
          have s12 := s1.trans s2
          cases hlb : lastB v cols with
          | false =>
            refine iteT ?_
            refine k H2 false s12 ⟨fun h => (nomatch h), fun h => ?_⟩
            obtain ⟨c', q, e, hc', hq⟩ := IsQv.of ha h
            injection e with e1 e2
            injection e2 with e2 _
            injection e1 with e1
            subst e1
            rw [hc] at hc'
            injection hc' with hc'
            injection hc' with hc'
            have : lastB v cols = true := lastB_iff.mpr ⟨q.2, e2, hq.last.imp id fun ⟨g1, g2⟩ => ⟨g1, fun hm => g2 (str_mem (by rw [← hc']; exact List.mem_map_of_mem hm))⟩⟩
            rw [hlb] at this
            cases this
          | true =>
            refine iteF ?_
            obtain ⟨z, rfl, hz⟩ := lastB_iff.mp hlb
            refine ⟨_, rfl, by show 0 ≤ sizeLine; decide, fun e0 he0 => ?_⟩
            have s3 := same_new (o := .tup []) he0
            refine ⟨.tuple (cols.map PyData.str), .tuple (([] : List Str).map PyData.str), .tup (SqT.of (s3 _ _ (s12 _ _ hc))) (dp_strs _), .tup (SqT.of upd_same) (dp_strs []), shaped_tuple cok, shaped_tuple (fun c hc => nomatch hc), _, rfl, ?_⟩
            show if (!PyData.eqv (.tuple (cols.map PyData.str)) (.tuple (([] : List Str).map PyData.str))) = true then _ else _
            rw [PyData.eqv, eqv_strs]
            have sA := s12.trans s3
            by_cases hn : cols = []
            · rw [decide_eq_true hn]
              refine iteF ?_
              refine ⟨_, rfl, rfl, ?_⟩
              show Q (V.bl (!decide (V.str z = V.str ""))) _
              refine k _ _ sA ?_
              by_cases he : z = ""
              · rw [decide_eq_true (congrArg V.str he)]
                refine ⟨fun h => (nomatch h), fun h => ?_⟩
                obtain ⟨c', q, e, hc', hq⟩ := IsQv.of ha h
                injection e with e1 e2
                injection e2 with e2 _
                injection e2 with e2
                injection e1 with e1
                subst e1
                rw [hc] at hc'
                injection hc' with hc'
                injection hc' with hc'
                rw [hn] at hc'
                exact absurd (List.map_eq_nil_iff.mp hc'.symm) (hq.some (e2.symm.trans he))
              · rw [decide_eq_false (fun h => he (by injection h))]
                exact ⟨fun _ => ⟨a, (cols, z), rfl, ⟨c, ha, hc⟩, ⟨h1, h3, h4, hz, fun h => absurd h he⟩⟩, fun _ => rfl⟩
            · rw [decide_eq_false hn]
              refine iteT ?_
              exact k _ true sA ⟨fun _ => ⟨a, (cols, z), rfl, ⟨c, ha, hc⟩, ⟨h1, h3, h4, hz, fun _ => hn⟩⟩, fun _ => rfl⟩
      · rw [decide_eq_false (fun h => h2 (by injection h with h; omega))]
        refine iteT ?_
        refine k H false (Same.refl _) ⟨fun h => (nomatch h), fun h => ?_⟩
        obtain ⟨c, q, e, _⟩ := IsQv.of ha h
        rw [e] at h2
        exact absurd rfl h2
    · refine ⟨_, rfl, _, _, .type t, .type "tuple", false, rfl, .ty "tuple", ty, kit_ty hk, _, rfl, ?_⟩
      refine iteT ?_
      exact k H false (Same.refl _) ⟨fun h => (nomatch h), fun ⟨a, q, e, ⟨c, h, _⟩, _⟩ => absurd h (hne a _ e)⟩
end
end Qk
set_option maxRecDepth 100000
set_option maxHeartbeats 4000000
namespace Qk
open PySem PySem.Spec PyProof.Rows L2
section
variable {P : Program} {w : World} {K : PySem.W.Frag} {mg : Str → Option Value} {base : Heap}
theorem scLIsCol : FnScope ["_law_thing", "_law_sign"] ["_law_thing"] (defScope sLIsCol) := ⟨rfl, rfl, rfl, by decide +kernel, rfl, by decide +kernel, by decide +kernel⟩
theorem abc_mem (c : Nat) : decide (c ∈ ("abcdefghijklmnopqrstuvwxyz" : Str).cps.toList) = (decide (97 ≤ c) && decide (c ≤ 122)) := by
  have e : ("abcdefghijklmnopqrstuvwxyz" : Str).cps.toList = (List.range 26).map (· + 97) := by decide +kernel
  rw [e, Bool.eq_iff_iff]
  simp only [decide_eq_true_eq, List.mem_map, List.mem_range, Bool.and_eq_true]
  constructor
  · rintro ⟨a, h1, h2⟩
    omega
  · intro h
    exact ⟨c - 97, by omega, by omega⟩
theorem ok_liscol {f : Addr} {fd : FuncData} (F : Fun K "_law_is_column" "_law_is_column" sLIsCol f fd) (T : Txt K mg) : FnOk P w K mg base CX0 1 f fd ["_law_thing"] (spTx K colS) := by
  refine F.ok scLIsCol (fun vs H Q E h => ?_) (fun cdv A outer s H vs Q E hr h => ?_)
  · obtain ⟨x, rfl, _⟩ := h
    rfl
  · obtain ⟨x, rfl, hx, k0⟩ := h
    have nd := scLIsCol.nd
    refine ⟨_, pss_cons (ps_if (PW.pt (pw_or (pt_not (pt_val (pe_callB call_isi (by rfl) T.isinstance (by decide +kernel) (pa_cons (pv 0) (pa_cons (pe_bltn (v := .ty "str") (by rfl) T.str (by decide +kernel) rfl) pa_nil)))))
        (pw_or1 (pt_not (pt_chain op_le op_le pe_int (pe_callB call_len_str (by rfl) T.len PySem.boot_len (pa_cons (pv 0) pa_nil)) pe_int))))) (pss_one (ps_ret pe_bl)) pss_nil)
      (pss_one (ps_ret (pe_cmpR (op_eqD hr.units) (pe_lc (own := [("_law_sign", 1)]) (g := gName 1) rfl nd (pi_str (pv 0)) (blkOk_by (N := ["_law_thing", "_law_sign"]) (sc := defScope sLIsCol) (by decide +kernel))
        (fun _ _ _ _ _ => pg_name (i := 1) nd rfl (Or.inl rfl)) (fun _ _ _ _ _ => pts_one (pt_cmpR op_notIn_sign (pv 1) pe_str (by rfl))) (fun _ _ _ _ _ => pv 1)) (pe_lst pa_nil) (nomark _)))), ?_⟩
    rcases hx with ⟨z, rfl, hz, hok0⟩ | ⟨hne, t, ty, hk⟩
    · refine ⟨_, rfl, _, _, .type "str", .type "str", true, rfl, .ty "str", .base (.str z), kit_ty (by decide +kernel), _, rfl, ?_⟩
      refine iteF ?_
      have hlen : z.length = z.cps.size := rfl
      have kk : ∀ H', Same H H' → Q (.bl (colS z)) H' := fun H' s' => k0 H' _ s' ⟨fun y e => by injection e with e; rw [e], fun h => absurd rfl (h z)⟩
      unfold colS at kk
      refine ⟨_, rfl, z, rfl, by rw [hlen, sizeLine_eq]; omega, 1, _, rfl, rfl, _, rfl, ?_⟩
      rw [hlen]
      by_cases c1 : 1 ≤ z.cps.size
      · have d1 : decide ((1 : Int) ≤ (z.cps.size : Int)) = true := decide_eq_true (by omega)
        rw [d1]
        refine iteT ?_
        refine ⟨_, 8, rfl, rfl, _, rfl, ?_⟩
        by_cases c2 : z.cps.size ≤ 8
        · have d2 : decide ((z.cps.size : Int) ≤ 8) = true := decide_eq_true (by omega)
          rw [d2]
          refine iteF ?_
          rw [decide_eq_true c1, decide_eq_true c2] at kk
          have hok := hok0 c2
          refine ⟨_, rfl, z, rfl, fun D hD => ?_⟩
          have ltr : ∀ (l : List Nat), (l.map fun c => (⟨#[c]⟩ : Str)).map V.str = l.map fun c => V.str ⟨#[c]⟩ := fun l => by rw [List.map_map]; rfl
          refine lc_it (walk_str (z := z)) (fun i H' => Same H H' ∧ H' D = some (.lst (((((z.cps.toList.take i).filter fun c => !(decide (97 ≤ c) && decide (c ≤ 122))).map fun c => (⟨#[c]⟩ : Str))).map V.str))) ⟨same_new hD, upd_same⟩ (fun _ _ _ _ => True.intro) ?_ ?_
          · rintro i x H1 H2 hi ⟨s1, hDl⟩ ⟨rfl, c, hc, rfl⟩
            have et : z.cps.toList.take (i + 1) = z.cps.toList.take i ++ [c] := by rw [List.take_add_one, Array.getElem?_toList, hc]; rfl
            refine ⟨rfl, ?_⟩
            refine ⟨_, rfl, c, _, rfl, rfl, _, rfl, ?_⟩
            rw [abc_mem]
            by_cases q : (decide (97 ≤ c) && decide (c ≤ 122)) = true
            · rw [q]
              refine iteF ?_
              refine ⟨s1, ?_⟩
              have e7 : ([c].filter fun c => !(decide (97 ≤ c) && decide (c ≤ 122))) = [] := by
                rw [List.filter_cons, List.filter_nil, q]
                rfl
              rw [hDl, et, List.filter_append, e7, List.append_nil]
            · have qf : (decide (97 ≤ c) && decide (c ≤ 122)) = false := by simpa using q
              rw [qf]
              refine iteT ?_
              refine ⟨_, rfl, _, hDl, small1000 ?_, fun b' o ho => ?_, ?_⟩
              · have := List.length_filter_le (fun c => !(decide (97 ≤ c) && decide (c ≤ 122))) (z.cps.toList.take i)
                rw [List.length_take] at this
                rw [List.length_map, List.length_map]
                omega
              · rw [upd_ne (ne_of_none ho hD)]
                exact s1 _ _ ho
              · have e7 : ([c].filter fun c => !(decide (97 ≤ c) && decide (c ≤ 122))) = [c] := by
                  rw [List.filter_cons, List.filter_nil, qf]
                  rfl
                rw [upd_same, et, List.filter_append, e7, List.map_append, List.map_append]
                rfl
          · rintro H1 ⟨s1, hDl⟩
            rw [List.take_of_length_le (by rw [Array.length_toList]; exact Nat.le_refl _)] at hDl
            refine ⟨by show 0 ≤ sizeLine; decide, fun p hp => ?_⟩
            have oks : ∀ y ∈ ((z.cps.toList.filter fun c => !(decide (97 ≤ c) && decide (c ≤ 122))).map fun c => (⟨#[c]⟩ : Str)), PyData.strOk y = true := fun y hy => by
              obtain ⟨c, hc, rfl⟩ := List.mem_map.mp hy
              have hc2 := (List.mem_filter.mp hc).1
              unfold PyData.strOk at hok ⊢
              rw [← Array.all_toList, List.all_eq_true] at hok
              simpa using hok c hc2
            refine ⟨.list (((z.cps.toList.filter fun c => !(decide (97 ≤ c) && decide (c ≤ 122))).map fun c => (⟨#[c]⟩ : Str)).map PyData.str), .list (([] : List Str).map PyData.str), .lst (SqL.of (same_new hp _ _ hDl)) (dp_strs _), .lst (SqL.of upd_same) (dp_strs []), shaped_list oks, shaped_list (fun c hc => by cases hc), ?_⟩
            rw [PyData.eqv, eqv_strs]
            have e5 : decide (((z.cps.toList.filter fun c => !(decide (97 ≤ c) && decide (c ≤ 122))).map fun c => (⟨#[c]⟩ : Str)) = []) = z.cps.toList.all fun c => decide (97 ≤ c) && decide (c ≤ 122) := by
              rw [Bool.eq_iff_iff, decide_eq_true_eq, List.map_eq_nil_iff, List.filter_eq_nil_iff, List.all_eq_true]
              exact ⟨fun h c hc => by simpa using h c hc, fun h c hc => by simpa using h c hc⟩
            rw [e5]
            have := kk _ (s1.trans (same_new (o := .lst []) hp))
            exact this
        · have d2 : decide ((z.cps.size : Int) ≤ 8) = false := decide_eq_false (by omega)
          rw [d2]
          refine iteT ?_
          have := kk H (Same.refl _)
          rw [decide_eq_false c2, Bool.and_false, Bool.false_and] at this
          exact this
      · have d1 : decide ((1 : Int) ≤ (z.cps.size : Int)) = false := decide_eq_false (by omega)
        rw [d1]
        refine iteF ?_
        refine ⟨_, rfl, ?_⟩
        refine iteT ?_
        have := kk H (Same.refl _)
        rw [decide_eq_false c1, Bool.false_and, Bool.false_and] at this
        exact this
    · refine ⟨_, rfl, _, _, .type t, .type "str", false, rfl, .ty "str", ty, kit_ty hk, _, rfl, ?_⟩
      refine iteT ?_
      exact k0 H false (Same.refl _) ⟨fun z e => absurd e (hne z), fun _ => rfl⟩
theorem map_str_inj : ∀ {l m : List Str}, l.map V.str = m.map V.str → l = m
  | [], [], _ => rfl
  | [], _ :: _, e => nomatch e
  | _ :: _, [], e => nomatch e
  | x :: l, y :: m, e => by
    injection e with e1 e2
    injection e1 with e1
    rw [e1, map_str_inj e2]
abbrev nLAC : List Str := ["_law_thing", "_law_one_here"]
theorem scLAreCols : FnScope nLAC ["_law_thing"] (defScope sLAreCols) := ⟨rfl, rfl, rfl, by decide +kernel, rfl, by decide +kernel, by decide +kernel⟩
theorem filt_nil {xs : List V} : xs.filter (fun x => !colV x) = [] ↔ xs.all colV = true := by
  rw [List.filter_eq_nil_iff, List.all_eq_true]
  constructor
  · intro h x hx
    have := h x hx
    cases hc : colV x with
    | true => rfl
    | false => rw [hc] at this; exact absurd rfl this
  · intro h x hx
    rw [h x hx]
    decide
theorem eq_sorted {cols ys ws : List Str} (nd : ys.Nodup) (hm : ∀ z, z ∈ ys ↔ z ∈ cols) (hp : ws.Perm ys) (hs : sortedS ws = true) : cols = ws ↔ cols.Nodup ∧ sortedS cols = true := by
  constructor
  · rintro rfl
    exact ⟨hp.nodup_iff.mpr nd, hs⟩
  · rintro ⟨h1, h2⟩
    have p : cols.Perm ws := ((List.perm_ext_iff_of_nodup h1 nd).mpr fun z => (hm z).symm).trans hp.symm
    exact perm_sorted p (sortedS_pw h2) (sortedS_pw hs)
theorem ok_larecols {f : Addr} {fd : FuncData} (F : Fun K "_law_are_columns" "_law_are_columns" sLAreCols f fd) (T : Txt K mg) (cC : Cal P w K mg base 1 "_law_is_column" ["_law_thing"] (spTx K colS)) : FnOk P w K mg base CX0 2 f fd ["_law_thing"] spCv := by
  refine F.ok scLAreCols (fun vs H Q E h => ?_) (fun cdv A outer s H vs Q E hr h => ?_)
  · obtain ⟨x, rfl, _⟩ := h
    rfl
  · obtain ⟨x, rfl, hx, k⟩ := h
    have nd := scLAreCols.nd
    have hu64 : A.units + 3 + 64 < cLine := by
      have := hr.un
      have e : (A.deeper (envOfC "_law_are_columns" (defScope sLAreCols) s.heap.objs.size f cdv)).units = A.units + 3 := rfl
      omega
    refine ⟨_, pss_cons (ps_if (PW.pt (pw_or (pt_not (pt_val (pe_callB call_isi (by rfl) T.isinstance (by decide +kernel) (pa_cons (pv 0) (pa_cons (pe_bltn (v := .ty "tuple") (by rfl) T.tuple (by decide +kernel) rfl) pa_nil)))))
        (pw_or1 (pt_cmpR (op_neNil hu64) (pe_lc (own := [("_law_one_here", 1)]) (g := gName 1) rfl nd (pi_tup (pv 0)) (blkOk_by (N := nLAC) (sc := defScope sLAreCols) (by decide +kernel))
          (fun _ _ _ _ _ => pg_name (i := 1) nd rfl (by first | exact Or.inl rfl | exact Or.inr rfl)) (fun _ _ _ _ _ => pts_one (pt_not (pt_val (pe_call cC.G hr rfl cC.m cC.kp cC.b .nil pass0 (pa_cons (pv 1) pa_nil))))) (fun _ _ _ _ _ => pv 1)) (pe_lst pa_nil) (nomark _))))) (pss_one (ps_ret pe_bl)) pss_nil)
      (pss_one (ps_ret (pe_cmpR (op_eqD hr.units) (pe_callTy call_list_of (by rfl) T.list (by decide +kernel) (pa_cons (pv 0) pa_nil))
        (pe_callB (cr_sortT rfl) (by rfl) T.sorted (by decide +kernel) (pa_cons (pe_callTy (cr_setW rfl) (by rfl) T.set (by decide +kernel) (pa_cons (pv 0) pa_nil)) pa_nil)) (nomark _)))), ?_⟩
    rcases hx.tu (K := K) with ⟨a, xs, rfl, ha, hl, hv⟩ | ⟨hne, t, ty, hk⟩
    · refine ⟨_, rfl, _, _, .type "tuple", .type "tuple", true, rfl, .ty "tuple", .base (.tup ha), kit_ty (by decide +kernel), _, rfl, ?_⟩
      refine iteF ?_
      refine ⟨_, rfl, a, rfl, ⟨_, SqT.of ha⟩, fun D hD => ?_⟩
      refine lc_tup (K := K) (a := a) (xs := xs) (fun i H' => Same H H' ∧ H' D = some (.lst ((xs.take i).filter fun x => !colV x))) ⟨same_new hD, upd_same⟩ (fun i H' _ h => SqT.of (h.1 _ _ ha)) ?_ ?_
      · rintro i x H1 hx ⟨s1, hDl⟩
        have et : xs.take (i + 1) = xs.take i ++ [x] := by rw [List.take_add_one, hx]; rfl
        have hil : i < xs.length := (List.getElem?_eq_some_iff.mp hx).1
        refine ⟨rfl, Exists.intro _ ⟨rfl, x, rfl, ((hv x (List.mem_of_getElem? hx)).same s1).tx, fun H2 r s2 hr2 => ⟨_, rfl, ?_⟩⟩⟩
        have er : r = colV x := by
          cases x with
          | str z => exact hr2.1 z rfl
          | _ => exact hr2.2 (fun z e => nomatch e)
        subst er
        rw [et, List.filter_append]
        cases hc : colV x with
        | true =>
          refine iteF ?_
          have e7 : [x].filter (fun x => !colV x) = [] := by rw [List.filter_cons, hc]; rfl
          rw [e7, List.append_nil]
          exact ⟨s1.trans s2, s2 _ _ hDl⟩
        | false =>
          refine iteT ?_
          have e7 : [x].filter (fun x => !colV x) = [x] := by rw [List.filter_cons, hc]; rfl
          rw [e7]
          refine ⟨_, rfl, _, s2 _ _ hDl, small1000 ?_, fun b' o ho => ?_, upd_same⟩
          · have := List.length_filter_le (fun x => !colV x) (xs.take i)
            rw [List.length_take] at this
            omega
          · rw [upd_ne (ne_of_none ho hD)]
            exact s2 _ _ (s1 _ _ ho)
      · rintro H1 ⟨s1, hDl⟩
        rw [List.take_of_length_le (Nat.le_refl _)] at hDl
        refine ⟨by decide, fun p hp => ?_⟩
        have s2 := same_new (o := .lst []) hp
        refine ⟨D, p, _, rfl, rfl, SqL.of (s2 _ _ hDl), SqL.of upd_same, _, rfl, ?_⟩
        by_cases hf : xs.filter (fun x => !colV x) = []
        · rw [decide_eq_true hf]
          refine iteF ?_
          obtain ⟨cols, rfl, hz⟩ := texts_of (filt_nil.mp hf)
          have s12 := s1.trans s2
          rw [List.length_map] at hl
          refine ⟨_, rfl, a, _, rfl, .inr (SqT.of (s12 _ _ ha)), fun q hq => ?_⟩
          have s3 := s12.trans (same_new (o := .lst (cols.map V.str)) hq)
          refine ⟨_, rfl, a, cols, rfl, .inr (SqT.of (s3 _ _ ha)), by omega, fun u ys hu nd2 hm hyl => ?_⟩
          refine ⟨u, ys, rfl, upd_same, by omega, fun ws v hwp hws hvn => ?_⟩
          have s4 := same_new (o := TxtO P w u ys) hu
          have s5 := same_new (o := .lst (ws.map V.str)) hvn
          have cok := strs_ok K hv hz
          have wok : ∀ c ∈ ws, PyData.strOk c = true := fun c hc => cok c ((hm c).mp (hwp.mem_iff.mp hc))
          refine ⟨.list (cols.map PyData.str), .list (ws.map PyData.str), .lst (SqL.of (s5 _ _ (s4 _ _ upd_same))) (dp_strs _), .lst (SqL.of upd_same) (dp_strs _), shaped_list cok, shaped_list wok, ?_⟩
          rw [PyData.eqv, eqv_strs]
          refine k _ _ (s3.trans (s4.trans s5)) ?_
          rw [decide_eq_true_eq, eq_sorted nd2 hm hwp hws]
          refine ⟨fun h => ⟨a, cols, rfl, ha, hz, h⟩, fun h => ?_⟩
          obtain ⟨c', e, _, h2⟩ := ColsV.of ha h
          have : cols = c' := map_str_inj e
          rw [this]
          exact h2
        · rw [decide_eq_false hf]
          refine iteT ?_
          refine k _ false (s1.trans s2) ⟨fun h => (nomatch h), fun h => ?_⟩
          obtain ⟨cols, e, h1, _⟩ := ColsV.of ha h
          rw [e] at hf
          exact absurd (filt_nil.mpr (all_strs.mpr h1)) hf
    · refine ⟨_, rfl, _, _, .type t, .type "tuple", false, rfl, .ty "tuple", ty, kit_ty hk, _, rfl, ?_⟩
      refine iteT ?_
      exact k H false (Same.refl _) ⟨fun h => (nomatch h), fun ⟨a, cols, e, h, _⟩ => absurd h (hne a _ e)⟩
theorem scLIsQ : FnScope ["_law_thing"] ["_law_thing"] (defScope sLIsQ) := ⟨rfl, rfl, rfl, by decide +kernel, rfl, by decide +kernel, by decide +kernel⟩
theorem ok_lisq {f : Addr} {fd : FuncData} (F : Fun K "_law_is_question" "_law_is_question" sLIsQ f fd) (T : Txt K mg) (cC : Cal P w K mg base 1 "_law_is_column" ["_law_thing"] (spTx K colS)) (cA : Cal P w K mg base 2 "_law_are_columns" ["_law_thing"] spCv) : FnOk P w K mg base CX0 3 f fd ["_law_thing"] spQv := by
  refine F.ok scLIsQ (fun vs H Q E h => ?_) (fun cdv A outer s H vs Q E hr h => ?_)
  · obtain ⟨x, rfl, _⟩ := h
    rfl
  · obtain ⟨x, rfl, hx, k⟩ := h
    have nd := scLIsQ.nd
    have hr1 : Room 2 _ := hr.mono (by decide)
    refine ⟨_, pss_cons (ps_if (PW.pt (pw_or (pt_not (pt_val (pe_callB call_isi (by rfl) T.isinstance (by decide +kernel) (pa_cons (pv 0) (pa_cons (pe_bltn (v := .ty "tuple") (by rfl) T.tuple (by decide +kernel) rfl) pa_nil)))))
        (pw_or (pt_cmpR op_ne (pe_callB call_len_seq (by rfl) T.len PySem.boot_len (pa_cons (pv 0) pa_nil)) pe_int (nomark _))
        (pw_or1 (pt_not (pt_val (pe_call cA.G hr rfl cA.m cA.kp cA.b .nil pass0 (pa_cons (pe_ix ix_tup (pv 0) pe_int fun _ _ => rfl) pa_nil)))))))) (pss_one (ps_ret pe_bl)) pss_nil)
      (pss_cons (ps_if (pt_not (pt_val (pe_callB call_isi (by rfl) T.isinstance (by decide +kernel) (pa_cons (pe_ix ix_tup (pv 0) pe_int fun _ _ => rfl) (pa_cons (pe_bltn (v := .ty "str") (by rfl) T.str (by decide +kernel) rfl) pa_nil))))) (pss_one (ps_ret pe_bl)) pss_nil)
      (pss_cons (ps_if (pt_cmpR op_eq (pe_ix ix_tup (pv 0) pe_int fun _ _ => rfl) pe_str (nomark _)) (pss_one (ps_ret (pe_cmpR (op_neD hr.units) (pe_ix ix_tup (pv 0) pe_int fun _ _ => rfl) (pe_tup pa_nil) (nomark _)))) pss_nil)
      (pss_one (ps_ret (pe_and (pe_call cC.G (hr.mono (by decide)) rfl cC.m cC.kp cC.b .nil pass0 (pa_cons (pe_ix ix_tup (pv 0) pe_int fun _ _ => rfl) pa_nil)) (pe_one (pe_cmpR op_notIn_seq (pe_ix ix_tup (pv 0) pe_int fun _ _ => rfl) (pe_ix ix_tup (pv 0) pe_int fun _ _ => rfl) (by rfl)))))))), ?_⟩
    rcases hx.tu (K := K) with ⟨a, xs, rfl, ha, hl, hv⟩ | ⟨hne, t, ty, hk⟩
    · refine ⟨_, rfl, _, _, .type "tuple", .type "tuple", true, rfl, .ty "tuple", .base (.tup ha), kit_ty (by decide +kernel), _, rfl, ?_⟩
      refine iteF ?_
      refine ⟨_, rfl, _, _, rfl, .inr (SqT.of ha), rfl, _, rfl, ?_⟩
      show if (!decide (V.int (xs.length : Int) = V.int 2)) = true then _ else _
      by_cases h2 : xs.length = 2
      · rw [decide_eq_true (by rw [h2]; rfl)]
        refine iteF ?_
        match xs, h2, hv, ha with
        | [u, v], _, hv, ha =>
        have hu := hv u List.mem_cons_self
        have hvv := hv v (List.mem_cons_of_mem _ List.mem_cons_self)
        refine ⟨_, rfl, a, _, 0, _, rfl, rfl, SqT.of ha, rfl, ?_⟩
        refine ⟨u, rfl, hu, fun H1 r s1 hr1 => ⟨_, rfl, ?_⟩⟩
        have ha1 := s1 _ _ ha
        cases r with
        | false =>
          refine iteT ?_
          refine k H1 false s1 ⟨fun h => (nomatch h), fun h => ?_⟩
          obtain ⟨c, q, e, hc, hq⟩ := IsQv.of ha h
          injection e with e1 e2
          exact absurd (hr1.mpr ⟨c, q.1, e1, hc, hq.col, hq.nd, hq.srt⟩) (by decide)
        | true =>
          refine iteF ?_
          obtain ⟨c, cols, rfl, hc, h1, h3, h4⟩ := hr1.mp rfl
          have cok : ∀ c ∈ cols, PyData.strOk c = true := by
            rcases hu.tu (K := K) with ⟨c', xs', e, hc', _, hvs⟩ | ⟨hne, _⟩
            · injection e with e
              subst e
              rw [hc] at hc'
              injection hc' with hc'
              injection hc' with hc'
              subst hc'
              exact strs_ok K hvs h1
            · exact absurd hc (hne c _ rfl)
          have isq : IsQv H (.ref a) → ∃ z, v = .str z ∧ (z = "" ∨ (colS z = true ∧ z ∉ cols)) ∧ (z = "" → cols ≠ []) := fun h => by
            obtain ⟨c', q, e, hc', hq⟩ := IsQv.of ha h
            injection e with e1 e2
            injection e2 with e2 _
            injection e1 with e1
            subst e1
            rw [hc] at hc'
            injection hc' with hc'
            injection hc' with hc'
            have ec : cols = q.1 := map_str_inj hc'
            exact ⟨q.2, e2, by rw [ec]; exact hq.last, by rw [ec]; exact hq.some⟩
          have isq2 : ∀ z, v = .str z → (z = "" ∨ (colS z = true ∧ z ∉ cols)) → (z = "" → cols ≠ []) → IsQv H (.ref a) := fun z e g1 g2 => ⟨a, (cols, z), rfl, ⟨c, by rw [ha, e], hc⟩, ⟨h1, h3, h4, g1, g2⟩⟩
          rcases (hvv.same s1).tx (K := K) with ⟨z, rfl, hz⟩ | ⟨hne, t2, ty2, hk2⟩
          · refine ⟨_, rfl, a, _, 1, _, rfl, rfl, SqT.of ha1, rfl, _, _, .type "str", .type "str", true, rfl, .ty "str", .base (.str z), kit_ty (by decide +kernel), _, rfl, ?_⟩
            refine iteF ?_
            refine ⟨_, rfl, a, _, 1, _, rfl, rfl, SqT.of ha1, rfl, rfl, _, rfl, ?_⟩
            by_cases he : z = ""
            · rw [decide_eq_true (congrArg V.str he)]
              refine iteT ?_
              refine ⟨_, rfl, a, _, 0, _, rfl, rfl, SqT.of ha1, rfl, by show 0 ≤ sizeLine; decide, fun e0 he0 => ?_⟩
              have s3 := same_new (o := .tup []) he0
              refine ⟨.tuple (cols.map PyData.str), .tuple (([] : List Str).map PyData.str), .tup (SqT.of (s3 _ _ (s1 _ _ hc))) (dp_strs _), .tup (SqT.of upd_same) (dp_strs []), shaped_tuple cok, shaped_tuple (fun c hc => nomatch hc), ?_⟩
              rw [PyData.eqv, eqv_strs]
              refine k _ _ (s1.trans s3) ?_
              by_cases hn : cols = []
              · rw [decide_eq_true hn]
                refine ⟨fun h => (nomatch h), fun h => ?_⟩
                obtain ⟨y, e, _, g⟩ := isq h
                injection e with e
                exact absurd hn (g (by rw [← e]; exact he))
              · rw [decide_eq_false hn]
                exact ⟨fun _ => isq2 z rfl (.inl he) fun _ => hn, fun _ => rfl⟩
            · rw [decide_eq_false (fun h => he (by injection h))]
              refine iteF ?_
              refine ⟨_, rfl, a, _, 1, _, rfl, rfl, SqT.of ha1, rfl, ?_⟩
              refine ⟨.str z, rfl, (hvv.same s1).tx, fun H2 r2 s2 hr2 => ⟨_, rfl, ?_⟩⟩
              have e2 := hr2.1 z rfl
              subst e2
              have ha2 := s2 _ _ ha1
              have s12 := s1.trans s2
              cases hcz : colS z with
              | false =>
                refine iteF ?_
                refine k H2 false s12 ⟨fun h => (nomatch h), fun h => ?_⟩
                obtain ⟨y, e, g, _⟩ := isq h
                injection e with e
                subst e
                rcases g with g | ⟨g, _⟩
                · exact absurd g he
                · rw [hcz] at g; cases g
              | true =>
                refine iteT ?_
                refine ⟨_, rfl, a, _, 1, _, rfl, rfl, SqT.of ha2, rfl, _, rfl, a, _, 0, _, rfl, rfl, SqT.of ha2, rfl, c, _, rfl, .inr (SqT.of (s12 _ _ hc)), rfl, flat_strs _, ?_⟩
                show Q (.bl (!inV (.str z) (cols.map V.str))) H2
                rw [inV_strs]
                refine k H2 _ s12 ?_
                by_cases hm : z ∈ cols
                · rw [decide_eq_true hm]
                  refine ⟨fun h => (nomatch h), fun h => ?_⟩
                  obtain ⟨y, e, g, _⟩ := isq h
                  injection e with e
                  subst e
                  exact absurd hm (g.resolve_left he).2
                · rw [decide_eq_false hm]
                  exact ⟨fun _ => isq2 z rfl (.inr ⟨hcz, hm⟩) fun h => absurd h he, fun _ => rfl⟩
          · refine ⟨_, rfl, a, _, 1, _, rfl, rfl, SqT.of ha1, rfl, _, _, .type t2, .type "str", false, rfl, .ty "str", ty2, kit_ty hk2, _, rfl, ?_⟩
            refine iteT ?_
            refine k H1 false s1 ⟨fun h => (nomatch h), fun h => ?_⟩
            obtain ⟨y, e, _⟩ := isq h
            exact absurd e (hne y)
      · rw [decide_eq_false (fun h => h2 (by injection h with h; omega))]
        refine iteT ?_
        refine k H false (Same.refl _) ⟨fun h => (nomatch h), fun h => ?_⟩
        obtain ⟨c, q, e, _⟩ := IsQv.of ha h
        rw [e] at h2
        exact absurd rfl h2
    · refine ⟨_, rfl, _, _, .type t, .type "tuple", false, rfl, .ty "tuple", ty, kit_ty hk, _, rfl, ?_⟩
      refine iteT ?_
      exact k H false (Same.refl _) ⟨fun h => (nomatch h), fun ⟨a, q, e, ⟨c, h, _⟩, _⟩ => absurd h (hne a _ e)⟩
end
end Qk
set_option maxRecDepth 100000
set_option maxHeartbeats 4000000
namespace Qk
open PySem PySem.Spec PyProof.Rows L2
section
variable {P : Program} {w : World} {K : PySem.W.Frag} {mg : Str → Option Value} {base : Heap}
def spOdd : Sp := fun vs H Q _ => ∃ (b l : Addr), vs = [.ref b] ∧ Bag H b l ∧ ∀ (H' : Hp) (v : V), VA 12 H' (old H) 21 v → Bag H' b l → Kp b H H' → Q v H'
abbrev nOdd : List Str := ["_law_bag_here", "_law_some", "_law_deep", "_law_k"]
theorem scOdd : FnScope nOdd ["_law_bag_here"] (defScope sOdd) := ⟨rfl, rfl, rfl, by decide +kernel, rfl, by decide +kernel, by decide +kernel⟩
theorem ok_odd {f : Addr} {fd : FuncData} (F : Fun K "_law_odd" "_law_odd" sOdd f fd) (T : Txt K mg) (cO : Cal P w K mg base 2 "_law_one" ["_law_bag_here", "_law_some"] spOne) : FnOk P w K mg base CX0 3 f fd ["_law_bag_here"] spOdd := by
  refine F.ok scOdd (fun vs H Q E h => ?_) (fun cdv A outer s H vs Q E hr h => ?_)
  · obtain ⟨b, l, rfl, _⟩ := h
    rfl
  · obtain ⟨b, l, rfl, B, k⟩ := h
    have nd := scOdd.nd
    refine ⟨_, (pss_cons (ps_set (i := 1) nd rfl (by first | exact Or.inl rfl | exact Or.inr rfl) (pe_lst (show PA _ _ (tLits 12 2 17) from (pa_lits (pe_litC pe_non fl_non) (pa_lits (pe_litC pe_bl (fl_bl _)) (pa_lits (pe_litC pe_bl (fl_bl _)) (pa_lits (pe_litC pe_int (fl_int _)) (pa_lits (pe_litNeg pe_int) (pa_lits (pe_litC pe_int (fl_int _)) (pa_lits (pe_litC pe_str (fl_str (by decide) (fun _ => by decide +kernel))) (pa_lits (pe_litC pe_str (fl_str (by decide) (fun _ => by decide +kernel))) (pa_lits (pe_litC pe_str (fl_str (by decide) (fun _ => by decide +kernel))) (pa_lits (pe_litT pa_lits0) (pa_lits (pe_litL pa_lits0) (pa_lits pe_litD0 (pa_lits (pe_litT (pa_lits (pe_litC pe_str (fl_str (by decide) (fun _ => by decide +kernel))) pa_lits0)) (pa_lits (pe_litL (pa_lits (pe_litC pe_str (fl_str (by decide) (fun _ => by decide +kernel))) pa_lits0)) (pa_lits (pe_litT (pa_lits (pe_litC pe_str (fl_str (by decide) (fun _ => by decide +kernel))) (pa_lits (pe_litC pe_str (fl_str (by decide) (fun _ => by decide +kernel))) pa_lits0))) (pa_lits (pe_litT (pa_lits (pe_litC pe_str (fl_str (by decide) (fun _ => by decide +kernel))) (pa_lits (pe_litC pe_str (fl_str (by decide) (fun _ => by decide +kernel))) pa_lits0))) (pa_lits (pe_litT (pa_lits (pe_litC pe_str (fl_str (by decide) (fun _ => by decide +kernel))) (pa_lits (pe_litC pe_str (fl_str (by decide) (fun _ => by decide +kernel))) pa_lits0))) pa_lits0))))))))))))))))))))
      (pss_cons (ps_set (i := 1) nd rfl (by first | exact Or.inl rfl | exact Or.inr rfl) (pe_op op_cat (pv 1) (pe_lst (show PA _ _ (tLits 12 2 7) from (pa_lits (pe_litT (pa_lits (pe_litT (pa_lits (pe_litC pe_str (fl_str (by decide) (fun _ => by decide +kernel))) pa_lits0)) (pa_lits (pe_litC pe_str (fl_str (by decide) (fun _ => by decide +kernel))) pa_lits0))) (pa_lits (pe_litL (pa_lits (pe_litL (pa_lits (pe_litC pe_str (fl_str (by decide) (fun _ => by decide +kernel))) pa_lits0)) (pa_lits (pe_litC pe_str (fl_str (by decide) (fun _ => by decide +kernel))) pa_lits0))) (pa_lits (pe_litT (pa_lits (pe_litT (pa_lits (pe_litC pe_str (fl_str (by decide) (fun _ => by decide +kernel))) pa_lits0)) (pa_lits (pe_litC pe_str (fl_str (by decide) (fun _ => by decide +kernel))) pa_lits0))) (pa_lits (pe_litT (pa_lits (pe_litT pa_lits0) (pa_lits (pe_litC pe_str (fl_str (by decide) (fun _ => by decide +kernel))) pa_lits0))) (pa_lits (pe_litT (pa_lits (pe_litT pa_lits0) (pa_lits (pe_litC pe_str (fl_str (by decide) (fun _ => by decide +kernel))) pa_lits0))) (pa_lits (pe_litT (pa_lits (pe_litT (pa_lits (pe_litC pe_str (fl_str (by decide) (fun _ => by decide +kernel))) (pa_lits (pe_litC pe_str (fl_str (by decide) (fun _ => by decide +kernel))) pa_lits0))) (pa_lits (pe_litC pe_str (fl_str (by decide) (fun _ => by decide +kernel))) pa_lits0))) (pa_lits (pe_litT (pa_lits (pe_litT (pa_lits (pe_litC pe_str (fl_str (by decide) (fun _ => by decide +kernel))) (pa_lits (pe_litC pe_str (fl_str (by decide) (fun _ => by decide +kernel))) pa_lits0))) (pa_lits (pe_litC pe_str (fl_str (by decide) (fun _ => by decide +kernel))) pa_lits0))) pa_lits0)))))))))))
      (pss_cons (ps_set (i := 1) nd rfl (by first | exact Or.inl rfl | exact Or.inr rfl) (pe_op op_cat (pv 1) (pe_lst (show PA _ _ (tLits 12 2 6) from (pa_lits (pe_litT (pa_lits (pe_litT (pa_lits (pe_litC pe_str (fl_str (by decide) (fun _ => by decide +kernel))) pa_lits0)) (pa_lits (pe_litC pe_non fl_non) pa_lits0))) (pa_lits (pe_litT (pa_lits (pe_litC pe_str (fl_str (by decide) (fun _ => by decide +kernel))) (pa_lits (pe_litC pe_str (fl_str (by decide) (fun _ => by decide +kernel))) pa_lits0))) (pa_lits (pe_litT (pa_lits (pe_litT (pa_lits (pe_litC pe_str (fl_str (by decide) (fun _ => by decide +kernel))) pa_lits0)) (pa_lits (pe_litC pe_str (fl_str (by decide) (fun _ => by decide +kernel))) pa_lits0))) (pa_lits (pe_litT (pa_lits (pe_litT (pa_lits (pe_litC pe_str (fl_str (by decide) (fun _ => by decide +kernel))) pa_lits0)) (pa_lits (pe_litC pe_str (fl_str (by decide) (fun _ => by decide +kernel))) pa_lits0))) (pa_lits (pe_litT (pa_lits (pe_litT (pa_lits (pe_litC pe_str (fl_str (by decide) (fun _ => by decide +kernel))) pa_lits0)) (pa_lits (pe_litC pe_str (fl_str (by decide) (fun _ => by decide +kernel))) pa_lits0))) (pa_lits (pe_litT (pa_lits (pe_litT (pa_lits (pe_litC pe_str (fl_str (by decide) (fun _ => by decide +kernel))) (pa_lits (pe_litC pe_str (fl_str (by decide) (fun _ => by decide +kernel))) pa_lits0))) (pa_lits (pe_litC pe_str (fl_str (by decide) (fun _ => by decide +kernel))) pa_lits0))) pa_lits0))))))))))
      (pss_cons (ps_set (i := 1) nd rfl (by first | exact Or.inl rfl | exact Or.inr rfl) (pe_op op_cat (pv 1) (pe_lst (show PA _ _ (tLits 12 2 9) from (pa_lits (pe_litT (pa_lits (pe_litT (pa_lits (pe_litC pe_str (fl_str (by decide) (fun _ => by decide +kernel))) pa_lits0)) (pa_lits (pe_litC pe_str (fl_str (by decide) (fun _ => by decide +kernel))) (pa_lits (pe_litC pe_str (fl_str (by decide) (fun _ => by decide +kernel))) pa_lits0)))) (pa_lits (pe_litT (pa_lits (pe_litL (pa_lits (pe_litC pe_str (fl_str (by decide) (fun _ => by decide +kernel))) pa_lits0)) (pa_lits (pe_litC pe_str (fl_str (by decide) (fun _ => by decide +kernel))) pa_lits0))) (pa_lits (pe_litPow pe_int pe_int) (pa_lits (pe_litMul pe_str pe_int (by decide) (by decide) (by decide)) (pa_lits (pe_litD1 pe_str pe_int) (pa_lits (pe_litL (pa_lits (pe_litC pe_non fl_non) pa_lits0)) (pa_lits (pe_litL (pa_lits (pe_litL pa_lits0) pa_lits0)) (pa_lits (pe_litT (pa_lits (pe_litT pa_lits0) (pa_lits (pe_litC pe_non fl_non) pa_lits0))) (pa_lits (pe_litT (pa_lits (pe_litC pe_str (fl_str (by decide) (fun _ => by decide +kernel))) pa_lits0)) pa_lits0)))))))))))))
      (pss_cons (ps_expr (pe_bm PySem.F.plainAttrs_list PySem.F.slot_list_append PySem.F.type_list_append mt_append (pv 1) (pa_cons (show PE _ _ (tLit 12 2) from (pe_litT (pa_lits (pe_litT (pa_lits (pe_litC pe_str (fl_str (by decide) (fun _ => by decide +kernel))) pa_lits0)) (pa_lits (pe_litC pe_str (fl_str (by decide) (fun _ => by decide +kernel))) pa_lits0)))) pa_nil)))
      (pss_cons (ps_set (i := 2) nd rfl (by first | exact Or.inl rfl | exact Or.inr rfl) (show PE _ _ (tLit 12 1) from (pe_litT (pa_lits (pe_litC pe_str (fl_str (by decide) (fun _ => by decide +kernel))) pa_lits0))))
      (pss_cons (ps_for PassesOwn.never rfl (pi_range1 (by rfl) T.range (pa_cons pe_int pa_nil)) (pg_name (i := 3) nd rfl (by first | exact Or.inl rfl | exact Or.inr rfl)) (pss_one (ps_set (i := 2) nd rfl (by first | exact Or.inl rfl | exact Or.inr rfl) (pe_tup (pa_cons (pv 2) pa_nil)))))
      (pss_one (ps_ret (pe_call cO.G hr rfl cO.m cO.kp cO.b .nil pass0 (pa_cons (pv 0) (pa_cons (pe_op op_cat (pv 1) (pe_lst (pa_cons (pv 2) pa_nil))) pa_nil)))))))))))), ?_⟩
    have dead : ∀ {H1 : Hp}, Same H H1 → ∀ {p : Addr}, H1 p = none → Same H (upd H1 p (.lst [])) := fun s p hp => s.trans (same_new hp)
    refine fun H1 v1 s1 l1 w1 => ⟨by rw [l1, sizeLine_eq]; decide, fun p1 hp1 => ?_⟩
    have t1 := s1.trans (same_new (o := .lst v1) hp1)
    refine ⟨_, rfl, fun H2 v2 s2 l2 w2 => ⟨by rw [l2, sizeLine_eq]; decide, fun p2 hp2 => ?_⟩⟩
    have n2 := same_new (o := .lst v2) hp2
    have a1 := n2 _ _ (s2 _ _ (upd_same (H := H1) (a := p1) (o := .lst v1)))
    refine ⟨p1, p2, v1, v2, rfl, rfl, a1, upd_same, by rw [l1, l2, sizeLine_eq]; decide, fun p3 hp3 => ?_⟩
    have n3 := same_new (o := .lst (v1 ++ v2)) hp3
    have t3 := t1.trans (s2.trans (n2.trans n3))
    have q3 : ∀ v ∈ v1 ++ v2, VA 12 (upd (upd H2 p2 (.lst v2)) p3 (.lst (v1 ++ v2))) (old H) 2 v := fun v hv => by
      rcases List.mem_append.mp hv with h | h
      · exact VA.same ((same_new hp1).trans (s2.trans (n2.trans n3))) (w1 v h)
      · exact VA.older t1 (VA.same (n2.trans n3) (w2 v h))
    have a3 : (upd (upd H2 p2 (.lst v2)) p3 (.lst (v1 ++ v2))) p3 = some (.lst (v1 ++ v2)) := upd_same
    have l3 : (v1 ++ v2).length = 17 + 7 := by rw [List.length_append, l1, l2]
    generalize upd (upd H2 p2 (.lst v2)) p3 (.lst (v1 ++ v2)) = H3 at t3 q3 a3 ⊢
    generalize v1 ++ v2 = v3 at q3 a3 l3 ⊢
    refine ⟨_, rfl, fun H4 v4 s4 l4 w4 => ⟨by rw [l4, sizeLine_eq]; decide, fun p4 hp4 => ?_⟩⟩
    have n4 := same_new (o := .lst v4) hp4
    refine ⟨p3, p4, v3, v4, rfl, rfl, n4 _ _ (s4 _ _ a3), upd_same, by rw [l3, l4, sizeLine_eq]; decide, fun p5 hp5 => ?_⟩
    have n5 := same_new (o := .lst (v3 ++ v4)) hp5
    have t5 := t3.trans (s4.trans (n4.trans n5))
    have q5 : ∀ v ∈ v3 ++ v4, VA 12 (upd (upd H4 p4 (.lst v4)) p5 (.lst (v3 ++ v4))) (old H) 2 v := fun v hv => by
      rcases List.mem_append.mp hv with h | h
      · exact VA.same (s4.trans (n4.trans n5)) (q3 v h)
      · exact VA.older t3 (VA.same (n4.trans n5) (w4 v h))
    have a5 : (upd (upd H4 p4 (.lst v4)) p5 (.lst (v3 ++ v4))) p5 = some (.lst (v3 ++ v4)) := upd_same
    have l5 : (v3 ++ v4).length = 17 + 7 + 6 := by rw [List.length_append, l3, l4]
    generalize upd (upd H4 p4 (.lst v4)) p5 (.lst (v3 ++ v4)) = H5 at t5 q5 a5 ⊢
    generalize v3 ++ v4 = v5 at q5 a5 l5 ⊢
    refine ⟨_, rfl, fun H6 v6 s6 l6 w6 => ⟨by rw [l6, sizeLine_eq]; decide, fun p6 hp6 => ?_⟩⟩
    have n6 := same_new (o := .lst v6) hp6
    refine ⟨p5, p6, v5, v6, rfl, rfl, n6 _ _ (s6 _ _ a5), upd_same, by rw [l5, l6, sizeLine_eq]; decide, fun p7 hp7 => ?_⟩
    have n7 := same_new (o := .lst (v5 ++ v6)) hp7
    have t7 := t5.trans (s6.trans (n6.trans n7))
    have q7 : ∀ v ∈ v5 ++ v6, VA 12 (upd (upd H6 p6 (.lst v6)) p7 (.lst (v5 ++ v6))) (fun c => old H c ∨ c = p7) 2 v := fun v hv => by
      refine VA.fresh hp7 ?_
      rcases List.mem_append.mp hv with h | h
      · exact VA.same (s6.trans n6) (q5 v h)
      · exact VA.older t5 (VA.same n6 (w6 v h))
    have a7 : (upd (upd H6 p6 (.lst v6)) p7 (.lst (v5 ++ v6))) p7 = some (.lst (v5 ++ v6)) := upd_same
    have l7 : (v5 ++ v6).length = 17 + 7 + 6 + 9 := by rw [List.length_append, l5, l6]
    have p7H : H p7 = none := by
      cases e : H p7 with
      | none => rfl
      | some o => rw [n6 _ _ (s6 _ _ (t5 _ _ e))] at hp7; cases hp7
    generalize upd (upd H6 p6 (.lst v6)) p7 (.lst (v5 ++ v6)) = H7 at t7 q7 a7 ⊢
    generalize v5 ++ v6 = v7 at q7 a7 l7 ⊢
    refine ⟨_, rfl, .inl ⟨rfl, _, SqL.of a7⟩, fun H8 x8 s8 w8 => ?_⟩
    have a8 := s8 _ _ a7
    refine ⟨p7, v7, _, rfl, rfl, a8, small1000 (by rw [l7]; decide), ?_⟩
    -- p7 is changed
    have p7o : ¬ old H p7 := fun ⟨o, e⟩ => by rw [p7H] at e; cases e
    have s9 : Same H (upd H8 p7 (.lst (v7 ++ [x8]))) := fun c o hc => by
      rw [upd_ne fun e => by rw [e, p7H] at hc; cases hc]
      exact s8 _ _ (t7 _ _ hc)
    have q9 : ∀ v ∈ v7 ++ [x8], VA 12 (upd H8 p7 (.lst (v7 ++ [x8]))) (fun c => old H c ∨ c = p7) 2 v := fun v hv => by
      refine VA.keep (A := fun c => old H c ∨ c = p7) (H := H8) (fun c o e na => ⟨by rw [upd_ne fun ec => na (.inr ec)]; exact e, na⟩) ?_
      rcases List.mem_append.mp hv with h | h
      · exact VA.same s8 (q7 v h)
      · rw [List.mem_singleton.mp h]
        refine VA.keep (fun c o e na => ⟨e, ?_⟩) w8
        rintro (⟨o', h'⟩ | h')
        · exact na ⟨o', t7 _ _ h'⟩
        · exact na ⟨_, by rw [h']; exact a7⟩
    have a9 : (upd H8 p7 (.lst (v7 ++ [x8]))) p7 = some (.lst (v7 ++ [x8])) := upd_same
    have l9 : (v7 ++ [x8]).length = 17 + 7 + 6 + 9 + 1 := by rw [List.length_append, l7]; rfl
    generalize upd H8 p7 (.lst (v7 ++ [x8])) = H9 at s9 q9 a9 ⊢
    generalize v7 ++ [x8] = v9 at q9 a9 l9 ⊢
    -- the deep one
    refine fun H10 x10 s10 w10 => ?_
    have a10 := s10 _ _ a9
    have w10' : VA 12 H10 (fun c => old H c ∨ c = p7) 1 x10 := VA.keep (fun c o e na => ⟨e, by
      rintro (⟨o', h'⟩ | h')
      · exact na ⟨o', s9 _ _ h'⟩
      · exact na ⟨_, by rw [h']; exact a9⟩⟩) w10
    refine ⟨20, rfl, by decide, by decide, ?_⟩
    refine for_range (lo := 0) (n := 20) (fun i σ H' => ∃ v3 x, σ = [some (.ref b), some (.ref p7), some x, v3] ∧ Same H10 H' ∧ VA 12 H' (fun c => old H c ∨ c = p7) (i + 1) x) ⟨_, _, rfl, Same.refl _, w10'⟩ ?_ ?_
    · rintro i σ H11 hi ⟨v3, x, rfl, s11, wx⟩
      refine ⟨_, rfl, by show 1 ≤ sizeLine; decide, fun u hu => ?_⟩
      have nu := same_new (o := .tup [x]) hu
      refine ⟨_, _, rfl, s11.trans nu, .inr ⟨u, [x], rfl, ?_, .inr upd_same, by show 1 ≤ 12; decide, fun y hy => ?_⟩⟩
      · rintro (⟨o', h'⟩ | h')
        · rw [s11 _ _ (s10 _ _ (s9 _ _ h'))] at hu; cases hu
        · rw [h', s11 _ _ a10] at hu; cases hu
      · rw [List.mem_singleton.mp hy]
        exact VA.same nu wx
    · rintro σ H11 ⟨v3, x, rfl, s11, wx⟩
      have a11 := s11 _ _ a10
      refine ⟨_, rfl, _, rfl, _, rfl, by show 1 ≤ sizeLine; decide, fun u hu => ?_⟩
      have nu := same_new (o := .lst [x]) hu
      refine ⟨p7, u, v9, [x], rfl, rfl, nu _ _ a11, upd_same, by rw [l9, sizeLine_eq]; show _ + 1 ≤ _; decide, fun z hz => ?_⟩
      have nz := same_new (o := .lst (v9 ++ [x])) hz
      have s13 : Same H (upd (upd H11 u (.lst [x])) z (.lst (v9 ++ [x]))) := s9.trans (s10.trans (s11.trans (nu.trans nz)))
      have zb : z ≠ b := by
        obtain ⟨o, e⟩ := B.at_
        exact fun ez => by rw [ez, nu _ _ (s11 _ _ (s10 _ _ (s9 _ _ e)))] at hz; cases hz
      refine ⟨b, l, z, _, rfl, B.same s13, zb, upd_same, by intro e; have := congrArg List.length e; rw [List.length_append] at this; simp at this, by rw [List.length_append, l9]; show _ + 1 < _; decide, fun v H14 hv B14 k14 => ?_⟩
      refine k H14 v ?_ B14 ((Kp.of s13).trans k14)
      have wv : VA 12 (upd (upd H11 u (.lst [x])) z (.lst (v9 ++ [x]))) (fun c => old H c ∨ c = p7) 21 v := by
        refine VA.same (nu.trans nz) ?_
        rcases List.mem_append.mp hv with h | h
        · exact VA.le (by decide) (VA.same (s10.trans s11) (q9 v h))
        · rw [List.mem_singleton.mp h]
          exact wx
      refine VA.keep (fun c o e na => ?_) wv
      have nob : ¬ old H c := fun h => na (.inl h)
      refine ⟨k14 _ _ e fun ec => ?_, nob⟩
      obtain ⟨o', e'⟩ := B.at_
      exact nob ⟨o', by rw [ec]; exact e'⟩
end
end Qk
set_option maxRecDepth 100000
set_option maxHeartbeats 4000000
namespace Qk
open PySem PySem.Spec PyProof.Rows L2
section
variable {P : Program} {w : World} {K : PySem.W.Frag} {mg : Str → Option Value} {base : Heap}
theorem Flat.noSeq {H : Hp} {A : Addr → Prop} {x : V} (h : Flat H A x) : ∃ t : String, TyX K H x (.type t) ∧ kitB t "tuple" = some false ∧ kitB t "list" = some false := by
  rcases h with rfl | ⟨b, rfl⟩ | ⟨i, rfl⟩ | ⟨z, rfl, h1, h2⟩ | ⟨a, kvs, rfl, _, ha⟩
  · exact ⟨"NoneType", .base .non, by decide +kernel, by decide +kernel⟩
  · exact ⟨"bool", .base (.bl b), by decide +kernel, by decide +kernel⟩
  · exact ⟨"int", .base (.int i), by decide +kernel, by decide +kernel⟩
  · exact ⟨"str", .base (.str z), by decide +kernel, by decide +kernel⟩
  · exact ⟨"dict", .base (.dK ha), by decide +kernel, by decide +kernel⟩
def spBent (n : Nat) : Sp := fun vs H Q _ => ∃ (b l : Addr) (x : V) (A : Addr → Prop) (m : Nat), vs = [.ref b, x] ∧ Bag H b l ∧ A b ∧ Out H A ∧ VA m H A n x ∧ 12 ≤ m ∧ m ≤ 30 ∧ ∀ (H' : Hp) (v : V), VA (m + 1) H' A (n + 21) v → Bag H' b l → Kp b H H' → Q v H'
abbrev nBent : List Str := ["_law_bag_here", "_law_thing", "_law_way", "_law_found", "_law_at"]
theorem scBent : FnScope nBent ["_law_bag_here", "_law_thing"] (defScope sBent) := ⟨rfl, rfl, rfl, by decide +kernel, rfl, by decide +kernel, by decide +kernel⟩
def BJ (b l a : Addr) (j q M N L : Nat) (A : Addr → Prop) (H1 : Hp) (g : Prop) (σ : L2.St) (H' : Hp) : Prop := ∃ (p : Addr) (ys : List V), σ = [some (.ref b), some (.ref a), some (.int (j : Int)), some (.ref p), some (.int (q : Int))] ∧ H1 p = none ∧ H' p = some (.lst ys) ∧ ys.length ≤ L ∧ (g → q < ys.length) ∧ Bag H' b l ∧ Kp b H1 H' ∧ p ≠ b ∧ ∀ y ∈ ys, VA M H' (fun c => A c ∨ c = p) N y
theorem bj_put {b l p : Addr} {M N : Nat} {A : Addr → Prop} {H2 H5 : Hp} {o : HO} (hp : H2 p = none) (npb : p ≠ b) (npl : p ≠ l) (B5 : Bag H5 b l) (k : Kp b H2 H5) : Bag (upd H5 p o) b l ∧ Kp b H2 (upd H5 p o) ∧ ∀ y, VA M H5 (fun c => A c ∨ c = p) N y → VA M (upd H5 p o) (fun c => A c ∨ c = p) N y :=
  ⟨B5.upd npb.symm npl.symm, fun c u hc nb => by
    rw [upd_ne (ne_of_none hc hp)]
    exact k c u hc nb, fun y hy => VA.keep (fun c u e na => ⟨by rw [upd_ne fun ec => na (.inr ec)]; exact e, na⟩) hy⟩
theorem bent_step {f : Addr} {fd : FuncData} {n kk : Nat} {spR : Sp} (F : Fun K "_law_bent" "_law_bent" sBent f fd) (T : Txt K mg) (cT : Cal P w K mg base 1 "_law_take" ["_law_bag_here", "_law_upto"] spTake) (cO : Cal P w K mg base 3 "_law_odd" ["_law_bag_here"] spOdd)
    (cR : Cal P w K mg base kk "_law_bent" ["_law_bag_here", "_law_thing"] spR) (hk3 : 3 ≤ kk) (hR : ∀ m, n = m + 1 → ∀ vs H Q, spBent m vs H Q E0 → spR vs H Q E0) : FnOk P w K mg base CX0 (kk + 1) f fd ["_law_bag_here", "_law_thing"] (spBent n) := by
  refine F.ok scBent (fun vs H Q E h => ?_) (fun cdv AA outer s H vs Q E hr h => ?_)
  · obtain ⟨b, l, x, A, m, rfl, _⟩ := h
    rfl
  · obtain ⟨b, l, x, A, m, rfl, B, Ab, oA, hx, hm1, hm2, k⟩ := h
    have nd := scBent.nd
    have hr1 : Room 1 _ := hr.mono (by omega)
    have hr3 : Room 3 _ := hr.mono (by omega)
    refine ⟨_, (pss_cons (ps_set (i := 2) nd rfl (by first | exact Or.inl rfl | exact Or.inr rfl) (pe_call cT.G hr1 rfl cT.m cT.kp cT.b .nil pass0 (pa_cons (pv 0) (pa_cons pe_int pa_nil))))
      (pss_cons (ps_if (PW.pt (pw_or (pt_cmpR op_eq (pv 2) pe_int (nomark _)) (pw_or (pt_not (pt_val (pe_callB call_isiT (by rfl) T.isinstance (by decide +kernel) (pa_cons (pv 1) (pa_cons (pe_tup (pa_cons (pe_bltn (v := .ty "tuple") (by rfl) T.tuple (by decide +kernel) rfl) (pa_cons (pe_bltn (v := .ty "list") (by rfl) T.list (by decide +kernel) rfl) pa_nil))) pa_nil))))) (pw_or1 (pt_cmpR op_eq (pe_callB call_len_seq (by rfl) T.len PySem.boot_len (pa_cons (pv 1) pa_nil)) pe_int (nomark _)))))) (pss_one (ps_ret (pe_call cO.G hr3 rfl cO.m cO.kp cO.b .nil pass0 (pa_cons (pv 0) pa_nil)))) pss_nil)
      (pss_cons (ps_par (i := 3) (j := 4) rfl nd rfl rfl (by decide) rfl rfl (pa_cons (pe_callTy call_list_of (by rfl) T.list (by decide +kernel) (pa_cons (pv 1) pa_nil)) (pa_cons (pe_call cT.G hr1 rfl cT.m cT.kp cT.b .nil pass0 (pa_cons (pv 0) (pa_cons (pe_callB call_len_seq (by rfl) T.len PySem.boot_len (pa_cons (pv 1) pa_nil)) pa_nil))) pa_nil)) rfl)
      (Evl.pss_cut (ps_if (pt_cmpR op_lt (pv 2) pe_int (nomark _)) (pss_one (ps_asg (pe_call cR.G hr rfl cR.m cR.kp cR.b .nil pass0 (pa_cons (pv 0) (pa_cons (pe_ix ix_list (pv 3) (pv 4) fun _ _ => rfl) pa_nil))) (pg_sub (pv 3) (pv 4) set_list))) pss_nil)
      (Evl.pss_cut (ps_if (pt_cmpR op_eq (pv 2) pe_int (nomark _)) (pss_one (ps_expr (pe_bm PySem.F.plainAttrs_list PySem.F.slot_list_pop PySem.F.type_list_pop mt_popAt (pv 3) (pa_cons (pv 4) pa_nil)))) pss_nil)
      (Evl.pss_cut (ps_if (pt_cmpR op_eq (pv 2) pe_int (nomark _)) (pss_one (ps_expr (pe_bm PySem.F.plainAttrs_list PySem.F.slot_list_insert PySem.F.type_list_insert mt_insert (pv 3) (pa_cons (pv 4) (pa_cons (pe_ix ix_list (pv 3) (pv 4) fun _ _ => rfl) pa_nil))))) pss_nil)
      (Evl.pss_cut (ps_if (pt_cmpR op_eq (pv 2) pe_int (nomark _)) (pss_one (ps_set (i := 3) nd rfl (by first | exact Or.inl rfl | exact Or.inr rfl) (pe_revL (pv 3)))) pss_nil)
      (pss_cons (ps_if (pt_cmpR op_eq (pv 2) pe_int (nomark _)) (pss_one (ps_ret (pe_ifExp (pt_val (pe_callB call_isi (by rfl) T.isinstance (by decide +kernel) (pa_cons (pv 1) (pa_cons (pe_bltn (v := .ty "list") (by rfl) T.list (by decide +kernel) rfl) pa_nil)))) (pe_callTy call_tuple_of (by rfl) T.tuple (by decide +kernel) (pa_cons (pv 3) pa_nil)) (pv 3)))) pss_nil)
      (pss_one (ps_ret (pe_ifExp (pt_val (pe_callB call_isi (by rfl) T.isinstance (by decide +kernel) (pa_cons (pv 1) (pa_cons (pe_bltn (v := .ty "list") (by rfl) T.list (by decide +kernel) rfl) pa_nil)))) (pv 3) (pe_callTy call_tuple_of (by rfl) T.tuple (by decide +kernel) (pa_cons (pv 3) pa_nil))))))))))))), ?_⟩
    refine ⟨_, rfl, b, l, 8, rfl, B, by decide, by decide, fun j H1 hj B1 k1 => ?_⟩
    have hA1 : ∀ c o, H c = some o → ¬ A c → H1 c = some o := fun c o e na => k1 c o e fun ec => na (by rw [ec]; exact Ab)
    have hx1 : VA m H1 A n x := VA.keep (fun c o e na => ⟨hA1 c o e na, na⟩) hx
    have oA1 : Out H1 A := fun c hc => by
      obtain ⟨o, e⟩ := oA c hc
      by_cases ec : c = b
      · obtain ⟨o', e'⟩ := B1.at_
        exact ⟨o', by rw [ec]; exact e'⟩
      · exact ⟨o, k1 _ _ e ec⟩
    -- odd
    have odd : ∀ {H2 : Hp}, Same H1 H2 → spOdd ([V.ref b] ++ []) H2 Q E0 := fun {H2} s => ⟨b, l, rfl, B1.same s, fun H' v hv B' k' => by
      refine k H' v ?_ B' (k1.trans ((Kp.of s).trans k'))
      refine VA.wide (by omega) (VA.le (by omega) (VA.keep (fun c o e na => ⟨e, fun ha => ?_⟩) hv))
      obtain ⟨o', e'⟩ := oA1 c ha
      exact na ⟨o', s _ _ e'⟩⟩
    refine ⟨_, rfl, rfl, _, rfl, ?_⟩
    show if decide (V.int (j : Int) = V.int 0) = true then _ else _
    by_cases j0 : j = 0
    · rw [decide_eq_true (by rw [j0]; rfl)]
      refine iteT ?_
      refine iteT ?_
      exact ⟨_, rfl, odd (Same.refl _)⟩
    rw [decide_eq_false (fun h => j0 (by injection h with h; omega))]
    refine iteF ?_
    refine ⟨_, rfl, by show 2 ≤ sizeLine; decide, fun tp htp => ?_⟩
    have s2 := same_new (o := .tup [.ty "tuple", .ty "list"]) htp
    have flat : Flat H1 A x → ∃ t : String, TyX K (upd H1 tp (.tup [.ty "tuple", .ty "list"])) x (.type t) ∧ PySem.W.kitAny K (.type t) [.type "tuple", .type "list"] = some false := fun h => by
      obtain ⟨t, ty, k1, k2⟩ := Flat.noSeq (K := K) (Flat.keep (fun c o e na => ⟨s2 c o e, na⟩) h)
      exact ⟨t, ty, kitAny_cons (b := false) (kit_ty k1) (fun _ => kitAny_cons (b := false) (kit_ty k2) (fun _ => rfl) (fun h => nomatch h)) (fun h => nomatch h)⟩
    have hfl : Flat H1 A x ∨ ∃ n', n = n' + 1 ∧ ∃ a xs, x = .ref a ∧ ¬ A a ∧ (H1 a = some (.lst xs) ∨ H1 a = some (.tup xs)) ∧ xs.length ≤ m ∧ ∀ y ∈ xs, VA m H1 A n' y := by
      cases n with
      | zero => exact .inl hx1
      | succ n' =>
        rcases hx1 with h | h
        · exact .inl h
        · exact .inr ⟨n', rfl, h⟩
    rcases hfl with hf | ⟨n', rfl, a, xs, rfl, na, ha1, hl, hxs⟩
    · obtain ⟨t, ty, kk⟩ := flat hf
      refine ⟨_, tp, _, .type t, [.type "tuple", .type "list"], false, rfl, upd_same, .cons (.ty "tuple") (.cons (.ty "list") .nil), ty, kk, _, rfl, ?_⟩
      refine iteT ?_
      exact ⟨_, rfl, odd s2⟩
    have ha2 : (upd H1 tp (.tup [.ty "tuple", .ty "list"])) a = some (.lst xs) ∨ (upd H1 tp (.tup [.ty "tuple", .ty "list"])) a = some (.tup xs) := ha1.imp (s2 _ _) (s2 _ _)
    have hisT : ∃ t : String, TyX K (upd H1 tp (.tup [.ty "tuple", .ty "list"])) (.ref a) (.type t) ∧ PySem.W.kitAny K (.type t) [.type "tuple", .type "list"] = some true ∧ (t = "list" ∨ t = "tuple") := by
      rcases ha2 with h | h
      · exact ⟨"list", .base (.lst h), kitAny_cons (b := false) (kit_ty (by decide +kernel)) (fun _ => kitAny_cons (b := true) (kit_ty (by decide +kernel)) (fun h => nomatch h) (fun _ => rfl)) (fun h => nomatch h), .inl rfl⟩
      · exact ⟨"tuple", .base (.tup h), kitAny_cons (b := true) (kit_ty (by decide +kernel)) (fun h => nomatch h) (fun _ => rfl), .inr rfl⟩
    obtain ⟨t, ty, kk, _⟩ := hisT
    refine ⟨_, tp, _, .type t, [.type "tuple", .type "list"], true, rfl, upd_same, .cons (.ty "tuple") (.cons (.ty "list") .nil), ty, kk, _, rfl, ?_⟩
    refine iteF ?_
    have sq2 : ∀ {H3 : Hp}, (H3 a = some (.lst xs) ∨ H3 a = some (.tup xs)) → SqL K H3 a xs ∨ SqT K H3 a xs := fun h => h.imp SqL.of SqT.of
    refine ⟨_, rfl, a, xs, rfl, sq2 ha2, rfl, _, rfl, ?_⟩
    show if decide (V.int (xs.length : Int) = V.int 0) = true then _ else _
    by_cases l0 : xs.length = 0
    · rw [decide_eq_true (by rw [l0]; rfl)]
      refine iteT ?_
      exact ⟨_, rfl, odd s2⟩
    rw [decide_eq_false (fun h => l0 (by injection h with h; omega))]
    refine iteF ?_
    have B2 := B1.same s2
    have oA2 : Out (upd H1 tp (.tup [.ty "tuple", .ty "list"])) A := fun c hc => by
      obtain ⟨o, e⟩ := oA1 c hc
      exact ⟨o, s2 _ _ e⟩
    have hxs2 : ∀ y ∈ xs, VA m (upd H1 tp (.tup [.ty "tuple", .ty "list"])) A n' y := fun y hy => VA.same s2 (hxs y hy)
    have k2 : Kp b H (upd H1 tp (.tup [.ty "tuple", .ty "list"])) := k1.trans (Kp.of s2)
    clear odd flat hxs hx1 oA1 hA1 s2
    generalize upd H1 tp (.tup [.ty "tuple", .ty "list"]) = H2 at ha2 sq2 B2 oA2 hxs2 k2 ⊢
    have nab : a ≠ b := fun e => na (by rw [e]; exact Ab)
    refine ⟨_, rfl, a, xs, rfl, sq2 ha2, fun p hp => ?_⟩
    have s3 := same_new (o := .lst xs) hp
    have npb : p ≠ b := B2.ne hp
    have ha3 := ha2.imp (s3 _ _) (s3 _ _)
    have B3 : Bag (upd H2 p (.lst xs)) b l := B2.same s3
    refine ⟨_, rfl, _, rfl, a, xs, rfl, sq2 ha3, b, l, _, rfl, B3, by omega, by omega, fun q H4 hq B4 k4 => ?_⟩
    have hql : q < xs.length := by omega
    refine ⟨_, _, rfl, ?_⟩
    have ha4 : H4 a = some (.lst xs) ∨ H4 a = some (.tup xs) := ha3.imp (fun h => k4 _ _ h nab) (fun h => k4 _ _ h nab)
    have hp4 : H4 p = some (.lst xs) := k4 _ _ upd_same npb
    have k24 : Kp b H2 H4 := (Kp.new hp).trans k4
    have hxs4 : ∀ y ∈ xs, VA m H4 (fun c => A c ∨ c = p) n' y := fun y hy => VA.keep (A := fun c => A c ∨ c = p) (H := upd H2 p (.lst xs)) (fun c o e na => ⟨k4 _ _ e fun ec => na (.inl (by rw [ec]; exact Ab)), na⟩) (VA.fresh hp (hxs2 y hy))
    have pA : ¬ A p := fun h => by
      obtain ⟨o, e⟩ := oA2 p h
      rw [hp] at e
      cases e
    refine ⟨BJ b l a j q (m + 1) (n' + 21) m A H2 True, ?_, ?_⟩
    · refine ⟨_, rfl, _, _, rfl, rfl, _, rfl, ?_⟩
      refine ite2 (fun hc => ?_) (fun _ => ?_)
      · refine ⟨_, rfl, _, rfl, _, rfl, p, xs, (q : Int), xs[q], rfl, rfl, SqL.of hp4, atI_nat (List.getElem?_eq_getElem hql), ?_⟩
        refine hR n' rfl _ _ _ ⟨b, l, xs[q], fun c => A c ∨ c = p, m, rfl, B4, .inl Ab, ?_, hxs4 _ (List.getElem_mem hql), hm1, hm2, fun H5 v hv B5 k5 => ?_⟩
        · rintro c (hc | rfl)
          · obtain ⟨o, e⟩ := oA2 c hc
            by_cases ec : c = b
            · obtain ⟨o', e'⟩ := B4.at_
              exact ⟨o', by rw [ec]; exact e'⟩
            · exact ⟨o, k24 _ _ e ec⟩
          · exact ⟨_, hp4⟩
        have hp5 := k5 _ _ hp4 npb
        refine ⟨_, rfl, _, rfl, ?_⟩
        refine setIx q hp5 hql ?_
        obtain ⟨B6, k6, v6⟩ := bj_put (M := m + 1) (N := n' + 21) (A := A) (o := .lst (xs.set q v)) hp npb (B2.nel hp).symm B5 (k24.trans k5)
        refine ⟨p, xs.set q v, rfl, hp, upd_same, by rw [List.length_set]; exact hl, fun _ => by rw [List.length_set]; exact hql, B6, k6, npb, fun y hy => v6 y ?_⟩
        rcases List.mem_or_eq_of_mem_set hy with h | rfl
        · exact VA.wide (by omega) (VA.le (by omega) (VA.keep (A := fun c => A c ∨ c = p) (H := H4) (fun c o e na => ⟨k5 _ _ e fun ec => na (.inl (by rw [ec]; exact Ab)), na⟩) (hxs4 y h)))
        · exact hv
      · exact ⟨p, xs, rfl, hp, hp4, hl, fun _ => hql, B4, k24, npb, fun y hy => VA.wide (by omega) (VA.le (by omega) (hxs4 y hy))⟩
    · rintro σ5 H5 ⟨p, ys, rfl, hp, hp5, hl5, hq5, B5, k25, npb, hy5⟩
      refine ⟨BJ b l a j q (m + 1) (n' + 21) m A H2 (j = 5), ?_, ?_⟩
      · refine ⟨_, rfl, rfl, _, rfl, ?_⟩
        show if decide (V.int (j : Int) = V.int 4) = true then _ else _
        by_cases j4 : j = 4
        · rw [decide_eq_true (by rw [j4]; rfl)]
          refine iteT ?_
          have hq' := hq5 trivial
          refine ⟨_, rfl, .inl ⟨rfl, _, SqL.of hp5⟩, _, rfl, p, ys, (q : Int), q, ys[q], rfl, rfl, hp5, by omega, by omega, by rw [seqIndex_of (by omega) (by omega)]; rfl, List.getElem?_eq_getElem hq', ?_⟩
          obtain ⟨B6, k6, v6⟩ := bj_put (M := m + 1) (N := n' + 21) (A := A) (o := .lst (ys.eraseIdx q)) hp npb (B2.nel hp).symm B5 k25
          exact ⟨p, ys.eraseIdx q, rfl, hp, upd_same, Nat.le_trans (List.length_eraseIdx_le ..) hl5, fun h => by omega, B6, k6, npb, fun y hy => v6 y (hy5 y (List.mem_of_mem_eraseIdx hy))⟩
        · rw [decide_eq_false (fun h => j4 (by injection h with h; omega))]
          refine iteF ?_
          exact ⟨p, ys, rfl, hp, hp5, hl5, fun _ => hq5 trivial, B5, k25, npb, hy5⟩
      · rintro σ6 H6 ⟨p, ys, rfl, hp, hp6, hl6, hq6, B6, k26, npb, hy6⟩
        refine ⟨BJ b l a j q (m + 1) (n' + 21) (m + 1) A H2 False, ?_, ?_⟩
        · refine ⟨_, rfl, rfl, _, rfl, ?_⟩
          show if decide (V.int (j : Int) = V.int 5) = true then _ else _
          by_cases j5 : j = 5
          · rw [decide_eq_true (by rw [j5]; rfl)]
            refine iteT ?_
            have hq' := hq6 j5
            refine ⟨_, rfl, .inl ⟨rfl, _, SqL.of hp6⟩, _, rfl, _, rfl, _, rfl, p, ys, (q : Int), ys[q], rfl, rfl, SqL.of hp6, atI_nat (List.getElem?_eq_getElem hq'), p, ys, (q : Int), ys[q], rfl, rfl, hp6, Nat.lt_of_lt_of_le (show ys.length < 1000 by omega) (by rw [sizeLine_eq]; decide), by omega, by omega, ?_⟩
            obtain ⟨B7, k7, v7⟩ := bj_put (M := m + 1) (N := n' + 21) (A := A) (o := .lst (ys.take q ++ [ys[q]] ++ ys.drop q)) hp npb (B2.nel hp).symm B6 k26
            refine ⟨p, ys.take q ++ [ys[q]] ++ ys.drop q, rfl, hp, upd_same, by simp; omega, fun h => h.elim, B7, k7, npb, fun y hy => v7 y (hy6 y ?_)⟩
            rcases List.mem_append.mp hy with h | h
            · rcases List.mem_append.mp h with h | h
              · exact List.mem_of_mem_take h
              · rw [List.mem_singleton.mp h]
                exact List.getElem_mem hq'
            · exact List.mem_of_mem_drop h
          · rw [decide_eq_false (fun h => j5 (by injection h with h; omega))]
            refine iteF ?_
            exact ⟨p, ys, rfl, hp, hp6, by omega, fun h => h.elim, B6, k26, npb, hy6⟩
        · rintro σ7 H7 ⟨p, ys, rfl, hp, hp7, hl7, _, B7, k27, npb, hy7⟩
          refine ⟨BJ b l a j q (m + 1) (n' + 21) (m + 1) A H2 False, ?_, ?_⟩
          · refine ⟨_, rfl, rfl, _, rfl, ?_⟩
            show if decide (V.int (j : Int) = V.int 6) = true then _ else _
            by_cases j6 : j = 6
            · rw [decide_eq_true (by rw [j6]; rfl)]
              refine iteT ?_
              refine ⟨_, rfl, p, ys, rfl, SqL.of hp7, fun r hr => ?_⟩
              have nrb : r ≠ b := B7.ne hr
              have hr2 : H2 r = none := by
                cases e : H2 r with
                | none => rfl
                | some o => rw [k27 _ _ e nrb] at hr; cases hr
              refine ⟨r, ys.reverse, rfl, hr2, upd_same, by rw [List.length_reverse]; exact hl7, fun h => h.elim, B7.new hr, k27.trans (Kp.new hr), nrb, fun y hy => ?_⟩
              refine VA.keep (fun c o e na => ⟨by rw [upd_ne (ne_of_none e hr)]; exact e, ?_⟩) (hy7 y (List.mem_reverse.mp hy))
              rintro (h | h)
              · exact na (.inl h)
              · exact ne_of_none e hr h
            · rw [decide_eq_false (fun h => j6 (by injection h with h; omega))]
              refine iteF ?_
              exact ⟨p, ys, rfl, hp, hp7, hl7, fun h => h.elim, B7, k27, npb, hy7⟩
          · rintro σ8 H8 ⟨p, ys, rfl, hp, hp8, hl8, _, B8, k28, npb, hy8⟩
            have ha8 : H8 a = some (.lst xs) ∨ H8 a = some (.tup xs) := ha2.imp (fun h => k28 _ _ h nab) (fun h => k28 _ _ h nab)
            have pA8 : ¬ A p := fun h => by
              obtain ⟨o, e⟩ := oA2 p h
              rw [hp] at e
              cases e
            have it8 : ∀ y ∈ ys, VA (m + 1) H8 A (n' + 21) y := fun y hy => VA.keep (fun c o e na => ⟨e, fun h => na (.inl h)⟩) (hy8 y hy)
            have finL : Q (.ref p) H8 := k H8 (.ref p) (.inr ⟨p, ys, rfl, pA8, .inl hp8, hl8, it8⟩) B8 (k2.trans k28)
            have finT : ∀ r, H8 r = none → Q (.ref r) (upd H8 r (.tup ys)) := fun r hr => by
              have nA : ¬ A r := fun h => by
                obtain ⟨o, e⟩ := oA2 r h
                rw [k28 _ _ e (B8.ne hr)] at hr
                cases hr
              exact k _ (.ref r) (.inr ⟨r, ys, rfl, nA, .inr upd_same, hl8, fun y hy => VA.same (same_new hr) (it8 y hy)⟩) (B8.new hr) ((k2.trans k28).trans (Kp.new hr))
            refine ⟨_, rfl, rfl, _, rfl, ?_⟩
            show if decide (V.int (j : Int) = V.int 7) = true then _ else _
            have isl : ∃ (t : String) (bb : Bool), TyX K H8 (.ref a) (.type t) ∧ PySem.W.kitOne K (.type t) (.type "list") = some bb := by
              rcases ha8 with h | h
              · exact ⟨"list", true, .base (.lst h), kit_ty (by decide +kernel)⟩
              · exact ⟨"tuple", false, .base (.tup h), kit_ty (by decide +kernel)⟩
            obtain ⟨t', bb, ty', kk'⟩ := isl
            by_cases j7 : j = 7
            · rw [decide_eq_true (by rw [j7]; rfl)]
              refine iteT ?_
              refine ⟨_, rfl, _, _, .type t', .type "list", bb, rfl, .ty "list", ty', kk', _, rfl, ?_⟩
              cases bb with
              | true =>
                refine iteT ?_
                exact ⟨_, rfl, p, ys, rfl, .inl ⟨SqL.of hp8, finT⟩⟩
              | false =>
                refine iteF ?_
                exact ⟨_, rfl, finL⟩
            · rw [decide_eq_false (fun h => j7 (by injection h with h; omega))]
              refine iteF ?_
              refine ⟨_, rfl, _, _, .type t', .type "list", bb, rfl, .ty "list", ty', kk', _, rfl, ?_⟩
              cases bb with
              | true =>
                refine iteT ?_
                exact ⟨_, rfl, finL⟩
              | false =>
                refine iteF ?_
                exact ⟨_, rfl, p, ys, rfl, .inl ⟨SqL.of hp8, finT⟩⟩
theorem ok_bent {f : Addr} {fd : FuncData} (F : Fun K "_law_bent" "_law_bent" sBent f fd) (T : Txt K mg) (cT : Cal P w K mg base 1 "_law_take" ["_law_bag_here", "_law_upto"] spTake) (cO : Cal P w K mg base 3 "_law_odd" ["_law_bag_here"] spOdd)
    (hm : mg "_law_bent" = some (.ref f)) (kp : PySem.W.keepIn K (.ref f) = true) (bd : Binds K fd ["_law_bag_here", "_law_thing"] []) : ∀ n, FnOk P w K mg base CX0 (4 + n) f fd ["_law_bag_here", "_law_thing"] (spBent n)
  | 0 => bent_step (kk := 3) (spR := fun _ _ _ _ => False) F T cT cO ⟨f, fd, F.ok scBent (fun vs H Q E h => h.elim) (fun cdv AA outer s H vs Q E hr h => h.elim), hm, kp, bd⟩ (by decide) (fun m e => by omega)
  | n + 1 => bent_step (kk := 4 + n) (spR := spBent n) F T cT cO ⟨f, fd, ok_bent F T cT cO hm kp bd n, hm, kp, bd⟩ (by omega) (fun m e vs H Q h => by
      have : n = m := by omega
      rw [this]
      exact h)
end
end Qk
set_option maxRecDepth 100000
set_option maxHeartbeats 4000000
namespace Qk
open PySem PySem.Spec PyProof.Rows L2
section
variable {P : Program} {w : World} {K : PySem.W.Frag} {mg : Str → Option Value} {base : Heap}
theorem scRow : FnScope ["question", "columns", "last"] ["question"] (defScope sRow) := ⟨rfl, rfl, rfl, by decide +kernel, rfl, by decide +kernel, by decide +kernel⟩
theorem ok_row {f : Addr} {fd : FuncData} (F : Fun K "row_of" "row_of" sRow f fd) (T : Txt K mg) : FnOk P w K mg base CX0 1 f fd ["question"] spRow := by
  refine F.ok scRow (fun vs H Q E h => ?_) (fun cdv A outer s H vs Q E hr h => ?_)
  · obtain ⟨q, cols, e, rfl, _⟩ := h
    rfl
  · obtain ⟨q, cols, e, rfl, ⟨c, hq, hc⟩, Z, k⟩ := h
    have nd := scRow.nd
    refine ⟨_, pss_cons (ps_asg (pv 0) (pg_tup (by rfl) (pgs_cons (pg_name (i := 1) nd rfl (Or.inl rfl)) (pgs_cons (pg_name (i := 2) nd rfl (Or.inl rfl)) pgs_nil))))
      (pss_cons (ps_if (pt_cmpR op_eq (pv 2) pe_str (nomark _)) (pss_one (ps_ret (pv 1))) pss_nil)
      (pss_one (ps_ret (pe_tup (StX.pa_star (pv 1) (pa_cons (pv 2) pa_nil)))))), ?_⟩
    refine ⟨_, rfl, q, _, rfl, SqT.of hq, rfl, _, _, rfl, _, _, rfl, rfl, _, rfl, rfl, _, rfl, ?_⟩
    by_cases he : e = ""
    · rw [decide_eq_true (congrArg V.str he)]
      refine iteT ?_
      refine ⟨_, rfl, k c H (Same.refl _) ?_⟩
      unfold rowC
      rw [if_pos he]
      exact hc
    · rw [decide_eq_false (fun h => he (by injection h))]
      refine iteF ?_
      have hz := Z.le
      rw [if_neg he] at hz
      refine ⟨_, rfl, c, _, rfl, .inl (SqT.of hc), _, rfl, ?_, fun d1 hd1 => ?_⟩
      · show (cols.map V.str ++ [V.str e]).length ≤ sizeLine
        rw [List.length_append, List.length_map, sizeLine_eq]
        simp
        omega
      refine k d1 _ (same_new hd1) ?_
      unfold rowC
      rw [if_neg he, List.map_append]
      exact upd_same
theorem scCols : FnScope ["question"] ["question"] (defScope sCols) := ⟨rfl, rfl, rfl, by decide +kernel, rfl, by decide +kernel, by decide +kernel⟩
theorem ok_cols {f : Addr} {fd : FuncData} (F : Fun K "columns_of" "columns_of" sCols f fd) (T : Txt K mg) (cR : Cal P w K mg base 1 "row_of" ["question"] spRow) : FnOk P w K mg base CX0 2 f fd ["question"] spCols := by
  refine F.ok scCols (fun vs H Q E h => ?_) (fun cdv A outer s H vs Q E hr h => ?_)
  · obtain ⟨q, cols, e, rfl, _⟩ := h
    rfl
  · obtain ⟨q, cols, e, rfl, hq, Z, k⟩ := h
    refine ⟨_, pss_one (ps_ret (pe_callTy call_tuple_of (by rfl) T.tuple (by decide +kernel) (pa_cons (pe_callB cr_sortedST (by rfl) T.sorted (by decide +kernel)
      (pa_cons (pe_call cR.G hr rfl cR.m cR.kp cR.b .nil pass0 (pa_cons (pv 0) pa_nil)) pa_nil)) pa_nil))), ?_⟩
    refine ⟨_, rfl, q, cols, e, rfl, hq, Z, fun t H1 s1 ht => ⟨t, rowC cols e, rfl, .inr (SqT.of ht), by have := Z.row_le; omega, fun us d2 hu2 hs2 hd2 => ⟨d2, _, rfl, .inl ⟨SqL.of upd_same, fun d3 hd3 => ?_⟩⟩⟩⟩
    refine k d3 _ (s1.trans ((same_new hd2).trans (same_new hd3))) ?_
    have eu : us = allC cols e := by
      rw [srt_eq hu2 hs2]
      unfold allC rowC
      split
      · exact srt_self Z.m.srt
      · rfl
    rw [eu]
    exact upd_same
def spIsQ : Sp := fun vs H Q _ => ∃ (q : Addr) (cols : List Str) (e : Str), vs = [.ref q] ∧ QAt H q cols e ∧ QZ cols e ∧ ∀ H', Same H H' → Q (.bl true) H'
theorem esz {cols : List Str} {e : Str} (Z : QZ cols e) : e.cps.size ≤ 1000 ∧ PyData.strOk e = true := by
  rcases Z.m.esub with rfl | h
  · exact ⟨by decide, by decide +kernel⟩
  · exact ⟨menu_sz _ h, menu_ok _ h⟩
/-- a question of the menu as a value of any kind -/
theorem spv_q {H : Hp} {t : Addr} {cols : List Str} {e : Str} (h : QAt H t cols e) (Z : QZ cols e) : SpV H (.ref t) := by
  obtain ⟨c, h1, h2⟩ := h
  refine ⟨fun _ => False, 2, .inr ⟨t, _, rfl, id, .inr h1, by show 2 ≤ 40; decide, fun y hy => ?_⟩⟩
  rcases List.mem_cons.mp hy with rfl | hy
  · refine .inr ⟨c, _, rfl, id, .inr h2, by rw [List.length_map]; exact Nat.le_trans Z.m.le (by decide), fun y hy => ?_⟩
    obtain ⟨z, hz, rfl⟩ := List.mem_map.mp hy
    exact fl_str (Nat.le_trans (menu_sz _ (Z.m.sub _ hz)) (by decide)) (fun _ => menu_ok _ (Z.m.sub _ hz)) H _
  · rw [List.mem_singleton.mp hy]
    exact (fl_str (Nat.le_trans (esz Z).1 (by decide)) (fun _ => (esz Z).2) H _).va
theorem QZ.qc {q : Qd} (Z : QZ q.1 q.2) : QC q := ⟨fun c hc => menu_col c (Z.m.sub c hc), Z.m.nd, Z.m.srt, Z.m.esub.imp id fun h => ⟨menu_col _ h, Z.ne⟩, Z.m.some⟩
theorem spQv_of {vs : List V} {H : Hp} {Q : VK} {E : XK} (h : spIsQ vs H Q E) : spQv vs H Q E := by
  obtain ⟨q, cols, e, rfl, hq, Z, k⟩ := h
  refine ⟨.ref q, rfl, spv_q hq Z, fun H' r s hr => ?_⟩
  have : r = true := hr.mpr ⟨q, (cols, e), rfl, hq, QZ.qc (q := (cols, e)) Z⟩
  rw [this]
  exact k H' s
theorem FnOk.imp {CX : CXT} {k : Nat} {f : Addr} {fd : FuncData} {ps : List Str} {sp sp' : Sp} (F : FnOk P w K mg base CX k f fd ps sp) (h : ∀ vs H Q E, sp' vs H Q E → sp vs H Q E) : FnOk P w K mg base CX k f fd ps sp' :=
  ⟨fun vs H Q E z => F.len vs H Q E (h _ _ _ _ z), fun A outer s H args us vs Q E hr e b r z => F.run A outer s H args us vs Q E hr e b r (h _ _ _ _ z)⟩
def spAreQs (K : PySem.W.Frag) : Sp := fun vs H Q _ => ∃ (a : Addr) (xs : List V) (qs : List Qd), vs = [.ref a] ∧ (H a = some (.lst xs) ∨ H a = some (.tup xs)) ∧ QL H xs qs ∧ xs.length < 64 ∧ QZs qs ∧ ∀ H', Same H H' → Q (.bl true) H'
theorem scAreQs : FnScope ["thing", "one"] ["thing"] (defScope sAreQs) := ⟨rfl, rfl, rfl, by decide +kernel, rfl, by decide +kernel, by decide +kernel⟩
theorem ok_areqs {f : Addr} {fd : FuncData} (F : Fun K "are_questions" "are_questions" sAreQs f fd) (T : Txt K mg) (cI : Cal P w K mg base 3 "is_question" ["thing"] spIsQ) : FnOk P w K mg base CX0 4 f fd ["thing"] (spAreQs K) := by
  refine F.ok scAreQs (fun vs H Q E h => ?_) (fun cdv A outer s H vs Q E hr h => ?_)
  · obtain ⟨a, xs, qs, rfl, _⟩ := h
    rfl
  · obtain ⟨a, xs, qs, rfl, ha, hq, hl, hz, k⟩ := h
    have nd := scAreQs.nd
    rcases ha with ha | ha
    · skip
      refine ⟨_, pss_one (ps_ret (pe_and (pe_callB call_isiT (by rfl) T.isinstance (by decide +kernel) (pa_cons (pv 0) (pa_cons (pe_tup (pa_cons (pe_bltn (v := .ty "list") (by rfl) T.list (by decide +kernel) rfl) (pa_cons (pe_bltn (v := .ty "tuple") (by rfl) T.tuple (by decide +kernel) rfl) pa_nil))) pa_nil)))
        (pe_one (pe_callB (cr_all rfl) (by rfl) T.all (by decide +kernel) (pa_cons (pe_lc (own := [("one", 1)]) (g := gName 1) (tt := tYes) rfl nd (pi_list (pv 0)) (blkOk_by (N := ["thing", "one"]) (sc := defScope sAreQs) (by decide +kernel))
          (fun _ _ _ _ _ => pg_name (i := 1) nd rfl (by first | exact Or.inl rfl | exact Or.inr rfl)) (fun _ _ _ _ _ => pts_nil) (fun _ _ _ _ _ => pe_call cI.G hr rfl cI.m cI.kp cI.b .nil pass0 (pa_cons (pv 1) pa_nil))) pa_nil))))), ?_⟩
      refine ⟨_, rfl, by show 2 ≤ sizeLine; decide, fun tp htp => ?_⟩
      have s0 := same_new (o := .tup [.ty "list", .ty "tuple"]) htp
      refine ⟨_, tp, _, .type "list", [.type "list", .type "tuple"], true, rfl, upd_same, .cons (.ty "list") (.cons (.ty "tuple") .nil), .base (.lst (s0 _ _ ha)), ?_, _, rfl, ?_⟩
      · exact kitAny_cons (b := true) (kit_ty (by decide +kernel)) (fun h => by cases h) (fun _ => rfl)
      refine iteT ?_
      have ha0 := s0 _ _ ha
      have hq0 := hq.same s0
      generalize upd H tp (.tup [.ty "list", .ty "tuple"]) = H0 at s0 ha0 hq0 ⊢
      refine ⟨_, rfl, a, rfl, ⟨_, SqL.of ha0⟩, fun D hD => ?_⟩
      refine lc_list (K := K) (a := a) (xs := xs) (fun i H' => Same H0 H' ∧ H' D = some (.lst ((List.replicate i true).map V.bl))) ⟨same_new hD, upd_same⟩ (fun i H' _ h => SqL.of (h.1 _ _ ha0)) ?_ ?_
      · rintro i x H1 hx ⟨s1, hDl⟩
        obtain ⟨t, q, rfl, hqi, hqa⟩ := (hq0.same s1).at_ hx
        have li : i < 64 := Nat.lt_trans (List.getElem?_eq_some_iff.mp hx).1 hl
        refine ⟨rfl, Exists.intro _ ⟨rfl, t, q.1, q.2, rfl, hqa, hz q (List.mem_of_getElem? hqi), fun H2 s2 => ?_⟩⟩
        refine ⟨_, s2 _ _ hDl, small1000 (by simp; omega), fun b o hb => ?_, ?_⟩
        · rw [upd_ne (ne_of_none hb hD)]
          exact s2 _ _ (s1 _ _ hb)
        · rw [upd_same, rep_snoc]
      · rintro H1 ⟨s1, hDl⟩
        refine ⟨D, _, rfl, SqL.of hDl, ?_⟩
        rw [rep_all]
        exact k H1 (s0.trans s1)
    · skip
      refine ⟨_, pss_one (ps_ret (pe_and (pe_callB call_isiT (by rfl) T.isinstance (by decide +kernel) (pa_cons (pv 0) (pa_cons (pe_tup (pa_cons (pe_bltn (v := .ty "list") (by rfl) T.list (by decide +kernel) rfl) (pa_cons (pe_bltn (v := .ty "tuple") (by rfl) T.tuple (by decide +kernel) rfl) pa_nil))) pa_nil)))
        (pe_one (pe_callB (cr_all rfl) (by rfl) T.all (by decide +kernel) (pa_cons (pe_lc (own := [("one", 1)]) (g := gName 1) (tt := tYes) rfl nd (pi_tup (pv 0)) (blkOk_by (N := ["thing", "one"]) (sc := defScope sAreQs) (by decide +kernel))
          (fun _ _ _ _ _ => pg_name (i := 1) nd rfl (by first | exact Or.inl rfl | exact Or.inr rfl)) (fun _ _ _ _ _ => pts_nil) (fun _ _ _ _ _ => pe_call cI.G hr rfl cI.m cI.kp cI.b .nil pass0 (pa_cons (pv 1) pa_nil))) pa_nil))))), ?_⟩
      refine ⟨_, rfl, by show 2 ≤ sizeLine; decide, fun tp htp => ?_⟩
      have s0 := same_new (o := .tup [.ty "list", .ty "tuple"]) htp
      refine ⟨_, tp, _, .type "tuple", [.type "list", .type "tuple"], true, rfl, upd_same, .cons (.ty "list") (.cons (.ty "tuple") .nil), .base (.tup (s0 _ _ ha)), ?_, _, rfl, ?_⟩
      · exact kitAny_cons (b := false) (kit_ty (by decide +kernel)) (fun _ => kitAny_cons (b := true) (kit_ty (by decide +kernel)) (fun h => by cases h) (fun _ => rfl)) (fun h => by cases h)
      refine iteT ?_
      have ha0 := s0 _ _ ha
      have hq0 := hq.same s0
      generalize upd H tp (.tup [.ty "list", .ty "tuple"]) = H0 at s0 ha0 hq0 ⊢
      refine ⟨_, rfl, a, rfl, ⟨_, SqT.of ha0⟩, fun D hD => ?_⟩
      refine lc_tup (K := K) (a := a) (xs := xs) (fun i H' => Same H0 H' ∧ H' D = some (.lst ((List.replicate i true).map V.bl))) ⟨same_new hD, upd_same⟩ (fun i H' _ h => SqT.of (h.1 _ _ ha0)) ?_ ?_
      · rintro i x H1 hx ⟨s1, hDl⟩
        obtain ⟨t, q, rfl, hqi, hqa⟩ := (hq0.same s1).at_ hx
        have li : i < 64 := Nat.lt_trans (List.getElem?_eq_some_iff.mp hx).1 hl
        refine ⟨rfl, Exists.intro _ ⟨rfl, t, q.1, q.2, rfl, hqa, hz q (List.mem_of_getElem? hqi), fun H2 s2 => ?_⟩⟩
        refine ⟨_, s2 _ _ hDl, small1000 (by simp; omega), fun b o hb => ?_, ?_⟩
        · rw [upd_ne (ne_of_none hb hD)]
          exact s2 _ _ (s1 _ _ hb)
        · rw [upd_same, rep_snoc]
      · rintro H1 ⟨s1, hDl⟩
        refine ⟨D, _, rfl, SqL.of hDl, ?_⟩
        rw [rep_all]
        exact k H1 (s0.trans s1)
/-- an Asked whose list stands at l -/
def HasQ (H : Hp) (C a l : Addr) (xs : List V) : Prop := ∃ dx : Addr, H a = some (.ins C dx [("_questions", .ref l)]) ∧ H l = some (.lst xs)
theorem HasQ.same {H H' : Hp} {C a l : Addr} {xs : List V} (s : Same H H') (h : HasQ H C a l xs) : HasQ H' C a l xs := by
  obtain ⟨dx, h1, h2⟩ := h
  exact ⟨dx, s _ _ h1, s _ _ h2⟩
/-- an Asked of these questions, ascending -/
structure Asc27 (zs : List Qd) : Prop where
  nd : zs.Nodup
  up : rising zs
  qz : QZs zs
def AsV (H : Hp) (C a : Addr) (zs : List Qd) : Prop := ∃ l ys, HasQ H C a l ys ∧ QL H ys zs
theorem AsV.same {H H' : Hp} {C a : Addr} {zs : List Qd} (s : Same H H') (h : AsV H C a zs) : AsV H' C a zs := by
  obtain ⟨l, ys, h1, h2⟩ := h
  exact ⟨l, ys, h1.same s, h2.same s⟩
theorem AsV.kp {H H' : Hp} {C a b l0 : Addr} {zs : List Qd} (B : Bag H b l0) (k : Kp b H H') (h : AsV H C a zs) : AsV H' C a zs := by
  obtain ⟨l, ys, ⟨dx, h1, h2⟩, h3⟩ := h
  have na : a ≠ b := fun e => by
    obtain ⟨g, m, p, ns, hb, _⟩ := B
    rw [e, hb] at h1
    cases h1
  exact ⟨l, ys, ⟨dx, k _ _ h1 na, k _ _ h2 (B.ne_refs h2 h3.refs)⟩, h3.kp B k⟩
theorem Dist.asc {qs zs : List Qd} (D : Dist qs zs) (h : QZs qs) : Asc27 zs := ⟨D.nd, D.up, fun q hq => h q ((D.mem q).mp hq)⟩
theorem Dist.le {qs zs : List Qd} (D : Dist qs zs) : zs.length ≤ qs.length := nodup_leQ _ _ D.nd fun z hz => (D.mem z).mp hz
def spAInit (C : Addr) : Sp := fun vs H Q _ => ∃ (x a dx : Addr) (xs : List V) (qs : List Qd), vs = [.ref x, .ref a] ∧ H x = some (.ins C dx []) ∧ (H a = some (.lst xs) ∨ H a = some (.tup xs)) ∧ QL H xs qs ∧ xs.length < 64 ∧ (∀ zs, Dist qs zs → zs.length ≤ 48) ∧ QZs qs ∧
  ∀ (H' : Hp) (zs : List Qd), (∀ b o, H b = some o → b ≠ x → H' b = some o) → AsV H' C x zs → Dist qs zs → (∀ l ys, HasQ H' C x l ys → H l = none) → Q .non H'
theorem asked_set {H2 : Hp} {x C dx d : Addr} {ys : List V} {zs : List Qd} (hx2 : H2 x = some (.ins C dx [])) (hyd : H2 d = some (.lst ys)) (hq : QL H2 ys zs) :
    AsV (upd H2 x (.ins C dx (putF "_questions" (.ref d) []))) C x zs ∧ ∀ b o, H2 b = some o → b ≠ x → (upd H2 x (.ins C dx (putF "_questions" (.ref d) []))) b = some o := by
  have dx_ : d ≠ x := fun e => by rw [e, hx2] at hyd; cases hyd
  have qk : ∀ {v : Addr} {r : Qd}, QAt H2 v r.1 r.2 → QAt (upd H2 x (.ins C dx (putF "_questions" (.ref d) []))) v r.1 r.2 := fun {v r} ⟨c0, g1, g2⟩ =>
    ⟨c0, by rw [upd_ne fun e => by rw [e, hx2] at g1; cases g1]; exact g1, by rw [upd_ne fun e => by rw [e, hx2] at g2; cases g2]; exact g2⟩
  exact ⟨⟨d, ys, ⟨dx, upd_same, by rw [upd_ne dx_]; exact hyd⟩, Paired.mapP hq fun y r ⟨v, e, z⟩ => ⟨v, e, qk z⟩⟩, fun b o hb nb => by rw [upd_ne nb]; exact hb⟩
theorem scAInit : FnScope ["self", "questions", "different"] ["self", "questions"] (defScope sAInit) := ⟨rfl, rfl, rfl, by decide +kernel, rfl, by decide +kernel, by decide +kernel⟩
theorem ok_ainit {f C : Addr} {fd : FuncData} (F : Fun K "__init__" "Asked.__init__" sAInit f fd) (T : Txt K mg) (TC : TxA K mg C) (cQ : Cal P w K mg base 4 "are_questions" ["thing"] (spAreQs K)) : FnOk P w K mg base CX0 5 f fd ["self", "questions"] (spAInit C) := by
  refine F.ok scAInit (fun vs H Q E h => ?_) (fun cdv A outer s H vs Q E hr h => ?_)
  · obtain ⟨x, a, dx, xs, qs, rfl, _⟩ := h
    rfl
  · obtain ⟨x, a, dx, xs, qs, rfl, hx, ha, hq, hl, h48, hz, k⟩ := h
    have nd := scAInit.nd
    obtain ⟨tl, htl⟩ := T.limit
    have hu80 : A.units + 3 + 80 < cLine := by
      have := hr.un
      have e : (A.deeper (envOfC "Asked.__init__" (defScope sAInit) s.heap.objs.size f cdv)).units = A.units + 3 := rfl
      omega
    have hu16 : A.units + 3 + 16 < cLine := by omega
    refine ⟨_, pss_cons (ps_if (pt_not (pt_val (pe_call cQ.G hr rfl cQ.m cQ.kp cQ.b .nil pass0 (pa_cons (pv 1) pa_nil)))) (pss_one ps_dead) pss_nil)
      (pss_cons (ps_set (i := 2) nd rfl (Or.inl rfl) (pe_callB (cr_sortSetQ rfl hu80) (by rfl) T.sorted (by decide +kernel) (pa_cons (pe_callTy (cr_setQ rfl hu16) (by rfl) T.set (by decide +kernel) (pa_cons (pv 1) pa_nil)) pa_nil)))
      (pss_cons (ps_if (pt_cmpR op_gt (pe_callB call_len_seq (by rfl) T.len PySem.boot_len (pa_cons (pv 2) pa_nil)) (pe_glob (v := .int 48) rfl htl ⟨tl, rfl⟩) (nomark _)) (pss_one ps_dead) pss_nil)
      (pss_one (ps_fld (pv 0) (pv 2) rfl)))), ?_⟩
    refine ⟨_, rfl, a, xs, qs, rfl, ha, hq, hl, hz, fun H1 s1 => ⟨_, rfl, ?_⟩⟩
    refine iteF ?_
    have ha1 := ha.imp (s1 _ _) (s1 _ _)
    have hq1 := hq.same s1
    refine ⟨_, rfl, a, xs, qs, rfl, ha1.imp SqL.of SqT.of, hq1, by omega, fun p M hp S => ?_⟩
    have sp := same_new (o := SetQ w p M) hp
    refine ⟨p, M, rfl, upd_same, fun m hm => (S.at_ m hm).same sp, fun m hm c hc => (hz _ ((S.mem _).mp (List.mem_map_of_mem hm))).strOk c hc, fun ys zs d hd hql hpm hup hsub => ?_⟩
    have sd := same_new (o := .lst ys) hd
    have D : Dist qs zs := ⟨hpm.nodup_iff.mpr S.nd, hup, fun q => hpm.mem_iff.trans (S.mem q)⟩
    have zl : ys.length ≤ 48 := by
      rw [hql.len]
      exact h48 zs D
    have sA := s1.trans (sp.trans sd)
    have hyd : (upd (upd H1 p (SetQ w p M)) d (.lst ys)) d = some (.lst ys) := upd_same
    have hql2 := hql.same sd
    refine ⟨_, rfl, _, _, rfl, .inl (SqL.of hyd), _, 48, rfl, rfl, _, rfl, ?_⟩
    have e1 : decide ((48 : Int) < (ys.length : Int)) = false := decide_eq_false (by omega)
    rw [e1]
    refine iteF ?_
    have hx2 := sA _ _ hx
    refine ⟨_, rfl, _, rfl, x, C, dx, [], rfl, hx2, TC.cl, TC.nQ, by show 0 < 1000; decide, ?_⟩
    obtain ⟨g1, g2⟩ := asked_set (C := C) (dx := dx) hx2 hyd hql2
    exact k _ zs (fun b o hb nb => g2 b o (sA _ _ hb) nb) g1 D (fun l ys' ⟨dx', e1, _⟩ => by
      rw [upd_same] at e1
      injection e1 with e1
      injection e1 with _ _ e1
      injection e1 with e1 _
      injection e1 with _ e1
      injection e1 with e1
      subst e1
      cases e' : H d with
      | none => rfl
      | some o => exact absurd ((same_new (o := SetQ w p M) hp _ _ (s1 _ _ e')).symm.trans hd) (by simp))
theorem scALen : FnScope ["self"] ["self"] (defScope sALen) := ⟨rfl, rfl, rfl, by decide +kernel, rfl, by decide +kernel, by decide +kernel⟩
theorem ok_alen {f C : Addr} {fd : FuncData} (F : Fun K "__len__" "Asked.__len__" sALen f fd) (T : Txt K mg) (TC : TxA K mg C) : FnOk P w K mg base CX0 1 f fd ["self"] (spLenF C "_questions") := by
  refine F.ok scALen (fun vs H Q E h => ?_) (fun cdv A outer s H vs Q E hr h => ?_)
  · obtain ⟨a, dx, l, fs, xs, rfl, _⟩ := h
    rfl
  · obtain ⟨a, dx, l, fs, xs, rfl, ha, hl, hx, k⟩ := h
    refine ⟨_, pss_one (ps_ret (pe_callB call_len_seq (by rfl) T.len PySem.boot_len (pa_cons (pe_fld (pv 0) rfl) pa_nil))), ?_⟩
    exact ⟨_, rfl, a, C, dx, fs, _, rfl, ha, TC.cl, TC.nQ, hl, l, xs, rfl, .inl (SqL.of hx), k⟩
theorem scAIter : FnScope ["self"] ["self"] (defScope sAIter) := ⟨rfl, rfl, rfl, by decide +kernel, rfl, by decide +kernel, by decide +kernel⟩
theorem ok_aitr {f C : Addr} {fd : FuncData} (F : Fun K "__iter__" "Asked.__iter__" sAIter f fd) (T : Txt K mg) (TC : TxA K mg C) : FnS P w K mg base 1 f fd ["self"] (spIterF C "_questions") := by
  refine okN F scAIter (fun n vs H Q E h => ?_) (fun cdv A outer s H vs Q E hr h => ?_)
  · obtain ⟨a, dx, l, fs, xs, rfl, _⟩ := h
    rfl
  · obtain ⟨a, dx, l, fs, xs, rfl, ha, hl, hx, k⟩ := h
    refine ⟨_, pss_one (ps_ret (pe_callB ItX.call_iterN (by rfl) T.iter (by decide +kernel) (pa_cons (pe_fld (pv 0) rfl) pa_nil))), ?_⟩
    exact ⟨_, rfl, a, C, dx, fs, _, rfl, ha, TC.cl, TC.nQ, hl, l, xs, rfl, SqL.of hx, fun it h1 h2 => k it h1 h2⟩
/-- == of two Asked -/
def spAEq (C : Addr) : Sp := fun vs H Q _ => ∃ (a b : Addr) (qs rs : List Qd), vs = [.ref a, .ref b] ∧ AsV H C a qs ∧ AsV H C b rs ∧ QZs qs ∧ QZs rs ∧ qs.length ≤ 300 ∧ rs.length ≤ 300 ∧ Q (.bl (decide (qs = rs))) H
theorem scAEq : FnScope ["self", "other"] ["self", "other"] (defScope sAEq) := ⟨rfl, rfl, rfl, by decide +kernel, rfl, by decide +kernel, by decide +kernel⟩
theorem QZs.fine' {qs : List Qd} (h : QZs qs) : ∀ q ∈ qs, Qfine q := fun q hq => (h q hq).fine
theorem ok_aeq {f C : Addr} {fd : FuncData} (F : Fun K "__eq__" "Asked.__eq__" sAEq f fd) (T : Txt K mg) (TC : TxA K mg C) : FnOk P w K mg base CX0 1 f fd ["self", "other"] (spAEq C) := by
  refine F.ok scAEq (fun vs H Q E h => ?_) (fun cdv A outer s H vs Q E hr h => ?_)
  · obtain ⟨a, b, qs, rs, rfl, _⟩ := h
    rfl
  · obtain ⟨a, b, qs, rs, rfl, ⟨l, xs, ⟨dx, ha, hl⟩, hq⟩, ⟨m, ys, ⟨dy, hb, hm⟩, hr'⟩, fq, fr, lq, lr, k⟩ := h
    refine ⟨_, pss_one (ps_ret (pe_and (pe_callB call_isi (by rfl) T.isinstance (by decide +kernel) (pa_cons (pv 1) (pa_cons (pe_glob (v := .ref C) rfl TC.mgC rfl) pa_nil))) (pe_one (pe_cmpR (op_eqD hr.units) (pe_fld (pv 0) rfl) (pe_fld (pv 1) rfl) (nomark _))))), ?_⟩
    refine ⟨_, rfl, _, _, .ref C, .ref C, true, rfl, .own C, TC.ty hb, kit_self, _, rfl, ?_⟩
    refine iteT ?_
    refine ⟨_, rfl, a, C, dx, _, _, rfl, ha, TC.cl, TC.nQ, rfl, _, rfl, b, C, dy, _, _, rfl, hb, TC.cl, TC.nQ, rfl, ?_⟩
    refine ⟨.list (qs.map dq), .list (rs.map dq), .lst (SqL.of hl) hq.dp, .lst (SqL.of hm) hr'.dp, (dok_qs3 fq.fine' lq).shaped, (dok_qs3 fr.fine' lr).shaped, ?_⟩
    rw [eqv_qs]
    exact k
/-- what comes of an operator: a new Asked -/
def NewA (C : Addr) (H : Hp) (qs : List Qd) (Q : VK) : Prop := ∀ (H' : Hp) (x : Addr) (us : List Qd), Same H H' → AsV H' C x us → Dist qs us → (∀ l ys, HasQ H' C x l ys → H l = none) → Q (.ref x) H'
theorem made_same {H : Hp} {x dx C : Addr} (nx : H x = none) (ndx : H dx = none) : Same H (upd (upd H dx (.own x)) x (.ins C dx [])) := fun c o e => by
  rw [upd_ne (ne_of_none e nx), upd_ne (ne_of_none e ndx)]
  exact e
/-- Asked(xs) of a list that stands at d -/
theorem make_asked {H : Hp} {C d x dx : Addr} {xs : List V} {qs : List Qd} {Q : VK} (hd : H d = some (.lst xs) ∨ H d = some (.tup xs)) (hq : QL H xs qs) (hl : xs.length ≤ 48) (hz : QZs qs) (nx : H x = none) (ndx : H dx = none) (k : NewA C H qs Q) :
    spAInit C [.ref x, .ref d] (upd (upd H dx (.own x)) x (.ins C dx [])) (fun v H' => v = .non ∧ Q (.ref x) H') E0 := by
  have sm := made_same (C := C) nx ndx
  refine ⟨x, d, dx, xs, qs, rfl, upd_same, hd.imp (sm _ _) (sm _ _), hq.same sm, by omega, fun zs D => Nat.le_trans D.le (by rw [← hq.len]; exact hl), hz, fun H' zs hk hA D hn => ⟨rfl, ?_⟩⟩
  exact k H' x zs (fun c o e => hk c o (sm _ _ e) (ne_of_none e nx)) hA D (fun l ys h => by
    have h1 := hn l ys h
    cases e : H l with
    | none => rfl
    | some o => rw [sm _ _ e] at h1; cases h1)
def spAQns (C : Addr) : Sp := fun vs H Q _ => ∃ (a : Addr) (zs : List Qd), vs = [.ref a] ∧ AsV H C a zs ∧ ∀ (p : Addr) (xs : List V) (H' : Hp), Same H H' → H p = none → H' p = some (.lst xs) → QL H' xs zs → Q (.ref p) H'
theorem scAQns : FnScope ["self"] ["self"] (defScope sAQns) := ⟨rfl, rfl, rfl, by decide +kernel, rfl, by decide +kernel, by decide +kernel⟩
theorem ok_aqns {f C : Addr} {fd : FuncData} (F : Fun K "questions" "Asked.questions" sAQns f fd) (T : Txt K mg) (TC : TxA K mg C) : FnOk P w K mg base CX0 1 f fd ["self"] (spAQns C) := by
  refine F.ok scAQns (fun vs H Q E h => ?_) (fun cdv A outer s H vs Q E hr h => ?_)
  · obtain ⟨a, zs, rfl, _⟩ := h
    rfl
  · obtain ⟨a, zs, rfl, ⟨l, xs, ⟨dx, ha, hl⟩, hq⟩, k⟩ := h
    refine ⟨_, pss_one (ps_ret (pe_callTy call_list_of (by rfl) T.list (by decide +kernel) (pa_cons (pe_fld (pv 0) rfl) pa_nil))), ?_⟩
    exact ⟨_, rfl, a, C, dx, _, _, rfl, ha, TC.cl, TC.nQ, rfl, l, xs, rfl, .inl (SqL.of hl), fun p hp => k p xs _ (same_new hp) hp upd_same (hq.same (same_new hp))⟩
def spColumns (C : Addr) : Sp := fun vs H Q _ => ∃ (a l : Addr) (ys : List V) (zs : List Qd), vs = [.ref a] ∧ HasL H C a "_questions" l ys ∧ QL H ys zs ∧ QZs zs ∧
  ∀ (H' : Hp) (p : Addr) (cs : List Str), Same H H' → H p = none → H' p = some (.lst (cs.map V.str)) → cs.Nodup → sortedS cs = true → (∀ c, c ∈ cs ↔ ∃ z ∈ zs, c ∈ allC z.1 z.2) → Q (.ref p) H'
theorem scColumns : FnScope ["self", "question", "column"] ["self"] (defScope sColumns) := ⟨rfl, rfl, rfl, by decide +kernel, rfl, by decide +kernel, by decide +kernel⟩
theorem ok_columns {f C : Addr} {fd : FuncData} (F : Fun K "columns" "Asked.columns" sColumns f fd) (T : Txt K mg) (TC : TxA K mg C) (cC : Cal P w K mg base 2 "columns_of" ["question"] spCols) : FnOk P w K mg base CX0 3 f fd ["self"] (spColumns C) := by
  refine F.ok scColumns (fun vs H Q E h => ?_) (fun cdv A outer s H vs Q E hr h => ?_)
  · obtain ⟨a, l, ys, zs, rfl, _⟩ := h
    rfl
  · obtain ⟨a, l, ys, zs, rfl, ⟨dx, fs, ha, hl, hx⟩, hq, hz, k⟩ := h
    have nd := scColumns.nd
    refine ⟨_, pss_one (ps_ret (pe_callB (cr_sortT rfl) (by rfl) T.sorted (by decide +kernel) (pa_cons
      (by
        exact pe_sc2 (SO := fun D => TxtO P w D []) (rA := rAddT P w) (own := [("question", 1), ("column", 2)]) (vs1 := [2]) (wi1 := iTup K (tCall spCols [] (fun _ _ _ => False) _)) (g := gName 1) (g1 := gName 2) rfl nd (fun _ _ _ hh => txtO_ok (TxtSet.fresh w hh)) (pi_list (pe_fld (pv 0) rfl))
            (blkOk_by (N := ["self", "question", "column"]) (sc := defScope sColumns) (by decide +kernel)) (by decide) (fun _ _ _ _ _ => pg_name (i := 1) nd rfl (by first | exact Or.inl rfl | exact Or.inr rfl))
            (fun _ _ _ _ _ => pi_tup (pe_call cC.G hr rfl cC.m cC.kp cC.b .nil pass0 (pa_cons (pv 1) pa_nil))) (fun _ _ _ _ _ => pg_name (i := 2) nd rfl (by first | exact Or.inl rfl | exact Or.inr rfl)) (fun _ _ _ _ _ => pv 2) (fun _ _ _ _ _ => cr_addT)) pa_nil))), ?_⟩
    refine ⟨_, rfl, a, C, dx, fs, _, rfl, ha, TC.cl, TC.nQ, hl, l, rfl, ⟨_, SqL.of hx⟩, fun D hD => ?_⟩
    have sD := same_new (o := TxtO P w D []) hD
    have menuOf : ∀ cs : List Str, (∀ c, c ∈ cs → ∃ z ∈ zs, c ∈ allC z.1 z.2) → cs.Nodup → cs.length ≤ 34 := fun cs h1 h2 => by
      refine Nat.le_trans (nodup_len cs menu h2 fun c hc => ?_) (by decide)
      obtain ⟨z, m, hm⟩ := h1 c hc
      exact (hz z m).menu c hm
    refine Loop.list (K := K) (a := l) (xs := ys) (fun i G => Same H G ∧ ∃ cs, G D = some (TxtO P w D cs) ∧ cs.Nodup ∧ ∀ c, c ∈ cs ↔ ∃ z ∈ zs.take i, c ∈ allC z.1 z.2) ⟨sD, [], upd_same, .nil, fun c => by simp⟩ (fun i G _ h => SqL.of (h.1 _ _ hx)) ?_ ?_
    · rintro i y G hy ⟨s1, cs, hcs, nc, mc⟩
      obtain ⟨t0, z, rfl, hzi, hzt⟩ := (hq.same s1).at_ hy
      have Z := hz z (List.mem_of_getElem? hzi)
      have tk : zs.take (i + 1) = zs.take i ++ [z] := by rw [List.take_add_one, hzi]; rfl
      refine ⟨rfl, _, rfl, t0, z.1, z.2, rfl, hzt, Z, fun t G1 s2 ht => ⟨t, rfl, ⟨_, SqT.of ht⟩, ?_⟩⟩
      have hc1 := s2 _ _ hcs
      have tD : t ≠ D := fun e => by rw [e, hc1] at ht; cases ht
      refine Loop.tup (K := K) (a := t) (xs := (allC z.1 z.2).map V.str) (fun j G => Same H G ∧ G t = some (.tup ((allC z.1 z.2).map V.str)) ∧ ∃ ds, G D = some (TxtO P w D ds) ∧ ds.Nodup ∧ ∀ c, c ∈ ds ↔ (∃ z ∈ zs.take i, c ∈ allC z.1 z.2) ∨ c ∈ (allC z.1 z.2).take j)
        ⟨s1.trans s2, ht, cs, hc1, nc, fun c => by rw [mc c]; simp⟩ (fun j G _ h => SqT.of h.2.1) ?_ ?_
      · rintro j v G2 hv ⟨s3, ht2, ds, hds, ndd, md⟩
        rw [List.getElem?_map] at hv
        obtain ⟨c, hc, rfl⟩ := Option.map_eq_some_iff.mp hv
        have tk2 : (allC z.1 z.2).take (j + 1) = (allC z.1 z.2).take j ++ [c] := by rw [List.take_add_one, hc]; rfl
        have dl : ds.length ≤ 34 := menuOf ds (fun c hc => by
          rcases (md c).mp hc with ⟨z', m, hm⟩ | m
          · exact ⟨z', List.mem_of_mem_take m, hm⟩
          · exact ⟨z, List.mem_of_getElem? hzi, List.mem_of_mem_take m⟩) ndd
        refine ⟨rfl, _, rfl, D, c, ds, rfl, hds, by unfold scanBound; omega, fun es c1 c2 => ?_⟩
        have sU : Same H (upd G2 D (TxtO P w D es)) := fun b o hb => by
          rw [upd_ne (ne_of_none hb hD)]
          exact s3 _ _ hb
        refine ⟨sU, by rw [upd_ne tD]; exact ht2, es, upd_same, ?_, fun x => ?_⟩
        · by_cases m : c ∈ ds
          · rw [c1 m]
            exact ndd
          · exact (c2 m).nodup_iff.mpr (List.nodup_cons.mpr ⟨m, ndd⟩)
        · rw [tk2, List.mem_append, List.mem_singleton, ← or_assoc, ← md x]
          by_cases m : c ∈ ds
          · rw [c1 m]
            exact ⟨.inl, fun h => h.elim id fun e => e ▸ m⟩
          · rw [(c2 m).mem_iff, List.mem_cons]
            exact or_comm
      · rintro G2 ⟨s3, ht2, ds, hds, ndd, md⟩
        refine ⟨s3, ds, hds, ndd, fun c => ?_⟩
        rw [List.length_map, List.take_of_length_le (Nat.le_refl _)] at md
        rw [md c, tk]
        simp [List.mem_append, or_and_right, exists_or]
    · rintro G ⟨s1, cs, hcs, nc, mc⟩
      rw [hq.len, List.take_of_length_le (Nat.le_refl _)] at mc
      have cl : cs.length ≤ 34 := menuOf cs (fun c hc => (mc c).mp hc) nc
      refine ⟨D, cs, rfl, hcs, by omega, fun ws p hp hs hpn => ?_⟩
      have pN : H p = none := by
        cases e : H p with
        | none => rfl
        | some o =>
          have := s1 _ _ e
          rw [hpn] at this
          cases this
      exact k _ p ws (s1.trans (same_new hpn)) pN upd_same (hp.nodup_iff.mpr nc) hs fun c => hp.mem_iff.trans (mc c)
end
end Qk
set_option maxRecDepth 100000
set_option maxHeartbeats 4000000
namespace Qk
open PySem PySem.Spec PyProof.Rows L2
section
variable {P : Program} {w : World} {K : PySem.W.Frag} {mg : Str → Option Value} {base : Heap}
/-- what an Asked is beside the other types -/
structure TxN (K : PySem.W.Frag) (C : Addr) : Prop where
  kN : PySem.W.kitOne K (.ref C) (.type "tuple") = some false
  kT : ∀ t ∈ (["list", "tuple", "NoneType", "int"] : List String), PySem.W.kitOne K (.type t) (.ref C) = some false
  nF : ∀ t ∈ (["list", "tuple", "NoneType", "int"] : List String), PySem.W.notFirst K C (.type t) = true
theorem FnOk.or {CX : CXT} {k : Nat} {f : Addr} {fd : FuncData} {ps : List Str} {sp sp' : Sp} (F : FnOk P w K mg base CX k f fd ps sp) (F' : FnOk P w K mg base CX k f fd ps sp') : FnOk P w K mg base CX k f fd ps (fun vs H Q E => sp vs H Q E ∨ sp' vs H Q E) :=
  ⟨fun vs H Q E z => z.elim (F.len vs H Q E) (F'.len vs H Q E), fun A outer s H args us vs Q E hr e b r z => z.elim (F.run A outer s H args us vs Q E hr e b r) (F'.run A outer s H args us vs Q E hr e b r)⟩
def InsV (H : Hp) (C : Addr) (x : V) : Prop := ∃ a dx fs, x = .ref a ∧ H a = some (.ins C dx fs)
def spIsQN (C : Addr) : Sp := fun vs H Q _ => ∃ x, vs = [x] ∧ InsV H C x ∧ ∀ H', Same H H' → Q (.bl false) H'
theorem ok_isqN {f C : Addr} {fd : FuncData} (F : Fun K "is_question" "is_question" sIsQ f fd) (T : Txt K mg) (TC : TxA K mg C) (TN : TxN K C) (cA : Cal P w K mg base 2 "are_columns" ["thing"] spCv) (cL : Cal P w K mg base 2 "is_last" ["thing", "columns"] (spLastA K)) : FnOk P w K mg base CX0 3 f fd ["thing"] (spIsQN C) := by
  refine F.ok scIsQ (fun vs H Q E h => ?_) (fun cdv A outer s H vs Q E hr h => ?_)
  · obtain ⟨x, rfl, _⟩ := h
    rfl
  · obtain ⟨x, rfl, ⟨a, dx, fs, rfl, ha⟩, k⟩ := h
    have nd := scIsQ.nd
    refine ⟨_, pss_cons (ps_if (PW.pt (pw_or (pt_not (pt_val (pe_callB call_isi (by rfl) T.isinstance (by decide +kernel) (pa_cons (pv 0) (pa_cons (pe_bltn (v := .ty "tuple") (by rfl) T.tuple (by decide +kernel) rfl) pa_nil)))))
        (pw_or1 (pt_cmpR op_ne (pe_callB call_len_seq (by rfl) T.len PySem.boot_len (pa_cons (pv 0) pa_nil)) pe_int (nomark _))))) (pss_one (ps_ret pe_bl)) pss_nil)
      (pss_cons (ps_asg (pv 0) (pg_tup (by rfl) (pgs_cons (pg_name (i := 1) nd rfl (Or.inl rfl)) (pgs_cons (pg_name (i := 2) nd rfl (Or.inl rfl)) pgs_nil))))
      (pss_cons (ps_if (PW.pt (pw_or (pt_not (pt_val (pe_call cA.G hr rfl cA.m cA.kp cA.b .nil pass0 (pa_cons (pv 1) pa_nil))))
        (pw_or1 (pt_not (pt_val (pe_call cL.G hr rfl cL.m cL.kp cL.b .nil pass0 (pa_cons (pv 2) (pa_cons (pv 1) pa_nil)))))))) (pss_one (ps_ret pe_bl)) pss_nil)
      (pss_one (ps_ret (pe_or (pe_cmpR (op_neD hr.units) (pv 1) (pe_tup pa_nil) (nomark _)) (pe_one (pe_cmpR op_ne (pv 2) pe_str (nomark _)))))))), ?_⟩
    refine ⟨_, rfl, _, _, .ref C, .type "tuple", false, rfl, .ty "tuple", TC.ty ha, TN.kN, _, rfl, ?_⟩
    refine iteT ?_
    exact k H (Same.refl _)
def spIsQX (C : Addr) : Sp := fun vs H Q E => spQv vs H Q E ∨ spIsQN C vs H Q E
/-- a question among these -/
def AmongV (H : Hp) (x : V) (zs : List Qd) : Prop := ∃ t q, x = .ref t ∧ QAt H t q.1 q.2 ∧ q ∈ zs
theorem spv_ok {H : Hp} {t : Addr} {q : Qd} (h : QAt H t q.1 q.2) (hs : SpV H (.ref t)) (Z : QC q) : SeqAt.shaped (dq q) = true := by
  obtain ⟨c, h1, h2⟩ := h
  have g : ∀ {a : Addr} {xs : List V}, H a = some (.tup xs) → SpV H (.ref a) → ∀ y ∈ xs, SpV H y := fun {a xs} ha hs => by
    rcases hs.tu (K := []) with ⟨a', xs', e, ha', _, hx⟩ | ⟨hne, _⟩
    · injection e with e
      subst e
      rw [ha] at ha'
      injection ha' with ha'
      injection ha' with ha'
      rw [ha']
      exact hx
    · exact absurd ha (hne a xs rfl)
  have g1 := g h1 hs
  have g2 := g h2 (g1 _ List.mem_cons_self)
  have ok1 : ∀ c ∈ q.1, okS c = true := fun c m => by
    rcases (g2 (.str c) (List.mem_map_of_mem m)).tx (K := []) with ⟨z, e, f⟩ | ⟨ne, _⟩
    · injection e with e
      subst e
      have := col_ok (Z.col _ m) f
      unfold okS
      rw [this.1, decide_eq_true this.2]
      rfl
    · exact absurd rfl (ne c)
  have ok2 : okS q.2 = true := by
    rcases Z.last with e | ⟨hc, _⟩
    · rw [e]
      exact okS_empty
    · rcases (g1 (.str q.2) (List.mem_cons_of_mem _ List.mem_cons_self)).tx (K := []) with ⟨z, e, f⟩ | ⟨ne, _⟩
      · injection e with e
        have := col_ok hc (by rw [e]; exact f)
        unfold okS
        rw [this.1, decide_eq_true this.2]
        rfl
      · exact absurd rfl (ne q.2)
  have fq : fine (dq q) = true := by
    show (fine (.tuple (q.1.map PyData.str)) && (fine (.str q.2) && true)) = true
    rw [Bool.and_true, Bool.and_eq_true]
    exact ⟨fine_strs ok1, ok2⟩
  unfold SeqAt.shaped
  rw [(fine_lay _ fq).1, depth_q]
  rfl
def spAIn (C : Addr) : Sp := fun vs H Q _ => ∃ (a : Addr) (x : V) (zs : List Qd), vs = [.ref a, x] ∧ AsV H C a zs ∧ QZs zs ∧ zs.length ≤ 300 ∧ (SpV H x ∨ InsV H C x) ∧ ∀ (H' : Hp) (r : Bool), Same H H' → (r = true ↔ AmongV H x zs) → Q (.bl r) H'
theorem scAIn : FnScope ["self", "x"] ["self", "x"] (defScope sAIn) := ⟨rfl, rfl, rfl, by decide +kernel, rfl, by decide +kernel, by decide +kernel⟩
theorem ok_ain {f C : Addr} {fd : FuncData} (F : Fun K "__contains__" "Asked.__contains__" sAIn f fd) (T : Txt K mg) (TC : TxA K mg C) (cQ : Cal P w K mg base 3 "is_question" ["thing"] (spIsQX C)) : FnOk P w K mg base CX0 4 f fd ["self", "x"] (spAIn C) := by
  refine F.ok scAIn (fun vs H Q E h => ?_) (fun cdv A outer s H vs Q E hr h => ?_)
  · obtain ⟨a, t, zs, rfl, _⟩ := h
    rfl
  · obtain ⟨a, x, zs, rfl, ⟨l, xs, ⟨dx, ha, hl⟩, hq⟩, hz, h300, hx, k⟩ := h
    have hu65 : A.units + 3 + 65 < cLine := by
      have := hr.un
      have e : (A.deeper (envOfC "Asked.__contains__" (defScope sAIn) s.heap.objs.size f cdv)).units = A.units + 3 := rfl
      omega
    refine ⟨_, pss_one (ps_ret (pe_and (pe_call cQ.G hr rfl cQ.m cQ.kp cQ.b .nil pass0 (pa_cons (pv 1) pa_nil)) (pe_one (pe_cmpR (op_inD hu65) (pv 1) (pe_fld (pv 0) rfl) (by rfl))))), ?_⟩
    rcases hx with hx | hx
    · refine ⟨_, rfl, .inl ⟨x, rfl, hx, fun H1 r s1 hr1 => ⟨_, rfl, ?_⟩⟩⟩
      cases r with
      | false =>
        refine iteF ?_
        refine k H1 false s1 ⟨fun h => (nomatch h), fun ⟨t, q, e, hq', m⟩ => hr1.mpr ⟨t, q, e, hq', (hz q m).qc⟩⟩
      | true =>
        refine iteT ?_
        obtain ⟨t, q, rfl, hqt, Z⟩ := hr1.mp rfl
        refine ⟨_, rfl, _, rfl, a, C, dx, _, _, rfl, s1 _ _ ha, TC.cl, TC.nQ, rfl, dq q, zs.map dq, dp_q (hqt.same s1), .lst (SqL.of (s1 _ _ hl)) (hq.same s1).dp, spv_ok hqt hx Z, (dok_qs3 hz.fine' h300).shaped, ?_⟩
        rw [any_q]
        refine k H1 _ s1 ⟨fun h => ⟨t, q, rfl, hqt, of_decide_eq_true h⟩, fun ⟨t', q', e, hq', m⟩ => ?_⟩
        injection e with e
        subst e
        have : q = q' := by
          obtain ⟨c, g1, g2⟩ := hqt
          obtain ⟨c', g3, g4⟩ := hq'
          rw [g1] at g3
          injection g3 with g3
          injection g3 with g3
          injection g3 with g3 g5
          injection g3 with g3
          injection g5 with g5 _
          injection g5 with g5
          subst g3
          rw [g2] at g4
          injection g4 with g4
          injection g4 with g4
          exact Prod.ext (map_str_inj g4) g5
        rw [this]
        exact decide_eq_true m
    · refine ⟨_, rfl, .inr ⟨x, rfl, hx, fun H1 s1 => ⟨_, rfl, ?_⟩⟩⟩
      refine iteF ?_
      refine k H1 false s1 ⟨fun h => (nomatch h), fun ⟨t, q, e, ⟨c, h1, _⟩, _⟩ => ?_⟩
      obtain ⟨a', dx', fs, e', h'⟩ := hx
      rw [e'] at e
      injection e with e
      rw [e, h1] at h'
      cases h'
/-- == with what is no Asked -/
def spAEqO (K : PySem.W.Frag) (C : Addr) : Sp := fun vs H Q _ => ∃ (a : Addr) (x : V) (tb : Value), vs = [.ref a, x] ∧ InsV H C (.ref a) ∧ TyX K H x tb ∧ PySem.W.kitOne K tb (.ref C) = some false ∧ Q (.bl false) H
theorem ok_aeqO {f C : Addr} {fd : FuncData} (F : Fun K "__eq__" "Asked.__eq__" sAEq f fd) (T : Txt K mg) (TC : TxA K mg C) : FnOk P w K mg base CX0 1 f fd ["self", "other"] (spAEqO K C) := by
  refine F.ok scAEq (fun vs H Q E h => ?_) (fun cdv A outer s H vs Q E hr h => ?_)
  · obtain ⟨a, x, tb, rfl, _⟩ := h
    rfl
  · obtain ⟨a, x, tb, rfl, _, ty, kt, k⟩ := h
    refine ⟨_, pss_one (ps_ret (pe_and (pe_callB call_isi (by rfl) T.isinstance (by decide +kernel) (pa_cons (pv 1) (pa_cons (pe_glob (v := .ref C) rfl TC.mgC rfl) pa_nil))) (pe_one (pe_cmpR (op_eqD hr.units) (pe_fld (pv 0) rfl) (pe_fld (pv 1) rfl) (nomark _))))), ?_⟩
    refine ⟨_, rfl, _, _, tb, .ref C, false, rfl, .own C, ty, kt, _, rfl, ?_⟩
    refine iteF ?_
    exact k
def spAEqX (K : PySem.W.Frag) (C : Addr) : Sp := fun vs H Q E => spAEq C vs H Q E ∨ spAEqO K C vs H Q E
end
end Qk
set_option maxRecDepth 100000
set_option maxHeartbeats 4000000
namespace Qk
open PySem PySem.Spec PyProof.Rows L2
section
variable {P : Program} {w : World} {K : PySem.W.Frag} {mg : Str → Option Value} {base : Heap}
def inN (nm : List Str) (q : Qd) : Prop := (∀ c ∈ q.1, c ∈ nm) ∧ (q.2 = "" ∨ q.2 ∈ nm)
theorem nm_sub13 {a m : Nat} : ∀ c ∈ nm a m, c ∈ menu13 := fun c hc => by
  have h := List.mem_of_mem_drop (List.mem_of_mem_take hc)
  exact (List.mem_append.mp h).elim id id
theorem menu13_sub : ∀ c ∈ menu13, c ∈ menu := by decide +kernel
def spNamesN : Sp := fun vs H Q _ => ∃ (b l : Addr) (m : Nat), vs = [.ref b, .int (m : Int)] ∧ m ≤ 12 ∧ Bag H b l ∧
  ∀ (xs : List Str) (p : Addr) (H' : Hp), xs.Nodup → (∀ c ∈ xs, c ∈ menu13) → xs.length = m → p ≠ b → H' p = some (.lst (xs.map V.str)) → Bag H' b l → Kp b H H' → Q (.ref p) H'
theorem ok_namesN {f : Addr} {fd : FuncData} (F : Fun K "_law_names" "_law_names" sNames f fd) (T : Txt K mg) (cT : Cal P w K mg base 1 "_law_take" ["_law_bag_here", "_law_upto"] spTake) : FnOk P w K mg base CX0 2 f fd ["_law_bag_here", "_law_many"] spNamesN := by
  refine F.ok scNames (fun vs H Q E h => ?_) (fun cdv A outer s H vs Q E hr h => ?_)
  · obtain ⟨b, l, m, rfl, _⟩ := h
    rfl
  · obtain ⟨b, l, m, rfl, hm, B, k⟩ := h
    have nd := scNames.nd
    refine ⟨_, pss_cons (ps_set (i := 2) nd rfl (Or.inl rfl) (pe_split pe_str pe_str))
      (pss_cons (ps_set (i := 3) nd rfl (Or.inl rfl) (pe_call cT.G hr rfl cT.m cT.kp cT.b .nil pass0 (pa_cons (pv 0) (pa_cons pe_int pa_nil))))
      (pss_one (ps_ret (pe_slice sl_list (pe_op op_cat (pv 2) (pv 2)) (po_some (pv 3)) (po_some (pe_op op_add (pv 3) (pv 1))))))), ?_⟩
    refine ⟨⟨_, rfl⟩, "a b aa ab z zzzzzzzz job view power status ask quicklyx fghmndct", " ", rfl, rfl, rfl, by decide, fun p hp => ?_⟩
    rw [split13]
    have npb : p ≠ b := B.ne hp
    refine ⟨_, rfl, b, l, 13, rfl, B.new hp, by decide, by decide, fun j H1 hj B1 k1 => ?_⟩
    have hp1 := k1 _ _ upd_same npb
    refine ⟨_, rfl, _, rfl, p, p, _, _, rfl, rfl, hp1, hp1, by decide, fun q hq => ?_⟩
    refine ⟨_, rfl, _, rfl, _, rfl, _, rfl, _, _, rfl, rfl, _, rfl, q, _, rfl, SqL.of upd_same, fun r hr => ?_⟩
    have ej : ((j : Int) + (m : Int)) = ((j + m : Nat) : Int) := by omega
    have e1 : cutV (menu13.map V.str ++ menu13.map V.str) (some (j : Int)) (some ((j : Int) + (m : Int))) = (nm j m).map V.str := by
      rw [ej, ← List.map_append]
      exact cut_mid (by show j + m ≤ 26; omega)
    rw [e1]
    obtain ⟨f1, f2, f3⟩ := nm_facts (show j < 13 by omega) hm
    refine k (nm j m) r _ f1 nm_sub13 f3 ((B1.new hq).ne hr) upd_same ((B1.new hq).new hr) ((Kp.new hp).trans (k1.trans ((Kp.new hq).trans (Kp.new hr))))
def RowIn (xs r : List Str) : Prop := Row r ∧ ∀ c ∈ r, c ∈ xs
structure GrowN (xs : List Str) (H0 : Hp) (b l p : Addr) (n : Nat) (H : Hp) : Prop where
  bag : Bag H b l
  kp : Kp b H0 H
  qs : ∃ (ys : List V) (qs : List Qd), H p = some (.lst ys) ∧ QL H ys qs ∧ QZs qs ∧ (∀ q ∈ qs, inN xs q) ∧ qs.length = n
theorem GrowN.step {xs : List Str} {H0 H H' : Hp} {b l p : Addr} {n : Nat} (g : GrowN xs H0 b l p n H) (npb : p ≠ b) (B : Bag H' b l) (k : Kp b H H') : GrowN xs H0 b l p n H' := by
  obtain ⟨ys, qs, h1, h2, h3, h5, h4⟩ := g.qs
  exact ⟨B, g.kp.trans k, ys, qs, k _ _ h1 npb, h2.kp g.bag k, h3, h5, h4⟩
theorem GrowN.push {xs : List Str} {H0 H : Hp} {b l p q : Addr} {n : Nat} {c : List Str} {e : Str} (g : GrowN xs H0 b l p n H) (hp0 : H0 p = none) (npb : p ≠ b) (nlp : l ≠ p) (hq : QAt H q c e) (Z : QZ c e) (hin : inN xs (c, e)) :
    ∃ ys, H p = some (.lst ys) ∧ ys.length = n ∧ GrowN xs H0 b l p (n + 1) (upd H p (.lst (ys ++ [.ref q]))) := by
  obtain ⟨ys, qs, h1, h2, h3, h5, h4⟩ := g.qs
  refine ⟨ys, h1, by rw [h2.len]; exact h4, g.bag.upd npb.symm nlp, fun c' o hc ncb => ?_, ys ++ [.ref q], qs ++ [(c, e)], upd_same, QL.off (xs := ys) h1 (h2.snoc (q := (c, e)) hq), fun x hx => ?_, fun x hx => ?_, by rw [List.length_append, h4]; rfl⟩
  · rw [upd_ne (ne_of_none hc hp0)]
    exact g.kp _ _ hc ncb
  · rcases List.mem_append.mp hx with m | m
    · exact h3 x m
    · rw [List.mem_singleton.mp m]
      exact Z
  · rcases List.mem_append.mp hx with m | m
    · exact h5 x m
    · rw [List.mem_singleton.mp m]
      exact hin
def spQuestionsN : Sp := fun vs H Q _ => ∃ (b l a : Addr) (xs : List Str) (m : Nat), vs = [.ref b, .ref a, .int (m : Int)] ∧ Bag H b l ∧ a ≠ b ∧ H a = some (.lst (xs.map V.str)) ∧ Row xs ∧ m ≤ 20 ∧
  ∀ (p : Addr) (H' : Hp), H p = none → p ≠ b → l ≠ p → GrowN xs H b l p m H' → Q (.ref p) H'
abbrev nQnsN : List Str := ["_law_bag_here", "_law_names_here", "_law_many", "_law_k", "_law_rows", "_law_found", "_law_row"]
theorem scQnsN : FnScope nQnsN ["_law_bag_here", "_law_names_here", "_law_many"] (defScope sQuestions) := ⟨rfl, rfl, rfl, by decide +kernel, rfl, by decide +kernel, by decide +kernel⟩
theorem ok_questionsN {f : Addr} {fd : FuncData} (F : Fun K "_law_questions" "_law_questions" sQuestions f fd) (T : Txt K mg) (cT : Cal P w K mg base 1 "_law_take" ["_law_bag_here", "_law_upto"] spTake) (cO : Cal P w K mg base 2 "_law_one" ["_law_bag_here", "_law_some"] spOne)
    (cM : Cal P w K mg base 2 "_law_mixed" ["_law_bag_here", "_law_things"] spMixed) (cQ : Cal P w K mg base 2 "_law_question_of" ["_law_bag_here", "_law_row"] spQOf) : FnOk P w K mg base CX0 3 f fd ["_law_bag_here", "_law_names_here", "_law_many"] spQuestionsN := by
  refine F.ok scQnsN (fun vs H Q E h => ?_) (fun cdv A outer s H vs Q E hr h => ?_)
  · obtain ⟨b, l, a, xs, m, rfl, _⟩ := h
    rfl
  · obtain ⟨b, l, a, xs, m, rfl, B, nab, ha, R, hm, k⟩ := h
    have nd := scQnsN.nd
    have hr1 : Room 1 _ := hr.mono (by decide)
    refine ⟨_, pss_cons (ps_par (i := 4) (j := 5) rfl nd rfl rfl (by decide) rfl rfl (pa_cons (pe_lc (own := [("_law_k", 3)]) (g := gName 3) (tt := tYes) rfl nd
          (pi_range1 (by rfl) T.range (pa_cons (pe_op op_add pe_int (pe_call cT.G hr1 rfl cT.m cT.kp cT.b .nil pass0 (pa_cons (pv 0) (pa_cons pe_int pa_nil)))) pa_nil)) (blkOk_by (N := nQnsN) (sc := defScope sQuestions) (by decide +kernel))
          (fun _ _ _ _ _ => pg_name (i := 3) nd rfl (by first | exact Or.inl rfl | exact Or.inr rfl)) (fun _ _ _ _ _ => pts_nil) (fun _ _ _ _ _ => pe_call cM.G hr rfl cM.m cM.kp cM.b .nil pass0 (pa_cons (pv 0) (pa_cons (pv 1) pa_nil)))) (pa_cons (pe_lst pa_nil) pa_nil)) (by rfl))
      (pss_cons (ps_for PassesOwn.never rfl (pi_range1 (by rfl) T.range (pa_cons (pv 2) pa_nil)) (pg_name (i := 3) nd rfl (by first | exact Or.inl rfl | exact Or.inr rfl))
        (Evl.pss_cut (ps_set (i := 6) nd rfl (by first | exact Or.inl rfl | exact Or.inr rfl) (pe_ifExp (pt_cmpR op_gt (pe_call cT.G hr1 rfl cT.m cT.kp cT.b .nil pass0 (pa_cons (pv 0) (pa_cons pe_int pa_nil))) pe_int (nomark _))
            (pe_call cO.G hr rfl cO.m cO.kp cO.b .nil pass0 (pa_cons (pv 0) (pa_cons (pv 4) pa_nil))) (pe_call cM.G hr rfl cM.m cM.kp cM.b .nil pass0 (pa_cons (pv 0) (pa_cons (pv 1) pa_nil)))))
          (pss_one (ps_expr (pe_bm PySem.F.plainAttrs_list PySem.F.slot_list_append PySem.F.type_list_append mt_append (pv 5) (pa_cons (pe_call cQ.G hr rfl cQ.m cQ.kp cQ.b .nil pass0 (pa_cons (pv 0) (pa_cons (pv 6) pa_nil))) pa_nil))))))
      (pss_one (ps_ret (pv 5)))), ?_⟩
    have hl := R.le
    refine ⟨_, rfl, b, l, 3, rfl, B, by decide, by decide, fun j H1 hj B1 k1 => ⟨_, _, rfl, rfl, ((1 + j : Nat) : Int), by show [V.int (1 + (j : Int))] = _; rw [show (1 + (j : Int)) = ((1 + j : Nat) : Int) by omega], by omega, by omega, fun D hD => ?_⟩⟩
    have ha1 := k1 _ _ ha nab
    have Db := B1.ne hD
    have lD := B1.nel hD
    have naD : a ≠ D := ne_of_none ha1 hD
    have s2 := same_new (o := .lst []) hD
    have D0 : H D = none := by
      cases e : H D with
      | none => rfl
      | some o =>
        rw [k1 _ _ e Db] at hD
        cases hD
    refine lc_range (lo := 0) (n := 1 + j) (fun i H' => Bag H' b l ∧ Kp b H H' ∧ ∃ ys rs, H' D = some (.lst ys) ∧ LL H' ys rs ∧ (∀ r ∈ rs, RowIn xs r) ∧ ys.length = i) ⟨B1.same s2, k1.trans (Kp.of s2), [], [], upd_same, .nil, (fun r hr => nomatch hr), rfl⟩ ?_ ?_
    · rintro i H2 hi ⟨B2, k2, ys, rs, hd2, hL, hR, hy⟩
      refine ⟨rfl, Exists.intro _ ⟨rfl, Exists.intro _ ⟨rfl, b, l, a, _, rfl, B2, nab, k2 _ _ ha nab, by rw [List.length_map]; omega, fun zs p H3 hpm hpn hpb hp3 B3 k3 => ?_⟩⟩⟩
      obtain ⟨z, rfl, hz⟩ := perm_strs hpm
      have hd3 := k3 _ _ hd2 Db
      have hL3 := hL.kp B2 k3
      have pD : p ≠ D := fun e => by rw [e, hd2] at hpn; cases hpn
      refine ⟨ys, hd3, small1000 (by omega), B3.upd Db.symm lD, fun c o hc ncb => ?_, ys ++ [.ref p], rs ++ [z], upd_same, ?_, fun r hr => ?_, by rw [List.length_append, hy]; rfl⟩
      · rw [upd_ne (ne_of_none hc D0)]
        exact k3 _ _ (k2 _ _ hc ncb) ncb
      · have off : ∀ {vs : List V} {ws : List (List Str)}, (∀ x ∈ vs, x ≠ V.ref D) → LL H3 vs ws → LL (upd H3 D (.lst (ys ++ [.ref p]))) vs ws := by
          intro vs ws hne h
          induction h with
          | nil => exact .nil
          | @cons x r vs' ws' h1 _ ih =>
            obtain ⟨t, e, g⟩ := h1
            have tD : t ≠ D := fun z => hne x List.mem_cons_self (by rw [e, z])
            exact .cons ⟨t, e, by rw [upd_ne tD]; exact g⟩ (ih fun y hy => hne y (List.mem_cons_of_mem _ hy))
        refine off (fun x hx e => ?_) (paired_app hL3 (.cons ⟨p, rfl, hp3⟩ .nil))
        rcases List.mem_append.mp hx with m1 | m1
        · obtain ⟨t, r, e1, hr1, e2⟩ := hL.mem x m1
          have et : t = D := by rw [e1] at e; injection e
          rw [et, hd2] at e2
          injection e2 with e2
          injection e2 with e2
          have rr := (hR r hr1).1
          obtain ⟨c0, r', er⟩ : ∃ c0 r', r = c0 :: r' := by
            cases h : r with
            | nil => have := rr.pos; rw [h] at this; exact absurd this (by decide)
            | cons c0 r' => exact ⟨c0, r', rfl⟩
          rw [er] at e2
          obtain ⟨t2, e3⟩ := hL.refs (V.str c0) (by rw [e2]; exact List.mem_cons_self)
          cases e3
        · rw [List.mem_singleton.mp m1] at e
          injection e with e
          exact pD e
      · rcases List.mem_append.mp hr with m1 | m1
        · exact hR r m1
        · rw [List.mem_singleton.mp m1]
          exact ⟨⟨hz.nodup_iff.mpr R.nd, fun c hc => R.sub _ (hz.mem_iff.mp hc), by rw [hz.length_eq]; exact R.pos, by rw [hz.length_eq]; exact R.le⟩, fun c hc => hz.mem_iff.mp hc⟩
    · rintro H2 ⟨B2, k2, ys, rs, hd2, hL, hR, hy⟩
      refine ⟨by decide, fun p hp => ⟨_, _, rfl, ?_⟩⟩
      have s3 := same_new (o := .lst []) hp
      have pb := B2.ne hp
      have lp := B2.nel hp
      have p0 : H p = none := by
        cases e : H p with
        | none => rfl
        | some o =>
          rw [k2 _ _ e pb] at hp
          cases hp
      have Dp' : D ≠ p := ne_of_none hd2 hp
      refine ⟨_, rfl, (m : Int), rfl, by omega, by omega, ?_⟩
      refine for_range (lo := 0) (n := m) (fun i σ H' => (∃ v3 v6, σ = [some (.ref b), some (.ref a), some (.int (m : Int)), v3, some (.ref D), some (.ref p), v6]) ∧ GrowN xs H b l p i H' ∧ H' D = some (.lst ys) ∧ LL H' ys rs)
        ⟨⟨_, _, rfl⟩, ⟨B2.same s3, k2.trans (Kp.of s3), [], [], upd_same, .nil, (fun q hq => nomatch hq), (fun q hq => nomatch hq), rfl⟩, s3 _ _ hd2, hL.same s3⟩ ?_ ?_
      · rintro i σ H3 hi ⟨⟨v3, v6, rfl⟩, G, hd3, hL3⟩
        refine ⟨fun σ' H' => ∃ (t : Addr) (r : List Str), σ' = [some (.ref b), some (.ref a), some (.int (m : Int)), some (.int (0 + (i : Int))), some (.ref D), some (.ref p), some (.ref t)] ∧ GrowN xs H b l p i H' ∧ H' D = some (.lst ys) ∧ LL H' ys rs ∧ H' t = some (.lst (r.map V.str)) ∧ RowIn xs r, ?_, ?_⟩
        · refine ⟨_, rfl, b, l, 3, rfl, G.bag, by decide, by decide, fun j2 H4 hj2 B4 k4 => ⟨_, 0, rfl, rfl, _, rfl, ?_⟩⟩
          have G4 := G.step pb B4 k4
          have hd4 := k4 _ _ hd3 Db
          have hL4 := hL3.kp G.bag k4
          refine ite2 (fun _ => ?_) (fun _ => ?_)
          · refine ⟨_, rfl, _, rfl, b, l, D, ys, rfl, B4, Db, hd4, by intro e; rw [e] at hy; simp at hy; omega, by omega, fun x H5 hx B5 k5 => ?_⟩
            obtain ⟨t, r, rfl, hr5, htr⟩ := (hL4.kp B4 k5).mem x hx
            exact ⟨t, r, rfl, G4.step pb B5 k5, k5 _ _ hd4 Db, hL4.kp B4 k5, htr, hR r hr5⟩
          · refine ⟨_, rfl, _, rfl, b, l, a, _, rfl, B4, nab, G4.kp _ _ ha nab, by rw [List.length_map]; omega, fun zs t H5 hpm htn htb ht5 B5 k5 => ?_⟩
            obtain ⟨z, rfl, hz⟩ := perm_strs hpm
            exact ⟨t, z, rfl, G4.step pb B5 k5, k5 _ _ hd4 Db, hL4.kp B4 k5, ht5, ⟨hz.nodup_iff.mpr R.nd, fun c hc => R.sub _ (hz.mem_iff.mp hc), by rw [hz.length_eq]; exact R.pos, by rw [hz.length_eq]; exact R.le⟩, fun c hc => hz.mem_iff.mp hc⟩
        · rintro σ4 H4 ⟨t, r, rfl, G4, hd4, hL4, ht4, Rr⟩
          obtain ⟨ys4, qs4, hp4, _⟩ := id G4.qs
          refine ⟨_, rfl, .inl ⟨rfl, _, SqL.of hp4⟩, _, rfl, _, rfl, b, l, t, r, rfl, G4.bag, G4.bag.ne_strs ht4, .inl ht4, Rr.1, fun q c e H5 hq5 ok5 B5 k5 => ?_⟩
          obtain ⟨us, g1, g2, g3⟩ := (G4.step pb B5 k5).push p0 pb lp hq5 (ok5.qz Rr.1) ⟨fun z hz => Rr.2 z (ok5.sub z hz), ok5.esub.imp id fun h => Rr.2 _ h⟩
          have hd5 := k5 _ _ hd4 Db
          refine ⟨p, us, _, rfl, rfl, g1, small1000 (by omega), ⟨_, _, rfl⟩, g3, by rw [upd_ne Dp']; exact hd5, ?_⟩
          have hL5 := hL4.kp G4.bag k5
          have off : ∀ {vs : List V} {ws : List (List Str)}, (∀ r ∈ ws, Row r) → LL H5 vs ws → LL (upd H5 p (.lst (us ++ [.ref q]))) vs ws := by
            intro vs ws hw h
            induction h with
            | nil => exact .nil
            | @cons x r' vs' ws' h1 _ ih =>
              obtain ⟨t', e', g'⟩ := h1
              have tp : t' ≠ p := fun z => by
                rw [z, g1] at g'
                injection g' with g'
                injection g' with g'
                have rr := hw r' List.mem_cons_self
                obtain ⟨c0, r'', er⟩ : ∃ c0 r'', r' = c0 :: r'' := by
                  cases h : r' with
                  | nil => have := rr.pos; rw [h] at this; exact absurd this (by decide)
                  | cons c0 r'' => exact ⟨c0, r'', rfl⟩
                obtain ⟨ysg, qsg, hg1, hg2, _⟩ := (G4.step pb B5 k5).qs
                rw [g1] at hg1
                injection hg1 with hg1
                injection hg1 with hg1
                subst hg1
                obtain ⟨t2, e3⟩ := hg2.refs (V.str c0) (by rw [g', er]; exact List.mem_cons_self)
                cases e3
              exact .cons ⟨t', e', by rw [upd_ne tp]; exact g'⟩ (ih fun r0 h0 => hw r0 (List.mem_cons_of_mem _ h0))
          exact off (fun r hr => (hR r hr).1) hL5
      · rintro σ H3 ⟨⟨v3, v6, rfl⟩, G, hd3, hL3⟩
        exact ⟨_, rfl, k p H3 p0 pb lp G⟩
end
end Qk
set_option maxRecDepth 100000
set_option maxHeartbeats 4000000
namespace Qk
open PySem PySem.Spec PyProof.Rows L2
section
variable {P : Program} {w : World} {K : PySem.W.Frag} {mg : Str → Option Value} {base : Heap}
/-- the columns of a question, as the law has them -/
def spLAll : Sp := fun vs H Q _ => ∃ (q : Addr) (cols : List Str) (e : Str), vs = [.ref q] ∧ QAt H q cols e ∧ QZ cols e ∧ ∀ (p : Addr) (H' : Hp), Same H H' → H p = none → H' p = some (.lst ((rowC cols e).map V.str)) → Q (.ref p) H'
theorem scLAll : FnScope ["_law_question"] ["_law_question"] (defScope sLAll) := ⟨rfl, rfl, rfl, by decide +kernel, rfl, by decide +kernel, by decide +kernel⟩
theorem ok_lall {f : Addr} {fd : FuncData} (F : Fun K "_law_all" "_law_all" sLAll f fd) (T : Txt K mg) : FnOk P w K mg base CX0 1 f fd ["_law_question"] spLAll := by
  refine F.ok scLAll (fun vs H Q E h => ?_) (fun cdv A outer s H vs Q E hr h => ?_)
  · obtain ⟨q, cols, e, rfl, _⟩ := h
    rfl
  · obtain ⟨q, cols, e, rfl, ⟨c, hq, hc⟩, Z, k⟩ := h
    refine ⟨_, (pss_one (ps_ret (pe_op op_cat (pe_callTy call_list_of (by rfl) T.list (by decide +kernel) (pa_cons (pe_ix ix_tup (pv 0) pe_int fun _ _ => rfl) pa_nil)) (pe_op op_rep (pe_lst (pa_cons (pe_ix ix_tup (pv 0) pe_int fun _ _ => rfl) pa_nil)) (pe_callTy call_int1 (by rfl) T.int (by decide +kernel) (pa_cons (pe_cmpR op_ne (pe_ix ix_tup (pv 0) pe_int fun _ _ => rfl) pe_str (nomark _)) pa_nil)))))), ?_⟩
    refine ⟨_, rfl, q, _, 0, _, rfl, rfl, SqT.of hq, rfl, c, _, rfl, .inr (SqT.of hc), fun p hp => ?_⟩
    have s1 := same_new (o := .lst (cols.map V.str)) hp
    refine ⟨_, rfl, q, _, 1, _, rfl, rfl, SqT.of (s1 _ _ hq), rfl, by show 1 ≤ sizeLine; decide, fun d hd => ?_⟩
    have s2 := same_new (o := .lst [V.str e]) hd
    refine ⟨_, rfl, q, _, 1, _, rfl, rfl, SqT.of (s2 _ _ (s1 _ _ hq)), rfl, rfl, .inr ⟨_, rfl, ?_⟩⟩
    have hdl : (upd (upd H p (.lst (cols.map V.str))) d (.lst [V.str e])) d = some (.lst [V.str e]) := upd_same
    have hpl := s2 _ _ (show (upd H p (.lst (cols.map V.str))) p = _ from upd_same)
    have s12 := s1.trans s2
    generalize upd (upd H p (.lst (cols.map V.str))) d (.lst [V.str e]) = H2 at s12 hdl hpl ⊢
    refine ⟨d, _, _, rfl, rfl, hdl, ?_, ?_, ?_, fun r hr => ?_⟩
    · split <;> decide
    · split <;> decide
    · split <;> (rw [sizeLine_eq]; simp)
    have s3 := same_new (o := .lst (List.replicate (if (!decide (V.str e = V.str "")) = true then (1 : Int) else 0).toNat [V.str e]).flatten) hr
    refine ⟨p, r, _, _, rfl, rfl, s3 _ _ hpl, upd_same, ?_, fun u hu => ?_⟩
    · rw [sizeLine_eq, List.length_map]
      have := Z.m.le
      split <;> simp <;> omega
    have s4 := same_new (o := .lst (cols.map V.str ++ (List.replicate (if (!decide (V.str e = V.str "")) = true then (1 : Int) else 0).toNat [V.str e]).flatten)) hu
    have uN : H u = none := by
      cases e' : H u with
      | none => rfl
      | some o => rw [s3 _ _ (s12 _ _ e')] at hu; cases hu
    refine k u _ (s12.trans (s3.trans s4)) uN ?_
    rw [upd_same]
    unfold rowC
    by_cases he : e = ""
    · rw [if_pos he, decide_eq_true (congrArg V.str he)]
      simp
    · rw [if_neg he, decide_eq_false (fun h => he (by injection h))]
      simp
/-- sorted(set(..)) of the columns of all -/
def spLCols : Sp := fun vs H Q _ => ∃ (a : Addr) (xs : List V) (zs : List Qd), vs = [.ref a] ∧ H a = some (.lst xs) ∧ QL H xs zs ∧ QZs zs ∧ xs.length ≤ 60 ∧
  ∀ (H' : Hp) (p : Addr) (cs : List Str), Same H H' → H p = none → H' p = some (.lst (cs.map V.str)) → cs.Nodup → sortedS cs = true → (∀ c, c ∈ cs ↔ ∃ z ∈ zs, c ∈ allC z.1 z.2) → Q (.ref p) H'
abbrev nLC : List Str := ["_law_questions_here", "_law_question", "_law_found"]
theorem scLCols : FnScope nLC ["_law_questions_here"] (defScope sLCols) := ⟨rfl, rfl, rfl, by decide +kernel, rfl, by decide +kernel, by decide +kernel⟩
theorem ok_lcols {f : Addr} {fd : FuncData} (F : Fun K "_law_columns" "_law_columns" sLCols f fd) (T : Txt K mg) (cA : Cal P w K mg base 1 "_law_all" ["_law_question"] spLAll) : FnOk P w K mg base CX0 2 f fd ["_law_questions_here"] spLCols := by
  refine F.ok scLCols (fun vs H Q E h => ?_) (fun cdv A outer s H vs Q E hr h => ?_)
  · obtain ⟨a, xs, zs, rfl, _⟩ := h
    rfl
  · obtain ⟨a, xs, zs, rfl, ha, hq, hz, hl, k⟩ := h
    have nd := scLCols.nd
    refine ⟨_, (pss_cons (ps_set (i := 2) nd rfl (by first | exact Or.inl rfl | exact Or.inr rfl) (pe_lst pa_nil))
      (pss_cons (ps_for PassesOwn.never rfl (pi_list (pv 0)) (pg_name (i := 1) nd rfl (by first | exact Or.inl rfl | exact Or.inr rfl)) (pss_one (ps_set (i := 2) nd rfl (by first | exact Or.inl rfl | exact Or.inr rfl) (pe_op op_cat (pv 2) (pe_call cA.G hr rfl cA.m cA.kp cA.b .nil pass0 (pa_cons (pv 1) pa_nil))))))
      (pss_one (ps_ret (pe_callB (Qk.cr_sortT rfl) (by rfl) T.sorted (by decide +kernel) (pa_cons (pe_callTy (cr_setW rfl) (by rfl) T.set (by decide +kernel) (pa_cons (pv 2) pa_nil)) pa_nil)))))), ?_⟩
    refine ⟨by decide, fun p hp => ?_⟩
    have s1 := same_new (o := .lst []) hp
    refine ⟨_, rfl, a, rfl, ⟨_, SqL.of (s1 _ _ ha)⟩, for_list (K := K) (a := a) (xs := xs) (fun i σ G => ∃ (g : Option V) (p : Addr) (cs : List Str), σ = [some (.ref a), g, some (.ref p)] ∧ Same H G ∧ G p = some (.lst (cs.map V.str)) ∧ cs.length ≤ 12 * i ∧ ∀ c, c ∈ cs ↔ ∃ z ∈ zs.take i, c ∈ allC z.1 z.2)
      ⟨none, p, [], rfl, s1, upd_same, Nat.le_refl _, fun c => by simp⟩ (fun i σ G _ ⟨_, _, _, _, s, _⟩ => SqL.of (s _ _ ha)) ?_ ?_⟩
    · rintro i x σ G hx ⟨g, p, cs, rfl, s1, hp, hcl, hm⟩
      obtain ⟨t, z, rfl, hzi, hzt⟩ := (hq.same s1).at_ hx
      have Z := hz z (List.mem_of_getElem? hzi)
      have il : i < 60 := Nat.lt_of_lt_of_le (List.getElem?_eq_some_iff.mp hx).1 hl
      have tk : zs.take (i + 1) = zs.take i ++ [z] := by rw [List.take_add_one, hzi]; rfl
      refine ⟨_, rfl, _, rfl, t, z.1, z.2, rfl, hzt, Z, fun r G1 s2 hrN hr => ?_⟩
      have rl := Z.row_le
      refine ⟨p, r, _, _, rfl, rfl, s2 _ _ hp, hr, by rw [sizeLine_eq, List.length_map, List.length_map]; omega, fun u hu => ?_⟩
      refine ⟨_, u, cs ++ rowC z.1 z.2, rfl, s1.trans (s2.trans (same_new hu)), by rw [upd_same, List.map_append], by rw [List.length_append]; omega, fun c => ?_⟩
      rw [List.mem_append, hm c, mem_row, tk]
      simp [List.mem_append, or_and_right, exists_or]
    · rintro σ G ⟨g, p, cs, rfl, s1, hp, hcl, hm⟩
      rw [hq.len, List.take_of_length_le (Nat.le_refl _)] at hm
      refine ⟨_, rfl, p, cs, rfl, .inl (SqL.of hp), by omega, fun d ys hd nd2 hmem hyl => ?_⟩
      have yl : ys.length ≤ 34 := by
        refine Nat.le_trans (nodup_len ys menu nd2 fun c hc => ?_) (by decide)
        obtain ⟨z, m, hc2⟩ := (hm c).mp ((hmem c).mp hc)
        exact (hz z m).menu c hc2
      refine ⟨d, ys, rfl, upd_same, by omega, fun ws u hpm hs hu => ?_⟩
      have s2 := s1.trans ((same_new (o := TxtO P w d ys) hd).trans (same_new (o := .lst (ws.map V.str)) hu))
      have uN : H u = none := by
        cases e' : H u with
        | none => rfl
        | some o => exact absurd ((same_new (o := TxtO P w d ys) hd _ _ (s1 _ _ e')).symm.trans hu) (by simp)
      exact k _ u ws s2 uN upd_same (hpm.nodup_iff.mpr nd2) hs fun c => hpm.mem_iff.trans ((hmem c).trans (hm c))
theorem cols_uniq {cs ds : List Str} (h1 : cs.Nodup) (h2 : sortedS cs = true) (g1 : ds.Nodup) (g2 : sortedS ds = true) (h : ∀ c, c ∈ cs ↔ c ∈ ds) : cs = ds := perm_sorted ((List.perm_ext_iff_of_nodup h1 g1).mpr h) (sortedS_pw h2) (sortedS_pw g2)
end
end Qk
set_option maxRecDepth 100000
set_option maxHeartbeats 4000000
set_option maxRecDepth 100000
set_option maxHeartbeats 4000000
namespace Qk
open PySem PySem.Spec PyProof.Rows L2 PySem.W
/-- how many questions of a width -/
def cnt (b : Bool) (n w : Int) : Int := if b = true then mcComb n w else mcComb n (w - 1) * (n - w + 1)
/-- y is the count of a width of at least l -/
def InS (b : Bool) (n l : Nat) (y : Int) : Prop := ∃ w : Nat, l ≤ w ∧ w ≤ n ∧ y = cnt b n w
def IsTop (b : Bool) (n l : Nat) (m : Int) : Prop := InS b n l m ∧ ∀ y, InS b n l y → y ≤ m
theorem IsTop.uniq {b : Bool} {n l : Nat} {m m' : Int} (h : IsTop b n l m) (h' : IsTop b n l m') : m = m' := Int.le_antisymm (h'.2 _ h.1) (h.2 _ h'.1)
def PairAt (H : Hp) (x : V) (r : Int × Int) : Prop := ∃ t, x = .ref t ∧ H t = some (.tup [.int r.1, .int r.2])
inductive PL (H : Hp) : List V → List (Int × Int) → Prop
  | nil : PL H [] []
  | cons {x : V} {xs : List V} {r : Int × Int} {rs : List (Int × Int)} : PairAt H x r → PL H xs rs → PL H (x :: xs) (r :: rs)
theorem PairAt.same {H H' : Hp} {x : V} {r : Int × Int} (s : Same H H') (h : PairAt H x r) : PairAt H' x r := by
  obtain ⟨t, e, h⟩ := h
  exact ⟨t, e, s _ _ h⟩
theorem PL.same {H H' : Hp} {xs : List V} {rs : List (Int × Int)} (s : Same H H') (h : PL H xs rs) : PL H' xs rs := by
  induction h with
  | nil => exact .nil
  | cons a _ ih => exact .cons (a.same s) ih
theorem PL.len {H : Hp} {xs : List V} {rs : List (Int × Int)} (h : PL H xs rs) : xs.length = rs.length := by
  induction h with
  | nil => rfl
  | cons _ _ ih => rw [List.length_cons, List.length_cons, ih]
theorem PL.snoc {H : Hp} {xs : List V} {rs : List (Int × Int)} {x : V} {r : Int × Int} (h : PL H xs rs) (hx : PairAt H x r) : PL H (xs ++ [x]) (rs ++ [r]) := by
  induction h with
  | nil => exact .cons hx .nil
  | cons a _ ih => exact .cons a ih
theorem PL.get {H : Hp} {xs : List V} {rs : List (Int × Int)} (h : PL H xs rs) : ∀ {i : Nat} {x : V}, xs[i]? = some x → ∃ r, rs[i]? = some r ∧ PairAt H x r := by
  induction h with
  | nil =>
    intro i x e
    cases e
  | cons a _ ih =>
    intro i x e
    cases i with
    | zero =>
      obtain rfl := Option.some.inj e
      exact ⟨_, rfl, a⟩
    | succ i => exact ih (i := i) e
def dP (r : Int × Int) : PyData := .tuple [.int r.1, .int r.2]
theorem PL.dp {K : PySem.W.Frag} {H : Hp} {xs : List V} {rs : List (Int × Int)} (h : PL H xs rs) : DpAll K H xs (rs.map dP) := by
  induction h with
  | nil => exact .nil
  | cons a _ ih =>
    obtain ⟨t, rfl, a⟩ := a
    exact .cons (.tup (SqT.of a) (.cons (.int _) (.cons (.int _) .nil))) ih
theorem dok_bigint {i : Int} (h : i.natAbs < 10 ^ 60) : DOk (.int i) := ⟨fine_int h, by show 0 ≤ 50; decide, by show 64 ≤ 1000000; decide⟩
end Qk
set_option maxRecDepth 100000
set_option maxHeartbeats 4000000
namespace Qk
open PySem PySem.Spec PyProof.Rows L2
section
variable {P : Program} {w : World} {K : PySem.W.Frag} {mg : Str → Option Value} {base : Heap}
/-- the class Asked, with all that the law asks of it -/
structure ACl (P : Program) (w : World) (K : PySem.W.Frag) (mg : Str → Option Value) (base : Heap) (C : Addr) where
  T : TxA K mg C
  N : TxN K C
  (fI fE fQ fC fL fT fN : Addr)
  (dI dE dQ dC dL dT dN : FuncData)
  mkK : Mk K C fI
  gI : FnOk P w K mg base CX0 5 fI dI ["self", "questions"] (spAInit C)
  bI : Binds K dI ["self", "questions"] []
  oE : OwnEq K C fE
  gE : FnOk P w K mg base CX0 1 fE dE ["self", "other"] (spAEqX K C)
  bE : Binds K dE ["self", "other"] []
  nf : PySem.W.notFirst K C (.ref C) = true
  mQ : Meth K C "questions" fQ
  gQ : FnOk P w K mg base CX0 1 fQ dQ ["self"] (spAQns C)
  bQ : Binds K dQ ["self"] []
  mC : Meth K C "columns" fC
  gC : FnOk P w K mg base CX0 3 fC dC ["self"] (spColumns C)
  bC : Binds K dC ["self"] []
  oL : OwnLen K C fL
  gL : FnOk P w K mg base CX0 1 fL dL ["self"] (spLenF C "_questions")
  bL : Binds K dL ["self"] []
  oIt : OwnIt K C fT
  gIt : FnS P w K mg base 1 fT dT ["self"] (spIterF C "_questions")
  bIt : Binds K dT ["self"] []
  oN : OwnIn K C fN
  gN : FnOk P w K mg base CX0 4 fN dN ["self", "x"] (spAIn C)
  bN : Binds K dN ["self", "x"] []
theorem dok_lstrs {xs : List Str} (h : ∀ c ∈ xs, okS c = true) (hl : xs.length ≤ 100) : DOk (.list (xs.map PyData.str)) :=
  ⟨fine_strs h, by show PyData.depthAll _ + 1 ≤ 50; rw [depth_strs]; decide, by show costAll _ + 3 ≤ _; rw [cost_strs]; omega⟩
theorem dok_int1000 {n : Nat} (h : n ≤ 1000) : DOk (.int (n : Int)) := dok_bigint (by
  show n < 10 ^ 60
  omega)
theorem AsV.ins {H : Hp} {C a : Addr} {zs : List Qd} (h : AsV H C a zs) : ∃ dx fs, H a = some (.ins C dx fs) ∧ ∀ m : Str, m ≠ "_questions" → List.lookup m fs = none := by
  obtain ⟨l, ys, ⟨dx, h1, h2⟩, _⟩ := h
  exact ⟨dx, _, h1, fun m hm => by
    show (match m == ("_questions" : Str) with | true => _ | false => _) = none
    rw [show (m == ("_questions" : Str)) = false from beq_eq_false_iff_ne.mpr hm]
    rfl⟩
def spRight (C : Addr) : Sp := fun vs H Q _ => ∃ (a o : Addr) (ys : List V) (zs : List Qd), vs = [.ref a, .ref o] ∧ AsV H C a zs ∧ H o = some (.lst ys) ∧ QL H ys zs ∧ QZs zs ∧ zs.length ≤ 48 ∧ ∀ H', Same H H' → Q (.bl true) H'
abbrev nRight : List Str := ["_law_asked", "_law_due", "_law_again", "_law_some", "_law_names_here"]
theorem scRight : FnScope nRight ["_law_asked", "_law_due"] (defScope sRight) := ⟨rfl, rfl, rfl, by decide +kernel, rfl, by decide +kernel, by decide +kernel⟩
theorem ok_right {f C : Addr} {fd : FuncData} (F : Fun K "_law_right" "_law_right" sRight f fd) (T : Txt K mg) (AC : ACl P w K mg base C) (cA : CalG P w K mg base 1 "_law_alike" ["_law_found", "_law_due"] (spAlikeD K))
    (cLC : Cal P w K mg base 2 "_law_columns" ["_law_questions_here"] spLCols) : FnG P w K mg base 5 f fd ["_law_asked", "_law_due"] (spRight C) := by
  refine okG F scRight (fun vs H Q E h => ?_) (fun cdv AA outer s H vs Q E hr hg h => ?_)
  · obtain ⟨a, o, ys, zs, rfl, _⟩ := h
    rfl
  · obtain ⟨a, o, ys, zs, rfl, hA, ho, hq, hz, hl, k⟩ := h
    have nd := scRight.nd
    have hr1 : Room 1 _ := hr.mono (by decide)
    have hr2 : Room 2 _ := hr.mono (by decide)
    have hr3 : Room 3 _ := hr.mono (by decide)
    have hr4 : Room 4 _ := hr.mono (by decide)
    refine ⟨_, (pss_cons (ps_for PassesOwn.never rfl (pi_range1 (by rfl) T.range (pa_cons pe_int pa_nil)) (pg_name (i := 2) nd rfl (by first | exact Or.inl rfl | exact Or.inr rfl)) (pss_cons (ps_par (i := 3) (j := 4) rfl nd rfl rfl (by decide) rfl rfl (pa_cons (pe_meth0 (pv 0) AC.T.cl AC.mQ AC.gQ hr1 AC.bQ .nil pass0) (pa_cons (pe_meth0 (pv 0) AC.T.cl AC.mC AC.gC hr3 AC.bC .nil pass0) pa_nil)) rfl)
      (pss_cons (ps_if (PW.pt (pw_or (pt_not (pt_val (pe_callg cA.G hr1 hg rfl cA.m cA.kp cA.b (pa_cons (pv 3) (pa_cons (pv 1) pa_nil))))) (pw_or1 (pt_not (pt_val (pe_callg cA.G hr1 hg rfl cA.m cA.kp cA.b (pa_cons (pv 4) (pa_cons (pe_call cLC.G hr2 rfl cLC.m cLC.kp cLC.b .nil pass0 (pa_cons (pv 1) pa_nil)) pa_nil)))))))) (pss_one (ps_ret pe_bl)) pss_nil)
      (pss_cons (ps_if (PW.pt (pw_or (pt_not (pt_val (pe_callg cA.G hr1 hg rfl cA.m cA.kp cA.b (pa_cons (pe_callTy (call_listOwnF rfl AC.oIt AC.gIt AC.bIt AC.oL AC.gL AC.bL hr4) (by rfl) T.list (by decide +kernel) (pa_cons (pv 0) pa_nil)) (pa_cons (pv 1) pa_nil))))) (pw_or1 (pt_not (pt_val (pe_callg cA.G hr1 hg rfl cA.m cA.kp cA.b (pa_cons (pe_callB (r := rLenOwn C "_questions") (call_lenOwn AC.oL AC.gL AC.bL hr2) (by rfl) T.len (by decide +kernel) (pa_cons (pv 0) pa_nil)) (pa_cons (pe_callB call_len_seq (by rfl) T.len PySem.boot_len (pa_cons (pv 1) pa_nil)) pa_nil)))))))) (pss_one (ps_ret pe_bl)) pss_nil)
      (pss_cons (ps_expr (pe_bm PySem.F.plainAttrs_list PySem.F.slot_list_append PySem.F.type_list_append mt_append (pv 3) (pa_cons pe_non pa_nil)))
      (pss_one (ps_expr (pe_bm PySem.F.plainAttrs_list PySem.F.slot_list_append PySem.F.type_list_append mt_append (pv 4) (pa_cons pe_non pa_nil)))))))))
      (pss_one (ps_ret pe_bl))), ?_⟩
    refine ⟨_, rfl, by decide, by decide, ?_⟩
    have hf : ∀ q ∈ zs, Qfine q := hz.fine'
    have lq := hq.len
    refine for_range (lo := 0) (n := 2) (fun i σ H' => (∃ g s n, σ = [some (.ref a), some (.ref o), g, s, n]) ∧ Same H H') ⟨⟨_, _, _, rfl⟩, Same.refl _⟩ ?_ ?_
    · rintro i σ H1 hi ⟨⟨g, sm, n, rfl⟩, s1⟩
      have hA1 := hA.same s1
      have hA1' := hA1
      obtain ⟨l, xs, ⟨dx, ha1, hl1⟩, hq1⟩ := hA1'
      have lx := hq1.len
      refine ⟨_, rfl, a, dx, _, rfl, ha1, rfl, a, zs, rfl, hA1, fun p us H2 s2 hp2 hpl2 hu2 => ?_⟩
      refine ⟨_, rfl, a, dx, _, rfl, s2 _ _ ha1, rfl, a, l, xs, zs, rfl, ⟨dx, _, s2 _ _ ha1, rfl, s2 _ _ hl1⟩, hq1.same s2, hz, fun H3 c cs s3 hc3 hcl3 ncs scs mcs => ?_⟩
      refine ⟨_, _, rfl, ?_⟩
      have s13 := s1.trans (s2.trans s3)
      have ho3 := s13 _ _ ho
      have hq3 := hq.same s13
      have hp3 := s3 _ _ hpl2
      have hu3 := hu2.same s3
      have cmenu : ∀ x ∈ cs, x ∈ menu := fun x hx => by
        obtain ⟨z, m, h⟩ := (mcs x).mp hx
        exact (hz z m).menu x h
      have cl : cs.length ≤ 34 := Nat.le_trans (nodup_len cs menu ncs cmenu) (by decide)
      have cok : ∀ x ∈ cs, okS x = true := fun x hx => menu_okS x (cmenu x hx)
      refine ⟨_, rfl, _, rfl, .ref p, .ref o, .list (zs.map dq), rfl, .lst (SqL.of hp3) hu3.dp, .lst (SqL.of ho3) hq3.dp, dok_qs3 hf (by omega), _, rfl, ?_⟩
      refine iteF ?_
      refine ⟨_, rfl, _, rfl, o, ys, zs, rfl, ho3, hq3, hz, by omega, fun H4 d ds s4 hd4 hdl4 nds sds mds => ?_⟩
      have ec : cs = ds := cols_uniq ncs scs nds sds fun x => (mcs x).trans (mds x).symm
      refine ⟨.ref c, .ref d, .list (cs.map PyData.str), rfl, .lst (SqL.of (s4 _ _ hcl3)) (dp_strs _), .lst (SqL.of hdl4) (ec ▸ dp_strs _), dok_lstrs cok (by omega), _, rfl, ?_⟩
      refine iteF ?_
      have s14 := s13.trans s4
      have ho4 := s14 _ _ ho
      have s34 := s2.trans (s3.trans s4)
      refine ⟨_, rfl, a, l, xs, rfl, ⟨dx, _, s34 _ _ ha1, rfl, s34 _ _ hl1⟩, by omega, fun e he => ?_⟩
      have s5 := same_new (o := .lst xs) he
      refine ⟨_, rfl, .ref e, .ref o, .list (zs.map dq), rfl, .lst (SqL.of upd_same) ((hq1.same s34).same s5).dp, .lst (SqL.of (s5 _ _ ho4)) (hq.same (s14.trans s5)).dp, dok_qs3 hf (by omega), _, rfl, ?_⟩
      refine iteF ?_
      refine ⟨_, rfl, a, l, xs, rfl, ⟨dx, _, s5 _ _ (s34 _ _ ha1), rfl, s5 _ _ (s34 _ _ hl1)⟩, by omega, ?_⟩
      refine ⟨_, rfl, o, ys, rfl, .inl (SqL.of (s5 _ _ ho4)), .int xs.length, .int ys.length, .int ((zs.length : Nat) : Int), rfl, ?_, ?_, dok_int1000 (by omega), _, rfl, ?_⟩
      · rw [lx]
        exact .int _
      · rw [lq]
        exact .int _
      refine iteF ?_
      have hp5 := s5 _ _ (s4 _ _ hp3)
      have hc5 := s5 _ _ (s4 _ _ hcl3)
      have nH : ∀ {r : Addr}, H1 r = none → H r = none := fun {r} hr => by
        cases e' : H r with
        | none => rfl
        | some u => rw [s1 _ _ e'] at hr; cases hr
      have pH := nH hp2
      have cH : H c = none := by
        cases e' : H c with
        | none => rfl
        | some u => rw [s2 _ _ (s1 _ _ e')] at hc3; cases hc3
      have npc : c ≠ p := fun e' => by rw [e', hpl2] at hc3; cases hc3
      have s15 := s14.trans s5
      refine ⟨_, rfl, .inl ⟨rfl, _, SqL.of hp5⟩, p, us, _, rfl, rfl, hp5, small1000 (by rw [hu2.len]; omega), ?_⟩
      refine ⟨_, rfl, .inl ⟨rfl, _, SqL.of (by rw [upd_ne npc]; exact hc5)⟩, c, _, _, rfl, rfl, by rw [upd_ne npc]; exact hc5, small1000 (by rw [List.length_map]; omega), ?_⟩
      refine ⟨⟨_, _, _, rfl⟩, fun b u hb => ?_⟩
      rw [upd_ne (fun e' => by rw [e', cH] at hb; cases hb), upd_ne (fun e' => by rw [e', pH] at hb; cases hb)]
      exact s15 _ _ hb
    · rintro σ H1 ⟨⟨g, sm, n, rfl⟩, s1⟩
      exact k H1 s1
end
end Qk
set_option maxRecDepth 100000
set_option maxHeartbeats 4000000
namespace Qk
open PySem PySem.Spec PyProof.Rows L2
section
variable {P : Program} {w : World} {K : PySem.W.Frag} {mg : Str → Option Value} {base : Heap}
theorem Paired.takeQ {α β : Type} {F : α → β → Prop} : ∀ {xs : List α} {ys : List β} {n : Nat}, Paired F xs ys → Paired F (xs.take n) (ys.take n)
  | _, _, 0, _ => by rw [List.take_zero, List.take_zero]; exact .nil
  | _, _, n + 1, .nil => .nil
  | _, _, n + 1, .cons r t => by rw [List.take_succ_cons, List.take_succ_cons]; exact .cons r (Paired.takeQ t)
theorem Paired.dropQ {α β : Type} {F : α → β → Prop} : ∀ {xs : List α} {ys : List β} {n : Nat}, Paired F xs ys → Paired F (xs.drop n) (ys.drop n)
  | _, _, 0, h => h
  | _, _, n + 1, .nil => .nil
  | _, _, n + 1, .cons r t => by rw [List.drop_succ_cons, List.drop_succ_cons]; exact Paired.dropQ t
theorem fineAll_map {α : Type} {g : α → PyData} : ∀ {xs : List α}, (∀ x ∈ xs, fine (g x) = true) → fineAll (xs.map g) = true
  | [], _ => rfl
  | x :: xs, h => by
    show (fine (g x) && fineAll (xs.map g)) = true
    rw [fineAll_map fun y hy => h y (List.mem_cons_of_mem _ hy), Bool.and_true]
    exact h x List.mem_cons_self
theorem costAll_map {α : Type} {g : α → PyData} {c : Nat} : ∀ {xs : List α}, (∀ x ∈ xs, cost (g x) ≤ c) → costAll (xs.map g) ≤ (c + 2) * xs.length
  | [], _ => Nat.zero_le _
  | x :: xs, h => by
    have h1 := h x List.mem_cons_self
    have h2 := costAll_map fun y hy => h y (List.mem_cons_of_mem _ hy)
    show cost (g x) + 2 + costAll (xs.map g) ≤ _
    rw [List.length_cons, Nat.mul_succ]
    omega
theorem depthAll_map {α : Type} {g : α → PyData} {e : Nat} : ∀ {xs : List α}, (∀ x ∈ xs, (g x).depth ≤ e) → PyData.depthAll (xs.map g) ≤ e
  | [], _ => Nat.zero_le _
  | x :: xs, h => by
    show max (g x).depth (PyData.depthAll (xs.map g)) ≤ e
    exact Nat.max_le.mpr ⟨h x List.mem_cons_self, depthAll_map fun y hy => h y (List.mem_cons_of_mem _ hy)⟩
theorem dok_map {α : Type} {g : α → PyData} {c e : Nat} {xs : List α} (h : ∀ x ∈ xs, fine (g x) = true ∧ (g x).depth ≤ e ∧ cost (g x) ≤ c) (he : e ≤ 49) (hl : (c + 2) * xs.length + 3 ≤ 1000000) : DOk (.list (xs.map g)) :=
  ⟨fineAll_map fun x hx => (h x hx).1, by show PyData.depthAll _ + 1 ≤ 50; have := depthAll_map (g := g) (e := e) fun x hx => (h x hx).2.1; omega, by show costAll _ + 3 ≤ _; have := costAll_map (g := g) (c := c) fun x hx => (h x hx).2.2; omega⟩
def dRow (zs : List Qd) (z : Qd) : PyData := .list ((z :: zs).map dq)
def dPr (p : Qd × Qd) : PyData := .tuple [dq p.1, dq p.2]
theorem dok_rowsQ {ws zs : List Qd} (hw : ∀ q ∈ ws, Qfine q) (hz : ∀ q ∈ zs, Qfine q) (lw : ws.length ≤ 14) (lz : zs.length ≤ 14) : DOk (.list (ws.map (dRow zs))) :=
  dok_map (e := 3) (c := 3002 * 15 + 3) (fun z hz1 => by
    have hf : ∀ q ∈ z :: zs, Qfine q := fun q hq => (List.mem_cons.mp hq).elim (fun e => e ▸ hw z hz1) (hz q)
    refine ⟨fine_qs hf, ?_, ?_⟩
    · show PyData.depthAll _ + 1 ≤ 3
      have := depth_qs (z :: zs)
      omega
    · show costAll _ + 3 ≤ _
      have := cost_qs hf
      rw [List.length_cons] at this
      omega) (by decide) (by omega)
theorem dok_prs {ps : List (Qd × Qd)} (h : ∀ p ∈ ps, Qfine p.1 ∧ Qfine p.2) (hl : ps.length ≤ 160) : DOk (.list (ps.map dPr)) :=
  dok_map (e := 3) (c := 6010) (fun p hp => by
    obtain ⟨h1, h2⟩ := h p hp
    refine ⟨?_, ?_, ?_⟩
    · show (fine (dq p.1) && (fine (dq p.2) && true)) = true
      rw [fine_q h1, fine_q h2]
      rfl
    · show max (dq p.1).depth (max (dq p.2).depth 0) + 1 ≤ 3
      rw [depth_q, depth_q]
      decide
    · show cost (dq p.1) + 2 + (cost (dq p.2) + 2 + 0) + 3 ≤ _
      have := cost_q h1
      have := cost_q h2
      omega) (by decide) (by omega)
/-- a list of lists, each of one of these and all of them -/
def RowsF (H : Hp) (p d : Addr) (zs : List Qd) (fs : List V) (ws : List Qd) : Prop := Paired (fun v z => ∃ r us, v = V.ref r ∧ r ≠ p ∧ r ≠ d ∧ H r = some (.lst us) ∧ QL H us (z :: zs)) fs ws
/-- a list of pairs of these -/
def PrF (H : Hp) (ps : List V) (L : List (Qd × Qd)) : Prop := Paired (fun v y => ∃ r t t', v = V.ref r ∧ H r = some (.tup [.ref t, .ref t']) ∧ QAt H t y.1.1 y.1.2 ∧ QAt H t' y.2.1 y.2.2) ps L
section
variable {H H' : Hp} {p d : Addr} {zs ws : List Qd} {fs ps : List V} {L : List (Qd × Qd)}
theorem RowsF.same (s : Same H H') (h : RowsF H p d zs fs ws) : RowsF H' p d zs fs ws := Paired.mapP h fun v z ⟨r, us, e, n1, n2, h1, h2⟩ => ⟨r, us, e, n1, n2, s _ _ h1, h2.same s⟩
theorem PrF.same (s : Same H H') (h : PrF H ps L) : PrF H' ps L := Paired.mapP h fun v y ⟨r, t, t', e, h1, h2, h3⟩ => ⟨r, t, t', e, s _ _ h1, h2.same s, h3.same s⟩
theorem QAt.offL {t : Addr} {c : List Str} {e : Str} {xs ys : List V} (hp : H p = some (.lst xs)) (h : QAt H t c e) : QAt (upd H p (.lst ys)) t c e := by
  obtain ⟨a, h1, h2⟩ := h
  exact ⟨a, by rw [upd_ne fun e => by rw [e, hp] at h1; cases h1]; exact h1, by rw [upd_ne fun e => by rw [e, hp] at h2; cases h2]; exact h2⟩
theorem RowsF.offP {xs ys : List V} (hp : H p = some (.lst xs)) (h : RowsF H p d zs fs ws) : RowsF (upd H p (.lst ys)) p d zs fs ws := Paired.mapP h fun v z ⟨r, us, e, n1, n2, h1, h2⟩ => ⟨r, us, e, n1, n2, by rw [upd_ne n1]; exact h1, QL.off hp h2⟩
theorem RowsF.offD {xs ys : List V} (hd : H d = some (.lst xs)) (h : RowsF H p d zs fs ws) : RowsF (upd H d (.lst ys)) p d zs fs ws := Paired.mapP h fun v z ⟨r, us, e, n1, n2, h1, h2⟩ => ⟨r, us, e, n1, n2, by rw [upd_ne n2]; exact h1, QL.off hd h2⟩
theorem PrF.off {xs ys : List V} (hp : H p = some (.lst xs)) (h : PrF H ps L) : PrF (upd H p (.lst ys)) ps L := Paired.mapP h fun v y ⟨r, t, t', e, h1, h2, h3⟩ => ⟨r, t, t', e, by rw [upd_ne fun e => by rw [e, hp] at h1; cases h1]; exact h1, h2.offL hp, h3.offL hp⟩
theorem RowsF.dp : ∀ {fs : List V} {ws : List Qd}, RowsF H p d zs fs ws → DpAll K H fs (ws.map (dRow zs))
  | _, _, .nil => .nil
  | _, _, .cons ⟨r, us, e, _, _, h1, h2⟩ t => by
    subst e
    exact .cons (.lst (SqL.of h1) h2.dp) (RowsF.dp t)
theorem PrF.dp : ∀ {ps : List V} {L : List (Qd × Qd)}, PrF H ps L → DpAll K H ps (L.map dPr)
  | _, _, .nil => .nil
  | _, _, .cons ⟨r, t, t', e, h1, h2, h3⟩ tl => by
    subst e
    exact .cons (.tup (SqT.of h1) (.cons (dp_q h2) (.cons (dp_q h3) .nil))) (PrF.dp tl)
end
def prodT (zs : List Qd) (i : Nat) : List (Qd × Qd) := (zs.take i).flatMap fun z => zs.map fun y => (z, y)
theorem prodT_succ {zs : List Qd} {i : Nat} {z : Qd} (h : zs[i]? = some z) : prodT zs (i + 1) = prodT zs i ++ zs.map fun y => (z, y) := by
  have et : zs.take (i + 1) = zs.take i ++ [z] := by rw [List.take_add_one, h]; rfl
  unfold prodT
  rw [et, List.flatMap_append]
  simp
theorem prodT_len {zs : List Qd} : ∀ {i : Nat}, i ≤ zs.length → (prodT zs i).length = i * zs.length
  | 0, _ => by simp [prodT]
  | i + 1, h => by
    rw [prodT_succ (List.getElem?_eq_getElem (by omega)), List.length_append, prodT_len (by omega), List.length_map, Nat.succ_mul]
theorem prodT_mem {zs : List Qd} {i : Nat} {y : Qd × Qd} (h : y ∈ prodT zs i) : y.1 ∈ zs ∧ y.2 ∈ zs := by
  obtain ⟨z, hz, hy⟩ := List.mem_flatMap.mp h
  obtain ⟨u, hu, rfl⟩ := List.mem_map.mp hy
  exact ⟨List.mem_of_mem_take hz, hu⟩
def spWalks (C : Addr) : Sp := fun vs H Q _ => ∃ (a o : Addr) (ys : List V) (zs : List Qd), vs = [.ref a, .ref o] ∧ AsV H C a zs ∧ H o = some (.lst ys) ∧ QL H ys zs ∧ QZs zs ∧ zs.length ≤ 12 ∧ ∀ H', Same H H' → Q (.bl true) H'
abbrev nWalks : List Str := ["_law_thing", "_law_due", "_law_found", "_law_pairs", "_law_one_here", "_law_other", "_law_wanted"]
theorem scWalks : FnScope nWalks ["_law_thing", "_law_due"] (defScope sWalks) := ⟨rfl, rfl, rfl, by decide +kernel, rfl, by decide +kernel, by decide +kernel⟩
theorem ok_walks {f C : Addr} {fd : FuncData} (F : Fun K "_law_walks_right" "_law_walks_right" sWalks f fd) (T : Txt K mg) (AC : ACl P w K mg base C) (cA : CalG P w K mg base 1 "_law_alike" ["_law_found", "_law_due"] (spAlikeD K)) : FnG P w K mg base 5 f fd ["_law_thing", "_law_due"] (spWalks C) := by
  refine okG F scWalks (fun vs H Q E h => ?_) (fun cdv AA outer s H vs Q E hr hg h => ?_)
  · obtain ⟨a, o, ys, zs, rfl, _⟩ := h
    rfl
  · obtain ⟨a, o, ys, zs, rfl, hA, ho, hq, hz, hl, k⟩ := h
    have nd := scWalks.nd
    have hr1 : Room 1 _ := hr.mono (by decide)
    have hr2 : Room 2 _ := hr.mono (by decide)
    have hr4 : Room 4 _ := hr.mono (by decide)
    have hf : ∀ q ∈ zs, Qfine q := hz.fine'
    have ly := hq.len
    obtain ⟨l, xs, ⟨dx, ha, hl0⟩, hx⟩ := hA
    have lx := hx.len
    refine ⟨_, (pss_cons (ps_par (i := 2) (j := 3) rfl nd rfl rfl (by decide) rfl rfl (pa_cons (pe_lst pa_nil) (pa_cons (pe_lst pa_nil) pa_nil)) rfl)
      (Evl.pss_cut (ps_for PassesOwn.never rfl (pi_own AC.oIt AC.gIt AC.bIt hr1 (pv 0)) (pg_name (i := 4) nd rfl (by first | exact Or.inl rfl | exact Or.inr rfl)) (pss_cons (ps_expr (pe_bm PySem.F.plainAttrs_list PySem.F.slot_list_append PySem.F.type_list_append mt_append (pv 2) (pa_cons (pe_op op_cat (pe_lst (pa_cons (pv 4) pa_nil)) (pe_callTy (call_listOwnF rfl AC.oIt AC.gIt AC.bIt AC.oL AC.gL AC.bL hr4) (by rfl) T.list (by decide +kernel) (pa_cons (pv 0) pa_nil))) pa_nil)))
      (pss_one (ps_for PassesOwn.never rfl (pi_own AC.oIt AC.gIt AC.bIt hr1 (pv 0)) (pg_name (i := 5) nd rfl (by first | exact Or.inl rfl | exact Or.inr rfl)) (pss_one (ps_expr (pe_bm PySem.F.plainAttrs_list PySem.F.slot_list_append PySem.F.type_list_append mt_append (pv 3) (pa_cons (pe_tup (pa_cons (pv 4) (pa_cons (pv 5) pa_nil))) pa_nil))))))))
      (pss_cons (ps_if (pt_not (pt_val (pe_callg cA.G hr1 hg rfl cA.m cA.kp cA.b (pa_cons (pv 2) (pa_cons (pe_lc (own := [("_law_one_here", 4)]) (g := gName 4) (tt := tYes) rfl nd (pi_list (pv 1)) (blkOk_by (N := nWalks) (sc := defScope sWalks) (by decide +kernel)) (fun _ _ _ _ _ => (pg_name (i := 4) nd rfl (by first | exact Or.inl rfl | exact Or.inr rfl))) (fun _ _ _ _ _ => pts_nil) (fun _ _ _ _ _ => (pe_op op_cat (pe_lst (pa_cons (pv 4) pa_nil)) (pv 1)))) pa_nil))))) (pss_one (ps_ret pe_bl)) pss_nil)
      (pss_cons (ps_set (i := 6) nd rfl (by first | exact Or.inl rfl | exact Or.inr rfl) (pe_lst pa_nil))
      (Evl.pss_cut (ps_for PassesOwn.never rfl (pi_list (pv 1)) (pg_name (i := 4) nd rfl (by first | exact Or.inl rfl | exact Or.inr rfl)) (pss_one (ps_set (i := 6) nd rfl (by first | exact Or.inl rfl | exact Or.inr rfl) (pe_op op_cat (pv 6) (pe_lc (own := [("_law_other", 5)]) (g := gName 5) (tt := tYes) rfl nd (pi_list (pv 1)) (blkOk_by (N := nWalks) (sc := defScope sWalks) (by decide +kernel)) (fun _ _ _ _ _ => (pg_name (i := 5) nd rfl (by first | exact Or.inl rfl | exact Or.inr rfl))) (fun _ _ _ _ _ => pts_nil) (fun _ _ _ _ _ => (pe_tup (pa_cons (pv 4) (pa_cons (pv 5) pa_nil)))))))))
      (Evl.pss_cut (ps_for PassesOwn.never rfl (pi_own AC.oIt AC.gIt AC.bIt hr1 (pv 0)) (pg_name (i := 4) nd rfl (by first | exact Or.inl rfl | exact Or.inr rfl)) (pss_cons (ps_set (i := 2) nd rfl (by first | exact Or.inl rfl | exact Or.inr rfl) (pe_lst (pa_cons (pv 4) pa_nil)))
      (pss_one ps_break)))
      (pss_one (ps_ret (pe_and (pe_callg cA.G hr1 hg rfl cA.m cA.kp cA.b (pa_cons (pv 3) (pa_cons (pv 6) pa_nil))) (pe_and (pe_or (pe_cmpR (op_eqD hr.units) (pv 1) (pe_lst pa_nil) (nomark _)) (pe_one (pe_cmpR (op_eqD hr.units) (pv 2) (pe_slice sl_list (pv 1) po_none (po_some pe_int)) (nomark _)))) (pe_one (pe_callg cA.G hr1 hg rfl cA.m cA.kp cA.b (pa_cons (pe_callTy (call_listOwnF rfl AC.oIt AC.gIt AC.bIt AC.oL AC.gL AC.bL hr4) (by rfl) T.list (by decide +kernel) (pa_cons (pv 0) pa_nil)) (pa_cons (pv 1) pa_nil)))))))))))))), ?_⟩
    refine ⟨by decide, fun p hp => ⟨by decide, fun d hd => ⟨_, _, rfl, ?_⟩⟩⟩
    have sp := same_new (o := .lst []) hp
    have sd := same_new (o := .lst []) hd
    have sA := sp.trans sd
    have npd : p ≠ d := fun e => by rw [← e, upd_same] at hd; cases hd
    have dH : H d = none := by
      cases e : H d with
      | none => rfl
      | some u => rw [sp _ _ e] at hd; cases hd
    have hp0 : (upd (upd H p (.lst [])) d (.lst [])) p = some (.lst []) := sd _ _ upd_same
    have hd0 : (upd (upd H p (.lst [])) d (.lst [])) d = some (.lst []) := upd_same
    generalize upd (upd H p (.lst [])) d (.lst []) = H0 at sA hp0 hd0 ⊢
    have nH : ∀ {r : Addr} {G : Hp}, Same H G → G r = none → H r = none := fun {r G} s hr => by
      cases e' : H r with
      | none => rfl
      | some u => rw [s _ _ e'] at hr; cases hr
    -- what stands unchanged where p and d change
    have keepP : ∀ {G : Hp} {ys' : List V}, Same H G → Same H (upd G p (.lst ys')) := fun {G ys'} s c u hc => by
      rw [upd_ne fun e => by rw [e, hp] at hc; cases hc]
      exact s c u hc
    have keepD : ∀ {G : Hp} {ys' : List V}, Same H G → Same H (upd G d (.lst ys')) := fun {G ys'} s c u hc => by
      rw [upd_ne fun e => by rw [e, dH] at hc; cases hc]
      exact s c u hc
    refine ⟨fun σ G => ∃ g4 g5 fs ps, σ = [some (.ref a), some (.ref o), some (.ref p), some (.ref d), g4, g5, none] ∧ Same H G ∧ G p = some (.lst fs) ∧ G d = some (.lst ps) ∧ RowsF G p d zs fs zs ∧ PrF G ps (prodT zs zs.length), ?_, ?_⟩
    · refine ⟨_, rfl, a, dx, l, _, xs, rfl, sA _ _ ha, rfl, sA _ _ hl0, ?_⟩
      refine for_list (K := K) (a := l) (xs := xs) (fun i σ G => ∃ g4 g5 fs ps, σ = [some (.ref a), some (.ref o), some (.ref p), some (.ref d), g4, g5, none] ∧ Same H G ∧ G p = some (.lst fs) ∧ G d = some (.lst ps) ∧ RowsF G p d zs fs (zs.take i) ∧ PrF G ps (prodT zs i))
        ⟨_, _, [], [], rfl, sA, hp0, hd0, .nil, .nil⟩ (fun i σ G _ ⟨_, _, _, _, _, s, _⟩ => SqL.of (s _ _ hl0)) ?_ ?_
      · rintro i x σ G hxi ⟨g4, g5, fs, ps, rfl, s1, hp1, hd1, hF, hP⟩
        obtain ⟨t, z, rfl, hzi, hzt⟩ := (hx.same s1).at_ hxi
        have il : i < xs.length := (List.getElem?_eq_some_iff.mp hxi).1
        refine ⟨_, rfl, .inl ⟨rfl, _, SqL.of hp1⟩, _, rfl, by show 1 ≤ sizeLine; decide, fun r1 hr1' => ?_⟩
        have n1 := same_new (o := .lst [V.ref t]) hr1'
        refine ⟨_, rfl, a, l, xs, rfl, ⟨dx, _, n1 _ _ (s1 _ _ ha), rfl, n1 _ _ (s1 _ _ hl0)⟩, by omega, fun r2 hr2' => ?_⟩
        have n2 := same_new (o := .lst xs) hr2'
        refine ⟨r1, r2, _, _, rfl, rfl, n2 _ _ upd_same, upd_same, by rw [sizeLine_eq]; simp; omega, fun r3 hr3' => ?_⟩
        have n3 := same_new (o := .lst ([V.ref t] ++ xs)) hr3'
        have n13 := n1.trans (n2.trans n3)
        have hp3 := n13 _ _ hp1
        have hd3 := n13 _ _ hd1
        have hr3l : (upd (upd (upd G r1 (.lst [V.ref t])) r2 (.lst xs)) r3 (.lst ([V.ref t] ++ xs))) r3 = some (.lst ([V.ref t] ++ xs)) := upd_same
        have s3 := s1.trans n13
        have hF3 := hF.same n13
        have hP3 := hP.same n13
        have hzt3 := hzt.same n13
        have r3p : r3 ≠ p := fun e => by
          rw [e] at hr3'
          rw [n2 _ _ (n1 _ _ hp1)] at hr3'
          cases hr3'
        have r3d : r3 ≠ d := fun e => by
          rw [e] at hr3'
          rw [n2 _ _ (n1 _ _ hd1)] at hr3'
          cases hr3'
        clear hr3' hr2' hr1'
        generalize upd (upd (upd G r1 (.lst [V.ref t])) r2 (.lst xs)) r3 (.lst ([V.ref t] ++ xs)) = G3 at n13 hp3 hd3 hr3l s3 hF3 hP3 hzt3 ⊢
        have lf : fs.length = min i zs.length := by
          rw [Paired.length hF, List.length_take]
        refine ⟨p, fs, _, rfl, rfl, hp3, small1000 (by omega), ?_⟩
        have hF4 : RowsF (upd G3 p (.lst (fs ++ [.ref r3]))) p d zs (fs ++ [.ref r3]) (zs.take (i + 1)) := by
          have et : zs.take (i + 1) = zs.take i ++ [z] := by rw [List.take_add_one, hzi]; rfl
          rw [et]
          refine Paired.snoc (RowsF.offP hp3 hF3) ⟨r3, _, rfl, r3p, r3d, by rw [upd_ne r3p]; exact hr3l, QL.off hp3 ?_⟩
          exact .cons ⟨t, rfl, hzt3⟩ (hx.same s3)
        have hP4 : PrF (upd G3 p (.lst (fs ++ [.ref r3]))) ps (prodT zs i) := hP3.off hp3
        have s4 := keepP (ys' := fs ++ [.ref r3]) s3
        have hp4 : (upd G3 p (.lst (fs ++ [.ref r3]))) p = some (.lst (fs ++ [.ref r3])) := upd_same
        have hd4 : (upd G3 p (.lst (fs ++ [.ref r3]))) d = some (.lst ps) := by rw [upd_ne npd.symm]; exact hd3
        have hzt4 : QAt (upd G3 p (.lst (fs ++ [.ref r3]))) t z.1 z.2 := hzt3.offL hp3
        clear hF3 hP3 hp3 hd3 hr3l hzt3
        generalize upd G3 p (.lst (fs ++ [.ref r3])) = G4 at hF4 hP4 s4 hp4 hd4 hzt4 ⊢
        refine ⟨_, rfl, a, dx, l, _, xs, rfl, s4 _ _ ha, rfl, s4 _ _ hl0, ?_⟩
        refine for_list (K := K) (a := l) (xs := xs) (fun j σ G => ∃ g5 ps, σ = [some (.ref a), some (.ref o), some (.ref p), some (.ref d), some (.ref t), g5, none] ∧ Same H G ∧ G p = some (.lst (fs ++ [.ref r3])) ∧ G d = some (.lst ps) ∧ RowsF G p d zs (fs ++ [.ref r3]) (zs.take (i + 1)) ∧ PrF G ps (prodT zs i ++ (zs.take j).map fun y => (z, y)) ∧ QAt G t z.1 z.2)
          ⟨_, ps, rfl, s4, hp4, hd4, hF4, by simpa using hP4, hzt4⟩ (fun j σ G _ ⟨_, _, _, s, _⟩ => SqL.of (s _ _ hl0)) ?_ ?_
        · rintro j x2 σ G5 hxj ⟨g5, ps5, rfl, s5, hp5, hd5, hF5, hP5, hzt5⟩
          obtain ⟨t2, z2, rfl, hzj, hzt2⟩ := (hx.same s5).at_ hxj
          refine ⟨_, rfl, .inl ⟨rfl, _, SqL.of hd5⟩, _, rfl, _, rfl, by show 2 ≤ sizeLine; decide, fun r hr' => ?_⟩
          have n := same_new (o := .tup [V.ref t, V.ref t2]) hr'
          have lp : ps5.length ≤ 200 := by
            rw [Paired.length hP5, List.length_append, prodT_len (by omega), List.length_map, List.length_take]
            have : i * zs.length ≤ 12 * 12 := Nat.mul_le_mul (by omega) hl
            omega
          refine ⟨d, ps5, _, rfl, rfl, n _ _ hd5, small1000 (by omega), ?_⟩
          have rd : r ≠ d := fun e => by rw [e, hd5] at hr'; cases hr'
          refine ⟨_, ps5 ++ [.ref r], rfl, keepD (s5.trans n), by rw [upd_ne npd]; exact n _ _ hp5, upd_same, RowsF.offD (n _ _ hd5) (hF5.same n), ?_, (hzt5.same n).offL (n _ _ hd5)⟩
          have et : zs.take (j + 1) = zs.take j ++ [z2] := by rw [List.take_add_one, hzj]; rfl
          rw [et, List.map_append, ← List.append_assoc]
          exact Paired.snoc ((hP5.same n).off (n _ _ hd5)) ⟨r, t, t2, rfl, by rw [upd_ne rd]; exact upd_same, (hzt5.same n).offL (n _ _ hd5), (hzt2.same n).offL (n _ _ hd5)⟩
        · rintro σ G5 ⟨g5, ps5, rfl, s5, hp5, hd5, hF5, hP5, hzt5⟩
          rw [lx, List.take_of_length_le (Nat.le_refl _), ← prodT_succ hzi] at hP5
          exact ⟨_, _, _, ps5, rfl, s5, hp5, hd5, hF5, hP5⟩
      · rintro σ G ⟨g4, g5, fs, ps, rfl, s1, hp1, hd1, hF, hP⟩
        rw [lx, List.take_of_length_le (Nat.le_refl _)] at hF
        rw [lx] at hP
        exact ⟨_, _, fs, ps, rfl, s1, hp1, hd1, hF, hP⟩
    rintro σ G ⟨g4, g5, fs, ps, rfl, s1, hp1, hd1, hF, hP⟩
    -- found against each of the due and all of them
    have ho1 := s1 _ _ ho
    refine ⟨_, rfl, _, rfl, o, rfl, ⟨_, SqL.of ho1⟩, fun D hD => ?_⟩
    have lpp : ps.length ≤ 144 := by
      rw [Paired.length hP, prodT_len (Nat.le_refl _)]
      exact Nat.mul_le_mul hl hl
    refine lc_list (K := K) (a := o) (xs := ys) (fun i G' => Same G G' ∧ ∃ gs, G' D = some (.lst gs) ∧ RowsF G' D D zs gs (zs.take i)) ⟨same_new hD, [], upd_same, .nil⟩ (fun i G' _ h => SqL.of (h.1 _ _ ho1)) ?_ ?_
    · rintro i x G1 hxi ⟨s2, gs, hDl, hG⟩
      obtain ⟨t, z, rfl, hzi, hzt⟩ := ((hq.same s1).same s2).at_ hxi
      refine ⟨rfl, Exists.intro _ ⟨rfl, by show 1 ≤ sizeLine; decide, fun r1 hr1' => ?_⟩⟩
      have n1 := same_new (o := .lst [V.ref t]) hr1'
      refine ⟨_, rfl, r1, o, _, _, rfl, rfl, upd_same, n1 _ _ (s2 _ _ ho1), by rw [sizeLine_eq]; simp; omega, fun r3 hr3' => ?_⟩
      have n3 := same_new (o := .lst ([V.ref t] ++ ys)) hr3'
      have n13 := n1.trans n3
      have hD3 := n13 _ _ hDl
      have r3D : r3 ≠ D := fun e => by
        rw [e] at hr3'
        rw [n1 _ _ hDl] at hr3'
        cases hr3'
      have lg : gs.length = min i zs.length := by
        rw [Paired.length hG, List.length_take]
      have et : zs.take (i + 1) = zs.take i ++ [z] := by rw [List.take_add_one, hzi]; rfl
      refine ⟨gs, hD3, small1000 (by omega), fun b u hb => ?_, gs ++ [.ref r3], upd_same, ?_⟩
      · rw [upd_ne (ne_of_none hb hD)]
        exact n13 _ _ (s2 _ _ hb)
      · rw [et]
        refine Paired.snoc (RowsF.offP hD3 (hG.same n13)) ⟨r3, _, rfl, r3D, r3D, by rw [upd_ne r3D]; exact upd_same, QL.off hD3 ?_⟩
        exact .cons ⟨t, rfl, hzt.same n13⟩ (hq.same (s1.trans (s2.trans n13)))
    rintro G2 ⟨s2, gs, hDl, hG⟩
    rw [ly, List.take_of_length_le (Nat.le_refl _)] at hG
    refine ⟨.ref p, .ref D, .list (zs.map (dRow zs)), rfl, .lst (SqL.of (s2 _ _ hp1)) (hF.same s2).dp, .lst (SqL.of hDl) hG.dp, dok_rowsQ hf hf (by omega) (by omega), _, rfl, ?_⟩
    refine iteF ?_
    have s02 := s1.trans s2
    have hp2 := s2 _ _ hp1
    have hd2 := s2 _ _ hd1
    have hF2 := hF.same s2
    have hP2 := hP.same s2
    clear hG hDl hD s2 hp1 hd1 hF hP s1 ho1
    refine ⟨by decide, fun w hw => ?_⟩
    have nw := same_new (o := .lst []) hw
    refine ⟨fun σ G => ∃ g4 g5 ww ws, σ = [some (.ref a), some (.ref o), some (.ref p), some (.ref d), g4, g5, some (.ref ww)] ∧ Same G2 G ∧ G ww = some (.lst ws) ∧ PrF G ws (prodT zs zs.length), ?_, ?_⟩
    · refine ⟨_, rfl, o, rfl, ⟨_, SqL.of (nw _ _ (s02 _ _ ho))⟩, for_list (K := K) (a := o) (xs := ys) (fun i σ G => ∃ g4 g5 ww ws, σ = [some (.ref a), some (.ref o), some (.ref p), some (.ref d), g4, g5, some (.ref ww)] ∧ Same G2 G ∧ G ww = some (.lst ws) ∧ PrF G ws (prodT zs i))
        ⟨_, _, w, [], rfl, nw, upd_same, .nil⟩ (fun i σ G _ ⟨_, _, _, _, _, s, _⟩ => SqL.of (s _ _ (s02 _ _ ho))) ?_ ?_⟩
      · rintro i x σ G3 hxi ⟨g4, g5, ww, ws, rfl, s3, hw3, hW⟩
        obtain ⟨t, z, rfl, hzi, hzt⟩ := ((hq.same s02).same s3).at_ hxi
        have il : i < ys.length := (List.getElem?_eq_some_iff.mp hxi).1
        have ho3 := s3 _ _ (s02 _ _ ho)
        refine ⟨_, rfl, _, rfl, o, rfl, ⟨_, SqL.of ho3⟩, fun D hD => ?_⟩
        refine lc_list (K := K) (a := o) (xs := ys) (fun j G' => Same G3 G' ∧ ∃ gs, G' D = some (.lst gs) ∧ PrF G' gs ((zs.take j).map fun y => (z, y))) ⟨same_new hD, [], upd_same, .nil⟩ (fun i G' _ h => SqL.of (h.1 _ _ ho3)) ?_ ?_
        · rintro j x2 G4 hxj ⟨s4, gs, hDl, hG⟩
          obtain ⟨t2, z2, rfl, hzj, hzt2⟩ := (((hq.same s02).same s3).same s4).at_ hxj
          refine ⟨rfl, Exists.intro _ ⟨rfl, _, rfl, by show 2 ≤ sizeLine; decide, fun r hr' => ?_⟩⟩
          have n := same_new (o := .tup [V.ref t, V.ref t2]) hr'
          have hD5 := n _ _ hDl
          have rD : r ≠ D := fun e => by rw [e, hDl] at hr'; cases hr'
          have lg : gs.length = min j zs.length := by
            rw [Paired.length hG, List.length_map, List.length_take]
          have et : zs.take (j + 1) = zs.take j ++ [z2] := by rw [List.take_add_one, hzj]; rfl
          refine ⟨gs, hD5, small1000 (by omega), fun b u hb => ?_, gs ++ [.ref r], upd_same, ?_⟩
          · rw [upd_ne (ne_of_none hb hD)]
            exact n _ _ (s4 _ _ hb)
          · rw [et, List.map_append]
            exact Paired.snoc ((hG.same n).off hD5) ⟨r, t, t2, rfl, by rw [upd_ne rD]; exact upd_same, ((hzt.same s4).same n).offL hD5, (hzt2.same n).offL hD5⟩
        · rintro G4 ⟨s4, gs, hDl, hG⟩
          rw [ly, List.take_of_length_le (Nat.le_refl _)] at hG
          have lw : ws.length ≤ 144 := by
            rw [Paired.length hW, prodT_len (by omega)]
            have : i * zs.length ≤ 12 * 12 := Nat.mul_le_mul (by omega) hl
            omega
          have lg : gs.length ≤ 12 := by
            rw [Paired.length hG, List.length_map]
            exact hl
          refine ⟨ww, D, _, _, rfl, rfl, s4 _ _ hw3, hDl, by rw [sizeLine_eq]; omega, fun u hu => ?_⟩
          have n := same_new (o := .lst (ws ++ gs)) hu
          refine ⟨_, _, u, _, rfl, s3.trans (s4.trans n), upd_same, ?_⟩
          rw [prodT_succ hzi]
          exact paired_app ((hW.same s4).same n) (hG.same n)
      · rintro σ G3 ⟨g4, g5, ww, ws, rfl, s3, hw3, hW⟩
        rw [ly] at hW
        exact ⟨_, _, ww, ws, rfl, s3, hw3, hW⟩
    rintro σ G3 ⟨g4, g5, ww, ws, rfl, s3, hw3, hW⟩
    have s03 := s02.trans s3
    have hp3 := s3 _ _ hp2
    have hd3 := s3 _ _ hd2
    have hF3 := hF2.same s3
    have hP3 := hP2.same s3
    clear hF2 hP2 hp2 hd2
    refine ⟨fun σ G => ∃ g4 g5 u us, σ = [some (.ref a), some (.ref o), some (.ref u), some (.ref d), g4, g5, some (.ref ww)] ∧ Same G3 G ∧ G u = some (.lst us) ∧ QL G us (zs.take 1), ?_, ?_⟩
    · refine ⟨_, rfl, a, dx, l, _, xs, rfl, s03 _ _ ha, rfl, s03 _ _ hl0, ?_⟩
      refine for_list (K := K) (a := l) (xs := xs) (fun i σ G => i = 0 ∧ G = G3 ∧ ∃ g4 g5, σ = [some (.ref a), some (.ref o), some (.ref p), some (.ref d), g4, g5, some (.ref ww)])
        ⟨rfl, rfl, _, _, rfl⟩ (fun i σ G _ ⟨_, e, _⟩ => SqL.of (e ▸ s03 _ _ hl0)) ?_ ?_
      · rintro i x σ G hxi ⟨rfl, rfl, g4, g5, rfl⟩
        obtain ⟨t, z, rfl, hzi, hzt⟩ := (hx.same s03).at_ hxi
        refine ⟨_, rfl, by show 1 ≤ sizeLine; decide, fun u hu => ?_⟩
        have n := same_new (o := .lst [V.ref t]) hu
        refine ⟨_, _, u, _, rfl, n, upd_same, ?_⟩
        have e1 : zs.take 1 = [z] := by
          rw [show (1 : Nat) = 0 + 1 from rfl, List.take_add_one, hzi]
          rfl
        rw [e1]
        exact .cons ⟨t, rfl, hzt.same n⟩ .nil
      · rintro σ G ⟨e0, rfl, g4, g5, rfl⟩
        have z0 : zs = [] := List.eq_nil_of_length_eq_zero (by rw [← lx, e0])
        subst z0
        cases hF3
        exact ⟨_, _, p, [], rfl, Same.refl _, hp3, .nil⟩
    rintro σ G4 ⟨g4, g5, u, us, rfl, s4, hu4, hU⟩
    have s14 := s03.trans s4
    have hpr : DOk (.list ((prodT zs zs.length).map dPr)) := dok_prs (fun y hy => ⟨hf _ (prodT_mem hy).1, hf _ (prodT_mem hy).2⟩) (by
      rw [prodT_len (Nat.le_refl _)]
      exact Nat.le_trans (Nat.mul_le_mul hl hl) (by decide))
    refine ⟨_, rfl, _, rfl, .ref d, .ref ww, .list ((prodT zs zs.length).map dPr), rfl, .lst (SqL.of (s4 _ _ hd3)) (hP3.same s4).dp, .lst (SqL.of (s4 _ _ hw3)) (hW.same s4).dp, hpr, _, rfl, ?_⟩
    refine iteT ?_
    have ho4 := s14 _ _ ho
    have hq4 := hq.same s14
    refine ⟨_, rfl, by decide, fun e he => ?_⟩
    have n := same_new (o := .lst []) he
    refine ⟨.list (zs.map dq), .list (([] : List Qd).map dq), .lst (SqL.of (n _ _ ho4)) (hq4.same n).dp, .lst (SqL.of upd_same) .nil, (dok_qs3 hf (by omega)).shaped, (dok_qs3 (qs := []) (fun q hq => (nomatch hq)) (by decide)).shaped, _, rfl, ?_⟩
    rw [eqv_qs]
    have s15 := s14.trans n
    have fin : ∀ {G5 : Hp}, Same H G5 → ∃ q, [V.ref a] = [V.ref q] ∧ ∃ l' xs', HasL G5 C q "_questions" l' xs' ∧ xs'.length ≤ 1000 ∧ ∀ e', G5 e' = none → spAlikeD K [.ref e', .ref o] (upd G5 e' (.lst xs')) Q E0 := fun {G5} s5 => by
      refine ⟨a, rfl, l, xs, ⟨dx, _, s5 _ _ ha, rfl, s5 _ _ hl0⟩, by omega, fun e' he' => ?_⟩
      have n5 := same_new (o := .lst xs) he'
      exact ⟨.ref e', .ref o, .list (zs.map dq), rfl, .lst (SqL.of upd_same) ((hx.same s5).same n5).dp, .lst (SqL.of (n5 _ _ (s5 _ _ ho))) (hq.same (s5.trans n5)).dp, dok_qs3 hf (by omega), k _ (s5.trans n5)⟩
    by_cases z0 : zs = []
    · rw [decide_eq_true z0]
      refine iteT ?_
      refine ⟨_, rfl, ?_⟩
      refine iteT ?_
      obtain ⟨q, e1, l', xs', f1, f2, f3⟩ := fin s15
      injection e1 with e1 _
      injection e1 with e1
      subst e1
      exact ⟨_, rfl, a, l', xs', rfl, f1, f2, fun e' he' => ⟨_, rfl, f3 e' he'⟩⟩
    · rw [decide_eq_false z0]
      refine iteF ?_
      refine ⟨_, rfl, _, rfl, _, rfl, ?_⟩
      refine ⟨o, ys, rfl, SqL.of (n _ _ ho4), fun v hv => ?_⟩
      have nv := same_new (o := .lst (cutV ys none (some ((1 : Nat) : Int)))) hv
      have ec : cutV ys none (some ((1 : Nat) : Int)) = ys.take 1 := cut_to 1 ys
      have hv1 : (upd (upd G4 e (.lst [])) v (.lst (cutV ys none (some ((1 : Nat) : Int))))) v = some (.lst (ys.take 1)) := by rw [upd_same, ec]
      have s16 := s15.trans nv
      have hq1 : QL (upd (upd G4 e (.lst [])) v (.lst (cutV ys none (some ((1 : Nat) : Int))))) (ys.take 1) (zs.take 1) := Paired.takeQ (hq.same s16)
      have f1' : ∀ q ∈ zs.take 1, Qfine q := fun q hq => hf q (List.mem_of_mem_take hq)
      refine ⟨.list ((zs.take 1).map dq), .list ((zs.take 1).map dq), .lst (SqL.of (nv _ _ (n _ _ hu4))) ((hU.same n).same nv).dp, .lst (SqL.of hv1) hq1.dp, (dok_qs3 f1' (by rw [List.length_take]; omega)).shaped, (dok_qs3 f1' (by rw [List.length_take]; omega)).shaped, _, rfl, ?_⟩
      rw [eqv_qs, decide_eq_true rfl]
      refine iteT ?_
      obtain ⟨q, e1, l', xs', f1, f2, f3⟩ := fin s16
      injection e1 with e1 _
      injection e1 with e1
      subst e1
      exact ⟨_, rfl, a, l', xs', rfl, f1, f2, fun e' he' => ⟨_, rfl, f3 e' he'⟩⟩
end
end Qk
set_option maxRecDepth 100000
set_option maxHeartbeats 4000000
namespace Qk
open PySem PySem.Spec PyProof.Rows L2
section
variable {P : Program} {w : World} {K : PySem.W.Frag} {mg : Str → Option Value} {base : Heap}
/-- tuples put together, the left one empty or not -/
def rCatT2 (K : PySem.W.Frag) : R2 := fun x y H Q => rCatT K x y H Q ∨ ∃ (a b : Addr) (ys : List V), x = .ref a ∧ y = .ref b ∧ SqT K H a [] ∧ SqT K H b ys ∧ Q (.ref b) H
theorem op_catT2 {X : Cx} : OpR X (binaryOp .Add) (rCatT2 X.K) := by
  intro pins s σ H x y v u Q I rx ry hq
  rcases hq with hq | ⟨a, b, ys, rfl, rfl, h1, h2, q⟩
  · exact op_catT pins s σ H x y v u Q I rx ry hq
  · cases rx
    cases ry
    obtain ⟨i1, r1, t1, z1⟩ := I.tuple h1
    obtain ⟨i2, r2, t2, z2⟩ := I.tuple h2
    cases r1
    obtain ⟨m, hF⟩ := I.fr
    exact PyProof.Rows.add_tuples hF .nil t1 t2 (fun _ => ⟨.ref b, H, I, rfl, q⟩) (fun h => absurd rfl h) (fun h => absurd rfl h) (by rw [← r2.length]; simpa using z2)
/-- (*cols, 'q'), from both cases -/
theorem catq {H : Hp} {c d : Addr} {cols : List Str} {z : Str} {Q : VK} (hc : H c = some (.tup (cols.map V.str))) (hd : H d = some (.tup [.str z])) (hl : cols.length ≤ 12) (k : ∀ (r : Addr) (H' : Hp), Same H H' → H' r = some (.tup ((cols ++ [z]).map V.str)) → Q (.ref r) H') : rCatT2 K (.ref c) (.ref d) H Q := by
  by_cases h0 : cols = []
  · subst h0
    exact .inr ⟨c, d, _, rfl, rfl, SqT.of hc, SqT.of hd, k d H (Same.refl _) hd⟩
  · refine .inl ⟨c, d, _, _, rfl, rfl, SqT.of hc, SqT.of hd, fun e => h0 (List.map_eq_nil_iff.mp e), ?_, fun e => (nomatch e), fun _ p hp => k p _ (same_new hp) ?_⟩
    · rw [sizeLine_eq, List.length_map]
      simp
      omega
    · rw [upd_same, List.map_append]
      rfl
section
variable {C : Addr} {H : Hp} {Q : VK} {a b : Addr} {zs ws : List Qd}
theorem cmpA (T : TxA K mg C) (nf : PySem.W.notFirst K C (.ref C) = true) (hx : AsV H C a zs) (hy : AsV H C b ws) (az : QZs zs) (aw : QZs ws) (l1 : zs.length ≤ 300) (l2 : ws.length ≤ 300) {neg : Bool} (k : Q (.bl (if neg = true then !decide (zs = ws) else decide (zs = ws))) H) : Qk.rOwn K C (spAEqX K C) neg (.ref a) (.ref b) H Q := by
  obtain ⟨l, xs, ⟨dx, ha, hl⟩, hq⟩ := id hx
  obtain ⟨m, ys, ⟨dy, hb, hm⟩, hr⟩ := id hy
  exact ⟨a, dx, _, .ref C, rfl, ha, T.ty hb, nf, .inl ⟨a, b, zs, ws, rfl, hx, hy, az, aw, l1, l2, _, rfl, k⟩⟩
theorem cmpO {x : V} {tb : Value} (hx : AsV H C a zs) (ty : TyX K H x tb) (kt : PySem.W.kitOne K tb (.ref C) = some false) (nf : PySem.W.notFirst K C tb = true) (k : Q (.bl false) H) : Qk.rOwn K C (spAEqX K C) false (.ref a) x H Q := by
  obtain ⟨l, xs, ⟨dx, ha, hl⟩, hq⟩ := id hx
  exact ⟨a, dx, _, tb, rfl, ha, ty, nf, .inr ⟨a, x, tb, rfl, ⟨a, dx, _, rfl, ha⟩, ty, kt, _, rfl, k⟩⟩
theorem mkA {H : Hp} {C d x dx : Addr} {xs : List V} {qs : List Qd} {R : VK} (hd : H d = some (.lst xs) ∨ H d = some (.tup xs)) (hq : QL H xs qs) (hl : xs.length ≤ 48) (hz : QZs qs) (nx : H x = none) (ndx : H dx = none) (k : ∀ (H' : Hp) (us : List Qd), Same H H' → AsV H' C x us → Asc27 us → us.length ≤ qs.length → (∀ q, q ∈ us ↔ q ∈ qs) → (∀ l ys, HasQ H' C x l ys → H l = none) → R .non H') :
    spAInit C [.ref x, .ref d] (upd (upd H dx (.own x)) x (.ins C dx [])) R E0 := by
  obtain ⟨x', a, dx', xs', qs', e, h1, h2, h3, h4, h5, h6, k'⟩ := make_asked (C := C) (Q := fun v H' => v = .ref x → R .non H') hd hq hl hz nx ndx fun H' y us s hA D hn e => by
    injection e with e
    subst e
    exact k H' us s hA (D.asc hz) D.le D.mem hn
  exact ⟨x', a, dx', xs', qs', e, h1, h2, h3, h4, h5, h6, fun H' zs g1 g2 g3 g4 => by
    obtain ⟨_, g⟩ := k' H' zs g1 g2 g3 g4
    exact g rfl⟩
theorem asc_eq (h1 : Asc27 zs) (h2 : Asc27 ws) (h : ∀ q, q ∈ zs ↔ q ∈ ws) : zs = ws := Dist.uniq (qs := zs) (rs := ws) ⟨h1.nd, h1.up, fun _ => Iff.rfl⟩ ⟨h2.nd, h2.up, fun _ => Iff.rfl⟩ h
end
theorem Row.perm {xs ys : List Str} (R : Row xs) (hp : ys.Perm xs) : Row ys := ⟨hp.nodup_iff.mpr R.nd, fun c hc => R.sub _ (hp.mem_iff.mp hc), by rw [hp.length_eq]; exact R.pos, by rw [hp.length_eq]; exact R.le⟩
theorem Qok.perm {xs ys : List Str} {c : List Str} {e : Str} (h : Qok ys c e) (hp : ys.Perm xs) : Qok xs c e := ⟨h.nd, h.srt, fun x hx => hp.mem_iff.mp (h.sub x hx), h.esub.imp id fun m => hp.mem_iff.mp m, h.ne, h.some, h.le⟩
/-- a question within names is no longer than these -/
theorem in_len {xs : List Str} {z : Qd} (Z : QZ z.1 z.2) (h : inN xs z) : z.1.length + (if z.2 = "" then 0 else 1) ≤ xs.length := by
  have hle := nodup_len (rowC z.1 z.2) xs Z.row_nd fun c hc => by
    unfold rowC at hc
    split at hc
    · exact h.1 c hc
    · rename_i ne
      rcases List.mem_append.mp hc with m | m
      · exact h.1 c m
      · rw [List.mem_singleton.mp m]
        exact h.2.resolve_left ne
  unfold rowC at hle
  split
  · rename_i e
    rw [if_pos e] at hle
    omega
  · rename_i e
    rw [if_neg e, List.length_append] at hle
    simpa using hle
theorem q_menu : ("q" : Str) ∈ menu := by decide +kernel
theorem q_ne : ("q" : Str) ≠ "" := by decide +kernel
/-- the question with q as its last -/
theorem qz_last {xs : List Str} {z : Qd} (Z : QZ z.1 z.2) (h : inN xs z) (hq : ("q" : Str) ∉ xs) (hl : xs.length ≤ 11) : QZ z.1 "q" := by
  have := in_len Z h
  refine ⟨⟨Z.m.nd, Z.m.srt, Z.m.sub, .inr q_menu, Z.m.le, fun e => absurd e q_ne⟩, fun m => hq (h.1 _ m), ?_⟩
  rw [if_neg q_ne]
  split at this <;> omega
/-- the question with q among its columns -/
theorem qz_more {xs : List Str} {z : Qd} (Z : QZ z.1 z.2) (h : inN xs z) (hq : ("q" : Str) ∉ xs) (hl : xs.length ≤ 11) {cs : List Str} (hp : cs.Perm (z.1 ++ [("q" : Str)])) (hs : sortedS cs = true) : QZ cs z.2 := by
  have hle := in_len Z h
  have nq : ("q" : Str) ∉ z.1 := fun m => hq (h.1 _ m)
  have len : cs.length = z.1.length + 1 := by rw [hp.length_eq, List.length_append]; rfl
  refine ⟨⟨?_, hs, fun c hc => ?_, Z.m.esub, by rw [len]; omega, fun _ e => ?_⟩, fun m => ?_, by rw [len]; omega⟩
  · refine hp.nodup_iff.mpr ?_
    rw [List.nodup_append]
    exact ⟨Z.m.nd, by simp, fun a ha b hb => by rw [List.mem_singleton.mp hb]; exact fun q => nq (q ▸ ha)⟩
  · rcases List.mem_append.mp (hp.mem_iff.mp hc) with m | m
    · exact Z.m.sub c m
    · rw [List.mem_singleton.mp m]
      exact q_menu
  · rw [e] at len
    simp at len
  · rcases List.mem_append.mp (hp.mem_iff.mp m) with m | m
    · exact Z.ne m
    · have e := List.mem_singleton.mp m
      rcases h.2 with h0 | h0
      · rw [h0] at e
        exact q_ne e.symm
      · rw [e] at h0
        exact hq h0
end
end Qk
set_option maxRecDepth 100000
set_option maxHeartbeats 4000000
namespace Qk
open PySem PySem.Spec PyProof.Rows L2
section
variable {P : Program} {w : World} {K : PySem.W.Frag} {mg : Str → Option Value} {base : Heap}
def spUnl (C : Addr) : Sp := fun vs H Q _ => ∃ (b l a o nm : Addr) (ys : List V) (zs : List Qd) (xs : List Str), vs = [.ref b, .ref a, .ref o, .ref nm] ∧ Bag H b l ∧ AsV H C a zs ∧ H o = some (.lst ys) ∧ QL H ys zs ∧ Asc27 zs ∧ zs.length ≤ 20 ∧ (∀ z ∈ zs, inN xs z) ∧ nm ≠ b ∧ H nm = some (.lst (xs.map V.str)) ∧ Row xs ∧ ("q" : Str) ∉ xs ∧ xs.length ≤ 11 ∧
  ∀ H', Bag H' b l → Kp b H H' → Q (.bl true) H'
abbrev nUnl : List Str := ["_law_bag_here", "_law_asked", "_law_due", "_law_names_here", "_law_k", "_law_one_here", "_law_menu", "_law_other", "_law_twin", "_law_each"]
theorem scUnl : FnScope nUnl ["_law_bag_here", "_law_asked", "_law_due", "_law_names_here"] (defScope sUnlike) := ⟨rfl, rfl, rfl, by decide +kernel, rfl, by decide +kernel, by decide +kernel⟩
theorem ok_unl {f C : Addr} {fd : FuncData} (F : Fun K "_law_unlike_right" "_law_unlike_right" sUnlike f fd) (T : Txt K mg) (AC : ACl P w K mg base C) (cA : CalG P w K mg base 1 "_law_alike" ["_law_found", "_law_due"] (spAlikeD K))
    (cM : Cal P w K mg base 2 "_law_mixed" ["_law_bag_here", "_law_things"] spMixed) (cQ : Cal P w K mg base 2 "_law_question_of" ["_law_bag_here", "_law_row"] spQOf) : FnG P w K mg base 7 f fd ["_law_bag_here", "_law_asked", "_law_due", "_law_names_here"] (spUnl C) := by
  refine okG F scUnl (fun vs H Q E h => ?_) (fun cdv AA outer s H vs Q E hr hg h => ?_)
  · obtain ⟨b, l, a, o, nm, ys, zs, xs, rfl, _⟩ := h
    rfl
  · obtain ⟨b, l, a, o, nm, ys, zs, xs, rfl, B, hA, ho, hq, az, lz, hin, nmb, hnm, R, hqx, lx, k⟩ := h
    have nd := scUnl.nd
    have hr1 : Room 1 _ := hr.mono (by decide)
    have hr2 : Room 2 _ := hr.mono (by decide)
    have hr6 : Room 6 _ := hr.mono (by decide)
    have hu65 : AA.units + 3 + 65 < cLine := by
      have := hr.un
      have e : (AA.deeper (envOfC "_law_unlike_right" (defScope sUnlike) s.heap.objs.size f cdv)).units = AA.units + 3 := rfl
      omega
    refine ⟨_, (pss_cons (ps_for PassesOwn.never rfl (pi_range1 (by rfl) T.range (pa_cons (pe_callB call_len_seq (by rfl) T.len PySem.boot_len (pa_cons (pv 2) pa_nil)) pa_nil)) (pg_name (i := 4) nd rfl (by first | exact Or.inl rfl | exact Or.inr rfl)) (pss_cons (ps_set (i := 5) nd rfl (by first | exact Or.inl rfl | exact Or.inr rfl) (pe_ix ix_list (pv 2) (pv 4) fun _ _ => rfl))
      (pss_cons (ps_set (i := 6) nd rfl (by first | exact Or.inl rfl | exact Or.inr rfl) (pe_lst (pa_cons (pe_call cQ.G hr2 rfl cQ.m cQ.kp cQ.b .nil pass0 (pa_cons (pv 0) (pa_cons (pe_call cM.G hr2 rfl cM.m cM.kp cM.b .nil pass0 (pa_cons (pv 0) (pa_cons (pv 3) pa_nil))) pa_nil))) (pa_cons (pe_tup (pa_cons (pe_ix ix_tup (pv 5) pe_int fun _ _ => rfl) (pa_cons pe_str pa_nil))) pa_nil))))
      (pss_cons (ps_expr (pe_bm PySem.F.plainAttrs_list PySem.F.slot_list_append PySem.F.type_list_append mt_append (pv 6) (pa_cons (pe_tup (pa_cons (pe_callTy call_tuple_of (by rfl) T.tuple (by decide +kernel) (pa_cons (pe_callB cr_sortedST (by rfl) T.sorted (by decide +kernel) (pa_cons (pe_op op_catT2 (pe_ix ix_tup (pv 5) pe_int fun _ _ => rfl) (pe_tup (pa_cons pe_str pa_nil))) pa_nil)) pa_nil)) (pa_cons (pe_ix ix_tup (pv 5) pe_int fun _ _ => rfl) pa_nil))) pa_nil)))
      (pss_one (ps_for PassesOwn.never rfl (pi_list (pe_lc (own := [("_law_each", 9)]) (g := gName 9) rfl nd (pi_list (pv 6)) (blkOk_by (N := nUnl) (sc := defScope sUnlike) (by decide +kernel)) (fun _ _ _ _ _ => (pg_name (i := 9) nd rfl (by first | exact Or.inl rfl | exact Or.inr rfl))) (fun _ _ _ _ _ => pts_one (pt_cmpR (r := rNotInD K) (op_notInD hu65) (pv 9) (pv 2) (by rfl))) (fun _ _ _ _ _ => (pv 9)))) (pg_name (i := 7) nd rfl (by first | exact Or.inl rfl | exact Or.inr rfl)) (pss_cons (ps_set (i := 8) nd rfl (by first | exact Or.inl rfl | exact Or.inr rfl) (pe_make AC.mkK AC.gI hr6 rfl AC.T.mgC AC.bI .nil pass0 (pa_cons (pe_op op_cat (pe_op op_cat (pe_slice sl_list (pv 2) po_none (po_some (pv 4))) (pe_lst (pa_cons (pv 7) pa_nil))) (pe_slice sl_list (pv 2) (po_some (pe_op op_add (pv 4) pe_int)) po_none)) pa_nil)))
      (pss_one (ps_if (pt_not (pt_val (pe_callg cA.G hr1 hg rfl cA.m cA.kp cA.b (pa_cons (pe_lst (pa_cons (pe_cmpR (op_eqO AC.oE AC.gE hr1 AC.bE) (pv 1) (pv 8) (nomark _)) (pa_cons (pe_cmpR (op_eqO AC.oE AC.gE hr1 AC.bE) (pv 8) (pv 1) (nomark _)) (pa_cons (pe_cmpR (op_neO AC.oE AC.gE hr2 AC.bE) (pv 1) (pv 8) (nomark _)) (pa_cons (pe_cmpR (op_neO AC.oE AC.gE hr2 AC.bE) (pv 8) (pv 1) (nomark _)) pa_nil))))) (pa_cons (pe_lst (pa_cons pe_bl (pa_cons pe_bl (pa_cons pe_bl (pa_cons pe_bl pa_nil))))) pa_nil))))) (pss_one (ps_ret pe_bl)) pss_nil)))))))))
      (pss_one (ps_ret pe_bl))), ?_⟩
    have nob : o ≠ b := B.ne_refs ho hq.refs
    have ly := hq.len
    have hf : ∀ q ∈ zs, Qfine q := az.qz.fine'
    refine ⟨_, rfl, o, ys, rfl, .inl (SqL.of ho), zs.length, by rw [ly], by omega, by omega, ?_⟩
    refine for_range (lo := 0) (n := zs.length) (fun i σ G => Bag G b l ∧ Kp b H G ∧ ∃ v4 v5 v6 v7 v8, σ = [some (.ref b), some (.ref a), some (.ref o), some (.ref nm), v4, v5, v6, v7, v8, none]) ⟨B, Kp.refl _ _, _, _, _, _, _, rfl⟩ ?_ ?_
    · rintro i σ G hi ⟨B1, k1, v4, v5, v6, v7, v8, rfl⟩
      rw [show (0 : Int) + (i : Int) = (i : Int) from Int.zero_add _]
      have ho1 := k1 _ _ ho nob
      have hq1 := hq.kp B k1
      have iy : i < ys.length := by omega
      obtain ⟨t, z, et, hzi, hzt⟩ := hq1.at_ (List.getElem?_eq_getElem iy)
      have zm : z ∈ zs := List.mem_of_getElem? hzi
      have Z := az.qz z zm
      refine ⟨_, rfl, _, rfl, o, ys, (i : Int), .ref t, rfl, rfl, SqL.of ho1, atI_nat (by rw [List.getElem?_eq_getElem iy, et]), ?_⟩
      have hnm1 := k1 _ _ hnm nmb
      have hA1 := hA.kp B k1
      refine ⟨_, rfl, _, rfl, _, rfl, b, l, nm, xs.map V.str, rfl, B1, nmb, hnm1, by rw [List.length_map]; omega, fun ms p2 G2 hpm hp2N hp2b hp2 B2 k2 => ?_⟩
      obtain ⟨ns, rfl, hns⟩ := perm_strs hpm
      refine ⟨b, l, p2, ns, rfl, B2, hp2b, .inl hp2, R.perm hns, fun q1 c1 e1 G3 hq1' ok1 B3 k3 => ?_⟩
      have ok1' := ok1.perm hns
      have Z1 : QZ c1 e1 := ok1'.qz R
      have k13 := k1.trans (k2.trans k3)
      obtain ⟨c, hz1, hz2⟩ := id (hzt.kp B1 (k2.trans k3))
      have ho3 := k13 _ _ ho nob
      have hq3 := hq.kp B k13
      have hA3 := hA.kp B k13
      refine ⟨_, rfl, t, _, 0, _, rfl, rfl, SqT.of hz1, rfl, by show 2 ≤ sizeLine; decide, fun t2 ht2 => ⟨by show 2 ≤ sizeLine; decide, fun pm hpm2 => ?_⟩⟩
      have n2 := same_new (o := .tup [V.ref c, V.str "q"]) ht2
      have nm2 := same_new (o := .lst [V.ref q1, V.ref t2]) hpm2
      have n3 := n2.trans nm2
      have hm4 : (upd (upd G3 t2 (.tup [V.ref c, V.str "q"])) pm (.lst [V.ref q1, V.ref t2])) pm = some (.lst [V.ref q1, V.ref t2]) := upd_same
      have hq2 : QAt (upd (upd G3 t2 (.tup [V.ref c, V.str "q"])) pm (.lst [V.ref q1, V.ref t2])) t2 z.1 "q" := ⟨c, nm2 _ _ upd_same, n3 _ _ hz2⟩
      have hq1a := hq1'.same n3
      have hz1' := n3 _ _ hz1
      have hz2' := n3 _ _ hz2
      have ho4 := n3 _ _ ho3
      have hq4 := hq3.same n3
      have hA4 := hA3.same n3
      have B4 := B3.same n3
      have k14 := k13.trans (Kp.of n3)
      have pmG : ∀ {G' : Hp}, Kp b G' G3 → G' pm = none := fun {G'} kk => by
        cases e : G' pm with
        | none => rfl
        | some u => rw [n2 _ _ (kk _ _ e (B4.ne_refs hm4 (fun y hy => by
            rcases List.mem_cons.mp hy with rfl | hy
            · exact ⟨_, rfl⟩
            · exact ⟨_, List.mem_singleton.mp hy⟩)))] at hpm2; cases hpm2
      have pmb : pm ≠ b := B4.ne_refs hm4 (fun y hy => by
        rcases List.mem_cons.mp hy with rfl | hy
        · exact ⟨_, rfl⟩
        · exact ⟨_, List.mem_singleton.mp hy⟩)
      have pmH : H pm = none := pmG k13
      clear n2 nm2 n3 hpm2 ht2 hq1' hz1 hz2 ho3 hq3 hA3 pmG k13
      generalize upd (upd G3 t2 (.tup [V.ref c, V.str "q"])) pm (.lst [V.ref q1, V.ref t2]) = G4 at hm4 hq2 hq1a hz1' hz2' ho4 hq4 hA4 B4 k14 ⊢
      refine ⟨_, rfl, .inl ⟨rfl, _, SqL.of hm4⟩, _, rfl, t, _, 0, _, rfl, rfl, SqT.of hz1', rfl, by show 1 ≤ sizeLine; decide, fun tq htq => ?_⟩
      have nq := same_new (o := .tup [V.str "q"]) htq
      refine catq (nq _ _ hz2') upd_same Z.m.le (fun r G5 s5 hr5 => ?_)
      refine ⟨r, z.1 ++ [("q" : Str)], rfl, .inr (SqT.of hr5), by have := Z.m.le; rw [List.length_append]; simp; omega, fun cs ps hcs hsort hps => ?_⟩
      have n5 := same_new (o := .lst (cs.map V.str)) hps
      refine ⟨ps, _, rfl, .inl ⟨SqL.of upd_same, fun tt htt => ?_⟩⟩
      have n6 := same_new (o := .tup (cs.map V.str)) htt
      have n46 := nq.trans (s5.trans (n5.trans n6))
      refine ⟨_, rfl, t, _, 1, _, rfl, rfl, SqT.of (n46 _ _ hz1'), rfl, by show 2 ≤ sizeLine; decide, fun t3 ht3 => ?_⟩
      have n7 := same_new (o := .tup [V.ref tt, V.str z.2]) ht3
      have n47 := n46.trans n7
      have hq3' : QAt (upd (upd (upd G5 ps (.lst (cs.map V.str))) tt (.tup (cs.map V.str))) t3 (.tup [V.ref tt, V.str z.2])) t3 cs z.2 := ⟨tt, upd_same, n7 _ _ upd_same⟩
      have Z3 : QZ cs z.2 := qz_more Z (hin z zm) hqx lx hcs hsort
      have Z2 : QZ z.1 "q" := qz_last Z (hin z zm) hqx lx
      have hm7 := n47 _ _ hm4
      have hq17 := hq1a.same n47
      have hq27 := hq2.same n47
      have ho7 := n47 _ _ ho4
      have hq7 := hq4.same n47
      have hA7 := hA4.same n47
      have B7 := B4.same n47
      have k17 := k14.trans (Kp.of n47)
      clear n5 n6 n7 n46 n47 nq s5 hr5 hps htt ht3 hq1a hq2 ho4 hq4 hA4 B4 k14 hm4 hz1' hz2' htq
      generalize upd (upd (upd G5 ps (.lst (cs.map V.str))) tt (.tup (cs.map V.str))) t3 (.tup [V.ref tt, V.str z.2]) = G7 at hq3' hm7 hq17 hq27 ho7 hq7 hA7 B7 k17 ⊢
      refine ⟨pm, _, _, rfl, rfl, hm7, by show 2 < sizeLine; decide, ?_⟩
      have pml : l ≠ pm := B.nel pmH
      have hm8 : (upd G7 pm (.lst ([V.ref q1, V.ref t2] ++ [V.ref t3]))) pm = some (.lst [V.ref q1, V.ref t2, V.ref t3]) := upd_same
      have opm : o ≠ pm := fun e => by rw [e, pmH] at ho; cases ho
      have ho8 : (upd G7 pm (.lst ([V.ref q1, V.ref t2] ++ [V.ref t3]))) o = some (.lst ys) := by rw [upd_ne opm]; exact ho7
      have hq8 : QL (upd G7 pm (.lst ([V.ref q1, V.ref t2] ++ [V.ref t3]))) ys zs := QL.off hm7 hq7
      have hMs : QL (upd G7 pm (.lst ([V.ref q1, V.ref t2] ++ [V.ref t3]))) [V.ref q1, V.ref t2, V.ref t3] [(c1, e1), (z.1, "q"), (cs, z.2)] := QL.off hm7 (.cons ⟨q1, rfl, hq17⟩ (.cons ⟨t2, rfl, hq27⟩ (.cons ⟨t3, rfl, hq3'⟩ .nil)))
      have B8 : Bag (upd G7 pm (.lst ([V.ref q1, V.ref t2] ++ [V.ref t3]))) b l := B7.upd pmb.symm pml
      have k18 : Kp b H (upd G7 pm (.lst ([V.ref q1, V.ref t2] ++ [V.ref t3]))) := fun c' u hc nb => by
        rw [upd_ne (ne_of_none hc pmH)]
        exact k17 c' u hc nb
      have hA8 : AsV (upd G7 pm (.lst ([V.ref q1, V.ref t2] ++ [V.ref t3]))) C a zs := hA.kp B k18
      have msZ : QZs [(c1, e1), (z.1, "q"), (cs, z.2)] := fun q hq => by
        rcases List.mem_cons.mp hq with rfl | hq
        · exact Z1
        rcases List.mem_cons.mp hq with rfl | hq
        · exact Z2
        · rw [List.mem_singleton.mp hq]
          exact Z3
      clear hm7 ho7 hq7 hq17 hq27 hq3' hA7 B7 k17
      generalize upd G7 pm (.lst ([V.ref q1, V.ref t2] ++ [V.ref t3])) = G8 at hm8 ho8 hq8 hMs B8 k18 hA8 ⊢
      refine ⟨_, rfl, pm, rfl, ⟨_, SqL.of hm8⟩, fun D hD => ?_⟩
      refine lc_list (K := K) (a := pm) (xs := [V.ref q1, V.ref t2, V.ref t3]) (fun i H' => ∃ us : List V, Same G8 H' ∧ H' D = some (.lst us) ∧ us.length ≤ i ∧ QL H' us (([(c1, e1), (z.1, "q"), (cs, z.2)].take i).filter fun q => !decide (q ∈ zs))) ⟨[], same_new hD, upd_same, Nat.le_refl _, .nil⟩ (fun i H' _ ⟨_, s, _⟩ => SqL.of (s _ _ hm8)) ?_ ?_
      · rintro i' x H1 hx ⟨us, s1, hUl, ul, qu⟩
        have hil : i' < 3 := (List.getElem?_eq_some_iff.mp hx).1
        obtain ⟨o', q, rfl, hqi, hqa⟩ := (hMs.same s1).at_ hx
        have Zq := msZ q (List.mem_of_getElem? hqi)
        have et : [(c1, e1), (z.1, "q"), (cs, z.2)].take (i' + 1) = [(c1, e1), (z.1, "q"), (cs, z.2)].take i' ++ [q] := by rw [List.take_add_one, hqi]; rfl
        rw [et, List.filter_append]
        refine ⟨rfl, Exists.intro _ ⟨rfl, Exists.intro _ ⟨rfl, dq q, zs.map dq, dp_q hqa, .lst (SqL.of (s1 _ _ ho8)) (hq8.same s1).dp, (dok_q Zq.fine).shaped, (dok_qs hf (by omega)).shaped, _, rfl, ?_⟩⟩⟩
        rw [any_q]
        cases hb' : decide (q ∈ zs) with
        | true =>
          refine iteF ?_
          refine ⟨us, s1, hUl, by omega, ?_⟩
          rw [List.filter_cons, hb', if_neg (by decide), List.filter_nil, List.append_nil]
          exact qu
        | false =>
          refine iteT ?_
          refine ⟨_, rfl, us, hUl, small1000 (by omega), us ++ [.ref o'], fun b' o'' hb2 => ?_, upd_same, by rw [List.length_append]; simp; omega, ?_⟩
          · rw [upd_ne (ne_of_none hb2 hD)]
            exact s1 _ _ hb2
          · rw [List.filter_cons, hb', if_pos (by decide), List.filter_nil]
            exact QL.off (xs := us) hUl (qu.snoc (q := q) hqa)
      rintro G9 ⟨us, s9, hUl, ul, qu⟩
      rw [List.take_of_length_le (show [(c1, e1), (z.1, "q"), (cs, z.2)].length ≤ [V.ref q1, V.ref t2, V.ref t3].length from Nat.le_refl _)] at qu
      have hus : ∀ q ∈ [(c1, e1), (z.1, "q"), (cs, z.2)].filter (fun q => !decide (q ∈ zs)), QZ q.1 q.2 ∧ q ∉ zs := fun q hq => by
        obtain ⟨h1, h2⟩ := List.mem_filter.mp hq
        refine ⟨msZ q h1, fun m => ?_⟩
        rw [decide_eq_true m] at h2
        cases h2
      have hA9 := hA8.same s9
      have ho9 := s9 _ _ ho8
      have hq9 := hq8.same s9
      have B9 := B8.same s9
      have k19 := k18.trans (Kp.of s9)
      generalize [(c1, e1), (z.1, "q"), (cs, z.2)].filter (fun q => !decide (q ∈ zs)) = fs at qu hus
      refine ⟨D, rfl, ⟨_, SqL.of hUl⟩, ?_⟩
      refine for_list (K := K) (a := D) (xs := us) (fun j σ G' => Same G9 G' ∧ ∃ v7 v8, σ = [some (.ref b), some (.ref a), some (.ref o), some (.ref nm), some (.int (i : Int)), some (.ref t), some (.ref pm), v7, v8, none]) ⟨Same.refl _, _, _, rfl⟩ (fun j σ G' _ h => SqL.of (h.1 _ _ hUl)) ?_ ?_
      · rintro j x σ G' hx ⟨sj, v7, v8, rfl⟩
        obtain ⟨tw, w, rfl, hwi, hwt⟩ := (qu.same sj).at_ hx
        obtain ⟨Zw, wn⟩ := hus w (List.mem_of_getElem? hwi)
        have ho' := sj _ _ ho9
        have hq' := hq9.same sj
        refine ⟨_, rfl, _, rfl, _, rfl, o, ys, rfl, SqL.of ho', fun x1 hx1 => ?_⟩
        have m1 := same_new (o := .lst (cutV ys none (some (i : Int)))) hx1
        refine ⟨_, rfl, by show 1 ≤ sizeLine; decide, fun x2 hx2 => ?_⟩
        have m2 := same_new (o := .lst [V.ref tw]) hx2
        refine ⟨x1, x2, ys.take i, _, rfl, rfl, m2 _ _ (by rw [upd_same, cut_to]), upd_same, by rw [sizeLine_eq, List.length_take]; simp; omega, fun x3 hx3 => ?_⟩
        have m3 := same_new (o := .lst (ys.take i ++ [V.ref tw])) hx3
        have m13 := m1.trans (m2.trans m3)
        refine ⟨_, rfl, _, rfl, _, _, rfl, rfl, _, rfl, o, ys, rfl, SqL.of (m13 _ _ ho'), fun x4 hx4 => ?_⟩
        have m4 := same_new (o := .lst (cutV ys (some ((i : Int) + 1)) none)) hx4
        refine ⟨x3, x4, _, ys.drop (i + 1), rfl, rfl, m4 _ _ upd_same, by rw [upd_same, cut_behind], by rw [sizeLine_eq, List.length_append, List.length_take, List.length_drop]; simp; omega, fun x5 hx5 => ?_⟩
        have m5 := same_new (o := .lst (ys.take i ++ [V.ref tw] ++ ys.drop (i + 1))) hx5
        have m15 := m13.trans (m4.trans m5)
        have hx5l : (upd (upd (upd (upd (upd G' x1 (.lst (cutV ys none (some (i : Int))))) x2 (.lst [V.ref tw])) x3 (.lst (ys.take i ++ [V.ref tw]))) x4 (.lst (cutV ys (some ((i : Int) + 1)) none))) x5 (.lst (ys.take i ++ [V.ref tw] ++ ys.drop (i + 1)))) x5 = some (.lst (ys.take i ++ [V.ref tw] ++ ys.drop (i + 1))) := upd_same
        have hql := hq'.same m15
        have hQL : QL (upd (upd (upd (upd (upd G' x1 (.lst (cutV ys none (some (i : Int))))) x2 (.lst [V.ref tw])) x3 (.lst (ys.take i ++ [V.ref tw]))) x4 (.lst (cutV ys (some ((i : Int) + 1)) none))) x5 (.lst (ys.take i ++ [V.ref tw] ++ ys.drop (i + 1)))) (ys.take i ++ [V.ref tw] ++ ys.drop (i + 1)) (zs.take i ++ [w] ++ zs.drop (i + 1)) := paired_app (paired_app (Paired.takeQ hql) (.cons ⟨tw, rfl, hwt.same m15⟩ .nil)) (Paired.dropQ hql)
        have hA5 := (hA9.same sj).same m15
        clear m1 m2 m3 m13 m4 m5 hx1 hx2 hx3 hx4 hx5 hql
        generalize upd (upd (upd (upd (upd G' x1 (.lst (cutV ys none (some (i : Int))))) x2 (.lst [V.ref tw])) x3 (.lst (ys.take i ++ [V.ref tw]))) x4 (.lst (cutV ys (some ((i : Int) + 1)) none))) x5 (.lst (ys.take i ++ [V.ref tw] ++ ys.drop (i + 1))) = G10 at m15 hx5l hQL hA5 ⊢
        have lq : (zs.take i ++ [w] ++ zs.drop (i + 1)).length = zs.length := by
          rw [List.length_append, List.length_append, List.length_take, List.length_drop]
          simp
          omega
        have hzl : QZs (zs.take i ++ [w] ++ zs.drop (i + 1)) := fun q hq => by
          rcases List.mem_append.mp hq with h | h
          · rcases List.mem_append.mp h with h | h
            · exact az.qz q (List.mem_of_mem_take h)
            · rw [List.mem_singleton.mp h]
              exact Zw
          · exact az.qz q (List.mem_of_mem_drop h)
        refine fun x dx nx ndx nex => mkA (qs := zs.take i ++ [w] ++ zs.drop (i + 1)) (.inl hx5l) hQL (by rw [hQL.len, lq]; omega) hzl nx ndx fun H1 us' s1 hX au lu mu _ => ⟨rfl, ?_⟩
        have zn : z ∉ us' := fun m => by
          have ez : zs = zs.take i ++ z :: zs.drop (i + 1) := by
            have iz : i < zs.length := hi
            have e1 := List.drop_eq_getElem_cons iz
            have e2 : zs[i] = z := by
              rw [List.getElem?_eq_getElem iz] at hzi
              exact Option.some.inj hzi
            rw [e2] at e1
            rw [← e1, List.take_append_drop]
          have nd' := az.nd
          rw [ez, List.nodup_append] at nd'
          obtain ⟨g1, g2, g3⟩ := nd'
          rcases List.mem_append.mp ((mu z).mp m) with h | h
          · rcases List.mem_append.mp h with h | h
            · exact g3 z h z List.mem_cons_self rfl
            · exact wn (List.mem_singleton.mp h ▸ zm)
          · exact (List.nodup_cons.mp g2).1 h
        have ne : zs ≠ us' := fun e => zn (e ▸ zm)
        have dne : decide (zs = us') = false := decide_eq_false ne
        have dne' : decide (us' = zs) = false := decide_eq_false ne.symm
        have hA6 := hA5.same s1
        have zu := au.qz
        have lu' : us'.length ≤ 300 := by rw [lq] at lu; omega
        have c1 : ∀ Q : VK, Q (.bl false) H1 → Qk.rOwn K C (spAEqX K C) false (.ref a) (.ref x) H1 Q := fun Q k => cmpA AC.T AC.nf hA6 hX az.qz zu (by omega) lu' (by rw [dne]; exact k)
        have c2 : ∀ Q : VK, Q (.bl false) H1 → Qk.rOwn K C (spAEqX K C) false (.ref x) (.ref a) H1 Q := fun Q k => cmpA AC.T AC.nf hX hA6 zu az.qz lu' (by omega) (by rw [dne']; exact k)
        have c3 : ∀ Q : VK, Q (.bl true) H1 → Qk.rOwn K C (spAEqX K C) true (.ref a) (.ref x) H1 Q := fun Q k => cmpA AC.T AC.nf hA6 hX az.qz zu (by omega) lu' (by rw [dne]; exact k)
        have c4 : ∀ Q : VK, Q (.bl true) H1 → Qk.rOwn K C (spAEqX K C) true (.ref x) (.ref a) H1 Q := fun Q k => cmpA AC.T AC.nf hX hA6 zu az.qz lu' (by omega) (by rw [dne']; exact k)
        refine ⟨_, rfl, _, rfl, c1 _ ⟨_, rfl, _, rfl, c2 _ ⟨_, rfl, _, rfl, c3 _ ⟨_, rfl, _, rfl, c4 _ ⟨by show 4 ≤ sizeLine; decide, fun f1 hf1 => ⟨by show 4 ≤ sizeLine; decide, fun f2 hf2 => ?_⟩⟩⟩⟩⟩⟩
        have d1 := same_new (o := .lst [V.bl false, V.bl false, V.bl true, V.bl true]) hf1
        have d2 := same_new (o := .lst [V.bl false, V.bl false, V.bl true, V.bl true]) hf2
        refine ⟨.ref f1, .ref f2, .list [.bool false, .bool false, .bool true, .bool true], rfl, .lst (SqL.of (d2 _ _ upd_same)) (.cons (.bl _) (.cons (.bl _) (.cons (.bl _) (.cons (.bl _) .nil)))), .lst (SqL.of upd_same) (.cons (.bl _) (.cons (.bl _) (.cons (.bl _) (.cons (.bl _) .nil)))), ⟨by decide, by decide, by decide⟩, _, rfl, ?_⟩
        refine iteF ?_
        exact ⟨sj.trans (m15.trans (s1.trans (d1.trans d2))), _, _, rfl⟩
      · rintro σ G' ⟨sj, v7, v8, rfl⟩
        exact ⟨B9.same sj, k19.trans (Kp.of sj), _, _, _, _, _, rfl⟩
    · rintro σ G ⟨B1, k1, _⟩
      exact k G B1 k1
end
end Qk
set_option maxRecDepth 100000
set_option maxHeartbeats 4000000
namespace Qk
open PySem PySem.Spec PyProof.Rows L2
section
variable {P : Program} {w : World} {K : PySem.W.Frag} {mg : Str → Option Value} {base : Heap}
def spTruth : Sp := fun vs H Q _ => ∃ b : Bool, vs = [.bl b, .bl b] ∧ Q (.bl true) H
theorem scTruth : FnScope ["_law_told", "_law_due"] ["_law_told", "_law_due"] (defScope sTruth) := ⟨rfl, rfl, rfl, by decide +kernel, rfl, by decide +kernel, by decide +kernel⟩
theorem ok_truth {f : Addr} {fd : FuncData} (F : Fun K "_law_truth" "_law_truth" sTruth f fd) (T : Txt K mg) : FnOk P w K mg base CX0 1 f fd ["_law_told", "_law_due"] spTruth := by
  refine F.ok scTruth (fun vs H Q E h => ?_) (fun cdv A outer s H vs Q E hr h => ?_)
  · obtain ⟨b, rfl, _⟩ := h
    rfl
  · obtain ⟨b, rfl, k⟩ := h
    refine ⟨_, pss_one (ps_ret (pe_and (pe_or (pe_cmpR op_isBl (pv 0) pe_bl (nomark _)) (pe_one (pe_cmpR op_isBl (pv 0) pe_bl (nomark _)))) (pe_one (pe_cmpR op_eq (pv 0) (pv 1) (nomark _))))), ?_⟩
    cases b with
    | true =>
      refine ⟨_, rfl, true, true, rfl, rfl, ?_⟩
      refine ⟨true, rfl, ?_⟩
      refine iteT ?_
      refine ⟨_, rfl, ?_⟩
      refine iteT ?_
      refine ⟨_, rfl, _, rfl, rfl, ?_⟩
      show Q (.bl (decide (V.bl true = V.bl true))) H
      rw [decide_eq_true rfl]
      exact k
    | false =>
      refine ⟨_, rfl, false, true, rfl, rfl, ?_⟩
      refine ⟨false, rfl, ?_⟩
      refine iteF ?_
      refine ⟨_, rfl, false, false, rfl, rfl, ?_⟩
      refine ⟨true, rfl, ?_⟩
      refine iteT ?_
      refine ⟨_, rfl, _, rfl, rfl, ?_⟩
      show Q (.bl (decide (V.bl false = V.bl false))) H
      rw [decide_eq_true rfl]
      exact k
end
end Qk
set_option maxRecDepth 100000
set_option maxHeartbeats 4000000
namespace Qk
open PySem PySem.Spec PyProof.Rows L2
section
variable {P : Program} {w : World} {K : PySem.W.Frag} {mg : Str → Option Value} {base : Heap}
theorem tC_of {v : V} {σ : L2.St} {H : Hp} {Q : VK} (h : Q v H) : L2.tC v σ H Q := h
/-- what stands while one turn of the law goes on -/
structure LawE (C b l nm sm o ak : Addr) (xs : List Str) (ms ys : List V) (ps zs : List Qd) (G : Hp) : Prop where
  B : Bag G b l
  n : G nm = some (.lst (xs.map V.str))
  s : G sm = some (.lst ms)
  qs : QL G ms ps
  d : G o = some (.lst ys)
  qd : QL G ys zs
  A : AsV G C ak zs
section
variable {C b l nm sm o ak : Addr} {xs : List Str} {ms ys : List V} {ps zs : List Qd} {G G' : Hp}
theorem LawE.same (h : LawE C b l nm sm o ak xs ms ys ps zs G) (s : Same G G') : LawE C b l nm sm o ak xs ms ys ps zs G' := ⟨h.B.same s, s _ _ h.n, s _ _ h.s, h.qs.same s, s _ _ h.d, h.qd.same s, h.A.same s⟩
theorem LawE.kp (h : LawE C b l nm sm o ak xs ms ys ps zs G) (nb : nm ≠ b) (k : Kp b G G') (B' : Bag G' b l) : LawE C b l nm sm o ak xs ms ys ps zs G' :=
  ⟨B', k _ _ h.n nb, k _ _ h.s (h.B.ne_refs h.s h.qs.refs), h.qs.kp h.B k, k _ _ h.d (h.B.ne_refs h.d h.qd.refs), h.qd.kp h.B k, h.A.kp h.B k⟩
end
theorem AsV.off {G : Hp} {C a h : Addr} {zs : List Qd} {us vs : List V} (hh : G h = some (.lst us)) (A : AsV G C a zs) (n : ∀ l ys, HasQ G C a l ys → l ≠ h) : AsV (upd G h (.lst vs)) C a zs := by
  obtain ⟨l, ys, ⟨dx, h1, h2⟩, h3⟩ := A
  exact ⟨l, ys, ⟨dx, by rw [upd_ne fun e => by rw [e, hh] at h1; cases h1]; exact h1, by rw [upd_ne (n l ys ⟨dx, h1, h2⟩)]; exact h2⟩, QL.off hh h3⟩
theorem va_q {G : Hp} {A : Addr → Prop} {t : Addr} {cols : List Str} {e : Str} (h : QAt G t cols e) (Z : QZ cols e) (hA : ∀ c xs, G c = some (.tup xs) → ¬ A c) : VA 12 G A 2 (.ref t) := by
  obtain ⟨c, h1, h2⟩ := h
  refine .inr ⟨t, _, rfl, hA _ _ h1, .inr h1, by show 2 ≤ 12; decide, fun y hy => ?_⟩
  rcases List.mem_cons.mp hy with rfl | hy
  · refine .inr ⟨c, _, rfl, hA _ _ h2, .inr h2, by rw [List.length_map]; exact Z.m.le, fun y hy => ?_⟩
    obtain ⟨z, hz, rfl⟩ := List.mem_map.mp hy
    exact fl_str (Nat.le_trans (menu_sz _ (Z.m.sub _ hz)) (by decide)) (fun _ => menu_ok _ (Z.m.sub _ hz)) G _
  · rw [List.mem_singleton.mp hy]
    exact (fl_str (Nat.le_trans (esz Z).1 (by decide)) (fun _ => (esz Z).2) G _).va
theorem va_l {G : Hp} {A : Addr → Prop} {c r : Addr} {cols : List Str} {e : Str} (h2 : G c = some (.tup (cols.map V.str))) (Z : QZ cols e) (hA : ∀ c xs, G c = some (.tup xs) → ¬ A c) (hr : G r = some (.lst [.ref c, .str e])) (nr : ¬ A r) : VA 12 G A 2 (.ref r) := by
  refine .inr ⟨r, _, rfl, nr, .inl hr, by show 2 ≤ 12; decide, fun y hy => ?_⟩
  rcases List.mem_cons.mp hy with rfl | hy
  · refine .inr ⟨c, _, rfl, hA _ _ h2, .inr h2, by rw [List.length_map]; exact Z.m.le, fun y hy => ?_⟩
    obtain ⟨z, hz, rfl⟩ := List.mem_map.mp hy
    exact fl_str (Nat.le_trans (menu_sz _ (Z.m.sub _ hz)) (by decide)) (fun _ => menu_ok _ (Z.m.sub _ hz)) G _
  · rw [List.mem_singleton.mp hy]
    exact (fl_str (Nat.le_trans (esz Z).1 (by decide)) (fun _ => (esz Z).2) G _).va
theorem Bag.noTup {G : Hp} {b l : Addr} (B : Bag G b l) : ∀ c xs, G c = some (.tup xs) → ¬ c = b := fun c xs h e => by
  obtain ⟨g, m, p, ns, hb, _⟩ := B
  rw [e, hb] at h
  cases h
theorem Bag.out {G : Hp} {b l : Addr} (B : Bag G b l) : Out G (fun c => c = b) := fun c e => by
  obtain ⟨o, h⟩ := B.at_
  exact ⟨o, by rw [e]; exact h⟩
abbrev VB (b : Addr) (G : Hp) (x : V) : Prop := VA 40 G (fun c => c = b) 24 x
theorem VB.kp {b : Addr} {G G' : Hp} {x : V} (k : Kp b G G') (h : VB b G x) : VB b G' x := VA.keep (fun c o e na => ⟨k c o e na, na⟩) h
def rListOfK (K : PySem.W.Frag) : List V → Hp → VK → Prop := fun xs H Q => ∃ p ys, xs = [V.ref p] ∧ (SqL K H p ys ∨ SqT K H p ys) ∧ ∀ (l : Addr), H l = none → Q (V.ref l) (upd H l (HO.lst ys))
theorem call_list_ofK {X : Cx} : CallR X (Value.type "list") (rListOfK X.K) := call_list_of
theorem spv_at {G G' : Hp} {t : Addr} {xs : List V} (s : Same G G') (h : SpV G (.ref t)) (ht : G' t = some (.tup xs)) : G t = some (.tup xs) ∧ ∀ y ∈ xs, SpV G y := by
  obtain ⟨A, n, h⟩ := h
  have flat : Flat G A (.ref t) → False := fun h => by
    rcases h with h | ⟨b, h⟩ | ⟨i, h⟩ | ⟨z, h, _⟩ | ⟨a, kvs, h, _, ha⟩
    · cases h
    · cases h
    · cases h
    · cases h
    · injection h with h
      subst h
      rw [s _ _ ha] at ht
      cases ht
  cases n with
  | zero => exact (flat h).elim
  | succ n =>
    rcases h with h | ⟨a, ys, e, na, ha, hl, hy⟩
    · exact (flat h).elim
    · injection e with e
      subst e
      rcases ha with ha | ha
      · rw [s _ _ ha] at ht
        cases ht
      · have h2 := s _ _ ha
        rw [ht] at h2
        injection h2 with h2
        injection h2 with h2
        subst h2
        exact ⟨ha, fun y hm => ⟨A, n, hy y hm⟩⟩
theorem spv_back {G G' : Hp} {t : Addr} {cols : List Str} {e : Str} (s : Same G G') (h : SpV G (.ref t)) (ht : QAt G' t cols e) : QAt G t cols e := by
  obtain ⟨c, h1, h2⟩ := ht
  obtain ⟨g1, g2⟩ := spv_at s h h1
  obtain ⟨g3, _⟩ := spv_at s (g2 _ List.mem_cons_self) h2
  exact ⟨c, g1, g3⟩
theorem QAt.uniqQ {G : Hp} {t : Addr} {p q : Qd} (h : QAt G t p.1 p.2) (h' : QAt G t q.1 q.2) : p = q := by
  obtain ⟨c, g1, g2⟩ := h
  obtain ⟨c', g3, g4⟩ := h'
  rw [g1] at g3
  injection g3 with g3
  injection g3 with g3
  injection g3 with g3 g5
  injection g3 with g3
  injection g5 with g5 _
  injection g5 with g5
  subst g3
  rw [g2] at g4
  injection g4 with g4
  injection g4 with g4
  exact Prod.ext (map_str_inj g4) g5
abbrev nLaw : List Str := ["_law_script", "_law_bag_here", "_law_turn", "_law_names_here", "_law_some", "_law_due", "_law_handed", "_law_asked", "_law_things", "_law_thing", "_law_more", "_law_twin", "_law_other", "_law_found", "_law_k", "_law_less"]
theorem scLaw : FnScope nLaw ["_law_script"] (defScope sLaw) := ⟨rfl, rfl, rfl, by decide +kernel, rfl, by decide +kernel, by decide +kernel⟩
def spLaw (K : PySem.W.Frag) : Sp := fun vs H Q _ => ∃ (a : Addr) (ns : List Int), vs = [.ref a] ∧ SqL K H a (ns.map V.int) ∧ ns.length ≤ 63 ∧ ∀ H', Q (.bl true) H'
theorem ok_law {f C : Addr} {fd : FuncData} (F : Fun K "law" "law" sLaw f fd) (T : Txt K mg) (AC : ACl P w K mg base C)
    (cB : Cal P w K mg base 1 "_law_bag" ["_law_script"] (spBag K))
    (cT : Cal P w K mg base 1 "_law_take" ["_law_bag_here", "_law_upto"] spTake)
    (cO : Cal P w K mg base 2 "_law_one" ["_law_bag_here", "_law_some"] spOne)
    (cM : Cal P w K mg base 2 "_law_mixed" ["_law_bag_here", "_law_things"] spMixed)
    (cN : Cal P w K mg base 2 "_law_names" ["_law_bag_here", "_law_many"] spNamesN)
    (cQ : Cal P w K mg base 2 "_law_question_of" ["_law_bag_here", "_law_row"] spQOf)
    (cS : Cal P w K mg base 3 "_law_questions" ["_law_bag_here", "_law_names_here", "_law_many"] spQuestionsN)
    (cOd : Cal P w K mg base 3 "_law_odd" ["_law_bag_here"] spOdd)
    (cBe : Cal P w K mg base 6 "_law_bent" ["_law_bag_here", "_law_thing"] (spBent 2))
    (cTr : Cal P w K mg base 1 "_law_truth" ["_law_told", "_law_due"] spTruth)
    (cIs : Cal P w K mg base 3 "_law_is_question" ["_law_thing"] spQv)
    (cA : CalG P w K mg base 1 "_law_alike" ["_law_found", "_law_due"] (spAlikeD K))
    (cR : CalG P w K mg base 5 "_law_right" ["_law_asked", "_law_due"] (spRight C))
    (cW : CalG P w K mg base 5 "_law_walks_right" ["_law_thing", "_law_due"] (spWalks C))
    (cU : CalG P w K mg base 7 "_law_unlike_right" ["_law_bag_here", "_law_asked", "_law_due", "_law_names_here"] (spUnl C)) : FnG P w K mg base 8 f fd ["_law_script"] (spLaw K) := by
  refine okG F scLaw (fun vs H Q E h => ?_) (fun cdv AA outer s H vs Q E hr hg h => ?_)
  · obtain ⟨a, ns, rfl, _⟩ := h
    rfl
  · obtain ⟨a, ns, rfl, hS, hlen, k⟩ := h
    have nd := scLaw.nd
    have hr1 : Room 1 _ := hr.mono (by decide)
    have hr2 : Room 2 _ := hr.mono (by decide)
    have hr3 : Room 3 _ := hr.mono (by decide)
    have hr4 : Room 4 _ := hr.mono (by decide)
    have hr5 : Room 5 _ := hr.mono (by decide)
    have hr6 : Room 6 _ := hr.mono (by decide)
    have ee : (AA.deeper (envOfC "law" (defScope sLaw) s.heap.objs.size f cdv)).units = AA.units + 3 := rfl
    have hu80 : AA.units + 3 + 80 < cLine := by
      have := hr.un
      omega
    have hu65 : AA.units + 3 + 65 < cLine := by omega
    have hu16 : AA.units + 3 + 16 < cLine := by omega
    refine ⟨_, (pss_cons (ps_set (i := 1) nd rfl (by first | exact Or.inl rfl | exact Or.inr rfl) (pe_call cB.G hr1 rfl cB.m cB.kp cB.b .nil pass0 (pa_cons (pv 0) pa_nil)))
    (pss_cons (ps_for PassesOwn.never rfl (pi_range1 (by rfl) T.range (pa_cons pe_int pa_nil)) (pg_name (i := 2) nd rfl (by first | exact Or.inl rfl | exact Or.inr rfl)) (pss_cons (ps_set (i := 3) nd rfl (by first | exact Or.inl rfl | exact Or.inr rfl) (pe_call cN.G hr2 rfl cN.m cN.kp cN.b .nil pass0 (pa_cons (pv 1) (pa_cons (pe_op op_add pe_int (pe_call cT.G hr1 rfl cT.m cT.kp cT.b .nil pass0 (pa_cons (pv 1) (pa_cons (pe_call cO.G hr2 rfl cO.m cO.kp cO.b .nil pass0 (pa_cons (pv 1) (pa_cons (pe_lst (pa_cons pe_int (pa_cons pe_int (pa_cons pe_int pa_nil)))) pa_nil))) pa_nil)))) pa_nil))))
      (pss_cons (ps_set (i := 4) nd rfl (by first | exact Or.inl rfl | exact Or.inr rfl) (pe_call cS.G hr3 rfl cS.m cS.kp cS.b .nil pass0 (pa_cons (pv 1) (pa_cons (pv 3) (pa_cons (pe_call cT.G hr1 rfl cT.m cT.kp cT.b .nil pass0 (pa_cons (pv 1) (pa_cons pe_int pa_nil))) pa_nil)))))
      (pss_cons (ps_set (i := 4) nd rfl (by first | exact Or.inl rfl | exact Or.inr rfl) (pe_call cM.G hr2 rfl cM.m cM.kp cM.b .nil pass0 (pa_cons (pv 1) (pa_cons (pe_op op_cat (pv 4) (pe_slice sl_list (pv 4) po_none (po_some (pe_call cT.G hr1 rfl cT.m cT.kp cT.b .nil pass0 (pa_cons (pv 1) (pa_cons pe_int pa_nil)))))) pa_nil))))
      (pss_cons (ps_par (i := 5) (j := 6) rfl nd rfl rfl (by decide) rfl rfl (pa_cons (pe_callB (cr_sortSetQ rfl hu80) (by rfl) T.sorted (by decide +kernel) (pa_cons (pe_callTy (cr_setQ rfl hu16) (by rfl) T.set (by decide +kernel) (pa_cons (pv 4) pa_nil)) pa_nil)) (pa_cons (pe_callTy call_list_of (by rfl) T.list (by decide +kernel) (pa_cons (pv 4) pa_nil)) pa_nil)) rfl)
      (Evl.pss_cut (ps_set (i := 7) nd rfl (by first | exact Or.inl rfl | exact Or.inr rfl) (pe_ifExp (pt_cmpR op_eq (pe_call cT.G hr1 rfl cT.m cT.kp cT.b .nil pass0 (pa_cons (pv 1) (pa_cons pe_int pa_nil))) pe_int (nomark _)) (pe_make AC.mkK AC.gI hr6 rfl AC.T.mgC AC.bI .nil pass0 (pa_cons (pv 6) pa_nil)) (pe_make AC.mkK AC.gI hr6 rfl AC.T.mgC AC.bI .nil pass0 (pa_cons (pe_callTy call_tuple_of (by rfl) T.tuple (by decide +kernel) (pa_cons (pv 4) pa_nil)) pa_nil))))
      (pss_cons (ps_expr (pe_bm PySem.F.plainAttrs_list PySem.F.slot_list_append PySem.F.type_list_append mt_append (pv 6) (pa_cons pe_non pa_nil)))
      (pss_cons (ps_if (pt_not (pt_val (pe_callg cR.G hr5 hg rfl cR.m cR.kp cR.b (pa_cons (pv 7) (pa_cons (pv 5) pa_nil))))) (pss_one (ps_ret pe_bl)) pss_nil)
      (pss_cons (ps_set (i := 8) nd rfl (by first | exact Or.inl rfl | exact Or.inr rfl) (pe_op op_cat (pv 4) (pe_lst (pa_cons (pe_call cQ.G hr2 rfl cQ.m cQ.kp cQ.b .nil pass0 (pa_cons (pv 1) (pa_cons (pe_call cM.G hr2 rfl cM.m cM.kp cM.b .nil pass0 (pa_cons (pv 1) (pa_cons (pv 3) pa_nil))) pa_nil))) (pa_cons (pe_call cOd.G hr3 rfl cOd.m cOd.kp cOd.b .nil pass0 (pa_cons (pv 1) pa_nil)) (pa_cons (pe_call cOd.G hr3 rfl cOd.m cOd.kp cOd.b .nil pass0 (pa_cons (pv 1) pa_nil)) pa_nil))))))
      (pss_cons (ps_set (i := 8) nd rfl (by first | exact Or.inl rfl | exact Or.inr rfl) (pe_op op_cat (pe_op op_cat (pv 8) (pe_lc (own := [("_law_thing", 9)]) (g := gName 9) (tt := tYes) rfl nd (pi_list (pe_slice sl_list (pv 5) po_none (po_some pe_int))) (blkOk_by (N := nLaw) (sc := defScope sLaw) (by decide +kernel)) (fun _ _ _ _ _ => (pg_name (i := 9) nd rfl (by first | exact Or.inl rfl | exact Or.inr rfl))) (fun _ _ _ _ _ => pts_nil) (fun _ _ _ _ _ => (pe_call cBe.G hr6 rfl cBe.m cBe.kp cBe.b .nil pass0 (pa_cons (pv 1) (pa_cons (pv 9) pa_nil)))))) (pe_lc (own := [("_law_thing", 9)]) (g := gName 9) (tt := tYes) rfl nd (pi_list (pe_slice sl_list (pv 5) po_none (po_some pe_int))) (blkOk_by (N := nLaw) (sc := defScope sLaw) (by decide +kernel)) (fun _ _ _ _ _ => (pg_name (i := 9) nd rfl (by first | exact Or.inl rfl | exact Or.inr rfl))) (fun _ _ _ _ _ => pts_nil) (fun _ _ _ _ _ => (pe_callTy (T := "list") (r := rListOfK K) call_list_ofK (by rfl) T.list (by decide +kernel) (pa_cons (pv 9) pa_nil))))))
      (pss_cons (ps_for PassesOwn.never rfl (pi_list (pv 8)) (pg_name (i := 9) nd rfl (by first | exact Or.inl rfl | exact Or.inr rfl)) (pss_one (ps_if (pt_not (pt_val (pe_call cTr.G hr1 rfl cTr.m cTr.kp cTr.b .nil pass0 (pa_cons (pe_cmpR (op_inO AC.oN AC.gN hr4 AC.bN) (pv 9) (pv 7) (by rfl)) (pa_cons (pe_and (pe_call cIs.G hr3 rfl cIs.m cIs.kp cIs.b .nil pass0 (pa_cons (pv 9) pa_nil)) (pe_one (pe_cmpR (op_inD hu65) (pv 9) (pv 5) (by rfl)))) pa_nil))))) (pss_one (ps_ret pe_bl)) pss_nil)))
      (pss_cons (ps_if (pt_cmpR op_notBl (pe_cmpR (op_inO AC.oN AC.gN hr4 AC.bN) (pv 7) (pv 7) (by rfl)) pe_bl (nomark _)) (pss_one (ps_ret pe_bl)) pss_nil)
      (pss_cons (ps_set (i := 10) nd rfl (by first | exact Or.inl rfl | exact Or.inr rfl) (pe_call cQ.G hr2 rfl cQ.m cQ.kp cQ.b .nil pass0 (pa_cons (pv 1) (pa_cons (pe_call cM.G hr2 rfl cM.m cM.kp cM.b .nil pass0 (pa_cons (pv 1) (pa_cons (pv 3) pa_nil))) pa_nil))))
      (pss_cons (ps_par (i := 11) (j := 12) rfl nd rfl rfl (by decide) rfl rfl (pa_cons (pe_make AC.mkK AC.gI hr6 rfl AC.T.mgC AC.bI .nil pass0 (pa_cons (pe_call cM.G hr2 rfl cM.m cM.kp cM.b .nil pass0 (pa_cons (pv 1) (pa_cons (pv 4) pa_nil))) pa_nil)) (pa_cons (pe_make AC.mkK AC.gI hr6 rfl AC.T.mgC AC.bI .nil pass0 (pa_cons (pe_op op_cat (pv 5) (pe_lst (pa_cons (pv 10) pa_nil))) pa_nil)) pa_nil)) rfl)
      (pss_cons (ps_set (i := 13) nd rfl (by first | exact Or.inl rfl | exact Or.inr rfl) (pe_lst (pa_cons (pe_cmpR (op_eqO AC.oE AC.gE hr1 AC.bE) (pv 7) (pv 11) (nomark _)) (pa_cons (pe_cmpR (op_neO AC.oE AC.gE hr2 AC.bE) (pv 7) (pv 11) (nomark _)) (pa_cons (pe_cmpR (op_eqO AC.oE AC.gE hr1 AC.bE) (pv 7) (pv 12) (nomark _)) (pa_cons (pe_cmpR (op_eqO AC.oE AC.gE hr1 AC.bE) (pv 12) (pv 7) (nomark _)) (pa_cons (pe_cmpR (op_neO AC.oE AC.gE hr2 AC.bE) (pv 7) (pv 12) (nomark _)) pa_nil)))))))
      (pss_cons (ps_if (pt_not (pt_val (pe_callg cA.G hr1 hg rfl cA.m cA.kp cA.b (pa_cons (pv 13) (pa_cons (pe_lst (pa_cons pe_bl (pa_cons pe_bl (pa_cons (pe_cmpR (op_inD hu65) (pv 10) (pv 5) (by rfl)) (pa_cons (pe_cmpR (op_inD hu65) (pv 10) (pv 5) (by rfl)) (pa_cons (pe_cmpR (op_notInD hu65) (pv 10) (pv 5) (by rfl)) pa_nil)))))) pa_nil))))) (pss_one (ps_ret pe_bl)) pss_nil)
      (pss_cons (ps_for PassesOwn.never rfl (pi_range1 (by rfl) T.range (pa_cons (pe_callB call_len_seq (by rfl) T.len PySem.boot_len (pa_cons (pv 5) pa_nil)) pa_nil)) (pg_name (i := 14) nd rfl (by first | exact Or.inl rfl | exact Or.inr rfl)) (pss_cons (ps_set (i := 15) nd rfl (by first | exact Or.inl rfl | exact Or.inr rfl) (pe_make AC.mkK AC.gI hr6 rfl AC.T.mgC AC.bI .nil pass0 (pa_cons (pe_op op_cat (pe_slice sl_list (pv 5) po_none (po_some (pv 14))) (pe_slice sl_list (pv 5) (po_some (pe_op op_add (pv 14) pe_int)) po_none)) pa_nil)))
      (pss_one (ps_if (PW.pt (pw_or (pt_cmpR (op_eqO AC.oE AC.gE hr1 AC.bE) (pv 7) (pv 15) (nomark _)) (pw_or (pt_cmpR (op_eqO AC.oE AC.gE hr1 AC.bE) (pv 15) (pv 7) (nomark _)) (pw_or1 (pt_not (pt_cmpR (op_neO AC.oE AC.gE hr2 AC.bE) (pv 15) (pv 7) (nomark _))))))) (pss_one (ps_ret pe_bl)) pss_nil))))
      (pss_cons (ps_set (i := 13) nd rfl (by first | exact Or.inl rfl | exact Or.inr rfl) (pe_lst (pa_cons (pe_cmpR (op_eqO AC.oE AC.gE hr1 AC.bE) (pv 7) (pv 5) (nomark _)) (pa_cons (pe_cmpR (op_eqO AC.oE AC.gE hr1 AC.bE) (pv 7) (pv 4) (nomark _)) (pa_cons (pe_cmpR (op_eqO AC.oE AC.gE hr1 AC.bE) (pv 7) pe_non (nomark _)) (pa_cons (pe_cmpR (op_eqO AC.oE AC.gE hr1 AC.bE) (pv 7) (pe_callTy call_tuple_of (by rfl) T.tuple (by decide +kernel) (pa_cons (pv 5) pa_nil)) (nomark _)) (pa_cons (pe_cmpR (op_eqO AC.oE AC.gE hr1 AC.bE) (pv 7) (pe_callB call_len_seq (by rfl) T.len PySem.boot_len (pa_cons (pv 5) pa_nil)) (nomark _)) pa_nil)))))))
      (pss_cons (ps_if (PW.pt (pw_or (pt_not (pt_val (pe_callg cA.G hr1 hg rfl cA.m cA.kp cA.b (pa_cons (pv 13) (pa_cons (pe_op op_rep (pe_lst (pa_cons pe_bl pa_nil)) pe_int) pa_nil))))) (pw_or1 (pt_not (pt_val (pe_callg cR.G hr5 hg rfl cR.m cR.kp cR.b (pa_cons (pv 7) (pa_cons (pv 5) pa_nil)))))))) (pss_one (ps_ret pe_bl)) pss_nil)
      (pss_one (ps_if (PW.pt (pw_or (pt_not (pt_val (pe_callg cU.G hr hg rfl cU.m cU.kp cU.b (pa_cons (pv 1) (pa_cons (pv 7) (pa_cons (pv 5) (pa_cons (pv 3) pa_nil))))))) (pw_or1 (pt_not (pt_val (pe_callg cW.G hr5 hg rfl cW.m cW.kp cW.b (pa_cons (pv 7) (pa_cons (pv 5) pa_nil)))))))) (pss_one (ps_ret pe_bl)) pss_nil)))))))))))))))))))))
    (pss_one (ps_ret pe_bl)))), ?_⟩
    refine ⟨_, rfl, a, ns, rfl, hS, hlen, fun b l H1 hb B1 s1 => ?_⟩
    refine ⟨4, rfl, by decide, by decide, ?_⟩
    refine for_range (lo := 0) (n := 4) (fun i σ H' => Bag H' b l ∧ ∃ (v2 v3 v4 v5 v6 v7 v8 v9 v10 v11 v12 v13 v14 v15 : Option V), σ = [some (.ref a), some (.ref b), v2, v3, v4, v5, v6, v7, v8, v9, v10, v11, v12, v13, v14, v15])
      ⟨B1, none, none, none, none, none, none, none, none, none, none, none, none, none, none, rfl⟩ ?_ (fun σ H' _ => k H')
    rintro i σ H2 hi ⟨B2, v2, v3, v4, v5, v6, v7, v8, v9, v10, v11, v12, v13, v14, v15, rfl⟩
    -- names
    refine ⟨_, rfl, _, rfl, _, rfl, by show 3 ≤ sizeLine; decide, fun p0 hp0 => ?_⟩
    refine ⟨b, l, p0, _, rfl, B2.new hp0, B2.ne hp0, upd_same, by decide, by show 3 < 1000; decide, fun x H3 hx B3 _ => ?_⟩
    obtain ⟨u, rfl, hu1, hu2⟩ : ∃ u : Nat, x = .int (u : Int) ∧ 0 < u ∧ u ≤ 11 := by
      rcases List.mem_cons.mp hx with rfl | hx
      · exact ⟨6, rfl, by decide, by decide⟩
      rcases List.mem_cons.mp hx with rfl | hx
      · exact ⟨6, rfl, by decide, by decide⟩
      · exact ⟨11, List.mem_singleton.mp hx, by decide, by decide⟩
    refine ⟨b, l, (u : Int), rfl, B3, by omega, by omega, fun m H4 hm B4 _ => ?_⟩
    refine ⟨_, _, rfl, rfl, b, l, m + 1, by show [V.ref b, V.int (1 + (m : Int))] = _; rw [show ((m + 1 : Nat) : Int) = 1 + (m : Int) by omega], by omega, B4, fun xs nm H5 xnd xsub xlen nmb h5n B5 _ => ?_⟩
    have R : Row xs := ⟨xnd, fun c hc => menu13_sub c (xsub c hc), by omega, by omega⟩
    have hqx : ("q" : Str) ∉ xs := fun m => absurd (xsub _ m) (by decide +kernel)
    -- questions
    refine ⟨_, rfl, _, rfl, _, rfl, b, l, 10, rfl, B5, by decide, by decide, fun mm H6 hmm B6 k6 => ?_⟩
    have h6n := k6 _ _ h5n nmb
    refine ⟨b, l, nm, xs, mm, rfl, B6, nmb, h6n, R, by omega, fun p H7 hpN hpb hlp g => ?_⟩
    obtain ⟨us, qs, h7p, hQ7, hz7, hin7, hl7⟩ := g.qs
    have B7 := g.bag
    have h7n := g.kp _ _ h6n nmb
    have hul := hQ7.len
    refine ⟨_, rfl, _, rfl, _, rfl, _, rfl, b, l, 4, rfl, B7, by decide, by decide, fun c H8 hc B8 k8 => ?_⟩
    have h8p := k8 _ _ h7p hpb
    have h8n := k8 _ _ h7n nmb
    have hQ8 := hQ7.kp B7 k8
    refine ⟨_, rfl, p, us, rfl, SqL.of h8p, fun s1' hs1 => ?_⟩
    have m1 := same_new (o := .lst (cutV us none (some (c : Int)))) hs1
    refine ⟨p, s1', us, us.take c, rfl, rfl, m1 _ _ h8p, by rw [upd_same, cut_to], by rw [sizeLine_eq, List.length_take]; omega, fun s2 hs2 => ?_⟩
    have m2 := same_new (o := .lst (us ++ us.take c)) hs2
    have m12 := m1.trans m2
    have hQc := hQ8.same m12
    have hn9 := m12 _ _ h8n
    refine ⟨b, l, s2, us ++ us.take c, rfl, B8.same m12, (B8.same m1).ne hs2, upd_same, by rw [List.length_append, List.length_take]; omega, fun ms sm H9 hperm smN smb hsm B9 k9 => ?_⟩
    have h9n := k9 _ _ hn9 nmb
    have hQc9 : QL H9 (us ++ us.take c) (qs ++ qs.take c) := QL.kp (B8.same m12) k9 (paired_app hQc (Paired.takeQ hQc))
    obtain ⟨ps, hQ9', hpp⟩ := paired_perm hperm hQc9
    have hQ9 : QL H9 ms ps := hQ9'
    clear hQ9'
    have psm : ∀ q ∈ ps, q ∈ qs := fun q hq => by
      rcases List.mem_append.mp (hpp.mem_iff.mp hq) with h | h
      · exact h
      · exact List.mem_of_mem_take h
    have hz9 : QZs ps := fun q hq => hz7 q (psm q hq)
    have hin9 : ∀ q ∈ ps, inN xs q := fun q hq => hin7 q (psm q hq)
    have hl9 : ps.length ≤ 12 := by
      rw [hpp.length_eq, List.length_append, List.length_take]
      omega
    have hml : ms.length = ps.length := Paired.length hQ9
    clear B3 B4 B5 B6 B7 B8 k6 h5n h6n g h7p h7n hQ7 h8p h8n hQ8 m1 m2 m12 hQc hn9 hs1 hs2 hperm hQc9 k8 k9 hpp psm hz7 hin7 hpN hlp hul hl7
    -- due and handed
    refine ⟨_, rfl, sm, ms, ps, rfl, .inl (SqL.of hsm), hQ9, by omega, fun dd M hdd S => ?_⟩
    have sp := same_new (o := SetQ w dd M) hdd
    refine ⟨dd, M, rfl, upd_same, fun m hm => (S.at_ m hm).same sp, fun m hm c hc => (hz9 _ ((S.mem _).mp (List.mem_map_of_mem hm))).strOk c hc, fun ys zs o ho hql hpm hup hsub => ?_⟩
    have so := same_new (o := .lst ys) ho
    have D : Dist ps zs := ⟨hpm.nodup_iff.mpr S.nd, hup, fun q => hpm.mem_iff.trans (S.mem q)⟩
    have spo := sp.trans so
    have ho1 : (upd (upd H9 dd (SetQ w dd M)) o (.lst ys)) o = some (.lst ys) := upd_same
    have hqo := hql.same so
    have hsm1 := spo _ _ hsm
    have hQ1 := hQ9.same spo
    have h1n := spo _ _ h9n
    have B10 := B9.same spo
    clear hql hpm hup hsub sp so spo S hdd ho hsm hQ9 h9n B9
    generalize hG : upd (upd H9 dd (SetQ _ dd M)) o (.lst ys) = H10
    have hG' : upd (upd H9 dd (SetQ w dd M)) o (.lst ys) = H10 := hG
    have ho1 : H10 o = some (.lst ys) := by rw [← hG']; exact ho1
    have hqo : QL H10 ys zs := by rw [← hG']; exact hqo
    have hsm1 : H10 sm = some (.lst ms) := by rw [← hG']; exact hsm1
    have hQ1 : QL H10 ms ps := by rw [← hG']; exact hQ1
    have h1n : H10 nm = some (.lst (xs.map V.str)) := by rw [← hG']; exact h1n
    have B10 : Bag H10 b l := by rw [← hG']; exact B10
    clear hG hG'
    refine ⟨_, rfl, sm, ms, rfl, .inl (SqL.of hsm1), fun hd hhd => ⟨_, _, rfl, ?_⟩⟩
    have n1 := same_new (o := .lst ms) hhd
    have az := D.asc hz9
    have zl : zs.length ≤ 12 := Nat.le_trans D.le hl9
    have zin : ∀ z ∈ zs, inN xs z := fun z hz => hin9 z ((D.mem z).mp hz)
    have nsh : sm ≠ hd := ne_of_none hsm1 hhd
    have noh : o ≠ hd := ne_of_none ho1 hhd
    have nnh : nm ≠ hd := ne_of_none h1n hhd
    have nhb : hd ≠ b := B10.ne hhd
    have nlh : l ≠ hd := B10.nel hhd
    have ho2 := n1 _ _ ho1
    have hqo2 := hqo.same n1
    have hsm2 := n1 _ _ hsm1
    have hQ2 := hQ1.same n1
    have h2n := n1 _ _ h1n
    have B11 := B10.same n1
    have hhd2 : (upd H10 hd (.lst ms)) hd = some (.lst ms) := upd_same
    clear n1 ho1 hqo hsm1 hQ1 h1n B10 hhd
    generalize upd H10 hd (.lst ms) = H11 at ho2 hqo2 hsm2 hQ2 h2n B11 hhd2 ⊢
    have smb' := smb
    have hzl : ∀ {G : Hp}, Kp b H11 G → G sm = some (.lst ms) ∧ G hd = some (.lst ms) ∧ QL G ms ps := fun {G} kk => ⟨kk _ _ hsm2 smb, kk _ _ hhd2 nhb, hQ2.kp B11 kk⟩
    refine ⟨fun σ G => Bag G b l ∧ Kp b H11 G ∧ ∃ ak, σ = [some (.ref a), some (.ref b), some (.int (0 + (i : Int))), some (.ref nm), some (.ref sm), some (.ref o), some (.ref hd), some (.ref ak), v8, v9, v10, v11, v12, v13, v14, v15] ∧ AsV G C ak zs ∧ ∀ l ys, HasQ G C ak l ys → l ≠ hd, ?_, ?_⟩
    · refine ⟨_, rfl, b, l, 2, rfl, B11, by decide, by decide, fun j H12 hj B12 k12 => ?_⟩
      refine ⟨rfl, _, rfl, ?_⟩
      obtain ⟨g1, g2, g3⟩ := hzl k12
      refine ite2 (fun _ => ?_) (fun _ => ?_)
      · refine ⟨_, rfl, fun x dx nx ndx nex => mkA (.inl g2) g3 (by omega) hz9 nx ndx fun H13 us' s13 hX au lu mu hn => ⟨rfl, ?_⟩⟩
        have e : us' = zs := asc_eq au az fun q => (mu q).trans (D.mem q).symm
        exact ⟨B12.same s13, k12.trans (Kp.of s13), x, rfl, e ▸ hX, fun l' ys' h e' => by
          have := hn l' ys' h
          rw [e', g2] at this
          cases this⟩
      · refine ⟨_, rfl, sm, ms, rfl, .inl ⟨SqL.of g1, fun tt htt => ?_⟩⟩
        have nt := same_new (o := .tup ms) htt
        refine fun x dx nx ndx nex => mkA (.inr upd_same) (g3.same nt) (by omega) hz9 nx ndx fun H13 us' s13 hX au lu mu hn => ⟨rfl, ?_⟩
        have e : us' = zs := asc_eq au az fun q => (mu q).trans (D.mem q).symm
        exact ⟨(B12.same nt).same s13, k12.trans (Kp.of (nt.trans s13)), x, rfl, e ▸ hX, fun l' ys' h e' => by
          have := hn l' ys' h
          rw [e', nt _ _ g2] at this
          cases this⟩
    rintro σ G1 ⟨C1, kC, ak, rfl, hAk, hfr⟩
    obtain ⟨g1, g2, g3⟩ := hzl kC
    have nob : o ≠ b := B11.ne_refs ho2 hqo2.refs
    refine ⟨_, rfl, .inl ⟨rfl, _, SqL.of g2⟩, hd, ms, _, rfl, rfl, g2, small1000 (by omega), ?_⟩
    have E : LawE C b l nm sm o ak xs ms ys ps zs (upd G1 hd (.lst (ms ++ [V.non]))) :=
      ⟨C1.upd nhb.symm nlh, by rw [upd_ne nnh]; exact kC _ _ h2n nmb, by rw [upd_ne nsh]; exact g1, QL.off g2 g3, by rw [upd_ne noh]; exact kC _ _ ho2 nob, QL.off g2 (hqo2.kp B11 kC), hAk.off g2 hfr⟩
    clear g1 g2 g3 hfr hAk C1 kC hzl ho2 hqo2 hsm2 hQ2 h2n B11 hhd2 nsh noh nnh nhb nlh smb'
    generalize upd G1 hd (.lst (ms ++ [V.non])) = G2 at E ⊢
    refine ⟨_, rfl, _, rfl, ak, o, ys, zs, rfl, E.A, E.d, E.qd, az.qz, by omega, fun G3 s3 => ⟨_, rfl, ?_⟩⟩
    refine iteF ?_
    have E3 := E.same s3
    clear E s3
    -- things
    have lms : ms.length ≤ 12 := by omega
    have lys : ys.length ≤ 12 := by rw [E3.qd.len]; exact zl
    refine ⟨_, rfl, _, rfl, _, rfl, _, rfl, b, l, nm, xs.map V.str, rfl, E3.B, nmb, E3.n, by rw [List.length_map]; omega, fun ws p2 G4 hpm _ hp2b hp2 B4 k4 => ?_⟩
    obtain ⟨ns2, rfl, hns⟩ := perm_strs hpm
    refine ⟨b, l, p2, ns2, rfl, B4, hp2b, .inl hp2, R.perm hns, fun q1 c1 e1 G5 hq1 ok1 B5 k5 => ?_⟩
    have Z1 : QZ c1 e1 := (ok1.perm hns).qz R
    have E5 := E3.kp nmb (k4.trans k5) B5
    refine ⟨_, rfl, b, l, rfl, B5, fun G6 x1 hx1 B6 k6 => ?_⟩
    refine ⟨_, rfl, b, l, rfl, B6, fun G7 x2 hx2 B7 k7 => ⟨by show 3 ≤ sizeLine; decide, fun pl hpl => ?_⟩⟩
    have E7 := E5.kp nmb (k6.trans k7) B7
    have w1 : VB b G7 x1 := VB.kp k7 (VA.le (by decide) (VA.wide (by decide) (VA.old hx1 B5.out)))
    have w2 : VB b G7 x2 := VA.le (by decide) (VA.wide (by decide) (VA.old hx2 B6.out))
    have w0 : VB b G7 (.ref q1) := VA.le (by decide) (VA.wide (by decide) (va_q (hq1.kp B5 (k6.trans k7)) Z1 B7.noTup))
    have npl := same_new (o := .lst [V.ref q1, x1, x2]) hpl
    refine ⟨sm, pl, _, _, rfl, rfl, npl _ _ E7.s, upd_same, by rw [sizeLine_eq]; simp; omega, fun pt hpt => ?_⟩
    have npt := same_new (o := .lst (ms ++ [V.ref q1, x1, x2])) hpt
    have np := npl.trans npt
    have E8 := E7.same np
    have hT8 : ∀ x ∈ ms ++ [V.ref q1, x1, x2], VB b (upd (upd G7 pl (.lst [V.ref q1, x1, x2])) pt (.lst (ms ++ [V.ref q1, x1, x2]))) x := fun x hx => by
      rcases List.mem_append.mp hx with h | h
      · obtain ⟨t, q, rfl, hq, hm⟩ := E8.qs.mem x h
        exact VA.le (by decide) (VA.wide (by decide) (va_q hq (hz9 q hm) E8.B.noTup))
      · refine VA.same np ?_
        rcases List.mem_cons.mp h with rfl | h
        · exact w0
        rcases List.mem_cons.mp h with rfl | h
        · exact w1
        · rw [List.mem_singleton.mp h]
          exact w2
    have hpt8 : (upd (upd G7 pl (.lst [V.ref q1, x1, x2])) pt (.lst (ms ++ [V.ref q1, x1, x2]))) pt = some (.lst (ms ++ [V.ref q1, x1, x2])) := upd_same
    clear np npt npl hpt hpl w0 w1 w2 hx1 hx2 E7 E5 E3 B4 B5 B6 B7 k4 k5 k6 k7 hq1 hp2
    generalize upd (upd G7 pl (.lst [V.ref q1, x1, x2])) pt (.lst (ms ++ [V.ref q1, x1, x2])) = G8 at E8 hT8 hpt8 ⊢
    have ptb : pt ≠ b := fun e => by
      obtain ⟨g, m', p', ns', hb', _⟩ := E8.B
      rw [e, hb'] at hpt8
      injection hpt8 with h1
      injection h1 with h1
      have := congrArg List.length h1
      rw [List.length_append] at this
      have hm0 : ms.length = 1 := by simpa using this.symm
      match ms, hm0 with
      | [m0], _ =>
        injection h1 with h1 _
        obtain ⟨t, e2⟩ := E8.qs.refs m0 List.mem_cons_self
        rw [e2] at h1
        cases h1
    have lts : (ms ++ [V.ref q1, x1, x2]).length ≤ 15 := by rw [List.length_append]; simp; omega
    generalize ms ++ [V.ref q1, x1, x2] = ts at hT8 hpt8 lts ⊢
    -- bent ones
    refine ⟨_, rfl, _, rfl, _, rfl, o, ys, rfl, SqL.of E8.d, fun y1 hy1 => ⟨y1, rfl, ⟨_, SqL.of upd_same⟩, fun D1 hD1 => ?_⟩⟩
    have ny1 := same_new (o := .lst (cutV ys none (some ((3 : Nat) : Int)))) hy1
    have hy1l : (upd G8 y1 (.lst (cutV ys none (some ((3 : Nat) : Int))))) y1 = some (.lst (ys.take 3)) := by rw [upd_same, cut_to]
    have e3 : cutV ys none (some (3 : Int)) = ys.take 3 := cut_to 3 ys
    rw [show ((3 : Nat) : Int) = (3 : Int) from rfl, e3] at ny1 hy1l
    rw [e3] at hD1 ⊢
    have ES := E8.same ny1
    have hTS : ∀ x ∈ ts, VB b (upd G8 y1 (.lst (ys.take 3))) x := fun x hx => VA.same ny1 (hT8 x hx)
    have hptS := ny1 _ _ hpt8
    have y1b : y1 ≠ b := E8.B.ne hy1
    clear E8 hT8 hpt8 ny1 hy1
    generalize upd G8 y1 (.lst (ys.take 3)) = GS at hy1l hD1 ES hTS hptS ⊢
    have D1b : D1 ≠ b := ES.B.ne hD1
    have lD1 : l ≠ D1 := ES.B.nel hD1
    refine lc_list (K := K) (a := y1) (xs := ys.take 3) (fun i G' => Bag G' b l ∧ Kp b GS G' ∧ ∃ items, G' D1 = some (.lst items) ∧ items.length = i ∧ ∀ v ∈ items, VA 40 G' (fun c => c = b ∨ c = D1) 24 v) ⟨ES.B.new hD1, Kp.new hD1, [], upd_same, rfl, fun v hv => (nomatch hv)⟩ (fun i G' _ h => SqL.of (h.2.1 _ _ hy1l y1b)) ?_ ?_
    · rintro j x G' hxj ⟨B', k', items, hDl, hil, hiv⟩
      have hq' := (Paired.takeQ (n := 3) ES.qd)
      obtain ⟨t, q, rfl, hqj, hqt⟩ := (QL.kp ES.B k' hq').at_ hxj
      have Z := az.qz q (List.mem_of_mem_take (List.mem_of_getElem? hqj))
      have nt : ∀ c xs, G' c = some (.tup xs) → ¬ (c = b ∨ c = D1) := fun c xs h e => e.elim (B'.noTup c xs h) fun e => by rw [e, hDl] at h; cases h
      refine ⟨rfl, Exists.intro _ ⟨rfl, _, rfl, b, l, .ref t, (fun c => c = b ∨ c = D1), 12, rfl, B', .inl rfl, fun c e => ?_, va_q hqt Z nt, by decide, by decide, fun G2' v hv B2' k2' => ?_⟩⟩
      · rcases e with e | e
        · exact B'.out c e
        · exact ⟨_, by rw [e]; exact hDl⟩
      have hD2 := k2' _ _ hDl D1b
      have j3 : j < 3 := Nat.lt_of_lt_of_le (List.getElem?_eq_some_iff.mp hxj).1 (by rw [List.length_take]; omega)
      refine ⟨items, hD2, small1000 (by omega), B2'.upd D1b.symm lD1, fun c u hc nb => ?_, items ++ [v], upd_same, by rw [List.length_append, hil]; rfl, fun y hy => ?_⟩
      · rw [upd_ne (ne_of_none hc hD1)]
        exact k2' _ _ (k' _ _ hc nb) nb
      · rcases List.mem_append.mp hy with h | h
        · exact VA.keep (fun c u e na => ⟨by rw [upd_ne fun ec => na (.inr ec)]; exact k2' _ _ e fun ec => na (.inl ec), na⟩) (hiv y h)
        · rw [List.mem_singleton.mp h]
          exact VA.keep (fun c u e na => ⟨by rw [upd_ne fun ec => na (.inr ec)]; exact e, na⟩) (VA.le (by decide) (VA.wide (by decide) hv))
    rintro G9 ⟨B9, k9, its1, hDl, hil, hiv⟩
    have li1 : its1.length ≤ 3 := by rw [hil, List.length_take]; omega
    have E9 := ES.kp nmb k9 B9
    have hpt9 := k9 _ _ hptS ptb
    refine ⟨pt, D1, ts, its1, rfl, rfl, hpt9, hDl, by rw [sizeLine_eq]; omega, fun z1 hz1 => ?_⟩
    have nz := same_new (o := .lst (ts ++ its1)) hz1
    have E10 := E9.same nz
    have hT10 : ∀ x ∈ ts ++ its1, VB b (upd G9 z1 (.lst (ts ++ its1))) x := fun x hx => by
      refine VA.same nz ?_
      rcases List.mem_append.mp hx with h | h
      · exact VB.kp k9 (hTS x h)
      · exact VA.keep (fun c u e na => ⟨e, fun e' => na (.inl e')⟩) (hiv x h)
    have hz10 : (upd G9 z1 (.lst (ts ++ its1))) z1 = some (.lst (ts ++ its1)) := upd_same
    have l10 : (ts ++ its1).length ≤ 18 := by rw [List.length_append]; omega
    have z1b : z1 ≠ b := B9.ne hz1
    clear nz E9 hpt9 hz1 hDl hil hiv k9 B9 hTS hptS ES hD1 hy1l
    generalize upd G9 z1 (.lst (ts ++ its1)) = G10 at E10 hT10 hz10 ⊢
    generalize ts ++ its1 = ts at hT10 hz10 l10 ⊢
    -- lists of questions
    refine ⟨_, rfl, _, rfl, o, ys, rfl, SqL.of E10.d, fun y2 hy2 => ⟨y2, rfl, ⟨_, SqL.of upd_same⟩, fun D2 hD2 => ?_⟩⟩
    have e2 : cutV ys none (some (2 : Int)) = ys.take 2 := cut_to 2 ys
    rw [e2] at hD2 ⊢
    have ny2 := same_new (o := .lst (ys.take 2)) hy2
    have hy2l : (upd G10 y2 (.lst (ys.take 2))) y2 = some (.lst (ys.take 2)) := upd_same
    have ES := E10.same ny2
    have hTS : ∀ x ∈ ts, VB b (upd G10 y2 (.lst (ys.take 2))) x := fun x hx => VA.same ny2 (hT10 x hx)
    have hzS := ny2 _ _ hz10
    clear E10 hT10 hz10 ny2 hy2
    generalize upd G10 y2 (.lst (ys.take 2)) = GS2 at hy2l hD2 ES hTS hzS ⊢
    have D2b : D2 ≠ b := ES.B.ne hD2
    have lD2 : l ≠ D2 := ES.B.nel hD2
    refine lc_list (K := K) (a := y2) (xs := ys.take 2) (fun i G' => Same GS2 G' ∧ ∃ items, G' D2 = some (.lst items) ∧ items.length = i ∧ ∀ v ∈ items, VA 40 G' (fun c => c = b ∨ c = D2) 24 v) ⟨same_new hD2, [], upd_same, rfl, fun v hv => (nomatch hv)⟩ (fun i G' _ h => SqL.of (h.1 _ _ hy2l)) ?_ ?_
    · rintro j x G' hxj ⟨s', items, hDl, hil, hiv⟩
      have hq' := (Paired.takeQ (n := 2) ES.qd)
      obtain ⟨t, q, rfl, hqj, hqt⟩ := (QL.same s' hq').at_ hxj
      have Z := az.qz q (List.mem_of_mem_take (List.mem_of_getElem? hqj))
      obtain ⟨cc, h1, h2⟩ := hqt
      have B' := ES.B.same s'
      refine ⟨rfl, Exists.intro _ ⟨rfl, t, _, rfl, .inr (SqT.of h1), fun r hr' => ?_⟩⟩
      have nr := same_new (o := .lst [V.ref cc, V.str q.2]) hr'
      have rD : r ≠ D2 := fun e => by rw [e, hDl] at hr'; cases hr'
      have rb : r ≠ b := B'.ne hr'
      have hD3 := nr _ _ hDl
      have j3 : j < 2 := Nat.lt_of_lt_of_le (List.getElem?_eq_some_iff.mp hxj).1 (by rw [List.length_take]; omega)
      have nt : ∀ c xs, (upd G' r (.lst [V.ref cc, V.str q.2])) c = some (.tup xs) → ¬ (c = b ∨ c = D2) := fun c xs h e => e.elim ((B'.same nr).noTup c xs h) fun e => by rw [e, hD3] at h; cases h
      refine ⟨items, hD3, small1000 (by omega), fun c u hc => ?_, items ++ [.ref r], upd_same, by rw [List.length_append, hil]; rfl, fun y hy => ?_⟩
      · rw [upd_ne (ne_of_none hc hD2)]
        exact nr _ _ (s' _ _ hc)
      · refine VA.keep (H := upd G' r (.lst [V.ref cc, V.str q.2])) (A := fun c => c = b ∨ c = D2) (fun c u e na => ⟨by rw [upd_ne fun ec => na (.inr ec)]; exact e, na⟩) ?_
        rcases List.mem_append.mp hy with h | h
        · exact VA.same nr (hiv y h)
        · rw [List.mem_singleton.mp h]
          exact VA.le (by decide) (VA.wide (by decide) (va_l (nr _ _ h2) Z nt upd_same fun e => e.elim rb rD))
    rintro G11 ⟨s11, its2, hDl, hil, hiv⟩
    have li2 : its2.length ≤ 2 := by rw [hil, List.length_take]; omega
    have E11 := ES.same s11
    refine ⟨z1, D2, ts, its2, rfl, rfl, s11 _ _ hzS, hDl, by rw [sizeLine_eq]; omega, fun z2 hz2 => ?_⟩
    have nz := same_new (o := .lst (ts ++ its2)) hz2
    have E12 := E11.same nz
    have hT12 : ∀ x ∈ ts ++ its2, SpV (upd G11 z2 (.lst (ts ++ its2))) x := fun x hx => by
      refine ⟨fun c => c = b, 24, VA.same nz ?_⟩
      rcases List.mem_append.mp hx with h | h
      · exact VA.same s11 (hTS x h)
      · exact VA.keep (fun c u e na => ⟨e, fun e' => na (.inl e')⟩) (hiv x h)
    have hz12 : (upd G11 z2 (.lst (ts ++ its2))) z2 = some (.lst (ts ++ its2)) := upd_same
    clear nz E11 hz2 hDl hil hiv hTS hzS ES hD2 hy2l s11
    generalize upd G11 z2 (.lst (ts ++ its2)) = G12 at E12 hT12 hz12 ⊢
    generalize ts ++ its2 = ts at hT12 hz12 ⊢
    have hf : ∀ q ∈ zs, Qfine q := az.qz.fine'
    -- in
    refine ⟨_, rfl, z2, rfl, ⟨_, SqL.of hz12⟩, ?_⟩
    refine for_list (K := K) (a := z2) (xs := ts) (fun j σ G' => Same G12 G' ∧ ∃ v9, σ = [some (.ref a), some (.ref b), some (.int (0 + (i : Int))), some (.ref nm), some (.ref sm), some (.ref o), some (.ref hd), some (.ref ak), some (.ref z2), v9, v10, v11, v12, v13, v14, v15]) ⟨Same.refl _, _, rfl⟩ (fun j σ G' _ h => SqL.of (h.1 _ _ hz12)) ?_ ?_
    · rintro j x σ G' hxj ⟨s', v9, rfl⟩
      have hx : SpV G' x := (hT12 x (List.mem_of_getElem? hxj)).same s'
      have E' := E12.same s'
      obtain ⟨dxa, fsa, hia, _⟩ := E'.A.ins
      refine ⟨_, rfl, _, rfl, ak, dxa, fsa, rfl, hia, ak, x, zs, rfl, E'.A, az.qz, by omega, .inl hx, fun Ga r sa hr' => ⟨r, rfl, ?_⟩⟩
      refine ⟨_, rfl, x, rfl, hx.same sa, fun Gb r2 sb hr2 => ⟨_, rfl, ?_⟩⟩
      have sab := sa.trans sb
      cases r2 with
      | false =>
        refine iteF ?_
        have r0 : r = false := by
          cases r with
          | false => rfl
          | true =>
            obtain ⟨t, q, rfl, hq, hm⟩ := hr'.mp rfl
            exact absurd (hr2.mpr ⟨t, q, rfl, hq.same sa, (az.qz q hm).qc⟩) (by decide)
        subst r0
        exact ⟨false, rfl, _, rfl, iteF ⟨s'.trans sab, _, rfl⟩⟩
      | true =>
        refine iteT ?_
        obtain ⟨t, q, rfl, hqt, Z⟩ := hr2.mp rfl
        have Eb := E'.same sab
        refine ⟨_, rfl, _, rfl, dq q, zs.map dq, dp_q (hqt.same sb), .lst (SqL.of Eb.d) Eb.qd.dp, spv_ok hqt (hx.same sa) Z, (dok_qs3 hf (by omega)).shaped, ?_⟩
        rw [any_q]
        have r0 : r = decide (q ∈ zs) := by
          have hqa := spv_back sa hx hqt
          cases r with
          | true =>
            obtain ⟨t', q', e, hq', hm⟩ := hr'.mp rfl
            injection e with e
            subst e
            rw [QAt.uniqQ (p := q) (q := q') hqa hq']
            exact (decide_eq_true hm).symm
          | false =>
            refine (decide_eq_false fun hm => ?_).symm
            exact absurd (hr'.mpr ⟨t, q, rfl, hqa, hm⟩) (by decide)
        subst r0
        exact ⟨_, rfl, _, rfl, iteF ⟨s'.trans sab, _, rfl⟩⟩
    rintro σ G13 ⟨s13, v9', rfl⟩
    have E13 := E12.same s13
    clear E12 hT12 hz12 s13
    obtain ⟨dxa, fsa, hia, _⟩ := E13.A.ins
    refine ⟨_, rfl, _, rfl, ak, dxa, fsa, rfl, hia, ak, .ref ak, zs, rfl, E13.A, az.qz, by omega, .inr ⟨ak, dxa, fsa, rfl, hia⟩, fun G14 r s14 hr' => ⟨r, rfl, r, false, rfl, rfl, _, rfl, ?_⟩⟩
    have r0 : r = false := by
      cases r with
      | false => rfl
      | true =>
        obtain ⟨t, q, e, ⟨c, h1, _⟩, _⟩ := hr'.mp rfl
        injection e with e
        rw [← e, hia] at h1
        cases h1
    subst r0
    refine iteF ?_
    have E14 := E13.same s14
    clear E13 s14 hr' hia
    -- one more
    refine ⟨_, rfl, _, rfl, _, rfl, b, l, nm, xs.map V.str, rfl, E14.B, nmb, E14.n, by rw [List.length_map]; omega, fun ws p4 G15 hpm3 _ hp4b hp4 B15 k15 => ?_⟩
    obtain ⟨ns3, rfl, hns3⟩ := perm_strs hpm3
    refine ⟨b, l, p4, ns3, rfl, B15, hp4b, .inl hp4, R.perm hns3, fun qm cm em G16 hqm okm B16 k16 => ?_⟩
    have Zm : QZ cm em := (okm.perm hns3).qz R
    have E16 := E14.kp nmb (k15.trans k16) B16
    clear E14 k15 k16 B15 hp4 okm
    refine ⟨_, rfl, _, rfl, b, l, sm, ms, rfl, B16, smb, E16.s, by omega, fun ms2 p5 G17 hpm4 _ hp5b hp5 B17 k17 => ?_⟩
    have E17 := E16.kp nmb k17 B17
    have hqm17 := hqm.kp B16 k17
    obtain ⟨ps2, hQ5', hpp5⟩ := paired_perm hpm4 E17.qs
    have hQ5 : QL G17 ms2 ps2 := hQ5'
    have l5 : ms2.length ≤ 48 := by rw [hpm4.length_eq]; omega
    refine fun tw dx nx ndx nex => mkA (.inl hp5) hQ5 l5 (fun q hq => hz9 q (hpp5.mem_iff.mp hq)) nx ndx fun G18 us2 s18 hX2 au2 _ mu2 _ => ⟨rfl, ?_⟩
    have e2' : us2 = zs := asc_eq au2 az fun q => (mu2 q).trans (hpp5.mem_iff.trans (D.mem q).symm)
    subst e2'
    have E18 := E17.same s18
    have hqm18 := hqm17.same s18
    clear E16 E17 k17 B16 B17 hqm hqm17 hQ5 hQ5' hp5 hpm4 s18
    refine ⟨_, rfl, _, rfl, by show 1 ≤ sizeLine; decide, fun x6 hx6 => ?_⟩
    have n6 := same_new (o := .lst [V.ref qm]) hx6
    refine ⟨o, x6, _, _, rfl, rfl, n6 _ _ E18.d, upd_same, by rw [sizeLine_eq]; simp; omega, fun x7 hx7 => ?_⟩
    have n7 := same_new (o := .lst (ys ++ [V.ref qm])) hx7
    have n67 := n6.trans n7
    have hQ7' : QL (upd (upd G18 x6 (.lst [V.ref qm])) x7 (.lst (ys ++ [V.ref qm]))) (ys ++ [V.ref qm]) (us2 ++ [(cm, em)]) := (E18.qd.same n67).snoc (q := (cm, em)) (hqm18.same n67)
    refine fun ot dx nx ndx nex => mkA (.inl upd_same) hQ7' (by rw [List.length_append]; simp; omega) (fun q hq => (List.mem_append.mp hq).elim (az.qz q) fun h => by rw [List.mem_singleton.mp h]; exact Zm) nx ndx fun G19 us3 s19 hX3 au3 lu3 mu3 _ => ⟨rfl, _, _, rfl, ?_⟩
    have n19 := n67.trans s19
    have E19 := E18.same n19
    have hqm19 := hqm18.same n19
    have hX2' := hX2.same n19
    clear hQ7' n6 n7 n67 n19 s19 hx6 hx7 E18 hqm18 hX2
    have l3 : us3.length ≤ 300 := by
      rw [List.length_append] at lu3
      simp at lu3
      omega
    have d3 : decide (us2 = us3) = decide ((cm, em) ∈ us2) := by
      refine decide_eq_decide.mpr ⟨fun e => ?_, fun m => ?_⟩
      · rw [e]
        exact (mu3 _).mpr (List.mem_append_right _ List.mem_cons_self)
      · refine asc_eq az au3 fun q => ⟨fun h => (mu3 q).mpr (List.mem_append_left _ h), fun h => ?_⟩
        rcases List.mem_append.mp ((mu3 q).mp h) with h | h
        · exact h
        · rw [List.mem_singleton.mp h]
          exact m
    have d3' : decide (us3 = us2) = decide ((cm, em) ∈ us2) := by
      rw [← d3]
      exact decide_eq_decide.mpr eq_comm
    have zl3 : us2.length ≤ 300 := by omega
    have c1 : ∀ Q : VK, Q (.bl true) G19 → Qk.rOwn K C (spAEqX K C) false (.ref ak) (.ref tw) G19 Q := fun Q k => cmpA AC.T AC.nf E19.A hX2' az.qz az.qz zl3 zl3 (by rw [decide_eq_true rfl]; exact k)
    have c2 : ∀ Q : VK, Q (.bl false) G19 → Qk.rOwn K C (spAEqX K C) true (.ref ak) (.ref tw) G19 Q := fun Q k => cmpA AC.T AC.nf E19.A hX2' az.qz az.qz zl3 zl3 (by rw [decide_eq_true rfl]; exact k)
    have c3 : ∀ Q : VK, Q (.bl (decide ((cm, em) ∈ us2))) G19 → Qk.rOwn K C (spAEqX K C) false (.ref ak) (.ref ot) G19 Q := fun Q k => cmpA AC.T AC.nf E19.A hX3 az.qz au3.qz zl3 l3 (by rw [d3]; exact k)
    have c4 : ∀ Q : VK, Q (.bl (decide ((cm, em) ∈ us2))) G19 → Qk.rOwn K C (spAEqX K C) false (.ref ot) (.ref ak) G19 Q := fun Q k => cmpA AC.T AC.nf hX3 E19.A au3.qz az.qz l3 zl3 (by rw [d3']; exact k)
    have c5 : ∀ Q : VK, Q (.bl (!decide ((cm, em) ∈ us2))) G19 → Qk.rOwn K C (spAEqX K C) true (.ref ak) (.ref ot) G19 Q := fun Q k => cmpA AC.T AC.nf E19.A hX3 az.qz au3.qz zl3 l3 (by rw [d3]; exact k)
    refine ⟨_, rfl, _, rfl, c1 _ ⟨_, rfl, _, rfl, c2 _ ⟨_, rfl, _, rfl, c3 _ ⟨_, rfl, _, rfl, c4 _ ⟨_, rfl, _, rfl, c5 _ ⟨by show 5 ≤ sizeLine; decide, fun f1 hf1 => ?_⟩⟩⟩⟩⟩⟩
    have nf1 := same_new (o := .lst [V.bl true, V.bl false, V.bl (decide ((cm, em) ∈ us2)), V.bl (decide ((cm, em) ∈ us2)), V.bl (!decide ((cm, em) ∈ us2))]) hf1
    have hfl : (upd G19 f1 (.lst [V.bl true, V.bl false, V.bl (decide ((cm, em) ∈ us2)), V.bl (decide ((cm, em) ∈ us2)), V.bl (!decide ((cm, em) ∈ us2))])) f1 = some (.lst [V.bl true, V.bl false, V.bl (decide ((cm, em) ∈ us2)), V.bl (decide ((cm, em) ∈ us2)), V.bl (!decide ((cm, em) ∈ us2))]) := upd_same
    have E20 := E19.same nf1
    have hqm20 := hqm19.same nf1
    clear c1 c2 c3 c4 c5 nf1 hf1 E19 hqm19 hX2' hX3 d3 d3'
    generalize upd G19 f1 (.lst [V.bl true, V.bl false, V.bl (decide ((cm, em) ∈ us2)), V.bl (decide ((cm, em) ∈ us2)), V.bl (!decide ((cm, em) ∈ us2))]) = G20 at hfl E20 hqm20 ⊢
    have hdm := (dok_q (q := (cm, em)) Zm.fine).shaped
    have hds := (dok_qs3 hf (by omega)).shaped
    refine ⟨_, rfl, _, rfl, _, rfl, dq (cm, em), us2.map dq, dp_q hqm20, .lst (SqL.of E20.d) E20.qd.dp, hdm, hds, ?_⟩
    refine ⟨_, rfl, _, rfl, dq (cm, em), us2.map dq, dp_q hqm20, .lst (SqL.of E20.d) E20.qd.dp, hdm, hds, ?_⟩
    refine ⟨_, rfl, _, rfl, dq (cm, em), us2.map dq, dp_q hqm20, .lst (SqL.of E20.d) E20.qd.dp, hdm, hds, ?_⟩
    rw [any_q]
    refine ⟨by show 5 ≤ sizeLine; decide, fun f2 hf2 => ?_⟩
    have nf2 := same_new (o := .lst [V.bl true, V.bl false, V.bl (decide ((cm, em) ∈ us2)), V.bl (decide ((cm, em) ∈ us2)), V.bl (!decide ((cm, em) ∈ us2))]) hf2
    refine ⟨.ref f1, .ref f2, .list [.bool true, .bool false, .bool (decide ((cm, em) ∈ us2)), .bool (decide ((cm, em) ∈ us2)), .bool (!decide ((cm, em) ∈ us2))], rfl, .lst (SqL.of (nf2 _ _ hfl)) (.cons (.bl _) (.cons (.bl _) (.cons (.bl _) (.cons (.bl _) (.cons (.bl _) .nil))))), .lst (SqL.of upd_same) (.cons (.bl _) (.cons (.bl _) (.cons (.bl _) (.cons (.bl _) (.cons (.bl _) .nil))))),
      ⟨by cases decide ((cm, em) ∈ us2) <;> rfl, by cases decide ((cm, em) ∈ us2) <;> decide, by cases decide ((cm, em) ∈ us2) <;> decide⟩, _, rfl, ?_⟩
    refine iteF ?_
    have E21 := E20.same nf2
    clear E20 hqm20 hfl nf2 hf2 hdm
    -- each one less
    have ly := E21.qd.len
    refine ⟨_, rfl, o, ys, rfl, .inl (SqL.of E21.d), us2.length, by rw [ly], by omega, by omega, ?_⟩
    generalize upd G20 f2 _ = G21 at E21 ⊢
    refine for_range (lo := 0) (n := us2.length) (fun n σ G => Same G21 G ∧ ∃ v14 v15, σ = [some (.ref a), some (.ref b), some (.int (0 + (i : Int))), some (.ref nm), some (.ref sm), some (.ref o), some (.ref hd), some (.ref ak), some (.ref z2), v9', some (.ref qm), some (.ref tw), some (.ref ot), some (.ref f1), v14, v15]) ⟨Same.refl _, _, _, rfl⟩ ?_ ?_
    · rintro n σ G' hn ⟨s', v14', v15', rfl⟩
      rw [show (0 : Int) + (n : Int) = (n : Int) from Int.zero_add _]
      have E' := E21.same s'
      refine ⟨_, rfl, _, rfl, _, rfl, o, ys, rfl, SqL.of E'.d, fun x1 hx1 => ?_⟩
      have m1 := same_new (o := .lst (cutV ys none (some (n : Int)))) hx1
      refine ⟨_, rfl, _, rfl, _, _, rfl, rfl, _, rfl, o, ys, rfl, SqL.of (m1 _ _ E'.d), fun x4 hx4 => ?_⟩
      have m4 := same_new (o := .lst (cutV ys (some ((n : Int) + 1)) none)) hx4
      refine ⟨x1, x4, ys.take n, ys.drop (n + 1), rfl, rfl, m4 _ _ (by rw [upd_same, cut_to]), by rw [upd_same, cut_behind], by rw [sizeLine_eq, List.length_take, List.length_drop]; omega, fun x5 hx5 => ?_⟩
      have m5 := same_new (o := .lst (ys.take n ++ ys.drop (n + 1))) hx5
      have m15 := m1.trans (m4.trans m5)
      have hql := E'.qd.same m15
      have hQL : QL (upd (upd (upd G' x1 (.lst (cutV ys none (some (n : Int))))) x4 (.lst (cutV ys (some ((n : Int) + 1)) none))) x5 (.lst (ys.take n ++ ys.drop (n + 1)))) (ys.take n ++ ys.drop (n + 1)) (us2.take n ++ us2.drop (n + 1)) := paired_app (Paired.takeQ hql) (Paired.dropQ hql)
      have E5 := E'.same m15
      have ez : us2 = us2.take n ++ us2[n] :: us2.drop (n + 1) := by
        rw [← List.drop_eq_getElem_cons hn, List.take_append_drop]
      have lq : (us2.take n ++ us2.drop (n + 1)).length ≤ 12 := by
        rw [List.length_append, List.length_take, List.length_drop]
        omega
      refine fun x dx nx ndx nex => mkA (.inl upd_same) hQL (by rw [hQL.len]; omega) (fun q hq => (List.mem_append.mp hq).elim (fun h => az.qz q (List.mem_of_mem_take h)) fun h => az.qz q (List.mem_of_mem_drop h)) nx ndx fun H1 us' s1 hX au lu mu _ => ⟨rfl, ?_⟩
      have zn : us2[n] ∉ us' := fun m => by
        have nd' := az.nd
        rw [ez, List.nodup_append] at nd'
        obtain ⟨g1, g2, g3⟩ := nd'
        rcases List.mem_append.mp ((mu _).mp m) with h | h
        · exact g3 _ h _ List.mem_cons_self rfl
        · exact (List.nodup_cons.mp g2).1 h
      have ne : us2 ≠ us' := fun e => zn (e ▸ List.getElem_mem hn)
      have dne : decide (us2 = us') = false := decide_eq_false ne
      have dne' : decide (us' = us2) = false := decide_eq_false ne.symm
      have hA6 := (E5.same s1).A
      have lu' : us'.length ≤ 300 := by omega
      have c1 : ∀ Q : VK, Q (.bl false) H1 → Qk.rOwn K C (spAEqX K C) false (.ref ak) (.ref x) H1 Q := fun Q k => cmpA AC.T AC.nf hA6 hX az.qz au.qz (by omega) lu' (by rw [dne]; exact k)
      have c2 : ∀ Q : VK, Q (.bl false) H1 → Qk.rOwn K C (spAEqX K C) false (.ref x) (.ref ak) H1 Q := fun Q k => cmpA AC.T AC.nf hX hA6 au.qz az.qz lu' (by omega) (by rw [dne']; exact k)
      have c3 : ∀ Q : VK, Q (.bl true) H1 → Qk.rOwn K C (spAEqX K C) true (.ref x) (.ref ak) H1 Q := fun Q k => cmpA AC.T AC.nf hX hA6 au.qz az.qz lu' (by omega) (by rw [dne']; exact k)
      refine ⟨_, rfl, _, rfl, c1 _ ⟨_, rfl, ?_⟩⟩
      refine iteF ?_
      refine ⟨_, rfl, _, rfl, c2 _ ⟨_, rfl, ?_⟩⟩
      refine iteF ?_
      refine ⟨_, rfl, _, rfl, c3 _ ⟨_, rfl, ?_⟩⟩
      refine iteF ?_
      exact ⟨s'.trans (m15.trans s1), _, _, rfl⟩
    rintro σ G22 ⟨s22, v14', v15', rfl⟩
    have E22 := E21.same s22
    clear E21 s22
    -- == with other things
    have kt : ∀ t ∈ (["list", "tuple", "NoneType", "int"] : List String), ∀ {G : Hp} {x : V} {Q : VK}, AsV G C ak us2 → TyX K G x (.type t) → Q (.bl false) G → Qk.rOwn K C (spAEqX K C) false (.ref ak) x G Q := fun t ht {G x Q} hA ty k => cmpO hA ty (AC.N.kT t ht) (AC.N.nF t ht) k
    refine ⟨_, rfl, _, rfl, kt "list" (by decide) E22.A (.base (.lst E22.d)) ?_⟩
    refine ⟨_, rfl, _, rfl, kt "list" (by decide) E22.A (.base (.lst E22.s)) ?_⟩
    refine ⟨_, rfl, ?_⟩
    refine tC_of ?_
    refine kt "NoneType" (by decide) E22.A (.base .non) ?_
    refine ⟨_, rfl, _, rfl, o, ys, rfl, .inl ⟨SqL.of E22.d, fun tt htt => ?_⟩⟩
    have ntt := same_new (o := .tup ys) htt
    have E23 := E22.same ntt
    refine kt "tuple" (by decide) E23.A (.base (.tup upd_same)) ?_
    refine ⟨_, rfl, _, rfl, o, ys, rfl, .inl (SqL.of E23.d), kt "int" (by decide) E23.A (.base (.int _)) ?_⟩
    refine ⟨by show 5 ≤ sizeLine; decide, fun f3 hf3 => ?_⟩
    have nf3 := same_new (o := .lst [V.bl false, V.bl false, V.bl false, V.bl false, V.bl false]) hf3
    have E24 := E23.same nf3
    refine ⟨_, rfl, by show 1 ≤ sizeLine; decide, fun f4 hf4 => ?_⟩
    have nf4 := same_new (o := .lst [V.bl false]) hf4
    refine ⟨f4, 5, _, rfl, rfl, upd_same, by decide, by decide, by rw [sizeLine_eq]; decide, fun f5 hf5 => ?_⟩
    have nf5 := same_new (o := .lst (List.replicate (5 : Int).toNat [V.bl false]).flatten) hf5
    have n45 := nf4.trans nf5
    refine ⟨.ref f3, .ref f5, .list [.bool false, .bool false, .bool false, .bool false, .bool false], rfl, .lst (SqL.of (n45 _ _ upd_same)) (.cons (.bl _) (.cons (.bl _) (.cons (.bl _) (.cons (.bl _) (.cons (.bl _) .nil))))), .lst (SqL.of upd_same) (.cons (.bl _) (.cons (.bl _) (.cons (.bl _) (.cons (.bl _) (.cons (.bl _) .nil))))), ⟨by decide, by decide, by decide⟩, _, rfl, ?_⟩
    refine iteF ?_
    have E25 := E24.same n45
    refine ⟨_, rfl, _, rfl, ak, o, ys, us2, rfl, E25.A, E25.d, E25.qd, az.qz, by omega, fun G26 s26 => ⟨_, rfl, ?_⟩⟩
    refine iteF ?_
    have E26 := E25.same s26
    refine ⟨_, rfl, _, rfl, _, rfl, _, rfl, b, l, ak, o, nm, ys, us2, xs, rfl, E26.B, E26.A, E26.d, E26.qd, az, by omega, zin, nmb, E26.n, R, hqx, by omega, fun G27 B27 k27 => ⟨_, rfl, ?_⟩⟩
    refine iteF ?_
    have E27 := E26.kp nmb k27 B27
    refine ⟨_, rfl, _, rfl, ak, o, ys, us2, rfl, E27.A, E27.d, E27.qd, az.qz, zl, fun G28 s28 => ⟨_, rfl, ?_⟩⟩
    refine iteF ?_
    exact ⟨E27.B.same s28, _, _, _, _, _, _, _, _, _, _, _, _, _, _, rfl⟩
end
end Qk
set_option maxRecDepth 100000
set_option maxHeartbeats 4000000
namespace Qk
open PySem PySem.Spec PyProof.Rows L2
section
variable {P : Program} {w : World} {K : PySem.W.Frag} {mg : Str → Option Value} {base : Heap}
theorem scAlike : FnScope ["_law_found", "_law_due"] ["_law_found", "_law_due"] (defScope sAlike) := ⟨rfl, rfl, rfl, by decide +kernel, rfl, by decide +kernel, by decide +kernel⟩
theorem ok_alike {f : Addr} {fd : FuncData} (F : Fun K "_law_alike" "_law_alike" sAlike f fd) (T : Txt K mg) : FnG P w K mg base 1 f fd ["_law_found", "_law_due"] (spAlikeD K) := by
  refine okG F scAlike (fun vs H Q E h => ?_) (fun cdv A outer s H vs Q E hr hg h => ?_)
  · obtain ⟨x, y, d, rfl, _⟩ := h
    rfl
  · obtain ⟨x, y, d, rfl, h1, h2, hd, k⟩ := h
    have lay := fine_lay d hd.f
    have hdp : d.depth ≤ 60 := Nat.le_trans hd.dp (by decide)
    refine ⟨_, pss_one (ps_ret (pe_and (pe_cmpR (op_eqD hr.units) (pv 0) (pv 1) (nomark _)) (pe_one (pe_cmpR op_eq (pe_callB (call_reprD hg hr.units) (by rfl) T.repr (by decide +kernel) (pa_cons (pv 0) pa_nil))
      (pe_callB (call_reprD hg hr.units) (by rfl) T.repr (by decide +kernel) (pa_cons (pv 1) pa_nil)) (nomark _))))), ?_⟩
    refine ⟨_, rfl, _, rfl, d, d, h1, h2, hd.shaped, hd.shaped, _, rfl, ?_⟩
    rw [SeqAt.eqv_refl d lay.1]
    refine iteT ?_
    refine ⟨_, rfl, x, d, rfl, h1, lay.2.1, lay.2.2, hd.len, hdp, _, rfl, y, d, rfl, h2, lay.2.1, lay.2.2, hd.len, hdp, rfl, ?_⟩
    show Q (.bl (decide (V.str d.shown = V.str d.shown))) H
    rw [decide_eq_true rfl]
    exact k
end
end Qk
set_option maxRecDepth 100000
set_option maxHeartbeats 4000000
namespace Qk
open PySem PySem.Spec PyProof.Rows L2
theorem all_mk {l : PySem.W.OpenLaw} {w : World} {K : PySem.W.Frag} {h : Heap} {mg : Str → Option Value} {fa f1 f2 f3 f4 f5 f6 f7 f8 f9 f10 f11 f12 f13 f14 f15 f16 f17 f18 f19 f20 f21 f22 f23 f24 f25 f26 f27 f28 f29 CA fAI fAE fAL fAN fAT fAQ fAD : Addr} {tL tM : Nat} (X : K.In h) (G : h.Ns mainGlobals mg) (hfa : mg "law" = some (.ref fa))
    {od1 an1 od2 an2 od3 an3 od4 an4 od5 an5 od6 an6 od7 an7 od8 an8 od9 an9 od10 an10 od11 an11 od12 an12 od13 an13 od14 an14 od15 an15 od16 an16 od17 an17 od18 an18 od19 an19 od20 an20 od21 an21 od22 an22 od23 an23 od24 an24 od25 an25 od26 an26 od27 an27 od28 an28 od29 an29 odAI anAI odAE anAE odAL anAL odAN anAN odAT anAT odAQ anAQ odAD anAD : Option Addr} {slAI slAE slAL slAN slAT slAQ slAD sl1 sl2 sl3 sl4 sl5 sl6 sl7 sl8 sl9 sl10 sl11 sl12 sl13 sl14 sl15 sl16 sl17 sl18 sl19 sl20 sl21 sl22 sl23 sl24 sl25 sl26 sl27 sl28 sl29 : Array (Option Value)} {oc1 kV1 dc1 pm1 cd1 ct1 oc2 kV2 dc2 pm2 cd2 ct2 oc3 kV3 dc3 pm3 cd3 ct3 oc4 kV4 dc4 pm4 cd4 ct4 oc5 kV5 dc5 pm5 cd5 ct5 oc6 kV6 dc6 pm6 cd6 ct6 oc7 kV7 dc7 pm7 cd7 ct7 oc8 kV8 dc8 pm8 cd8 ct8 oc9 kV9 dc9 pm9 cd9 ct9 oc10 kV10 dc10 pm10 cd10 ct10 oc11 kV11 dc11 pm11 cd11 ct11 oc12 kV12 dc12 pm12 cd12 ct12 oc13 kV13 dc13 pm13 cd13 ct13 oc14 kV14 dc14 pm14 cd14 ct14 oc15 kV15 dc15 pm15 cd15 ct15 oc16 kV16 dc16 pm16 cd16 ct16 oc17 kV17 dc17 pm17 cd17 ct17 oc18 kV18 dc18 pm18 cd18 ct18 oc19 kV19 dc19 pm19 cd19 ct19 oc20 kV20 dc20 pm20 cd20 ct20 oc21 kV21 dc21 pm21 cd21 ct21 oc22 kV22 dc22 pm22 cd22 ct22 oc23 kV23 dc23 pm23 cd23 ct23 oc24 kV24 dc24 pm24 cd24 ct24 oc25 kV25 dc25 pm25 cd25 ct25 oc26 kV26 dc26 pm26 cd26 ct26 oc27 kV27 dc27 pm27 cd27 ct27 oc28 kV28 dc28 pm28 cd28 ct28 oc29 kV29 dc29 pm29 cd29 ct29 ocAI kVAI dcAI pmAI cdAI ctAI ocAE kVAE dcAE pmAE cdAE ctAE ocAL kVAL dcAL pmAL cdAL ctAL ocAN kVAN dcAN pmAN cdAN ctAN ocAT kVAT dcAT pmAT cdAT ctAT ocAQ kVAQ dcAQ pmAQ cdAQ ctAQ ocAD kVAD dcAD pmAD cdAD ctAD : Value}
    (a1 : PySem.W.nsIn K mainGlobals "is_column" = some (some (.ref f1))) (l1 : K.lookup f1 = some ⟨oc1, od1, .func (PySem.W.fnOf "is_column" "is_column" (defArgs sIsCol) (defBody sIsCol) (defScope sIsCol) .none kV1 dc1 pm1 an1 cd1 ct1), sl1⟩) (c1 : PySem.W.codeIn K cd1 "is_column" = true) (k1 : PySem.W.keepIn K (.ref f1) = true)
    (a2 : PySem.W.nsIn K mainGlobals "is_ascending" = some (some (.ref f2))) (l2 : K.lookup f2 = some ⟨oc2, od2, .func (PySem.W.fnOf "is_ascending" "is_ascending" (defArgs sAsc) (defBody sAsc) (defScope sAsc) .none kV2 dc2 pm2 an2 cd2 ct2), sl2⟩) (c2 : PySem.W.codeIn K cd2 "is_ascending" = true) (k2 : PySem.W.keepIn K (.ref f2) = true)
    (a3 : PySem.W.nsIn K mainGlobals "are_columns" = some (some (.ref f3))) (l3 : K.lookup f3 = some ⟨oc3, od3, .func (PySem.W.fnOf "are_columns" "are_columns" (defArgs sAreCols) (defBody sAreCols) (defScope sAreCols) .none kV3 dc3 pm3 an3 cd3 ct3), sl3⟩) (c3 : PySem.W.codeIn K cd3 "are_columns" = true) (k3 : PySem.W.keepIn K (.ref f3) = true)
    (a4 : PySem.W.nsIn K mainGlobals "is_empty" = some (some (.ref f4))) (l4 : K.lookup f4 = some ⟨oc4, od4, .func (PySem.W.fnOf "is_empty" "is_empty" (defArgs sIsEmpty) (defBody sIsEmpty) (defScope sIsEmpty) .none kV4 dc4 pm4 an4 cd4 ct4), sl4⟩) (c4 : PySem.W.codeIn K cd4 "is_empty" = true) (k4 : PySem.W.keepIn K (.ref f4) = true)
    (a5 : PySem.W.nsIn K mainGlobals "is_last" = some (some (.ref f5))) (l5 : K.lookup f5 = some ⟨oc5, od5, .func (PySem.W.fnOf "is_last" "is_last" (defArgs sIsLast) (defBody sIsLast) (defScope sIsLast) .none kV5 dc5 pm5 an5 cd5 ct5), sl5⟩) (c5 : PySem.W.codeIn K cd5 "is_last" = true) (k5 : PySem.W.keepIn K (.ref f5) = true)
    (a6 : PySem.W.nsIn K mainGlobals "is_question" = some (some (.ref f6))) (l6 : K.lookup f6 = some ⟨oc6, od6, .func (PySem.W.fnOf "is_question" "is_question" (defArgs sIsQ) (defBody sIsQ) (defScope sIsQ) .none kV6 dc6 pm6 an6 cd6 ct6), sl6⟩) (c6 : PySem.W.codeIn K cd6 "is_question" = true) (k6 : PySem.W.keepIn K (.ref f6) = true)
    (a7 : PySem.W.nsIn K mainGlobals "are_questions" = some (some (.ref f7))) (l7 : K.lookup f7 = some ⟨oc7, od7, .func (PySem.W.fnOf "are_questions" "are_questions" (defArgs sAreQs) (defBody sAreQs) (defScope sAreQs) .none kV7 dc7 pm7 an7 cd7 ct7), sl7⟩) (c7 : PySem.W.codeIn K cd7 "are_questions" = true) (k7 : PySem.W.keepIn K (.ref f7) = true)
    (a8 : PySem.W.nsIn K mainGlobals "row_of" = some (some (.ref f8))) (l8 : K.lookup f8 = some ⟨oc8, od8, .func (PySem.W.fnOf "row_of" "row_of" (defArgs sRow) (defBody sRow) (defScope sRow) .none kV8 dc8 pm8 an8 cd8 ct8), sl8⟩) (c8 : PySem.W.codeIn K cd8 "row_of" = true) (k8 : PySem.W.keepIn K (.ref f8) = true)
    (a9 : PySem.W.nsIn K mainGlobals "columns_of" = some (some (.ref f9))) (l9 : K.lookup f9 = some ⟨oc9, od9, .func (PySem.W.fnOf "columns_of" "columns_of" (defArgs sCols) (defBody sCols) (defScope sCols) .none kV9 dc9 pm9 an9 cd9 ct9), sl9⟩) (c9 : PySem.W.codeIn K cd9 "columns_of" = true) (k9 : PySem.W.keepIn K (.ref f9) = true)
    (a10 : PySem.W.nsIn K mainGlobals "_law_bag" = some (some (.ref f10))) (l10 : K.lookup f10 = some ⟨oc10, od10, .func (PySem.W.fnOf "_law_bag" "_law_bag" (defArgs sBag) (defBody sBag) (defScope sBag) .none kV10 dc10 pm10 an10 cd10 ct10), sl10⟩) (c10 : PySem.W.codeIn K cd10 "_law_bag" = true) (k10 : PySem.W.keepIn K (.ref f10) = true)
    (a11 : PySem.W.nsIn K mainGlobals "_law_take" = some (some (.ref f11))) (l11 : K.lookup f11 = some ⟨oc11, od11, .func (PySem.W.fnOf "_law_take" "_law_take" (defArgs sTake) (defBody sTake) (defScope sTake) .none kV11 dc11 pm11 an11 cd11 ct11), sl11⟩) (c11 : PySem.W.codeIn K cd11 "_law_take" = true) (k11 : PySem.W.keepIn K (.ref f11) = true)
    (a12 : PySem.W.nsIn K mainGlobals "_law_one" = some (some (.ref f12))) (l12 : K.lookup f12 = some ⟨oc12, od12, .func (PySem.W.fnOf "_law_one" "_law_one" (defArgs sOne) (defBody sOne) (defScope sOne) .none kV12 dc12 pm12 an12 cd12 ct12), sl12⟩) (c12 : PySem.W.codeIn K cd12 "_law_one" = true) (k12 : PySem.W.keepIn K (.ref f12) = true)
    (a13 : PySem.W.nsIn K mainGlobals "_law_mixed" = some (some (.ref f13))) (l13 : K.lookup f13 = some ⟨oc13, od13, .func (PySem.W.fnOf "_law_mixed" "_law_mixed" (defArgs sMixed) (defBody sMixed) (defScope sMixed) .none kV13 dc13 pm13 an13 cd13 ct13), sl13⟩) (c13 : PySem.W.codeIn K cd13 "_law_mixed" = true) (k13 : PySem.W.keepIn K (.ref f13) = true)
    (a14 : PySem.W.nsIn K mainGlobals "_law_alike" = some (some (.ref f14))) (l14 : K.lookup f14 = some ⟨oc14, od14, .func (PySem.W.fnOf "_law_alike" "_law_alike" (defArgs sAlike) (defBody sAlike) (defScope sAlike) .none kV14 dc14 pm14 an14 cd14 ct14), sl14⟩) (c14 : PySem.W.codeIn K cd14 "_law_alike" = true) (k14 : PySem.W.keepIn K (.ref f14) = true)
    (a15 : PySem.W.nsIn K mainGlobals "_law_truth" = some (some (.ref f15))) (l15 : K.lookup f15 = some ⟨oc15, od15, .func (PySem.W.fnOf "_law_truth" "_law_truth" (defArgs sTruth) (defBody sTruth) (defScope sTruth) .none kV15 dc15 pm15 an15 cd15 ct15), sl15⟩) (c15 : PySem.W.codeIn K cd15 "_law_truth" = true) (k15 : PySem.W.keepIn K (.ref f15) = true)
    (a16 : PySem.W.nsIn K mainGlobals "_law_names" = some (some (.ref f16))) (l16 : K.lookup f16 = some ⟨oc16, od16, .func (PySem.W.fnOf "_law_names" "_law_names" (defArgs sNames) (defBody sNames) (defScope sNames) .none kV16 dc16 pm16 an16 cd16 ct16), sl16⟩) (c16 : PySem.W.codeIn K cd16 "_law_names" = true) (k16 : PySem.W.keepIn K (.ref f16) = true)
    (a17 : PySem.W.nsIn K mainGlobals "_law_question_of" = some (some (.ref f17))) (l17 : K.lookup f17 = some ⟨oc17, od17, .func (PySem.W.fnOf "_law_question_of" "_law_question_of" (defArgs sQOf) (defBody sQOf) (defScope sQOf) .none kV17 dc17 pm17 an17 cd17 ct17), sl17⟩) (c17 : PySem.W.codeIn K cd17 "_law_question_of" = true) (k17 : PySem.W.keepIn K (.ref f17) = true)
    (a18 : PySem.W.nsIn K mainGlobals "_law_questions" = some (some (.ref f18))) (l18 : K.lookup f18 = some ⟨oc18, od18, .func (PySem.W.fnOf "_law_questions" "_law_questions" (defArgs sQuestions) (defBody sQuestions) (defScope sQuestions) .none kV18 dc18 pm18 an18 cd18 ct18), sl18⟩) (c18 : PySem.W.codeIn K cd18 "_law_questions" = true) (k18 : PySem.W.keepIn K (.ref f18) = true)
    (a19 : PySem.W.nsIn K mainGlobals "_law_all" = some (some (.ref f19))) (l19 : K.lookup f19 = some ⟨oc19, od19, .func (PySem.W.fnOf "_law_all" "_law_all" (defArgs sLAll) (defBody sLAll) (defScope sLAll) .none kV19 dc19 pm19 an19 cd19 ct19), sl19⟩) (c19 : PySem.W.codeIn K cd19 "_law_all" = true) (k19 : PySem.W.keepIn K (.ref f19) = true)
    (a20 : PySem.W.nsIn K mainGlobals "_law_columns" = some (some (.ref f20))) (l20 : K.lookup f20 = some ⟨oc20, od20, .func (PySem.W.fnOf "_law_columns" "_law_columns" (defArgs sLCols) (defBody sLCols) (defScope sLCols) .none kV20 dc20 pm20 an20 cd20 ct20), sl20⟩) (c20 : PySem.W.codeIn K cd20 "_law_columns" = true) (k20 : PySem.W.keepIn K (.ref f20) = true)
    (a21 : PySem.W.nsIn K mainGlobals "_law_is_column" = some (some (.ref f21))) (l21 : K.lookup f21 = some ⟨oc21, od21, .func (PySem.W.fnOf "_law_is_column" "_law_is_column" (defArgs sLIsCol) (defBody sLIsCol) (defScope sLIsCol) .none kV21 dc21 pm21 an21 cd21 ct21), sl21⟩) (c21 : PySem.W.codeIn K cd21 "_law_is_column" = true) (k21 : PySem.W.keepIn K (.ref f21) = true)
    (a22 : PySem.W.nsIn K mainGlobals "_law_are_columns" = some (some (.ref f22))) (l22 : K.lookup f22 = some ⟨oc22, od22, .func (PySem.W.fnOf "_law_are_columns" "_law_are_columns" (defArgs sLAreCols) (defBody sLAreCols) (defScope sLAreCols) .none kV22 dc22 pm22 an22 cd22 ct22), sl22⟩) (c22 : PySem.W.codeIn K cd22 "_law_are_columns" = true) (k22 : PySem.W.keepIn K (.ref f22) = true)
    (a23 : PySem.W.nsIn K mainGlobals "_law_is_question" = some (some (.ref f23))) (l23 : K.lookup f23 = some ⟨oc23, od23, .func (PySem.W.fnOf "_law_is_question" "_law_is_question" (defArgs sLIsQ) (defBody sLIsQ) (defScope sLIsQ) .none kV23 dc23 pm23 an23 cd23 ct23), sl23⟩) (c23 : PySem.W.codeIn K cd23 "_law_is_question" = true) (k23 : PySem.W.keepIn K (.ref f23) = true)
    (a24 : PySem.W.nsIn K mainGlobals "_law_odd" = some (some (.ref f24))) (l24 : K.lookup f24 = some ⟨oc24, od24, .func (PySem.W.fnOf "_law_odd" "_law_odd" (defArgs sOdd) (defBody sOdd) (defScope sOdd) .none kV24 dc24 pm24 an24 cd24 ct24), sl24⟩) (c24 : PySem.W.codeIn K cd24 "_law_odd" = true) (k24 : PySem.W.keepIn K (.ref f24) = true)
    (a25 : PySem.W.nsIn K mainGlobals "_law_bent" = some (some (.ref f25))) (l25 : K.lookup f25 = some ⟨oc25, od25, .func (PySem.W.fnOf "_law_bent" "_law_bent" (defArgs sBent) (defBody sBent) (defScope sBent) .none kV25 dc25 pm25 an25 cd25 ct25), sl25⟩) (c25 : PySem.W.codeIn K cd25 "_law_bent" = true) (k25 : PySem.W.keepIn K (.ref f25) = true)
    (a26 : PySem.W.nsIn K mainGlobals "_law_right" = some (some (.ref f26))) (l26 : K.lookup f26 = some ⟨oc26, od26, .func (PySem.W.fnOf "_law_right" "_law_right" (defArgs sRight) (defBody sRight) (defScope sRight) .none kV26 dc26 pm26 an26 cd26 ct26), sl26⟩) (c26 : PySem.W.codeIn K cd26 "_law_right" = true) (k26 : PySem.W.keepIn K (.ref f26) = true)
    (a27 : PySem.W.nsIn K mainGlobals "_law_walks_right" = some (some (.ref f27))) (l27 : K.lookup f27 = some ⟨oc27, od27, .func (PySem.W.fnOf "_law_walks_right" "_law_walks_right" (defArgs sWalks) (defBody sWalks) (defScope sWalks) .none kV27 dc27 pm27 an27 cd27 ct27), sl27⟩) (c27 : PySem.W.codeIn K cd27 "_law_walks_right" = true) (k27 : PySem.W.keepIn K (.ref f27) = true)
    (a28 : PySem.W.nsIn K mainGlobals "_law_unlike_right" = some (some (.ref f28))) (l28 : K.lookup f28 = some ⟨oc28, od28, .func (PySem.W.fnOf "_law_unlike_right" "_law_unlike_right" (defArgs sUnlike) (defBody sUnlike) (defScope sUnlike) .none kV28 dc28 pm28 an28 cd28 ct28), sl28⟩) (c28 : PySem.W.codeIn K cd28 "_law_unlike_right" = true) (k28 : PySem.W.keepIn K (.ref f28) = true)
    (a29 : PySem.W.nsIn K mainGlobals "law" = some (some (.ref f29))) (l29 : K.lookup f29 = some ⟨oc29, od29, .func (PySem.W.fnOf "law" "law" (defArgs sLaw) (defBody sLaw) (defScope sLaw) .none kV29 dc29 pm29 an29 cd29 ct29), sl29⟩) (c29 : PySem.W.codeIn K cd29 "law" = true) (k29 : PySem.W.keepIn K (.ref f29) = true)
    (aL : PySem.W.nsIn K mainGlobals "LONGEST_COLUMN" = some (some (.int 8 tL)))
    (aM : PySem.W.nsIn K mainGlobals "LIMIT" = some (some (.int 48 tM)))
    (hn : PySem.W.specialIn K (.builtin "object.__class__") "__get__" = some (some (.builtin "getset_descriptor.__get__"))) (ht : PySem.W.takesIn K (.builtin "object.__class__") = some true)
    (aCA : PySem.W.nsIn K mainGlobals "Asked" = some (some (.ref CA)))
    (aAI : PySem.W.findIn K (.ref CA) "__init__" = some (some (.ref fAI))) (iAI : PySem.W.isFn K (.ref fAI) = true) (lAI : K.lookup fAI = some ⟨ocAI, odAI, .func (PySem.W.fnOf "__init__" "Asked.__init__" (defArgs sAInit) (defBody sAInit) (defScope sAInit) .none kVAI dcAI pmAI anAI cdAI ctAI), slAI⟩) (cAI : PySem.W.codeIn K cdAI "Asked.__init__" = true) (kAI : PySem.W.keepIn K (.ref fAI) = true)
    (aAE : PySem.W.findIn K (.ref CA) "__eq__" = some (some (.ref fAE))) (iAE : PySem.W.isFn K (.ref fAE) = true) (lAE : K.lookup fAE = some ⟨ocAE, odAE, .func (PySem.W.fnOf "__eq__" "Asked.__eq__" (defArgs sAEq) (defBody sAEq) (defScope sAEq) .none kVAE dcAE pmAE anAE cdAE ctAE), slAE⟩) (cAE : PySem.W.codeIn K cdAE "Asked.__eq__" = true) (kAE : PySem.W.keepIn K (.ref fAE) = true)
    (aAL : PySem.W.findIn K (.ref CA) "__len__" = some (some (.ref fAL))) (iAL : PySem.W.isFn K (.ref fAL) = true) (lAL : K.lookup fAL = some ⟨ocAL, odAL, .func (PySem.W.fnOf "__len__" "Asked.__len__" (defArgs sALen) (defBody sALen) (defScope sALen) .none kVAL dcAL pmAL anAL cdAL ctAL), slAL⟩) (cAL : PySem.W.codeIn K cdAL "Asked.__len__" = true) (kAL : PySem.W.keepIn K (.ref fAL) = true)
    (aAN : PySem.W.findIn K (.ref CA) "__contains__" = some (some (.ref fAN))) (iAN : PySem.W.isFn K (.ref fAN) = true) (lAN : K.lookup fAN = some ⟨ocAN, odAN, .func (PySem.W.fnOf "__contains__" "Asked.__contains__" (defArgs sAIn) (defBody sAIn) (defScope sAIn) .none kVAN dcAN pmAN anAN cdAN ctAN), slAN⟩) (cAN : PySem.W.codeIn K cdAN "Asked.__contains__" = true) (kAN : PySem.W.keepIn K (.ref fAN) = true)
    (aAT : PySem.W.findIn K (.ref CA) "__iter__" = some (some (.ref fAT))) (iAT : PySem.W.isFn K (.ref fAT) = true) (lAT : K.lookup fAT = some ⟨ocAT, odAT, .func (PySem.W.fnOf "__iter__" "Asked.__iter__" (defArgs sAIter) (defBody sAIter) (defScope sAIter) .none kVAT dcAT pmAT anAT cdAT ctAT), slAT⟩) (cAT : PySem.W.codeIn K cdAT "Asked.__iter__" = true) (kAT : PySem.W.keepIn K (.ref fAT) = true)
    (aAQ : PySem.W.findIn K (.ref CA) "questions" = some (some (.ref fAQ))) (iAQ : PySem.W.isFn K (.ref fAQ) = true) (lAQ : K.lookup fAQ = some ⟨ocAQ, odAQ, .func (PySem.W.fnOf "questions" "Asked.questions" (defArgs sAQns) (defBody sAQns) (defScope sAQns) .none kVAQ dcAQ pmAQ anAQ cdAQ ctAQ), slAQ⟩) (cAQ : PySem.W.codeIn K cdAQ "Asked.questions" = true) (kAQ : PySem.W.keepIn K (.ref fAQ) = true)
    (aAD : PySem.W.findIn K (.ref CA) "columns" = some (some (.ref fAD))) (iAD : PySem.W.isFn K (.ref fAD) = true) (lAD : K.lookup fAD = some ⟨ocAD, odAD, .func (PySem.W.fnOf "columns" "Asked.columns" (defArgs sColumns) (defBody sColumns) (defScope sColumns) .none kVAD dcAD pmAD anAD cdAD ctAD), slAD⟩) (cAD : PySem.W.codeIn K cdAD "Asked.columns" = true) (kAD : PySem.W.keepIn K (.ref fAD) = true)
    (pgA : PySem.W.plainGet K CA Str.empty = true) (hdA : PySem.W.hasDictIn K CA = true) (poA : PySem.W.plainOver K CA = true) (saA : PySem.W.findIn K (.ref CA) "__setattr__" = some (some (.builtin "object.__setattr__"))) (mkA : PySem.W.makesIn K CA = true) (kcA : PySem.W.keepIn K (.ref CA) = true) (nQA : PySem.W.findIn K (.ref CA) "_questions" = some none) (haA : PySem.W.findIn K (.ref CA) "__class__" = some (some (.builtin "object.__class__"))) (hmA : PySem.W.mroIn K CA (.type "object") = some true) (enA : PySem.W.findIn K (.ref CA) "__ne__" = some (some (.builtin "object.__ne__"))) (eoA : PySem.W.subIn K (.ref CA) (.type "object") = some true) (nfA : PySem.W.notFirst K CA (.ref CA) = true) (kNA : PySem.W.kitOne K (.ref CA) (.type "tuple") = some false) (k1TA : PySem.W.kitOne K (.type "list") (.ref CA) = some false) (k2TA : PySem.W.kitOne K (.type "tuple") (.ref CA) = some false) (k3TA : PySem.W.kitOne K (.type "NoneType") (.ref CA) = some false) (k4TA : PySem.W.kitOne K (.type "int") (.ref CA) = some false) (n1TA : PySem.W.notFirst K CA (.type "list") = true) (n2TA : PySem.W.notFirst K CA (.type "tuple") = true) (n3TA : PySem.W.notFirst K CA (.type "NoneType") = true) (n4TA : PySem.W.notFirst K CA (.type "int") = true)
    (zlen : PySem.W.nsIn K mainGlobals "len" = some none) (zint : PySem.W.nsIn K mainGlobals "int" = some none) (zabs : PySem.W.nsIn K mainGlobals "abs" = some none) (ztuple : PySem.W.nsIn K mainGlobals "tuple" = some none) (zsorted : PySem.W.nsIn K mainGlobals "sorted" = some none) (zrange : PySem.W.nsIn K mainGlobals "range" = some none) (zrepr : PySem.W.nsIn K mainGlobals "repr" = some none) (zlist : PySem.W.nsIn K mainGlobals "list" = some none) (zset : PySem.W.nsIn K mainGlobals "set" = some none) (zisinstance : PySem.W.nsIn K mainGlobals "isinstance" = some none) (zstr : PySem.W.nsIn K mainGlobals "str" = some none) (zall : PySem.W.nsIn K mainGlobals "all" = some none) (zenumerate : PySem.W.nsIn K mainGlobals "enumerate" = some none) (ziter : PySem.W.nsIn K mainGlobals "iter" = some none) (zzip : PySem.W.nsIn K mainGlobals "zip" = some none) (zbool : PySem.W.nsIn K mainGlobals "bool" = some none) (zdict : PySem.W.nsIn K mainGlobals "dict" = some none) :
    ∃ fd : FuncData, (∀ (s : Shared) (v : Value), BindsTo s fd ⟨[v], []⟩ [("_law_script", v)]) ∧ ∀ base : Heap, K.In base → base.Ns mainGlobals mg → FnG l.prog w K mg base 8 fa fd ["_law_script"] (spLaw K) := by
  have e := hfa.symm.trans (PySem.W.mg_of X G a29)
  cases e
  have T : Txt K mg := ⟨PySem.W.mg_none_of X G zlen, PySem.W.mg_none_of X G zint, PySem.W.mg_none_of X G zabs, PySem.W.mg_none_of X G ztuple, PySem.W.mg_none_of X G zsorted, PySem.W.mg_none_of X G zrange, PySem.W.mg_none_of X G zrepr, PySem.W.mg_none_of X G zlist, PySem.W.mg_none_of X G zset, PySem.W.mg_none_of X G zisinstance, PySem.W.mg_none_of X G zstr, PySem.W.mg_none_of X G zall, PySem.W.mg_none_of X G zenumerate, PySem.W.mg_none_of X G ziter, PySem.W.mg_none_of X G zzip, PySem.W.mg_none_of X G zbool, PySem.W.mg_none_of X G zdict, ⟨tL, PySem.W.mg_of X G aL⟩, ⟨tM, PySem.W.mg_of X G aM⟩⟩
  have TA : TxA K mg CA := ⟨⟨pgA, hdA, poA, saA⟩, nQA, PySem.W.mg_of X G aCA, haA, hn, ht, hmA⟩
  have kTT : ∀ t ∈ (["list", "tuple", "NoneType", "int"] : List String), PySem.W.kitOne K (.type t) (.ref CA) = some false := fun t ht => by
    rcases List.mem_cons.mp ht with rfl | ht
    · exact k1TA
    rcases List.mem_cons.mp ht with rfl | ht
    · exact k2TA
    rcases List.mem_cons.mp ht with rfl | ht
    · exact k3TA
    rw [List.mem_singleton.mp ht]
    exact k4TA
  have nTT : ∀ t ∈ (["list", "tuple", "NoneType", "int"] : List String), PySem.W.notFirst K CA (.type t) = true := fun t ht => by
    rcases List.mem_cons.mp ht with rfl | ht
    · exact n1TA
    rcases List.mem_cons.mp ht with rfl | ht
    · exact n2TA
    rcases List.mem_cons.mp ht with rfl | ht
    · exact n3TA
    rw [List.mem_singleton.mp ht]
    exact n4TA
  have TN : TxN K CA := ⟨kNA, kTT, nTT⟩
  have MA : Mk K CA fAI := ⟨mkA, aAI, iAI, kcA⟩
  have FAI := fun_mk (st := sAInit) lAI cAI kAI
  have bAI := FAI.binds (ps := ["self", "questions"]) fun _ _ _ _ _ _ us hl => match us, hl with | [_, _], _ => rfl
  have FAE := fun_mk (st := sAEq) lAE cAE kAE
  have bAE := FAE.binds (ps := ["self", "other"]) fun _ _ _ _ _ _ us hl => match us, hl with | [_, _], _ => rfl
  have FAL := fun_mk (st := sALen) lAL cAL kAL
  have bAL := FAL.binds (ps := ["self"]) fun _ _ _ _ _ _ us hl => match us, hl with | [_], _ => rfl
  have FAN := fun_mk (st := sAIn) lAN cAN kAN
  have bAN := FAN.binds (ps := ["self", "x"]) fun _ _ _ _ _ _ us hl => match us, hl with | [_, _], _ => rfl
  have FAT := fun_mk (st := sAIter) lAT cAT kAT
  have bAT := FAT.binds (ps := ["self"]) fun _ _ _ _ _ _ us hl => match us, hl with | [_], _ => rfl
  have FAQ := fun_mk (st := sAQns) lAQ cAQ kAQ
  have bAQ := FAQ.binds (ps := ["self"]) fun _ _ _ _ _ _ us hl => match us, hl with | [_], _ => rfl
  have FAD := fun_mk (st := sColumns) lAD cAD kAD
  have bAD := FAD.binds (ps := ["self"]) fun _ _ _ _ _ _ us hl => match us, hl with | [_], _ => rfl
  have F1 := fun_mk (st := sIsCol) l1 c1 k1
  have b1 := F1.binds (ps := ["thing"]) fun _ _ _ _ _ _ us hl => match us, hl with | [_], _ => rfl
  have F2 := fun_mk (st := sAsc) l2 c2 k2
  have b2 := F2.binds (ps := ["things"]) fun _ _ _ _ _ _ us hl => match us, hl with | [_], _ => rfl
  have F3 := fun_mk (st := sAreCols) l3 c3 k3
  have b3 := F3.binds (ps := ["thing"]) fun _ _ _ _ _ _ us hl => match us, hl with | [_], _ => rfl
  have F4 := fun_mk (st := sIsEmpty) l4 c4 k4
  have b4 := F4.binds (ps := ["thing"]) fun _ _ _ _ _ _ us hl => match us, hl with | [_], _ => rfl
  have F5 := fun_mk (st := sIsLast) l5 c5 k5
  have b5 := F5.binds (ps := ["thing", "columns"]) fun _ _ _ _ _ _ us hl => match us, hl with | [_, _], _ => rfl
  have F6 := fun_mk (st := sIsQ) l6 c6 k6
  have b6 := F6.binds (ps := ["thing"]) fun _ _ _ _ _ _ us hl => match us, hl with | [_], _ => rfl
  have F7 := fun_mk (st := sAreQs) l7 c7 k7
  have b7 := F7.binds (ps := ["thing"]) fun _ _ _ _ _ _ us hl => match us, hl with | [_], _ => rfl
  have F8 := fun_mk (st := sRow) l8 c8 k8
  have b8 := F8.binds (ps := ["question"]) fun _ _ _ _ _ _ us hl => match us, hl with | [_], _ => rfl
  have F9 := fun_mk (st := sCols) l9 c9 k9
  have b9 := F9.binds (ps := ["question"]) fun _ _ _ _ _ _ us hl => match us, hl with | [_], _ => rfl
  have F10 := fun_mk (st := sBag) l10 c10 k10
  have b10 := F10.binds (ps := ["_law_script"]) fun _ _ _ _ _ _ us hl => match us, hl with | [_], _ => rfl
  have F11 := fun_mk (st := sTake) l11 c11 k11
  have b11 := F11.binds (ps := ["_law_bag_here", "_law_upto"]) fun _ _ _ _ _ _ us hl => match us, hl with | [_, _], _ => rfl
  have F12 := fun_mk (st := sOne) l12 c12 k12
  have b12 := F12.binds (ps := ["_law_bag_here", "_law_some"]) fun _ _ _ _ _ _ us hl => match us, hl with | [_, _], _ => rfl
  have F13 := fun_mk (st := sMixed) l13 c13 k13
  have b13 := F13.binds (ps := ["_law_bag_here", "_law_things"]) fun _ _ _ _ _ _ us hl => match us, hl with | [_, _], _ => rfl
  have F14 := fun_mk (st := sAlike) l14 c14 k14
  have b14 := F14.binds (ps := ["_law_found", "_law_due"]) fun _ _ _ _ _ _ us hl => match us, hl with | [_, _], _ => rfl
  have F15 := fun_mk (st := sTruth) l15 c15 k15
  have b15 := F15.binds (ps := ["_law_told", "_law_due"]) fun _ _ _ _ _ _ us hl => match us, hl with | [_, _], _ => rfl
  have F16 := fun_mk (st := sNames) l16 c16 k16
  have b16 := F16.binds (ps := ["_law_bag_here", "_law_many"]) fun _ _ _ _ _ _ us hl => match us, hl with | [_, _], _ => rfl
  have F17 := fun_mk (st := sQOf) l17 c17 k17
  have b17 := F17.binds (ps := ["_law_bag_here", "_law_row"]) fun _ _ _ _ _ _ us hl => match us, hl with | [_, _], _ => rfl
  have F18 := fun_mk (st := sQuestions) l18 c18 k18
  have b18 := F18.binds (ps := ["_law_bag_here", "_law_names_here", "_law_many"]) fun _ _ _ _ _ _ us hl => match us, hl with | [_, _, _], _ => rfl
  have F19 := fun_mk (st := sLAll) l19 c19 k19
  have b19 := F19.binds (ps := ["_law_question"]) fun _ _ _ _ _ _ us hl => match us, hl with | [_], _ => rfl
  have F20 := fun_mk (st := sLCols) l20 c20 k20
  have b20 := F20.binds (ps := ["_law_questions_here"]) fun _ _ _ _ _ _ us hl => match us, hl with | [_], _ => rfl
  have F21 := fun_mk (st := sLIsCol) l21 c21 k21
  have b21 := F21.binds (ps := ["_law_thing"]) fun _ _ _ _ _ _ us hl => match us, hl with | [_], _ => rfl
  have F22 := fun_mk (st := sLAreCols) l22 c22 k22
  have b22 := F22.binds (ps := ["_law_thing"]) fun _ _ _ _ _ _ us hl => match us, hl with | [_], _ => rfl
  have F23 := fun_mk (st := sLIsQ) l23 c23 k23
  have b23 := F23.binds (ps := ["_law_thing"]) fun _ _ _ _ _ _ us hl => match us, hl with | [_], _ => rfl
  have F24 := fun_mk (st := sOdd) l24 c24 k24
  have b24 := F24.binds (ps := ["_law_bag_here"]) fun _ _ _ _ _ _ us hl => match us, hl with | [_], _ => rfl
  have F25 := fun_mk (st := sBent) l25 c25 k25
  have b25 := F25.binds (ps := ["_law_bag_here", "_law_thing"]) fun _ _ _ _ _ _ us hl => match us, hl with | [_, _], _ => rfl
  have F26 := fun_mk (st := sRight) l26 c26 k26
  have b26 := F26.binds (ps := ["_law_asked", "_law_due"]) fun _ _ _ _ _ _ us hl => match us, hl with | [_, _], _ => rfl
  have F27 := fun_mk (st := sWalks) l27 c27 k27
  have b27 := F27.binds (ps := ["_law_thing", "_law_due"]) fun _ _ _ _ _ _ us hl => match us, hl with | [_, _], _ => rfl
  have F28 := fun_mk (st := sUnlike) l28 c28 k28
  have b28 := F28.binds (ps := ["_law_bag_here", "_law_asked", "_law_due", "_law_names_here"]) fun _ _ _ _ _ _ us hl => match us, hl with | [_, _, _, _], _ => rfl
  have F29 := fun_mk (st := sLaw) l29 c29 k29
  have b29 := F29.binds (ps := ["_law_script"]) fun _ _ _ _ _ _ us hl => match us, hl with | [_], _ => rfl
  refine ⟨PySem.W.fnOf "law" "law" (defArgs sLaw) (defBody sLaw) (defScope sLaw) .none kV29 dc29 pm29 an29 cd29 ct29, fun s v => .of_eq rfl, fun base _ _ => ?_⟩
  let c_1 : Cal l.prog w K mg base 1 "is_column" ["thing"] (spTx K colS) := ⟨_, _, ok_iscolA F1 T, PySem.W.mg_of X G a1, k1, b1⟩
  let c_2 : Cal l.prog w K mg base 1 "is_ascending" ["things"] (spAscA) := ⟨_, _, ok_ascA F2 T, PySem.W.mg_of X G a2, k2, b2⟩
  let c_3 : Cal l.prog w K mg base 2 "are_columns" ["thing"] (spCv) := ⟨_, _, ok_arecolsA F3 T c_1 c_2, PySem.W.mg_of X G a3, k3, b3⟩
  let c_4 : Cal l.prog w K mg base 1 "is_empty" ["thing"] (spTx K fun z => decide (z = "")) := ⟨_, _, ok_isemptyA F4 T, PySem.W.mg_of X G a4, k4, b4⟩
  let c_5 : Cal l.prog w K mg base 2 "is_last" ["thing", "columns"] (spLastA K) := ⟨_, _, ok_islastA F5 T c_1 c_4, PySem.W.mg_of X G a5, k5, b5⟩
  let c_6 : Cal l.prog w K mg base 3 "is_question" ["thing"] (spQv) := ⟨_, _, ok_isqA F6 T c_3 c_5, PySem.W.mg_of X G a6, k6, b6⟩
  let c_q1 : Cal l.prog w K mg base 3 "is_question" ["thing"] spIsQ := ⟨_, _, FnOk.imp (ok_isqA F6 T c_3 c_5) (fun _ _ _ _ h => spQv_of h), PySem.W.mg_of X G a6, k6, b6⟩
  let c_q2 : Cal l.prog w K mg base 3 "is_question" ["thing"] (spIsQX CA) := ⟨_, _, FnOk.or (ok_isqA F6 T c_3 c_5) (ok_isqN F6 T TA TN c_3 c_5), PySem.W.mg_of X G a6, k6, b6⟩
  let c_7 : Cal l.prog w K mg base 4 "are_questions" ["thing"] (spAreQs K) := ⟨_, _, ok_areqs F7 T c_q1, PySem.W.mg_of X G a7, k7, b7⟩
  let c_8 : Cal l.prog w K mg base 1 "row_of" ["question"] (spRow) := ⟨_, _, ok_row F8 T, PySem.W.mg_of X G a8, k8, b8⟩
  let c_9 : Cal l.prog w K mg base 2 "columns_of" ["question"] (spCols) := ⟨_, _, ok_cols F9 T c_8, PySem.W.mg_of X G a9, k9, b9⟩
  have gAI : FnOk l.prog w K mg base CX0 5 fAI _ ["self", "questions"] (spAInit CA) := ok_ainit FAI T TA c_7
  have OIn : OwnIn K CA fAN := ⟨aAN, iAN⟩
  have gAN : FnOk l.prog w K mg base CX0 4 fAN _ ["self", "x"] (spAIn CA) := ok_ain FAN T TA c_q2
  have gAT : FnS l.prog w K mg base 1 fAT _ ["self"] (spIterF CA "_questions") := ok_aitr FAT T TA
  have gAE : FnOk l.prog w K mg base CX0 1 fAE _ ["self", "other"] (spAEqX K CA) := FnOk.or (ok_aeq FAE T TA) (ok_aeqO FAE T TA)
  have AC : ACl l.prog w K mg base CA := ⟨TA, TN, fAI, fAE, fAQ, fAD, fAL, fAT, fAN, _, _, _, _, _, _, _, MA, gAI, bAI, ⟨aAE, iAE, enA, eoA⟩, gAE, bAE, nfA, ⟨aAQ, iAQ, kAQ⟩, ok_aqns FAQ T TA, bAQ,
    ⟨aAD, iAD, kAD⟩, ok_columns FAD T TA c_9, bAD, ⟨aAL, iAL⟩, ok_alen FAL T TA, bAL, ⟨aAT, iAT⟩, gAT, bAT, OIn, gAN, bAN⟩
  let c_10 : Cal l.prog w K mg base 1 "_law_bag" ["_law_script"] (spBag K) := ⟨_, _, ok_bag F10 T, PySem.W.mg_of X G a10, k10, b10⟩
  let c_11 : Cal l.prog w K mg base 1 "_law_take" ["_law_bag_here", "_law_upto"] (spTake) := ⟨_, _, ok_take F11 T, PySem.W.mg_of X G a11, k11, b11⟩
  let c_12 : Cal l.prog w K mg base 2 "_law_one" ["_law_bag_here", "_law_some"] (spOne) := ⟨_, _, ok_one F12 T c_11, PySem.W.mg_of X G a12, k12, b12⟩
  let c_13 : Cal l.prog w K mg base 2 "_law_mixed" ["_law_bag_here", "_law_things"] (spMixed) := ⟨_, _, ok_mixed F13 T c_11, PySem.W.mg_of X G a13, k13, b13⟩
  let c_14 : CalG l.prog w K mg base 1 "_law_alike" ["_law_found", "_law_due"] (spAlikeD K) := ⟨_, _, ok_alike F14 T, PySem.W.mg_of X G a14, k14, b14⟩
  let c_15 : Cal l.prog w K mg base 1 "_law_truth" ["_law_told", "_law_due"] (spTruth) := ⟨_, _, ok_truth F15 T, PySem.W.mg_of X G a15, k15, b15⟩
  let c_16 : Cal l.prog w K mg base 2 "_law_names" ["_law_bag_here", "_law_many"] (spNamesN) := ⟨_, _, ok_namesN F16 T c_11, PySem.W.mg_of X G a16, k16, b16⟩
  let c_17 : Cal l.prog w K mg base 2 "_law_question_of" ["_law_bag_here", "_law_row"] (spQOf) := ⟨_, _, ok_qOf F17 T c_11, PySem.W.mg_of X G a17, k17, b17⟩
  let c_18 : Cal l.prog w K mg base 3 "_law_questions" ["_law_bag_here", "_law_names_here", "_law_many"] (spQuestionsN) := ⟨_, _, ok_questionsN F18 T c_11 c_12 c_13 c_17, PySem.W.mg_of X G a18, k18, b18⟩
  let c_19 : Cal l.prog w K mg base 1 "_law_all" ["_law_question"] (spLAll) := ⟨_, _, ok_lall F19 T, PySem.W.mg_of X G a19, k19, b19⟩
  let c_20 : Cal l.prog w K mg base 2 "_law_columns" ["_law_questions_here"] (spLCols) := ⟨_, _, ok_lcols F20 T c_19, PySem.W.mg_of X G a20, k20, b20⟩
  let c_21 : Cal l.prog w K mg base 1 "_law_is_column" ["_law_thing"] (spTx K colS) := ⟨_, _, ok_liscol F21 T, PySem.W.mg_of X G a21, k21, b21⟩
  let c_22 : Cal l.prog w K mg base 2 "_law_are_columns" ["_law_thing"] (spCv) := ⟨_, _, ok_larecols F22 T c_21, PySem.W.mg_of X G a22, k22, b22⟩
  let c_23 : Cal l.prog w K mg base 3 "_law_is_question" ["_law_thing"] (spQv) := ⟨_, _, ok_lisq F23 T c_21 c_22, PySem.W.mg_of X G a23, k23, b23⟩
  let c_24 : Cal l.prog w K mg base 3 "_law_odd" ["_law_bag_here"] (spOdd) := ⟨_, _, ok_odd F24 T c_12, PySem.W.mg_of X G a24, k24, b24⟩
  let c_25 : Cal l.prog w K mg base 6 "_law_bent" ["_law_bag_here", "_law_thing"] (spBent 2) := ⟨_, _, ok_bent F25 T c_11 c_24 (PySem.W.mg_of X G a25) k25 b25 2, PySem.W.mg_of X G a25, k25, b25⟩
  let c_26 : CalG l.prog w K mg base 5 "_law_right" ["_law_asked", "_law_due"] (spRight CA) := ⟨_, _, ok_right F26 T AC c_14 c_20, PySem.W.mg_of X G a26, k26, b26⟩
  let c_27 : CalG l.prog w K mg base 5 "_law_walks_right" ["_law_thing", "_law_due"] (spWalks CA) := ⟨_, _, ok_walks F27 T AC c_14, PySem.W.mg_of X G a27, k27, b27⟩
  let c_28 : CalG l.prog w K mg base 7 "_law_unlike_right" ["_law_bag_here", "_law_asked", "_law_due", "_law_names_here"] (spUnl CA) := ⟨_, _, ok_unl F28 T AC c_14 c_13 c_17, PySem.W.mg_of X G a28, k28, b28⟩
  exact ok_law F29 T AC c_10 c_11 c_12 c_13 c_16 c_17 c_18 c_24 c_25 c_15 c_23 c_14 c_26 c_27 c_28
theorem walk {l : PySem.W.OpenLaw} {q : Program} {loose : List Str} {XP : (Str → Option Value) → Heap → Prop} {YP : World → Heap → Prop} {d : DefRec} {K : Params → PySem.W.Frag} (hn : l.most = some 63) (hdf : d.params.defaults = [])
    (hY : ∀ (w : World) (h : Heap), YP w h → (K w.params).In h)
    (F : ∀ (w : World) (mg : Str → Option Value) (fa : Addr) (h : Heap), (K w.params).In h → h.Ns mainGlobals mg → mg d.name = some (.ref fa) →
      ∃ fd : FuncData, (∀ (s : Shared) (u : Value), BindsTo s fd ⟨[u], []⟩ [("_law_script", u)]) ∧ ∀ base : Heap, (K w.params).In base → base.Ns mainGlobals mg → FnG l.prog w (K w.params) mg base 8 fa fd ["_law_script"] (spLaw (K w.params))) :
    PySem.W.WalkO q loose XP YP l.row.toRowW d [] (fun f vs => PySem.call f vs) :=
  walk_g (n := 63) (k := 8) (x := "_law_script") (sp := fun w => spLaw (K w.params)) hn (by decide) hdf ⟨rfl, by decide, by decide⟩ hY F (fun _ _ a ns hl _ hS => ⟨a, ns, rfl, hS, hl, fun _ => rfl⟩)
end Qk
open PySem PySem.W PyProof.Rows
set_option maxRecDepth 100000 in
set_option maxHeartbeats 0 in
theorem PySem.Challenge.cw_narrowkeys_k20_asked_told_holds : PySem.Challenge.rw_narrowkeys_k20_asked_told.Holds := by
  w_on; o_law; k_head; (case hw => w_witness2)
  k_fill
  refine Qk.walk (l := PySem.Challenge.rw_narrowkeys_k20_asked_told) rfl rfl (fun w h Y => PySem.W.kIn_of Y) ?F
  case F =>
    intro w mg fa h KX G hmg
    refine' Qk.all_mk KX G hmg ?a1 ?l1 ?c1 ?k1 ?a2 ?l2 ?c2 ?k2 ?a3 ?l3 ?c3 ?k3 ?a4 ?l4 ?c4 ?k4 ?a5 ?l5 ?c5 ?k5 ?a6 ?l6 ?c6 ?k6 ?a7 ?l7 ?c7 ?k7 ?a8 ?l8 ?c8 ?k8 ?a9 ?l9 ?c9 ?k9 ?a10 ?l10 ?c10 ?k10 ?a11 ?l11 ?c11 ?k11 ?a12 ?l12 ?c12 ?k12 ?a13 ?l13 ?c13 ?k13 ?a14 ?l14 ?c14 ?k14 ?a15 ?l15 ?c15 ?k15 ?a16 ?l16 ?c16 ?k16 ?a17 ?l17 ?c17 ?k17 ?a18 ?l18 ?c18 ?k18 ?a19 ?l19 ?c19 ?k19 ?a20 ?l20 ?c20 ?k20 ?a21 ?l21 ?c21 ?k21 ?a22 ?l22 ?c22 ?k22 ?a23 ?l23 ?c23 ?k23 ?a24 ?l24 ?c24 ?k24 ?a25 ?l25 ?c25 ?k25 ?a26 ?l26 ?c26 ?k26 ?a27 ?l27 ?c27 ?k27 ?a28 ?l28 ?c28 ?k28 ?a29 ?l29 ?c29 ?k29 ?aL ?aM ?hn ?ht ?aCA ?aAI ?iAI ?lAI ?cAI ?kAI ?aAE ?iAE ?lAE ?cAE ?kAE ?aAL ?iAL ?lAL ?cAL ?kAL ?aAN ?iAN ?lAN ?cAN ?kAN ?aAT ?iAT ?lAT ?cAT ?kAT ?aAQ ?iAQ ?lAQ ?cAQ ?kAQ ?aAD ?iAD ?lAD ?cAD ?kAD ?pgA ?hdA ?poA ?saA ?mkA ?kcA ?nQA ?haA ?hmA ?enA ?eoA ?nfA ?kNA ?k1TA ?k2TA ?k3TA ?k4TA ?n1TA ?n2TA ?n3TA ?n4TA ?zlen ?zint ?zabs ?ztuple ?zsorted ?zrange ?zrepr ?zlist ?zset ?zisinstance ?zstr ?zall ?zenumerate ?ziter ?zzip ?zbool ?zdict
    (case a1 => k_is)
    (case l1 => k_is)
    (case c1 => k_is)
    (case k1 => k_is)
    (case a2 => k_is)
    (case l2 => k_is)
    (case c2 => k_is)
    (case k2 => k_is)
    (case a3 => k_is)
    (case l3 => k_is)
    (case c3 => k_is)
    (case k3 => k_is)
    (case a4 => k_is)
    (case l4 => k_is)
    (case c4 => k_is)
    (case k4 => k_is)
    (case a5 => k_is)
    (case l5 => k_is)
    (case c5 => k_is)
    (case k5 => k_is)
    (case a6 => k_is)
    (case l6 => k_is)
    (case c6 => k_is)
    (case k6 => k_is)
    (case a7 => k_is)
    (case l7 => k_is)
    (case c7 => k_is)
    (case k7 => k_is)
    (case a8 => k_is)
    (case l8 => k_is)
    (case c8 => k_is)
    (case k8 => k_is)
    (case a9 => k_is)
    (case l9 => k_is)
    (case c9 => k_is)
    (case k9 => k_is)
    (case a10 => k_is)
    (case l10 => k_is)
    (case c10 => k_is)
    (case k10 => k_is)
    (case a11 => k_is)
    (case l11 => k_is)
    (case c11 => k_is)
    (case k11 => k_is)
    (case a12 => k_is)
    (case l12 => k_is)
    (case c12 => k_is)
    (case k12 => k_is)
    (case a13 => k_is)
    (case l13 => k_is)
    (case c13 => k_is)
    (case k13 => k_is)
    (case a14 => k_is)
    (case l14 => k_is)
    (case c14 => k_is)
    (case k14 => k_is)
    (case a15 => k_is)
    (case l15 => k_is)
    (case c15 => k_is)
    (case k15 => k_is)
    (case a16 => k_is)
    (case l16 => k_is)
    (case c16 => k_is)
    (case k16 => k_is)
    (case a17 => k_is)
    (case l17 => k_is)
    (case c17 => k_is)
    (case k17 => k_is)
    (case a18 => k_is)
    (case l18 => k_is)
    (case c18 => k_is)
    (case k18 => k_is)
    (case a19 => k_is)
    (case l19 => k_is)
    (case c19 => k_is)
    (case k19 => k_is)
    (case a20 => k_is)
    (case l20 => k_is)
    (case c20 => k_is)
    (case k20 => k_is)
    (case a21 => k_is)
    (case l21 => k_is)
    (case c21 => k_is)
    (case k21 => k_is)
    (case a22 => k_is)
    (case l22 => k_is)
    (case c22 => k_is)
    (case k22 => k_is)
    (case a23 => k_is)
    (case l23 => k_is)
    (case c23 => k_is)
    (case k23 => k_is)
    (case a24 => k_is)
    (case l24 => k_is)
    (case c24 => k_is)
    (case k24 => k_is)
    (case a25 => k_is)
    (case l25 => k_is)
    (case c25 => k_is)
    (case k25 => k_is)
    (case a26 => k_is)
    (case l26 => k_is)
    (case c26 => k_is)
    (case k26 => k_is)
    (case a27 => k_is)
    (case l27 => k_is)
    (case c27 => k_is)
    (case k27 => k_is)
    (case a28 => k_is)
    (case l28 => k_is)
    (case c28 => k_is)
    (case k28 => k_is)
    (case a29 => k_is)
    (case l29 => k_is)
    (case c29 => k_is)
    (case k29 => k_is)
    (case aL => first | k_is | rfl)
    (case aM => first | k_is | rfl)
    (case hn => first | k_is | rfl)
    (case ht => first | k_is | rfl)
    (case aCA => first | k_is | rfl)
    (case aAI => first | k_is | rfl)
    (case iAI => first | k_is | rfl)
    (case lAI => first | k_is | rfl)
    (case cAI => first | k_is | rfl)
    (case kAI => first | k_is | rfl)
    (case aAE => first | k_is | rfl)
    (case iAE => first | k_is | rfl)
    (case lAE => first | k_is | rfl)
    (case cAE => first | k_is | rfl)
    (case kAE => first | k_is | rfl)
    (case aAL => first | k_is | rfl)
    (case iAL => first | k_is | rfl)
    (case lAL => first | k_is | rfl)
    (case cAL => first | k_is | rfl)
    (case kAL => first | k_is | rfl)
    (case aAN => first | k_is | rfl)
    (case iAN => first | k_is | rfl)
    (case lAN => first | k_is | rfl)
    (case cAN => first | k_is | rfl)
    (case kAN => first | k_is | rfl)
    (case aAT => first | k_is | rfl)
    (case iAT => first | k_is | rfl)
    (case lAT => first | k_is | rfl)
    (case cAT => first | k_is | rfl)
    (case kAT => first | k_is | rfl)
    (case aAQ => first | k_is | rfl)
    (case iAQ => first | k_is | rfl)
    (case lAQ => first | k_is | rfl)
    (case cAQ => first | k_is | rfl)
    (case kAQ => first | k_is | rfl)
    (case aAD => first | k_is | rfl)
    (case iAD => first | k_is | rfl)
    (case lAD => first | k_is | rfl)
    (case cAD => first | k_is | rfl)
    (case kAD => first | k_is | rfl)
    (case pgA => first | k_is | rfl)
    (case hdA => first | k_is | rfl)
    (case poA => first | k_is | rfl)
    (case saA => first | k_is | rfl)
    (case mkA => first | k_is | rfl)
    (case kcA => first | k_is | rfl)
    (case nQA => first | k_is | rfl)
    (case haA => first | k_is | rfl)
    (case hmA => first | k_is | rfl)
    (case enA => first | k_is | rfl)
    (case eoA => first | k_is | rfl)
    (case nfA => first | k_is | rfl)
    (case kNA => first | k_is | rfl)
    (case k1TA => first | k_is | rfl)
    (case k2TA => first | k_is | rfl)
    (case k3TA => first | k_is | rfl)
    (case k4TA => first | k_is | rfl)
    (case n1TA => first | k_is | rfl)
    (case n2TA => first | k_is | rfl)
    (case n3TA => first | k_is | rfl)
    (case n4TA => first | k_is | rfl)
    (case zlen => k_is)
    (case zint => k_is)
    (case zabs => k_is)
    (case ztuple => k_is)
    (case zsorted => k_is)
    (case zrange => k_is)
    (case zrepr => k_is)
    (case zlist => k_is)
    (case zset => k_is)
    (case zisinstance => k_is)
    (case zstr => k_is)
    (case zall => k_is)
    (case zenumerate => k_is)
    (case ziter => k_is)
    (case zzip => k_is)
    (case zbool => k_is)
    (case zdict => k_is)
#print axioms PySem.Challenge.cw_narrowkeys_k20_asked_told_holds
