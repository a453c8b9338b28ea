import PyProof.Rows.All
import HandS.TupSets
import HandS.SetKeys
import Wide.All
import OpenK.AllK
import Wide.FinOn
import HandS.ForMost
import HandS.More
import HandS.TupAny
import HandS.Star
import HandS.Evl
import PyProof.Rows.StrMeet
import HandS.Walk
import PyProof.StrLawsRepr
import HandS.SortRule
import HandS.Deep
import KE.GoesEnum
import KE.GoesMore
import HandS.ExcValue
import HandS.Strs
import KE.KeyNested
import KE.LtSeq
import HandS.OwnEq
import HandS.IsInst
import HandS.StrMore
import HandS.OwnIter
import HandS.IterVal
import KE.KOwnIter
import OpenK.KOps
import HandS.Keys
import HandS.SortKw
import KE.KSortKeyAny
import HandS.Comp
import HandS.SetBool
import HandS.ExcInit
import HandS.ExcIs
import HandS.ExcField
import KE.KExcIs
import KE.KExcInit
import KE.KExcMake
import OpenK.KMeth
import HandS.Zip
import HandS.Defaults
import HandS.CallRecv
import HandS.Style
import HandS.Conv
import PyProof.NeKinds
import HandS.Dict
import PyProof.StrOps2
import HandS.DeepEq
import HandS.Gcd
import HandS.Sort
import KE.KMathGC
import KE.DatumOrd
import HandS.EndTab
import PySem.Challenge.RW_narrowkeys_k34_needless_indexes
set_option Elab.async false
set_option linter.all false
set_option maxRecDepth 100000
set_option maxHeartbeats 4000000
set_option maxRecDepth 100000
set_option maxHeartbeats 4000000
namespace Qk
open PySem PySem.Spec PyProof.Rows L2
/-- the set at a holds just the texts of S -/
def TSet (P : Program) (w : World) (h : Heap) (a : Addr) (S : Str → Bool) (n : Nat) : Prop := h.SetOf (strKind P w) a S n
section
variable {P : Program} {w : World} {A : Around} {E : Value → Shared → Prop} {s : Shared} {a o r : Addr} {S T R : Str → Bool} {n m k : Nat}
theorem TSet.keep {h h' : Heap} {a : Addr} {S : Str → Bool} {n : Nat} (x : TSet P w h a S n) (k : ∀ u, h.get? a = some u → h'.get? a = some u) : TSet P w h' a S n := by
  obtain ⟨oa, es, ep, t, ho, r⟩ := x
  exact ⟨oa, es, ep, t, k _ ho, r⟩
theorem TSet.lt {h : Heap} {a : Addr} {S : Str → Bool} {n : Nat} (x : TSet P w h a S n) : a < h.objs.size := by
  obtain ⟨oa, es, ep, t, ho, r⟩ := x
  exact Heap.lt_size ho
end
end Qk
set_option maxRecDepth 100000
set_option maxHeartbeats 4000000
set_option maxRecDepth 100000
set_option maxHeartbeats 4000000
namespace Qk
open PySem PySem.Spec PyProof.Rows L2
section
variable {X : Cx}
theorem get_list : PGet X (fun o i H Q => ∃ p xs j v, o = .ref p ∧ i = .int ((j : Nat) : Int) ∧ SqL X.K H p xs ∧ xs[j]? = some v ∧ Q v H) := by
  intro pins s σ H o i ov iv Q I ro ri h
  obtain ⟨p, xs, j, v, rfl, rfl, hx, ha, q⟩ := h
  cases ro
  obtain ⟨t, rfl⟩ := ri
  obtain ⟨its, r, pl, hz⟩ := I.list hx
  obtain ⟨w, ew, rw'⟩ := r.get ha
  have hj : j < xs.length := (List.getElem?_eq_some_iff.mp ha).1
  have hn := line63
  exact wpAny_getItem_list pl.isList (by omega) (by omega) (by simpa using ew) ⟨v, H, I, rw', q⟩
def rSortedST (K : PySem.W.Frag) : List V → Hp → VK → Prop := fun vs H Q => ∃ (a : Addr) (ss : List Str), vs = [V.ref a] ∧ (SqL K H a (ss.map V.str) ∨ SqT K H a (ss.map V.str)) ∧ ss.length < 64 ∧
  ∀ (ys : List Str) (p : Addr), ys.Perm ss → sortedS ys = true → H p = none → Q (.ref p) (upd H p (.lst (ys.map V.str)))
theorem cr_sortedST : CallR X (.builtin "sorted") (rSortedST X.K) := by
  intro pins s σ H vs us Q I r h
  obtain ⟨a, ss, rfl, hs, h64, q⟩ := h
  rcases hs with hs | hs
  · exact cr_sortedS pins s σ H _ us Q I r ⟨a, ss, rfl, hs, h64, q⟩
  · obtain ⟨its, rv, ⟨o, ho, hc, n, hd⟩, hz⟩ := I.tuple hs
    rw [Vals.ref1 r]
    have hS : StrsAre its ss := rv.strs
    have hl : its.length = ss.length := by
      have z := rv.length
      rw [List.length_map] at z
      exact z.symm
    refine Calls.call_function_entry PyProof.Rows.kind_sorted PyProof.Rows.plain_sorted PyProof.Rows.entry_sorted (PyProof.Rows.args_sorted1 _) ?_
    unfold Builtin.«sorted»
    refine wpAny_bind (m := checkCount "sorted" 1 1 _) (wpAny_pure ?_)
    refine wpAny_bind (wpAny_collect_seq a (.inr rfl) ho hc hd (fun h' hk => ?_) (by rw [List.size_toArray, hl, sizeLine_eq]; omega))
    have e0 : its.toArray.toList = its := by simp
    rw [e0]
    have I1 : Inv X pins σ H { s with heap := h' } := I.kept (t' := s.toks) hk
    refine wpAny_bind (wpAny_newList ?_ (by rw [hl, sizeLine_eq]; omega))
    have hoL : (h'.push (seqObj "list" its.toArray 0)).get? h'.objs.size = some (seqObj "list" its.toArray 0) := Heap.get?_push_size _ rfl
    show wpAny _ _ _ _ _ { s with heap := h'.push (seqObj "list" its.toArray 0) }
    refine wpAny_bind (wpAny_holding (wpAny_call_entry PyProof.Rows.slot_list_sort ⟨_, hoL, rfl⟩ PyProof.Rows.entry_list_sort
      (list_sort_treeK strKind_oneLt (s := { s with heap := h'.push (seqObj "list" its.toArray 0) }) hoL hS.keysOf (fun v₁ v₂ rest e => keyKind_strs (by rw [← e]; exact hS)) (by rw [hl]; exact h64) fun st' hp hs => ⟨_, rfl, ?_⟩)
      (PyProof.Rows.args_list_sort _)))
    obtain ⟨ys, g1, g2, g3⟩ := sorted_out_str hS hp hs
    obtain ⟨ep, he'⟩ := PyProof.Rows.sortedHeap_at (vs := its) (out := (arrOf st').map (·.2)) hoL
    have hlen : (ys.map V.str).length ≤ sizeLine := by
      rw [List.length_map, g2.length_eq]
      exact Nat.le_trans (Nat.le_of_lt h64) (by decide)
    have hfresh : H h'.objs.size = none := I1.hok.fresh (Nat.le_refl _)
    refine wpAny_pure ⟨_, rfl, .ref h'.objs.size, upd H h'.objs.size (.lst (ys.map V.str)), I1.laid (t' := s.toks) (fun b u hu => ?_) (Nat.le_refl _)
      (show ObjOk X.prog X.w _ _ h'.objs.size (.lst (ys.map V.str)) from ⟨hlen, ((arrOf st').map (·.2)).toList, ep, vals_of_strs g1, by rw [Array.toArray_toList]; exact he'⟩), rfl, q ys _ g2 g3 hfresh⟩
    have hb : b ≠ h'.objs.size := Nat.ne_of_lt (Heap.lt_size hu)
    have hu2 : (h'.push (seqObj "list" its.toArray 0)).get? b = some u := Heap.get?_push_of_some _ hu
    rw [PyProof.Rows.sortedHeap_old hb (Heap.lt_size hu2)]
    exact hu2
end
end Qk
set_option maxRecDepth 100000
set_option maxHeartbeats 4000000
namespace Qk
open PySem PySem.Spec PyProof.Rows L2
def Bag (H : Hp) (b l : Addr) : Prop := ∃ (h m : Int) (p : Nat) (ns : List Int), H b = some (.lst [.int h, .int m, .int (p : Int), .ref l]) ∧ H l = some (.lst (ns.map V.int)) ∧ l ≠ b ∧
  0 ≤ h ∧ 0 ≤ m ∧ m < 2147483647 ∧ ∀ n ∈ ns, 0 ≤ n
/-- all but b is kept -/
def Kp (b : Addr) (H H' : Hp) : Prop := ∀ c o, H c = some o → c ≠ b → H' c = some o
theorem Kp.refl (b : Addr) (H : Hp) : Kp b H H := fun _ _ e _ => e
theorem Kp.trans {b : Addr} {H H1 H2 : Hp} (x : Kp b H H1) (y : Kp b H1 H2) : Kp b H H2 := fun c o e n => y c o (x c o e n) n
theorem Kp.of {b : Addr} {H H' : Hp} (s : Same H H') : Kp b H H' := fun c o e _ => s c o e
theorem Kp.at_ (b : Addr) (H : Hp) (o : HO) : Kp b H (upd H b o) := fun c u e n => by rw [upd_ne n]; exact e
theorem Kp.new {b p : Addr} {H : Hp} {o : HO} (hp : H p = none) : Kp b H (L2.upd H p o) := fun c u e _ => by rw [upd_ne (ne_of_none e hp)]; exact e
theorem Bag.at_ {H : Hp} {b l : Addr} (B : Bag H b l) : ∃ o, H b = some o := by
  obtain ⟨h, m, p, ns, hb, _⟩ := B
  exact ⟨_, hb⟩
theorem Bag.same {H H' : Hp} {b l : Addr} (s : Same H H') (B : Bag H b l) : Bag H' b l := by
  obtain ⟨h, m, p, ns, hb, hl, r⟩ := B
  exact ⟨h, m, p, ns, s _ _ hb, s _ _ hl, r⟩
theorem same_new {H : Hp} {p : Addr} {o : HO} (h : H p = none) : Same H (upd H p o) := fun b x e => by
  rw [upd_ne (ne_of_none e h)]
  exact e
theorem Bag.new {H : Hp} {b l p : Addr} {o : HO} (B : Bag H b l) (h : H p = none) : Bag (upd H p o) b l := B.same (same_new h)
theorem Bag.ne {H : Hp} {b l p : Addr} (B : Bag H b l) (h : H p = none) : p ≠ b := by
  obtain ⟨o, e⟩ := B.at_
  exact (ne_of_none e h).symm
/-- the bag stands nowhere where something of another kind stands -/
theorem Bag.ne_tup {H : Hp} {b l p : Addr} {xs : List V} (B : Bag H b l) (h : H p = some (.tup xs)) : p ≠ b := by
  obtain ⟨h', m, q, ns, hb, _⟩ := B
  exact ne_of h hb (by intro z; cases z)
/-- what stands beside the bag and its list may change -/
theorem Bag.off {H H' : Hp} {b l p : Addr} (B : Bag H b l) (h : ∀ c o, H c = some o → c ≠ p → H' c = some o) (nb : b ≠ p) (nl : l ≠ p) : Bag H' b l := by
  obtain ⟨h', m, q, ns, hb, hl, r⟩ := B
  exact ⟨h', m, q, ns, h _ _ hb nb, h _ _ hl nl, r⟩
theorem Bag.list {H : Hp} {b l : Addr} (B : Bag H b l) : ∃ o, H l = some o := by
  obtain ⟨h, m, p, ns, hb, hl, _⟩ := B
  exact ⟨_, hl⟩
theorem Bag.nel {H : Hp} {b l p : Addr} (B : Bag H b l) (h : H p = none) : l ≠ p := by
  obtain ⟨o, e⟩ := B.list
  exact ne_of_none e h
theorem Bag.upd {H : Hp} {b l p : Addr} {o : HO} (B : Bag H b l) (nb : b ≠ p) (nl : l ≠ p) : Bag (L2.upd H p o) b l :=
  B.off (fun c u e n => by rw [upd_ne n]; exact e) nb nl
theorem rIx {K : PySem.W.Frag} {H : Hp} {b : Addr} {xs : List V} {v : V} {Q : VK} (j : Nat) (h : H b = some (.lst xs)) (e : xs[j]? = some v) (q : Q v H) : rIxL K (.ref b) (.int (j : Int)) H Q :=
  ⟨b, xs, (j : Int), v, rfl, rfl, SqL.of h, atI_nat e, q⟩
/-- a draw: a number below many, the bag moves on -/
def spTake : Sp := fun vs H Q _ => ∃ (b l : Addr) (n : Int), vs = [.ref b, .int n] ∧ Bag H b l ∧ 0 < n ∧ n < 1000000 ∧ ∀ (k : Nat) (H' : Hp), (k : Int) < n → Bag H' b l → Kp b H H' → Q (.int (k : Int)) H'
/-- one of a list -/
def spOne : Sp := fun vs H Q _ => ∃ (b l a : Addr) (xs : List V), vs = [.ref b, .ref a] ∧ Bag H b l ∧ a ≠ b ∧ H a = some (.lst xs) ∧ xs ≠ [] ∧ xs.length < 1000 ∧ ∀ (x : V) (H' : Hp), x ∈ xs → Bag H' b l → Kp b H H' → Q x H'
/-- a new list of the same things in some order -/
def spMixed : Sp := fun vs H Q _ => ∃ (b l a : Addr) (xs : List V), vs = [.ref b, .ref a] ∧ Bag H b l ∧ a ≠ b ∧ H a = some (.lst xs) ∧ xs.length < 1000 ∧
  ∀ (ys : List V) (p : Addr) (H' : Hp), ys.Perm xs → H p = none → p ≠ b → H' p = some (.lst ys) → Bag H' b l → Kp b H H' → Q (.ref p) H'
/-- the bag of a script -/
def spBag (K : PySem.W.Frag) : Sp := fun vs H Q _ => ∃ (a : Addr) (ns : List Int), vs = [.ref a] ∧ SqL K H a (ns.map V.int) ∧ ns.length ≤ 63 ∧ ∀ (b l : Addr) (H' : Hp), H b = none → Bag H' b l → Same H H' → Q (.ref b) H'
/-- a def that is called by its name -/
structure Cal (P : Program) (w : World) (K : PySem.W.Frag) (mg : Str → Option Value) (base : Heap) (k : Nat) (x : Str) (ps : List Str) (sp : Sp) where
  f : Addr
  fd : FuncData
  G : FnOk P w K mg base CX0 k f fd ps sp
  m : mg x = some (.ref f)
  kp : PySem.W.keepIn K (.ref f) = true
  b : Binds K fd ps []
theorem cut_to (k : Nat) (xs : List V) : cutV xs none (some (k : Int)) = xs.take k := by
  unfold cutV
  rw [HT.sIx_none, HT.sIx_nat, List.drop_zero, Nat.sub_zero]
  by_cases h : k ≤ xs.length
  · rw [Nat.min_eq_left h]
  · rw [Nat.min_eq_right (by omega), List.take_of_length_le (Nat.le_refl _), List.take_of_length_le (by omega)]
theorem take_mod {k n : Int} (hn : 0 < n) : ∃ j : Nat, k % n = (j : Int) ∧ (j : Int) < n := by
  have h1 := Int.emod_nonneg k (show n ≠ 0 by omega)
  have h2 := Int.emod_lt_of_pos k hn
  exact ⟨(k % n).toNat, by omega, by omega⟩
/-- the names that the laws draw from -/
def menu0 : List Str := ["a", "b", "ab", "ba", "job", "view", "pin", "quay", "stock", "golfer", "exhumed", "zzzzzzzz"]
/-- .. and others of other laws -/
def menu : List Str := menu0 ++ (["aa", "z", "power", "status", "ask", "quicklyx", "fghmndct", "q", "qq", "c", "d", "e", "f", "g", "h", "i", "j", "k", "l", "m"] : List Str)
theorem menu0_nodup : menu0.Nodup := by decide +kernel
theorem menu0_sub : ∀ c ∈ menu0, c ∈ menu := fun c h => List.mem_append_left _ h
theorem perm_strs {ys : List V} {xs : List Str} (h : ys.Perm (xs.map V.str)) : ∃ zs : List Str, ys = zs.map V.str ∧ zs.Perm xs := by
  have go : ∀ (ys : List V), (∀ y ∈ ys, ∃ z, y = V.str z) → ∃ zs : List Str, ys = zs.map V.str := by
    intro ys
    induction ys with
    | nil => intro _; exact ⟨[], rfl⟩
    | cons y ys ih =>
      intro h
      obtain ⟨z, rfl⟩ := h y List.mem_cons_self
      obtain ⟨zs, rfl⟩ := ih fun y hy => h y (List.mem_cons_of_mem _ hy)
      exact ⟨z :: zs, rfl⟩
  obtain ⟨zs, rfl⟩ := go ys fun y hy => by
    obtain ⟨z, _, e⟩ := List.mem_map.mp (h.mem_iff.mp hy)
    exact ⟨z, e.symm⟩
  refine ⟨zs, rfl, ?_⟩
  have unstr : ∀ l : List Str, (l.map V.str).map (fun v => match v with | .str z => z | _ => "") = l := fun l => by
    rw [List.map_map]
    exact (List.map_congr_left fun _ _ => rfl).trans (List.map_id _)
  have := h.map (fun v => match v with | .str z => z | _ => "")
  rwa [unstr, unstr] at this
/-- some of the menu's names, each once, n at most -/
structure Names (n : Nat) (xs : List Str) : Prop where
  nd : xs.Nodup
  sub : ∀ c ∈ xs, c ∈ menu
  len : xs.length = min n 12
def spNames : Sp := fun vs H Q _ => ∃ (b l : Addr) (n : Nat), vs = [.ref b, .int (n : Int)] ∧ Bag H b l ∧
  ∀ (xs : List Str) (p : Addr) (H' : Hp), Names n xs → H p = none → p ≠ b → H' p = some (.lst (xs.map V.str)) → Bag H' b l → Kp b H H' → Q (.ref p) H'
/-- a row of names -/
structure Row (xs : List Str) : Prop where
  nd : xs.Nodup
  sub : ∀ c ∈ xs, c ∈ menu
  pos : 0 < xs.length
  le : xs.length ≤ 12
theorem Names.row {n : Nat} {xs : List Str} (h : Names n xs) (hn : 0 < n) : Row xs := ⟨h.nd, h.sub, by rw [h.len]; omega, by rw [h.len]; omega⟩
/-- a question as it stands -/
def QAt (H : Hp) (q : Addr) (cols : List Str) (e : Str) : Prop := ∃ c, H q = some (.tup [.ref c, .str e]) ∧ H c = some (.tup (cols.map V.str))
theorem QAt.same {H H' : Hp} {q : Addr} {cols : List Str} {e : Str} (s : Same H H') (h : QAt H q cols e) : QAt H' q cols e := by
  obtain ⟨c, h1, h2⟩ := h
  exact ⟨c, s _ _ h1, s _ _ h2⟩
theorem QAt.kp {H H' : Hp} {q b l : Addr} {cols : List Str} {e : Str} (B : Bag H b l) (s : Kp b H H') (h : QAt H q cols e) : QAt H' q cols e := by
  obtain ⟨c, h1, h2⟩ := h
  exact ⟨c, s _ _ h1 (B.ne_tup h1), s _ _ h2 (B.ne_tup h2)⟩
structure Qok (xs cols : List Str) (e : Str) : Prop where
  nd : cols.Nodup
  srt : sortedS cols = true
  sub : ∀ c ∈ cols, c ∈ xs
  esub : e = "" ∨ e ∈ xs
  ne : e ∉ cols
  some : e = "" → cols ≠ []
  le : cols.length ≤ 12
def spIndex : Sp := fun vs H Q _ => ∃ (b l a : Addr) (xs : List Str), vs = [.ref b, .ref a] ∧ Bag H b l ∧ a ≠ b ∧ H a = some (.lst (xs.map V.str)) ∧ Row xs ∧
  ∀ (t : Addr) (ys : List Str) (H' : Hp), H' t = some (.tup (ys.map V.str)) → Row ys → (∀ c ∈ ys, c ∈ xs) → Bag H' b l → Kp b H H' → Q (.ref t) H'
theorem menu_ne : ∀ c ∈ menu, c ≠ "" := by decide +kernel
/-- out of a beginning of some order of a row -/
theorem qok_plain {xs ys zs : List Str} {k : Nat} (R : Row xs) (hp : ys.Perm xs) (hz : zs.Perm (ys.take (k + 1))) (hs : sortedS zs = true) : Qok xs zs "" := by
  have sl := List.take_sublist (k + 1) ys
  have hsub : ∀ c ∈ zs, c ∈ xs := fun c hc => hp.mem_iff.mp (sl.mem (hz.mem_iff.mp hc))
  have hl := R.le
  have hpos := R.pos
  have hyl := hp.length_eq
  have hzl := hz.length_eq
  rw [List.length_take] at hzl
  refine ⟨hz.nodup_iff.mpr ((hp.nodup_iff.mpr R.nd).sublist sl), hs, hsub, .inl rfl, fun h => menu_ne _ (R.sub _ (hsub _ h)) rfl, fun _ h => ?_, by omega⟩
  rw [h] at hzl
  simp at hzl
  omega
theorem qok_ranged {xs ys zs : List Str} {k : Nat} {e : Str} (R : Row xs) (hp : ys.Perm xs) (he : ys[k]? = some e) (hz : zs.Perm (ys.take k)) (hs : sortedS zs = true) : Qok xs zs e := by
  have sl := List.take_sublist k ys
  have hsub : ∀ c ∈ zs, c ∈ xs := fun c hc => hp.mem_iff.mp (sl.mem (hz.mem_iff.mp hc))
  have hmem : e ∈ xs := hp.mem_iff.mp (List.mem_of_getElem? he)
  have hl := R.le
  have hyl := hp.length_eq
  have hzl := hz.length_eq
  rw [List.length_take] at hzl
  have ndy := hp.nodup_iff.mpr R.nd
  refine ⟨hz.nodup_iff.mpr (ndy.sublist sl), hs, hsub, .inr hmem, fun h => ?_, fun h => absurd h (menu_ne _ (R.sub _ hmem)), by omega⟩
  have h1 := hz.mem_iff.mp h
  have hk : k < ys.length := (List.getElem?_eq_some_iff.mp he).1
  have e2 : ys = ys.take k ++ ys.drop k := (List.take_append_drop k ys).symm
  have e3 : e ∈ ys.drop k := by
    have : (ys.drop k)[0]? = some e := by rw [List.getElem?_drop]; exact he
    exact List.mem_of_getElem? this
  rw [e2] at ndy
  exact (List.nodup_append.mp ndy).2.2 _ h1 _ e3 rfl
end Qk
set_option maxRecDepth 100000
set_option maxHeartbeats 4000000
namespace Qk
open PySem PySem.Spec PyProof.Rows L2
def leS (a b : Str) : Prop := ltCps b.cps.toList a.cps.toList = false
theorem str_ext {a b : Str} (h : a.cps.toList = b.cps.toList) : a = b := by
  obtain ⟨x⟩ := a
  obtain ⟨y⟩ := b
  simp only at h
  congr 1
  exact Array.toList_inj.mp h
theorem leS_antisymm {a b : Str} (h1 : leS a b) (h2 : leS b a) : a = b := by
  unfold leS at h1 h2
  rw [ltCps_eq] at h1 h2
  have n1 := of_decide_eq_false h1
  have n2 := of_decide_eq_false h2
  exact str_ext (List.le_antisymm (List.not_lt.mp n1) (List.not_lt.mp n2))
theorem leS_trans {a b c : Str} (h1 : leS a b) (h2 : leS b c) : leS a c := by
  unfold leS at *
  rw [ltCps_eq] at *
  have n1 := List.not_lt.mp (of_decide_eq_false h1)
  have n2 := List.not_lt.mp (of_decide_eq_false h2)
  exact decide_eq_false (List.not_lt.mpr (List.le_trans n1 n2))
theorem risingS_pw : ∀ (xs : List Str) (p : Str), risingS p xs = true → (p :: xs).Pairwise leS
  | [], p, _ => List.pairwise_singleton _ _
  | x :: r, p, h => by
    rw [risingS, Bool.and_eq_true] at h
    have h1 : leS p x := by
      have := h.1
      rw [Bool.not_eq_true'] at this
      exact this
    have ih := risingS_pw r x h.2
    refine List.pairwise_cons.mpr ⟨fun y hy => ?_, ih⟩
    rcases List.mem_cons.mp hy with rfl | hy
    · exact h1
    · exact leS_trans h1 ((List.pairwise_cons.mp ih).1 y hy)
theorem sortedS_pw {xs : List Str} (h : sortedS xs = true) : xs.Pairwise leS := by
  cases xs with
  | nil => exact List.Pairwise.nil
  | cons x r => exact risingS_pw r x h
theorem perm_sorted : ∀ {xs ys : List Str}, xs.Perm ys → xs.Pairwise leS → ys.Pairwise leS → xs = ys
  | [], ys, h, _, _ => (List.Perm.nil_eq h)
  | x :: xs, [], h, _, _ => absurd h.length_eq (by simp)
  | x :: xs, y :: ys, h, h1, h2 => by
    have e : x = y := by
      rcases List.mem_cons.mp (h.mem_iff.mp List.mem_cons_self) with e | m1
      · exact e
      · rcases List.mem_cons.mp (h.mem_iff.mpr List.mem_cons_self) with e | m2
        · exact e.symm
        · exact leS_antisymm ((List.pairwise_cons.mp h1).1 y m2) ((List.pairwise_cons.mp h2).1 x m1)
    subst e
    rw [perm_sorted (List.Perm.cons_inv h) (List.pairwise_cons.mp h1).2 (List.pairwise_cons.mp h2).2]
theorem menu_ok : ∀ c ∈ menu, PyData.strOk c = true := by decide +kernel
theorem lay_strs : ∀ {xs : List Str}, (∀ c ∈ xs, PyData.strOk c = true) → PyData.canLayAll0 (xs.map PyData.str) = true
  | [], _ => rfl
  | x :: xs, h => by
    show (PyData.canLay0 (.str x) && PyData.canLayAll0 (xs.map PyData.str)) = true
    rw [lay_strs fun c hc => h c (List.mem_cons_of_mem _ hc), Bool.and_true]
    exact h x List.mem_cons_self
theorem depth_strs : ∀ (xs : List Str), PyData.depthAll (xs.map PyData.str) = 0
  | [] => rfl
  | x :: xs => by
    show max (PyData.depth (.str x)) (PyData.depthAll (xs.map PyData.str)) = 0
    rw [depth_strs xs]
    rfl
theorem eqv_strs : ∀ (xs ys : List Str), PyData.eqvAll (xs.map PyData.str) (ys.map PyData.str) = decide (xs = ys)
  | [], [] => by simp [PyData.eqvAll]
  | [], y :: ys => by simp [PyData.eqvAll]
  | x :: xs, [] => by simp [PyData.eqvAll]
  | x :: xs, y :: ys => by
    show PyData.eqvAll (PyData.str x :: xs.map PyData.str) (PyData.str y :: ys.map PyData.str) = _
    rw [PyData.eqvAll, eqv_strs xs ys, PyData.eqv]
    by_cases h1 : x = y
    · subst h1
      by_cases h2 : xs = ys
      · subst h2
        simp
      · simp [h2]
    · simp [h1]
theorem dp_strs {K : PySem.W.Frag} {H : Hp} : ∀ (xs : List Str), DpAll K H (xs.map V.str) (xs.map PyData.str)
  | [] => .nil
  | x :: xs => .cons (.str x) (dp_strs xs)
theorem slA {K : PySem.W.Frag} {H : Hp} {a : Addr} {xs : List Str} {lo hi : Option Int} {ys : List Str} {Q : VK} (h : H a = some (.tup (xs.map V.str))) (e : cutV (xs.map V.str) lo hi = ys.map V.str)
    (k : ∀ (r : Addr) (H' : Hp), Same H H' → H' r = some (.tup (ys.map V.str)) → Q (.ref r) H') : rSlA K (.ref a) lo hi H Q := by
  refine ⟨a, _, rfl, SqT.of h, fun hw => k a H (Same.refl _) ?_, fun _ p hp => ?_⟩
  · rw [h, ← e]
    unfold cutV
    rw [hw.1, hw.2, List.drop_zero, Nat.sub_zero, List.take_length]
  · rw [e]
    exact k p _ (same_new hp) upd_same
structure QM (cols : List Str) (e : Str) : Prop where
  nd : cols.Nodup
  srt : sortedS cols = true
  sub : ∀ c ∈ cols, c ∈ menu
  esub : e = "" ∨ e ∈ menu
  le : cols.length ≤ 12
  some : e = "" → cols ≠ []
theorem Qok.qm {xs cols : List Str} {e : Str} (h : Qok xs cols e) (R : ∀ c ∈ xs, c ∈ menu) : QM cols e :=
  ⟨h.nd, h.srt, fun c hc => R _ (h.sub _ hc), h.esub.imp id (fun m => R _ m), h.le, h.some⟩
theorem Row.take {xs : List Str} (R : Row xs) (k : Nat) : Row (xs.take (k + 1)) :=
  ⟨R.nd.sublist (List.take_sublist _ _), fun c hc => R.sub _ ((List.take_sublist _ _).mem hc), by have := R.pos; rw [List.length_take]; omega, by have := R.le; rw [List.length_take]; omega⟩
end Qk
set_option maxRecDepth 100000
set_option maxHeartbeats 4000000
namespace Qk
open PySem PySem.Spec PyProof.Rows L2
structure FnG (P : Program) (w : World) (K : PySem.W.Frag) (mg : Str → Option Value) (base : Heap) (k : Nat) (f : Addr) (fd : FuncData) (ps : List Str) (sp : Sp) : Prop where
  len : ∀ vs H Q E, sp vs H Q E → vs.length = ps.length
  run : ∀ (A : Around) (outer : List Env) (s : Shared) (H : Hp) (args : Args) (us : List Value) (vs : List V) (Q : VK) (E : XK), Room k A → A.guards = some [] → Env0 P w K mg base A outer s H →
    BindsTo s fd args (ps.zip us) → Vals vs us → sp vs H Q E → codeAny (model P w) A (.call (.ref f) args) (CR CX0 outer P w H s Q E) s
theorem FnG.of {P : Program} {w : World} {K : PySem.W.Frag} {mg : Str → Option Value} {base : Heap} {k : Nat} {f : Addr} {fd : FuncData} {ps : List Str} {sp : Sp} (F : FnOk P w K mg base CX0 k f fd ps sp) : FnG P w K mg base k f fd ps sp :=
  ⟨F.len, fun A o s H args us vs Q E hr _ e b v h => F.run A o s H args us vs Q E hr e b v h⟩
section
variable {P : Program} {w : World} {K : PySem.W.Frag} {mg : Str → Option Value} {base : Heap}
theorem okG {x qual : Str} {st : Stmt} {f : Addr} {fd : FuncData} {N ps : List Str} {k : Nat} {sp : Sp} (F : Fun K x qual st f fd) (S : FnScope N ps (defScope st)) (len : ∀ vs H Q E, sp vs H Q E → vs.length = ps.length)
    (body : ∀ (cdv : Value) (A : Around) (outer : List Env) (s : Shared) (H : Hp) (vs : List V) (Q : VK) (E : XK), Room k (A.deeper (envOfC qual (defScope st) s.heap.objs.size f cdv)) → A.guards = some [] → sp vs H Q E →
      ∃ t, PSs (cxOf CX0 P w K mg base N qual (defScope st) f cdv A outer s H E).nox (defBody st) t ∧ t { nx := fun _ H' => Q .non H', rt := Q } (start N vs) H) : FnG P w K mg base (k + 1) f fd ps sp := by
  obtain ⟨oc, od, kV, doc, pm, an, cdv, ct, osl, rfl, lk, hcd⟩ := F.ex
  constructor
  · exact len
  intro A outer s H args us vs Q E hr hg e0 hb rv hsp
  have hlen := len _ _ _ _ hsp
  have kept : ∀ b o, base.get? b = some o → s.heap.get? b = some o := fun b o e => (e0.bs b o e).1
  have KX : K.In s.heap := e0.mod.kin.keeps kept
  have par : ∀ y ∈ ps.zip us, (defScope st).names.lookup y.1 = some .local ∨ ((defScope st).names.lookup y.1 = some .cell ∧ ((cellsFrom (s.heap.objs.size + 1) (defScope st).names []).lookup y.1).isSome = true) := by
    rintro ⟨n, v⟩ hy
    exact (S.par n (List.of_mem_zip hy).1).imp id fun q => ⟨q, PySem.W.cellsFrom_some _ _ _ (.inl q)⟩
  refine codeAny_call_function hr.depth (KX _ _ lk) rfl S.co S.gen rfl (PySem.W.codeRec_of KX hcd) (hb _ _ _ _ ?_)
  refine wpAny_newFunctionEnv_cells S.kind par fun env he s1 xe => ?_
  subst he
  refine ⟨(e0.mod.nolimit.keeps kept).keeps xe.toInCall.keep, codeAny_func ?_⟩
  obtain ⟨t, ht, hq⟩ := body cdv A outer s H vs Q E (hr.deeper _) hg hsp
  refine wpAny_mono (ht.nox.run [] s1 (start N vs) H _ (inv_start S hr.hd e0 hlen rv xe) hq) (fun fl s' hs => ?_) fun _ _ z => z
  cases fl with
  | ret u =>
    obtain ⟨v, σ', H', J, r, q⟩ := hs
    exact ⟨v, H', J.os, J.bare, J.base, J.hok, r, q⟩
  | next =>
    obtain ⟨σ', H', J, q⟩ := hs
    exact ⟨V.non, H', J.os, J.bare, J.base, J.hok, rfl, q⟩
  | brk => exact hs.elim fun _ z => z.elim fun _ z => z.2.elim
  | cont => exact hs.elim fun _ z => z.elim fun _ z => z.2.elim
end
section
variable {X : Cx} {k : Nat} {f : Addr} {fd : FuncData} {ps : List Str} {sp : Sp} {x : Str} {p pos : Pos} {e : Expr} {es : List Expr} {t : TA}
theorem run_g {pins : List (Addr × Obj)} {σ : L2.St} {H : Hp} {s : Shared} {Q : VK} {us : List Value} {vs : List V} (F : FnG X.prog X.w X.K X.mg X.base k f fd ps sp) (hr : Room k X.A) (hg : X.A.guards = some []) (hb : Binds X.K fd ps [])
    (I : Inv X pins σ H s) (r : Vals vs us) (h : sp vs H Q E0) : wpAny (model X.prog X.w) X.A (call (.ref f) us) (EP X pins σ Q) X.xe s := by
  have hl : (us ++ ([] : List Value)).length = ps.length := by
    rw [List.append_nil, ← r.length]
    exact F.len _ _ _ _ h
  have hbd := hb s us I.kIn hl
  rw [List.append_nil] at hbd
  have c := F.run X.A X.stack s H ⟨us, []⟩ us vs Q E0 hr hg I.env0 hbd r h
  refine wpAny_call (codeAny_mono c fun r s' hq => ?_)
  cases r with
  | error e => exact False.elim hq
  | ok fl =>
    cases fl with
    | ret u => exact I.after hq
    | _ => exact False.elim hq
/-- a call by name of such a def, all arguments given -/
theorem pe_callg (F : FnG X.prog X.w X.K X.mg X.base k f fd ps sp) (hr : Room k X.A) (hg : X.A.guards = some []) (hgl : Gl X x) (hm : X.mg x = some (.ref f)) (hk : PySem.W.keepIn X.K (.ref f) = true) (hb : Binds X.K fd ps [])
    (ha : PA X (e :: es) t) (hdb : (x == ("__debug__" : Str)) = false := by decide) (he : starEach (e :: es) X.env = (false, eval e X.env) :: starEach es X.env := by rfl) (hpl : (backTo pos (starEach es X.env)).any (·.1) = false := by rfl) :
    PE X (.Call (.Name x p) (e :: es) [] pos) (fun σ H Q => t σ H fun vs H1 => sp vs H1 Q E0) := by
  constructor
  intro pins s σ H Q I h
  refine wpAny_Call_Name_kw (ld_glob I hgl hm ?_ hdb)
  refine PySem.W.callWith_K (h₀ := X.base) I.ok.mod.kin hk ?_ he hpl
  exact thn (ha.run pos pins s σ H _ I h) fun us s1 ⟨vs, H1, I1, r, q⟩ => ⟨I1.kIn, run_g F hr hg hb I1 r q⟩
/-- repr of data, where no repr is running -/
def rReprD (K : PySem.W.Frag) : List V → Hp → VK → Prop := fun vs H Q => ∃ (x : V) (d : PyData), vs = [x] ∧ Dp K H x d ∧ d.showable = true ∧ d.hasDict = false ∧ d.shown.length ≤ sizeLine ∧ d.depth ≤ 60 ∧ Q (.str d.shown) H
theorem call_reprD (hg : X.A.guards = some []) (hu : X.A.units + 64 < cLine) : CallR X (.builtin "repr") (rReprD X.K) := by
  intro pins s σ H xs us Q I r h
  obtain ⟨x, d, rfl, hd, h1, h2, h3, h4, q⟩ := h
  obtain ⟨u, rfl, rx⟩ := vals1 r
  obtain ⟨as, rd⟩ := Dp.reads I d x u hd rx
  cases hd with
  | non =>
    cases rx
    exact PySem.P.repr_of_none ⟨.str _, H, I.tok _, ⟨_, rfl⟩, q⟩
  | bl b =>
    cases rx
    exact PySem.P.repr_of_bool ⟨.str _, H, I.tok _, ⟨_, rfl⟩, q⟩
  | int i =>
    obtain ⟨tk, rfl⟩ := rx
    exact PySem.P.repr_of_int (by simpa [PyData.showable] using h1) ⟨.str _, H, I.tok _, ⟨_, rfl⟩, q⟩
  | str z =>
    obtain ⟨tk, rfl⟩ := rx
    exact PySem.P.repr_of_str ⟨.str _, H, I.tok _, ⟨_, rfl⟩, q⟩ h3
  | lst hs ha =>
    cases rx
    exact repr_of_reads' rd h1 (fun z => by rw [h2] at z; cases z) hg (by omega) (fun _ _ z => z) (fun h' u tk hk => ⟨.str _, H, I.kept hk, ⟨_, rfl⟩, q⟩) h3
  | tup hs ha =>
    cases rx
    exact repr_of_reads' rd h1 (fun z => by rw [h2] at z; cases z) hg (by omega) (fun _ _ z => z) (fun h' u tk hk => ⟨.str _, H, I.kept hk, ⟨_, rfl⟩, q⟩) h3
end
end Qk
set_option maxRecDepth 100000
set_option maxHeartbeats 4000000
namespace Qk
open PySem PySem.Spec PyProof.Rows L2
theorem law_g {P : Program} {w : World} {K : PySem.W.Frag} {mg mb : Str → Option Value} {k : Nat} {fa a : Addr} {fd : FuncData} {x : Str} {sp : Sp} {s₁ : Shared} {vs : List Value} {ns : List Int}
    (KX : K.In s₁.heap) (hns : s₁.heap.Ns mainGlobals mg) (hb : s₁.heap.Ns builtinsNs mb) (hbb : ∀ x : Str, x ≠ "__name__" → mb x = bootBuiltins x) (hlim : s₁.heap.NoLimit) (hg : s₁.gens = #[])
    (ha : s₁.heap.get? a = some { cls := .type "list", data := .seq vs.toArray }) (hi : IntsAre vs ns) (hl : ns.length ≤ sizeLine) (hr : Room k callerA)
    (F : ∀ base : Heap, K.In base → base.Ns mainGlobals mg → FnG P w K mg base k fa fd [x] sp) (hbind : ∀ (s : Shared) (u : Value), BindsTo s fd ⟨[u], []⟩ [(x, u)])
    (hsp : ∀ H : Hp, Only H → SqL K H a (ns.map V.int) → sp [.ref a] H (fun v _ => v = .bl true) fun _ _ _ => False) :
    codeAny (model P w) callerA (.call (.ref fa) ⟨[.ref a], []⟩) (fun r s' => r = .ok (.ret (.bool true)) ∧ OldK s₁.heap s'.heap ∧ s'.os = s₁.os ∧ AllBare s'.gens) s₁ := by
  let o : Obj := { cls := .type "list", data := .seq vs.toArray }
  have rv : Vals (ns.map V.int) vs := vals_ints hi
  have lenV : vs.length = ns.length := hi.length
  -- the abstract heap: the script alone, where the top does not know it
  let H : Hp := fun b => if b = a ∧ K.lookup a = none then some (.frz o (.lst (ns.map V.int))) else none
  have Hsome : ∀ {b u}, H b = some u → b = a ∧ K.lookup a = none ∧ u = .frz o (.lst (ns.map V.int)) := fun {b u} z => by
    by_cases c : b = a ∧ K.lookup a = none
    · have z2 : some (HO.frz o (.lst (ns.map V.int))) = some u := (if_pos c).symm.trans z
      exact ⟨c.1, c.2, (Option.some.inj z2).symm⟩
    · have z2 : (none : Option HO) = some u := (if_neg c).symm.trans z
      cases z2
  have hO : Only H := fun b => by
    cases q : H b with
    | none => exact .inl rfl
    | some u => exact .inr ⟨_, _, by rw [(Hsome q).2.2]⟩
  have hS : SqL K H a (ns.map V.int) := by
    cases q : K.lookup a with
    | none => exact .inl (.inr ⟨o, if_pos ⟨rfl, q⟩⟩)
    | some u =>
      have e := KX a u q
      rw [ha] at e
      cases e
      exact .inr ⟨_, vs.toArray, _, q, rfl, rfl, rfl, by rw [List.size_toArray, lenV]; exact hl, by simpa using rv⟩
  have hok : HOk P w H s₁.heap := fun b u z => by
    obtain ⟨rfl, _, rfl⟩ := Hsome z
    exact ⟨ha, by rw [List.length_map]; exact hl, vs, _, rv, ha⟩
  have keepB : ∀ {b : Addr} {u : Obj}, s₁.heap.get? b = some u → (b = a → K.lookup a ≠ none) → (hidT s₁.heap H).get? b = some u := fun {b u} e n => hidT_get e (by
    cases q : H b with
    | none => rfl
    | some z => exact absurd (Hsome q).2.1 (n (Hsome q).1))
  have keepN : ∀ {b : Addr} {m : Str → Option Value}, s₁.heap.Ns b m → (hidT s₁.heap H).Ns b m := fun {b m} ⟨u, es, ep, e, d, r⟩ => by
    refine ⟨u, es, ep, keepB e fun eb => ?_, d, r⟩
    subst eb
    rw [ha] at e
    cases e
    cases d
  have hKb : K.In (hidT s₁.heap H) := fun b u e => keepB (KX b u e) fun eb q => by
    subst eb
    rw [q] at e
    cases e
  have hM : Mod K mg (hidT s₁.heap H) := ⟨hKb, keepN hns, ⟨mb, keepN hb, hbb⟩, let ⟨mc, h1, h2⟩ := hlim; ⟨mc, keepN h1, h2⟩⟩
  have e0 : Env0 P w K mg (hidT s₁.heap H) callerA [] s₁ H := ⟨rfl, hM, fun _ _ e => of_hidT e, Nat.le_of_eq (hidT_size _ _), trivial, fun b z => absurd (show b ∈ ([] : List Addr) from z) (by simp), hok, .of_eq hg⟩
  have run := (F _ hKb (keepN hns)).run callerA [] s₁ H ⟨[.ref a], []⟩ [.ref a] [.ref a] _ _ hr rfl e0 (hbind s₁ (.ref a)) (.cons rfl .nil) (hsp H hO hS)
  refine codeAny_mono run fun r s' h => ?_
  cases r with
  | error e => exact False.elim h
  | ok fl =>
    cases fl with
    | ret u =>
      obtain ⟨v, H', os, bare, un, hok', r', q⟩ := h
      obtain rfl : v = .bl true := q
      obtain rfl : u = Value.bool true := r'
      refine ⟨rfl, OldK.of_keep fun b u e => ?_, os, bare⟩
      cases q : H b with
      | none => exact un.keep b u e q (fun z => absurd (show b ∈ ([] : List Addr) from z) (by simp)) (by simp)
      | some z =>
        obtain ⟨rfl, _, rfl⟩ := Hsome q
        obtain ⟨e2, _⟩ := hok' b _ (un.frzs b o _ q)
        rw [ha] at e
        cases e
        exact e2
    | _ => exact False.elim h
theorem walk_g {l : PySem.W.OpenLaw} {n k : Nat} {q : Program} {loose : List Str} {XP : (Str → Option Value) → Heap → Prop} {YP : World → Heap → Prop} {d : DefRec} {K : Params → PySem.W.Frag} {sp : World → Sp} {x : Str}
    (hn : l.most = some n) (hn2 : n ≤ sizeLine) (hdf : d.params.defaults = []) (hr : Room k callerA) (hY : ∀ (w : World) (h : Heap), YP w h → (K w.params).In h)
    (F : ∀ (w : World) (mg : Str → Option Value) (fa : Addr) (h : Heap), (K w.params).In h → h.Ns mainGlobals mg → mg d.name = some (.ref fa) →
      ∃ fd : FuncData, (∀ (s : Shared) (u : Value), BindsTo s fd ⟨[u], []⟩ [(x, u)]) ∧ ∀ base : Heap, (K w.params).In base → base.Ns mainGlobals mg → FnG l.prog w (K w.params) mg base k fa fd [x] (sp w))
    (hsp : ∀ (w : World) (H : Hp) (a : Addr) (ns : List Int), ns.length ≤ n → Only H → SqL (K w.params) H a (ns.map V.int) → sp w [.ref a] H (fun v _ => v = .bl true) fun _ _ _ => False) :
    PySem.W.WalkO q loose XP YP l.row.toRowW d [] (fun f vs => PySem.call f vs) := by
  refine Att.attach_call hn hdf fun w s₀ s₁ mg mb fa o pm cd doc a vs ns G Y ho hd hcd hmg hobj hints hlen hg => ?_
  obtain ⟨fd, hb, hF⟩ := F w mg fa _ (hY w _ Y) G.T.g hmg
  exact law_g (hY w _ Y) G.T.g G.T.b G.T.builtins G.T.nolimit hg hobj hints (Nat.le_trans hlen hn2) hr hF hb fun H hO hS => hsp w H a ns hlen hO hS
mutual
def fine : PyData → Bool
  | .none => true
  | .bool _ => true
  | .int i => decide (i.natAbs < 10 ^ 60)
  | .str x => PyData.strOk x && decide (x.cps.size ≤ 20)
  | .list xs => fineAll xs
  | .tuple xs => fineAll xs
  | .dict _ => false
def fineAll : List PyData → Bool
  | [] => true
  | x :: xs => fine x && fineAll xs
end
mutual
def cost : PyData → Nat
  | .none => 4
  | .bool _ => 5
  | .int _ => 64
  | .str _ => 210
  | .list xs => costAll xs + 3
  | .tuple xs => costAll xs + 3
  | .dict _ => 0
def costAll : List PyData → Nat
  | [] => 0
  | x :: xs => cost x + 2 + costAll xs
end
mutual
theorem fine_lay : ∀ d : PyData, fine d = true → d.canLay0 = true ∧ d.showable = true ∧ d.hasDict = false
  | .none, _ => ⟨rfl, rfl, rfl⟩
  | .bool _, _ => ⟨rfl, rfl, rfl⟩
  | .int i, h => by
    have hi : i.natAbs < 10 ^ 60 := of_decide_eq_true h
    refine ⟨rfl, ?_, rfl⟩
    show decide (i.natAbs.log2 < 1920) = true
    refine decide_eq_true ?_
    by_cases h0 : i.natAbs = 0
    · rw [h0]
      decide
    · exact Nat.lt_of_lt_of_le ((Nat.log2_lt h0).mpr (Nat.lt_of_lt_of_le hi (show 10 ^ 60 ≤ 2 ^ 200 by decide))) (by decide)
  | .str x, h => by
    have h' : (PyData.strOk x && decide (x.cps.size ≤ 20)) = true := h
    rw [Bool.and_eq_true] at h'
    exact ⟨h'.1, rfl, rfl⟩
  | .list xs, h => fine_layAll xs h
  | .tuple xs, h => fine_layAll xs h
  | .dict _, h => by cases h
theorem fine_layAll : ∀ xs : List PyData, fineAll xs = true → PyData.canLayAll0 xs = true ∧ PyData.showableAll xs = true ∧ PyData.hasDictAll xs = false
  | [], _ => ⟨rfl, rfl, rfl⟩
  | x :: xs, h => by
    have h' : (fine x && fineAll xs) = true := h
    rw [Bool.and_eq_true] at h'
    obtain ⟨a1, a2, a3⟩ := fine_lay x h'.1
    obtain ⟨b1, b2, b3⟩ := fine_layAll xs h'.2
    refine ⟨?_, ?_, ?_⟩
    · show (PyData.canLay0 x && PyData.canLayAll0 xs) = true
      rw [a1, b1]
      rfl
    · show (PyData.showable x && PyData.showableAll xs) = true
      rw [a2, b2]
      rfl
    · show (PyData.hasDict x || PyData.hasDictAll xs) = false
      rw [a3, b3]
      rfl
end
theorem listText_le (ts : List Str) : (listText ts).length ≤ piled ts + 2 := by
  cases ts with
  | nil => decide
  | cons t r =>
    have e : listText (t :: r) = textFrom 1 ("[" ++ "" ++ t) r ++ "]" := rfl
    rw [e, strLen_append, textFrom_length_pos r 1 _ (by decide), strLen_append, piled_cons]
    have e1 : (("[" : Str) ++ ("" : Str)).length = 1 := rfl
    have e2 : ((("]" : String) : Str)).length = 1 := rfl
    have e3 : (((("[" : String) : Str) ++ (("" : String) : Str)) : Str).length = 1 := rfl
    omega
theorem tupleText_le (ts : List Str) : (tupleText ts).length ≤ piled ts + 3 := by
  unfold tupleText
  rw [strLen_append, strLen_append]
  have e1 : (("(" : String) : Str).length = 1 := rfl
  have e2 : ((if (ts.length == 1) = true then ",)" else ")" : String) : Str).length ≤ 2 := by
    split
    · decide
    · decide
  cases ts with
  | nil =>
    have : (Str.join ", " ([] : List Str)).length = 0 := rfl
    omega
  | cons t r =>
    have := join_length_add (t :: r) (by simp)
    omega
mutual
theorem shown_le : ∀ d : PyData, fine d = true → d.shown.length ≤ cost d
  | .none, _ => by decide
  | .bool b, _ => by cases b <;> decide
  | .int i, h => by
    have hi : i.natAbs < 10 ^ 60 := of_decide_eq_true h
    have e := int_text_length_le10 (k := 60) (a := i) (by decide) hi
    show (Str.ofString (toString i)).length ≤ 64
    rw [PySem.ofString_length]
    omega
  | .str x, h => by
    have h' : (PyData.strOk x && decide (x.cps.size ≤ 20)) = true := h
    rw [Bool.and_eq_true] at h'
    have h2 : x.length ≤ 20 := of_decide_eq_true h'.2
    have h3 : ∀ c ∈ x.cps.toList, c < 16 ^ 8 := fun c hc => by
      have := Array.all_eq_true'.mp h'.1 c (by simpa using hc)
      have := of_decide_eq_true this
      omega
    have := PySem.StrLaws.reprText_len x h3
    show (reprText x).length ≤ 210
    omega
  | .list xs, h => by
    have := listText_le (PyData.shownAll xs)
    have h2 := shown_leAll xs h
    show (listText (PyData.shownAll xs)).length ≤ costAll xs + 3
    omega
  | .tuple xs, h => by
    have := tupleText_le (PyData.shownAll xs)
    have h2 := shown_leAll xs h
    show (tupleText (PyData.shownAll xs)).length ≤ costAll xs + 3
    omega
  | .dict _, h => by cases h
theorem shown_leAll : ∀ xs : List PyData, fineAll xs = true → piled (PyData.shownAll xs) ≤ costAll xs
  | [], _ => Nat.le_refl 0
  | x :: xs, h => by
    have h' : (fine x && fineAll xs) = true := h
    rw [Bool.and_eq_true] at h'
    have h1 := shown_le x h'.1
    have h2 := shown_leAll xs h'.2
    show piled (PyData.shown x :: PyData.shownAll xs) ≤ cost x + 2 + costAll xs
    rw [piled_cons]
    omega
end
structure DOk (d : PyData) : Prop where
  f : fine d = true
  dp : d.depth ≤ 50
  c : cost d ≤ 1000000
theorem DOk.shaped {d : PyData} (h : DOk d) : SeqAt.shaped d = true := by
  unfold SeqAt.shaped
  rw [(fine_lay d h.f).1]
  exact decide_eq_true (Nat.le_trans h.dp (by decide))
theorem DOk.len {d : PyData} (h : DOk d) : d.shown.length ≤ sizeLine := Nat.le_trans (shown_le d h.f) (Nat.le_trans h.c (by rw [sizeLine_eq]; decide))
mutual
theorem Dp.same {K : PySem.W.Frag} {H H' : Hp} (s : Same H H') : ∀ (d : PyData) (v : V), Dp K H v d → Dp K H' v d
  | .none, _, h => by cases h; exact .non
  | .bool _, _, h => by cases h; exact .bl _
  | .int _, _, h => by cases h; exact .int _
  | .str _, _, h => by cases h; exact .str _
  | .list ds, _, h => by
    cases h with
    | lst h1 h2 => exact .lst (s.seq h1) (Dp.sameAll s ds _ h2)
  | .tuple ds, _, h => by
    cases h with
    | tup h1 h2 => exact .tup (Evl.ex_t s h1) (Dp.sameAll s ds _ h2)
  | .dict _, _, h => by cases h
theorem Dp.sameAll {K : PySem.W.Frag} {H H' : Hp} (s : Same H H') : ∀ (ds : List PyData) (vs : List V), DpAll K H vs ds → DpAll K H' vs ds
  | [], _, h => by cases h; exact .nil
  | d :: ds, _, h => by
    cases h with
    | cons h1 h2 => exact .cons (Dp.same s d _ h1) (Dp.sameAll s ds _ h2)
end
/-- two data that are the same -/
def spAlikeD (K : PySem.W.Frag) : Sp := fun vs H Q _ => ∃ (x y : V) (d : PyData), vs = [x, y] ∧ Dp K H x d ∧ Dp K H y d ∧ DOk d ∧ Q (.bl true) H
theorem fine_int {i : Int} (h : i.natAbs < 10 ^ 60) : fine (.int i) = true := decide_eq_true h
/-- the names as data -/
def okS (c : Str) : Bool := PyData.strOk c && decide (c.cps.size ≤ 20)
theorem menu_okS : ∀ c ∈ menu, okS c = true := by decide +kernel
theorem fine_strs : ∀ {xs : List Str}, (∀ c ∈ xs, okS c = true) → fineAll (xs.map PyData.str) = true
  | [], _ => rfl
  | x :: xs, h => by
    show (fine (.str x) && fineAll (xs.map PyData.str)) = true
    rw [fine_strs fun c hc => h c (List.mem_cons_of_mem _ hc), Bool.and_true]
    exact h x List.mem_cons_self
theorem cost_strs : ∀ (xs : List Str), costAll (xs.map PyData.str) = 212 * xs.length
  | [] => rfl
  | x :: xs => by
    show cost (.str x) + 2 + costAll (xs.map PyData.str) = _
    rw [cost_strs xs, List.length_cons]
    show 210 + 2 + _ = _
    omega
/-- a question as data -/
def dQ (cols : List Str) (e : Str) : PyData := .tuple [.tuple (cols.map PyData.str), .str e]
theorem dp_q {K : PySem.W.Frag} {H : Hp} {q : Addr} {cols : List Str} {e : Str} (h : QAt H q cols e) : Dp K H (.ref q) (dQ cols e) := by
  obtain ⟨c, h1, h2⟩ := h
  exact .tup (SqT.of h1) (.cons (.tup (SqT.of h2) (dp_strs _)) (.cons (.str e) .nil))
structure CalG (P : Program) (w : World) (K : PySem.W.Frag) (mg : Str → Option Value) (base : Heap) (k : Nat) (x : Str) (ps : List Str) (sp : Sp) where
  f : Addr
  fd : FuncData
  G : FnG P w K mg base k f fd ps sp
  m : mg x = some (.ref f)
  kp : PySem.W.keepIn K (.ref f) = true
  b : Binds K fd ps []
end Qk
set_option maxRecDepth 100000
set_option maxHeartbeats 4000000
namespace Qk
open PySem PySem.Spec PyProof.Rows L2
def ltS (a b : Str) : Bool := decide (a.cps.toList < b.cps.toList)
def lexS : List Str → List Str → Bool
  | [], [] => false
  | [], _ :: _ => true
  | _ :: _, [] => false
  | x :: xs, y :: ys => if x = y then lexS xs ys else ltS x y
theorem ltS_irrefl (a : Str) : ltS a a = false := decide_eq_false (List.lt_irrefl _)
theorem ltS_tri {a b : Str} (h : a ≠ b) : ltS a b = true ∨ ltS b a = true := by
  unfold ltS
  by_cases h1 : a.cps.toList < b.cps.toList
  · exact .inl (decide_eq_true h1)
  · by_cases h2 : b.cps.toList < a.cps.toList
    · exact .inr (decide_eq_true h2)
    · exact absurd (str_ext (List.le_antisymm (List.not_lt.mp h2) (List.not_lt.mp h1))) h
theorem ltS_trans {a b c : Str} (h1 : ltS a b = true) (h2 : ltS b c = true) : ltS a c = true := by
  unfold ltS at *
  exact decide_eq_true (List.lt_trans (of_decide_eq_true h1) (of_decide_eq_true h2))
theorem ltS_asym {a b : Str} (h1 : ltS a b = true) : ltS b a = false := by
  cases h2 : ltS b a with
  | false => rfl
  | true =>
    have := ltS_trans h1 h2
    rw [ltS_irrefl] at this
    cases this
theorem lexS_irrefl : ∀ a : List Str, lexS a a = false
  | [] => rfl
  | x :: xs => by
    rw [lexS, if_pos rfl]
    exact lexS_irrefl xs
theorem lexS_tri : ∀ {a b : List Str}, a ≠ b → lexS a b = true ∨ lexS b a = true
  | [], [], h => absurd rfl h
  | [], _ :: _, _ => .inl rfl
  | _ :: _, [], _ => .inr rfl
  | x :: xs, y :: ys, h => by
    rw [lexS, lexS]
    by_cases e : x = y
    · subst e
      rw [if_pos rfl, if_pos rfl]
      exact lexS_tri fun z => h (by rw [z])
    · rw [if_neg e, if_neg (Ne.symm e)]
      exact ltS_tri e
theorem lexS_trans : ∀ {a b c : List Str}, lexS a b = true → lexS b c = true → lexS a c = true
  | [], [], _, h, _ => by cases h
  | [], _ :: _, [], _, h => by cases h
  | [], _ :: _, _ :: _, _, _ => rfl
  | _ :: _, [], _, h, _ => by cases h
  | _ :: _, _ :: _, [], _, h => by cases h
  | x :: xs, y :: ys, z :: zs, h1, h2 => by
    rw [lexS] at h1 h2 ⊢
    by_cases e1 : x = y
    · subst e1
      rw [if_pos rfl] at h1
      by_cases e2 : x = z
      · rw [if_pos e2] at h2 ⊢
        exact lexS_trans h1 h2
      · rw [if_neg e2] at h2 ⊢
        exact h2
    · rw [if_neg e1] at h1
      by_cases e2 : y = z
      · subst e2
        rw [if_neg e1]
        exact h1
      · rw [if_neg e2] at h2
        have h3 := ltS_trans h1 h2
        have e3 : x ≠ z := fun e => by
          subst e
          rw [ltS_asym h1] at h2
          cases h2
        rw [if_neg e3]
        exact h3
theorem lexS_asym {a b : List Str} (h1 : lexS a b = true) : lexS b a = false := by
  cases h2 : lexS b a with
  | false => rfl
  | true =>
    have := lexS_trans h1 h2
    rw [lexS_irrefl] at this
    cases this
abbrev Qd := List Str × Str
def ltQ (p q : Qd) : Bool := if p.1 = q.1 then ltS p.2 q.2 else lexS p.1 q.1
theorem ltQ_irrefl (p : Qd) : ltQ p p = false := by
  unfold ltQ
  rw [if_pos rfl]
  exact ltS_irrefl _
theorem ltQ_tri {p q : Qd} (h : p ≠ q) : ltQ p q = true ∨ ltQ q p = true := by
  unfold ltQ
  by_cases e : p.1 = q.1
  · rw [if_pos e, if_pos e.symm]
    exact ltS_tri fun z => h (Prod.ext e z)
  · rw [if_neg e, if_neg (Ne.symm e)]
    exact lexS_tri e
theorem ltQ_trans {p q r : Qd} (h1 : ltQ p q = true) (h2 : ltQ q r = true) : ltQ p r = true := by
  unfold ltQ at *
  by_cases e1 : p.1 = q.1
  · rw [if_pos e1] at h1
    by_cases e2 : q.1 = r.1
    · rw [if_pos e2] at h2
      rw [if_pos (e1.trans e2)]
      exact ltS_trans h1 h2
    · rw [if_neg e2] at h2
      rw [if_neg (e1 ▸ e2), e1]
      exact h2
  · rw [if_neg e1] at h1
    by_cases e2 : q.1 = r.1
    · rw [if_pos e2] at h2
      rw [if_neg (e2 ▸ e1), ← e2]
      exact h1
    · rw [if_neg e2] at h2
      have h3 := lexS_trans h1 h2
      have e3 : p.1 ≠ r.1 := fun e => by
        rw [e] at h1
        rw [lexS_asym h1] at h2
        cases h2
      rw [if_neg e3]
      exact h3
theorem ltQ_asym {p q : Qd} (h1 : ltQ p q = true) : ltQ q p = false := by
  cases h2 : ltQ q p with
  | false => rfl
  | true =>
    have := ltQ_trans h1 h2
    rw [ltQ_irrefl] at this
    cases this
theorem swo_q {α : Type} (k : α → Qd) : SrtO.Swo fun x y => ltQ (k x) (k y) := by
  refine ⟨fun x y h => ltQ_asym h, fun x y z h1 h2 => ?_⟩
  -- not y < x, not z < y: not z < x
  cases h3 : ltQ (k z) (k x) with
  | false => rfl
  | true =>
    by_cases e : k x = k y
    · rw [e] at h3
      have : ltQ (k z) (k y) = false := h2
      rw [this] at h3
      cases h3
    · rcases ltQ_tri e with h | h
      · have h4 : ltQ (k z) (k y) = true := ltQ_trans h3 h
        rw [h2] at h4
        cases h4
      · have : ltQ (k y) (k x) = false := h1
        rw [this] at h
        cases h
theorem perm_ltQ : ∀ {xs ys : List Qd}, xs.Perm ys → xs.Pairwise (fun a b => ltQ b a = false) → ys.Pairwise (fun a b => ltQ b a = false) → xs = ys
  | [], ys, h, _, _ => List.Perm.nil_eq h
  | x :: xs, [], h, _, _ => absurd h.length_eq (by simp)
  | x :: xs, y :: ys, h, h1, h2 => by
    have e : x = y := by
      rcases List.mem_cons.mp (h.mem_iff.mp List.mem_cons_self) with e | m1
      · exact e
      · rcases List.mem_cons.mp (h.mem_iff.mpr List.mem_cons_self) with e | m2
        · exact e.symm
        · have a1 := (List.pairwise_cons.mp h1).1 y m2
          have a2 := (List.pairwise_cons.mp h2).1 x m1
          by_cases e : x = y
          · exact e
          · rcases ltQ_tri e with h | h
            · rw [a2] at h; cases h
            · rw [a1] at h; cases h
    subst e
    rw [perm_ltQ (List.Perm.cons_inv h) (List.pairwise_cons.mp h1).2 (List.pairwise_cons.mp h2).2]
section
open PySem.SeqAt
open PySem.AutoSeq1 (wpAny_loadPart')
open PySem.MeetsSeq PySem.MeetsSeq2 PySem.MeetsSeq3
theorem eqAt_str (A : Around) (s : Shared) (a : Str) (t : Tok) (c : Str) (u : Tok) : ∃ e, SeqAt.EqAt A s (.str a t) (.str c u) e ∧ (e = true ↔ a = c) :=
  ⟨(a == c), SeqAt.EqAt.str_str a t c u, by simp⟩
theorem rcLt_str (A : Around) (s : Shared) (a : Str) (t : Tok) (c : Str) (u : Tok) (prog : Program) (w : World) (E : Value → Shared → Prop) (Q : Value → Shared → Prop) (h : Q (.bool (ltS a c)) s) :
    wpAny (model prog w) A (richCompare .Lt (.str a t) (.str c u)) Q E s := by
  have z : wpAny (model prog w) A (compareOp .Lt (.str a t) (.str c u)) Q E s := PySem.P.lt_str h
  exact z
theorem tuple_lt_texts (l b : Addr) (us vs : Array Value) (n m : Nat) (d1 d2 : Option Addr) (sl1 sl2 : Array (Option Value)) (xs ys : List Str) (hx : StrsAre us.toList xs) (hy : StrsAre vs.toList ys) :
    Meets (Builtin.«tuple.__lt__» ⟨[.ref l, .ref b], []⟩)
      (fun _ R s => s.heap.get? l = some { cls := .type "tuple", dict := d1, data := .seq us n, slots := sl1 } ∧ s.heap.get? b = some { cls := .type "tuple", dict := d2, data := .seq vs m, slots := sl2 } ∧
        R (.ok (.ret (.bool (lexS xs ys)))) s) :=
  .of_wp fun prog w A R s h => by
    obtain ⟨hp, g, d, tk, os⟩ := s; obtain ⟨hl, hb, h⟩ := h
    have f2 := AutoSeq1.sub_tuple_tuple
    have z1 : us.size = xs.length := by rw [← hx.length]; simp
    have z2 : vs.size = ys.length := by rw [← hy.length]; simp
    wp_walk using wpAny_loadPart' hl, wpAny_loadPart' hb, wpAny_forIn_list _ (fun rest b s' => b.1 = none ∧ s' = ⟨hp, g, d, tk, os⟩ ∧ ∃ (as bs : List Value) (x' y' : List Str), rest = as.zip bs ∧
      StrsAre as x' ∧ StrsAre bs y' ∧ x'.length + vs.size = y'.length + us.size ∧ R (.ok (.ret (.bool (lexS x' y')))) ⟨hp, g, d, tk, os⟩) _
    case turn =>
      rintro ⟨u, v⟩ rest b s' ⟨hb', rfl, as, bs, x', y', hz, ha, hc, hlen, hR⟩
      cases ha with
      | nil => rw [List.zip_nil_left] at hz; cases hz
      | cons a t ha' =>
        cases hc with
        | nil => rw [List.zip_nil_right] at hz; cases hz
        | cons c t2 hc' =>
          rw [List.zip_cons_cons] at hz
          injection hz with e1 hrest
          injection e1 with eu ev
          subst eu ev
          rw [lexS] at hR
          simp only [List.length_cons] at hlen
          obtain ⟨e, he, hiff⟩ := eqAt_str A.in1 ⟨hp, g, d, tk, os⟩ a t c t2
          refine wpAny_bind (he prog w _ _ ?_)
          cases e with
          | true =>
            rw [if_pos (hiff.mp rfl)] at hR
            wp_walk
            exact ⟨rfl, rfl, _, _, _, _, hrest, ha', hc', by omega, hR⟩
          | false =>
            rw [if_neg (fun q => absurd (hiff.mpr q) Bool.false_ne_true)] at hR
            have hri := rcLt_str A.in1 ⟨hp, g, d, tk, os⟩ a t c t2 prog w
            wp_walk using hri
            exact ⟨_, rfl, by simpa using hR⟩
    case fin =>
      rintro ⟨b1, b2⟩ s' ⟨hb', rfl, as, bs, x', y', hz, ha, hc, hlen, hR⟩
      simp only at hb'
      subst hb'
      have hv : lexS x' y' = decide (us.size < vs.size) := by
        cases ha with
        | nil =>
          cases hc with
          | nil =>
            simp only [List.length_nil] at hlen
            exact (decide_eq_false (by omega)).symm
          | cons c u hw =>
            simp only [List.length_nil, List.length_cons] at hlen
            exact (decide_eq_true (by omega)).symm
        | cons a t hv =>
          cases hc with
          | nil =>
            simp only [List.length_nil, List.length_cons] at hlen
            exact (decide_eq_false (by omega)).symm
          | cons c u hw =>
            rw [List.zip_cons_cons] at hz
            cases hz
      rw [hv] at hR
      wp_walk
      exact ⟨_, rfl, by simpa [Builtin.Tuple.tupleCompareSizes] using hR⟩
    case h =>
      exact ⟨rfl, rfl, us.toList, vs.toList, xs, ys, rfl, hx, hy, by omega, h⟩
theorem lt_tupTexts {prog : Program} {w : World} {A : Around} {E : Value → Shared → Prop} {s : Shared} {l b : Addr} {us vs : Array Value} {xs ys : List Str} {Q : Value → Shared → Prop} (hl : IsTup s.heap l us) (hb : IsTup s.heap b vs)
    (hx : StrsAre us.toList xs) (hy : StrsAre vs.toList ys) (hu : A.units < cLine) (h : Q (.bool (lexS xs ys)) s) : wpAny (model prog w) A (compareOp .Lt (.ref l) (.ref b)) Q E s := by
  obtain ⟨⟨c1, d1, e1, sl1⟩, ho, hc, n, hd⟩ := id hl
  obtain ⟨⟨c2, d2, e2, sl2⟩, ho2, hc2, m, hd2⟩ := id hb
  simp only at hc hd hc2 hd2
  subst hc hd hc2 hd2
  exact richCompare_meets_room (op := .Lt) ⟨_, ho, rfl⟩ ⟨_, ho2, rfl⟩ PySem.F.slot_tuple_lt PySem.F.entry_tuple_lt (PySem.F.args_tuple_lt_2 _ _) (tuple_lt_texts l b us vs n m d1 d2 sl1 sl2 xs ys hx hy)
    ⟨ho, ho2, show Value.bool (lexS xs ys) ≠ Value.notImplemented ∧ Q (.bool (lexS xs ys)) s from ⟨(fun x => nomatch x), h⟩⟩ hu
end
/-- v is a question in the heap -/
def IsQ (h : Heap) (v : Value) (q : Qd) : Prop := ∃ (a c : Addr) (o oc : Obj) (t : Tok) (us : List Value) (n m : Nat), v = .ref a ∧ h.get? a = some o ∧ o.cls = .type "tuple" ∧ o.data = .seq #[.ref c, .str q.2 t] n ∧
  h.get? c = some oc ∧ oc.cls = .type "tuple" ∧ oc.data = .seq us.toArray m ∧ StrsAre us q.1
theorem IsQ.keeps {h h' : Heap} {v : Value} {q : Qd} (x : IsQ h v q) (k : ∀ b o, h.get? b = some o → o.cls = .type "tuple" → h'.get? b = some o) : IsQ h' v q := by
  obtain ⟨a, c, o, oc, t, us, n, m, e, ho, hc, hd, hoc, hcc, hdc, hs⟩ := x
  exact ⟨a, c, o, oc, t, us, n, m, e, k _ _ ho hc, hc, hd, k _ _ hoc hcc, hcc, hdc, hs⟩
section
variable {prog : Program} {w : World} {A : Around} {E : Value → Shared → Prop} {s : Shared}
theorem reads_strs {h : Heap} : ∀ {us : List Value} {xs : List Str}, StrsAre us xs → ∃ as, ReadsAll h us (xs.map PyData.str) as
  | _, _, .nil => ⟨_, ReadsAll.nil⟩
  | _, _, .cons x t r => by
    obtain ⟨as, q⟩ := reads_strs (h := h) r
    exact ⟨_, ReadsAll.cons (Reads.str x t) q⟩
theorem q_cmp {vs : List Value} {k : Value → Qd} (hu : A.units + 64 < cLine) (hm : ∀ v ∈ vs, ∀ c ∈ (k v).1, PyData.strOk c = true) (hp : ∀ v ∈ vs, IsQ s.heap v (k v)) : SrtO.Cmp prog w A s (tuples' false) (fun p => p.1 ∈ vs) (SrtO.lt2 fun v u => ltQ (k v) (k u)) := by
  intro p q hm1 hm2
  have h1 := hp _ hm1
  have h2 := hp _ hm2
  have m1 := hm _ hm1
  have m2 := hm _ hm2
  show wpAny (model prog w) A (keyLt' (tuples' false) p.1 q.1) (fun r s' => s' = s ∧ r = ltQ (k p.1) (k q.1)) (fun _ _ => False) s
  generalize k p.1 = x at h1 m1 ⊢
  generalize k q.1 = y at h2 m2 ⊢
  obtain ⟨xc, xe⟩ := x
  obtain ⟨yc, ye⟩ := y
  obtain ⟨a, c, o, oc, t, us, n, m, e, ho, hc, hd, hoc, hcc, hdc, hs⟩ := h1
  obtain ⟨a', c', o', oc', t', us', n', m', e', ho', hc', hd', hoc', hcc', hdc', hs'⟩ := h2
  rw [e, e']
  refine PySem.W.kat_lt ho hd ho' hd' ?_
  show PySem.W.KatLex prog w A false (decide (2 < 2)) _ [(.ref c, .ref c'), (.str xe t, .str ye t')] 0 s
  obtain ⟨as, r1⟩ := reads_strs (h := s.heap) hs
  obtain ⟨bs, r2⟩ := reads_strs (h := s.heap) hs'
  have rd1 : Reads s.heap (.ref c) (.tuple (xc.map PyData.str)) as := Reads.tuple hoc hcc hdc (by simpa using r1)
  have rd2 : Reads s.heap (.ref c') (.tuple (yc.map PyData.str)) bs := Reads.tuple hoc' hcc' hdc' (by simpa using r2)
  have l1 : (PyData.tuple (xc.map PyData.str)).canLay0 = true := lay_strs m1
  have l2 : (PyData.tuple (yc.map PyData.str)).canLay0 = true := lay_strs m2
  refine PySem.W.kat_cons (SeqAt.eqBoolOverData prog w A _ s _ _ _ _ as bs _ rd1 rd2 l1 l2 ?_ ?_)
  · have : (PyData.tuple (xc.map PyData.str)).depth = 1 := by
      show PyData.depthAll _ + 1 = 1
      rw [depth_strs]
    omega
  rw [PyData.eqv, eqv_strs]
  by_cases ex : xc = yc
  · rw [decide_eq_true ex]
    refine PySem.W.kat_yes (PySem.W.kat_cons (SeqAt.EqAt.str_str xe t ye t' prog w _ _ ?_))
    by_cases ey : xe = ye
    · have e3 : ltQ (xc, xe) (yc, ye) = false := by rw [ex, ey]; exact ltQ_irrefl _
      have e4 : (xe == ye) = true := beq_iff_eq.mpr ey
      rw [e4]
      exact PySem.W.kat_yes (PySem.W.kat_nil ⟨rfl, e3.symm⟩)
    · have e3 : ltQ (xc, xe) (yc, ye) = ltS xe ye := if_pos ex
      have e4 : (xe == ye) = false := beq_eq_false_iff_ne.mpr ey
      rw [e4]
      refine PySem.W.kat_no (PySem.W.kat_one _ _ (rcLt_str A s xe t ye t' prog w _ _ ?_))
      exact (show s = s ∧ ltS xe ye = ltQ (xc, xe) (yc, ye) from ⟨rfl, e3.symm⟩)
  · rw [decide_eq_false ex]
    have e3 : ltQ (xc, xe) (yc, ye) = lexS xc yc := if_neg ex
    refine PySem.W.kat_no (PySem.W.kat_one _ _ (lt_tupTexts (us := us.toArray) (vs := us'.toArray) ⟨oc, hoc, hcc, m, hdc⟩ ⟨oc', hoc', hcc', m', hdc'⟩ (by simpa using hs) (by simpa using hs') (by omega) ?_))
    exact (show s = s ∧ lexS xc yc = ltQ (xc, xe) (yc, ye) from ⟨rfl, e3.symm⟩)
theorem q_firsts {h : Heap} : ∀ {vs : List Value} {k : Value → Qd}, (∀ v ∈ vs, IsQ h v (k v)) → ∃ fs : List Value, PySem.W.KatTups h vs fs ∧ fs.length = vs.length ∧ ∀ f ∈ fs, ∃ c oc, f = Value.ref c ∧ h.get? c = some oc ∧ oc.cls = .type "tuple"
  | [], _, _ => ⟨[], PySem.W.KatTups.nil, rfl, fun _ hm => by simp at hm⟩
  | v :: vs, k, hp => by
    obtain ⟨fs, h1, h2, h3⟩ := q_firsts (vs := vs) (k := k) fun v' hm => hp v' (List.mem_cons_of_mem _ hm)
    obtain ⟨a, c, o, oc, t, us, n, m, e, ho, hc, hd, hoc, hcc, hdc, hs⟩ := hp v List.mem_cons_self
    subst e
    refine ⟨.ref c :: fs, PySem.W.KatTups.cons ho hc hd rfl h1, by rw [List.length_cons, List.length_cons, h2], fun f hm => ?_⟩
    rcases List.mem_cons.mp hm with rfl | hm
    · exact ⟨c, oc, rfl, hoc, hcc⟩
    · exact h3 f hm
theorem q_sortable {a : Addr} {vs : List Value} {k : Value → Qd} (hu : A.units + 64 < cLine) (h0 : 0 < vs.length) (hm : ∀ v ∈ vs, ∀ c ∈ (k v).1, PyData.strOk c = true) (hp : ∀ v ∈ vs, IsQ s.heap v (k v)) (ha : ∀ o, s.heap.get? a = some o → o.cls ≠ .type "tuple") :
    SrtO.SortableO prog w A s a vs fun v u => ltQ (k v) (k u) := by
  intro h' keep
  have hp' : ∀ v ∈ vs, IsQ h' v (k v) := fun v hm => (hp v hm).keeps fun b o e c => keep b o (fun z => by subst z; exact ha o e c) e
  obtain ⟨fs, h1, h2, h3⟩ := q_firsts hp'
  refine ⟨tuples' false, fun Q E hq => ?_, q_cmp hu hm hp'⟩
  refine PySem.W.kat_kind (T := .type "tuple") h1 (by omega) (fun f hf => ?_) (by rfl) ?_
  · obtain ⟨c, oc, rfl, hoc, hcc⟩ := h3 f hf
    rw [← hcc]
    exact (PySem.W.Looks.ld hoc).andThen PySem.W.Looks.now
  · have e : (Value.type "tuple" != Value.type "tuple") = false := by first | decide +kernel | rfl | decide
    rw [e]
    exact hq
end
section
variable {X : Cx}
/-- sorted(xs) of questions: a new list of the same ones, rising -/
def rSortedQ (K : PySem.W.Frag) : List V → Hp → VK → Prop := fun vs H Q => ∃ (a : Addr) (xs : List V) (k : V → Qd), vs = [V.ref a] ∧ SqL K H a xs ∧ (∀ x ∈ xs, ∃ t, x = V.ref t ∧ QAt H t (k x).1 (k x).2 ∧ ∀ c ∈ (k x).1, PyData.strOk c = true) ∧
  ∀ ys p, ys.Perm xs → (ys.map k).Pairwise (fun a b => ltQ b a = false) → H p = none → Q (.ref p) (upd H p (.lst ys))
theorem cr_sortedQ (hu : X.A.units + 80 < cLine) : CallR X (.builtin "sorted") (rSortedQ X.K) := by
  intro pins s σ H vs us Q I r h
  obtain ⟨a, xs, k, rfl, hs, hx, q⟩ := h
  obtain ⟨its, rv, hl, hz⟩ := I.list hs
  obtain ⟨u, rfl, ru⟩ := vals1 r
  obtain rfl : u = Value.ref a := ru
  obtain ⟨e1, e2⟩ := refs_back rv fun x m => by
    obtain ⟨t, e, _⟩ := hx x m
    exact ⟨t, e⟩
  have isq : ∀ v ∈ its, IsQ s.heap v (k (backV v)) ∧ ∀ c ∈ (k (backV v)).1, PyData.strOk c = true := fun v hv => by
    obtain ⟨t, rfl⟩ := e2 v hv
    have hmem : V.ref t ∈ xs := by rw [e1]; exact List.mem_map.mpr ⟨_, hv, rfl⟩
    obtain ⟨t', e, ⟨c, g1, g2⟩, g3⟩ := hx _ hmem
    cases e
    obtain ⟨_, i1, r1, o, ho, hc, n, hd⟩ := I.hok _ _ g1
    obtain ⟨_, i2, r2, oc, hoc, hcc, m, hdc⟩ := I.hok _ _ g2
    obtain ⟨u1, u2, rfl, ra, rb⟩ := vals2 r1
    obtain rfl : u1 = Value.ref c := ra
    obtain ⟨tk, rfl⟩ := rb
    exact ⟨⟨t, c, o, oc, tk, i2, n, m, rfl, ho, hc, hd, hoc, hcc, hdc, r2.strs⟩, g3⟩
  refine SrtO.sorted_ord (swo_q fun u => k (backV u)) hl.isList (by rw [← rv.length]; exact hz) (fun h2 h₁ b hb kk => ?_) fun out h1 h2 => ?_
  · refine q_sortable (s := { s with heap := h₁ }) (by show X.A.units + 1 + 1 + 64 < cLine; omega) (by omega) (fun v hv => (isq v hv).2) (fun v hv => (isq v hv).1.keeps fun c o e _ => (kk c o e).2) fun o e => ?_
    have e' : some o = some (seqObj "list" its.toArray 0) := e.symm.trans hb
    cases e'
    intro c
    exact absurd (Value.type.inj c) (by decide)
  · have h3 : ∀ u ∈ out, ∃ a, u = Value.ref a := fun u hu => e2 u (h2.perm.mem_iff.mp hu)
    obtain ⟨n, hn⟩ := sortedAll_at s.heap its out.toArray
    have hperm : (out.map backV).Perm xs := by
      rw [e1]
      exact h2.perm.map backV
    have hsrt : ((out.map backV).map k).Pairwise (fun a b => ltQ b a = false) := by
      rw [List.map_map]
      exact List.pairwise_map.mpr h1
    refine ⟨.ref (s.heap.objs.size + 1), upd H (s.heap.objs.size + 1) (.lst (out.map backV)), I.laid (t' := s.toks) (fun b o e => sortedAll_old e) (Nat.le_succ _) ⟨?_, out, n, vals_back h3, hn⟩, rfl, q _ _ hperm hsrt (I.hok.fresh (Nat.le_succ _))⟩
    rw [hperm.length_eq]
    exact hz
end
end Qk
set_option maxRecDepth 100000
set_option maxHeartbeats 4000000
namespace Qk
open PySem PySem.Spec PyProof.Rows L2 PySem.W
set_option maxHeartbeats 1000000 in
theorem meets_enum1 {v : Value} {o : Obj} {H : Heap → Prop} (B : Begins v o H) :
    Meets (Builtin.«enumerate.__new__» ⟨[.type "enumerate", v], []⟩) (fun _ R s => H s.heap ∧
      R (.ok (.ret (.ref (s.heap.push o).objs.size))) { s with heap := (s.heap.push o).push { cls := .type "enumerate", data := .fields #[.none, .bool false, .ref s.heap.objs.size, rawInt 0, .none, .none] } }) :=
  .of_wp fun prog w A R s h => by
    obtain ⟨hp, g, d, tk, os⟩ := s
    obtain ⟨h1, h⟩ := h
    have hsub := sub_enumerate
    have q1 : ∀ {A' : Around} {E : Value → Shared → Prop} {Q : Value → Shared → Prop}, Q (.ref hp.objs.size) ⟨hp.push o, g, d, tk, os⟩ → wpAny (model prog w) A' (pyIter v) Q E ⟨hp, g, d, tk, os⟩ :=
      fun q => B.iter prog w _ _ ⟨hp, g, d, tk, os⟩ _ h1 q
    wp_walk using q1
    refine wpAny_stack_any fun st => wpAny_pure ?_
    split
    · rename_i c _ _ _ _ _
      cases (c == Value.type "enumerate")
      · wp_walk using q1
        exact ⟨_, rfl, h⟩
      · wp_walk using q1
        exact ⟨_, rfl, h⟩
    · wp_walk using q1
      exact ⟨_, rfl, h⟩
theorem call_enum1 {prog : Program} {w : World} {A : Around} {E : Value → Shared → Prop} {s : Shared} {v : Value} {o : Obj} {H : Heap → Prop} {Q : Value → Shared → Prop} (B : Begins v o H) (h1 : H s.heap)
    (h : ∀ h', IsEnum h' (s.heap.objs.size + 1) s.heap.objs.size 0 .none → h'.get? s.heap.objs.size = some o → (∀ b o, s.heap.get? b = some o → h'.get? b = some o) → Q (.ref (s.heap.objs.size + 1)) { s with heap := h' }) :
    wpAny (model prog w) A (call (.type "enumerate") [v]) Q E s := by
  refine callType_new F.called_enumerate (by decide) (F.typeCall_enumerate_1 _) (F.newCall_enumerate_1 _) (fun obj => F.args_object_init_2 obj _) F.entry_enumerate_new (meets_enum1 B) ⟨h1, ?_⟩
  have hz : (s.heap.push o).objs.size = s.heap.objs.size + 1 := Heap.size_push ..
  show _ ∧ _
  rw [hz]
  have he : IsEnum ((s.heap.push o).push { cls := .type "enumerate", data := .fields #[.none, .bool false, .ref s.heap.objs.size, rawInt 0, .none, .none] }) (s.heap.objs.size + 1) s.heap.objs.size 0 .none := by
    have q := Heap.get?_push_size (s.heap.push o) (o := { cls := .type "enumerate", data := .fields #[.none, .bool false, .ref s.heap.objs.size, rawInt 0, .none, .none] }) rfl
    rw [hz] at q
    exact q
  exact ⟨⟨_, he, rfl⟩, h _ he (Heap.get?_push_of_some _ (Heap.get?_push_size _ B.free)) fun b u x => Heap.get?_push_of_some _ (Heap.get?_push_of_some _ x)⟩
/-- the tuple at a, each item in a new pair -/
def IteT (K : PySem.W.Frag) (a : Addr) : It :=
  ⟨fun i H => ∃ (xs : List V) (x : V), SqT K H a xs ∧ xs[i]? = some x, fun i H v H' => ∃ T x, v = .ref T ∧ H T = none ∧ H' = upd H T (.tup [.int (i : Nat), x]) ∧ ∀ xs, SqT K H a xs → xs[i]? = some x, fun i H => ∃ xs : List V, SqT K H a xs ∧ xs.length = i⟩
theorem turn_enumT {P : Program} {w : World} {K : PySem.W.Frag} {elts : List Expr} {kk : Nat} {tpos : Pos} (a e it : Addr) :
    Turn P w K (.Tuple elts kk tpos) (IteT K a) [e, it] e (fun i h => (∃ old, IsEnum h e it ((i : Nat) : Int) old) ∧ h.IsTupleIter it a i ∧ e ≠ it ∧ a ≠ it ∧ a ≠ e) where
  mem := by simp
  obj := fun i h st b hb => by
    obtain ⟨⟨old, he⟩, ⟨o, ho, hc, hd⟩, _⟩ := st
    have e' : b = e ∨ b = it := by simpa using hb
    rcases e' with z | z
    · rw [z]; exact ⟨_, he, fun v q => nomatch q⟩
    · rw [z]; exact ⟨o, ho, fun v q => by rw [hd] at q; cases q⟩
  keep := fun i h h' st k => let ⟨⟨old, he⟩, hi, hne⟩ := st; ⟨⟨old, k e (by simp) _ he⟩, hi.at fun o q => k it (by simp) o q, hne⟩
  item := by
    intro X hP hw hK hc i pins s σ H E I hf st hg
    subst hP hw hK
    obtain ⟨⟨old, he⟩, hit, hne, hai, hae⟩ := st
    obtain ⟨xs, x, hq, hx⟩ := hg
    obtain ⟨its, rv, p, hz⟩ := I.tuple hq
    obtain ⟨u, hu, ru⟩ := rv.get hx
    have hel : e < s.heap.objs.size := Heap.lt_size he
    have hil : it < s.heap.objs.size := by obtain ⟨_, q, _⟩ := hit; exact Heap.lt_size q
    have hT0 : s.heap.IsTuple a its.toArray := p
    have hlt : i < its.toArray.size := by
      have := (List.getElem?_eq_some_iff.mp hu).1
      simpa using this
    refine wpAny_pyNext_enum_itemD (Draws.tuple (A := X.A.in1) (I.ok.hd hc) it a hai its.toArray) he ⟨hit, hT0⟩ hlt hne (by simp [Ne.symm hae, hne]) fun y h' tk hy ho hst hT hsz hk => ?_
    have hyu : y = u := by
      have h1 : its.toArray[i]? = some y := hy
      rw [List.getElem?_toArray, hu] at h1
      exact (Option.some.inj h1).symm
    subst hyu
    obtain ⟨hit', _⟩ := hst
    refine ⟨_, rfl, wpAny_letOwnedTupleGo_enum (s := { s with heap := h', toks := tk + 1 }) ho fun h'' he' sb => ?_⟩
    have hT2 : h''.get? s.heap.objs.size = some { cls := .type "tuple", data := .seq #[.int i tk, y] } := (sb.2 _ (Nat.ne_of_gt hel)).trans hT
    have new : ObjOk X.prog X.w (upd H s.heap.objs.size (.tup [.int (i : Nat), x])) h'' s.heap.objs.size (.tup [.int (i : Nat), x]) :=
      ⟨by show 2 ≤ sizeLine; decide, [.int i tk, y], .cons ⟨_, rfl⟩ (.cons ru .nil), ⟨_, hT2, rfl, _, rfl⟩⟩
    have I1 : Inv X pins σ (upd H s.heap.objs.size (.tup [.int (i : Nat), x])) { s with heap := h'', toks := tk + 1 } :=
      I.turnedNew (ch := [e, it]) (fun b ob hb q => (sb.2 b (fun z => hb (by simp [z]))).trans (hk b ob (fun z => hb (by simp [z])) (fun z => hb (by simp [z])) q)) hf (Nat.le_refl _) new
    refine ⟨.ref s.heap.objs.size, _, I1, rfl, ⟨_, x, rfl, I.hok.fresh (Nat.le_refl _), rfl, fun ys hy => by rw [I.tuple_inj hy hq]; exact hx⟩, ⟨⟨y, ?_⟩, hit'.at fun o q => (sb.2 it (Ne.symm hne)).trans q, hne, hai, hae⟩, fun b hb => ?_⟩
    · have e1 : ((i + 1 : Nat) : Int) = (i : Int) + 1 := by omega
      rw [e1]; exact he'
    · have hb' : b < s.heap.objs.size := by
        have e' : b = e ∨ b = it := by simpa using hb
        rcases e' with z | z
        · rw [z]; exact hel
        · rw [z]; exact hil
      rw [upd_ne (Nat.ne_of_lt hb')]
      exact (hf b hb).1
  done := by
    intro X hP hw hK hc i pins s σ H E I hf st hg
    subst hP hw hK
    obtain ⟨⟨old, he⟩, hit, hne, hai, hae⟩ := st
    obtain ⟨xs, hq, hx⟩ := hg
    obtain ⟨its, rv, p, hz⟩ := I.tuple hq
    obtain ⟨f0, f1, f2, f3, f4, f5⟩ := hf it (by simp)
    have hT0 : s.heap.IsTuple a its.toArray := p
    have hi : i = its.toArray.size := by
      rw [List.size_toArray, ← rv.length]
      exact hx.symm
    subst hi
    exact wpAny_pyNext_enum_endD (Draws.tuple (A := X.A.in1) (I.ok.hd hc) it a hai its.toArray) he ⟨hit, hT0⟩ fun h' eb => ⟨rfl, I.turned (t' := s.toks) (fun b o hb q => eb b o hb q) f0 f1 f3 f4 f5⟩
  self := fun A i s Q E st h => let ⟨⟨_, he⟩, _⟩ := st; wpAny_pyIter_enum he h
def iEnumT (K : PySem.W.Frag) (ta : TA) : TI := fun σ H R => ta σ H fun vs H1 => ∃ a xs, vs = [.ref a] ∧ SqT K H1 a xs ∧ R (IteT K a) H1
theorem pi_enumT {X : Cx} {e : Expr} {ta : TA} {p pos tpos : Pos} {elts : List Expr} {kk : Nat} (hg : Gl X "enumerate") (hm : X.mg "enumerate" = none) (ha : PA X [e] ta) (hs : starEach [e] X.env = [(false, eval e X.env)] := by rfl) :
    PI X (.Tuple elts kk tpos) (.Call (.Name "enumerate" p) [e] [] pos) (iEnumT X.K ta) := by
  refine ⟨fun pins s σ H R I h => ?_⟩
  refine Call_ (ld_blt I hg hm boot_enumerate (PyProof.Rows.callWith_type1 (thn (ha.run pos pins s σ H _ I h) fun us s1 ⟨vs, H1, I1, r1, q1⟩ => ?_) hs rfl))
  obtain ⟨a, xs, ex, hq, q⟩ := q1
  subst ex
  cases r1 with
  | cons r rr =>
    cases rr
    cases r
    obtain ⟨its, rv, p', hz⟩ := I1.tuple hq
    have al : a < s1.heap.objs.size := p'.lt
    refine call_enum1 (begins_tuple a its.toArray) p' fun h' he hit hk => wpAny_pyIter_enum he ?_
    have I2 : Inv X pins σ H1 { s1 with heap := h' } := I1.kept (t' := s1.toks) hk
    refine ⟨s1.heap.objs.size + 1, [s1.heap.objs.size + 1, s1.heap.objs.size], _, _, H1, rfl, I2, turn_enumT a (s1.heap.objs.size + 1) s1.heap.objs.size, ⟨⟨.none, he⟩, ⟨_, hit, rfl, rfl⟩, Nat.succ_ne_self _, Nat.ne_of_lt al, Nat.ne_of_lt (Nat.lt_succ_of_lt al)⟩, fun b hb => ?_, q⟩
    have e' : b = s1.heap.objs.size + 1 ∨ b = s1.heap.objs.size := by simpa using hb
    have hle : s1.heap.objs.size ≤ b := by
      rcases e' with z | z
      · rw [z]; exact Nat.le_add_right _ _
      · rw [z]; exact Nat.le_refl _
    exact I1.fpOk hle (I1.hok.fresh hle)
/-- for i, x in enumerate(t): a word of the turn, the slots, the heap -/
theorem for_enumT {K : PySem.W.Frag} {a : Addr} {xs : List V} {g : TG} {tb : TS} {D : Ends} {σ : L2.St} {H : Hp} (Pv : Nat → L2.St → Hp → Prop) (h0 : Pv 0 σ H) (hl : ∀ i σ H, i ≤ xs.length → Pv i σ H → SqT K H a xs)
    (hs : ∀ i x σ H, xs[i]? = some x → Pv i σ H → ∀ T, H T = none → g (.ref T) σ (upd H T (.tup [.int (i : Nat), x])) fun σ2 H2 => tb { D with nx := Pv (i + 1), ct := Pv (i + 1), bk := D.nx } σ2 H2) (hd : ∀ σ H, Pv xs.length σ H → D.nx σ H) :
    ∃ W : Nat → Nat → L2.St → Hp → Prop, (∃ m, W 0 m σ H) ∧ ∀ i m σ H, W i m σ H →
      ((IteT K a).stop i H ∧ D.nx σ H) ∨ ((IteT K a).go i H ∧ ∃ N : L2.St → Hp → Prop, (∀ σ' H', N σ' H' → ∃ m', m' < m ∧ W (i + 1) m' σ' H') ∧ ∀ x H', (IteT K a).yld i H x H' → g x σ H' fun σ2 H2 => tb { D with nx := N, ct := N, bk := D.nx } σ2 H2) := by
  refine ⟨fun i m σ H => m = xs.length - i ∧ i ≤ xs.length ∧ Pv i σ H, ⟨xs.length, by simp, Nat.zero_le _, h0⟩, ?_⟩
  rintro i m σ H ⟨rfl, hi, p⟩
  have q := hl i σ H hi p
  rcases Nat.lt_or_ge i xs.length with hlt | hge
  · have hx : xs[i]? = some xs[i] := List.getElem?_eq_getElem hlt
    refine .inr ⟨⟨xs, xs[i], q, hx⟩, Pv (i + 1), fun σ' H' p' => ⟨xs.length - (i + 1), by omega, rfl, hlt, p'⟩, fun x H' y => ?_⟩
    obtain ⟨T, z, rfl, hT, rfl, hz⟩ := y
    have e := hz xs q
    exact hs i z σ H e p T hT
  · have e : i = xs.length := by omega
    subst e
    exact .inl ⟨⟨xs, q, rfl⟩, hd σ H p⟩
end Qk
set_option maxRecDepth 100000
set_option maxHeartbeats 4000000
namespace Qk
open PySem PySem.Spec PyProof.Rows L2
instance (a b : Str) : Decidable (leS a b) := by unfold leS; infer_instance
def srt (xs : List Str) : List Str := xs.mergeSort (fun a b => decide (leS a b))
theorem leS_total (a b : Str) : leS a b ∨ leS b a := by
  unfold leS
  rw [ltCps_eq, ltCps_eq]
  by_cases h : b.cps.toList < a.cps.toList
  · right
    refine decide_eq_false fun h2 => List.lt_irrefl _ (List.lt_trans h h2)
  · left
    exact decide_eq_false h
theorem srt_perm (xs : List Str) : (srt xs).Perm xs := List.mergeSort_perm _ _
theorem srt_pw (xs : List Str) : (srt xs).Pairwise leS := by
  have h := List.pairwise_mergeSort (le := fun a b => decide (leS a b)) (fun a b c h1 h2 => decide_eq_true (leS_trans (of_decide_eq_true h1) (of_decide_eq_true h2)))
    (fun a b => by
      rcases leS_total a b with h | h
      · simp [h]
      · simp [h]) xs
  exact h.imp fun h => of_decide_eq_true h
theorem srt_eq {ws xs : List Str} (h : ws.Perm xs) (hs : sortedS ws = true) : ws = srt xs := perm_sorted (h.trans (srt_perm xs).symm) (sortedS_pw hs) (srt_pw xs)
theorem srt_len (xs : List Str) : (srt xs).length = xs.length := (srt_perm xs).length_eq
def qPair (ix : List Str) (j : Nat) : List Qd := [(srt (ix.take j), ix.getD j ""), (srt (ix.take (j + 1)), "")]
def allQ (ix : List Str) (n : Nat) : List Qd := (List.range n).flatMap (qPair ix)
theorem allQ_succ (ix : List Str) (n : Nat) : allQ ix (n + 1) = allQ ix n ++ qPair ix n := by
  unfold allQ
  rw [List.range_succ, List.flatMap_append]
  simp
theorem allQ_len (ix : List Str) : ∀ n, (allQ ix n).length = 2 * n
  | 0 => rfl
  | n + 1 => by
    rw [allQ_succ, List.length_append, allQ_len ix n]
    show 2 * n + 2 = _
    omega
theorem mem_allQ {ix : List Str} {n : Nat} {q : Qd} : q ∈ allQ ix n ↔ ∃ j, j < n ∧ (q = (srt (ix.take j), ix.getD j "") ∨ q = ((srt (ix.take (j + 1)), ("" : Str)) : Qd)) := by
  unfold allQ
  rw [List.mem_flatMap]
  constructor
  · rintro ⟨j, hj, h⟩
    refine ⟨j, List.mem_range.mp hj, ?_⟩
    simpa [qPair] using h
  · rintro ⟨j, hj, h⟩
    refine ⟨j, List.mem_range.mpr hj, ?_⟩
    simpa [qPair] using h
def QL (H : Hp) (xs : List V) (qs : List Qd) : Prop := Paired (fun (x : V) (q : Qd) => ∃ t, x = .ref t ∧ QAt H t q.1 q.2) xs qs
theorem QL.len {H : Hp} {xs : List V} {qs : List Qd} (h : QL H xs qs) : xs.length = qs.length := Paired.length h
theorem QL.same {H H' : Hp} {xs : List V} {qs : List Qd} (s : Same H H') (h : QL H xs qs) : QL H' xs qs := Paired.mapP h fun x q ⟨t, e, z⟩ => ⟨t, e, z.same s⟩
theorem QL.kp {H H' : Hp} {b l : Addr} {xs : List V} {qs : List Qd} (B : Bag H b l) (s : Kp b H H') (h : QL H xs qs) : QL H' xs qs := Paired.mapP h fun x q ⟨t, e, z⟩ => ⟨t, e, z.kp B s⟩
theorem paired_app {α β : Type} {F : α → β → Prop} : ∀ {xs xs' : List α} {ys ys' : List β}, Paired F xs ys → Paired F xs' ys' → Paired F (xs ++ xs') (ys ++ ys')
  | _, _, _, _, .nil, h => h
  | _, _, _, _, .cons r t, h => .cons r (paired_app t h)
theorem QAt.uniq {H : Hp} {t : Addr} {c1 c2 : List Str} {e1 e2 : Str} (h1 : QAt H t c1 e1) (h2 : QAt H t c2 e2) : (c1, e1) = (c2, e2) := by
  obtain ⟨a, x1, x2⟩ := h1
  obtain ⟨b, y1, y2⟩ := h2
  rw [x1] at y1
  injection y1 with y1
  injection y1 with y1
  injection y1 with y1 y3
  injection y3 with y3 _
  injection y1 with y1
  injection y3 with y3
  subst y1
  rw [x2] at y2
  injection y2 with y2
  injection y2 with y2
  have : c1 = c2 := by
    have inj : ∀ {l m : List Str}, l.map V.str = m.map V.str → l = m := fun {l m} h => by
      induction l generalizing m with
      | nil => cases m with
        | nil => rfl
        | cons _ _ => cases h
      | cons x l ih => cases m with
        | nil => cases h
        | cons y m =>
          rw [List.map_cons, List.map_cons] at h
          injection h with h h'
          injection h with h
          rw [h, ih h']
    exact inj y2
  rw [this, y3]
open Classical in
noncomputable def keyQ (H : Hp) (x : V) : Qd := if h : ∃ q : Qd, ∃ t, x = .ref t ∧ QAt H t q.1 q.2 then h.choose else ([], "")
theorem keyQ_at {H : Hp} {t : Addr} {q : Qd} (h : QAt H t q.1 q.2) : keyQ H (.ref t) = q := by
  have ex : ∃ q : Qd, ∃ t', V.ref t = .ref t' ∧ QAt H t' q.1 q.2 := ⟨q, t, rfl, h⟩
  unfold keyQ
  rw [dif_pos ex]
  obtain ⟨t', e, z⟩ := ex.choose_spec
  injection e with e
  subst e
  exact z.uniq h
theorem QL.keys {H : Hp} : ∀ {xs : List V} {qs : List Qd}, QL H xs qs → xs.map (keyQ H) = qs
  | _, _, .nil => rfl
  | _, _, .cons ⟨t, e, z⟩ r => by
    subst e
    rw [List.map_cons, keyQ_at z, QL.keys r]
theorem QL.of_keys {H : Hp} : ∀ {xs : List V}, (∀ x ∈ xs, ∃ (t : Addr) (q : Qd), x = V.ref t ∧ QAt H t q.1 q.2) → QL H xs (xs.map (keyQ H))
  | [], _ => .nil
  | x :: xs, h => by
    obtain ⟨t, q, e, z⟩ := h x List.mem_cons_self
    subst e
    rw [List.map_cons, keyQ_at z]
    exact .cons ⟨t, rfl, z⟩ (QL.of_keys fun y hy => h y (List.mem_cons_of_mem _ hy))
theorem QL.mem {H : Hp} : ∀ {xs : List V} {qs : List Qd}, QL H xs qs → ∀ x ∈ xs, ∃ (t : Addr) (q : Qd), x = V.ref t ∧ QAt H t q.1 q.2 ∧ q ∈ qs
  | _, _, .nil, x, hx => by cases hx
  | _, _, .cons ⟨t, e, z⟩ r, x, hx => by
    rcases List.mem_cons.mp hx with rfl | hx
    · exact ⟨t, _, e, z, List.mem_cons_self⟩
    · obtain ⟨t', q', a, b, c⟩ := QL.mem r x hx
      exact ⟨t', q', a, b, List.mem_cons_of_mem _ c⟩
/-- no question stands behind a greater one -/
def rising (qs : List Qd) : Prop := qs.Pairwise (fun a b => ltQ b a = false)
def rSortedQL (K : PySem.W.Frag) : List V → Hp → VK → Prop := fun vs H Q => ∃ (a : Addr) (xs : List V) (qs : List Qd), vs = [V.ref a] ∧ SqL K H a xs ∧ QL H xs qs ∧ (∀ q ∈ qs, ∀ c ∈ q.1, PyData.strOk c = true) ∧
  ∀ (ys : List V) (rs : List Qd) (p : Addr), QL H ys rs → rs.Perm qs → rising rs → H p = none → Q (.ref p) (upd H p (.lst ys))
theorem cr_sortedQL {X : Cx} (hu : X.A.units + 80 < cLine) : CallR X (.builtin "sorted") (rSortedQL X.K) := by
  intro pins s σ H vs us Q I r h
  obtain ⟨a, xs, qs, rfl, hs, hq, hok, q⟩ := h
  refine cr_sortedQ hu pins s σ H _ us Q I r ⟨a, xs, keyQ H, rfl, hs, fun x hx => ?_, fun ys p hp hr hn => ?_⟩
  · obtain ⟨t, z, e, at_, hm⟩ := hq.mem x hx
    subst e
    rw [keyQ_at at_]
    exact ⟨t, rfl, at_, hok z hm⟩
  · refine q ys (ys.map (keyQ H)) p (QL.of_keys fun y hy => ?_) ?_ hr hn
    · obtain ⟨t, z, e, at_, _⟩ := hq.mem y (hp.mem_iff.mp hy)
      exact ⟨t, z, e, at_⟩
    · rw [← hq.keys]
      exact hp.map _
def dq (q : Qd) : PyData := dQ q.1 q.2
theorem QL.dp {K : PySem.W.Frag} {H : Hp} : ∀ {xs : List V} {qs : List Qd}, QL H xs qs → DpAll K H xs (qs.map dq)
  | _, _, .nil => .nil
  | _, _, .cons ⟨t, e, z⟩ r => by
    subst e
    exact .cons (dp_q z) (QL.dp r)
structure Qfine (q : Qd) : Prop where
  c : ∀ c ∈ q.1, okS c = true
  e : okS q.2 = true
  l : q.1.length ≤ 12
theorem okS_empty : okS "" = true := by decide +kernel
theorem fine_q {q : Qd} (h : Qfine q) : fine (dq q) = true := by
  show (fine (.tuple (q.1.map PyData.str)) && (fine (.str q.2) && true)) = true
  rw [Bool.and_true, Bool.and_eq_true]
  exact ⟨fine_strs h.c, h.e⟩
theorem cost_q {q : Qd} (h : Qfine q) : cost (dq q) ≤ 3000 := by
  have hl := h.l
  show costAll (q.1.map PyData.str) + 3 + 2 + (210 + 2 + 0) + 3 ≤ 3000
  rw [cost_strs]
  omega
theorem depth_q (q : Qd) : (dq q).depth = 2 := by
  show max (PyData.depthAll (q.1.map PyData.str) + 1) (max 0 0) + 1 = 2
  rw [depth_strs]
  rfl
theorem fine_qs : ∀ {qs : List Qd}, (∀ q ∈ qs, Qfine q) → fineAll (qs.map dq) = true
  | [], _ => rfl
  | q :: qs, h => by
    show (fine (dq q) && fineAll (qs.map dq)) = true
    rw [fine_qs fun q hq => h q (List.mem_cons_of_mem _ hq), Bool.and_true]
    exact fine_q (h q List.mem_cons_self)
theorem cost_qs : ∀ {qs : List Qd}, (∀ q ∈ qs, Qfine q) → costAll (qs.map dq) ≤ 3002 * qs.length
  | [], _ => Nat.le_refl 0
  | q :: qs, h => by
    have h1 := cost_q (h q List.mem_cons_self)
    have h2 := cost_qs fun q hq => h q (List.mem_cons_of_mem _ hq)
    show cost (dq q) + 2 + costAll (qs.map dq) ≤ _
    rw [List.length_cons]
    omega
theorem depth_qs : ∀ (qs : List Qd), PyData.depthAll (qs.map dq) ≤ 2
  | [] => Nat.zero_le _
  | q :: qs => by
    show max (dq q).depth (PyData.depthAll (qs.map dq)) ≤ 2
    rw [depth_q]
    exact Nat.max_le.mpr ⟨Nat.le_refl 2, depth_qs qs⟩
theorem dok_q {q : Qd} (h : Qfine q) : DOk (dq q) := ⟨fine_q h, by rw [depth_q]; decide, Nat.le_trans (cost_q h) (by decide)⟩
theorem eqv_q (p q : Qd) : PyData.eqv (dq p) (dq q) = decide (p = q) := by
  show PyData.eqv (.tuple [.tuple (p.1.map PyData.str), .str p.2]) (.tuple [.tuple (q.1.map PyData.str), .str q.2]) = _
  have e0 : PyData.eqv (.tuple (p.1.map PyData.str)) (.tuple (q.1.map PyData.str)) = decide (p.1 = q.1) := by rw [PyData.eqv, eqv_strs]
  rw [PyData.eqv, PyData.eqvAll, PyData.eqvAll, PyData.eqvAll, e0, PyData.eqv, Bool.and_true]
  by_cases h1 : p.1 = q.1
  · by_cases h2 : p.2 = q.2
    · rw [decide_eq_true h1, decide_eq_true (Prod.ext h1 h2), h2, beq_self_eq_true]
      rfl
    · rw [decide_eq_true h1, decide_eq_false (fun e => h2 (by rw [e]))]
      rw [beq_eq_false_iff_ne.mpr h2]
      rfl
  · rw [decide_eq_false h1, decide_eq_false (fun e => h1 (by rw [e]))]
    rfl
theorem any_q (q : Qd) (qs : List Qd) : ((qs.map dq).any fun z => PyData.eqv z (dq q)) = decide (q ∈ qs) := by
  rw [List.any_map]
  by_cases h : q ∈ qs
  · rw [decide_eq_true h]
    exact List.any_eq_true.mpr ⟨q, h, by show PyData.eqv (dq q) (dq q) = true; rw [eqv_q]; exact decide_eq_true rfl⟩
  · rw [decide_eq_false h]
    refine List.any_eq_false.mpr fun y hy e => h ?_
    have e' : PyData.eqv (dq y) (dq q) = true := e
    rw [eqv_q] at e'
    rw [← of_decide_eq_true e']
    exact hy
theorem allQ_fine {ix : List Str} (R : Row ix) {n : Nat} (hn : n ≤ ix.length) : ∀ q ∈ allQ ix n, Qfine q := by
  intro q hq
  obtain ⟨j, hj, h | h⟩ := mem_allQ.mp hq
  · subst h
    refine ⟨fun c hc => menu_okS _ (R.sub _ ((List.take_sublist _ _).mem ((srt_perm _).mem_iff.mp hc))), ?_, by show (srt _).length ≤ 12; rw [srt_len, List.length_take]; have := R.le; omega⟩
    show okS (ix.getD j "") = true
    rw [List.getD_eq_getElem?_getD, List.getElem?_eq_getElem (show j < ix.length by omega)]
    exact menu_okS _ (R.sub _ (List.getElem_mem _))
  · subst h
    exact ⟨fun c hc => menu_okS _ (R.sub _ ((List.take_sublist _ _).mem ((srt_perm _).mem_iff.mp hc))), okS_empty, by show (srt _).length ≤ 12; rw [srt_len, List.length_take]; have := R.le; omega⟩
theorem okS_strOk {c : Str} (h : okS c = true) : PyData.strOk c = true := by
  unfold okS at h
  rw [Bool.and_eq_true] at h
  exact h.1
theorem QM.fine {cols : List Str} {e : Str} (h : QM cols e) : Qfine (cols, e) :=
  ⟨fun c hc => menu_okS _ (h.sub c hc), by rcases h.esub with z | z
                                           · show okS e = true
                                             rw [z]
                                             exact okS_empty
                                           · exact menu_okS _ z, h.le⟩
def spQof : Sp := fun vs H Q _ => ∃ (t : Addr) (ix : List Str), vs = [.ref t] ∧ H t = some (.tup (ix.map V.str)) ∧ Row ix ∧
  ∀ (ys : List V) (rs : List Qd) (p : Addr) (H' : Hp), Same H H' → H p = none → H' p = some (.lst ys) → QL H' ys rs → rs.Perm (allQ ix ix.length) → rising rs → Q (.ref p) H'
def spServedBy : Sp := fun vs H Q _ => ∃ (t : Addr) (ix : List Str), vs = [.ref t] ∧ H t = some (.tup (ix.map V.str)) ∧ Row ix ∧
  ∀ (ys : List V) (p : Addr) (H' : Hp), Same H H' → H p = none → H' p = some (.lst ys) → QL H' ys (allQ ix ix.length) → Q (.ref p) H'
end Qk
set_option maxRecDepth 100000
set_option maxHeartbeats 4000000
namespace Qk
open PySem PySem.Spec PyProof.Rows L2
def SetX (P : Program) (w : World) (a : Addr) (S : Str → Bool) (n : Nat) : HO := .ext fun h => TSet P w h a S n
theorem setX_new {P : Program} {w : World} {H : Hp} {h : Heap} {a : Addr} {S : Str → Bool} {n : Nat} (R : TSet P w h a S n) : ObjOk P w H h a (SetX P w a S n) := by
  have ⟨o, _, _, _, ho, _⟩ := R
  exact ⟨R, ⟨o, ho⟩, fun h1 h2 p k => TSet.keep p fun u e => k u e⟩
end Qk
set_option maxRecDepth 100000
set_option maxHeartbeats 4000000
namespace Qk
open PySem PySem.Spec PyProof.Rows L2
section
variable {P : Program} {w : World} {A : Around} {R : Result → Shared → Prop} {I : Addr} {fp wr : List Addr} {G : Array GenState → Array GenState → Prop} {n : Nat} {Pv : Nat → Value → Prop} {St : Nat → Shared → Prop}
/-- what stands after i turns -/
def Fill (P : Program) (w : World) (xs : List Str) (S : Addr) (i : Nat) (h : Heap) : Prop := ∃ j, TSet P w h S (fun z => decide (z ∈ xs.take i)) j ∧ j ≤ i ∧ (xs.Nodup → j = i) ∧ (j = i → (xs.take i).Nodup)
theorem fill_loop (W : WalksS P w A.in1 I fp wr G n Pv St) (S : Addr) (hSf : S ∉ fp) (xs : List Str) (hsz : xs.length = n) (hn1 : n ≤ 1000) (hval : ∀ i v, Pv i v → ∃ t, v = .str (xs.getD i Str.empty) t) :
    ∀ (k i : Nat) (s : Shared), n - i = k → i ≤ n → St i s → Fill P w xs S i s.heap → (∀ s', Moved (S :: wr) G s s' → Fill P w xs S n s'.heap → R (.ok (.ret .none)) s') →
      codeAny (model P w) A (.builtin "set.update.loop" ⟨[.ref S, .ref I], []⟩) R s := by
  have hSw : S ∉ wr := fun h => hSf (W.sub _ h)
  have hsub : ∀ b ∈ wr, b ∈ S :: wr := fun b hb => List.mem_cons_of_mem _ hb
  have same : ∀ {s s' : Shared} {i : Nat}, Moved wr G s s' → Fill P w xs S i s.heap → Fill P w xs S i s'.heap := fun hm ⟨j, g, q⟩ => ⟨j, g.keep fun u e => hm.heap S _ hSw e, q⟩
  intro k
  induction k with
  | zero =>
    intro i s hk hi hst hS hR
    obtain rfl : i = n := by omega
    refine codeAny_builtin PyProof.Rows.F.entry_set_update_loop ?_
    rw [Around.under_plainId PyProof.Rows.F.plain_set_update_loop _]
    exact wpAny_bind (m := pyNext (.ref I)) (W.done s _ _ hst fun s' hm => wpAny_pure (hR s' (hm.mono hsub) (same hm hS)))
  | succ k ih =>
    intro i s hk hi hst hS hR
    have hlt : i < n := by omega
    refine codeAny_builtin PyProof.Rows.F.entry_set_update_loop ?_
    rw [Around.under_plainId PyProof.Rows.F.plain_set_update_loop _]
    refine wpAny_bind (m := pyNext (.ref I)) (W.item i s _ _ hlt hst fun v s' hP hst' hm => ?_)
    obtain ⟨t, rfl⟩ := hval i v hP
    obtain ⟨j, g, hj, hnd, hdn⟩ := same hm hS
    show wpAny _ A.in1 (holding [Value.str (xs.getD i Str.empty) t] (setAdd S (.str (xs.getD i Str.empty) t)) >>= _) _ _ s'
    refine wpAny_bind (wpAny_holding ?_)
    unfold setAdd
    refine wpAny_holding (wpAny_bind ((strKind P w).pyHash (k := xs.getD i Str.empty) (strKind_is _ _ _ _) ?_))
    refine wpAny_setAddHashed_of (knd := strKind P w) (s := { s' with toks := s'.toks + 1 }) (strKind_is _ _ _ _) rfl g (by unfold scanBound; omega) fun h' hsb g2 => ?_
    have hx : xs[i]? = some (xs.getD i Str.empty) := by
      rw [List.getD_eq_getElem?_getD, List.getElem?_eq_getElem (by omega)]
      rfl
    have ht : xs.take (i + 1) = xs.take i ++ [xs.getD i Str.empty] := by rw [List.take_add_one, hx]; rfl
    have g3 : Fill P w xs S (i + 1) h' := by
      refine ⟨_, SetOf_congr g2 (fun z => ?_) rfl, by split <;> omega, fun nd => ?_, fun e => ?_⟩
      · rw [ht]
        simp [Bool.decide_or]
      · have hni : xs.getD i Str.empty ∉ xs.take i := by
          have nd2 : (xs.take (i + 1)).Nodup := nd.sublist (List.take_sublist _ _)
          rw [ht] at nd2
          exact fun z => (List.nodup_append.mp nd2).2.2 _ z _ (List.mem_singleton.mpr rfl) rfl
        rw [if_neg (by simpa using hni), hnd nd]
      · split at e
        · omega
        · rename_i hni
          rw [ht, List.nodup_append]
          refine ⟨hdn (by omega), by simp, fun a ha b hb => ?_⟩
          rw [List.mem_singleton.mp hb]
          rintro rfl
          exact hni (by simpa using ha)
    refine wpAny_pure ⟨plainId_quiet PyProof.Rows.F.plain_set_update_loop _, ih (i + 1) _ (by omega) hlt (W.frame _ s' _ _ hst' (Nat.le_succ _) fun b hb o e => ?_) g3 fun s'' hm'' hS'' => ?_⟩
    · rw [hsb.2 b (fun h : b = S => hSf (by rw [← h]; exact hb))]
      exact e
    · refine hR s'' (Moved.trans W.gtrans ((hm.mono hsub).then_heap (Nat.le_succ _) fun b o hb e => ?_) hm'') hS''
      rw [hsb.2 b (fun h : b = S => hb (by rw [h]; exact List.mem_cons_self))]
      exact e
end
section
variable {P : Program} {w : World} {A : Around} {E : Value → Shared → Prop} {s : Shared}
set_option maxHeartbeats 3200000 in
theorem set_tuple {l : Addr} {items : Array Value} {xs : List Str} {Q : Value → Shared → Prop} (hh : A.handled = none) (hl : s.heap.IsTuple l items) (hi : PyProof.Rows.StrsAre items.toList xs) (hn1 : xs.length ≤ 1000)
    (h : ∀ (h' : Heap) (tk : Nat), Fill P w xs s.heap.objs.size items.size h' → (∀ b o, s.heap.get? b = some o → h'.get? b = some o) → Q (.ref s.heap.objs.size) { s with heap := h', toks := tk }) :
    wpAny (model P w) A (call (.type "set") [.ref l]) Q E s := by
  obtain ⟨c, tl, hmro⟩ := PySem.F.called_set.mro
  have hmade := PySem.F.called_set.made
  have hsub := PySem.F.called_set.sub
  refine wpAny_call (codeAny_of_tree ?_)
  show wpAny _ _ (callAny (.type "set") _) _ _ _
  refine wpAny_pure ⟨Code.quiet_builtin _ (by decide +kernel), codeAny_builtin PySem.F.entry_type_call ?_⟩
  rw [Around.under_plain (weight_type_call_type "set" [.ref l] []) rfl]
  have q1 := PySem.F.called_set.notType
  have q2 := PySem.F.called_set.canCreate
  have q3 := PySem.F.typeCall_set_1 (.ref l)
  repeat (any_goals (first | assumption | wp_step))
  obtain ⟨N, hN⟩ : ∃ N, N = s.heap.objs.size := ⟨_, rfl⟩
  refine codeAny_mono (code_set_new_1 (.ref l) (E := E) (Q₁ := fun v s₁ => ∃ led : Bool, v = .ref s.heap.objs.size ∧ s₁ = { s with heap := s.heap.push { cls := .type "set", dict := none, data := .set #[] 0 (.fresh 0 0 led) } }) fun led => ⟨led, rfl, rfl⟩) fun r s₁ hr => ?_
  cases r with
  | error e => exact hr
  | ok fl =>
    cases fl with
    | ret v =>
      obtain ⟨led, rfl, rfl⟩ := hr
      have hS : (s.heap.push { cls := .type "set", dict := none, data := .set #[] 0 (.fresh 0 0 led) }).get? s.heap.objs.size = some { cls := .type "set", dict := none, data := .set #[] 0 (.fresh 0 0 led) } := Heap.get?_push_size _ rfl
      have hT : Shared.TypeIs { s with heap := s.heap.push { cls := .type "set", dict := none, data := .set #[] 0 (.fresh 0 0 led) } } (.ref s.heap.objs.size) "set" := ⟨_, hS, rfl⟩
      have q4 := PySem.F.called_set.init.lookup
      have q5 := PySem.F.called_set.init.bind (.ref s.heap.objs.size)
      repeat (any_goals (first | assumption | wp_step))
      refine codeAny_mono (codeAny_call_builtin (R := wants (fun r s₂ => r = .none ∧ ∃ h' tk, s₂ = { s with heap := h', toks := tk } ∧ Fill P w xs s.heap.objs.size items.size h' ∧ (∀ b o, s.heap.get? b = some o → h'.get? b = some o)) E)
        PySem.F.called_set.init.plain PySem.F.entry_set_init (check_set_init_1 hT ?_)) fun r₂ s₂ hr₂ => ?_
      · have hlS : l < s.heap.objs.size := by
          obtain ⟨ol, hol, _⟩ := hl
          exact Heap.lt_size hol
        have hl1 : (s.heap.push { cls := .type "set", dict := none, data := .set #[] 0 (.fresh 0 0 led) }).IsTuple l items := hl.push _
        obtain ⟨ol, hol, hcl, nl, hdl⟩ := hl1
        obtain ⟨ocls, odict, odata, oslots⟩ := ol
        simp only at hcl hdl
        subst hcl; subst hdl
        have hol' := hol
        have q6 := PySem.F.sub_tuple_set
        have q7 := PySem.F.sub_tuple_frozenset
        have q8 : (Value.type "tuple" == Value.type "dict") = false := by decide
        have hl1 : (s.heap.push { cls := .type "set", dict := none, data := .set #[] 0 (.fresh 0 0 led) }).IsTuple l items := ⟨_, hol, rfl, nl, rfl⟩
        unfold Builtin.«set.__init__» noKeywords Builtin.Frozenset.updateFrom
        generalize hPI : pyIter = PI
        wp_walk
        subst hPI
        refine wpAny_pyIter_tuple hl1 ?_
        refine wpAny_bind (wpAny_runValue ?_)
        have hh3 : A.in1.in1.in1.handled = none := by simp [hh]
        have hps : (s.heap.push { cls := .type "set", dict := none, data := .set #[] 0 (.fresh 0 0 led) }).objs.size = s.heap.objs.size + 1 := Heap.size_push _ _
        have hneI : l ≠ (s.heap.push { cls := .type "set", dict := none, data := .set #[] 0 (.fresh 0 0 led) }).objs.size := by
          rw [hps]
          exact Nat.ne_of_lt (Nat.lt_succ_of_lt hlS)
        have hSf : s.heap.objs.size ∉ [(s.heap.push { cls := .type "set", dict := none, data := .set #[] 0 (.fresh 0 0 led) }).objs.size, l] := by
          rw [hps]
          simp only [List.mem_cons, List.not_mem_nil, or_false, not_or]
          exact ⟨Nat.ne_of_lt (Nat.lt_succ_self _), Nat.ne_of_gt hlS⟩
        have hsz : xs.length = items.size := by rw [← StrsAre.len_eq hi, Array.length_toList]
        have hval : ∀ (i : Nat) (v : Value), items[i]? = some v → ∃ t, v = .str (xs.getD i Str.empty) t := fun i v hv => SS.strs_at hi i v (by rw [Array.getElem?_toList]; exact hv)
        refine fill_loop ((Walks.tuple hh3 _ l hneI items).toS) s.heap.objs.size hSf xs hsz (by rw [← hsz]; exact hn1) hval (items.size - 0) 0 _ (by omega) (Nat.zero_le _)
          ⟨⟨_, Heap.get?_push_size _ rfl, rfl, rfl⟩, (hl1.push _)⟩ ?hS0 ?hR
        case hS0 =>
          have hget : ((s.heap.push { cls := .type "set", dict := none, data := .set #[] 0 (.fresh 0 0 led) }).push { cls := .type "tuple_iterator", data := .fields #[.ref l, .int 0 0] }).get? s.heap.objs.size
              = some { cls := .type "set", dict := none, data := .set #[] 0 (.fresh 0 0 led) } := Heap.get?_push_of_some _ hS
          exact ⟨0, SetOf_congr ((setObjOf_fresh (knd := strKind P w) led).setOf hget (by unfold scanBound; omega)) (fun z => by simp) rfl, Nat.le_refl _, fun _ => rfl, fun _ => by simp⟩
        case hR =>
          intro s' hm hF
          obtain ⟨h', g', d', tk', os'⟩ := s'
          have eg : g' = s.gens := hm.gens
          have ed : d' = s.drawn := hm.drawn
          have eo : os' = s.os := hm.os
          subst eg; subst ed; subst eo
          show wpAny _ _ _ _ _ _
          refine wpAny_pure ?_
          show wpAny _ _ (ret Value.none) _ _ _
          refine wpAny_pure ⟨rfl, h', tk', rfl, hF, fun b o e => ?_⟩
          have hb := Heap.lt_size e
          refine hm.heap b o ?_ (Heap.get?_push_of_some _ (Heap.get?_push_of_some _ e))
          rw [hps]
          simp only [List.mem_cons, List.mem_singleton, List.not_mem_nil, or_false, not_or]
          exact ⟨Nat.ne_of_lt hb, Nat.ne_of_lt (Nat.lt_succ_of_lt hb)⟩
      · cases r₂ with
        | error e => exact hr₂
        | ok fl₂ =>
          cases fl₂ with
          | ret r =>
            obtain ⟨rfl, h', tk, rfl, hF, hk'⟩ := hr₂
            repeat (any_goals (first | assumption | wp_step))
            exact h _ _ hF hk'
          | _ => exact hr₂.elim
    | _ => exact hr.elim
end
/-- set(xs), xs a tuple of texts -/
def rSetX (K : PySem.W.Frag) (P : Program) (w : World) : List V → Hp → VK → Prop := fun vs H Q => ∃ (l : Addr) (xs : List Str), vs = [.ref l] ∧ SqT K H l (xs.map V.str) ∧ xs.length ≤ 1000 ∧
  ∀ (p : Addr) (n : Nat), H p = none → n ≤ xs.length → (xs.Nodup → n = xs.length) → Q (.ref p) (upd H p (SetX P w p (fun z => decide (z ∈ xs)) n))
def rLenX (P : Program) (w : World) : List V → Hp → VK → Prop := fun vs H Q => ∃ (a : Addr) (S : Str → Bool) (n : Nat), vs = [.ref a] ∧ H a = some (SetX P w a S n) ∧ Q (.int (n : Int)) H
section
variable {X : Cx}
theorem set_any (hc : X.calm = true) {pins : List (Addr × Obj)} {σ : L2.St} {H : Hp} {s : Shared} {l : Addr} {xs : List Str} {Q : VK} (I : Inv X pins σ H s) (hq : SqT X.K H l (xs.map V.str)) (hz : xs.length ≤ 1000)
    (q : ∀ (p : Addr) (n : Nat), H p = none → n ≤ xs.length → (n = xs.length ↔ xs.Nodup) → Q (.ref p) (upd H p (SetX X.prog X.w p (fun z => decide (z ∈ xs)) n))) :
    wpAny (model X.prog X.w) X.A (call (.type "set") [.ref l]) (EP X pins σ Q) X.xe s := by
  obtain ⟨its, rv, pl, _⟩ := I.tuple hq
  have hlen : its.toArray.size = xs.length := by rw [List.size_toArray, ← rv.length, List.length_map]
  refine set_tuple (I.ok.hd hc) pl (by simpa using strsAre_of rv) hz fun h' tk ⟨j, g, hj, hnd, hdn⟩ hk => ?_
  rw [hlen] at g hj hnd hdn
  rw [List.take_of_length_le (Nat.le_refl _)] at g hdn
  have hn : H s.heap.objs.size = none := I.hok.fresh (Nat.le_refl _)
  exact ⟨.ref _, _, I.laidN hk (Heap.get?_none_of_le (Nat.le_refl _)) hn (setX_new g), rfl, q _ j hn hj ⟨hdn, hnd⟩⟩
theorem cr_setX (hc : X.calm = true) : CallR X (.type "set") (rSetX X.K X.prog X.w) := by
  intro pins s σ H vs us Q I r h
  obtain ⟨l, xs, rfl, hq, hz, q⟩ := h
  obtain ⟨u, rfl, rx⟩ := vals1 r
  cases rx
  exact set_any hc I hq hz fun p n hp hn e => q p n hp hn e.mpr
theorem cr_lenX : CallR X (.builtin "len") (rLenX X.prog X.w) := by
  intro pins s σ H vs us Q I r h
  obtain ⟨a, S, n, rfl, ha, q⟩ := h
  obtain ⟨u, rfl, rx⟩ := vals1 r
  cases rx
  have g : TSet X.prog X.w s.heap a S n := (I.hok a _ ha).1
  obtain ⟨o, es, ep, t, ho, hex, hd, _, _, hlt, hf, hn⟩ := g
  refine call_len_set ho hex hd hf (by unfold scanBound at hlt; omega) ⟨.int n, H, I.tok _, ⟨_, by rw [hn]⟩, q⟩
end
end Qk
set_option maxRecDepth 100000
set_option maxHeartbeats 4000000
namespace Qk
open PySem PySem.Spec PyProof.Rows L2
/-- each slot is met in a round -/
structure MaskB (m : Nat) : Prop where
  all : ∀ j, j ≤ m → ∃ b, b ≤ m ∧ lcgN m b = j
  rnd : lcgN m (m + 1) = 0
  is_ : m = 7 ∨ m = 31 ∨ m = 127 ∨ m = 511
theorem MaskB.odd {m : Nat} (hm : MaskB m) : m % 2 = 1 := by
  rcases hm.is_ with e | e | e | e <;> rw [e]
theorem MaskB.again {m : Nat} (hm : MaskB m) : ∀ k, lcgN m (m + 1 + k) = lcgN m k
  | 0 => hm.rnd
  | k + 1 => by
    have ih := hm.again k
    show (lcgN m (m + 1 + k) * 5 + 1) % (m + 1) = _
    rw [ih]
    rfl
theorem MaskB.to {m i j : Nat} (hm : MaskB m) (hi : i ≤ m) (hj : j ≤ m) : ∃ k, k ≤ m ∧ lcgI m i k = j := by
  obtain ⟨a, a1, rfl⟩ := hm.all i hi
  obtain ⟨b, b1, rfl⟩ := hm.all j hj
  by_cases c : a ≤ b
  · exact ⟨b - a, by omega, by rw [lcgN_add, show a + (b - a) = b by omega]⟩
  · exact ⟨m + 1 + b - a, by omega, by rw [lcgN_add, show a + (m + 1 + b - a) = m + 1 + b by omega, hm.again]⟩
theorem MaskB.meets {m : Nat} (hm : MaskB m) (h : Int) {j : Nat} (hj : j ≤ m) : ∃ n, n ≤ m + 12 ∧ runI m (SetTable.bits h) n = j := by
  obtain ⟨k, k1, k2⟩ := hm.to (runI_le m (SetTable.bits h) 12) hj
  refine ⟨12 + k, by omega, ?_⟩
  rw [runI_tail (bits_lt h), k2]
theorem MaskB.way_to {m : Nat} (hm : MaskB m) (h : Int) {j : Nat} (hj : j ≤ m) : ∃ n, n ≤ m + 12 ∧ way m h (off m (SetTable.bits h % (m + 1)) (SetTable.bits h) n) = j := by
  obtain ⟨n, n1, n2⟩ := hm.meets h hj
  refine ⟨n, n1, ?_⟩
  unfold way
  rw [nth_off, itL_run, n2]
  rfl
theorem off_le (m : Nat) : ∀ (n i b : Nat), i ≤ m → off m i b n ≤ 10 * n
  | 0, _, _, _ => Nat.le_refl _
  | n + 1, i, b, hi => by
    have r := runEnd_bd hi
    have ih := off_le m n (SetTable.leap m i b).1 (SetTable.leap m i b).2 (leap_le m i b)
    show SetTable.runEnd m i - i + 1 + off m (SetTable.leap m i b).1 (SetTable.leap m i b).2 n ≤ _
    omega
/-- on h's way, j comes behind places of ps alone -/
def OnWay (m : Nat) (ps : List Nat) (h : Int) (j : Nat) : Prop := ∃ k, way m h k = j ∧ ∀ c, c < k → way m h c ∈ ps
structure TabB (t : SetTable) (hs : List Int) : Prop where
  up : Ris t.place.toList
  noD : t.dummies = #[]
  many : t.place.toList.length = hs.length
  mB : MaskB t.mask
  in_ : ∀ x ∈ t.place.toList, x ≤ t.mask
  onW : ∀ (i : Nat) (h : Int) (j : Nat), hs[i]? = some h → t.place.toList[i]? = some j → OnWay t.mask t.place.toList h j
theorem TabB.sz {t : SetTable} {hs : List Int} (T : TabB t hs) : t.place.size = hs.length := by
  rw [← Array.length_toList]
  exact T.many
theorem TabB.stop {t : SetTable} {hs : List Int} (T : TabB t hs) (hl : hs.length ≤ t.mask) (h : Int) :
    ∃ K, K < 10 * SetTable.turns t.mask ∧ way t.mask h K ∉ t.place.toList ∧ ∀ k, k < K → way t.mask h k ∈ t.place.toList := by
  obtain ⟨j, j1, j2⟩ := st_missing t.place.toList (t.mask + 1) (by rw [T.many]; omega)
  obtain ⟨n, n1, n2⟩ := T.mB.way_to h (Nat.le_of_lt_succ j1)
  have ob := off_le t.mask n (SetTable.bits h % (t.mask + 1)) (SetTable.bits h) (Nat.le_of_lt_succ (Nat.mod_lt _ (Nat.succ_pos t.mask)))
  obtain ⟨K, K1, K2, K3⟩ := st_least (p := fun k => way t.mask h k ∉ t.place.toList) _ (n2 ▸ j2)
  refine ⟨K, ?_, K2, fun k hk => Classical.byContradiction fun q => K3 k hk q⟩
  unfold SetTable.turns
  omega
theorem MaskB.free {m : Nat} (hm : MaskB m) (owner : Array (Option Nat)) (h : Int) {j : Nat} (hj : j ≤ m) (hf : oAt owner j = none) :
    ∃ K, SetTable.layClean.free m owner (SetTable.turns m) (SetTable.bits h % (m + 1)) (SetTable.bits h) = some (way m h K) ∧ oAt owner (way m h K) = none ∧ ∀ k, k < K → oAt owner (way m h k) ≠ none := by
  obtain ⟨n, n1, n2⟩ := hm.way_to h hj
  obtain ⟨K, K1, K2, K3⟩ := st_least (p := fun k => oAt owner (way m h k) = none) _ (by rw [← n2] at hf; exact hf)
  refine ⟨K, free_spec m owner _ n _ _ K (by unfold SetTable.turns; omega) K1 (fun k hk => ?_) (by rw [show oAt owner (nth m (runAt m _ _) K).j = none from K2]; rfl), K2, K3⟩
  cases e : oAt owner (way m h k) with
  | none => exact absurd e (K3 k hk)
  | some x => rfl
end Qk
set_option maxRecDepth 100000
set_option maxHeartbeats 4000000
namespace Qk
open PySem PySem.Spec PyProof.Rows L2
/-- the key k stands at a -/
def KAt (h : Heap) (k : NestedKey) (a : Addr) : Prop := NestedIs h k (.ref a) ∧ k.depth ≤ 8
theorem parts_of {h : Heap} : ∀ {ks : List NestedKey} {vs : List Value} {n : Nat}, NestedAll h ks vs → NestedKey.depthAll ks ≤ n → ∀ v ∈ vs, ∃ k, NestedIs h k v ∧ k.depth ≤ n
  | _, _, _, .nil, _, v, m => nomatch m
  | _, _, n, .cons (k := k0) x y, hd, v, m => by
    simp only [NestedKey.depthAll] at hd
    rcases List.mem_cons.mp m with rfl | m
    · exact ⟨k0, x, by omega⟩
    · exact parts_of y (by omega) v m
section
variable {P : Program} {w : World} {A : Around} {E : Value → Shared → Prop} {s : Shared}
theorem notClass : ∀ (n : Nat) {k : NestedKey} {v : Value} {Q : Bool → Shared → Prop}, NestedIs s.heap k v → k.depth ≤ n → Q false s → wpAny (model P w) A (ofAClassStatement n v) Q E s := by
  intro n
  induction n with
  | zero =>
    intro k v Q hv hn hq
    cases hv with
    | tup => simp only [NestedKey.depth] at hn; omega
    | _ => exact wpAny_pure hq
  | succ n ih =>
    intro k v Q hv hn hq
    cases hv with
    | @tup b ob arr m ks hb hc hd hall =>
      simp only [NestedKey.depth] at hn
      have hps := parts_of hall (Nat.le_of_succ_le_succ hn)
      unfold ofAClassStatement
      refine wpAny_bind (wpAny_typeOf (T := "tuple") ⟨ob, hb, hc⟩ ?_)
      dsimp only
      rw [show (("tuple" : String) == "tuple") = true from by decide]
      simp only [if_true, Bool.not_true, Bool.false_eq_true, if_false]
      try refine wpAny_bind (wpAny_pure ?_)
      try simp only [Bool.not_true, Bool.false_eq_true, if_false]
      show wpAny _ _ (seqItems? (.ref b) >>= _) _ _ s
      refine wpAny_bind (wpAny_seqItems hb hd ?_)
      dsimp only
      refine wpAny_bind ?_
      show wpAny _ _ (forIn arr _ _) _ _ s
      rw [← Array.forIn_toList]
      refine wpAny_forIn_list _ (fun rest z s' => (z.1 = none ∧ s' = s) ∧ ∀ u ∈ rest, ∃ k, NestedIs s.heap k u ∧ k.depth ≤ n) _ ?_ ?_ _ _ ⟨⟨rfl, rfl⟩, hps⟩
      · rintro u rest z s' ⟨⟨hz, rfl⟩, hr⟩
        obtain ⟨k', g1, g2⟩ := hr u List.mem_cons_self
        refine wpAny_bind (ih g1 g2 ?_)
        simp only [Bool.false_eq_true, if_false]
        exact wpAny_pure ⟨⟨rfl, rfl⟩, fun u' hu' => hr u' (List.mem_cons_of_mem _ hu')⟩
      · rintro ⟨z1, z2⟩ s' ⟨⟨hz, rfl⟩, _⟩
        dsimp only at hz
        subst hz
        exact wpAny_pure hq
    | _ => exact wpAny_pure hq
/-- no member shows anything while it is looked for -/
theorem unseen {k : NestedKey} {x : Addr} {ys : List Value} {Q : Bool → Shared → Prop} (hx : KAt s.heap k x) (hy : ∀ y ∈ ys, ∃ k' c, y = .ref c ∧ KAt s.heap k' c) (hq : Q false s) :
    wpAny (model P w) A (searchCouldBeSeen (.ref x) ys) Q E s := by
  unfold searchCouldBeSeen
  refine wpAny_bind (wpAny_forIn_list _ (fun rest z s' => (z.1 = none ∧ s' = s) ∧ ∀ y ∈ rest, ∃ k' c, y = .ref c ∧ KAt s.heap k' c) _ ?_ ?_ _ _ ⟨⟨rfl, rfl⟩, hy⟩)
  · rintro y rest z s' ⟨⟨hz, rfl⟩, hr⟩
    obtain ⟨k', c, rfl, hc⟩ := hr y List.mem_cons_self
    have go : ∀ y ∈ rest, ∃ k' c, y = .ref c ∧ KAt s'.heap k' c := fun u m => hr u (List.mem_cons_of_mem _ m)
    dsimp only
    by_cases hv : (x == c || (carriedByValue (.ref x) && carriedByValue (.ref c))) = true
    · exact wp_if_pos hv (wpAny_pure ⟨⟨rfl, rfl⟩, go⟩)
    · refine wp_if_neg hv (wpAny_bind ((nestedKind P w).quiet hx ?_))
      simp only [Bool.not_true, Bool.false_eq_true, if_false]
      refine wpAny_bind ((nestedKind P w).quiet hc ?_)
      simp only [Bool.not_true, Bool.false_eq_true, if_false]
      refine wpAny_bind (notClass 8 hx.1 hx.2 ?_)
      simp only [Bool.false_eq_true, if_false]
      refine wpAny_bind (notClass 8 hc.1 hc.2 ?_)
      simp only [Bool.false_eq_true, if_false]
      exact wpAny_pure ⟨⟨rfl, rfl⟩, go⟩
  · rintro ⟨z1, z2⟩ s' ⟨⟨hz, rfl⟩, _⟩
    dsimp only at hz
    subst hz
    exact wpAny_pure hq
end
abbrev pr (m : Nat) (h : Int) (c : Nat) : SetTable.Probe := nth m (runAt m (SetTable.bits h % (m + 1)) (SetTable.bits h)) c
theorem pr_clean (m : Nat) (h : Int) : ∀ c, (pr m h c).dummy = none
  | 0 => rfl
  | c + 1 => by
    show (nth m _ (c + 1)).dummy = none
    rw [nth_succ]
    have ih := pr_clean m h c
    unfold adv
    split <;> exact ih
theorem probe_at {t : SetTable} {hs : List Int} (T : TabB t hs) {h : Int} {K c : Nat} (hf : K < 10 * SetTable.turns t.mask) (hK : way t.mask h K ∉ t.place.toList) (hb : ∀ c, c < K → way t.mask h c ∈ t.place.toList) (ha : Nat → Int) (hc : c ≤ K) :
    (∃ d i, (c ≤ d ∧ d < K) ∧ t.place.toList[i]? = some (way t.mask h d) ∧ ha i = h ∧ (∀ e j, c ≤ e → e < d → t.place.toList[j]? = some (way t.mask h e) → ha j ≠ h) ∧ t.probe ha h (pr t.mask h c) = some (.candidate (way t.mask h d) i (pr t.mask h (d + 1)))) ∨
    (∀ e j, c ≤ e → e < K → t.place.toList[j]? = some (way t.mask h e) → ha j ≠ h) ∧ t.probe ha h (pr t.mask h c) = some (.empty (way t.mask h K) none) := by
  have sh : ∀ q, nth t.mask (pr t.mask h c) q = pr t.mask h (c + q) := fun q => (nth_add t.mask c _ q).symm
  have at_ : ∀ q, (nth t.mask (pr t.mask h c) q).j = way t.mask h (c + q) := fun q => congrArg SetTable.Probe.j (sh q)
  have eK : c + (K - c) = K := by omega
  rcases go_spec t T.up T.noD ha h (10 * SetTable.turns t.mask) (K - c) _ (pr_clean t.mask h c) (by omega) (fun q hq => by rw [at_]; exact hb _ (by omega)) (by rw [at_, eK]; exact hK) with ⟨q, i, g1, g2, g3, g4, g5⟩ | ⟨g1, g2⟩
  · refine .inl ⟨c + q, i, ⟨Nat.le_add_right _ _, by omega⟩, by rw [← at_]; exact g2, g3, fun e j he1 he2 hj => g4 (e - c) j (by omega) (by rw [at_, show c + (e - c) = e by omega]; exact hj), ?_⟩
    rw [← at_, show pr t.mask h (c + q + 1) = nth t.mask (pr t.mask h c) (q + 1) from (sh (q + 1)).symm]
    exact g5
  · refine .inr ⟨fun e j he1 he2 hj => g1 (e - c) j (by omega) (by rw [at_, show c + (e - c) = e by omega]; exact hj), ?_⟩
    rw [show way t.mask h K = (nth t.mask (pr t.mask h c) (K - c)).j by rw [at_, eK]]
    exact g2
abbrev Kp2 := NestedKey × Addr
/-- what the table has for a member -/
def ent (w : World) (p : Kp2) : Int × Value := (p.1.hash w, .ref p.2)
def hashesK (w : World) (L : List Kp2) : List Int := L.map fun p => p.1.hash w
/-- the set at a: L are its members (key and address), as the table has them -/
structure KSet (w : World) (h : Heap) (a : Addr) (L : List Kp2) (es : Array (Int × Value)) (ep : Nat) (t : SetTable) : Prop where
  ob : ∃ o, h.get? a = some o ∧ o.ExactSet ∧ o.data = .set es ep t
  rows : es.toList = L.map (ent w)
  tab : TabB t (hashesK w L)
  nd : (L.map Prod.fst).Nodup
  led : w.params.followText "set-order" = true ∨ t.led = true
  room : L.length * 5 < t.mask * 3
  few : L.length < 300
def KeysAt (h : Heap) (L : List Kp2) : Prop := ∀ p ∈ L, KAt h p.1 p.2
section
variable {P : Program} {w : World} {A : Around} {E : Value → Shared → Prop} {s : Shared} {h : Heap} {a : Addr} {L : List Kp2} {es : Array (Int × Value)} {ep : Nat} {t : SetTable}
theorem sz_rows (hr : es.toList = L.map (ent w)) : es.size = L.length := by
  rw [← Array.length_toList, hr, List.length_map]
theorem KSet.at_ (R : KSet w h a L es ep t) {i : Nat} {p : Kp2} (hi : L[i]? = some p) : es[i]? = some (ent w p) := by
  rw [← Array.getElem?_toList, R.rows, List.getElem?_map, hi]
  rfl
theorem len_h (L : List Kp2) : (hashesK w L).length = L.length := List.length_map _
theorem fits_of {hs : List Int} (T : TabB t hs) {n : Nat} (hn : hs.length = n) (hm : n ≤ t.mask) : t.fits n = true := by
  unfold SetTable.fits SetTable.fill
  have e : t.dummies.size = 0 := by rw [T.noD]; rfl
  rw [T.sz, hn, e]
  simp
  omega
theorem KSet.fits (R : KSet w h a L es ep t) : t.fits es.size = true := by
  rw [sz_rows R.rows]
  have := R.room
  exact fits_of R.tab (len_h L) (by omega)
theorem look (R : KSet w s.heap a L es ep t) (M : KeysAt s.heap L) {x : Addr} {k : NestedKey} (hx : KAt s.heap k x) (hu : A.units + 8 < cLine) {K : Nat} (hf : K < 10 * SetTable.turns t.mask)
    (hK : way t.mask (k.hash w) K ∉ t.place.toList) (hb : ∀ c, c < K → way t.mask (k.hash w) c ∈ t.place.toList) {Q : SetFound → Shared → Prop}
    (yes : k ∈ L.map Prod.fst → Q (.there none) s) (no : k ∉ L.map Prod.fst → Q (.free (way t.mask (k.hash w) K) false) s) :
    ∀ (f c : Nat) (stand : Option SetTable.Probe), stand.getD (t.probeStart (k.hash w)) = pr t.mask (k.hash w) c → c ≤ K → K < f + c →
      (∀ (i : Nat) (p : Kp2), L[i]? = some p → p.1 = k → ∃ d, c ≤ d ∧ d < K ∧ t.place.toList[i]? = some (way t.mask (k.hash w) d)) → wpAny (model P w) A (setSearchFrom a (.ref x) (k.hash w) true f stand) Q E s := by
  intro f
  induction f with
  | zero => intro c stand _ h1 h2; omega
  | succ f ih =>
    intro c stand hs h1 h2 hw
    obtain ⟨o, ho, hex, hd⟩ := R.ob
    rw [setSearchFrom_succ]
    refine wpAny_bind (wpAny_setState_of ho hd R.fits ?_)
    dsimp only
    refine wp_if_neg (by unfold SetTable.gaveWay; rw [R.tab.mB.odd]; decide) ?_
    try refine wpAny_bind (wpAny_pure ?_)
    have hh : ∀ (i : Nat) (p : Kp2), L[i]? = some p → (es[i]?.map (·.1)).getD 0 = p.1.hash w := fun i p hi => by rw [R.at_ hi]; rfl
    rcases probe_at R.tab hf hK hb (fun i => (es[i]?.map (·.1)).getD 0) h1 with ⟨d, i, ⟨d1, d2⟩, hi, _, hno, hp⟩ | ⟨hno, hp⟩
    · rw [hs, hp]
      dsimp only
      have hl : i < L.length := by
        have := (List.getElem?_eq_some_iff.mp hi).1
        rw [Array.length_toList, R.tab.sz, len_h] at this
        exact this
      obtain ⟨p, hpi⟩ : ∃ p, L[i]? = some p := ⟨_, List.getElem?_eq_getElem hl⟩
      have hpm := List.mem_of_getElem? hpi
      have tail : wpAny (model P w) A (searchRest a (.ref x) (k.hash w) true f es t (way t.mask (k.hash w) d) i (pr t.mask (k.hash w) (d + 1))) Q E s := by
        unfold searchRest
        rw [R.at_ hpi]
        unfold ent
        dsimp only
        refine wpAny_bind (wpAny_holding ((nestedKind P w).eqBool hu (M p hpm) hx ?_))
        refine wpAny_bind (wpAny_setState_of ho hd R.fits ?_)
        dsimp only
        by_cases hk : p.1 = k
        · refine wp_if_pos (by simp [hk]) (wpAny_pure (yes ?_))
          exact hk ▸ List.mem_map_of_mem hpm
        · refine wp_if_neg (by simp [hk]) ?_
          try refine wpAny_bind (wpAny_pure ?_)
          have live := slot_live R.tab.up hi
          rw [sameMem]
          simp only [if_true, live, R.at_ hpi, ent]
          refine wpAny_bind (wpAny_isSame_ref_self (wpAny_bind (wpAny_pure ?_)))
          simp only [if_true]
          refine wp_if_neg (by simp [hk]) (ih (d + 1) _ rfl d2 (by omega) fun j q hj hq => ?_)
          obtain ⟨e, e1, e2, e3⟩ := hw j q hj hq
          refine ⟨e, ?_, e2, e3⟩
          rcases Nat.lt_trichotomy e d with z | z | z
          · exact absurd ((hh j q hj).trans (by rw [hq])) (hno e j e1 z e3)
          · have l2 := slot_live R.tab.up (z ▸ e3)
            rw [live] at l2
            injection l2 with l2
            rw [← l2, hpi] at hj
            exact absurd ((congrArg Prod.fst (Option.some.inj hj)).trans hq) hk
          · exact z
      by_cases hl : t.led = true
      · refine wp_if_neg (by simp [hl]) ?_
        try refine wpAny_bind (wpAny_pure ?_)
        exact tail
      · refine wp_if_pos (by simp [hl]) (wpAny_bind (unseen hx (fun y hy => ?_) ?_))
        · obtain ⟨e, he, rfl⟩ := List.mem_map.mp hy
          have he2 : e ∈ es.toList := by
            have := (show e ∈ es ∧ _ by simpa using he).1
            simpa using this
          rw [R.rows] at he2
          obtain ⟨q, hq, rfl⟩ := List.mem_map.mp he2
          exact ⟨q.1, q.2, rfl, M q hq⟩
        · refine wp_if_neg (by decide) ?_
          try refine wpAny_bind (wpAny_pure ?_)
          exact tail
    · rw [hs, hp]
      dsimp only
      refine wpAny_pure (no fun hm => ?_)
      obtain ⟨q, hq, hk⟩ := List.mem_map.mp hm
      obtain ⟨j, hj⟩ := List.mem_iff_getElem?.mp hq
      obtain ⟨e, e1, e2, e3⟩ := hw j q hj hk
      exact hno e j e1 e2 e3 ((hh j q hj).trans (by rw [hk]))
end
end Qk
set_option maxRecDepth 100000
set_option maxHeartbeats 4000000
namespace Qk
open PySem PySem.Spec PyProof.Rows L2
theorem KAt.off {h h' : Heap} {k : NestedKey} {x a : Addr} {o : Obj} {es : Array (Int × Value)} {ep : Nat} {t : SetTable} (hx : KAt h k x) (ho : h.get? a = some o) (hd : o.data = .set es ep t) (hs : Heap.SameBut a h h') : KAt h' k x :=
  ⟨NestedIs.at (fun b ob vs n hb hv => (hs.2 b fun e => by
    subst e
    rw [ho] at hb
    cases hb
    rw [hd] at hv
    cases hv).trans hb) _ _ hx.1, hx.2⟩
theorem KAt.keep {h h' : Heap} {k : NestedKey} {x : Addr} (hx : KAt h k x) (hk : ∀ b o, h.get? b = some o → h'.get? b = some o) : KAt h' k x :=
  ⟨NestedIs.at (fun b ob vs n hb hv => hk b ob hb) _ _ hx.1, hx.2⟩
section
variable {P : Program} {w : World} {A : Around} {E : Value → Shared → Prop} {s : Shared} {a : Addr} {L : List Kp2} {es : Array (Int × Value)} {ep : Nat} {t : SetTable}
theorem KSet.keep {h h' : Heap} (R : KSet w h a L es ep t) (ha : ∀ o, h.get? a = some o → h'.get? a = some o) : KSet w h' a L es ep t := by
  obtain ⟨o, ho, r⟩ := R.ob
  exact ⟨⟨o, ha o ho, r⟩, R.rows, R.tab, R.nd, R.led, R.room, R.few⟩
end
end Qk
set_option maxRecDepth 100000
set_option maxHeartbeats 4000000
set_option maxRecDepth 100000
set_option maxHeartbeats 4000000
namespace Qk
open PySem PySem.Spec PyProof.Rows L2
def keyS (x : Str) : NestedKey := .text x
def nkQ (q : Qd) : NestedKey := .tup [.tup (q.1.map keyS), .text q.2]
theorem map_keyS_inj : ∀ {xs ys : List Str}, xs.map keyS = ys.map keyS → xs = ys
  | [], [], _ => rfl
  | [], _ :: _, h => nomatch h
  | _ :: _, [], h => nomatch h
  | x :: xs, y :: ys, h => by
    injection h with h1 h2
    injection h1 with h1
    rw [h1, map_keyS_inj h2]
theorem keyQ_inj {p q : Qd} (h : nkQ p = nkQ q) : p = q := by
  unfold nkQ at h
  injection h with h
  injection h with h1 h2
  injection h1 with h1
  injection h2 with h2
  injection h2 with h2
  exact Prod.ext (map_keyS_inj h1) h2
theorem depth_keyS : ∀ xs : List Str, NestedKey.depthAll (xs.map keyS) = 0
  | [] => rfl
  | _ :: xs => by
    rw [List.map_cons, NestedKey.depthAll, depth_keyS xs]
    rfl
theorem depth_keyQ (q : Qd) : (nkQ q).depth ≤ 8 := by
  unfold nkQ
  simp only [NestedKey.depth, NestedKey.depthAll, depth_keyS]
  decide
theorem all_keyS {h : Heap} : ∀ {us : List Value} {xs : List Str}, PyProof.Rows.StrsAre us xs → NestedAll h (xs.map keyS) us
  | _, _, .nil => .nil
  | _, _, .cons x t r => .cons (.text x t) (all_keyS r)
theorem IsQ.key {h : Heap} {a : Addr} {q : Qd} (x : IsQ h (.ref a) q) : KAt h (nkQ q) a := by
  obtain ⟨a', c, o, oc, t, us, n, m, e, ho, hc, hd, hoc, hcc, hdc, hs⟩ := x
  cases e
  exact ⟨.tup ho hc hd (.cons (.tup hoc hcc hdc (by simpa using all_keyS hs)) (.cons (.text _ _) .nil)), depth_keyQ q⟩
section
variable {X : Cx}
theorem Inv.isQ {pins : List (Addr × Obj)} {σ : L2.St} {H : Hp} {s : Shared} {a : Addr} {q : Qd} (I : Inv X pins σ H s) (h : QAt H a q.1 q.2) : IsQ s.heap (.ref a) q := by
  obtain ⟨c, g1, g2⟩ := h
  obtain ⟨_, i1, r1, o, ho, hc, n, hd⟩ := I.hok _ _ g1
  obtain ⟨_, i2, r2, oc, hoc, hcc, m, hdc⟩ := I.hok _ _ g2
  obtain ⟨u1, u2, rfl, ra, rb⟩ := vals2 r1
  obtain rfl : u1 = Value.ref c := ra
  obtain ⟨tk, rfl⟩ := rb
  exact ⟨a, c, o, oc, tk, i2, n, m, rfl, ho, hc, hd, hoc, hcc, hdc, r2.strs⟩
end
end Qk
set_option maxRecDepth 100000
set_option maxHeartbeats 4000000
namespace Qk
open PySem PySem.Spec PyProof.Rows L2
structure Dist (qs zs : List Qd) : Prop where
  nd : zs.Nodup
  up : rising zs
  mem : ∀ q, q ∈ zs ↔ q ∈ qs
theorem Dist.uniq {qs rs zs ys : List Qd} (h1 : Dist qs zs) (h2 : Dist rs ys) (h : ∀ q, q ∈ qs ↔ q ∈ rs) : zs = ys :=
  perm_ltQ ((List.perm_ext_iff_of_nodup h1.nd h2.nd).mpr fun q => ((h1.mem q).trans (h q)).trans (h2.mem q).symm) h1.up h2.up
end Qk
set_option maxRecDepth 100000
set_option maxHeartbeats 4000000
namespace Qk
open PySem PySem.Spec PyProof.Rows L2
theorem getD_ne {ix : List Str} (R : ∀ c ∈ ix, c ∈ menu) {j : Nat} (hj : j < ix.length) : ix.getD j "" ≠ "" := by
  rw [List.getD_eq_getElem?_getD, List.getElem?_eq_getElem hj]
  exact menu_ne _ (R _ (List.getElem_mem hj))
end Qk
set_option maxRecDepth 100000
set_option maxHeartbeats 4000000
namespace PySem.W
open PySem PyProof.Rows
end PySem.W
set_option maxRecDepth 100000
set_option maxHeartbeats 4000000
namespace Qk
open PySem PySem.Spec PyProof.Rows L2
/-- a column, as a text -/
def colS (z : Str) : Bool := (decide (1 ≤ z.cps.size) && decide (z.cps.size ≤ 8)) && z.cps.toList.all fun c => decide (97 ≤ c) && decide (c ≤ 122)
/-- any value, as the functions of words see it -/
def spText (K : PySem.W.Frag) (f : Str → Bool) : Sp := fun vs H Q _ => ∃ x, vs = [x] ∧ ((∃ z, x = .str z ∧ z.cps.size ≤ 1000 ∧ PyData.strOk z = true ∧ ∀ H', Same H H' → Q (.bl (f z)) H') ∨ ∃ t : String, TyX K H x (.type t) ∧ kitB t "str" = some false ∧ Q (.bl false) H)
theorem menu_col : ∀ c ∈ menu, colS c = true := by decide +kernel
theorem ascii_tab : ((List.range 128).all fun c => (Unicode.isAlpha c == (decide (65 ≤ c) && decide (c ≤ 90) || decide (97 ≤ c) && decide (c ≤ 122))) && (Unicode.isLower c == (decide (97 ≤ c) && decide (c ≤ 122))) &&
    ((Unicode.isUpper c || Unicode.isTitle c) == (decide (65 ≤ c) && decide (c ≤ 90)))) = true := by decide +kernel
theorem ascii_facts {c : Nat} (h : c < 128) : Unicode.isAlpha c = (decide (65 ≤ c) && decide (c ≤ 90) || decide (97 ≤ c) && decide (c ≤ 122)) ∧ Unicode.isLower c = (decide (97 ≤ c) && decide (c ≤ 122)) ∧
    (Unicode.isUpper c || Unicode.isTitle c) = (decide (65 ≤ c) && decide (c ≤ 90)) := by
  have := List.all_eq_true.mp ascii_tab c (List.mem_range.mpr h)
  simp only [Bool.and_eq_true, beq_iff_eq] at this
  exact ⟨this.1.1, this.1.2, this.2⟩
/-- s.isascii() and s.isalpha() and s.islower(): all signs are a to z, and there is one -/
theorem low_iff (z : Str) (h : 1 ≤ z.cps.size) : (Txt.isascii z && (Txt.isalpha z && Txt.islower z)) = z.cps.toList.all fun c => decide (97 ≤ c) && decide (c ≤ 122) := by
  have e1 : Txt.isascii z = z.cps.toList.all fun c => decide (c < 128) := by
    show z.cps.all (· < 128) = _
    rw [← Array.all_toList]
  have e2 : Txt.isalpha z = z.cps.toList.all Unicode.isAlpha := by
    show (decide (z.length > 0) && z.cps.all Unicode.isAlpha) = _
    rw [decide_eq_true (show z.length > 0 from h), Bool.true_and, ← Array.all_toList]
  have e3 : Txt.islower z = (z.cps.toList.any Unicode.isLower && !z.cps.toList.any fun c => Unicode.isUpper c || Unicode.isTitle c) := by
    show (z.cps.any Unicode.isLower && !z.cps.any fun c => Unicode.isUpper c || Unicode.isTitle c) = _
    rw [← Array.any_toList, ← Array.any_toList]
  rw [e1, e2, e3]
  have hl : z.cps.toList ≠ [] := by
    intro q
    have : z.cps.toList.length = 0 := by rw [q]; rfl
    rw [Array.length_toList] at this
    omega
  generalize z.cps.toList = l at hl
  rw [Bool.eq_iff_iff]
  simp only [Bool.and_eq_true, List.all_eq_true, List.any_eq_true, Bool.not_eq_true', List.any_eq_false, decide_eq_true_eq]
  constructor
  · rintro ⟨ha, hb, ⟨d, hd, hdl⟩, hc⟩ c hcm
    obtain ⟨f1, f2, f3⟩ := ascii_facts (ha c hcm)
    have h1 := hb c hcm
    have h2 := hc c hcm
    rw [f3] at h2
    rw [f1] at h1
    simp only [Bool.or_eq_true, Bool.and_eq_true, decide_eq_true_eq] at h1 h2
    rcases h1 with h1 | h1
    · exact absurd h1 h2
    · exact h1
  · intro ha
    have lt : ∀ c ∈ l, c < 128 := fun c hc => by
      have := ha c hc
      omega
    refine ⟨lt, fun c hc => ?_, ?_, fun c hc => ?_⟩
    · rw [(ascii_facts (lt c hc)).1]
      have := ha c hc
      simp only [Bool.or_eq_true, Bool.and_eq_true, decide_eq_true_eq]
      exact .inr this
    · obtain ⟨c, hc⟩ := List.exists_mem_of_ne_nil l hl
      refine ⟨c, hc, ?_⟩
      rw [(ascii_facts (lt c hc)).2.1]
      have := ha c hc
      simp only [Bool.and_eq_true, decide_eq_true_eq]
      exact this
    · rw [(ascii_facts (lt c hc)).2.2]
      have := ha c hc
      simp only [Bool.and_eq_true, decide_eq_true_eq]
      omega
end Qk
set_option maxRecDepth 100000
set_option maxHeartbeats 4000000
namespace Qk
open PySem PySem.Spec PyProof.Rows L2
/-- a question as k13 has it -/
structure QZ (cols : List Str) (e : Str) : Prop where
  m : QM cols e
  ne : e ∉ cols
  le : cols.length + (if e = "" then 0 else 1) ≤ 12
theorem nodup_len : ∀ (l D : List Str), l.Nodup → (∀ x ∈ l, x ∈ D) → l.length ≤ D.length
  | [], _, _, _ => Nat.zero_le _
  | x :: l, D, hn, hs => by
    obtain ⟨h1, h2⟩ := List.nodup_cons.mp hn
    have hx : x ∈ D := hs x List.mem_cons_self
    have ih := nodup_len l (D.erase x) h2 fun y hy => (List.mem_erase_of_ne (by rintro rfl; exact h1 hy)).2 (hs y (List.mem_cons_of_mem _ hy))
    have e := List.length_erase_of_mem hx
    have hp : 0 < D.length := List.length_pos_of_mem hx
    rw [List.length_cons]
    omega
theorem Qok.qz {xs cols : List Str} {e : Str} (h : Qok xs cols e) (R : Row xs) : QZ cols e := by
  refine ⟨h.qm R.sub, h.ne, ?_⟩
  have hsub : ∀ z ∈ (if e = "" then cols else cols ++ [e]), z ∈ xs := fun z hz => by
    split at hz
    · exact h.sub _ hz
    · rename_i ne
      rcases List.mem_append.mp hz with q | q
      · exact h.sub _ q
      · rw [List.mem_singleton.mp q]
        exact h.esub.resolve_left ne
  have hnd : (if e = "" then cols else cols ++ [e]).Nodup := by
    split
    · exact h.nd
    · rw [List.nodup_append]
      exact ⟨h.nd, by simp, fun a ha b hb => by rw [List.mem_singleton.mp hb]; exact fun q => h.ne (q ▸ ha)⟩
  have hle := nodup_len _ _ hnd hsub
  have := R.le
  split
  · rename_i q
    rw [if_pos q] at hle
    omega
  · rename_i q
    rw [if_neg q, List.length_append] at hle
    simp at hle
    omega
theorem QZ.fine {cols : List Str} {e : Str} (h : QZ cols e) : Qfine (cols, e) := ⟨fun c hc => menu_okS _ (h.m.sub _ hc), h.m.esub.elim (fun q => by show okS e = true; rw [q]; exact okS_empty) (fun m => menu_okS _ m), h.m.le⟩
def QZs (qs : List Qd) : Prop := ∀ q ∈ qs, QZ q.1 q.2
theorem QZ.strOk {cols : List Str} {e : Str} (h : QZ cols e) : ∀ c ∈ cols, PyData.strOk c = true := fun c hc => menu_ok _ (h.m.sub _ hc)
end Qk
set_option maxRecDepth 100000
set_option maxHeartbeats 4000000
namespace Qk
open PySem PySem.Spec PyProof.Rows L2
/-- the columns that a part leaves -/
def left (ns p : List Str) : List Str := ns.filter fun c => !decide (c ∈ p)
end Qk
set_option maxRecDepth 100000
set_option maxHeartbeats 4000000
namespace Qk
open PySem PySem.Spec PyProof.Rows L2 ItX
structure OwnIt (K : PySem.W.Frag) (C fi : Addr) : Prop where
  it : PySem.W.findIn K (.ref C) "__iter__" = some (some (.ref fi))
  fn : PySem.W.isFn K (.ref fi) = true
/-- defs whose promise may speak of how many objects there are when they begin -/
structure FnS (P : Program) (w : World) (K : PySem.W.Frag) (mg : Str → Option Value) (base : Heap) (k : Nat) (f : Addr) (fd : FuncData) (ps : List Str) (sp : Nat → Sp) : Prop where
  len : ∀ N vs H Q E, sp N vs H Q E → vs.length = ps.length
  run : ∀ (A : Around) (outer : List Env) (s : Shared) (H : Hp) (args : Args) (us : List Value) (vs : List V) (Q : VK) (E : XK), Room k A → Env0 P w K mg base A outer s H →
    BindsTo s fd args (ps.zip us) → Vals vs us → sp s.heap.objs.size vs H Q E → codeAny (model P w) A (.call (.ref f) args) (CR CX0 outer P w H s Q E) s
section
variable {P : Program} {w : World} {K : PySem.W.Frag} {mg : Str → Option Value} {base : Heap}
theorem okN {x qual : Str} {st : Stmt} {f : Addr} {fd : FuncData} {N ps : List Str} {k : Nat} {sp : Nat → Sp} (F : Fun K x qual st f fd) (S : FnScope N ps (defScope st)) (len : ∀ n vs H Q E, sp n vs H Q E → vs.length = ps.length)
    (body : ∀ (cdv : Value) (A : Around) (outer : List Env) (s : Shared) (H : Hp) (vs : List V) (Q : VK) (E : XK), Room k (A.deeper (envOfC qual (defScope st) s.heap.objs.size f cdv)) → sp s.heap.objs.size vs H Q E →
      ∃ t, PSs (cxOf CX0 P w K mg base N qual (defScope st) f cdv A outer s H E).nox (defBody st) t ∧ t { nx := fun _ H' => Q .non H', rt := Q } (start N vs) H) : FnS P w K mg base (k + 1) f fd ps sp := by
  refine ⟨len, fun A outer s H args us vs Q E hr e0 hb rv hsp => ?_⟩
  obtain ⟨oc, od, kV, doc, pm, an, cdv, ct, osl, rfl, lk, hcd⟩ := F.ex
  have hlen := len _ _ _ _ _ hsp
  have stay : ∀ b o, base.get? b = some o → s.heap.get? b = some o := fun b o e => (e0.bs b o e).1
  have inK : K.In s.heap := e0.mod.kin.keeps stay
  have pars : ∀ y ∈ ps.zip us, (defScope st).names.lookup y.1 = some .local ∨ ((defScope st).names.lookup y.1 = some .cell ∧ ((cellsFrom (s.heap.objs.size + 1) (defScope st).names []).lookup y.1).isSome = true) := by
    rintro ⟨nm, v⟩ hy
    exact (S.par nm (List.of_mem_zip hy).1).imp id fun q => ⟨q, PySem.W.cellsFrom_some _ _ _ (.inl q)⟩
  refine codeAny_call_function hr.depth (inK _ _ lk) rfl S.co S.gen rfl (PySem.W.codeRec_of inK hcd) (hb _ _ _ _ ?_)
  refine wpAny_newFunctionEnv_cells S.kind pars fun env he s1 xe => ?_
  subst he
  refine ⟨(e0.mod.nolimit.keeps stay).keeps xe.toInCall.keep, codeAny_func ?_⟩
  obtain ⟨t, ht, hq⟩ := body cdv A outer s H vs Q E (hr.deeper _) hsp
  refine wpAny_mono (ht.nox.run [] s1 (start N vs) H _ (inv_start S hr.hd e0 hlen rv xe) hq) (fun fl s' hs => ?_) fun _ _ z => z
  cases fl with
  | ret u =>
    obtain ⟨v, σ', H', J, r, q⟩ := hs
    exact ⟨v, H', J.os, J.bare, J.base, J.hok, r, q⟩
  | next =>
    obtain ⟨σ', H', J, q⟩ := hs
    exact ⟨V.non, H', J.os, J.bare, J.base, J.hok, rfl, q⟩
  | brk => exact hs.elim fun _ z => z.elim fun _ z => z.2.elim
  | cont => exact hs.elim fun _ z => z.elim fun _ z => z.2.elim
end
def spIterF (C : Addr) (f : Str) : Nat → Sp := fun N vs H Q _ => ∃ (a dx l : Addr) (fs : List (Str × V)) (xs : List V), vs = [.ref a] ∧ H a = some (.ins C dx fs) ∧ fs.lookup f = some (.ref l) ∧ H l = some (.lst xs) ∧ ∀ it, H it = none → N ≤ it → Q (.ref it) (upd H it (ItO l it 0))
def iOwn (K : PySem.W.Frag) (C : Addr) (f : Str) (te : TE) : TI := fun σ H R => te σ H fun x H1 => ∃ (a dx l : Addr) (fs : List (Str × V)) (xs : List V), x = .ref a ∧ H1 a = some (.ins C dx fs) ∧ fs.lookup f = some (.ref l) ∧ H1 l = some (.lst xs) ∧ R (Itl K l) H1
section
variable {X : Cx} {tg : Expr} {e : Expr} {te : TE}
theorem pi_own {C fi : Addr} {f : Str} {fd : FuncData} {n : Nat} (oc : OwnIt X.K C fi) (FI : FnS X.prog X.w X.K X.mg X.base n fi fd ["self"] (spIterF C f)) (bI : Binds X.K fd ["self"] []) (hr : Room n X.A) (he : PE X e te) : PI X tg e (iOwn X.K C f te) := by
  refine ⟨fun pins s σ H R I h => ?_⟩
  refine thn (he.run pins s σ H _ I h) fun v s1 ⟨x, H1, I1, r1, q1⟩ => ?_
  obtain ⟨a, dx, l, fs, xs, rfl, ha, hl, hx, q⟩ := q1
  cases r1
  obtain ⟨mA, J, _⟩ := ins_get I1.hok ha
  obtain ⟨od, J, _⟩ := J.look
  obtain ⟨m0, hF⟩ := I1.fr
  refine PySem.W.owit_iter hF I1.ok.mod.kin J oc.it oc.fn ?_
  have hsp : spIterF C f s1.heap.objs.size [.ref a] H1 (fun v H' => ∃ it, v = .ref it ∧ H1 it = none ∧ H' = upd H1 it (ItO l it 0) ∧ s1.heap.objs.size ≤ it) (fun _ _ _ => False) := ⟨a, dx, l, fs, xs, rfl, ha, hl, hx, fun it hit hn => ⟨it, rfl, hit, rfl, hn⟩⟩
  have r2 : Vals [V.ref a] [Value.ref a] := .cons rfl .nil
  refine wpAny_call (codeAny_mono (FI.run X.A X.stack s1 H1 ⟨[.ref a], []⟩ [.ref a] [.ref a] _ _ hr I1.env0 (by
    have := bI s1 [.ref a] I1.kIn (by rfl)
    simpa using this) r2 hsp) fun r s' hq' => ?_)
  cases r with
  | error e => exact pass0 pins σ H1 s1 e s' I1 hq'
  | ok fl =>
    cases fl with
    | next => exact False.elim hq'
    | brk => exact False.elim hq'
    | cont => exact False.elim hq'
    | ret u =>
      have hq2 := hq'
      obtain ⟨v0, H0, os0, bare0, un0, hok0, rv0, it0, ev0, hn0, eH0, fresh⟩ := hq2
      subst ev0
      subst eH0
      cases rv0
      have hi : (upd H1 it0 (ItO l it0 0)) it0 = some (ItO l it0 0) := upd_same
      have I' : Inv X pins σ (upd H1 it0 (ItO l it0 0)) s' := by
        obtain ⟨hh, g, d, t, os'⟩ := s'
        obtain rfl : os' = s1.os := os0
        exact I1.call (h' := hh) (g' := g) (d' := d) (t' := t) (ch := []) un0 hok0 bare0 (fun b z => absurd z (by simp))
      have eo := itO_get I' hi
      have st : s'.heap.IsListIter it0 l 0 := ⟨_, eo, rfl, rfl⟩
      unfold PySem.W.OwitIt
      refine wpAny_specialOf (T := "list_iterator") ⟨_, eo, rfl⟩ slot_listiter_next.lookup ?_
      have hi' := hi
      unfold ItO at hi'
      have I2 := inv_drop I' hi'
      have ed : dropH (upd H1 it0 (ItO l it0 0)) it0 = H1 := dropH_upd hn0
      rw [ed] at I2
      refine ⟨it0, [it0], _, _, H1, rfl, I2, turn_list l it0, st, fun b hb => ?_, q⟩
      have e : b = it0 := by simpa using hb
      rw [e]
      have fp := inv_fp I' hi (Nat.le_trans I1.sz fresh)
      rw [ed] at fp
      exact fp
end
end Qk
set_option maxRecDepth 100000
set_option maxHeartbeats 4000000
namespace Qk
open PySem PySem.Spec PyProof.Rows L2 ItX
structure OwnLen (K : PySem.W.Frag) (C fl : Addr) : Prop where
  ln : PySem.W.findIn K (.ref C) "__len__" = some (some (.ref fl))
  fn : PySem.W.isFn K (.ref fl) = true
def spLenF (C : Addr) (f : Str) : Sp := fun vs H Q _ => ∃ (a dx l : Addr) (fs : List (Str × V)) (xs : List V), vs = [.ref a] ∧ H a = some (.ins C dx fs) ∧ fs.lookup f = some (.ref l) ∧ H l = some (.lst xs) ∧ Q (.int (xs.length : Int)) H
/-- an instance of C whose list f stands at l and has xs -/
def HasL (H : Hp) (C a : Addr) (f : Str) (l : Addr) (xs : List V) : Prop := ∃ (dx : Addr) (fs : List (Str × V)), H a = some (.ins C dx fs) ∧ fs.lookup f = some (.ref l) ∧ H l = some (.lst xs)
section
variable {X : Cx} {pins : List (Addr × Obj)} {σ : L2.St} {H : Hp} {s : Shared} {A1 : Around} {C a l fi fl : Addr} {f : Str} {fdI fdL : FuncData} {n : Nat} {xs : List V}
theorem env_sub (sb : Sub X n A1) (I : Inv X pins σ H s) : Env0 X.prog X.w X.K X.mg X.base A1 X.stack s H := by
  have e := I.env0
  constructor
  case frames => rw [sb.fr]; exact e.frames
  all_goals first | exact e.mod | exact e.bs | exact e.bsz | exact e.funs | exact e.frf | exact e.hok | exact e.bare
theorem iter_own (sb : Sub X n A1) (oc : OwnIt X.K C fi) (FI : FnS X.prog X.w X.K X.mg X.base n fi fdI ["self"] (spIterF C f)) (bI : Binds X.K fdI ["self"] []) (I : Inv X pins σ H s) (h : HasL H C a f l xs) {Q : Value → Shared → Prop}
    (hQ : ∀ it s', Inv X pins σ (upd H it (ItO l it 0)) s' → H it = none → X.s_0.heap.objs.size ≤ it → Q (.ref it) s') : wpAny (model X.prog X.w) A1 (pyIter (.ref a)) Q X.xe s := by
  obtain ⟨dx, fs, ha, hl, hx⟩ := h
  obtain ⟨mA, J, _⟩ := ins_get I.hok ha
  obtain ⟨od, J, _⟩ := J.look
  obtain ⟨m0, hF⟩ := I.fr
  refine PySem.W.owit_iter hF I.ok.mod.kin J oc.it oc.fn ?_
  have hsp : spIterF C f s.heap.objs.size [.ref a] H (fun v H' => ∃ it, v = .ref it ∧ H it = none ∧ H' = upd H it (ItO l it 0) ∧ s.heap.objs.size ≤ it) (fun _ _ _ => False) := ⟨a, dx, l, fs, xs, rfl, ha, hl, hx, fun it hit hn => ⟨it, rfl, hit, rfl, hn⟩⟩
  have r2 : Vals [V.ref a] [Value.ref a] := .cons rfl .nil
  refine wpAny_call (codeAny_mono (FI.run A1 X.stack s H ⟨[.ref a], []⟩ [.ref a] [.ref a] _ _ sb.room (env_sub sb I) (by
    have := bI s [.ref a] I.kIn (by rfl)
    simpa using this) r2 hsp) fun r s' hq' => ?_)
  cases r with
  | error e => exact pass0 pins σ H s e s' I hq'
  | ok fl =>
    cases fl with
    | next => exact False.elim hq'
    | brk => exact False.elim hq'
    | cont => exact False.elim hq'
    | ret u =>
      have hq2 := hq'
      obtain ⟨v0, H0, os0, bare0, un0, hok0, rv0, it0, ev0, hn0, eH0, fresh⟩ := hq2
      subst ev0
      subst eH0
      cases rv0
      have hi : (upd H it0 (ItO l it0 0)) it0 = some (ItO l it0 0) := upd_same
      have I' : Inv X pins σ (upd H it0 (ItO l it0 0)) s' := by
        obtain ⟨hh, g, d, t, os'⟩ := s'
        obtain rfl : os' = s.os := os0
        exact I.call (h' := hh) (g' := g) (d' := d) (t' := t) (ch := []) un0 hok0 bare0 (fun b z => absurd z (by simp))
      have eo := itO_get I' hi
      have st : s'.heap.IsListIter it0 l 0 := ⟨_, eo, rfl, rfl⟩
      unfold PySem.W.OwitIt
      refine wpAny_specialOf (T := "list_iterator") ⟨_, eo, rfl⟩ slot_listiter_next.lookup ?_
      exact hQ it0 s' I' hn0 (Nat.le_trans I.sz fresh)
theorem len_own (sb : Sub X n A1.in1) (oc : OwnLen X.K C fl) (FL : FnOk X.prog X.w X.K X.mg X.base CX0 n fl fdL ["self"] (spLenF C f)) (bL : Binds X.K fdL ["self"] []) (I : Inv X pins σ H s) (h : HasL H C a f l xs) (hz : xs.length ≤ 1000) {Q : Value → Shared → Prop} {E : Value → Shared → Prop}
    (hQ : ∀ t s', Inv X pins σ H s' → Q (.int (xs.length : Int) t) s') : wpAny (model X.prog X.w) A1 (call (.builtin "len") [.ref a]) Q E s := by
  obtain ⟨dx, fs, ha, hl, hx⟩ := h
  obtain ⟨mA, J, _⟩ := ins_get I.hok ha
  obtain ⟨od, J, _⟩ := J.look
  obtain ⟨m0, hF⟩ := I.fr
  refine PySem.W.len_K hF I.ok.mod.kin J oc.ln oc.fn ?_
  have hsp : spLenF C f [.ref a] H (fun v H' => v = .int (xs.length : Int) ∧ H' = H) (fun _ _ _ => False) := ⟨a, dx, l, fs, xs, rfl, ha, hl, hx, rfl, rfl⟩
  have r2 : Vals [V.ref a] [Value.ref a] := .cons rfl .nil
  refine wpAny_call (codeAny_mono (FL.run A1.in1 X.stack s H ⟨[.ref a], []⟩ [.ref a] [.ref a] _ _ sb.room (env_sub sb I) (by
    have := bL s [.ref a] I.kIn (by rfl)
    simpa using this) r2 hsp) fun r s' hq' => ?_)
  cases r with
  | error e => exact False.elim hq'
  | ok fl =>
    cases fl with
    | next => exact False.elim hq'
    | brk => exact False.elim hq'
    | cont => exact False.elim hq'
    | ret u =>
      obtain ⟨v, H', I', rv, ev, eH⟩ := I.after hq'
      subst ev
      rw [eH] at I'
      obtain ⟨t, rfl⟩ := rv
      exact ⟨⟨by omega, by omega⟩, hQ _ _ (I'.tok _)⟩
theorem if_yes {α : Type} {M : Model} {A : Around} {E : Value → Shared → Prop} {s : Shared} {c : Bool} {a b : Sem α} {Q : α → Shared → Prop} (hc : c = true) (h : wpAny M A a Q E s) : wpAny M A (if c = true then a else b) Q E s := by
  subst hc
  exact h
/-- the room that list() asks for -/
theorem hint_own (sb : Sub X n A1.in1) (oc : OwnLen X.K C fl) (FL : FnOk X.prog X.w X.K X.mg X.base CX0 n fl fdL ["self"] (spLenF C f)) (bL : Binds X.K fdL ["self"] []) (I : Inv X pins σ H s) (h : HasL H C a f l xs) (hz : xs.length ≤ 1000) {Q : Bool → Shared → Prop}
    (hQ : ∀ b s', Inv X pins σ H s' → Q b s') : wpAny (model X.prog X.w) A1 (Builtin.List.listLengthHint (.ref a)) Q X.xe s := by
  obtain ⟨dx, fs, ha, hl, hx⟩ := id h
  obtain ⟨mA, J, _⟩ := ins_get I.hok ha
  obtain ⟨od, J, _⟩ := J.look
  unfold Builtin.List.listLengthHint
  refine wpAny_bind (wpAny_bind (J.type.here ((PySem.W.looks_findIn I.kIn oc.ln).here ?_)))
  refine PySem.W.KFB.if_not rfl ?_
  refine if_yes rfl ?_
  refine wpAny_bind (wpAny_rule ?_)
  refine wpAny_bind (wpAny_attempt (len_own sb oc FL bL I h hz fun t s' I' => ?_))
  dsimp only
  refine wpAny_bind (wpAny_of_eq (show asInt? (.int (xs.length : Int) t) = pure (some (xs.length : Int)) from rfl) ?_)
  dsimp only
  refine PySem.W.KFB.if_not (by unfold Builtin.List.listTooLong; rw [Int.toNat_natCast]; exact decide_eq_false (by rw [sizeLine_eq]; omega)) ?_
  exact wpAny_pure (hQ _ _ I')
theorem ext_own {it q : Addr} {Rs : Result → Shared → Prop} (hh : A1.handled = none) (hq : H q = none) (hx : H l = some (.lst xs)) (hz : xs.length ≤ 1000) (fp : ∀ acc, FpOk X pins (upd H q (.lst acc)) it)
    (hdone : ∀ s', Inv X pins σ (upd H q (.lst xs)) s' → Rs (.ok (.ret .none)) s') :
    ∀ (k i : Nat) (s : Shared), xs.length - i = k → i ≤ xs.length → Inv X pins σ (upd H q (.lst (xs.take i))) s → s.heap.IsListIter it l i → codeAny (model X.prog X.w) A1 (.builtin "list.extend.loop" ⟨[.ref q, .ref it, .none], []⟩) Rs s := by
  have hlq : l ≠ q := ne_of_none hx hq
  have hin : A1.in1.handled = none := by simp [hh]
  intro k
  induction k with
  | zero =>
    intro i s hk hi I st
    have ei : i = xs.length := by omega
    obtain ⟨its, rv, p, _⟩ := I.list (SqL.of (show (upd H q (.lst (xs.take i))) l = some (.lst xs) by rw [upd_ne hlq]; exact hx))
    have hl := rv.length
    obtain ⟨f0, f1, f2, f3, f4, f5⟩ := fp (xs.take i)
    refine codeAny_builtin PySem.F.entry_extend_loop ?_
    rw [Around.under_plainId PySem.F.plain_extend_loop _]
    show wpAny _ A1.in1 (pyNext (.ref it) >>= _) _ _ s
    refine wpAny_bind (wpAny_pyNext_list_end hin st p.isList (by simp; omega) fun h' eb => wpAny_pure (hdone _ ?_))
    have I1 : Inv X pins σ (upd H q (.lst (xs.take i))) { s with heap := h' } := I.turned (t' := s.toks) (fun b o hb e => eb b o hb e) f0 f1 f3 f4 f5
    rw [ei, List.take_of_length_le (Nat.le_refl _)] at I1
    exact I1
  | succ k ih =>
    intro i s hk hi I st
    have hlt : i < xs.length := by omega
    obtain ⟨its, rv, p, _⟩ := I.list (SqL.of (show (upd H q (.lst (xs.take i))) l = some (.lst xs) by rw [upd_ne hlq]; exact hx))
    have hxi : xs[i]? = some xs[i] := List.getElem?_eq_getElem hlt
    obtain ⟨u, hu, ru⟩ := rv.get hxi
    obtain ⟨f0, f1, f2, f3, f4, f5⟩ := fp (xs.take i)
    refine codeAny_builtin PySem.F.entry_extend_loop ?_
    rw [Around.under_plainId PySem.F.plain_extend_loop _]
    show wpAny _ A1.in1 (pyNext (.ref it) >>= _) _ _ s
    refine wpAny_bind (wpAny_pyNext_list_item st p.isList (x := u) (by simpa using hu) fun h' st' sb => ?_)
    have I1 : Inv X pins σ (upd H q (.lst (xs.take i))) { s with heap := h' } := I.turned (t' := s.toks) (fun b o hb e => (sb.2 b hb).trans e) f0 f1 f3 f4 f5
    show wpAny _ A1.in1 (updateSeq q (·.push u) >>= _) _ _ _
    obtain ⟨z, its2, k2, r2, hl2, e⟩ := I1.lstM upd_same
    have tl : (xs.take i).length = i := by rw [List.length_take]; omega
    refine wpAny_bind (wpAny_updateSeq e rfl (wpAny_pure ⟨plainId_quiet PySem.F.plain_extend_loop _, ?_⟩) (by rw [List.size_toArray]; omega) (by show (its2.toArray.push u).size ≤ sizeLine + 1; rw [Array.size_push, List.size_toArray, sizeLine_eq]; omega))
    have I2 := I1.lset (f := (·.push u)) (its := its2) (its' := its2 ++ [u]) (ys := xs.take i ++ [xs[i]]) (t' := s.toks) upd_same e (by simp) (r2.append (.cons ru .nil)) (by rw [List.length_append, tl, sizeLine_eq]; show i + 1 ≤ _; omega)
    rw [upd_upd] at I2
    have et : xs.take (i + 1) = xs.take i ++ [xs[i]] := by rw [List.take_add_one, hxi]; rfl
    rw [← et] at I2
    refine ih (i + 1) _ (by omega) hlt I2 (st'.at fun o e2 => ?_)
    have niq : it ≠ q := fun z => by rw [z, upd_same] at f0; cases f0
    exact (Heap.get?_update_ne _ _ _ _ niq).trans e2
/-- an empty list behind all -/
abbrev laidL (s : Shared) : Shared := { s with heap := s.heap.push { cls := .type "list", data := .seq #[] } }
/-- list(o) -/
def rListOwn (C : Addr) (f : Str) : List V → Hp → VK → Prop := fun vs H Q => ∃ (a l : Addr) (xs : List V), vs = [.ref a] ∧ HasL H C a f l xs ∧ xs.length ≤ 1000 ∧ ∀ q, H q = none → Q (.ref q) (upd H q (.lst xs))
theorem HasL.off {q : Addr} {o : HO} (h : HasL H C a f l xs) (hq : H q = none) : HasL (upd H q o) C a f l xs := by
  obtain ⟨dx, fs, ha, hl, hx⟩ := h
  exact ⟨dx, fs, by rw [upd_ne (ne_of_none ha hq)]; exact ha, hl, by rw [upd_ne (ne_of_none hx hq)]; exact hx⟩
theorem call_listOwnF (hc : X.calm = true) (oc : OwnIt X.K C fi) (FI : FnS X.prog X.w X.K X.mg X.base n fi fdI ["self"] (spIterF C f)) (bI : Binds X.K fdI ["self"] [])
    (ol : OwnLen X.K C fl) (FL : FnOk X.prog X.w X.K X.mg X.base CX0 n fl fdL ["self"] (spLenF C f)) (bL : Binds X.K fdL ["self"] []) (hr : Room (n + 3) X.A) : CallR X (.type "list") (rListOwn C f) := by
  intro pins s σ H vs us Q I rv h
  obtain ⟨a, l, xs, rfl, hh, hz, q⟩ := h
  obtain ⟨u, rfl, ru⟩ := rv.one
  cases ru
  have sb2 : Sub X (n + 1) X.A.in1.in1 := Sub.in1 (Sub.in1 (⟨hr, rfl⟩ : Sub X (n + 3) X.A))
  have sb3 : Sub X n X.A.in1.in1.in1 := Sub.in1 sb2
  have sb1 : Sub X n X.A.in1.in1 := ⟨sb2.room.mono (Nat.le_succ _), sb2.fr⟩
  refine callType_codes (Q₁ := fun o z => o = .ref s.heap.objs.size ∧ z = laidL s) PySem.F.called_list (PySem.F.typeCall_list_1 _) PySem.F.entry_list_init (code_list_new _ ⟨rfl, rfl⟩) ?_
  rintro o z ⟨rfl, rfl⟩
  have hS : (laidL s).heap.get? s.heap.objs.size = some { cls := .type "list", data := .seq #[] } := Heap.get?_push_size _ rfl
  refine ⟨⟨_, hS, by rfl⟩, by exact PySem.F.args_list_init_2 _ _, ?_⟩
  have fr : H s.heap.objs.size = none := I.hok.fresh (Nat.le_refl _)
  obtain ⟨S, eS⟩ : ∃ S, S = s.heap.objs.size := ⟨_, rfl⟩
  rw [← eS] at fr hS ⊢
  have I1 : Inv X pins σ (upd H S (.lst [])) { s with heap := s.heap.push { cls := .type "list", data := .seq #[] } } := by
    rw [eS]
    exact I.lnew (its := []) (t' := s.toks) .nil (Nat.zero_le _)
  show wpAny _ _ (do let old ← Builtin.List.listItems (.ref S); Builtin.List.listUpdate (.ref S) (fun _ => #[]); letGo old.toList.reverse; Builtin.List.listExtendWith (.ref S) (.ref a) .none) _ _ _
  refine wpAny_bind ?_
  unfold Builtin.List.listItems
  refine wpAny_bind (wpAny_seqItems hS rfl (wpAny_pure ?_))
  show wpAny _ _ (updateSeq S (fun _ => #[]) >>= fun _ => letGo (#[] : Array Value).toList.reverse >>= fun _ => Builtin.List.listExtendWith (.ref S) (.ref a) .none) _ _ _
  refine wpAny_bind (wpAny_updateSeq hS rfl ?_)
  have I2 := I1.lset (t' := s.toks) (ys := []) (its' := []) (its := []) (f := fun _ => #[]) upd_same hS rfl .nil (Nat.zero_le _)
  rw [upd_upd] at I2
  refine wpAny_bind (wpAny_letGo ?_)
  generalize ({ s with heap := (s.heap.push { cls := .type "list", data := .seq #[] }).update S (Obj.mapSeq fun _ => #[]) } : Shared) = s2 at I2 ⊢
  have hh2 := hh.off (o := .lst []) fr
  obtain ⟨dx, fs, ha, hl, hx⟩ := id hh
  have hSa : S ≠ a := fun z => by rw [z, ha] at fr; cases fr
  obtain ⟨dx2, fs2, ha2, _⟩ := id hh2
  obtain ⟨mA, J, _⟩ := ins_get I2.hok ha2
  obtain ⟨od, J, _⟩ := J.look
  unfold Builtin.List.listExtendWith
  refine wpAny_bind (J.type.here ?_)
  have h1 : Builtin.List.listSameRef (.ref S) (.ref a) = false := by simp [Builtin.List.listSameRef, hSa]
  have h2 : (Value.ref C == Value.type "list") = false := rfl
  have h3 : (Value.ref C == Value.type "tuple") = false := rfl
  simp only [h1, h2, h3, Bool.or_false, Bool.false_eq_true, if_false]
  refine wpAny_bind (iter_own sb1 oc FI bI I2 hh2 fun it s3 I3 itn fp0 => ?_)
  refine wpAny_bind (wpAny_holding (hint_own sb3 ol FL bL I3 (hh2.off itn) hz fun b s4 I4 => ?_))
  have eo := itO_get I4 upd_same
  have st : s4.heap.IsListIter it l 0 := ⟨_, eo, rfl, rfl⟩
  have fp := inv_fp I4 (a := it) upd_same fp0
  have I5 := inv_drop I4 (a := it) (φ := _) (by exact upd_same)
  rw [dropH_upd itn] at fp I5
  have nis : it ≠ S := fun z => by rw [z, upd_same] at itn; cases itn
  have fpA : ∀ acc, FpOk X pins (upd H S (.lst acc)) it := fun acc => by
    obtain ⟨f0, f1, f2, f3, f4, f5⟩ := fp
    refine ⟨?_, f1, f2, f3, f4, f5⟩
    rw [upd_ne nis] at f0 ⊢
    exact f0
  have hdn : X.A.in1.handled = none := by simp [I.ok.hd hc]
  have hgo : ∀ s5, Inv X pins σ (upd H S (.lst [])) s5 → s5.heap.IsListIter it l 0 → codeAny (model X.prog X.w) X.A.in1 (.builtin "list.extend.loop" ⟨[.ref S, .ref it, .none], []⟩) (wants (fun r s₂ => r = .none ∧ EP X pins σ Q (.ref S) s₂) X.xe) s5 := fun s5 J5 st5 =>
    ext_own (A1 := X.A.in1) (it := it) (q := S) hdn fr hx hz fpA (fun s' J' => ⟨rfl, .ref S, _, J', rfl, q S fr⟩) (xs.length - 0) 0 s5 rfl (Nat.zero_le _) J5 st5
  refine wpAny_ite_split (fun _ => ?_) (fun _ => wpAny_pure ⟨plainId_quiet PySem.F.plain_extend_loop _, hgo s4 I5 st⟩)
  obtain ⟨z, its, k, r3, hl3, e3⟩ := I5.lstM upd_same
  cases r3
  refine wpAny_bind (wpAny_rule ?_)
  refine wpAny_bind ?_
  show wpAny _ _ (updateSeq S (·.push .none) >>= fun _ => updateSeq S (·.pop)) _ _ _
  refine wpAny_bind (wpAny_updateSeq e3 rfl ?_)
  have I6 := I5.lset (f := (·.push Value.none)) (its' := [Value.none]) (ys := [.non]) (t' := s4.toks) upd_same e3 (by simp) (.cons rfl .nil) (by rw [List.length_singleton, sizeLine_eq]; decide)
  rw [upd_upd] at I6
  obtain ⟨z4, its4, k4, r4, hl4, e4⟩ := I6.lstM upd_same
  obtain ⟨u4, rfl, ru4⟩ := r4.one
  refine wpAny_updateSeq e4 rfl ?_ (by show 1 ≤ sizeLine; rw [sizeLine_eq]; decide) (by show 0 ≤ sizeLine + 1; exact Nat.zero_le _)
  have I7 := I6.lset (f := (·.pop)) (its := [u4]) (its' := []) (ys := []) (t' := s4.toks) upd_same e4 (by rfl) .nil (Nat.zero_le _)
  rw [upd_upd] at I7
  refine wpAny_pure ⟨plainId_quiet PySem.F.plain_extend_loop _, ?_⟩
  have st5 : ((s4.heap.update S (Obj.mapSeq fun x => x.push Value.none)).update S (Obj.mapSeq fun x => x.pop)).IsListIter it l 0 :=
    Heap.IsListIter.at (Heap.IsListIter.at st fun o e => (Heap.get?_update_ne _ _ _ _ nis).trans e) fun o e => (Heap.get?_update_ne _ _ _ _ nis).trans e
  exact hgo _ I7 st5
end
end Qk
set_option maxRecDepth 100000
set_option maxHeartbeats 4000000
namespace Qk
open PySem PySem.Spec PyProof.Rows L2
def TL (H : Hp) (vs : List V) (rs : List (List Str)) : Prop := Paired (fun (x : V) (r : List Str) => ∃ t, x = .ref t ∧ H t = some (.tup (r.map V.str))) vs rs
theorem TL.len {H : Hp} {vs : List V} {rs : List (List Str)} (h : TL H vs rs) : vs.length = rs.length := Paired.length h
theorem TL.same {H H' : Hp} {vs : List V} {rs : List (List Str)} (s : Same H H') (h : TL H vs rs) : TL H' vs rs := Paired.mapP h fun x r ⟨t, e, z⟩ => ⟨t, e, s _ _ z⟩
theorem TL.off {H : Hp} {p : Addr} {xs zs : List V} {vs : List V} {rs : List (List Str)} (hp : H p = some (.lst xs)) (h : TL H vs rs) : TL (upd H p (.lst zs)) vs rs := Paired.mapP h fun x r ⟨t, e, z⟩ => ⟨t, e, by
  rw [upd_ne fun g => by rw [g, hp] at z; cases z]
  exact z⟩
theorem TL.at_ {H : Hp} {vs : List V} {rs : List (List Str)} (h : TL H vs rs) {i : Nat} {x : V} (hi : vs[i]? = some x) : ∃ (t : Addr) (r : List Str), x = .ref t ∧ rs[i]? = some r ∧ H t = some (.tup (r.map V.str)) := by
  induction h generalizing i with
  | nil => simp at hi
  | @cons x0 r0 vs' rs' h1 _ ih =>
    cases i with
    | zero =>
      simp only [List.getElem?_cons_zero, Option.some.injEq] at hi
      subst hi
      obtain ⟨t, e, z⟩ := h1
      exact ⟨t, r0, e, rfl, z⟩
    | succ i => exact ih hi
theorem TL.snoc {H : Hp} {vs : List V} {rs : List (List Str)} {t : Addr} {r : List Str} (h : TL H vs rs) (ht : H t = some (.tup (r.map V.str))) : TL H (vs ++ [.ref t]) (rs ++ [r]) := paired_app h (.cons ⟨t, rfl, ht⟩ .nil)
theorem QL.off {H : Hp} {p : Addr} {xs zs : List V} {vs : List V} {qs : List Qd} (hp : H p = some (.lst xs)) (h : QL H vs qs) : QL (upd H p (.lst zs)) vs qs := Paired.mapP h fun x r ⟨t, e, c, z1, z2⟩ => ⟨t, e, c, by
  rw [upd_ne fun g => by rw [g, hp] at z1; cases z1]
  exact z1, by
  rw [upd_ne fun g => by rw [g, hp] at z2; cases z2]
  exact z2⟩
theorem QL.snoc {H : Hp} {vs : List V} {qs : List Qd} {t : Addr} {q : Qd} (h : QL H vs qs) (ht : QAt H t q.1 q.2) : QL H (vs ++ [.ref t]) (qs ++ [q]) := paired_app h (.cons ⟨t, rfl, ht⟩ .nil)
theorem QL.at_ {H : Hp} {xs : List V} {qs : List Qd} (h : QL H xs qs) {i : Nat} {x : V} (hi : xs[i]? = some x) : ∃ (t : Addr) (q : Qd), x = .ref t ∧ qs[i]? = some q ∧ QAt H t q.1 q.2 := by
  induction h generalizing i with
  | nil => simp at hi
  | @cons x0 q0 xs' qs' h1 _ ih =>
    cases i with
    | zero =>
      simp only [List.getElem?_cons_zero, Option.some.injEq] at hi
      subst hi
      obtain ⟨t, e, z⟩ := h1
      exact ⟨t, q0, e, rfl, z⟩
    | succ i => exact ih hi
/-- one more behind the list at p -/
theorem nodup_leQ : ∀ (l D : List Qd), l.Nodup → (∀ x ∈ l, x ∈ D) → l.length ≤ D.length
  | [], _, _, _ => Nat.zero_le _
  | x :: l, D, hn, hs => by
    obtain ⟨h1, h2⟩ := List.nodup_cons.mp hn
    have hx : x ∈ D := hs x List.mem_cons_self
    have ih := nodup_leQ l (D.erase x) h2 fun y hy => (List.mem_erase_of_ne (by rintro rfl; exact h1 hy)).2 (hs y (List.mem_cons_of_mem _ hy))
    have e := List.length_erase_of_mem hx
    have hp : 0 < D.length := List.length_pos_of_mem hx
    rw [List.length_cons]
    omega
theorem eqv_qsAll : ∀ (xs ys : List Qd), PyData.eqvAll (xs.map dq) (ys.map dq) = decide (xs = ys)
  | [], [] => by simp [PyData.eqvAll]
  | [], y :: ys => by simp [PyData.eqvAll]
  | x :: xs, [] => by simp [PyData.eqvAll]
  | x :: xs, y :: ys => by
    show PyData.eqvAll (dq x :: xs.map dq) (dq y :: ys.map dq) = _
    rw [PyData.eqvAll, eqv_qsAll xs ys, eqv_q]
    by_cases h1 : x = y
    · subst h1
      by_cases h2 : xs = ys
      · subst h2
        simp
      · simp [h2]
    · simp [h1]
theorem eqv_qs (xs ys : List Qd) : PyData.eqv (.list (xs.map dq)) (.list (ys.map dq)) = decide (xs = ys) := by
  rw [PyData.eqv, eqv_qsAll]
end Qk
set_option maxRecDepth 100000
set_option maxHeartbeats 4000000
set_option maxRecDepth 100000
set_option maxHeartbeats 4000000
namespace Qk
open PySem PySem.Spec PyProof.Rows L2
section
variable {P : Program} {w : World} {A : Around} {R : Result → Shared → Prop} {s : Shared} {elt t0 i0 t1 i1 : Expr} {scope : Scope} {pos : Pos} {it acc : Value} {env : Env}
/-- nothing is raised -/
abbrev wF {α : Type} (P : Program) (w : World) (A : Around) (t : Sem α) (Q : α → Shared → Prop) (s : Shared) : Prop := wpAny (model P w) A t Q (fun _ _ => False) s
theorem wF.any {α : Type} {t : Sem α} {Q Q' : α → Shared → Prop} {E : Value → Shared → Prop} (h : wF P w A t Q s) (k : ∀ a s, Q a s → Q' a s) : wpAny (model P w) A t Q' E s := wpAny_mono h k fun _ _ z => False.elim z
end
end Qk
set_option maxRecDepth 100000
set_option maxHeartbeats 4000000
namespace Qk
open PySem PySem.Spec PyProof.Rows L2
/-- a loop over J: Done behind it; each turn from a drawn value has to come to the word that is handed to it -/
def Loop (J : It) (Done : Hp → Prop) (Body : V → Hp → (Hp → Prop) → Prop) (H : Hp) : Prop :=
  ∃ W : Nat → Nat → Hp → Prop, (∃ m, W 0 m H) ∧ ∀ i m G, W i m G → (J.stop i G ∧ Done G) ∨ (J.go i G ∧ ∃ Nx : Hp → Prop, (∀ G', Nx G' → ∃ m', m' < m ∧ W (i + 1) m' G') ∧ ∀ x G', J.yld i G x G' → Body x G' Nx)
theorem Loop.list {K : PySem.W.Frag} {a : Addr} {xs : List V} {Done : Hp → Prop} {Body : V → Hp → (Hp → Prop) → Prop} {H : Hp} (Pv : Nat → Hp → Prop) (h0 : Pv 0 H) (hl : ∀ i G, i ≤ xs.length → Pv i G → SqL K G a xs)
    (one : ∀ i x G, xs[i]? = some x → Pv i G → Body x G (Pv (i + 1))) (end_ : ∀ G, Pv xs.length G → Done G) : Loop (Itl K a) Done Body H := by
  refine ⟨fun i m G => m + i = xs.length ∧ Pv i G, ⟨xs.length, rfl, h0⟩, fun i m G hw => ?_⟩
  obtain ⟨hm, p⟩ := hw
  have q := hl i G (by omega) p
  rcases Nat.lt_or_ge i xs.length with lt | ge
  · have g : xs[i]? = some xs[i] := List.getElem?_eq_getElem lt
    refine .inr ⟨⟨xs, xs[i], q, g⟩, Pv (i + 1), fun G' p' => ⟨m - 1, by omega, by omega, p'⟩, fun x G' y => ?_⟩
    obtain ⟨rfl, y⟩ := y
    exact one i x _ (y xs q) p
  · have e : i = xs.length := by omega
    exact .inl ⟨⟨xs, q, ge⟩, end_ G (e ▸ p)⟩
theorem Loop.tup {K : PySem.W.Frag} {a : Addr} {xs : List V} {Done : Hp → Prop} {Body : V → Hp → (Hp → Prop) → Prop} {H : Hp} (Pv : Nat → Hp → Prop) (h0 : Pv 0 H) (hl : ∀ i G, i ≤ xs.length → Pv i G → SqT K G a xs)
    (one : ∀ i x G, xs[i]? = some x → Pv i G → Body x G (Pv (i + 1))) (end_ : ∀ G, Pv xs.length G → Done G) : Loop (Itt K a) Done Body H := by
  refine ⟨fun i m G => m + i = xs.length ∧ Pv i G, ⟨xs.length, rfl, h0⟩, fun i m G hw => ?_⟩
  obtain ⟨hm, p⟩ := hw
  have q := hl i G (by omega) p
  rcases Nat.lt_or_ge i xs.length with lt | ge
  · have g : xs[i]? = some xs[i] := List.getElem?_eq_getElem lt
    refine .inr ⟨⟨xs, xs[i], q, g⟩, Pv (i + 1), fun G' p' => ⟨m - 1, by omega, by omega, p'⟩, fun x G' y => ?_⟩
    obtain ⟨rfl, y⟩ := y
    exact one i x _ (y xs q) p
  · have e : i = xs.length := by omega
    exact .inl ⟨⟨xs, q, ge⟩, end_ G (e ▸ p)⟩
end Qk
set_option maxRecDepth 100000
set_option maxHeartbeats 4000000
set_option maxRecDepth 100000
set_option maxHeartbeats 4000000
namespace Qk
open PySem PySem.Spec PyProof.Rows L2
/-- the row of a text -/
def RowT (P : Program) (w : World) (e : Int × Value) (x : Str) : Prop := e.1 = (strKind P w).hash x ∧ ∃ tk, e.2 = Value.str x tk
structure Txts (P : Program) (w : World) (h : Heap) (a : Addr) (xs : List Str) (o : Obj) (es : Array (Int × Value)) (ep : Nat) (t : SetTable) : Prop where
  ob : h.get? a = some o
  ex : o.ExactSet
  da : o.data = .set es ep t
  rows : Paired (RowT P w) es.toList xs
  nd : xs.Nodup
  few : es.size < scanBound
  fit : t.fits es.size = true
  ris : Ris t.place.toList
  led : w.params.followText "set-order" = true ∨ t.led = true
def TxtSet (P : Program) (w : World) (h : Heap) (a : Addr) (xs : List Str) : Prop := ∃ o es ep t, Txts P w h a xs o es ep t
section
variable {P : Program} {w : World} {h : Heap} {a : Addr} {xs : List Str} {o : Obj} {es : Array (Int × Value)} {ep : Nat} {t : SetTable}
theorem TxtSet.keep {h' : Heap} (R : TxtSet P w h a xs) (k : ∀ u, h.get? a = some u → h'.get? a = some u) : TxtSet P w h' a xs := by
  obtain ⟨o, es, ep, t, r⟩ := R
  exact ⟨o, es, ep, t, { r with ob := k _ r.ob }⟩
theorem TxtSet.fresh (w : World) (hh : h.get? a = some { cls := .type "set", dict := none, data := .set #[] 0 (.fresh 0 0 (!w.params.followText "set-order")) }) : TxtSet P w h a [] := by
  refine ⟨_, #[], 0, _, hh, ⟨rfl, rfl, rfl⟩, rfl, .nil, .nil, by decide, by rfl, .nil, ?_⟩
  show w.params.followText "set-order" = true ∨ (!w.params.followText "set-order") = true
  cases w.params.followText "set-order"
  · exact .inr rfl
  · exact .inl rfl
end
end Qk
set_option maxRecDepth 100000
set_option maxHeartbeats 4000000
set_option maxRecDepth 100000
set_option maxHeartbeats 4000000
set_option maxRecDepth 100000
set_option maxHeartbeats 4000000
set_option maxRecDepth 100000
set_option maxHeartbeats 4000000
namespace Qk
open PySem PySem.Spec PyProof.Rows L2
/-- an error of the class at C stands at a -/
def Er (H : Hp) (a C : Addr) : Prop := H a = some (exo a C none) ∨ ∃ d fs, H a = some (exo a C (some d)) ∧ H d = some (exd d fs)
theorem Er.same {H H' : Hp} {a C : Addr} (s : Same H H') (h : Er H a C) : Er H' a C := by
  rcases h with h | ⟨d, fs, h, hd⟩
  · exact .inl (s _ _ h)
  · exact .inr ⟨d, fs, s _ _ h, s _ _ hd⟩
end Qk
set_option maxRecDepth 100000
set_option maxHeartbeats 4000000
namespace Qk
open PySem PySem.Spec PyProof.Rows L2
mutual
inductive D1 (H : Hp) : V → PyData → Prop
  | non : D1 H .non .none
  | bl (b : Bool) : D1 H (.bl b) (.bool b)
  | int (i : Int) : D1 H (.int i) (.int i)
  | str (x : Str) : D1 H (.str x) (.str x)
  | lst {a : Addr} {xs : List V} {ds : List PyData} : H a = some (.lst xs) → a ≠ sysModules → D1A H xs ds → D1 H (.ref a) (.list ds)
  | tup {a : Addr} {xs : List V} {ds : List PyData} : H a = some (.tup xs) → D1A H xs ds → D1 H (.ref a) (.tuple ds)
inductive D1A (H : Hp) : List V → List PyData → Prop
  | nil : D1A H [] []
  | cons {v : V} {vs : List V} {d : PyData} {ds : List PyData} : D1 H v d → D1A H vs ds → D1A H (v :: vs) (d :: ds)
end
def kD : Key → PyData
  | .inl i => .int i
  | .inr x => .str x
inductive D2K (H : Hp) : List (Key × V) → List (PyData × PyData) → Prop
  | nil : D2K H [] []
  | cons {k : Key} {v : V} {d : PyData} {kvs : List (Key × V)} {D : List (PyData × PyData)} : D1 H v d → D2K H kvs D → D2K H ((k, v) :: kvs) ((kD k, d) :: D)
def D2 (H : Hp) (v : V) (d : PyData) : Prop := D1 H v d ∨ ∃ a kvs D, v = .ref a ∧ H a = some (.dK kvs) ∧ D2K H kvs D ∧ d = .dict D
section
variable {X : Cx} {pins : List (Addr × Obj)} {σ : L2.St} {H : Hp} {s : Shared}
mutual
theorem D1.reads (I : Inv X pins σ H s) : ∀ (d : PyData) (v : V) (u : Value), D1 H v d → RelV v u → ∃ as, Reads s.heap u d as ∧ sysModules ∉ as
  | .none, _, _, h, r => by
    cases h
    cases r
    exact ⟨_, Reads.none, by simp⟩
  | .bool b, _, _, h, r => by
    cases h
    cases r
    exact ⟨_, Reads.bool b, by simp⟩
  | .int i, _, _, h, r => by
    cases h
    obtain ⟨t, rfl⟩ := r
    exact ⟨_, Reads.int i t, by simp⟩
  | .str x, _, _, h, r => by
    cases h
    obtain ⟨t, rfl⟩ := r
    exact ⟨_, Reads.str x t, by simp⟩
  | .list ds, _, _, h, r => by
    cases h with
    | lst hs hn ha =>
      cases r
      obtain ⟨its, rv, ⟨o, n, ho, hc, _, hd⟩, _⟩ := I.list (SqL.of hs)
      obtain ⟨as, hr, ns⟩ := D1.readsAll I ds _ its ha rv
      refine ⟨_, Reads.list ho hc hd hr, fun z => ?_⟩
      rcases List.mem_cons.mp z with e | e
      · exact hn e.symm
      · exact ns e
  | .tuple ds, _, _, h, r => by
    cases h with
    | tup hs ha =>
      cases r
      obtain ⟨its, rv, ⟨o, ho, hc, n, hd⟩, _⟩ := I.tuple (SqT.of hs)
      obtain ⟨as, hr, ns⟩ := D1.readsAll I ds _ its ha rv
      exact ⟨_, Reads.tuple ho hc hd hr, ns⟩
  | .dict _, _, _, h, _ => by cases h
theorem D1.readsAll (I : Inv X pins σ H s) : ∀ (ds : List PyData) (vs : List V) (us : List Value), D1A H vs ds → Vals vs us → ∃ as, ReadsAll s.heap us ds as ∧ sysModules ∉ as
  | [], _, _, h, r => by
    cases h
    cases r
    exact ⟨_, ReadsAll.nil, by simp⟩
  | d :: ds, _, _, h, r => by
    cases h with
    | cons h1 h2 =>
      cases r with
      | cons r1 r2 =>
        obtain ⟨as, q1, n1⟩ := D1.reads I d _ _ h1 r1
        obtain ⟨bs, q2, n2⟩ := D1.readsAll I ds _ _ h2 r2
        refine ⟨_, ReadsAll.cons q1 q2, fun z => ?_⟩
        rcases List.mem_append.mp z with e | e
        · exact n1 e
        · exact n2 e
end
theorem D2K.reads (I : Inv X pins σ H s) {kvs : List (Key × V)} {D : List (PyData × PyData)} (h : D2K H kvs D) : ∀ (vs : List (Key × Value)) (es : List DictEntry), KV kvs vs → Pairs (mixKind X.prog X.w) es vs →
    ∃ as bs, ReadsAll s.heap (es.map (·.key)) (D.map (·.1)) as ∧ ReadsAll s.heap (es.map (·.val)) (D.map (·.2)) bs ∧ sysModules ∉ as ∧ sysModules ∉ bs := by
  induction h with
  | nil =>
    intro vs es r p
    cases r
    cases p
    exact ⟨_, _, ReadsAll.nil, ReadsAll.nil, by simp, by simp⟩
  | @cons k v d kvs D h1 h2 ih =>
    intro vs es r p
    cases r with
    | @cons _ q _ vs' r1 r2 =>
      cases p with
      | @cons e _ es' _ p1 p2 p3 =>
        obtain ⟨as, bs, q1, q2, n1, n2⟩ := ih _ _ r2 p3
        obtain ⟨cs, q3, n3⟩ := D1.reads I d v e.val h1 (by rw [p2]; exact r1.2)
        have hk : ∃ ds, Reads s.heap e.key (kD k) ds ∧ sysModules ∉ ds := by
          have e1 : k = q.1 := r1.1
          rw [← e1] at p1
          rcases keyIs_shape (show keyIs k e.key = true from p1) with ⟨i, t, rfl, e2⟩ | ⟨x, t, rfl, e2⟩
          · rw [e2]
            exact ⟨_, Reads.int i t, by simp⟩
          · rw [e2]
            exact ⟨_, Reads.str x t, by simp⟩
        obtain ⟨ds, q4, n4⟩ := hk
        refine ⟨_, _, ReadsAll.cons q4 q1, ReadsAll.cons q3 q2, fun z => ?_, fun z => ?_⟩
        · rcases List.mem_append.mp z with e | e
          · exact n4 e
          · exact n1 e
        · rcases List.mem_append.mp z with e | e
          · exact n3 e
          · exact n2 e
theorem D2.reads (I : Inv X pins σ H s) {v : V} {d : PyData} {u : Value} (h : D2 H v d) (r : RelV v u) : ∃ as, Reads s.heap u d as ∧ sysModules ∉ as := by
  rcases h with h | ⟨a, kvs, D, rfl, ha, hk, rfl⟩
  · exact D1.reads I d v u h r
  · cases r
    obtain ⟨z, hd, vs, rel, ⟨o, es, ep, h1, h2, h3, h4, h5, h6⟩⟩ := dk_of I.hok ha
    obtain ⟨as, bs, q1, q2, n1, n2⟩ := hk.reads I vs es.toList rel h5
    refine ⟨_, Reads.dict h1 h2.1 h3 q1 q2, fun z => ?_⟩
    rcases List.mem_append.mp z with e | e
    · rcases List.mem_cons.mp e with e | e
      · rw [← e] at hd
        simp at hd
      · exact n1 e
    · exact n2 e
end
end Qk
set_option maxRecDepth 100000
set_option maxHeartbeats 4000000
namespace Qk
open PySem PySem.Spec PyProof.Rows L2
/-- an error with its one field -/
def ErF (H : Hp) (a C : Addr) (f : Str) (x : V) : Prop := ∃ d, H a = some (exo a C (some d)) ∧ H d = some (exd d [(f, x)])
theorem ErF.same {H H' : Hp} {a C : Addr} {f : Str} {x : V} (s : Same H H') (h : ErF H a C f x) : ErF H' a C f x := by
  obtain ⟨d, h1, h2⟩ := h
  exact ⟨d, s _ _ h1, s _ _ h2⟩
mutual
theorem D1.same {H H' : Hp} (s : Same H H') : ∀ (d : PyData) (v : V), D1 H v d → D1 H' v d
  | .none, _, h => by
    cases h
    exact .non
  | .bool b, _, h => by
    cases h
    exact .bl b
  | .int i, _, h => by
    cases h
    exact .int i
  | .str x, _, h => by
    cases h
    exact .str x
  | .list ds, _, h => by
    cases h with
    | lst a b c => exact .lst (s _ _ a) b (D1.sameAll s ds _ c)
  | .tuple ds, _, h => by
    cases h with
    | tup a c => exact .tup (s _ _ a) (D1.sameAll s ds _ c)
  | .dict _, _, h => by cases h
theorem D1.sameAll {H H' : Hp} (s : Same H H') : ∀ (ds : List PyData) (vs : List V), D1A H vs ds → D1A H' vs ds
  | [], _, h => by
    cases h
    exact .nil
  | d :: ds, _, h => by
    cases h with
    | cons a b => exact .cons (D1.same s d _ a) (D1.sameAll s ds _ b)
end
def tyD : PyData → String
  | .none => "NoneType"
  | .bool _ => "bool"
  | .int _ => "int"
  | .str _ => "str"
  | .list _ => "list"
  | .tuple _ => "tuple"
  | .dict _ => "dict"
theorem D1.ty {K : PySem.W.Frag} {H : Hp} {v : V} {d : PyData} (h : D1 H v d) : TyX K H v (.type (tyD d)) := by
  cases h with
  | non => exact .base .non
  | bl b => exact .base (.bl b)
  | int i => exact .base (.int i)
  | str x => exact .base (.str x)
  | lst a b c => exact .base (.lst a)
  | tup a c => exact .base (.tup a)
theorem ErF.off {H : Hp} {a b C : Addr} {f : Str} {x : V} {o u : HO} (h : ErF H a C f x) (hb : H b = some o) (ho : ∀ φ, o ≠ .ext φ) : ErF (L2.upd H b u) a C f x := by
  obtain ⟨d, h1, h2⟩ := h
  refine ⟨d, ?_, ?_⟩
  · rw [upd_ne (ne_of h1 hb fun z => ho _ z.symm)]
    exact h1
  · rw [upd_ne (ne_of h2 hb fun z => ho _ z.symm)]
    exact h2
theorem D2K.same {H H' : Hp} (s : Same H H') {kvs : List (Key × V)} {D : List (PyData × PyData)} (h : D2K H kvs D) : D2K H' kvs D := by
  induction h with
  | nil => exact .nil
  | cons h1 _ ih => exact .cons (D1.same s _ _ h1) ih
theorem D2.same {H H' : Hp} (s : Same H H') {v : V} {d : PyData} (h : D2 H v d) : D2 H' v d := by
  rcases h with h | ⟨a, kvs, D, rfl, ha, hk, rfl⟩
  · exact .inl (D1.same s _ _ h)
  · exact .inr ⟨a, kvs, D, rfl, s _ _ ha, hk.same s, rfl⟩
end Qk
set_option maxRecDepth 100000
set_option maxHeartbeats 4000000
namespace Qk
open PySem PySem.Spec PyProof.Rows L2
theorem PI.or {X : Cx} {tg it : Expr} {wi wi' : TI} (h : PI X tg it wi) (h' : PI X tg it wi') : PI X tg it (fun σ H R => wi σ H R ∨ wi' σ H R) :=
  ⟨fun pins s σ H R I q => q.elim (h.run pins s σ H R I) (h'.run pins s σ H R I)⟩
theorem dok_qs3 {qs : List Qd} (h : ∀ q ∈ qs, Qfine q) (hl : qs.length ≤ 300) : DOk (.list (qs.map dq)) :=
  ⟨fine_qs h, by show PyData.depthAll _ + 1 ≤ 50; have := depth_qs qs; omega, by show costAll _ + 3 ≤ _; have := cost_qs h; omega⟩
/-- a row as data -/
def dR (r : List Str) : PyData := .tuple (r.map PyData.str)
theorem TL.dp {K : PySem.W.Frag} {H : Hp} : ∀ {xs : List V} {rs : List (List Str)}, TL H xs rs → DpAll K H xs (rs.map dR)
  | _, _, .nil => .nil
  | _, _, .cons ⟨t, e, z⟩ r => by
    subst e
    exact .cons (.tup (SqT.of z) (dp_strs _)) (TL.dp r)
theorem fine_r {r : List Str} (h : Row r) : fine (dR r) = true := fine_strs fun c hc => menu_okS c (h.sub c hc)
theorem cost_r {r : List Str} (h : Row r) : cost (dR r) ≤ 2600 := by
  have := h.le
  show costAll (r.map PyData.str) + 3 ≤ _
  rw [cost_strs]
  omega
theorem fine_rs : ∀ {rs : List (List Str)}, (∀ r ∈ rs, Row r) → fineAll (rs.map dR) = true
  | [], _ => rfl
  | r :: rs, h => by
    show (fine (dR r) && fineAll (rs.map dR)) = true
    rw [fine_rs fun q hq => h q (List.mem_cons_of_mem _ hq), Bool.and_true]
    exact fine_r (h r List.mem_cons_self)
theorem cost_rs : ∀ {rs : List (List Str)}, (∀ r ∈ rs, Row r) → costAll (rs.map dR) ≤ 2602 * rs.length
  | [], _ => Nat.le_refl 0
  | r :: rs, h => by
    have h1 := cost_r (h r List.mem_cons_self)
    have h2 := cost_rs fun q hq => h q (List.mem_cons_of_mem _ hq)
    show cost (dR r) + 2 + costAll (rs.map dR) ≤ _
    rw [List.length_cons]
    omega
theorem depth_rs : ∀ (rs : List (List Str)), PyData.depthAll (rs.map dR) ≤ 1
  | [] => Nat.zero_le _
  | r :: rs => by
    show max (PyData.depthAll (r.map PyData.str) + 1) (PyData.depthAll (rs.map dR)) ≤ 1
    rw [depth_strs]
    exact Nat.max_le.mpr ⟨Nat.le_refl 1, depth_rs rs⟩
theorem dok_rs {rs : List (List Str)} (h : ∀ r ∈ rs, Row r) (hl : rs.length ≤ 300) : DOk (.list (rs.map dR)) :=
  ⟨fine_rs h, by show PyData.depthAll _ + 1 ≤ 50; have := depth_rs rs; omega, by show costAll _ + 3 ≤ _; have := cost_rs h; omega⟩
theorem eqv_r (p q : List Str) : PyData.eqv (dR p) (dR q) = decide (p = q) := by
  show PyData.eqv (.tuple _) (.tuple _) = _
  rw [PyData.eqv, eqv_strs]
theorem eqv_rsAll : ∀ (xs ys : List (List Str)), PyData.eqvAll (xs.map dR) (ys.map dR) = decide (xs = ys)
  | [], [] => by simp [PyData.eqvAll]
  | [], y :: ys => by simp [PyData.eqvAll]
  | x :: xs, [] => by simp [PyData.eqvAll]
  | x :: xs, y :: ys => by
    show PyData.eqvAll (dR x :: xs.map dR) (dR y :: ys.map dR) = _
    rw [PyData.eqvAll, eqv_rsAll xs ys, eqv_r]
    by_cases h1 : x = y
    · subst h1
      by_cases h2 : xs = ys
      · subst h2
        simp
      · simp [h2]
    · simp [h1]
theorem eqv_rs (xs ys : List (List Str)) : PyData.eqv (.list (xs.map dR)) (.list (ys.map dR)) = decide (xs = ys) := by
  rw [PyData.eqv, eqv_rsAll]
theorem TL.kp {H H' : Hp} {b l : Addr} {xs : List V} {rs : List (List Str)} (B : Bag H b l) (s : Kp b H H') (h : TL H xs rs) : TL H' xs rs :=
  Paired.mapP h fun x r ⟨t, e, z⟩ => ⟨t, e, s _ _ z (B.ne_tup z)⟩
theorem TL.mem {H : Hp} {xs : List V} {rs : List (List Str)} (h : TL H xs rs) : ∀ x ∈ xs, ∃ (t : Addr) (r : List Str), x = .ref t ∧ r ∈ rs ∧ H t = some (.tup (r.map V.str)) := fun x hx => by
  obtain ⟨i, hi⟩ := List.mem_iff_getElem?.mp hx
  obtain ⟨t, r, e, h1, h2⟩ := h.at_ hi
  exact ⟨t, r, e, List.mem_of_getElem? h1, h2⟩
/-- taken in another order -/
theorem paired_perm {α β : Type} {F : α → β → Prop} {xs ys : List α} (hp : ys.Perm xs) : ∀ {us : List β}, Paired F xs us → ∃ vs, Paired F ys vs ∧ vs.Perm us := by
  have key : ∀ {xs ys : List α}, xs.Perm ys → ∀ {us : List β}, Paired F xs us → ∃ vs, Paired F ys vs ∧ vs.Perm us := by
    intro xs ys hp
    induction hp with
    | nil => intro us h; exact ⟨us, h, .refl _⟩
    | cons x _ ih =>
      intro us h
      cases h with
      | cons h1 h2 =>
        obtain ⟨vs, g1, g2⟩ := ih h2
        exact ⟨_ :: vs, .cons h1 g1, g2.cons _⟩
    | swap x y l =>
      intro us h
      cases h with
      | cons h1 h2 =>
        cases h2 with
        | cons h3 h4 => exact ⟨_, .cons h3 (.cons h1 h4), .swap _ _ _⟩
    | trans _ _ i1 i2 =>
      intro us h
      obtain ⟨vs, g1, g2⟩ := i1 h
      obtain ⟨ws, k1, k2⟩ := i2 g1
      exact ⟨ws, k1, k2.trans g2⟩
  exact fun {us} h => key hp.symm h
theorem Row.takeN {r : List Str} (R : Row r) {k : Nat} (hk : 0 < k) : Row (r.take k) :=
  ⟨R.nd.sublist (List.take_sublist _ _), fun c hc => R.sub c (List.mem_of_mem_take hc), by rw [List.length_take]; have := R.pos; omega, by rw [List.length_take]; have := R.le; omega⟩
/-- all questions of some rows -/
def famQ (rs : List (List Str)) : List Qd := rs.flatMap fun r => allQ r r.length
theorem famQ_len : ∀ {rs : List (List Str)}, (∀ r ∈ rs, Row r) → (famQ rs).length ≤ 24 * rs.length
  | [], _ => Nat.le_refl 0
  | r :: rs, h => by
    have h1 := (h r List.mem_cons_self).le
    have h2 := famQ_len (rs := rs) fun q hq => h q (List.mem_cons_of_mem _ hq)
    unfold famQ at h2 ⊢
    rw [List.flatMap_cons, List.length_append, allQ_len, List.length_cons]
    omega
theorem famQ_snoc (rs : List (List Str)) (r : List Str) : famQ (rs ++ [r]) = famQ rs ++ allQ r r.length := by
  unfold famQ
  rw [List.flatMap_append, List.flatMap_cons, List.flatMap_nil, List.append_nil]
theorem pwR_sorted : ∀ (r : List Str) (p : Str), (p :: r).Pairwise leS → risingS p r = true
  | [], _, _ => rfl
  | x :: r, p, h => by
    obtain ⟨h1, h2⟩ := List.pairwise_cons.mp h
    have h3 : ltCps x.cps.toList p.cps.toList = false := h1 x List.mem_cons_self
    show (!ltCps x.cps.toList p.cps.toList && risingS x r) = true
    rw [h3, pwR_sorted r x h2]
    rfl
theorem pwS_sorted {xs : List Str} (h : xs.Pairwise leS) : sortedS xs = true := by
  cases xs with
  | nil => rfl
  | cons x r => exact pwR_sorted r x h
theorem srt_sorted (xs : List Str) : sortedS (srt xs) = true := pwS_sorted (srt_pw xs)
theorem allQ_qz {r : List Str} (R : Row r) : ∀ q ∈ allQ r r.length, QZ q.1 q.2 := fun q hq => by
  obtain ⟨j, hj, e⟩ := mem_allQ.mp hq
  rcases e with rfl | rfl
  · have he : r[j]? = some (r.getD j "") := by
      rw [List.getD_eq_getElem?_getD, List.getElem?_eq_getElem hj]
      rfl
    exact (qok_ranged R (.refl _) he (srt_perm _) (by exact srt_sorted _)).qz R
  · exact (qok_plain R (.refl _) (srt_perm _) (by exact srt_sorted _)).qz R
theorem famQ_qz {rs : List (List Str)} (h : ∀ r ∈ rs, Row r) : QZs (famQ rs) := fun q hq => by
  obtain ⟨r, hr, hq⟩ := List.mem_flatMap.mp hq
  exact allQ_qz (h r hr) q hq
end Qk
set_option maxRecDepth 100000
set_option maxHeartbeats 4000000
set_option maxRecDepth 100000
set_option maxHeartbeats 4000000
namespace Qk
open PySem PySem.Spec PyProof.Rows L2
/-- keys with their places and numbers -/
abbrev QNs := List (Qd × Addr × Int)
def CE (p : Qd × Addr × Int) (x : NestedKey × Addr × Value) : Prop := x.1 = nkQ p.1 ∧ x.2.1 = p.2.1 ∧ ∃ t, x.2.2 = .int p.2.2 t
def CQr (P : Program) (w : World) (h : Heap) (a : Addr) (kvs : QNs) : Prop := kvs.length ≤ sizeLine ∧ (a == sysModules) = false ∧ ∃ xs : List (NestedKey × Addr × Value), Paired CE kvs xs ∧
  ∃ o es ep, h.get? a = some o ∧ o.ExactDict ∧ o.data = .dict es ep ∧ es.toList = xs.map (entryOfKey (nestedKind P w)) ∧ (xs.map (·.1)).Nodup
def CQ (P : Program) (w : World) (a : Addr) (kvs : QNs) : HO := .ext fun h => CQr P w h a kvs
def lookQ (kvs : QNs) (q : Qd) : Option Int := (kvs.find? fun x => decide (x.1 = q)).map fun x => x.2.2
def putQ (kvs : QNs) (q : Qd) (b : Addr) (n : Int) : QNs := if (lookQ kvs q).isSome then kvs.map fun x => if x.1 = q then (x.1, x.2.1, n) else x else kvs ++ [(q, b, n)]
def KeysQ (H : Hp) (kvs : QNs) : Prop := ∀ p ∈ kvs, QAt H p.2.1 p.1.1 p.1.2
theorem cq_ok {P : Program} {w : World} {H : Hp} {h : Heap} {a : Addr} {kvs : QNs} (R : CQr P w h a kvs) : ObjOk P w H h a (CQ P w a kvs) := by
  have ⟨_, _, _, _, o, _, _, ho, _⟩ := R
  exact ⟨R, ⟨o, ho⟩, fun h1 h2 p k => by
    obtain ⟨g1, g2, xs, g3, o, es, ep, g4, g5⟩ := p
    exact ⟨g1, g2, xs, g3, o, es, ep, k o g4, g5⟩⟩
theorem ce_look : ∀ {kvs : QNs} {xs : List (NestedKey × Addr × Value)}, Paired CE kvs xs → ∀ q, RelO ((lookQ kvs q).map V.int) ((atKey xs (nkQ q)).map (·.2)) := by
  intro kvs xs r q
  induction r with
  | nil => exact True.intro
  | @cons p x ps xs' h t ih =>
    obtain ⟨h1, h2, tk, h3⟩ := h
    by_cases e : p.1 = q
    · have e' : x.1 = nkQ q := by rw [h1, e]
      have b : atKey (x :: xs') (nkQ q) = some x.2 := by simp [atKey, List.find?_cons, e']
      have c : lookQ (p :: ps) q = some p.2.2 := by simp [lookQ, List.find?_cons, e]
      rw [b, c]
      exact ⟨tk, h3⟩
    · have e' : ¬ x.1 = nkQ q := fun z => e (keyQ_inj (h1.symm.trans z))
      have b : atKey (x :: xs') (nkQ q) = atKey xs' (nkQ q) := by simp [atKey, List.find?_cons, e']
      have c : lookQ (p :: ps) q = lookQ ps q := by simp [lookQ, List.find?_cons, e]
      rw [b, c]
      exact ih
theorem ce_repl : ∀ {kvs : QNs} {xs : List (NestedKey × Addr × Value)}, Paired CE kvs xs → ∀ (q : Qd) {n : Int} {t : Tok}, Paired CE (kvs.map fun x => if x.1 = q then (x.1, x.2.1, n) else x) (xs.map (putAt (nkQ q) (.int n t))) := by
  intro kvs xs r q n t
  induction r with
  | nil => exact .nil
  | @cons p x ps xs' h _ ih =>
    rw [List.map_cons, List.map_cons]
    refine .cons ?_ ih
    obtain ⟨h1, h2, tk, h3⟩ := h
    unfold putAt
    by_cases e : p.1 = q
    · rw [if_pos e, if_pos (by rw [h1, e])]
      exact ⟨h1, h2, t, rfl⟩
    · rw [if_neg e, if_neg (fun z => e (keyQ_inj (h1.symm.trans z)))]
      exact ⟨h1, h2, tk, h3⟩
theorem ce_put {kvs : QNs} {xs : List (NestedKey × Addr × Value)} (r : Paired CE kvs xs) (q : Qd) (b : Addr) (n : Int) (t : Tok) : Paired CE (putQ kvs q b n) (storedH xs (nkQ q) b (.int n t)) := by
  have e : (lookQ kvs q).isSome = (atKey xs (nkQ q)).isSome := by
    have := (ce_look r q).isSome_eq
    rw [Option.isSome_map, Option.isSome_map] at this
    exact this
  unfold putQ storedH
  rw [e]
  by_cases z : (atKey xs (nkQ q)).isSome = true
  · rw [if_pos z, if_pos z]
    exact ce_repl r q
  · rw [if_neg z, if_neg z]
    exact paired_app r (.cons ⟨rfl, rfl, t, rfl⟩ .nil)
theorem putQ_len (kvs : QNs) (q : Qd) (b : Addr) (n : Int) : (putQ kvs q b n).length ≤ kvs.length + 1 := by
  unfold putQ
  split
  · rw [List.length_map]; omega
  · rw [List.length_append]; exact Nat.le_refl _
theorem lookQ_put (kvs : QNs) (q z : Qd) (b : Addr) (n : Int) : lookQ (putQ kvs q b n) z = if z = q then some n else lookQ kvs z := by
  unfold putQ
  by_cases h : (lookQ kvs q).isSome = true
  · rw [if_pos h]
    have key : ∀ l : QNs, lookQ (l.map fun x => if x.1 = q then (x.1, x.2.1, n) else x) z = if z = q ∧ (lookQ l q).isSome then some n else lookQ l z := by
      intro l
      induction l with
      | nil => simp [lookQ]
      | cons x l ih =>
        by_cases e : x.1 = q
        · by_cases e2 : z = q
          · subst e2
            simp [lookQ, List.find?_cons, e]
          · have e3 : ¬ q = z := fun h => e2 h.symm
            have := ih
            simp only [lookQ, List.map_cons, List.find?_cons, e, if_true, e2, e3, decide_false, false_and, if_false] at this ⊢
            exact this
        · have hl : lookQ (x :: l) q = lookQ l q := by simp [lookQ, List.find?_cons, e]
          rw [hl]
          by_cases e2 : x.1 = z
          · have e3 : ¬ z = q := fun h => e (e2.trans h)
            simp [lookQ, List.find?_cons, e, e2, e3]
          · have := ih
            simp only [lookQ, List.map_cons, List.find?_cons, if_neg e, e2, decide_false] at this ⊢
            exact this
    rw [key]
    simp [h]
  · rw [if_neg h]
    have hn : lookQ kvs q = none := by
      cases e : lookQ kvs q with
      | none => rfl
      | some v => rw [e] at h; exact absurd rfl h
    have key : ∀ l : QNs, lookQ (l ++ [(q, b, n)]) z = match lookQ l z with | some v => some v | none => if z = q then some n else none := by
      intro l
      induction l with
      | nil =>
        by_cases e : q = z
        · simp [lookQ, e]
        · have e2 : ¬ z = q := fun h => e h.symm
          simp [lookQ, e, e2]
      | cons x l ih =>
        by_cases e : x.1 = z
        · simp [lookQ, List.find?_cons, e]
        · have := ih
          simp only [lookQ, List.cons_append, List.find?_cons, e, decide_false] at this ⊢
          exact this
    rw [key]
    by_cases e : z = q
    · subst e
      rw [hn]
    · cases lookQ kvs z <;> simp [e]
theorem putQ_keys {kvs : QNs} {q : Qd} {b : Addr} {n : Int} {p : Qd × Addr × Int} (h : p ∈ putQ kvs q b n) : (∃ r ∈ kvs, p.1 = r.1 ∧ p.2.1 = r.2.1) ∨ (p.1 = q ∧ p.2.1 = b) := by
  unfold putQ at h
  split at h
  · obtain ⟨r, hr, e⟩ := List.mem_map.mp h
    refine .inl ⟨r, hr, ?_⟩
    subst e
    split <;> exact ⟨rfl, rfl⟩
  · rcases List.mem_append.mp h with h | h
    · exact .inl ⟨p, h, rfl, rfl⟩
    · rw [List.mem_singleton.mp h]
      exact .inr ⟨rfl, rfl⟩
theorem QAt.offC {P : Program} {w : World} {H : Hp} {d t : Addr} {kvs : QNs} {o : HO} {cols : List Str} {e : Str} (hd : H d = some (CQ P w d kvs)) (h : QAt H t cols e) : QAt (upd H d o) t cols e := by
  obtain ⟨c, h1, h2⟩ := h
  have ne : ∀ {x : Addr} {xs : List V}, H x = some (.tup xs) → x ≠ d := fun hx e => by
    rw [e, hd] at hx
    cases hx
  exact ⟨c, by rw [upd_ne (ne h1)]; exact h1, by rw [upd_ne (ne h2)]; exact h2⟩
theorem KeysQ.put {P : Program} {w : World} {H : Hp} {d b : Addr} {kvs : QNs} {q : Qd} {n : Int} (hd : H d = some (CQ P w d kvs)) (K : KeysQ H kvs) (hb : QAt H b q.1 q.2) : KeysQ (upd H d (CQ P w d (putQ kvs q b n))) (putQ kvs q b n) := fun p hp => by
  rcases putQ_keys hp with ⟨r, hr, e1, e2⟩ | ⟨e1, e2⟩
  · rw [e1, e2]
    exact (K r hr).offC hd
  · rw [e1, e2]
    exact QAt.offC (cols := q.1) (e := q.2) hd hb
theorem KeysQ.same {H H' : Hp} {kvs : QNs} (s : Same H H') (K : KeysQ H kvs) : KeysQ H' kvs := fun p hp => (K p hp).same s
section
variable {X : Cx} {pins : List (Addr × Obj)} {σ : L2.St} {H : Hp} {s : Shared} {a b : Addr} {kvs : QNs} {q : Qd} {A : Around} {E : Value → Shared → Prop}
theorem cq_of (I : Inv X pins σ H s) (e : H a = some (CQ X.prog X.w a kvs)) (K : KeysQ H kvs) : kvs.length ≤ sizeLine ∧ (a == sysModules) = false ∧ ∃ xs, Paired CE kvs xs ∧ s.heap.DictOfH (nestedKind X.prog X.w) a xs := by
  obtain ⟨g1, g2, xs, g3, o, es, ep, g4, g5, g6, g7, g8⟩ : CQr X.prog X.w s.heap a kvs := (I.hok a _ e).1
  refine ⟨g1, g2, xs, g3, o, es, ep, g4, g5, g6, g7, fun x hx => ?_, g8⟩
  have all : ∀ {l : QNs} {m : List (NestedKey × Addr × Value)}, Paired CE l m → (∀ p ∈ l, QAt H p.2.1 p.1.1 p.1.2) → ∀ x ∈ m, (nestedKind X.prog X.w).is s.heap x.1 x.2.1 := by
    intro l m r
    induction r with
    | nil => intro _ x hx; exact nomatch hx
    | @cons p y ps ys h t ih =>
      intro hp x hx
      rcases List.mem_cons.mp hx with e | hx
      · subst e
        obtain ⟨h1, h2, _⟩ := h
        rw [h1, h2]
        exact (Qk.Inv.isQ I (hp p List.mem_cons_self)).key
      · exact ih (fun p hp' => hp p (List.mem_cons_of_mem _ hp')) x hx
  exact all g3 K x hx
theorem cq_get {Q : Value → Shared → Prop} {n : Int} (hu : A.units + 16 < cLine) (I : Inv X pins σ H s) (e : H a = some (CQ X.prog X.w a kvs)) (K : KeysQ H kvs) (hb : QAt H b q.1 q.2) (l : lookQ kvs q = some n) (h : ∀ t s', Inv X pins σ H s' → Q (.int n t) s') :
    wpAny (model X.prog X.w) A (getItem (.ref a) (.ref b)) Q E s := by
  obtain ⟨z, hd, xs, rel, dd⟩ := cq_of I e K
  have r := ce_look rel q
  rw [l] at r
  obtain ⟨w', hw, tk, rw'⟩ := RelO.some_of (v := .int n) r
  obtain ⟨p, hp, hp2⟩ := Option.map_eq_some_iff.mp hw
  refine wpAny_getItem_heap (show A.in1.units + 8 < cLine by have : A.in1.units = A.units + 1 := rfl; omega) (Qk.Inv.isQ I hb).key dd hp ?_
  rw [hp2, rw']
  exact h tk _ (I.tok _)
theorem cq_getD {Q : Value → Shared → Prop} {d : Int} {t0 : Tok} (hu : A.units + 16 < cLine) (I : Inv X pins σ H s) (e : H a = some (CQ X.prog X.w a kvs)) (K : KeysQ H kvs) (hb : QAt H b q.1 q.2) (h : ∀ t s', Inv X pins σ H s' → Q (.int ((lookQ kvs q).getD d) t) s') :
    wpAny (model X.prog X.w) A (call (.builtin "dict.get") [.ref a, .ref b, .int d t0]) Q E s := by
  obtain ⟨z, hd, xs, rel, dd⟩ := cq_of I e K
  refine call_meetsIn PySem.F.slot_dict_get dd.typeIs PySem.F.entry_dict_get (PySem.F.args_dict_get_3 _ _ _) (meetsH_dict_get_default (nestedKind X.prog X.w) a b hd (.int d t0)) ⟨show A.in1.units + 8 < cLine by have : A.in1.units = A.units + 1 := rfl; omega, nkQ q, xs, (Qk.Inv.isQ I hb).key, dd, ?_⟩
  have r := ce_look rel q
  cases l : lookQ kvs q with
  | none =>
    rw [l] at r
    rw [RelO.none_of r]
    rw [l] at h
    exact h t0 _ (I.tok _)
  | some n =>
    rw [l] at r
    obtain ⟨w', hw, tk, rw'⟩ := RelO.some_of (v := .int n) r
    rw [hw, rw']
    rw [l] at h
    exact h tk _ (I.tok _)
theorem cq_put {Q : Unit → Shared → Prop} {n : Int} {t : Tok} (hu : A.units + 16 < cLine) (I : Inv X pins σ H s) (e : H a = some (CQ X.prog X.w a kvs)) (K : KeysQ H kvs) (hb : QAt H b q.1 q.2) (hl : kvs.length < sizeLine) (h : ∀ s', Inv X pins σ (upd H a (CQ X.prog X.w a (putQ kvs q b n))) s' → Q () s') :
    wpAny (model X.prog X.w) A (setItem (.ref a) (.ref b) (.int n t)) Q E s := by
  obtain ⟨z, hd, xs, rel, dd⟩ := cq_of I e K
  have hz : xs.length ≤ sizeLine := by rw [← Paired.length rel]; exact z
  have hl2 : (putQ kvs q b n).length ≤ sizeLine := by have := putQ_len kvs q b n; omega
  refine wpAny_setItem_heap (hsz := hz) (show A.in1.units + 8 < cLine by have : A.in1.units = A.units + 1 := rfl; omega) (Qk.Inv.isQ I hb).key dd fun h' dd' hs => h _ ?_
  obtain ⟨o, es, ep, hq, h2, h3, h4, _, h5⟩ := dd'
  exact d_write I (by rw [e]; exact True.intro) hs ⟨o, hq⟩ (cq_ok ⟨hl2, hd, _, ce_put rel q b n t, o, es, ep, hq, h2, h3, h4, h5⟩)
theorem cq_type (I : Inv X pins σ H s) (e : H a = some (CQ X.prog X.w a kvs)) : s.TypeIs (.ref a) "dict" ∧ ∀ c, Value.ref a = .ref c → ∃ ob, s.heap.get? c = some ob ∧ ob.dict = none := by
  obtain ⟨g1, g2, xs, g3, o, es, ep, g4, g5, g6, g7, g8⟩ : CQr X.prog X.w s.heap a kvs := (I.hok a _ e).1
  refine ⟨⟨o, g4, g5.1⟩, fun c q => ?_⟩
  cases q
  exact ⟨o, g4, g5.2.1⟩
end
/-- {}, d[q], d.get(q, n), d[q] = n -/
def tQNew (P : Program) (w : World) : TE := fun _ H Q => ∀ p, H p = none → Q (.ref p) (upd H p (CQ P w p []))
def tQGet (P : Program) (w : World) (td ty : TE) : TE := fun σ H Q => td σ H fun x H1 => ty σ H1 fun y H2 => ∃ (a b : Addr) (kvs : QNs) (q : Qd) (n : Int), x = .ref a ∧ H2 a = some (CQ P w a kvs) ∧ KeysQ H2 kvs ∧ y = .ref b ∧ QAt H2 b q.1 q.2 ∧ lookQ kvs q = some n ∧ Q (.int n) H2
def tQGetD (P : Program) (w : World) (td ty tx : TE) : TE := fun σ H Q => td σ H fun x H1 => ∃ (a : Addr) (kvs0 : QNs), x = .ref a ∧ H1 a = some (CQ P w a kvs0) ∧ ty σ H1 fun y H2 => tx σ H2 fun z H3 => ∃ (b : Addr) (kvs : QNs) (q : Qd) (d : Int), H3 a = some (CQ P w a kvs) ∧ KeysQ H3 kvs ∧ y = .ref b ∧ QAt H3 b q.1 q.2 ∧ z = .int d ∧ Q (.int ((lookQ kvs q).getD d)) H3
def sQPut (P : Program) (w : World) (td ty tv : TE) : TS := fun D σ H => tv σ H fun v H1 => td σ H1 fun x H2 => ty σ H2 fun y H3 => ∃ (a b : Addr) (kvs : QNs) (q : Qd) (n : Int), x = .ref a ∧ H3 a = some (CQ P w a kvs) ∧ KeysQ H3 kvs ∧ y = .ref b ∧ QAt H3 b q.1 q.2 ∧ v = .int n ∧ kvs.length < sizeLine ∧ D.nx σ (upd H3 a (CQ P w a (putQ kvs q b n)))
section
variable {X : Cx} {o e f i value : Expr} {pos pos' apos cpos : Pos} {td ty tx tv : TE}
theorem pe_qnew : PE X (.Dict [] [] pos) (tQNew X.prog X.w) := ⟨fun pins s σ H Q I h =>
  wpAny_Dict_empty ⟨.ref s.heap.objs.size, _, I.laid (a := s.heap.objs.size) (o := CQ X.prog X.w s.heap.objs.size []) (t' := s.toks) (fun _ _ q => Heap.get?_push_of_some _ q) (Nat.le_refl _)
    (cq_ok ⟨Nat.zero_le _, beq_eq_false_iff_ne.mpr (Ne.symm (Nat.ne_of_lt I.big)), [], .nil, _, #[], 0, Heap.get?_push_size _ rfl, ⟨rfl, rfl, rfl⟩, rfl, rfl, List.nodup_nil⟩), rfl, h _ (I.hok.fresh (Nat.le_refl _))⟩⟩
theorem pe_qget (hu : X.A.units + 16 < cLine) (ho : PE X o td) (hi : PE X i ty) (hs : NoSl i) : PE X (.Subscript o i pos) (tQGet X.prog X.w td ty) := by
  refine ⟨fun pins s σ H Q I h => ?_⟩
  refine subD_of PySem.F.slot_dict_getitem.lookup hs (thn (ho.run pins s σ H _ I h) fun u s1 ⟨x, H1, I1, rx, q1⟩ => thn (hi.run pins s1 σ H1 _ I1 q1) fun iv s2 ⟨y, H2, I2, ry, a, b, kvs, q, n, ex, g, K, ey, hb, l, q2⟩ => ?_)
  subst ex
  subst ey
  obtain rfl : u = Value.ref a := rx
  obtain rfl : iv = Value.ref b := ry
  exact ⟨(cq_type I2 g).1, cq_get hu I2 g K hb l fun t s3 I3 => ⟨.int n, H2, I3, ⟨t, rfl⟩, q2⟩⟩
theorem pe_qgetD (hu : X.A.units + 16 < cLine) (ho : PE X o td) (he : PE X e ty) (hf : PE X f tx) (m : M2 X o "get" apos e f cpos) : PE X (.Call (.Attribute o "get" apos) [e, f] [] cpos) (tQGetD X.prog X.w td ty tx) := by
  refine ⟨fun pins s σ H Q I h => ?_⟩
  refine wpAny_Call_method m.base m.few m.line PySem.F.plainAttrs_dict PySem.F.slot_dict_get PySem.F.type_dict_get (thn (ho.run pins s σ H _ I h) fun u s1 ⟨x, H1, I1, rx, a, kvs0, ex, g0, q1⟩ => ?_)
  subst ex
  obtain rfl : u = Value.ref a := rx
  obtain ⟨t1, t2⟩ := cq_type I1 g0
  refine ⟨t1, t2, ?_⟩
  rw [m.trees]
  refine Calls.callWith_builtin rfl (Calls.evalArgs_plain (Calls.spliced_cons (thn (he.run pins s1 σ H1 _ I1 q1) fun iv s2 ⟨y, H2, I2, ry, q2⟩ =>
    Calls.spliced_cons (thn (hf.run pins s2 σ H2 _ I2 q2) fun fv s3 ⟨z, H3, I3, rz, b, kvs, q, d, g, K, ey, hb, ez, q3⟩ => Calls.spliced_nil ?_))))
  subst ey
  subst ez
  obtain rfl : iv = Value.ref b := ry
  obtain ⟨t0, rfl⟩ := (show ∃ t, fv = Value.int d t from rz)
  exact cq_getD hu I3 g K hb fun t s4 I4 => ⟨.int _, H3, I4, ⟨t, rfl⟩, q3⟩
theorem ps_qput (hu : X.A.units + 16 < cLine) (ho : PE X o td) (hi : PE X i ty) (hv : PE X value tv) (hs : swapsWith value (some (.Subscript o i pos')) pos.line X.env = pure false) :
    PS X (.Assign [.Subscript o i pos'] value pos) (sQPut X.prog X.w td ty tv) := by
  refine ⟨fun pins s σ H D I h => ?_⟩
  refine wpAny_Assign_Subscript (thn (hv.run pins s σ H _ I h) fun r s1 ⟨v, H1, I1, rv, q1⟩ => thn (ho.run pins s1 σ H1 _ I1 q1) fun u s2 ⟨x, H2, I2, rx, q2⟩ => thn (hi.run pins s2 σ H2 _ I2 q2) fun iv s3 ⟨y, H3, I3, ry, a, b, kvs, q, n, ex, g, K, ey, hb, ev, hl, q3⟩ => ?_) hs
  subst ex
  subst ey
  subst ev
  obtain rfl : u = Value.ref a := rx
  obtain rfl : iv = Value.ref b := ry
  obtain ⟨t0, rfl⟩ := (show ∃ t, r = Value.int n t from rv)
  exact cq_put hu I3 g K hb hl fun s4 I4 => ⟨σ, _, I4, q3⟩
end
end Qk
set_option maxRecDepth 100000
set_option maxHeartbeats 4000000
namespace Qk
open PySem PySem.Spec PyProof.Rows L2 ItX
section
variable {prog : Program} {w : World} {A : Around} {E : Value → Shared → Prop} {s : Shared}
/-- the enumeration that is laid when the iterator stands -/
abbrev laidE (it : Value) (s : Shared) : Shared := { s with heap := s.heap.push { cls := .type "enumerate", data := .fields #[.none, .bool false, it, rawInt 0, .none, .none] } }
theorem code_enum_new (v : Value) {Q₁ : Value → Shared → Prop}
    (h : wpAny (model prog w) A.in1 (pyIter v) (fun it s' => Q₁ (.ref s'.heap.objs.size) (laidE it s')) E s) :
    codeAny (model prog w) A (.call (.builtin "enumerate.__new__") ⟨[.type "enumerate", v], []⟩) (wants Q₁ E) s := by
  have hsub := sub_enumerate
  have q1 : ∀ {Q : Value → Shared → Prop}, (∀ it s', Q₁ (.ref s'.heap.objs.size) (laidE it s') → Q it s') → wpAny (model prog w) A.in1 (pyIter v) Q (fun e s' => wants Q₁ E (Except.error e) s') s := fun hQ => wpAny_mono h hQ fun _ _ e => e
  refine codeAny_call_builtin (by decide +kernel) F.entry_enumerate_new (wpAny_of_eq (F.newCall_enumerate_1 _) ?_)
  obtain ⟨hp, g, d, tk, os⟩ := s
  unfold Builtin.«enumerate.__new__»
  wp_walk
  have fin : ∀ (it : Value) (s' : Shared), Q₁ (Value.ref s'.heap.objs.size) (laidE it s') → wpAny (model prog w) A.in1 (Builtin.SmallTypes.newRecord (Value.type "enumerate") (Builtin.SmallTypes.ownedTupleFields ++ [it, rawInt 0, Value.none, Value.none]) >>= ret)
      (fun fin s' => match fin with
        | Fin.done f => wants Q₁ E (Except.ok f) s'
        | Fin.again c' => c'.quiet = true ∧ codeAny (model prog w) A c' (wants Q₁ E) s') (fun e s' => wants Q₁ E (Except.error e) s') s' := fun it s' hq => by
    obtain ⟨hp', g', d', tk', os'⟩ := s'
    wp_walk
    exact hq
  refine wpAny_stack_any fun st => wpAny_pure ?_
  split
  · rename_i c _ _ _ _ _
    cases (c == Value.type "enumerate")
    · wp_walk using q1
      exact fin
    · wp_walk using q1
      exact fin
  · wp_walk using q1
    exact fin
theorem call_enumW (v : Value) {Q : Value → Shared → Prop}
    (h : wpAny (model prog w) A.in1.in1 (pyIter v) (fun it s' => Q (.ref s'.heap.objs.size) (laidE it s')) E s) :
    wpAny (model prog w) A (call (.type "enumerate") [v]) Q E s := by
  refine callType_codes (Q₁ := fun o z => z.TypeIs o "enumerate" ∧ Q o z) F.called_enumerate (F.typeCall_enumerate_1 _) F.entry_object_init (code_enum_new v (wpAny_mono h (fun it s' hq => ⟨⟨_, Heap.get?_push_size _ rfl, rfl⟩, hq⟩) fun _ _ e => e)) ?_
  rintro obj s1 ⟨hT, hq⟩
  exact ⟨hT, F.args_object_init_2 obj _, object_init_meets F.called_enumerate.init.lookup F.called_enumerate.made (by decide +kernel) _ _ _ _ _ ⟨hT, rfl, hq⟩⟩
end
def iEnumOwn (K : PySem.W.Frag) (C : Addr) (f : Str) (ta : TA) : TI := fun σ H R => ta σ H fun vs H1 => ∃ (a l : Addr) (xs : List V), vs = [.ref a] ∧ HasL H1 C a f l xs ∧ R (Ite K l) H1
theorem pi_enumOwn {X : Cx} {C fi : Addr} {f : Str} {fdI : FuncData} {n : Nat} {e : Expr} {ta : TA} {p pos tpos : Pos} {elts : List Expr} {kk : Nat} (oc : OwnIt X.K C fi) (FI : FnS X.prog X.w X.K X.mg X.base n fi fdI ["self"] (spIterF C f)) (bI : Binds X.K fdI ["self"] []) (hr : Room (n + 2) X.A)
    (hg : Gl X "enumerate") (hm : X.mg "enumerate" = none) (ha : PA X [e] ta) (hs : starEach [e] X.env = [(false, eval e X.env)] := by rfl) :
    PI X (.Tuple elts kk tpos) (.Call (.Name "enumerate" p) [e] [] pos) (iEnumOwn X.K C f ta) := by
  refine ⟨fun pins s σ H R I h => ?_⟩
  refine Call_ (ld_blt I hg hm boot_enumerate (PyProof.Rows.callWith_type1 (thn (ha.run pos pins s σ H _ I h) fun us s1 ⟨vs, H1, I1, r1, q1⟩ => ?_) hs rfl))
  obtain ⟨a, l, xs, ex, hh, q⟩ := q1
  subst ex
  cases r1 with
  | cons r rr =>
    cases rr
    cases r
    have sb : Sub X n X.A.in1.in1 := Sub.in1 (Sub.in1 (⟨hr, rfl⟩ : Sub X (n + 2) X.A))
    refine call_enumW (.ref a) (iter_own sb oc FI bI I1 hh fun it s2 I2 hn fresh => ?_)
    have eo := itO_get I2 upd_same
    have hi : (upd H1 it (ItO l it 0)) it = some (ItO l it 0) := upd_same
    have hi' := hi
    unfold ItO at hi'
    have I3 := inv_drop I2 hi'
    have ed : dropH (upd H1 it (ItO l it 0)) it = H1 := dropH_upd hn
    rw [ed] at I3
    have fp := inv_fp I2 hi fresh
    rw [ed] at fp
    have il : it < s2.heap.objs.size := Heap.lt_size eo
    have he : IsEnum (laidE (.ref it) s2).heap s2.heap.objs.size it 0 .none := Heap.get?_push_size _ rfl
    have hit : (laidE (.ref it) s2).heap.IsListIter it l 0 := ⟨_, Heap.get?_push_of_some _ eo, rfl, rfl⟩
    have I4 : Inv X pins σ H1 (laidE (.ref it) s2) := I3.kept (t' := s2.toks) fun b o x => Heap.get?_push_of_some _ x
    refine wpAny_pyIter_enum he ?_
    refine ⟨s2.heap.objs.size, [s2.heap.objs.size, it], _, _, H1, rfl, I4, turn_enum l s2.heap.objs.size it, ⟨⟨.none, he⟩, hit, Nat.ne_of_gt il⟩, fun b hb => ?_, q⟩
    have e' : b = s2.heap.objs.size ∨ b = it := by simpa using hb
    rcases e' with z | z
    · rw [z]
      exact I3.fpOk (Nat.le_refl _) (I3.hok.fresh (Nat.le_refl _))
    · rw [z]
      exact fp
end Qk
set_option maxRecDepth 100000
set_option maxHeartbeats 4000000
namespace Qk
open PySem PySem.Spec PyProof.Rows L2
def top (i : Nat) : Stmt := PySem.Challenge.pw_narrowkeys_k34_needless_indexes.main.body.getD i (.Pass ⟨0, 0, 0, 0⟩)
abbrev sIsCol : Stmt := top 10
abbrev sAreDiff : Stmt := top 11
abbrev sIsIndex : Stmt := top 12
abbrev sAreIxs : Stmt := top 13
abbrev sQof : Stmt := top 15
abbrev sCountSv : Stmt := top 19
abbrev sIsSpare : Stmt := top 20
abbrev sNeedless : Stmt := top 21
abbrev sPruned : Stmt := top 22
abbrev sBag : Stmt := top 24
abbrev sTake : Stmt := top 25
abbrev sOne : Stmt := top 26
abbrev sMixed : Stmt := top 27
abbrev sNames : Stmt := top 28
abbrev sOnce : Stmt := top 29
abbrev sIndex : Stmt := top 30
abbrev sIndexes : Stmt := top 31
abbrev sServedBy : Stmt := top 32
abbrev sFamily : Stmt := top 33
abbrev sAlike : Stmt := top 34
abbrev sCrossed : Stmt := top 35
abbrev sLeftOut : Stmt := top 36
abbrev sLPruned : Stmt := top 37
abbrev sLaw : Stmt := top 38
abbrev sInit : Stmt := inClass (top 17) 0
abbrev sLen : Stmt := inClass (top 17) 3
abbrev sIter : Stmt := inClass (top 17) 5
abbrev sIxsM : Stmt := inClass (top 17) 8
structure Txt (K : PySem.W.Frag) (mg : Str → Option Value) : Prop where
  len : mg "len" = none
  int : mg "int" = none
  abs : mg "abs" = none
  tuple : mg "tuple" = none
  sorted : mg "sorted" = none
  range : mg "range" = none
  repr : mg "repr" = none
  list : mg "list" = none
  set : mg "set" = none
  isinstance : mg "isinstance" = none
  str : mg "str" = none
  all : mg "all" = none
  enumerate : mg "enumerate" = none
  iter : mg "iter" = none
  longest : ∃ t, mg "LONGEST_COLUMN" = some (.int 8 t)
  limit : ∃ t, mg "LIMIT" = some (.int 48 t)
/-- the classes Shelf and Asked -/
structure TxC (K : PySem.W.Frag) (mg : Str → Option Value) (C : Addr) : Prop where
  cl : Cls K C
  nQ : NoAttr K C "_indexes"
  mgC : mg "Shelf" = some (.ref C)
  ha : PySem.W.findIn K (.ref C) "__class__" = some (some (.builtin "object.__class__"))
  hn : PySem.W.specialIn K (.builtin "object.__class__") "__get__" = some (some (.builtin "getset_descriptor.__get__"))
  ht : PySem.W.takesIn K (.builtin "object.__class__") = some true
  hm : PySem.W.mroIn K C (.type "object") = some true
structure TxA (K : PySem.W.Frag) (mg : Str → Option Value) (C : Addr) : Prop where
  cl : Cls K C
  nQ : NoAttr K C "_questions"
  mgC : mg "Asked" = some (.ref C)
  ha : PySem.W.findIn K (.ref C) "__class__" = some (some (.builtin "object.__class__"))
  hn : PySem.W.specialIn K (.builtin "object.__class__") "__get__" = some (some (.builtin "getset_descriptor.__get__"))
  ht : PySem.W.takesIn K (.builtin "object.__class__") = some true
  hm : PySem.W.mroIn K C (.type "object") = some true
theorem kit_self {K : PySem.W.Frag} {C : Addr} : PySem.W.kitOne K (.ref C) (.ref C) = some true := by
  unfold PySem.W.kitOne
  exact if_pos (beq_iff_eq.mpr rfl)
section
variable {P : Program} {w : World} {K : PySem.W.Frag} {mg : Str → Option Value} {base : Heap}
def sDead : TS := fun _ _ _ => False
theorem TxC.ty {C : Addr} (T : TxC K mg C) {H : Hp} {a dx : Addr} {fs : List (Str × V)} (h : H a = some (.ins C dx fs)) : TyX K H (.ref a) (.ref C) := .base (.ins h T.cl T.ha T.hn T.ht T.hm)
theorem TxA.ty {C : Addr} (T : TxA K mg C) {H : Hp} {a dx : Addr} {fs : List (Str × V)} (h : H a = some (.ins C dx fs)) : TyX K H (.ref a) (.ref C) := .base (.ins h T.cl T.ha T.hn T.ht T.hm)
theorem ps_dead {X : Cx} {st : Stmt} : PS X st sDead := ⟨fun _ _ _ _ _ _ h => h.elim⟩
theorem rep_snoc (n : Nat) : (List.replicate n true).map V.bl ++ [V.bl true] = (List.replicate (n + 1) true).map V.bl := by
  rw [List.replicate_succ', List.map_append]
  rfl
theorem rep_all (n : Nat) : (List.replicate n true).all id = true := by
  rw [List.all_eq_true]
  intro x hx
  rw [List.eq_of_mem_replicate hx]
  rfl
theorem menu_sz : ∀ c ∈ menu, c.cps.size ≤ 1000 := by decide +kernel
theorem Bag.ne_refs {H : Hp} {b l p : Addr} {ys : List V} (B : Bag H b l) (hp : H p = some (.lst ys)) (h : ∀ y ∈ ys, ∃ t, y = V.ref t) : p ≠ b := fun e => by
  obtain ⟨g, m, k, ns, hb, _⟩ := B
  rw [e, hb] at hp
  injection hp with hp
  injection hp with hp
  obtain ⟨t, e2⟩ := h (.int g) (by rw [← hp]; exact List.mem_cons_self)
  cases e2
theorem made_same {H : Hp} {x dx C : Addr} (nx : H x = none) (ndx : H dx = none) : Same H (upd (upd H dx (.own x)) x (.ins C dx [])) := fun c o e => by
  rw [upd_ne (ne_of_none e nx), upd_ne (ne_of_none e ndx)]
  exact e
theorem TL.refs {H : Hp} {ys : List V} {rs : List (List Str)} (h : TL H ys rs) : ∀ y ∈ ys, ∃ t, y = V.ref t := fun y hy => by
  obtain ⟨t, _, e, _⟩ := h.mem y hy
  exact ⟨t, e⟩
theorem scBag : FnScope ["_law_script", "_law_cell"] ["_law_script"] (defScope sBag) := ⟨rfl, rfl, rfl, by decide +kernel, rfl, by decide +kernel, by decide +kernel⟩
theorem ok_bag {f : Addr} {fd : FuncData} (F : Fun K "_law_bag" "_law_bag" sBag f fd) (T : Txt K mg) : FnOk P w K mg base CX0 1 f fd ["_law_script"] (spBag K) := by
  refine F.ok scBag (fun vs H Q E h => ?_) (fun cdv A outer s H vs Q E hr h => ?_)
  · obtain ⟨a, ns, rfl, _⟩ := h
    rfl
  · obtain ⟨a, ns, rfl, hS, hz, k⟩ := h
    have nd := scBag.nd
    refine ⟨_, pss_one (ps_ret (pe_lst (pa_cons pe_int (pa_cons pe_int (pa_cons pe_int (pa_cons (pe_lc (own := [("_law_cell", 1)]) (g := gName 1) (tt := tYes) rfl nd
      (pi_list (pe_slice sl_list (pv 0) po_none (po_some pe_int))) (blkOk_by (N := ["_law_script", "_law_cell"]) (sc := defScope sBag) (by decide +kernel)) (fun _ _ _ _ _ => pg_name (i := 1) nd rfl (Or.inl rfl)) (fun _ _ _ _ _ => pts_nil)
      (fun _ _ _ _ _ => pe_callB call_abs (by rfl) T.abs (by decide +kernel) (pa_cons (pv 1) pa_nil))) pa_nil)))))), ?_⟩
    refine ⟨_, rfl, _, rfl, a, _, rfl, hS, fun p hp => ⟨p, rfl, ⟨_, SqL.of upd_same⟩, fun D hD => ?_⟩⟩
    have e0 : cutV (ns.map V.int) none (some 63) = (ns.take 63).map V.int := (cut_to 63 _).trans List.map_take.symm
    have npD : p ≠ D := ne_of_none upd_same hD
    have s0 : Same H (upd H p (.lst (cutV (ns.map V.int) none (some 63)))) := same_new hp
    have nD : H D = none := s0.free hD
    refine lc_list (K := K) (a := p) (xs := (ns.take 63).map V.int) (fun i H' => Same H H' ∧ H' p = some (.lst ((ns.take 63).map V.int)) ∧ ∃ ms : List Int, H' D = some (.lst (ms.map V.int)) ∧ ms.length ≤ i ∧ ∀ n ∈ ms, 0 ≤ n)
      ⟨s0.trans (same_new hD), by rw [upd_ne npD, upd_same, e0], [], upd_same, Nat.le_refl _, by simp⟩ (fun i H' _ h => SqL.of h.2.1) ?_ ?_
    · rintro i x H' hi ⟨s1, h1, ms, h2, hl, hm⟩
      rw [List.getElem?_map] at hi
      cases e : (ns.take 63)[i]? with
      | none => rw [e] at hi; cases hi
      | some z =>
        rw [e] at hi
        obtain rfl : V.int z = x := Option.some.inj hi
        have hlt : i < 63 := by
          have := (List.getElem?_eq_some_iff.mp e).1
          rw [List.length_take] at this
          omega
        refine ⟨rfl, Exists.intro _ ⟨rfl, z, rfl, _, h2, by rw [List.length_map, sizeLine_eq]; omega, fun b o q => ?_, ?_, ms ++ [if z < 0 then -z else z], by rw [upd_same]; simp, by simp; omega, ?_⟩⟩
        · have : b ≠ D := ne_of_none q nD
          rw [upd_ne this]
          exact s1 _ _ q
        · rw [upd_ne npD]
          exact h1
        · intro n hn
          rcases List.mem_append.mp hn with hn | hn
          · exact hm n hn
          · obtain rfl := List.mem_singleton.mp hn
            split <;> omega
    · rintro H' ⟨s1, h1, ms, h2, hl, hm⟩
      refine ⟨by show 4 ≤ sizeLine; decide, fun q hq => ?_⟩
      have nDq : D ≠ q := ne_of_none h2 hq
      exact k q D _ (s1.free hq) ⟨0, 1234567891, 0, ms, upd_same, by rw [upd_ne nDq]; exact h2, nDq, by decide, by decide, by decide, hm⟩ (s1.trans (same_new hq))
theorem scTake : FnScope ["_law_bag_here", "_law_many", "_law_cell", "_law_mixed_here", "_law_drawn", "_law_begin", "_law_second"] ["_law_bag_here", "_law_many"] (defScope sTake) := ⟨rfl, rfl, rfl, by decide +kernel, rfl, by decide +kernel, by decide +kernel⟩
theorem ok_take {f : Addr} {fd : FuncData} (F : Fun K "_law_take" "_law_take" sTake f fd) (T : Txt K mg) : FnOk P w K mg base CX0 1 f fd ["_law_bag_here", "_law_many"] spTake := by
  refine F.ok scTake (fun vs H Q E h => ?_) (fun cdv A outer s H vs Q E hr h => ?_)
  · obtain ⟨b, l, n, rfl, _⟩ := h
    rfl
  · obtain ⟨b, l, n, rfl, B, n0, n1, k⟩ := h
    have nd := scTake.nd
    obtain ⟨h, m, p, ns, hb, hl, nlb, h0, m0, m1, hns⟩ := id B
    refine ⟨_, Evl.pss_cut (ps_if (pt_cmpR op_eq (pe_ix ix_list (pv 0) pe_int fun _ _ => rfl) pe_int (nomark _))
        (pss_cons (ps_set (i := 2) nd rfl (Or.inl rfl) pe_int)
        (Evl.pss_cut (ps_if (pt_cmpR op_lt (pe_ix ix_list (pv 0) pe_int fun _ _ => rfl) (pe_callB call_len_seq (by rfl) T.len PySem.boot_len (pa_cons (pe_ix ix_list (pv 0) pe_int fun _ _ => rfl) pa_nil)) (nomark _))
          (pss_one (ps_set (i := 2) nd rfl (Or.inl rfl) (pe_ix ix_list (pe_ix ix_list (pv 0) pe_int fun _ _ => rfl) (pe_ix ix_list (pv 0) pe_int fun _ _ => rfl) fun _ _ => rfl))) pss_nil)
        (pss_cons (ps_augS (pv 0) pe_int get_list pe_int ip_add set_list)
        (Evl.pss_cut (ps_if (pt_cmpR op_ge (pv 2) pe_int (nomark _)) (pss_one (ps_asg (pv 2) (pg_sub (pv 0) pe_int set_list))) pss_nil)
        (pss_cons (ps_set (i := 3) nd rfl (Or.inl rfl) (pe_op op_add (pe_op op_add (pe_op op_mul (pe_ix ix_list (pv 0) pe_int fun _ _ => rfl) pe_int)
            (pe_op op_mod (pe_callTy call_int1 (by rfl) T.int (by decide +kernel) (pa_cons (pv 2) pa_nil)) pe_int)) (pe_op op_mul pe_int (pe_ix ix_list (pv 0) pe_int fun _ _ => rfl))))
        (pss_one (ps_asg (pe_op op_mod (pe_callTy call_int1 (by rfl) T.int (by decide +kernel) (pa_cons (pv 3) pa_nil)) pe_int) (pg_sub (pv 0) pe_int set_list)))))))) pss_nil)
      (Evl.pss_cut (ps_if (pt_cmpR op_gt (pe_ix ix_list (pv 0) pe_int fun _ _ => rfl) pe_int (nomark _))
        (pss_cons (ps_set (i := 4) nd rfl (Or.inl rfl) (pe_op op_mod (pe_callTy call_int1 (by rfl) T.int (by decide +kernel) (pa_cons (pe_ix ix_list (pv 0) pe_int fun _ _ => rfl) pa_nil)) (pv 1)))
        (pss_cons (ps_asg (pe_op op_fdivN (pe_callTy call_int1 (by rfl) T.int (by decide +kernel) (pa_cons (pe_ix ix_list (pv 0) pe_int fun _ _ => rfl) pa_nil)) (pv 1)) (pg_sub (pv 0) pe_int set_list))
        (pss_one (ps_ret (pv 4))))) pss_nil)
      (pss_cons (ps_set (i := 5) nd rfl (Or.inl rfl) (pe_op op_mod (pe_callTy call_int1 (by rfl) T.int (by decide +kernel) (pa_cons (pe_op op_mul (pe_op op_add (pe_ix ix_list (pv 0) pe_int fun _ _ => rfl) pe_int) pe_int) pa_nil)) pe_int))
      (pss_cons (ps_set (i := 6) nd rfl (Or.inl rfl) (pe_op op_mod (pe_callTy call_int1 (by rfl) T.int (by decide +kernel) (pa_cons (pe_op op_mul (pe_op op_mod (pe_callTy call_int1 (by rfl) T.int (by decide +kernel) (pa_cons (pe_op op_mul (pv 5) (pv 5)) pa_nil)) pe_int) pe_int) pa_nil)) pe_int))
      (pss_one (ps_ret (pe_op op_mod (pe_callTy call_int1 (by rfl) T.int (by decide +kernel) (pa_cons (pe_op op_fdiv (pv 6) pe_int) pa_nil)) (pv 1)))))))
      , ?_⟩
    refine ⟨fun σ' H' => ∃ c2 c3, σ' = [some (.ref b), some (.int n), c2, c3, none, none, none] ∧ Bag H' b l ∧ Kp b H H', ?_, ?_⟩
    · refine ⟨_, rfl, b, _, _, _, rfl, rfl, SqL.of hb, rfl, rfl, _, rfl, ?_⟩
      refine ite2 (fun _ => ?_) (fun _ => ⟨_, _, rfl, B, Kp.refl _ _⟩)
      refine ⟨fun σ' H' => ∃ c : Int, 0 ≤ c ∧ σ' = [some (.ref b), some (.int n), some (.int c), none, none, none, none] ∧ H' = H, ?_, ?_⟩
      · refine ⟨_, rfl, b, _, _, _, rfl, rfl, SqL.of hb, rfl, _, rfl, b, _, _, _, rfl, rfl, SqL.of hb, rfl, _, _, rfl, .inl (SqL.of hl), _, _, rfl, rfl, _, rfl, ?_⟩
        refine ite2 (fun hc => ?_) (fun _ => ⟨0, Int.le_refl 0, rfl, rfl⟩)
        have hp : p < ns.length := by
          have := of_decide_eq_true hc
          rw [List.length_map] at this
          omega
        refine ⟨_, rfl, b, _, _, _, rfl, rfl, SqL.of hb, rfl, _, rfl, b, _, _, _, rfl, rfl, SqL.of hb, rfl, l, _, _, .int ns[p], rfl, rfl, SqL.of hl, atI_nat (by rw [List.getElem?_map, List.getElem?_eq_getElem hp]; rfl), ?_⟩
        exact ⟨ns[p], hns _ (List.getElem_mem hp), rfl, rfl⟩
      · rintro σ' H' ⟨c, hc, rfl, rfl⟩
        refine ⟨_, rfl, b, _, 2, _, rfl, rfl, SqL.of hb, rfl, _, _, rfl, rfl, b, _, _, 2, rfl, rfl, hb, rfl, ?_⟩
        have hl1 : (upd H' b (HO.lst [.int h, .int m, .int ((p + 1 : Nat) : Int), .ref l])) l = some (HO.lst (ns.map V.int)) := by rw [upd_ne nlb]; exact hl
        refine ⟨fun σ' H2 => ∃ h' : Int, 0 ≤ h' ∧ σ' = [some (.ref b), some (.int n), some (.int c), none, none, none, none] ∧ H2 b = some (.lst [.int h', .int m, .int ((p + 1 : Nat) : Int), .ref l]) ∧ Kp b H' H2, ?_, ?_⟩
        · refine ⟨_, rfl, _, _, rfl, rfl, _, rfl, ?_⟩
          refine ite2 (fun _ => ?_) (fun _ => ⟨h, h0, rfl, upd_same, Kp.at_ _ _ _⟩)
          refine ⟨_, rfl, _, rfl, b, _, 0, 0, rfl, rfl, upd_same, rfl, ?_⟩
          exact ⟨c, hc, rfl, upd_same, (Kp.at_ _ _ _).trans (Kp.at_ _ _ _)⟩
        · rintro σ' H2 ⟨h', h0', rfl, hb2, k2⟩
          have hl2 : H2 l = some (.lst (ns.map V.int)) := k2 _ _ hl nlb
          refine ⟨_, rfl, b, _, 1, _, rfl, rfl, SqL.of hb2, rfl, _, _, rfl, rfl, .inl ⟨by omega, by omega⟩, _, rfl, .inl ⟨_, rfl, _, _, rfl, rfl, (by show (0 : Int) < 2147483647; decide), _, _, rfl, rfl,
            _, rfl, b, _, 2, _, rfl, rfl, SqL.of hb2, rfl, _, _, rfl, rfl, .inl ⟨by decide, by decide⟩, _, _, rfl, rfl, _, rfl, .inl ⟨_, rfl, _, _, rfl, rfl, (by show (0 : Int) < 2147483647; decide), _, rfl, b, _, 1, 1, rfl, rfl, hb2, rfl, ?_⟩⟩⟩
          exact ⟨_, _, rfl, ⟨h', _, p + 1, ns, upd_same, (by rw [upd_ne nlb]; exact hl2), nlb, h0', Int.emod_nonneg _ (by decide), Int.emod_lt_of_pos _ (by decide), hns⟩, k2.trans (Kp.at_ _ _ _)⟩
    · rintro σ1 H1 ⟨c2, c3, rfl, B1, k1⟩
      clear hb hl hns h0 m0 m1
      obtain ⟨h, m, p, ns, hb, hl, nlb, h0, m0, m1, hns⟩ := id B1
      refine ⟨fun σ' H' => σ' = [some (.ref b), some (.int n), c2, c3, none, none, none] ∧ H' = H1, ?_, ?_⟩
      · refine ⟨_, rfl, b, _, 0, _, rfl, rfl, SqL.of hb, rfl, _, _, rfl, rfl, _, rfl, ?_⟩
        refine ite2 (fun _ => ?_) (fun _ => ⟨rfl, rfl⟩)
        obtain ⟨j, ej, hj⟩ := take_mod (k := h) n0
        refine ⟨_, rfl, b, _, 0, _, rfl, rfl, SqL.of hb, rfl, .inl ⟨_, rfl, _, rfl, _, _, rfl, rfl, n0, _, rfl, b, _, 0, _, rfl, rfl, SqL.of hb, rfl, .inl ⟨_, rfl, _, rfl, _, _, rfl, rfl, ⟨by omega, by omega⟩, _, rfl, b, _, 0, 0, rfl, rfl, hb, rfl, _, rfl, ?_⟩⟩⟩
        show Q (.int (h % n)) _
        rw [ej]
        refine k j _ hj ⟨_, m, p, ns, upd_same, (by rw [upd_ne nlb]; exact hl), nlb, ?_, m0, m1, hns⟩ (k1.trans (Kp.at_ _ _ _))
        show 0 ≤ h.fdiv n
        rw [Int.fdiv_eq_ediv_of_nonneg h (by omega)]
        exact Int.ediv_nonneg h0 (by omega)
      · rintro σ' H' ⟨rfl, rfl⟩
        have q1 : ∀ x : Int, 0 ≤ x % 1000000007 ∧ x % 1000000007 < 1000000007 := fun x => ⟨Int.emod_nonneg _ (by decide), Int.emod_lt_of_pos _ (by decide)⟩
        have q2 : ∀ x : Int, 0 ≤ x % 998244353 ∧ x % 998244353 < 998244353 := fun x => ⟨Int.emod_nonneg _ (by decide), Int.emod_lt_of_pos _ (by decide)⟩
        obtain ⟨u, eu⟩ : ∃ u, u = ((m + 1) * 39373) % 1000000007 := ⟨_, rfl⟩
        have hu := q1 ((m + 1) * 39373)
        rw [← eu] at hu
        obtain ⟨j, ej, hj⟩ := take_mod (k := (u * u % 998244353 * 30011 % 998244353) / 7) n0
        have hv := q2 (u * u)
        refine ⟨_, rfl, b, _, 1, _, rfl, rfl, SqL.of hb, rfl, _, _, rfl, rfl, _, _, rfl, rfl, .inl ⟨by omega, by omega⟩, .inl ⟨_, rfl, _, _, rfl, rfl, (by show (0 : Int) < 1000000007; decide), ?_⟩⟩
        show tSeq _ _ _ [some (.ref b), some (.int n), c2, c3, none, some (.int (((m + 1) * 39373) % 1000000007)), none] _
        rw [← eu]
        refine ⟨_, rfl, _, rfl, _, _, rfl, rfl, .inl ⟨by omega, by omega⟩, .inl ⟨_, rfl, _, _, rfl, rfl, (by show (0 : Int) < 998244353; decide), _, _, rfl, rfl, .inl ⟨by omega, by omega⟩, .inl ⟨_, rfl, _, _, rfl, rfl, (by show (0 : Int) < 998244353; decide), _, rfl, _, _, rfl, rfl, ⟨by decide, by decide⟩, .inl ⟨_, rfl, _, rfl, _, _, rfl, rfl, n0, ?_⟩⟩⟩⟩
        show Q (.int ((u * u % 998244353 * 30011 % 998244353) / 7 % n)) _
        rw [ej]
        exact k j _ hj B1 k1
theorem scOne : FnScope ["_law_bag_here", "_law_some"] ["_law_bag_here", "_law_some"] (defScope sOne) := ⟨rfl, rfl, rfl, by decide +kernel, rfl, by decide +kernel, by decide +kernel⟩
theorem ok_one {f : Addr} {fd : FuncData} (F : Fun K "_law_one" "_law_one" sOne f fd) (T : Txt K mg) (cT : Cal P w K mg base 1 "_law_take" ["_law_bag_here", "_law_many"] spTake) : FnOk P w K mg base CX0 2 f fd ["_law_bag_here", "_law_some"] spOne := by
  refine F.ok scOne (fun vs H Q E h => ?_) (fun cdv A outer s H vs Q E hr h => ?_)
  · obtain ⟨b, l, a, xs, rfl, _⟩ := h
    rfl
  · obtain ⟨b, l, a, xs, rfl, B, nab, ha, hne, hz, k⟩ := h
    refine ⟨_, pss_one (ps_ret (pe_ix ix_list (pv 1) (pe_call cT.G hr rfl cT.m cT.kp cT.b .nil pass0 (pa_cons (pv 0) (pa_cons (pe_callB call_len_seq (by rfl) T.len PySem.boot_len (pa_cons (pv 1) pa_nil)) pa_nil))) fun _ _ => rfl)), ?_⟩
    have hpos : 0 < xs.length := List.length_pos_iff.mpr hne
    refine ⟨_, rfl, _, rfl, _, rfl, _, _, rfl, .inl (SqL.of ha), b, l, _, rfl, B, by omega, by omega, fun j H' hj B' k' => ?_⟩
    have hj' : j < xs.length := by omega
    exact ⟨a, xs, j, xs[j], rfl, rfl, SqL.of (k' _ _ ha nab), atI_nat (List.getElem?_eq_getElem hj'), k _ _ (List.getElem_mem hj') B' k'⟩
theorem scMixed : FnScope ["_law_bag_here", "_law_things", "_law_found", "_law_thing"] ["_law_bag_here", "_law_things"] (defScope sMixed) := ⟨rfl, rfl, rfl, by decide +kernel, rfl, by decide +kernel, by decide +kernel⟩
theorem ok_mixed {f : Addr} {fd : FuncData} (F : Fun K "_law_mixed" "_law_mixed" sMixed f fd) (T : Txt K mg) (cT : Cal P w K mg base 1 "_law_take" ["_law_bag_here", "_law_many"] spTake) : FnOk P w K mg base CX0 2 f fd ["_law_bag_here", "_law_things"] spMixed := by
  refine F.ok scMixed (fun vs H Q E h => ?_) (fun cdv A outer s H vs Q E hr h => ?_)
  · obtain ⟨b, l, a, xs, rfl, _⟩ := h
    rfl
  · obtain ⟨b, l, a, xs, rfl, B, nab, ha, hz, k⟩ := h
    have nd := scMixed.nd
    refine ⟨_, pss_cons (ps_set (i := 2) nd rfl (Or.inl rfl) (pe_lst pa_nil)) (pss_cons (ps_for PassesOwn.never rfl (pi_list (pv 1)) (pg_name (i := 3) nd rfl (Or.inl rfl))
      (pss_one (ps_expr (pe_bm PySem.F.plainAttrs_list PySem.F.slot_list_insert PySem.F.type_list_insert mt_insert (pv 2)
        (pa_cons (pe_call cT.G hr rfl cT.m cT.kp cT.b .nil pass0 (pa_cons (pv 0) (pa_cons (pe_op op_add (pe_callB call_len_seq (by rfl) T.len PySem.boot_len (pa_cons (pv 2) pa_nil)) pe_int) pa_nil))) (pa_cons (pv 3) pa_nil))))))
      (pss_one (ps_ret (pv 2)))), ?_⟩
    refine ⟨by decide, fun p hp => ?_⟩
    have npb : p ≠ b := B.ne hp
    have nap : a ≠ p := ne_of_none ha hp
    refine ⟨_, rfl, a, rfl, ⟨_, SqL.of (by rw [upd_ne nap]; exact ha)⟩, for_list (K := K) (a := a) (xs := xs) (fun i σ H' => ∃ (ys : List V) (v : Option V), σ = [some (.ref b), some (.ref a), some (.ref p), v] ∧ ys.Perm (xs.take i) ∧ H' p = some (.lst ys) ∧ Bag H' b l ∧ Kp b H H')
      ⟨[], none, rfl, by simp, upd_same, B.new hp, Kp.new hp⟩ (fun i σ H' _ ⟨_, _, _, _, _, _, k'⟩ => SqL.of (k' _ _ ha nab)) ?_ ?_⟩
    · rintro i x σ H' hi ⟨ys, v, rfl, hp1, h1, B1, k1⟩
      have hil : i < xs.length := (List.getElem?_eq_some_iff.mp hi).1
      have hyl : ys.length = i := by
        rw [hp1.length_eq, List.length_take]
        omega
      refine ⟨_, rfl, .inl ⟨rfl, _, SqL.of h1⟩, _, rfl, _, rfl, _, _, rfl, .inl (SqL.of h1), _, _, rfl, rfl, b, l, _, rfl, B1, by omega, by omega, fun j H2 hj B2 k2 => ?_⟩
      refine ⟨_, rfl, p, ys, (j : Int), x, rfl, rfl, k2 _ _ h1 npb, Nat.lt_of_lt_of_le (show ys.length < 1000 by omega) (by rw [sizeLine_eq]; decide), by omega, by omega, ?_⟩
      refine ⟨ys.take j ++ [x] ++ ys.drop j, _, rfl, ?_, ?_, ?_, ?_⟩
      · have e1 : xs.take (i + 1) = xs.take i ++ [x] := by
          rw [List.take_add_one, hi]
          rfl
        rw [e1]
        have q1 : (ys.take j ++ [x] ++ ys.drop j).Perm (ys ++ [x]) := by
          have q2 : (ys.take j ++ ([x] ++ ys.drop j)).Perm (ys.take j ++ (ys.drop j ++ [x])) := List.Perm.append_left _ List.perm_append_comm
          rw [List.append_assoc]
          refine q2.trans ?_
          rw [← List.append_assoc, List.take_append_drop]
        exact q1.trans (hp1.append_right _)
      · rw [upd_same]
        simp
      · exact B2.upd npb.symm (B.nel hp)
      · intro c o hc ncb
        have : c ≠ p := ne_of_none hc hp
        rw [upd_ne this]
        exact k2 _ _ (k1 _ _ hc ncb) ncb
    · rintro σ H' ⟨ys, v, rfl, hp1, h1, B1, k1⟩
      rw [List.take_length] at hp1
      exact ⟨_, rfl, k ys p H' hp1 hp npb h1 B1 k1⟩
theorem scNames : FnScope ["_law_bag_here", "_law_many", "_law_menu"] ["_law_bag_here", "_law_many"] (defScope sNames) := ⟨rfl, rfl, rfl, by decide +kernel, rfl, by decide +kernel, by decide +kernel⟩
theorem ok_names {f : Addr} {fd : FuncData} (F : Fun K "_law_names" "_law_names" sNames f fd) (T : Txt K mg) (cM : Cal P w K mg base 2 "_law_mixed" ["_law_bag_here", "_law_things"] spMixed) : FnOk P w K mg base CX0 3 f fd ["_law_bag_here", "_law_many"] spNames := by
  refine F.ok scNames (fun vs H Q E h => ?_) (fun cdv A outer s H vs Q E hr h => ?_)
  · obtain ⟨b, l, n, rfl, _⟩ := h
    rfl
  · obtain ⟨b, l, n, rfl, B, k⟩ := h
    have nd := scNames.nd
    refine ⟨_, pss_cons (ps_set (i := 2) nd rfl (Or.inl rfl) (pe_lst (pa_cons pe_str (pa_cons pe_str (pa_cons pe_str (pa_cons pe_str (pa_cons pe_str (pa_cons pe_str (pa_cons pe_str (pa_cons pe_str (pa_cons pe_str (pa_cons pe_str (pa_cons pe_str (pa_cons pe_str pa_nil))))))))))))))
      (pss_one (ps_ret (pe_slice sl_list (pe_call cM.G hr rfl cM.m cM.kp cM.b .nil pass0 (pa_cons (pv 0) (pa_cons (pv 2) pa_nil))) po_none (po_some (pv 1))))), ?_⟩
    refine ⟨by show 12 ≤ sizeLine; decide, fun p hp => ?_⟩
    have npb : p ≠ b := B.ne hp
    refine ⟨_, rfl, _, rfl, b, l, p, menu0.map V.str, rfl, B.new hp, npb, upd_same, by show 12 < 1000; decide, fun ys q H' hp1 hq nqb h1 B1 k1 => ?_⟩
    refine ⟨_, rfl, _, rfl, q, ys, rfl, SqL.of h1, fun r hr => ?_⟩
    have e0 : cutV ys none (some (n : Int)) = ys.take n := cut_to n ys
    rw [e0]
    obtain ⟨zs, rfl, hzs⟩ := perm_strs hp1
    have hsub := (List.take_sublist n zs)
    have nrH : H r = none := by
      cases e : H r with
      | none => rfl
      | some o =>
        have ner : r ≠ p := ne_of_none e hp
        by_cases erb : r = b
        · subst erb
          obtain ⟨o', e'⟩ := B1.at_
          rw [e'] at hr
          cases hr
        · have := k1 r o (by rw [upd_ne ner]; exact e) erb
          rw [this] at hr
          cases hr
    refine k (zs.take n) r _ ⟨(hzs.nodup_iff.mpr menu0_nodup).sublist hsub, fun c hc => menu0_sub _ (hzs.mem_iff.mp (hsub.mem hc)), by rw [List.length_take, hzs.length_eq]; rfl⟩ nrH (B1.ne hr) (by rw [upd_same, List.map_take]) (B1.new hr) ((Kp.new hp).trans (k1.trans (Kp.new hr)))
theorem scIndex : FnScope ["_law_bag_here", "_law_names_here"] ["_law_bag_here", "_law_names_here"] (defScope sIndex) := ⟨rfl, rfl, rfl, by decide +kernel, rfl, by decide +kernel, by decide +kernel⟩
theorem ok_index {f : Addr} {fd : FuncData} (F : Fun K "_law_index" "_law_index" sIndex f fd) (T : Txt K mg) (cT : Cal P w K mg base 1 "_law_take" ["_law_bag_here", "_law_many"] spTake) (cM : Cal P w K mg base 2 "_law_mixed" ["_law_bag_here", "_law_things"] spMixed) : FnOk P w K mg base CX0 3 f fd ["_law_bag_here", "_law_names_here"] spIndex := by
  refine F.ok scIndex (fun vs H Q E h => ?_) (fun cdv A outer s H vs Q E hr h => ?_)
  · obtain ⟨b, l, a, xs, rfl, _⟩ := h
    rfl
  · obtain ⟨b, l, a, xs, rfl, B, nab, ha, R, k⟩ := h
    have nd := scIndex.nd
    have hr1 : Room 1 _ := hr.mono (by decide)
    refine ⟨_, pss_one (ps_ret (pe_callTy call_tuple_of (by rfl) T.tuple (by decide +kernel) (pa_cons (pe_slice sl_list (pe_call cM.G hr rfl cM.m cM.kp cM.b .nil pass0 (pa_cons (pv 0) (pa_cons (pv 1) pa_nil))) po_none
        (po_some (pe_op op_add pe_int (pe_call cT.G hr1 rfl cT.m cT.kp cT.b .nil pass0 (pa_cons (pv 0) (pa_cons (pe_callB call_len_seq (by rfl) T.len PySem.boot_len (pa_cons (pv 1) pa_nil)) pa_nil)))))) pa_nil))), ?_⟩
    have hl := R.le
    have hpos := R.pos
    refine ⟨_, rfl, _, rfl, b, l, a, _, rfl, B, nab, ha, by rw [List.length_map]; omega, fun ys0 p H1 hp0 hp hpb h1 B1 k1 => ?_⟩
    obtain ⟨ys, rfl, hy⟩ := perm_strs hp0
    have ha1 := k1 _ _ ha nab
    refine ⟨_, rfl, _, rfl, _, _, rfl, .inl (SqL.of ha1), b, l, _, rfl, B1, by rw [List.length_map]; omega, by rw [List.length_map]; omega, fun j H2 hj B2 k2 => ?_⟩
    rw [List.length_map] at hj
    refine ⟨_, _, rfl, rfl, _, rfl, p, _, rfl, SqL.of (k2 _ _ h1 hpb), fun r hr => ⟨r, _, rfl, .inl ⟨SqL.of upd_same, fun t ht => ?_⟩⟩⟩
    have ec : cutV (ys.map V.str) none (some (1 + (j : Int))) = (ys.take (j + 1)).map V.str := by
      have e1 : (1 + (j : Int)) = ((j + 1 : Nat) : Int) := by omega
      rw [e1, cut_to, List.map_take]
    rw [ec] at ht
    rw [ec]
    have hyl := hy.length_eq
    have sl := List.take_sublist (j + 1) ys
    have s2 : Same H2 _ := (same_new (o := .lst ((ys.take (j + 1)).map V.str)) hr).trans (same_new (o := .tup ((ys.take (j + 1)).map V.str)) ht)
    have hsub : ∀ c ∈ ys.take (j + 1), c ∈ xs := fun c hc => hy.mem_iff.mp (sl.mem hc)
    exact k t (ys.take (j + 1)) _ upd_same ⟨(hy.nodup_iff.mpr R.nd).sublist sl, fun c hc => R.sub _ (hsub c hc), by rw [List.length_take]; omega, by rw [List.length_take]; omega⟩ hsub (B2.same s2) (k1.trans (k2.trans (Kp.of s2)))
theorem scIsCol : FnScope ["thing"] ["thing"] (defScope sIsCol) := ⟨rfl, rfl, rfl, by decide +kernel, rfl, by decide +kernel, by decide +kernel⟩
theorem ok_iscol {f : Addr} {fd : FuncData} (F : Fun K "is_column" "is_column" sIsCol f fd) (T : Txt K mg) : FnOk P w K mg base CX0 1 f fd ["thing"] (spText K colS) := by
  refine F.ok scIsCol (fun vs H Q E h => ?_) (fun cdv A outer s H vs Q E hr h => ?_)
  · obtain ⟨x, rfl, _⟩ := h
    rfl
  · obtain ⟨x, rfl, h⟩ := h
    have nd := scIsCol.nd
    obtain ⟨tl, hl⟩ := T.longest
    refine ⟨_, pss_cons (ps_if (PW.pt (pw_or (pt_not (pt_val (pe_callB call_isi (by rfl) T.isinstance (by decide +kernel) (pa_cons (pv 0) (pa_cons (pe_bltn (v := .ty "str") (by rfl) T.str (by decide +kernel) rfl) pa_nil)))))
        (pw_or1 (pt_not (pt_chain op_le op_le pe_int (pe_callB call_len_str (by rfl) T.len PySem.boot_len (pa_cons (pv 0) pa_nil)) (pe_glob (v := .int 8) rfl hl ⟨tl, rfl⟩)))))) (pss_one (ps_ret pe_bl)) pss_nil)
      (pss_one (ps_ret (pe_and (pe_m0 PySem.F.slot_str_isascii PySem.F.type_str_isascii mt_isascii (pv 0)) (pe_and (pe_m0 PySem.F.slot_str_isalpha PySem.F.type_str_isalpha mt_isalpha (pv 0))
        (pe_one (pe_m0 PySem.F.slot_str_islower PySem.F.type_str_islower mt_islower (pv 0))))))), ?_⟩
    rcases h with ⟨z, rfl, hz, hok, k⟩ | ⟨t, ty, hk, k⟩
    · refine ⟨_, rfl, _, _, .type "str", .type "str", true, rfl, .ty "str", .base (.str z), kit_ty (by decide +kernel), _, rfl, ?_⟩
      refine iteF ?_
      have hlen : z.length = z.cps.size := rfl
      have kk := k H (Same.refl _)
      unfold colS at kk
      refine ⟨_, rfl, z, rfl, by rw [hlen, sizeLine_eq]; omega, 1, _, rfl, rfl, _, rfl, ?_⟩
      rw [hlen]
      by_cases c1 : 1 ≤ z.cps.size
      · have d1 : decide ((1 : Int) ≤ (z.cps.size : Int)) = true := decide_eq_true (by omega)
        rw [d1]
        refine iteT ?_
        refine ⟨_, 8, rfl, rfl, _, rfl, ?_⟩
        by_cases c2 : z.cps.size ≤ 8
        · have d2 : decide ((z.cps.size : Int) ≤ 8) = true := decide_eq_true (by omega)
          rw [d2]
          refine iteF ?_
          rw [decide_eq_true c1, decide_eq_true c2, ← low_iff z c1, Bool.true_and, Bool.true_and] at kk
          refine ⟨_, rfl, ⟨_, rfl⟩, z, rfl, rfl, True.intro, _, rfl, ?_⟩
          cases h1 : Txt.isascii z with
          | false =>
            rw [h1, Bool.false_and] at kk
            refine iteF ?_
            exact kk
          | true =>
            rw [h1, Bool.true_and] at kk
            refine iteT ?_
            refine ⟨_, rfl, ⟨_, rfl⟩, z, rfl, rfl, True.intro, _, rfl, ?_⟩
            cases h2 : Txt.isalpha z with
            | false =>
              rw [h2, Bool.false_and] at kk
              refine iteF ?_
              exact kk
            | true =>
              rw [h2, Bool.true_and] at kk
              refine iteT ?_
              exact ⟨_, rfl, ⟨_, rfl⟩, z, rfl, rfl, True.intro, kk⟩
        · have d2 : decide ((z.cps.size : Int) ≤ 8) = false := decide_eq_false (by omega)
          rw [d2]
          refine iteT ?_
          rw [decide_eq_false c2, Bool.and_false, Bool.false_and] at kk
          exact kk
      · have d1 : decide ((1 : Int) ≤ (z.cps.size : Int)) = false := decide_eq_false (by omega)
        rw [d1]
        refine iteF ?_
        refine ⟨_, rfl, ?_⟩
        refine iteT ?_
        rw [decide_eq_false c1, Bool.false_and, Bool.false_and] at kk
        exact kk
    · refine ⟨_, rfl, _, _, .type t, .type "str", false, rfl, .ty "str", ty, kit_ty hk, _, rfl, ?_⟩
      refine iteT ?_
      exact k
theorem scQof : FnScope ["index", "found", "many", "column", "front"] ["index"] (defScope sQof) := ⟨rfl, rfl, rfl, by decide +kernel, rfl, by decide +kernel, by decide +kernel⟩
theorem ok_qof {f : Addr} {fd : FuncData} (F : Fun K "questions_of" "questions_of" sQof f fd) (T : Txt K mg) : FnOk P w K mg base CX0 1 f fd ["index"] spQof := by
  refine F.ok scQof (fun vs H Q E h => ?_) (fun cdv A outer s H vs Q E hr h => ?_)
  · obtain ⟨t, ix, rfl, _⟩ := h
    rfl
  · obtain ⟨t, ix, rfl, ht, R, k⟩ := h
    have nd := scQof.nd
    have hu : A.units + 3 + 80 < cLine := by
      have := hr.un
      show A.units + 3 + 80 < cLine
      have e : (A.deeper (envOfC "questions_of" (defScope sQof) s.heap.objs.size f cdv)).units = A.units + 3 := rfl
      omega
    refine ⟨_, pss_cons (ps_set (i := 1) nd rfl (Or.inl rfl) (pe_lst pa_nil))
      (pss_cons (ps_for PassesOwn.never rfl (pi_enumT (by rfl) T.enumerate (pa_cons (pv 0) pa_nil)) (pg_tup (by rfl) (pgs_cons (pg_name (i := 2) nd rfl (Or.inl rfl)) (pgs_cons (pg_name (i := 3) nd rfl (Or.inl rfl)) pgs_nil)))
        (pss_cons (ps_set (i := 4) nd rfl (Or.inl rfl) (pe_callTy call_tuple_of (by rfl) T.tuple (by decide +kernel) (pa_cons (pe_callB cr_sortedST (by rfl) T.sorted (by decide +kernel) (pa_cons (pe_slice sl_tupA (pv 0) po_none (po_some (pv 2))) pa_nil)) pa_nil)))
        (pss_cons (ps_expr (pe_bm PySem.F.plainAttrs_list PySem.F.slot_list_append PySem.F.type_list_append mt_append (pv 1) (pa_cons (pe_tup (pa_cons (pv 4) (pa_cons (pv 3) pa_nil))) pa_nil)))
        (pss_one (ps_expr (pe_bm PySem.F.plainAttrs_list PySem.F.slot_list_append PySem.F.type_list_append mt_append (pv 1) (pa_cons (pe_tup (pa_cons
          (pe_callTy call_tuple_of (by rfl) T.tuple (by decide +kernel) (pa_cons (pe_callB cr_sortedST (by rfl) T.sorted (by decide +kernel) (pa_cons (pe_lst (StX.pa_star (pv 4) (pa_cons (pv 3) pa_nil))) pa_nil)) pa_nil)) (pa_cons pe_str pa_nil))) pa_nil)))))))
      (pss_one (ps_ret (pe_callB (cr_sortedQL hu) (by rfl) T.sorted (by decide +kernel) (pa_cons (pv 1) pa_nil))))), ?_⟩
    have hle := R.le
    refine ⟨by decide, fun p hp => ?_⟩
    have s0 : Same H (upd H p (.lst [])) := same_new hp
    have hlx : (ix.map V.str).length = ix.length := List.length_map _
    refine ⟨_, rfl, t, _, rfl, SqT.of (s0 _ _ ht), for_enumT (K := K) (a := t) (xs := ix.map V.str) (fun i σ H' => ∃ (v2 v3 v4 : Option V) (ys : List V), σ = [some (.ref t), some (.ref p), v2, v3, v4] ∧ Same H H' ∧ H' p = some (.lst ys) ∧ QL H' ys (allQ ix i))
      ⟨none, none, none, [], rfl, s0, upd_same, .nil⟩ (fun i σ H' _ ⟨_, _, _, _, _, s1, _⟩ => SqT.of (s1 _ _ ht)) ?_ ?_⟩
    · rintro i x σ H' hi ⟨v2, v3, v4, ys, rfl, s1, hpl, hq⟩ T1 hT1
      have hil : i < ix.length := by
        have := (List.getElem?_eq_some_iff.mp hi).1
        omega
      obtain rfl : V.str ix[i] = x := by
        rw [List.getElem?_map, List.getElem?_eq_getElem hil] at hi
        exact Option.some.inj hi
      have hgd : ix.getD i "" = ix[i] := by
        rw [List.getD_eq_getElem?_getD, List.getElem?_eq_getElem hil]
        rfl
      have sT : Same H' (upd H' T1 (.tup [.int (i : Nat), .str ix[i]])) := same_new hT1
      have hyl : ys.length = 2 * i := by rw [hq.len, allQ_len]
      refine ⟨T1, _, rfl, SqT.of upd_same, rfl, _, _, rfl, _, _, rfl, rfl, ?_⟩
      refine ⟨_, rfl, _, rfl, _, rfl, ?_⟩
      refine slA (sT _ _ (s1 _ _ ht)) ((cut_to i _).trans List.map_take.symm) fun r H2 s2 h2 => ?_
      refine ⟨r, ix.take i, rfl, .inr (SqT.of h2), by rw [List.length_take]; omega, fun ws q1 hw hs hq1 => ⟨q1, _, rfl, .inl ⟨SqL.of upd_same, fun fr hfr => ?_⟩⟩⟩
      have s3 : Same H' _ := sT.trans (s2.trans ((same_new (o := .lst (ws.map V.str)) hq1).trans (same_new (o := .tup (ws.map V.str)) hfr)))
      have ew : ws = srt (ix.take i) := srt_eq hw hs
      -- found.append((front, column))
      refine ⟨_, rfl, .inl ⟨rfl, _, SqL.of (s3 _ _ hpl)⟩, _, rfl, _, rfl, by show 2 ≤ sizeLine; decide, fun q2 hq2 => ⟨p, _, _, rfl, rfl, same_new hq2 _ _ (s3 _ _ hpl), small1000 (by omega), ?_⟩⟩
      have s4 := s3.trans (same_new (o := .tup [.ref fr, .str ix[i]]) hq2)
      have hfr4 : (upd (upd (upd H2 q1 (.lst (ws.map V.str))) fr (.tup (ws.map V.str))) q2 (.tup [.ref fr, .str ix[i]])) fr = some (.tup (ws.map V.str)) := same_new hq2 _ _ upd_same
      have nfrp : fr ≠ p := ne_of hfr4 (s4 _ _ hpl) (by intro z; cases z)
      have nq2p : q2 ≠ p := ne_of upd_same (s4 _ _ hpl) (by intro z; cases z)
      have hq4 : QL _ ys (allQ ix i) := hq.same s4
      -- all questions that stand are tuples: they stay when p's list changes
      have keepP : ∀ {H0 : Hp} {o : HO} {zs : List V} {qs : List Qd} {w0 : List V}, H0 p = some (.lst w0) → QL H0 zs qs → QL (upd H0 p o) zs qs := by
        intro H0 o zs qs w0 hp0 hz
        refine Paired.mapP hz fun x q ⟨t', e, c, g1, g2⟩ => ⟨t', e, c, ?_, ?_⟩
        · rw [upd_ne (ne_of g1 hp0 (by intro z; cases z))]
          exact g1
        · rw [upd_ne (ne_of g2 hp0 (by intro z; cases z))]
          exact g2
      have hA : QL (upd (upd (upd (upd H2 q1 (.lst (ws.map V.str))) fr (.tup (ws.map V.str))) q2 (.tup [.ref fr, .str ix[i]])) p (.lst (ys ++ [.ref q2]))) (ys ++ [.ref q2]) (allQ ix i ++ [(srt (ix.take i), ix.getD i "")]) := by
        refine keepP (s4 _ _ hpl) (paired_app hq4 (.cons ⟨q2, rfl, fr, ?_, ?_⟩ .nil))
        · show (_ : Option HO) = some (HO.tup [.ref fr, .str (ix.getD i "")])
          rw [hgd]
          exact upd_same
        · show (_ : Option HO) = some (HO.tup ((srt (ix.take i)).map V.str))
          rw [← ew]
          exact hfr4
      have hfr5 : (upd (upd (upd (upd H2 q1 (.lst (ws.map V.str))) fr (.tup (ws.map V.str))) q2 (.tup [.ref fr, .str ix[i]])) p (.lst (ys ++ [.ref q2]))) fr = some (.tup (ws.map V.str)) := by
        rw [upd_ne nfrp]
        exact hfr4
      -- found.append((tuple(sorted([*front, column])), ''))
      refine ⟨_, rfl, .inl ⟨rfl, _, SqL.of upd_same⟩, _, rfl, fr, _, rfl, .inl (SqT.of hfr5), _, rfl, ?_, fun d1 hd1 => ?_⟩
      · show (ws.map V.str ++ [V.str ix[i]]).length ≤ sizeLine
        have hwl := hw.length_eq
        rw [List.length_take] at hwl
        rw [List.length_append, List.length_map, sizeLine_eq]
        simp
        omega
      have e6 : ws.map V.str ++ [V.str ix[i]] = (ws ++ [ix[i]]).map V.str := by rw [List.map_append]; rfl
      show (fun (Hx : Hp) => _) (upd _ d1 (.lst (ws.map V.str ++ [V.str ix[i]])))
      rw [e6]
      refine ⟨d1, ws ++ [ix[i]], rfl, .inl (SqL.of upd_same), ?_, fun us d2 hu2 hs2 hd2 => ⟨d2, _, rfl, .inl ⟨SqL.of upd_same, fun d3 hd3 => ⟨by show 2 ≤ sizeLine; decide, fun d4 hd4 => ?_⟩⟩⟩⟩
      · have hwl := hw.length_eq
        rw [List.length_take] at hwl
        rw [List.length_append]
        simp
        omega
      have eu : us = srt (ix.take (i + 1)) := by
        refine srt_eq (hu2.trans ?_) hs2
        rw [List.take_add_one, List.getElem?_eq_getElem hil]
        exact hw.append_right _
      have sB : Same (upd (upd (upd (upd H2 q1 (.lst (ws.map V.str))) fr (.tup (ws.map V.str))) q2 (.tup [.ref fr, .str ix[i]])) p (.lst (ys ++ [.ref q2]))) _ :=
        (same_new (o := .lst ((ws ++ [ix[i]]).map V.str)) hd1).trans ((same_new (o := .lst (us.map V.str)) hd2).trans ((same_new (o := .tup (us.map V.str)) hd3).trans (same_new (o := .tup [.ref d3, .str ""]) hd4)))
      have hpB := sB _ _ (upd_same (H := (upd (upd (upd H2 q1 (.lst (ws.map V.str))) fr (.tup (ws.map V.str))) q2 (.tup [.ref fr, .str ix[i]]))) (a := p) (o := .lst (ys ++ [.ref q2])))
      refine ⟨p, _, _, rfl, rfl, hpB, small1000 (by rw [List.length_append]; simp; omega), ?_⟩
      refine ⟨_, _, _, _, rfl, fun c o hc => ?_, upd_same, ?_⟩
      · have ncp : c ≠ p := ne_of_none hc hp
        rw [upd_ne ncp]
        refine sB _ _ ?_
        rw [upd_ne ncp]
        exact s4 _ _ (s1 _ _ hc)
      · rw [allQ_succ]
        show QL _ (ys ++ [.ref q2] ++ [.ref d4]) (allQ ix i ++ [(srt (ix.take i), ix.getD i ""), (srt (ix.take (i + 1)), "")])
        have e7 : allQ ix i ++ [(srt (ix.take i), ix.getD i ""), ((srt (ix.take (i + 1)), ("" : Str)) : Qd)] = allQ ix i ++ [(srt (ix.take i), ix.getD i "")] ++ [((srt (ix.take (i + 1)), ("" : Str)) : Qd)] := by
          rw [List.append_assoc]
          rfl
        rw [e7]
        refine keepP hpB (paired_app (hA.same sB) (.cons ⟨d4, rfl, d3, upd_same, ?_⟩ .nil))
        show (_ : Option HO) = some (HO.tup ((srt (ix.take (i + 1))).map V.str))
        rw [← eu]
        exact same_new hd4 _ _ upd_same
    · rintro σ H' ⟨v2, v3, v4, ys, rfl, s1, hpl, hq⟩
      rw [hlx] at hq
      refine ⟨_, rfl, p, ys, _, rfl, SqL.of hpl, hq, fun q hq' c hc => okS_strOk ((allQ_fine R (Nat.le_refl _) q hq').c c hc), fun zs rs p2 h1 h2 h3 h4 => ?_⟩
      have sN := same_new (o := .lst zs) h4
      exact k zs rs p2 _ (s1.trans sN) (s1.free h4) upd_same (h1.same sN) h2 h3
theorem scServedBy : FnScope ["_law_index_here", "_law_found", "_law_size"] ["_law_index_here"] (defScope sServedBy) := ⟨rfl, rfl, rfl, by decide +kernel, rfl, by decide +kernel, by decide +kernel⟩
theorem ok_servedby {f : Addr} {fd : FuncData} (F : Fun K "_law_served_by" "_law_served_by" sServedBy f fd) (T : Txt K mg) : FnOk P w K mg base CX0 1 f fd ["_law_index_here"] spServedBy := by
  refine F.ok scServedBy (fun vs H Q E h => ?_) (fun cdv A outer s H vs Q E hr h => ?_)
  · obtain ⟨t, ix, rfl, _⟩ := h
    rfl
  · obtain ⟨t, ix, rfl, ht, R, k⟩ := h
    have nd := scServedBy.nd
    refine ⟨_, pss_cons (ps_set (i := 1) nd rfl (Or.inl rfl) (pe_lst pa_nil))
      (pss_cons (ps_for PassesOwn.never rfl (pi_range1 (by rfl) T.range (pa_cons (pe_callB call_len_seq (by rfl) T.len PySem.boot_len (pa_cons (pv 0) pa_nil)) pa_nil)) (pg_name (i := 2) nd rfl (Or.inl rfl))
        (pss_cons (ps_expr (pe_bm PySem.F.plainAttrs_list PySem.F.slot_list_append PySem.F.type_list_append mt_append (pv 1) (pa_cons (pe_tup (pa_cons
          (pe_callTy call_tuple_of (by rfl) T.tuple (by decide +kernel) (pa_cons (pe_callB cr_sortedST (by rfl) T.sorted (by decide +kernel) (pa_cons (pe_slice sl_tupA (pv 0) po_none (po_some (pv 2))) pa_nil)) pa_nil))
          (pa_cons (pe_ix ix_tup (pv 0) (pv 2) fun _ _ => rfl) pa_nil))) pa_nil)))
        (pss_one (ps_expr (pe_bm PySem.F.plainAttrs_list PySem.F.slot_list_append PySem.F.type_list_append mt_append (pv 1) (pa_cons (pe_tup (pa_cons
          (pe_callTy call_tuple_of (by rfl) T.tuple (by decide +kernel) (pa_cons (pe_callB cr_sortedST (by rfl) T.sorted (by decide +kernel) (pa_cons (pe_slice sl_tupA (pv 0) po_none (po_some (pe_op op_add (pv 2) pe_int))) pa_nil)) pa_nil))
          (pa_cons pe_str pa_nil))) pa_nil))))))
      (pss_one (ps_ret (pv 1)))), ?_⟩
    have hle := R.le
    have hlx : (ix.map V.str).length = ix.length := List.length_map _
    refine ⟨by decide, fun p hp => ?_⟩
    have s0 : Same H (upd H p (.lst [])) := same_new hp
    refine ⟨_, rfl, _, _, rfl, .inr (SqT.of (s0 _ _ ht)), _, rfl, by omega, by omega, ?_⟩
    rw [hlx]
    refine for_range (lo := 0) (n := ix.length) (fun i σ H' => ∃ (v2 : Option V) (ys : List V), σ = [some (.ref t), some (.ref p), v2] ∧ Same H H' ∧ H' p = some (.lst ys) ∧ QL H' ys (allQ ix i))
      ⟨none, [], rfl, s0, upd_same, .nil⟩ ?_ ?_
    · rintro i σ H' hil ⟨v2, ys, rfl, s1, hpl, hq⟩
      have e0 : (0 : Int) + (i : Int) = (i : Int) := Int.zero_add _
      rw [e0]
      have hgd : ix.getD i "" = ix[i] := by
        rw [List.getD_eq_getElem?_getD, List.getElem?_eq_getElem hil]
        rfl
      have hyl : ys.length = 2 * i := by rw [hq.len, allQ_len]
      have keepP : ∀ {H0 : Hp} {o : HO} {zs : List V} {qs : List Qd} {w0 : List V}, H0 p = some (.lst w0) → QL H0 zs qs → QL (upd H0 p o) zs qs := by
        intro H0 o zs qs w0 hp0 hz
        refine Paired.mapP hz fun x q ⟨t', e, c, g1, g2⟩ => ⟨t', e, c, ?_, ?_⟩
        · rw [upd_ne (ne_of g1 hp0 (by intro z; cases z))]
          exact g1
        · rw [upd_ne (ne_of g2 hp0 (by intro z; cases z))]
          exact g2
      -- found.append((tuple(sorted(index[:size])), index[size]))
      refine ⟨_, rfl, .inl ⟨rfl, _, SqL.of hpl⟩, _, rfl, _, rfl, _, rfl, ?_⟩
      refine slA (s1 _ _ ht) ((cut_to i _).trans List.map_take.symm) fun r H2 s2 h2 => ?_
      refine ⟨r, ix.take i, rfl, .inr (SqT.of h2), by rw [List.length_take]; omega, fun ws q1 hw hs hq1 => ⟨q1, _, rfl, .inl ⟨SqL.of upd_same, fun fr hfr => ?_⟩⟩⟩
      have s3 : Same H' _ := s2.trans ((same_new (o := .lst (ws.map V.str)) hq1).trans (same_new (o := .tup (ws.map V.str)) hfr))
      have ew : ws = srt (ix.take i) := srt_eq hw hs
      refine ⟨_, rfl, _, rfl, t, _, (i : Int), .str ix[i], rfl, rfl, SqT.of (s3 _ _ (s1 _ _ ht)), atI_nat (by rw [List.getElem?_map, List.getElem?_eq_getElem hil]; rfl), by show 2 ≤ sizeLine; decide, fun q2 hq2 => ⟨p, _, _, rfl, rfl, same_new hq2 _ _ (s3 _ _ hpl), small1000 (by omega), ?_⟩⟩
      have s4 := s3.trans (same_new (o := .tup [.ref fr, .str ix[i]]) hq2)
      have hfr4 : (upd (upd (upd H2 q1 (.lst (ws.map V.str))) fr (.tup (ws.map V.str))) q2 (.tup [.ref fr, .str ix[i]])) fr = some (.tup (ws.map V.str)) := same_new hq2 _ _ upd_same
      have hA : QL (upd (upd (upd (upd H2 q1 (.lst (ws.map V.str))) fr (.tup (ws.map V.str))) q2 (.tup [.ref fr, .str ix[i]])) p (.lst (ys ++ [.ref q2]))) (ys ++ [.ref q2]) (allQ ix i ++ [(srt (ix.take i), ix.getD i "")]) := by
        refine keepP (s4 _ _ hpl) (paired_app (hq.same s4) (.cons ⟨q2, rfl, fr, ?_, ?_⟩ .nil))
        · show (_ : Option HO) = some (HO.tup [.ref fr, .str (ix.getD i "")])
          rw [hgd]
          exact upd_same
        · show (_ : Option HO) = some (HO.tup ((srt (ix.take i)).map V.str))
          rw [← ew]
          exact hfr4
      have ht5 : (upd (upd (upd (upd H2 q1 (.lst (ws.map V.str))) fr (.tup (ws.map V.str))) q2 (.tup [.ref fr, .str ix[i]])) p (.lst (ys ++ [.ref q2]))) t = some (.tup (ix.map V.str)) := by
        have h := s4 _ _ (s1 _ _ ht)
        rw [upd_ne (ne_of h (s4 _ _ hpl) (by intro z; cases z))]
        exact h
      -- found.append((tuple(sorted(index[:size + 1])), ''))
      refine ⟨_, rfl, .inl ⟨rfl, _, SqL.of upd_same⟩, _, rfl, _, rfl, _, _, rfl, rfl, _, rfl, ?_⟩
      have e1 : (i : Int) + 1 = ((i + 1 : Nat) : Int) := by omega
      refine slA (ys := ix.take (i + 1)) ht5 ?_ fun r2 H6 s6 h6 => ?_
      · show cutV (ix.map V.str) none (some ((i : Int) + 1)) = _
        rw [e1, cut_to, List.map_take]
      refine ⟨r2, ix.take (i + 1), rfl, .inr (SqT.of h6), by rw [List.length_take]; omega, fun us d2 hu2 hs2 hd2 => ⟨d2, _, rfl, .inl ⟨SqL.of upd_same, fun d3 hd3 => ⟨by show 2 ≤ sizeLine; decide, fun d4 hd4 => ?_⟩⟩⟩⟩
      have eu : us = srt (ix.take (i + 1)) := srt_eq hu2 hs2
      have sB : Same (upd (upd (upd (upd H2 q1 (.lst (ws.map V.str))) fr (.tup (ws.map V.str))) q2 (.tup [.ref fr, .str ix[i]])) p (.lst (ys ++ [.ref q2]))) _ :=
        s6.trans ((same_new (o := .lst (us.map V.str)) hd2).trans ((same_new (o := .tup (us.map V.str)) hd3).trans (same_new (o := .tup [.ref d3, .str ""]) hd4)))
      have hpB := sB _ _ (upd_same (H := (upd (upd (upd H2 q1 (.lst (ws.map V.str))) fr (.tup (ws.map V.str))) q2 (.tup [.ref fr, .str ix[i]]))) (a := p) (o := .lst (ys ++ [.ref q2])))
      refine ⟨p, _, _, rfl, rfl, hpB, small1000 (by rw [List.length_append]; simp; omega), ?_⟩
      refine ⟨_, _, rfl, fun c o hc => ?_, upd_same, ?_⟩
      · have ncp : c ≠ p := ne_of_none hc hp
        rw [upd_ne ncp]
        refine sB _ _ ?_
        rw [upd_ne ncp]
        exact s4 _ _ (s1 _ _ hc)
      · rw [allQ_succ]
        show QL _ (ys ++ [.ref q2] ++ [.ref d4]) (allQ ix i ++ [(srt (ix.take i), ix.getD i ""), (srt (ix.take (i + 1)), "")])
        have e7 : allQ ix i ++ [(srt (ix.take i), ix.getD i ""), ((srt (ix.take (i + 1)), ("" : Str)) : Qd)] = allQ ix i ++ [(srt (ix.take i), ix.getD i "")] ++ [((srt (ix.take (i + 1)), ("" : Str)) : Qd)] := by
          rw [List.append_assoc]
          rfl
        rw [e7]
        refine keepP hpB (paired_app (hA.same sB) (.cons ⟨d4, rfl, d3, upd_same, ?_⟩ .nil))
        show (_ : Option HO) = some (HO.tup ((srt (ix.take (i + 1))).map V.str))
        rw [← eu]
        exact same_new hd4 _ _ upd_same
    · rintro σ H' ⟨v2, ys, rfl, s1, hpl, hq⟩
      exact ⟨_, rfl, k ys p H' s1 hp hpl hq⟩
end
end Qk
set_option maxRecDepth 100000
set_option maxHeartbeats 4000000
namespace Qk
open PySem PySem.Spec PyProof.Rows L2
section
variable {P : Program} {w : World} {K : PySem.W.Frag} {mg : Str → Option Value} {base : Heap}
theorem scAlike : FnScope ["_law_found", "_law_due"] ["_law_found", "_law_due"] (defScope sAlike) := ⟨rfl, rfl, rfl, by decide +kernel, rfl, by decide +kernel, by decide +kernel⟩
theorem ok_alike {f : Addr} {fd : FuncData} (F : Fun K "_law_alike" "_law_alike" sAlike f fd) (T : Txt K mg) : FnG P w K mg base 1 f fd ["_law_found", "_law_due"] (spAlikeD K) := by
  refine okG F scAlike (fun vs H Q E h => ?_) (fun cdv A outer s H vs Q E hr hg h => ?_)
  · obtain ⟨x, y, d, rfl, _⟩ := h
    rfl
  · obtain ⟨x, y, d, rfl, h1, h2, hd, k⟩ := h
    have lay := fine_lay d hd.f
    have hdp : d.depth ≤ 60 := Nat.le_trans hd.dp (by decide)
    refine ⟨_, pss_one (ps_ret (pe_and (pe_cmpR (op_eqD hr.units) (pv 0) (pv 1) (nomark _)) (pe_one (pe_cmpR op_eq (pe_callB (call_reprD hg hr.units) (by rfl) T.repr (by decide +kernel) (pa_cons (pv 0) pa_nil))
      (pe_callB (call_reprD hg hr.units) (by rfl) T.repr (by decide +kernel) (pa_cons (pv 1) pa_nil)) (nomark _))))), ?_⟩
    refine ⟨_, rfl, _, rfl, d, d, h1, h2, hd.shaped, hd.shaped, _, rfl, ?_⟩
    rw [SeqAt.eqv_refl d lay.1]
    refine iteT ?_
    refine ⟨_, rfl, x, d, rfl, h1, lay.2.1, lay.2.2, hd.len, hdp, _, rfl, y, d, rfl, h2, lay.2.1, lay.2.2, hd.len, hdp, rfl, ?_⟩
    show Q (.bl (decide (V.str d.shown = V.str d.shown))) H
    rw [decide_eq_true rfl]
    exact k
/-- a row that stands as a tuple is one -/
def spRowT : Sp := fun vs H Q _ => ∃ (t : Addr) (r : List Str), vs = [.ref t] ∧ H t = some (.tup (r.map V.str)) ∧ Row r ∧ ∀ H', Same H H' → Q (.bl true) H'
abbrev nAD : List Str := ["things", "thing"]
theorem scAreDiff : FnScope nAD ["things"] (defScope sAreDiff) := ⟨rfl, rfl, rfl, by decide +kernel, rfl, by decide +kernel, by decide +kernel⟩
theorem ok_arediff {f : Addr} {fd : FuncData} (F : Fun K "are_different_columns" "are_different_columns" sAreDiff f fd) (T : Txt K mg) (cC : Cal P w K mg base 1 "is_column" ["thing"] (spText K colS)) : FnOk P w K mg base CX0 2 f fd ["things"] spRowT := by
  refine F.ok scAreDiff (fun vs H Q E h => ?_) (fun cdv A outer s H vs Q E hr h => ?_)
  · obtain ⟨t, r, rfl, _⟩ := h
    rfl
  · obtain ⟨t, r, rfl, ht, R, k⟩ := h
    have nd := scAreDiff.nd
    refine ⟨_, pss_one (ps_ret (pe_and (pe_callB (cr_all rfl) (by rfl) T.all (by decide +kernel) (pa_cons (pe_lc (own := [("thing", 1)]) (g := gName 1) (tt := tYes) rfl nd (pi_tup (pv 0)) (blkOk_by (N := nAD) (sc := defScope sAreDiff) (by decide +kernel))
          (fun _ _ _ _ _ => pg_name (i := 1) nd rfl (by first | exact Or.inl rfl | exact Or.inr rfl)) (fun _ _ _ _ _ => pts_nil) (fun _ _ _ _ _ => pe_call cC.G hr rfl cC.m cC.kp cC.b .nil pass0 (pa_cons (pv 1) pa_nil))) pa_nil))
        (pe_one (pe_cmpR op_eq (pe_callB (r := rLenX P w) cr_lenX (by rfl) T.len PySem.boot_len (pa_cons (pe_callTy (r := rSetX K P w) (cr_setX rfl) (by rfl) T.set (by decide +kernel) (pa_cons (pv 0) pa_nil)) pa_nil)) (pe_callB call_len_seq (by rfl) T.len PySem.boot_len (pa_cons (pv 0) pa_nil)) (nomark _))))), ?_⟩
    refine ⟨_, rfl, t, rfl, ⟨_, SqT.of ht⟩, fun D hD => ?_⟩
    refine lc_tup (K := K) (a := t) (xs := r.map V.str) (fun i H' => Same H H' ∧ H' D = some (.lst ((List.replicate i true).map V.bl))) ⟨same_new hD, upd_same⟩ (fun i H' _ h => SqT.of (h.1 _ _ ht)) ?_ ?_
    · rintro i x H1 hx ⟨s1, hDl⟩
      rw [List.getElem?_map] at hx
      obtain ⟨c, hc, rfl⟩ := Option.map_eq_some_iff.mp hx
      have mc := R.sub c (List.mem_of_getElem? hc)
      have li : i < 12 := Nat.lt_of_lt_of_le (List.getElem?_eq_some_iff.mp hc).1 R.le
      refine ⟨rfl, Exists.intro _ ⟨rfl, _, rfl, .inl ⟨c, rfl, menu_sz c mc, menu_ok c mc, fun H2 s2 => ?_⟩⟩⟩
      rw [menu_col c mc]
      refine ⟨_, s2 _ _ hDl, small1000 (by simp; omega), fun b o hb => ?_, ?_⟩
      · rw [upd_ne (ne_of_none hb hD)]
        exact s2 _ _ (s1 _ _ hb)
      · rw [upd_same, rep_snoc]
    · rintro H1 ⟨s1, hDl⟩
      refine ⟨D, _, rfl, SqL.of hDl, _, rfl, ?_⟩
      rw [rep_all]
      refine iteT ?_
      have ht1 := s1 _ _ ht
      refine ⟨_, rfl, t, r, rfl, SqT.of ht1, Nat.le_trans R.le (by decide), fun p n hp hn he => ⟨p, _, n, rfl, upd_same, ?_⟩⟩
      have s2 := same_new (o := SetX P w p (fun z => decide (z ∈ r)) n) hp
      refine ⟨_, rfl, t, _, rfl, .inr (SqT.of (s2 _ _ ht1)), rfl, ?_⟩
      have e : decide (V.int (n : Int) = V.int ((r.map V.str).length : Int)) = true := by
        rw [he R.nd, List.length_map]
        exact decide_eq_true rfl
      show Q (V.bl (decide (V.int (n : Int) = V.int ((r.map V.str).length : Int)))) _
      rw [e]
      exact k _ (s1.trans s2)
theorem scIsIndex : FnScope ["thing"] ["thing"] (defScope sIsIndex) := ⟨rfl, rfl, rfl, by decide +kernel, rfl, by decide +kernel, by decide +kernel⟩
theorem ok_isindex {f : Addr} {fd : FuncData} (F : Fun K "is_index" "is_index" sIsIndex f fd) (T : Txt K mg) (cD : Cal P w K mg base 2 "are_different_columns" ["things"] spRowT) : FnOk P w K mg base CX0 3 f fd ["thing"] spRowT := by
  refine F.ok scIsIndex (fun vs H Q E h => ?_) (fun cdv A outer s H vs Q E hr h => ?_)
  · obtain ⟨t, r, rfl, _⟩ := h
    rfl
  · obtain ⟨t, r, rfl, ht, R, k⟩ := h
    refine ⟨_, pss_one (ps_ret (pe_and (pe_callB call_isi (by rfl) T.isinstance (by decide +kernel) (pa_cons (pv 0) (pa_cons (pe_bltn (v := .ty "tuple") (by rfl) T.tuple (by decide +kernel) rfl) pa_nil)))
      (pe_and (pe_cmpR op_gt (pe_callB call_len_seq (by rfl) T.len PySem.boot_len (pa_cons (pv 0) pa_nil)) pe_int (nomark _)) (pe_one (pe_call cD.G hr rfl cD.m cD.kp cD.b .nil pass0 (pa_cons (pv 0) pa_nil)))))), ?_⟩
    refine ⟨_, rfl, _, _, .type "tuple", .type "tuple", true, rfl, .ty "tuple", .base (.tup ht), kit_ty (by decide +kernel), _, rfl, ?_⟩
    refine iteT ?_
    refine ⟨_, rfl, _, _, rfl, .inr (SqT.of ht), _, 0, rfl, rfl, _, rfl, ?_⟩
    have hp := R.pos
    have e1 : decide ((0 : Int) < ((r.map V.str).length : Int)) = true := decide_eq_true (by rw [List.length_map]; omega)
    rw [e1]
    refine iteT ?_
    exact ⟨_, rfl, t, r, rfl, ht, R, k⟩
def spAreIxs : Sp := fun vs H Q _ => ∃ (a : Addr) (xs : List V) (rs : List (List Str)), vs = [.ref a] ∧ (H a = some (.lst xs) ∨ H a = some (.tup xs)) ∧ TL H xs rs ∧ xs.length < 64 ∧ (∀ r ∈ rs, Row r) ∧ ∀ H', Same H H' → Q (.bl true) H'
abbrev nAI : List Str := ["thing", "one"]
theorem scAreIxs : FnScope nAI ["thing"] (defScope sAreIxs) := ⟨rfl, rfl, rfl, by decide +kernel, rfl, by decide +kernel, by decide +kernel⟩
theorem ok_areixs {f : Addr} {fd : FuncData} (F : Fun K "are_indexes" "are_indexes" sAreIxs f fd) (T : Txt K mg) (cI : Cal P w K mg base 3 "is_index" ["thing"] spRowT) : FnOk P w K mg base CX0 4 f fd ["thing"] spAreIxs := by
  refine F.ok scAreIxs (fun vs H Q E h => ?_) (fun cdv A outer s H vs Q E hr h => ?_)
  · obtain ⟨a, xs, rs, rfl, _⟩ := h
    rfl
  · obtain ⟨a, xs, rs, rfl, ha, hq, hl, hz, k⟩ := h
    have nd := scAreIxs.nd
    refine ⟨_, pss_one (ps_ret (pe_and (pe_callB call_isiT (by rfl) T.isinstance (by decide +kernel) (pa_cons (pv 0) (pa_cons (pe_tup (pa_cons (pe_bltn (v := .ty "list") (by rfl) T.list (by decide +kernel) rfl) (pa_cons (pe_bltn (v := .ty "tuple") (by rfl) T.tuple (by decide +kernel) rfl) pa_nil))) pa_nil)))
      (pe_one (pe_callB (cr_all rfl) (by rfl) T.all (by decide +kernel) (pa_cons (pe_lc (own := [("one", 1)]) (g := gName 1) (tt := tYes) rfl nd (PI.or (pi_list (pv 0)) (pi_tup (pv 0))) (blkOk_by (N := nAI) (sc := defScope sAreIxs) (by decide +kernel))
        (fun _ _ _ _ _ => pg_name (i := 1) nd rfl (by first | exact Or.inl rfl | exact Or.inr rfl)) (fun _ _ _ _ _ => pts_nil) (fun _ _ _ _ _ => pe_call cI.G hr rfl cI.m cI.kp cI.b .nil pass0 (pa_cons (pv 1) pa_nil))) pa_nil))))), ?_⟩
    refine ⟨_, rfl, by show 2 ≤ sizeLine; decide, fun tp htp => ?_⟩
    have s0 := same_new (o := .tup [.ty "list", .ty "tuple"]) htp
    have step : ∀ {G0 : Hp} {D : Addr}, Same H G0 → G0 D = none → ∀ (i : Nat) (x : V) (H1 : Hp), xs[i]? = some x → (Same G0 H1 ∧ H1 D = some (.lst ((List.replicate i true).map V.bl))) → ∃ (t : Addr) (r : List Str), x = .ref t ∧ H1 t = some (.tup (r.map V.str)) ∧ Row r ∧ i < 64 := fun {G0 D} s hD i x H1 hx h => by
      obtain ⟨t, r, e, h1, h2⟩ := ((hq.same s).same h.1).at_ hx
      exact ⟨t, r, e, h2, hz r (List.mem_of_getElem? h1), Nat.lt_trans (List.getElem?_eq_some_iff.mp hx).1 hl⟩
    rcases ha with ha | ha
    · refine ⟨_, tp, _, .type "list", [.type "list", .type "tuple"], true, rfl, upd_same, .cons (.ty "list") (.cons (.ty "tuple") .nil), .base (.lst (s0 _ _ ha)), ?_, _, rfl, ?_⟩
      · exact kitAny_cons (b := true) (kit_ty (by decide +kernel)) (fun h => by cases h) (fun _ => rfl)
      refine iteT ?_
      have ha0 := s0 _ _ ha
      generalize upd H tp (.tup [.ty "list", .ty "tuple"]) = H0 at s0 ha0 ⊢
      refine .inl ⟨_, rfl, a, rfl, ⟨_, SqL.of ha0⟩, fun D hD => ?_⟩
      refine lc_list (K := K) (a := a) (xs := xs) (fun i H' => Same H0 H' ∧ H' D = some (.lst ((List.replicate i true).map V.bl))) ⟨same_new hD, upd_same⟩ (fun i H' _ h => SqL.of (h.1 _ _ ha0)) ?_ ?_
      · rintro i x H1 hx h1
        obtain ⟨t, r, rfl, ht, R, li⟩ := step s0 hD i x H1 hx h1
        obtain ⟨s1, hDl⟩ := h1
        refine ⟨rfl, Exists.intro _ ⟨rfl, t, r, rfl, ht, R, fun H2 s2 => ?_⟩⟩
        refine ⟨_, s2 _ _ hDl, small1000 (by simp; omega), fun b o hb => ?_, ?_⟩
        · rw [upd_ne (ne_of_none hb hD)]
          exact s2 _ _ (s1 _ _ hb)
        · rw [upd_same, rep_snoc]
      · rintro H1 ⟨s1, hDl⟩
        refine ⟨D, _, rfl, SqL.of hDl, ?_⟩
        rw [rep_all]
        exact k H1 (s0.trans s1)
    · refine ⟨_, tp, _, .type "tuple", [.type "list", .type "tuple"], true, rfl, upd_same, .cons (.ty "list") (.cons (.ty "tuple") .nil), .base (.tup (s0 _ _ ha)), ?_, _, rfl, ?_⟩
      · exact kitAny_cons (b := false) (kit_ty (by decide +kernel)) (fun _ => kitAny_cons (b := true) (kit_ty (by decide +kernel)) (fun h => by cases h) (fun _ => rfl)) (fun h => by cases h)
      refine iteT ?_
      have ha0 := s0 _ _ ha
      generalize upd H tp (.tup [.ty "list", .ty "tuple"]) = H0 at s0 ha0 ⊢
      refine .inr ⟨_, rfl, a, rfl, ⟨_, SqT.of ha0⟩, fun D hD => ?_⟩
      refine lc_tup (K := K) (a := a) (xs := xs) (fun i H' => Same H0 H' ∧ H' D = some (.lst ((List.replicate i true).map V.bl))) ⟨same_new hD, upd_same⟩ (fun i H' _ h => SqT.of (h.1 _ _ ha0)) ?_ ?_
      · rintro i x H1 hx h1
        obtain ⟨t, r, rfl, ht, R, li⟩ := step s0 hD i x H1 hx h1
        obtain ⟨s1, hDl⟩ := h1
        refine ⟨rfl, Exists.intro _ ⟨rfl, t, r, rfl, ht, R, fun H2 s2 => ?_⟩⟩
        refine ⟨_, s2 _ _ hDl, small1000 (by simp; omega), fun b o hb => ?_, ?_⟩
        · rw [upd_ne (ne_of_none hb hD)]
          exact s2 _ _ (s1 _ _ hb)
        · rw [upd_same, rep_snoc]
      · rintro H1 ⟨s1, hDl⟩
        refine ⟨D, _, rfl, SqL.of hDl, ?_⟩
        rw [rep_all]
        exact k H1 (s0.trans s1)
/-- a Shelf whose list stands at l -/
def HasI (H : Hp) (C a l : Addr) (xs : List V) : Prop := ∃ dx : Addr, H a = some (.ins C dx [("_indexes", .ref l)]) ∧ H l = some (.lst xs)
theorem HasI.hasL {H : Hp} {C a l : Addr} {xs : List V} (h : HasI H C a l xs) : HasL H C a "_indexes" l xs := by
  obtain ⟨dx, h1, h2⟩ := h
  exact ⟨dx, _, h1, rfl, h2⟩
theorem HasI.same {H H' : Hp} {C a l : Addr} {xs : List V} (s : Same H H') (h : HasI H C a l xs) : HasI H' C a l xs := by
  obtain ⟨dx, h1, h2⟩ := h
  exact ⟨dx, s _ _ h1, s _ _ h2⟩
theorem HasI.kp {H H' : Hp} {C a l b : Addr} {xs : List V} (nb : l ≠ b) (na : a ≠ b) (s : Kp b H H') (h : HasI H C a l xs) : HasI H' C a l xs := by
  obtain ⟨dx, h1, h2⟩ := h
  exact ⟨dx, s _ _ h1 na, s _ _ h2 nb⟩
def spInitS (C : Addr) : Sp := fun vs H Q _ => ∃ (x a dx : Addr) (xs : List V) (rs : List (List Str)), vs = [.ref x, .ref a] ∧ H x = some (.ins C dx []) ∧ (H a = some (.lst xs) ∨ H a = some (.tup xs)) ∧ TL H xs rs ∧ xs.length ≤ 48 ∧ (∀ r ∈ rs, Row r) ∧
  ∀ (H' : Hp) (l : Addr), (∀ b o, H b = some o → b ≠ x → H' b = some o) → HasI H' C x l xs → H l = none → Q .non H'
theorem scInit : FnScope ["self", "indexes"] ["self", "indexes"] (defScope sInit) := ⟨rfl, rfl, rfl, by decide +kernel, rfl, by decide +kernel, by decide +kernel⟩
theorem ok_init {f C : Addr} {fd : FuncData} (F : Fun K "__init__" "Shelf.__init__" sInit f fd) (T : Txt K mg) (TC : TxC K mg C) (cQ : Cal P w K mg base 4 "are_indexes" ["thing"] spAreIxs) : FnOk P w K mg base CX0 5 f fd ["self", "indexes"] (spInitS C) := by
  refine F.ok scInit (fun vs H Q E h => ?_) (fun cdv A outer s H vs Q E hr h => ?_)
  · obtain ⟨x, a, dx, xs, rs, rfl, _⟩ := h
    rfl
  · obtain ⟨x, a, dx, xs, rs, rfl, hx, ha, hq, hl, hz, k⟩ := h
    obtain ⟨tl, htl⟩ := T.limit
    refine ⟨_, pss_cons (ps_if (pt_not (pt_val (pe_call cQ.G hr rfl cQ.m cQ.kp cQ.b .nil pass0 (pa_cons (pv 1) pa_nil)))) (pss_one ps_dead) pss_nil)
      (pss_cons (ps_if (pt_cmpR op_gt (pe_callB call_len_seq (by rfl) T.len PySem.boot_len (pa_cons (pv 1) pa_nil)) (pe_glob (v := .int 48) rfl htl ⟨tl, rfl⟩) (nomark _)) (pss_one ps_dead) pss_nil)
      (pss_one (ps_fld (pv 0) (pe_callTy call_list_of (by rfl) T.list (by decide +kernel) (pa_cons (pv 1) pa_nil)) rfl))), ?_⟩
    refine ⟨_, rfl, a, xs, rs, rfl, ha, hq, by omega, hz, fun H1 s1 => ⟨_, rfl, ?_⟩⟩
    refine iteF ?_
    have sq : SqL K H1 a xs ∨ SqT K H1 a xs := ha.imp (fun h => SqL.of (s1 _ _ h)) fun h => SqT.of (s1 _ _ h)
    refine ⟨_, rfl, _, _, rfl, sq, _, 48, rfl, rfl, _, rfl, ?_⟩
    have e1 : decide ((48 : Int) < (xs.length : Int)) = false := decide_eq_false (by omega)
    rw [e1]
    refine iteF ?_
    refine ⟨_, rfl, a, xs, rfl, sq, fun l hl0 => ?_⟩
    have s2 := same_new (o := .lst xs) hl0
    have hx2 := s2 _ _ (s1 _ _ hx)
    have nlx : l ≠ x := fun e => by rw [e, s1 _ _ hx] at hl0; cases hl0
    have hlH : H l = none := by
      cases e : H l with
      | none => rfl
      | some o =>
        rw [s1 _ _ e] at hl0
        cases hl0
    refine ⟨_, rfl, x, C, dx, [], rfl, hx2, TC.cl, TC.nQ, by show 0 < 1000; decide, ?_⟩
    exact k _ l (fun b o hb nb => by rw [upd_ne nb]; exact s2 _ _ (s1 _ _ hb)) ⟨dx, upd_same, by rw [upd_ne nlx]; exact upd_same⟩ hlH
theorem scLen : FnScope ["self"] ["self"] (defScope sLen) := ⟨rfl, rfl, rfl, by decide +kernel, rfl, by decide +kernel, by decide +kernel⟩
theorem ok_len {f C : Addr} {fd : FuncData} (F : Fun K "__len__" "Shelf.__len__" sLen f fd) (T : Txt K mg) (TC : TxC K mg C) : FnOk P w K mg base CX0 1 f fd ["self"] (spLenF C "_indexes") := by
  refine F.ok scLen (fun vs H Q E h => ?_) (fun cdv A outer s H vs Q E hr h => ?_)
  · obtain ⟨a, dx, l, fs, xs, rfl, _⟩ := h
    rfl
  · obtain ⟨a, dx, l, fs, xs, rfl, ha, hl, hx, k⟩ := h
    refine ⟨_, pss_one (ps_ret (pe_callB call_len_seq (by rfl) T.len PySem.boot_len (pa_cons (pe_fld (pv 0) rfl) pa_nil))), ?_⟩
    exact ⟨_, rfl, a, C, dx, fs, _, rfl, ha, TC.cl, TC.nQ, hl, l, xs, rfl, .inl (SqL.of hx), k⟩
theorem scIter : FnScope ["self"] ["self"] (defScope sIter) := ⟨rfl, rfl, rfl, by decide +kernel, rfl, by decide +kernel, by decide +kernel⟩
theorem ok_itr {f C : Addr} {fd : FuncData} (F : Fun K "__iter__" "Shelf.__iter__" sIter f fd) (T : Txt K mg) (TC : TxC K mg C) : FnS P w K mg base 1 f fd ["self"] (spIterF C "_indexes") := by
  refine okN F scIter (fun n vs H Q E h => ?_) (fun cdv A outer s H vs Q E hr h => ?_)
  · obtain ⟨a, dx, l, fs, xs, rfl, _⟩ := h
    rfl
  · obtain ⟨a, dx, l, fs, xs, rfl, ha, hl, hx, k⟩ := h
    refine ⟨_, pss_one (ps_ret (pe_callB ItX.call_iterN (by rfl) T.iter (by decide +kernel) (pa_cons (pe_fld (pv 0) rfl) pa_nil))), ?_⟩
    exact ⟨_, rfl, a, C, dx, fs, _, rfl, ha, TC.cl, TC.nQ, hl, l, xs, rfl, SqL.of hx, fun it h1 h2 => k it h1 h2⟩
/-- a Shelf of these rows -/
def ShV (H : Hp) (C a : Addr) (rs : List (List Str)) : Prop := ∃ l xs, HasI H C a l xs ∧ TL H xs rs
theorem ShV.same {H H' : Hp} {C a : Addr} {rs : List (List Str)} (s : Same H H') (h : ShV H C a rs) : ShV H' C a rs := by
  obtain ⟨l, xs, h1, h2⟩ := h
  exact ⟨l, xs, h1.same s, h2.same s⟩
theorem ShV.kp {H H' : Hp} {C a b l0 : Addr} {rs : List (List Str)} (B : Bag H b l0) (k : Kp b H H') (h : ShV H C a rs) : ShV H' C a rs := by
  obtain ⟨l, xs, ⟨dx, h1, h2⟩, h3⟩ := h
  have na : a ≠ b := fun e => by
    obtain ⟨g, m, p, ns, hb, _⟩ := B
    rw [e, hb] at h1
    cases h1
  exact ⟨l, xs, ⟨dx, k _ _ h1 na, k _ _ h2 (B.ne_refs h2 h3.refs)⟩, h3.kp B k⟩
def NewS (C : Addr) (H : Hp) (rs : List (List Str)) (Q : VK) : Prop := ∀ (H' : Hp) (x : Addr), Same H H' → ShV H' C x rs → Q (.ref x) H'
theorem make_shelf {H : Hp} {C d x dx : Addr} {xs : List V} {rs : List (List Str)} {Q : VK} (hd : H d = some (.lst xs)) (hq : TL H xs rs) (hl : xs.length ≤ 48) (hz : ∀ r ∈ rs, Row r) (nx : H x = none) (ndx : H dx = none) (k : NewS C H rs Q) :
    spInitS C [.ref x, .ref d] (upd (upd H dx (.own x)) x (.ins C dx [])) (fun v H' => v = .non ∧ Q (.ref x) H') E0 := by
  have sm := made_same (C := C) nx ndx
  refine ⟨x, d, dx, xs, rs, rfl, upd_same, .inl (sm _ _ hd), hq.same sm, hl, hz, fun H' l hk hI hl0 => ⟨rfl, ?_⟩⟩
  have s : Same H H' := fun c o e => hk c o (sm _ _ e) (ne_of_none e nx)
  exact k H' x s ⟨l, xs, hI, hq.same s⟩
def spIxsM (C : Addr) : Sp := fun vs H Q _ => ∃ (a : Addr) (rs : List (List Str)), vs = [.ref a] ∧ ShV H C a rs ∧ ∀ (p : Addr) (xs : List V) (H' : Hp), Same H H' → H' p = some (.lst xs) → TL H' xs rs → Q (.ref p) H'
theorem scIxsM : FnScope ["self"] ["self"] (defScope sIxsM) := ⟨rfl, rfl, rfl, by decide +kernel, rfl, by decide +kernel, by decide +kernel⟩
theorem ok_ixsm {f C : Addr} {fd : FuncData} (F : Fun K "indexes" "Shelf.indexes" sIxsM f fd) (T : Txt K mg) (TC : TxC K mg C) : FnOk P w K mg base CX0 1 f fd ["self"] (spIxsM C) := by
  refine F.ok scIxsM (fun vs H Q E h => ?_) (fun cdv A outer s H vs Q E hr h => ?_)
  · obtain ⟨a, rs, rfl, _⟩ := h
    rfl
  · obtain ⟨a, rs, rfl, ⟨l, xs, ⟨dx, ha, hl⟩, hq⟩, k⟩ := h
    refine ⟨_, pss_one (ps_ret (pe_callTy call_list_of (by rfl) T.list (by decide +kernel) (pa_cons (pe_fld (pv 0) rfl) pa_nil))), ?_⟩
    exact ⟨_, rfl, a, C, dx, _, _, rfl, ha, TC.cl, TC.nQ, rfl, l, xs, rfl, .inl (SqL.of hl), fun p hp => k p xs _ (same_new hp) upd_same (hq.same (same_new hp))⟩
end
end Qk
set_option maxRecDepth 100000
set_option maxHeartbeats 4000000
namespace Qk
open PySem PySem.Spec PyProof.Rows L2
section
variable {P : Program} {w : World} {K : PySem.W.Frag} {mg : Str → Option Value} {base : Heap}
theorem QZs.fine {qs : List Qd} (h : QZs qs) : ∀ q ∈ qs, Qfine q := fun q hq => (h q hq).fine
def spOnce (K : PySem.W.Frag) : Sp := fun vs H Q _ => ∃ (a : Addr) (xs : List V) (qs : List Qd), vs = [.ref a] ∧ H a = some (.lst xs) ∧ QL H xs qs ∧ xs.length < 300 ∧ QZs qs ∧
  ∀ (H' : Hp) (p : Addr) (ys : List V) (zs : List Qd), Same H H' → H' p = some (.lst ys) → QL H' ys zs → Dist qs zs → Q (.ref p) H'
theorem scOnce : FnScope ["_law_some", "_law_found", "_law_one_here"] ["_law_some"] (defScope sOnce) := ⟨rfl, rfl, rfl, by decide +kernel, rfl, by decide +kernel, by decide +kernel⟩
theorem ok_once {f : Addr} {fd : FuncData} (F : Fun K "_law_once" "_law_once" sOnce f fd) (T : Txt K mg) : FnOk P w K mg base CX0 1 f fd ["_law_some"] (spOnce K) := by
  refine F.ok scOnce (fun vs H Q E h => ?_) (fun cdv A outer s H vs Q E hr h => ?_)
  · obtain ⟨a, xs, qs, rfl, _⟩ := h
    rfl
  · obtain ⟨a, xs, qs, rfl, hs, hq, hl, hz, k⟩ := h
    have nd := scOnce.nd
    have hu80 : A.units + 3 + 80 < cLine := by
      have := hr.un
      have e : (A.deeper (envOfC "_law_once" (defScope sOnce) s.heap.objs.size f cdv)).units = A.units + 3 := rfl
      omega
    have hu65 : A.units + 3 + 65 < cLine := by omega
    refine ⟨_, pss_cons (ps_set (i := 1) nd rfl (Or.inl rfl) (pe_lst pa_nil))
      (pss_cons (ps_for PassesOwn.never rfl (pi_list (pe_callB (cr_sortedQL hu80) (by rfl) T.sorted (by decide +kernel) (pa_cons (pv 0) pa_nil))) (pg_name (i := 2) nd rfl (Or.inl rfl))
        (pss_one (ps_if (pt_cmpR (op_notInD hu65) (pv 2) (pv 1) (by rfl)) (pss_one (ps_expr (pe_bm PySem.F.plainAttrs_list PySem.F.slot_list_append PySem.F.type_list_append mt_append (pv 1) (pa_cons (pv 2) pa_nil)))) pss_nil)))
      (pss_one (ps_ret (pv 1)))), ?_⟩
    refine ⟨by show 0 ≤ sizeLine; decide, fun c hc => ?_⟩
    have sc := same_new (o := .lst []) hc
    refine ⟨_, rfl, a, xs, qs, rfl, SqL.of (sc _ _ hs), hq.same sc, fun q hq => (hz q hq).strOk, fun ys rs d hy hpm hup hd => ?_⟩
    have sd := same_new (o := .lst ys) hd
    have hy2 := hy.same sd
    have hdl : (upd (upd H c (.lst [])) d (.lst ys)) d = some (.lst ys) := upd_same
    have hcl : (upd (upd H c (.lst [])) d (.lst ys)) c = some (.lst []) := sd _ _ upd_same
    have ss := sc.trans sd
    have hcd : c ≠ d := fun e => by subst e; rw [upd_same] at hd; cases hd
    have hcH : H c = none := hc
    have hrl : rs.length < 300 := by rw [hpm.length_eq, ← hq.len]; exact hl
    generalize upd (upd H c (.lst [])) d (.lst ys) = H1 at ss hy2 hdl hcl
    have zr : QZs rs := fun q hq => hz q (hpm.mem_iff.mp hq)
    refine ⟨d, rfl, ⟨_, SqL.of hdl⟩, for_list (K := K) (a := d) (xs := ys) (fun i σ H' => (∃ v2, σ = [some (.ref a), some (.ref c), v2]) ∧ Same H H' ∧ H' d = some (.lst ys) ∧ QL H' ys rs ∧
        ∃ (fs : List V) (gs : List Qd), H' c = some (.lst fs) ∧ QL H' fs gs ∧ Dist (rs.take i) gs ∧ gs.length ≤ i)
      ⟨⟨_, rfl⟩, ss, hdl, hy2, [], [], hcl, .nil, ⟨List.nodup_nil, List.Pairwise.nil, fun q => by simp⟩, Nat.le_refl _⟩ (fun i σ H' _ h => SqL.of h.2.2.1) ?_ ?_⟩
    · rintro i x σ H2 hx ⟨⟨v2, rfl⟩, s2, hd2, hq2, fs, gs, hf, hg, D, hgl⟩
      obtain ⟨t, q, rfl, hqi, hqa⟩ := hq2.at_ hx
      have hil : i < rs.length := (List.getElem?_eq_some_iff.mp hqi).1
      have et : rs.take (i + 1) = rs.take i ++ [q] := by rw [List.take_add_one, hqi]; rfl
      have zq := zr q (List.mem_of_getElem? hqi)
      have gf : ∀ r ∈ gs, Qfine r := fun r hr => (zr r (List.mem_of_mem_take ((D.mem r).mp hr))).fine
      refine ⟨_, rfl, _, rfl, dq q, gs.map dq, dp_q hqa, .lst (SqL.of hf) hg.dp, (dok_q zq.fine).shaped, (dok_qs3 gf (by omega)).shaped, _, rfl, ?_⟩
      show if (!((gs.map dq).any fun z => PyData.eqv z (dq q))) = true then _ else _
      rw [any_q]
      by_cases m : q ∈ gs
      · rw [decide_eq_true m]
        refine iteF ?_
        refine ⟨⟨_, rfl⟩, s2, hd2, hq2, fs, gs, hf, hg, ⟨D.nd, D.up, fun r => ?_⟩, by omega⟩
        rw [et, List.mem_append, List.mem_singleton, ← D.mem r]
        exact ⟨.inl, fun h => h.elim id fun e => e ▸ m⟩
      · rw [decide_eq_false m]
        refine iteT ?_
        have hfl : fs.length < 300 := by rw [hg.len]; omega
        have hcd2 : c ≠ d := hcd
        have kp : ∀ b o, H2 b = some o → b ≠ c → (upd H2 c (.lst (fs ++ [.ref t]))) b = some o := fun b o hb hbc => by rw [upd_ne hbc]; exact hb
        have qk : ∀ {v : Addr} {r : Qd}, QAt H2 v r.1 r.2 → QAt (upd H2 c (.lst (fs ++ [.ref t]))) v r.1 r.2 := fun {v r} ⟨c0, g1, g2⟩ => by
          refine ⟨c0, kp _ _ g1 fun e => ?_, kp _ _ g2 fun e => ?_⟩
          · rw [e, hf] at g1; cases g1
          · rw [e, hf] at g2; cases g2
        have qlk : ∀ {vs : List V} {ws : List Qd}, QL H2 vs ws → QL (upd H2 c (.lst (fs ++ [.ref t]))) vs ws := fun h => Paired.mapP h fun x r ⟨v, e, z⟩ => ⟨v, e, qk z⟩
        refine ⟨_, rfl, .inl ⟨rfl, _, SqL.of hf⟩, _, rfl, c, fs, _, rfl, rfl, hf, small1000 (by omega), ?_⟩
        refine ⟨⟨_, rfl⟩, (fun b o hb => kp b o (s2 _ _ hb) fun e => by rw [e, hcH] at hb; cases hb), kp _ _ hd2 (Ne.symm hcd), qlk hq2, fs ++ [.ref t], gs ++ [q], upd_same, paired_app (qlk hg) (.cons ⟨t, rfl, qk hqa⟩ .nil), ⟨?_, ?_, fun r => ?_⟩, ?_⟩
        · rw [List.nodup_append]
          exact ⟨D.nd, by simp, fun a ha b hb => by rw [List.mem_singleton.mp hb]; exact fun e => m (e ▸ ha)⟩
        · refine List.pairwise_append.mpr ⟨D.up, List.pairwise_singleton _ _, fun r hr b hb => ?_⟩
          rw [List.mem_singleton.mp hb]
          have hup2 : rising (rs.take (i + 1)) := List.Pairwise.sublist (List.take_sublist _ _) hup
          rw [et] at hup2
          exact (List.pairwise_append.mp hup2).2.2 r ((D.mem r).mp hr) q (List.mem_singleton.mpr rfl)
        · rw [et, List.mem_append, List.mem_append, D.mem r]
        · rw [List.length_append]
          simp
          omega
    · rintro σ H2 ⟨⟨v2, rfl⟩, s2, hd2, hq2, fs, gs, hf, hg, D, hgl⟩
      rw [hy.len, List.take_of_length_le (Nat.le_refl _)] at D
      exact ⟨_, rfl, k H2 c fs gs s2 hf hg ⟨D.nd, D.up, fun q => (D.mem q).trans hpm.mem_iff⟩⟩
/-- the distinct questions of some rows, ascending -/
def spFamily : Sp := fun vs H Q _ => ∃ (a : Addr) (xs : List V) (rs : List (List Str)), vs = [.ref a] ∧ H a = some (.lst xs) ∧ TL H xs rs ∧ (∀ r ∈ rs, Row r) ∧ rs.length ≤ 12 ∧
  ∀ (H' : Hp) (p : Addr) (ys : List V) (zs : List Qd), Same H H' → H' p = some (.lst ys) → QL H' ys zs → Dist (famQ rs) zs → Q (.ref p) H'
abbrev nFam : List Str := ["_law_indexes_here", "_law_found", "_law_index_here"]
theorem scFamily : FnScope nFam ["_law_indexes_here"] (defScope sFamily) := ⟨rfl, rfl, rfl, by decide +kernel, rfl, by decide +kernel, by decide +kernel⟩
theorem ok_family {f : Addr} {fd : FuncData} (F : Fun K "_law_family" "_law_family" sFamily f fd) (T : Txt K mg) (cS : Cal P w K mg base 1 "_law_served_by" ["_law_index_here"] spServedBy) (cO : Cal P w K mg base 1 "_law_once" ["_law_some"] (spOnce K)) :
    FnOk P w K mg base CX0 2 f fd ["_law_indexes_here"] spFamily := by
  refine F.ok scFamily (fun vs H Q E h => ?_) (fun cdv A outer s H vs Q E hr h => ?_)
  · obtain ⟨a, xs, rs, rfl, _⟩ := h
    rfl
  · obtain ⟨a, xs, rs, rfl, ha, hq, hz, hm, k⟩ := h
    have nd := scFamily.nd
    refine ⟨_, pss_cons (ps_set (i := 1) nd rfl (Or.inl rfl) (pe_lst pa_nil))
      (pss_cons (ps_for PassesOwn.never rfl (pi_list (pv 0)) (pg_name (i := 2) nd rfl (Or.inl rfl))
        (pss_one (ps_set (i := 1) nd rfl (Or.inl rfl) (pe_op op_cat (pv 1) (pe_call cS.G hr rfl cS.m cS.kp cS.b .nil pass0 (pa_cons (pv 2) pa_nil))))))
      (pss_one (ps_ret (pe_call cO.G hr rfl cO.m cO.kp cO.b .nil pass0 (pa_cons (pv 1) pa_nil))))), ?_⟩
    refine ⟨by decide, fun p0 hp0 => ?_⟩
    have s0 := same_new (o := .lst []) hp0
    have hxl := hq.len
    have few : ∀ i, (famQ (rs.take i)).length ≤ 288 := fun i => by
      have h1 := famQ_len (rs := rs.take i) fun r hr => hz r (List.mem_of_mem_take hr)
      rw [List.length_take] at h1
      omega
    refine ⟨_, rfl, a, rfl, ⟨_, SqL.of (s0 _ _ ha)⟩, for_list (K := K) (a := a) (xs := xs) (fun i σ H' => ∃ (p : Addr) (ys : List V) (v2 : Option V), σ = [some (.ref a), some (.ref p), v2] ∧ Same H H' ∧ H' p = some (.lst ys) ∧ QL H' ys (famQ (rs.take i)))
      ⟨p0, [], none, rfl, s0, upd_same, .nil⟩ (fun i σ H' _ ⟨_, _, _, _, s, _⟩ => SqL.of (s _ _ ha)) ?_ ?_⟩
    · rintro i x σ H1 hx ⟨p, ys, v2, rfl, s1, hp, hy⟩
      obtain ⟨t, r, rfl, hri, hrt⟩ := (hq.same s1).at_ hx
      have R := hz r (List.mem_of_getElem? hri)
      have tk : rs.take (i + 1) = rs.take i ++ [r] := by rw [List.take_add_one, hri]; rfl
      have f1 := few i
      have rl := R.le
      refine ⟨_, rfl, _, rfl, t, r, rfl, hrt, R, fun us q H2 s2 hqn hq2 hu => ?_⟩
      have hul : us.length ≤ 24 := by rw [hu.len, allQ_len]; omega
      have hyl : ys.length ≤ 288 := by rw [hy.len]; exact f1
      refine ⟨p, q, ys, us, rfl, rfl, s2 _ _ hp, hq2, by rw [sizeLine_eq]; omega, fun p2 hp2 => ?_⟩
      have s3 := same_new (o := .lst (ys ++ us)) hp2
      refine ⟨p2, ys ++ us, _, rfl, s1.trans (s2.trans s3), upd_same, ?_⟩
      rw [tk, famQ_snoc]
      exact paired_app (hy.same (s2.trans s3)) (hu.same s3)
    · rintro σ H1 ⟨p, ys, v2, rfl, s1, hp, hy⟩
      rw [hxl, List.take_of_length_le (Nat.le_refl _)] at hy
      have f1 := few rs.length
      rw [List.take_of_length_le (Nat.le_refl _)] at f1
      refine ⟨_, rfl, p, ys, _, rfl, hp, hy, by rw [hy.len]; omega, famQ_qz hz, fun H2 q us zs s2 hq2 hu D => ?_⟩
      exact k H2 q us zs (s1.trans s2) hq2 hu D
/-- some indexes over the names -/
def spIndexes : Sp := fun vs H Q _ => ∃ (b l a : Addr) (xs : List Str) (m : Nat), vs = [.ref b, .ref a, .int (m : Int)] ∧ Bag H b l ∧ a ≠ b ∧ H a = some (.lst (xs.map V.str)) ∧ Row xs ∧ m ≤ 20 ∧
  ∀ (p : Addr) (ys : List V) (rs : List (List Str)) (H' : Hp), H p = none → p ≠ b → H' p = some (.lst ys) → TL H' ys rs → (∀ r ∈ rs, Row r ∧ ∀ c ∈ r, c ∈ xs) → rs.length ≤ m → Bag H' b l → Kp b H H' → Q (.ref p) H'
abbrev nIxs : List Str := ["_law_bag_here", "_law_names_here", "_law_most", "_law_found", "_law_k", "_law_way", "_law_one_here"]
theorem scIndexes : FnScope nIxs ["_law_bag_here", "_law_names_here", "_law_most"] (defScope sIndexes) := ⟨rfl, rfl, rfl, by decide +kernel, rfl, by decide +kernel, by decide +kernel⟩
/-- what is drawn so far -/
def Ixs (H0 : Hp) (b l a p : Addr) (xs : List Str) (i : Nat) (H : Hp) : Prop := Bag H b l ∧ H a = some (.lst (xs.map V.str)) ∧ Kp b H0 H ∧ ∃ (ys : List V) (rs : List (List Str)), H p = some (.lst ys) ∧ TL H ys rs ∧ (∀ r ∈ rs, Row r ∧ ∀ c ∈ r, c ∈ xs) ∧ rs.length ≤ i
theorem Ixs.kp {H0 H H' : Hp} {b l a p : Addr} {xs : List Str} {i : Nat} (h : Ixs H0 b l a p xs i H) (nab : a ≠ b) (npb : p ≠ b) (B : Bag H' b l) (s : Kp b H H') : Ixs H0 b l a p xs i H' := by
  obtain ⟨B0, h1, h2, ys, rs, h3, h4, h5, h6⟩ := h
  exact ⟨B, s _ _ h1 nab, h2.trans s, ys, rs, s _ _ h3 npb, h4.kp B0 s, h5, h6⟩
theorem Ixs.push {H0 H : Hp} {b l a p t : Addr} {xs r : List Str} {i : Nat} (h : Ixs H0 b l a p xs i H) (hp0 : H0 p = none) (nap : a ≠ p) (npb : p ≠ b) (nlp : l ≠ p) (ht : H t = some (.tup (r.map V.str))) (R : Row r) (hs : ∀ c ∈ r, c ∈ xs) :
    ∃ ys, H p = some (.lst ys) ∧ ys.length ≤ i ∧ Ixs H0 b l a p xs (i + 1) (upd H p (.lst (ys ++ [.ref t]))) := by
  obtain ⟨B0, h1, h2, ys, rs, h3, h4, h5, h6⟩ := h
  refine ⟨ys, h3, by rw [h4.len]; exact h6, B0.upd npb.symm nlp, by rw [upd_ne nap]; exact h1, fun c o hc ncb => ?_, ys ++ [.ref t], rs ++ [r], upd_same, TL.off h3 (h4.snoc ht), fun q hq => ?_, by rw [List.length_append]; simp; omega⟩
  · rw [upd_ne (ne_of_none hc hp0)]
    exact h2 _ _ hc ncb
  · rcases List.mem_append.mp hq with g | g
    · exact h5 q g
    · rw [List.mem_singleton.mp g]
      exact ⟨R, hs⟩
theorem ok_indexes {f : Addr} {fd : FuncData} (F : Fun K "_law_indexes" "_law_indexes" sIndexes f fd) (T : Txt K mg) (cT : Cal P w K mg base 1 "_law_take" ["_law_bag_here", "_law_many"] spTake) (cO : Cal P w K mg base 2 "_law_one" ["_law_bag_here", "_law_some"] spOne)
    (cM : Cal P w K mg base 2 "_law_mixed" ["_law_bag_here", "_law_things"] spMixed) (cI : Cal P w K mg base 3 "_law_index" ["_law_bag_here", "_law_names_here"] spIndex) : FnOk P w K mg base CX0 4 f fd ["_law_bag_here", "_law_names_here", "_law_most"] spIndexes := by
  refine F.ok scIndexes (fun vs H Q E h => ?_) (fun cdv A outer s H vs Q E hr h => ?_)
  · obtain ⟨b, l, a, xs, m, rfl, _⟩ := h
    rfl
  · obtain ⟨b, l, a, xs, m, rfl, B, nab, ha, R, hm, k⟩ := h
    have nd := scIndexes.nd
    have hr1 : Room 1 _ := hr.mono (by decide)
    have hr2 : Room 2 _ := hr.mono (by decide)
    refine ⟨_, pss_cons (ps_set (i := 3) nd rfl (Or.inl rfl) (pe_lst pa_nil))
      (pss_cons (ps_for PassesOwn.never rfl (pi_range1 (by rfl) T.range (pa_cons (pe_call cT.G hr1 rfl cT.m cT.kp cT.b .nil pass0 (pa_cons (pv 0) (pa_cons (pe_op op_add (pv 2) pe_int) pa_nil))) pa_nil)) (pg_name (i := 4) nd rfl (Or.inl rfl))
        (pss_cons (ps_set (i := 5) nd rfl (Or.inl rfl) (pe_call cT.G hr1 rfl cT.m cT.kp cT.b .nil pass0 (pa_cons (pv 0) (pa_cons pe_int pa_nil))))
        (pss_one (ps_if (PW.pt (pw_or (pt_cmpR (op_eqD hr.units) (pv 3) (pe_lst pa_nil) (nomark _)) (pw_or1 (pt_cmpR op_lt (pv 5) pe_int (nomark _)))))
          (pss_one (ps_expr (pe_bm PySem.F.plainAttrs_list PySem.F.slot_list_append PySem.F.type_list_append mt_append (pv 3) (pa_cons (pe_call cI.G hr rfl cI.m cI.kp cI.b .nil pass0 (pa_cons (pv 0) (pa_cons (pv 1) pa_nil))) pa_nil))))
          (pss_cons (ps_set (i := 6) nd rfl (Or.inl rfl) (pe_call cO.G hr2 rfl cO.m cO.kp cO.b .nil pass0 (pa_cons (pv 0) (pa_cons (pv 3) pa_nil))))
            (pss_one (ps_expr (pe_bm PySem.F.plainAttrs_list PySem.F.slot_list_append PySem.F.type_list_append mt_append (pv 3) (pa_cons (pe_slice sl_tupA (pv 6) po_none (po_some (pe_op op_add pe_int (pe_call cT.G hr1 rfl cT.m cT.kp cT.b .nil pass0 (pa_cons (pv 0) (pa_cons (pe_callB call_len_seq (by rfl) T.len PySem.boot_len (pa_cons (pv 6) pa_nil)) pa_nil)))))) pa_nil)))))))))
      (pss_one (ps_ret (pe_call cM.G hr2 rfl cM.m cM.kp cM.b .nil pass0 (pa_cons (pv 0) (pa_cons (pv 3) pa_nil)))))), ?_⟩
    refine ⟨by decide, fun p hp => ?_⟩
    have npb := B.ne hp
    have nlp := B.nel hp
    have nap : a ≠ p := ne_of_none ha hp
    have s0 := same_new (o := .lst []) hp
    refine ⟨_, rfl, _, rfl, _, _, rfl, rfl, b, l, (m : Int) + 1, rfl, B.same s0, by omega, by omega, fun n H1 hn B1 k1 => ⟨(n : Int), rfl, by omega, by omega, ?_⟩⟩
    have k01 : Kp b H H1 := (Kp.of s0).trans k1
    refine for_range (lo := 0) (n := n) (fun i σ H' => (∃ (v4 v5 v6 : Option V), σ = [some (.ref b), some (.ref a), some (.int (m : Int)), some (.ref p), v4, v5, v6]) ∧ Ixs H b l a p xs i H')
      ⟨⟨_, _, _, rfl⟩, B1, k01 _ _ ha nab, k01, [], [], k1 _ _ upd_same npb, .nil, (fun r hr => nomatch hr), Nat.le_refl _⟩ ?_ ?_
    · rintro i σ H2 hi ⟨⟨v4, v5, v6, rfl⟩, G⟩
      refine ⟨_, rfl, b, l, 4, rfl, G.1, by decide, by decide, fun wy H3 hwy B3 k3 => ?_⟩
      have G3 := G.kp nab npb B3 k3
      obtain ⟨_, ha3, k03, ys, rs, hp3, ht3, hR3, hl3⟩ := id G3
      refine ⟨_, rfl, by decide, fun e0 he0 => ?_⟩
      have s4 := same_new (o := .lst []) he0
      have G4 := G3.kp nab npb (B3.same s4) (Kp.of s4)
      have hRR : ∀ r ∈ rs, Row r := fun r hr => (hR3 r hr).1
      refine ⟨.list (rs.map dR), .list (([] : List (List Str)).map dR), .lst (SqL.of (s4 _ _ hp3)) (ht3.same s4).dp, .lst (SqL.of upd_same) .nil, (dok_rs hRR (by omega)).shaped, (dok_rs (rs := []) (fun r h => nomatch h) (by decide)).shaped, _, rfl, ?_⟩
      rw [eqv_rs]
      generalize upd H3 e0 (.lst []) = H4 at s4 G4 ⊢
      have first : ∀ {D : Ends}, D.nx = (fun σ H' => (∃ (v4 v5 v6 : Option V), σ = [some (.ref b), some (.ref a), some (.int (m : Int)), some (.ref p), v4, v5, v6]) ∧ Ixs H b l a p xs (i + 1) H') → True := fun _ => trivial
      by_cases he : rs = []
      · rw [decide_eq_true he]
        refine iteT ?_
        obtain ⟨B4, ha4, k04, ys4, rs4, hp4, ht4, _⟩ := id G4
        refine ⟨_, rfl, .inl ⟨rfl, _, SqL.of hp4⟩, _, rfl, _, rfl, b, l, a, xs, rfl, B4, nab, ha4, R, fun t r H5 ht5 R5 hs5 B5 k5 => ?_⟩
        obtain ⟨us, g1, g2, g3⟩ := (G4.kp nab npb B5 k5).push hp nap npb nlp ht5 R5 hs5
        exact ⟨p, us, _, rfl, rfl, g1, small1000 (by omega), ⟨_, _, _, rfl⟩, g3⟩
      · rw [decide_eq_false he]
        refine iteF ?_
        refine ⟨_, rfl, _, _, rfl, rfl, _, rfl, ?_⟩
        cases hw : decide ((wy : Int) < 2) with
        | true =>
          refine iteT ?_
          obtain ⟨B4, ha4, k04, ys4, rs4, hp4, ht4, _⟩ := id G4
          refine ⟨_, rfl, .inl ⟨rfl, _, SqL.of hp4⟩, _, rfl, _, rfl, b, l, a, xs, rfl, B4, nab, ha4, R, fun t r H5 ht5 R5 hs5 B5 k5 => ?_⟩
          obtain ⟨us, g1, g2, g3⟩ := (G4.kp nab npb B5 k5).push hp nap npb nlp ht5 R5 hs5
          exact ⟨p, us, _, rfl, rfl, g1, small1000 (by omega), ⟨_, _, _, rfl⟩, g3⟩
        | false =>
          refine iteF ?_
          have hp4 := s4 _ _ hp3
          have ht4 := ht3.same s4
          have yne : ys ≠ [] := fun e => he (List.eq_nil_of_length_eq_zero (by rw [← ht3.len, e]; rfl))
          have B4 := G4.1
          refine ⟨_, rfl, _, rfl, b, l, p, ys, rfl, B4, npb, hp4, yne, by have := ht3.len; omega, fun x H5 hx B5 k5 => ?_⟩
          obtain ⟨t, r, rfl, hr5, htr⟩ := (ht4.kp B4 k5).mem x hx
          have G5 := G4.kp nab npb B5 k5
          obtain ⟨Rr, hsr⟩ := hR3 r hr5
          have rl := Rr.le
          have rp := Rr.pos
          have hp5 := k5 _ _ hp4 npb
          refine ⟨_, rfl, .inl ⟨rfl, _, SqL.of hp5⟩, _, rfl, _, rfl, _, rfl, _, _, rfl, .inr (SqT.of htr), b, l, _, rfl, B5, by rw [List.length_map]; omega, by rw [List.length_map]; omega, fun j H6 hj B6 k6 => ⟨_, _, rfl, rfl, _, rfl, ?_⟩⟩
          have ht6 := k6 _ _ htr (B5.ne_tup htr)
          have e1 : (1 + (j : Int)) = ((j + 1 : Nat) : Int) := by omega
          refine slA (ys := r.take (j + 1)) ht6 (by show cutV (r.map V.str) none (some (1 + (j : Int))) = _; rw [e1, cut_to, List.map_take]) fun t7 H7 s7 h7 => ?_
          have G7 := (G5.kp nab npb B6 k6).kp nab npb (B6.same s7) (Kp.of s7)
          obtain ⟨us, g1, g2, g3⟩ := G7.push hp nap npb nlp h7 (Rr.takeN (Nat.succ_pos j)) fun c hc => hsr c (List.mem_of_mem_take hc)
          exact ⟨p, us, _, rfl, rfl, g1, small1000 (by omega), ⟨_, _, _, rfl⟩, g3⟩
    · rintro σ H2 ⟨⟨v4, v5, v6, rfl⟩, B2, ha2, k2, ys, rs, hp2, ht2, hR2, hl2⟩
      refine ⟨_, rfl, _, rfl, b, l, p, ys, rfl, B2, npb, hp2, by have := ht2.len; omega, fun zs q H3 hpm hq0 hqb hq3 B3 k3 => ?_⟩
      obtain ⟨rs', g1, g2⟩ := paired_perm hpm (ht2.kp B2 k3)
      have qN : H q = none := by
        cases e : H q with
        | none => rfl
        | some o =>
          have := k2 _ _ e hqb
          rw [hq0] at this
          cases this
      exact k q zs rs' H3 qN hqb hq3 g1 (fun r hr => hR2 r (g2.mem_iff.mp hr)) (by rw [g2.length_eq]; omega) B3 (k2.trans k3)
end
end Qk
set_option maxRecDepth 100000
set_option maxHeartbeats 4000000
namespace Qk
open PySem PySem.Spec PyProof.Rows L2
section
variable {P : Program} {w : World} {K : PySem.W.Frag} {mg : Str → Option Value} {base : Heap}
theorem allQ_nodup {r : List Str} (R : Row r) : (allQ r r.length).Nodup := by
  have key : ∀ n, n ≤ r.length → (allQ r n).Nodup := by
    intro n
    induction n with
    | zero => intro _; exact List.nodup_nil
    | succ n ih =>
      intro hn
      rw [allQ_succ, List.nodup_append]
      have hne := getD_ne R.sub (ix := r) (j := n) (by omega)
      refine ⟨ih (by omega), ?_, fun a ha b hb e => ?_⟩
      · show List.Nodup [_, _]
        rw [List.nodup_cons]
        refine ⟨fun h => ?_, by simp⟩
        have := congrArg Prod.snd (List.mem_singleton.mp h)
        exact hne this
      · subst e
        obtain ⟨j, hj, e1⟩ := mem_allQ.mp ha
        have hnj := getD_ne R.sub (ix := r) (j := j) (by omega)
        have hb2 : a = (srt (r.take n), r.getD n "") ∨ a = ((srt (r.take (n + 1)), ("" : Str)) : Qd) := by
          rcases List.mem_cons.mp hb with h | h
          · exact .inl h
          · exact .inr (List.mem_singleton.mp h)
        have ln : ∀ {i k : Nat}, srt (r.take i) = srt (r.take k) → min i r.length = min k r.length := fun {i k} h => by
          have := congrArg List.length h
          rw [srt_len, srt_len, List.length_take, List.length_take] at this
          exact this
        rcases e1 with rfl | rfl
        · rcases hb2 with h | h
          · have := ln (congrArg Prod.fst h)
            omega
          · exact hnj (congrArg Prod.snd h)
        · rcases hb2 with h | h
          · exact hne (congrArg Prod.snd h).symm
          · have := ln (congrArg Prod.fst h)
            omega
  exact key r.length (Nat.le_refl _)
/-- how many rows serve a question -/
def cntO (rs : List (List Str)) (q : Qd) : Nat := (rs.filter fun r => decide (q ∈ allQ r r.length)).length
theorem cntO_snoc (rs : List (List Str)) (r : List Str) (q : Qd) : cntO (rs ++ [r]) q = cntO rs q + if q ∈ allQ r r.length then 1 else 0 := by
  unfold cntO
  rw [List.filter_append, List.length_append]
  by_cases h : q ∈ allQ r r.length
  · rw [if_pos h]
    simp [h]
  · rw [if_neg h]
    simp [h]
/-- a dict tells these numbers, and has all of these -/
def Tells (kvs : QNs) (dom : List Qd) (c : Qd → Int) : Prop := (∀ q, (lookQ kvs q).getD 0 = c q) ∧ ∀ q ∈ dom, (lookQ kvs q).isSome = true
theorem Tells.get {kvs : QNs} {dom : List Qd} {c : Qd → Int} (T : Tells kvs dom c) {q : Qd} (h : q ∈ dom) : lookQ kvs q = some (c q) := by
  have h1 := T.1 q
  have h2 := T.2 q h
  cases e : lookQ kvs q with
  | none => rw [e] at h2; cases h2
  | some n => rw [e] at h1; exact congrArg some h1
theorem Tells.put {kvs : QNs} {dom : List Qd} {c : Qd → Int} (T : Tells kvs dom c) (q : Qd) (b : Addr) (n : Int) : Tells (putQ kvs q b n) (dom ++ [q]) (fun z => if z = q then n else c z) := by
  refine ⟨fun z => ?_, fun z hz => ?_⟩
  · rw [lookQ_put]
    show _ = if z = q then n else c z
    by_cases e : z = q
    · rw [if_pos e, if_pos e]
      rfl
    · rw [if_neg e, if_neg e]
      exact T.1 z
  · rw [lookQ_put]
    by_cases e : z = q
    · rw [if_pos e]
      rfl
    · rw [if_neg e]
      rcases List.mem_append.mp hz with h | h
      · exact T.2 z h
      · exact absurd (List.mem_singleton.mp h) e
theorem Tells.eq {kvs : QNs} {dom dom' : List Qd} {c c' : Qd → Int} (T : Tells kvs dom c) (h : ∀ q, c q = c' q) (hd : ∀ q ∈ dom', q ∈ dom) : Tells kvs dom' c' := ⟨fun q => (T.1 q).trans (h q), fun q hq => T.2 q (hd q hq)⟩
def spCnt (P : Program) (w : World) (C : Addr) : Sp := fun vs H Q _ => ∃ (a : Addr) (rs : List (List Str)), vs = [.ref a] ∧ ShV H C a rs ∧ (∀ r ∈ rs, Row r) ∧ rs.length ≤ 48 ∧
  ∀ (H' : Hp) (d : Addr) (kvs : QNs), Same H H' → H d = none → H' d = some (CQ P w d kvs) → KeysQ H' kvs → kvs.length ≤ 1200 → Tells kvs (famQ rs) (fun q => (cntO rs q : Int)) → Q (.ref d) H'
abbrev nCnt : List Str := ["shelf", "many", "index", "question"]
theorem scCnt : FnScope nCnt ["shelf"] (defScope sCountSv) := ⟨rfl, rfl, rfl, by decide +kernel, rfl, by decide +kernel, by decide +kernel⟩
theorem ok_cnt {f C fi : Addr} {fd fdI : FuncData} (F : Fun K "count_servers" "count_servers" sCountSv f fd) (T : Txt K mg) (oc : OwnIt K C fi) (FI : FnS P w K mg base 1 fi fdI ["self"] (spIterF C "_indexes")) (bI : Binds K fdI ["self"] [])
    (cQ : Cal P w K mg base 1 "questions_of" ["index"] spQof) : FnOk P w K mg base CX0 2 f fd ["shelf"] (spCnt P w C) := by
  refine F.ok scCnt (fun vs H Q E h => ?_) (fun cdv A outer s H vs Q E hr h => ?_)
  · obtain ⟨a, rs, rfl, _⟩ := h
    rfl
  · obtain ⟨a, rs, rfl, ⟨l, xs, ⟨dx, ha, hl⟩, hq⟩, hz, hm, k⟩ := h
    have nd := scCnt.nd
    have hu16 : A.units + 3 + 16 < cLine := by
      have := hr.un
      have e : (A.deeper (envOfC "count_servers" (defScope sCountSv) s.heap.objs.size f cdv)).units = A.units + 3 := rfl
      omega
    refine ⟨_, pss_cons (ps_set (i := 1) nd rfl (by first | exact Or.inl rfl | exact Or.inr rfl) pe_qnew)
      (pss_cons (ps_for PassesOwn.never rfl (pi_own oc FI bI hr (pv 0)) (pg_name (i := 2) nd rfl (by first | exact Or.inl rfl | exact Or.inr rfl))
        (pss_one (ps_for PassesOwn.never rfl (pi_list (pe_call cQ.G hr rfl cQ.m cQ.kp cQ.b .nil pass0 (pa_cons (pv 2) pa_nil))) (pg_name (i := 3) nd rfl (by first | exact Or.inl rfl | exact Or.inr rfl))
          (pss_one (ps_qput hu16 (pv 1) (pv 3) (pe_op op_add (pe_qgetD hu16 (pv 1) (pv 3) pe_int ⟨rfl, rfl, rfl, rfl⟩) pe_int) rfl)))))
      (pss_one (ps_ret (pv 1)))), ?_⟩
    refine fun d hd => ?_
    have sD := same_new (o := CQ P w d []) hd
    refine ⟨_, rfl, a, dx, l, _, xs, rfl, sD _ _ ha, rfl, sD _ _ hl, ?_⟩
    refine for_list (K := K) (a := l) (xs := xs) (fun i σ G => ∃ v2 v3, σ = [some (.ref a), some (.ref d), v2, v3] ∧ Same H G ∧ ∃ kvs : QNs, G d = some (CQ P w d kvs) ∧ KeysQ G kvs ∧ kvs.length ≤ 24 * i ∧ Tells kvs (famQ (rs.take i)) (fun q => (cntO (rs.take i) q : Int)))
      ⟨_, _, rfl, sD, [], upd_same, (fun p hp => nomatch hp), Nat.le_refl _, (fun q => rfl), fun q hq => (nomatch hq)⟩ (fun i σ G _ ⟨_, _, _, s, _⟩ => SqL.of (s _ _ hl)) ?_ ?_
    · rintro i y σ G hy ⟨v2, v3, rfl, s1, kvs, hD, hK, kl, T1⟩
      obtain ⟨t0, r, rfl, hri, hrt⟩ := (hq.same s1).at_ hy
      have R := hz r (List.mem_of_getElem? hri)
      have tk : rs.take (i + 1) = rs.take i ++ [r] := by rw [List.take_add_one, hri]; rfl
      refine ⟨_, rfl, t0, r, rfl, hrt, R, fun ys qs t G1 s2 htn ht hql hpm hri2 => ⟨t, rfl, ⟨_, SqL.of ht⟩, ?_⟩⟩
      have hD1 := s2 _ _ hD
      have td : t ≠ d := fun e => by
        rw [e, hD1] at ht
        cases ht
      have ql24 : qs.length ≤ 24 := by
        rw [hpm.length_eq, allQ_len]
        have := R.le
        omega
      have qnd : qs.Nodup := hpm.nodup_iff.mpr (allQ_nodup R)
      refine for_list (K := K) (a := t) (xs := ys) (fun j σ G => ∃ v3, σ = [some (.ref a), some (.ref d), some (.ref t0), v3] ∧ Same H G ∧ G t = some (.lst ys) ∧ QL G ys qs ∧ ∃ kvs : QNs, G d = some (CQ P w d kvs) ∧ KeysQ G kvs ∧ kvs.length ≤ 24 * i + j ∧ Tells kvs (famQ (rs.take i) ++ qs.take j) (fun z => (cntO (rs.take i) z : Int) + if z ∈ qs.take j then 1 else 0))
        ⟨_, rfl, s1.trans s2, ht, hql, kvs, hD1, hK.same s2, kl, T1.eq (fun q => by simp) (fun q hq => by simpa using hq)⟩ (fun j σ G _ ⟨_, _, _, h, _⟩ => SqL.of h) ?_ ?_
      · rintro j v σ G2 hv ⟨v3, rfl, s3, ht2, hql2, kv2, hD2, hK2, kl2, T2⟩
        obtain ⟨o, q, rfl, hqj, hqa⟩ := hql2.at_ hv
        have tk2 : qs.take (j + 1) = qs.take j ++ [q] := by rw [List.take_add_one, hqj]; rfl
        have jl : j < qs.length := (List.getElem?_eq_some_iff.mp hqj).1
        have il : i < rs.length := (List.getElem?_eq_some_iff.mp hri).1
        have hn : q ∉ qs.take j := fun h => by
          have := List.Nodup.sublist (List.take_sublist (j + 1) qs) qnd
          rw [tk2, List.nodup_append] at this
          exact this.2.2 q h q (List.mem_singleton_self q) rfl
        have sU : ∀ u, Same H (upd G2 d u) := fun u b o hb => by
          rw [upd_ne (ne_of_none hb hd)]
          exact s3 _ _ hb
        refine ⟨_, rfl, d, kv2, rfl, hD2, _, rfl, o, kv2, q, 0, hD2, hK2, rfl, hqa, rfl, _, _, rfl, rfl, _, rfl, _, rfl, d, o, kv2, q, _, rfl, hD2, hK2, rfl, hqa, rfl, by rw [sizeLine_eq]; omega, ?_⟩
        refine ⟨_, rfl, sU _, by rw [upd_ne td]; exact ht2, Paired.mapP hql2 fun x z ⟨v, e, h⟩ => ⟨v, e, h.offC hD2⟩, _, upd_same, hK2.put hD2 hqa, by have := putQ_len kv2 q o ((lookQ kv2 q).getD 0 + 1); omega, ?_⟩
        rw [T2.1 q]
        refine (T2.put q o _).eq (fun z => ?_) (fun z hz => ?_)
        · show (if z = q then (cntO (rs.take i) q : Int) + (if q ∈ qs.take j then 1 else 0) + 1 else (cntO (rs.take i) z : Int) + (if z ∈ qs.take j then 1 else 0)) = (cntO (rs.take i) z : Int) + (if z ∈ qs.take (j + 1) then 1 else 0)
          rw [tk2]
          by_cases e : z = q
          · subst e
            rw [if_pos rfl, if_neg hn, if_pos (List.mem_append_right _ (List.mem_singleton_self z))]
            omega
          · rw [if_neg e]
            by_cases m : z ∈ qs.take j
            · rw [if_pos m, if_pos (List.mem_append_left _ m)]
            · rw [if_neg m, if_neg fun h => (List.mem_append.mp h).elim m fun h => e (List.mem_singleton.mp h)]
        · rw [tk2, ← List.append_assoc] at hz
          exact hz
      · rintro σ G2 ⟨v3, rfl, s3, ht2, hql2, kv2, hD2, hK2, kl2, T2⟩
        rw [hql.len, List.take_of_length_le (Nat.le_refl _)] at T2
        refine ⟨_, _, rfl, s3, kv2, hD2, hK2, by have := hql.len; omega, T2.eq (fun z => ?_) fun z hz => ?_⟩
        · show (cntO (rs.take i) z : Int) + (if z ∈ qs then 1 else 0) = (cntO (rs.take (i + 1)) z : Int)
          rw [tk, cntO_snoc]
          by_cases m : z ∈ qs
          · rw [if_pos m, if_pos (hpm.mem_iff.mp m)]
            omega
          · rw [if_neg m, if_neg fun h => m (hpm.mem_iff.mpr h)]
            omega
        · rw [tk, famQ_snoc] at hz
          rcases List.mem_append.mp hz with h | h
          · exact List.mem_append_left _ h
          · exact List.mem_append_right _ (hpm.mem_iff.mpr h)
    · rintro σ G ⟨v2, v3, rfl, s1, kvs, hD, hK, kl, T1⟩
      rw [hq.len, List.take_of_length_le (Nat.le_refl _)] at T1
      exact ⟨_, rfl, k G d kvs s1 hd hD hK (by have := hq.len; omega) T1⟩
end
end Qk
set_option maxRecDepth 100000
set_option maxHeartbeats 4000000
namespace Qk
open PySem PySem.Spec PyProof.Rows L2
section
variable {P : Program} {w : World} {K : PySem.W.Frag} {mg : Str → Option Value} {base : Heap}
def spSpare (P : Program) (w : World) : Sp := fun vs H Q _ => ∃ (t d : Addr) (r : List Str) (kvs : QNs) (dom : List Qd) (c : Qd → Int), vs = [.ref t, .ref d] ∧ H t = some (.tup (r.map V.str)) ∧ Row r ∧ H d = some (CQ P w d kvs) ∧ KeysQ H kvs ∧ Tells kvs dom c ∧ (∀ q ∈ allQ r r.length, q ∈ dom) ∧
  ∀ (H' : Hp) (b : Bool), Same H H' → (b = true ↔ ∀ q ∈ allQ r r.length, 1 < c q) → Q (.bl b) H'
abbrev nSpare : List Str := ["index", "many", "question"]
theorem scSpare : FnScope nSpare ["index", "many"] (defScope sIsSpare) := ⟨rfl, rfl, rfl, by decide +kernel, rfl, by decide +kernel, by decide +kernel⟩
theorem ok_spare {f : Addr} {fd : FuncData} (F : Fun K "is_spare" "is_spare" sIsSpare f fd) (T : Txt K mg) (cQ : Cal P w K mg base 1 "questions_of" ["index"] spQof) : FnOk P w K mg base CX0 2 f fd ["index", "many"] (spSpare P w) := by
  refine F.ok scSpare (fun vs H Q E h => ?_) (fun cdv A outer s H vs Q E hr h => ?_)
  · obtain ⟨t, d, r, kvs, dom, c, rfl, _⟩ := h
    rfl
  · obtain ⟨t, d, r, kvs, dom, c, rfl, ht, R, hD, hK, T1, hdom, k⟩ := h
    have nd := scSpare.nd
    have hu16 : A.units + 3 + 16 < cLine := by
      have := hr.un
      have e : (A.deeper (envOfC "is_spare" (defScope sIsSpare) s.heap.objs.size f cdv)).units = A.units + 3 := rfl
      omega
    refine ⟨_, pss_one (ps_ret (pe_callB (cr_all rfl) (by rfl) T.all (by decide +kernel) (pa_cons (pe_lc (own := [("question", 2)]) (g := gName 2) (tt := tYes) rfl nd (pi_list (pe_call cQ.G hr rfl cQ.m cQ.kp cQ.b .nil pass0 (pa_cons (pv 0) pa_nil))) (blkOk_by (N := nSpare) (sc := defScope sIsSpare) (by decide +kernel))
        (fun _ _ _ _ _ => pg_name (i := 2) nd rfl (by first | exact Or.inl rfl | exact Or.inr rfl)) (fun _ _ _ _ _ => pts_nil) (fun _ _ _ _ _ => pe_cmpR op_gt (show PE _ _ (tQGet P w (tVar 1) (tVar 2)) from pe_qget hu16 (pv 1) (pv 2) (fun _ _ => rfl)) pe_int (nomark _))) pa_nil))), ?_⟩
    refine ⟨_, rfl, t, r, rfl, ht, R, fun ys qs p H1 s1 hpn hp hql hpm hri => ⟨p, rfl, ⟨_, SqL.of hp⟩, fun D hD1 => ?_⟩⟩
    have hD2 := s1 _ _ hD
    have hK1 := hK.same s1
    have ql24 : qs.length ≤ 24 := by
      rw [hpm.length_eq, allQ_len]
      have := R.le
      omega
    refine lc_list (K := K) (a := p) (xs := ys) (fun i H' => Same H1 H' ∧ H' D = some (.lst (((qs.take i).map fun q => decide (1 < c q)).map V.bl))) ⟨same_new hD1, upd_same⟩ (fun i H' _ h => SqL.of (h.1 _ _ hp)) ?_ ?_
    · rintro i x H2 hx ⟨s2, hDl⟩
      obtain ⟨o, q, rfl, hqi, hqa⟩ := (hql.same s2).at_ hx
      have il : i < ys.length := (List.getElem?_eq_some_iff.mp hx).1
      have yl := hql.len
      have et : qs.take (i + 1) = qs.take i ++ [q] := by rw [List.take_add_one, hqi]; rfl
      have qd := hdom q (hpm.mem_iff.mp (List.mem_of_getElem? hqi))
      refine ⟨rfl, Exists.intro _ ⟨rfl, Exists.intro _ ⟨rfl, d, o, kvs, q, c q, rfl, s2 _ _ hD2, hK1.same s2, rfl, hqa, T1.get qd, ?_⟩⟩⟩
      refine ⟨_, _, rfl, rfl, _, hDl, small1000 (by simp; omega), fun b o hb => ?_, ?_⟩
      · rw [upd_ne (ne_of_none hb hD1)]
        exact s2 _ _ hb
      · rw [upd_same, et, List.map_append, List.map_append]
        rfl
    · rintro H2 ⟨s2, hDl⟩
      rw [hql.len, List.take_of_length_le (Nat.le_refl _)] at hDl
      refine ⟨D, _, rfl, SqL.of hDl, ?_⟩
      refine k H2 _ (s1.trans s2) ?_
      rw [List.all_map, List.all_eq_true]
      exact ⟨fun h q hq => of_decide_eq_true (h q (hpm.mem_iff.mpr hq)), fun h q hq => decide_eq_true (h q (hpm.mem_iff.mp hq))⟩
end
end Qk
set_option maxRecDepth 100000
set_option maxHeartbeats 4000000
namespace Qk
open PySem PySem.Spec PyProof.Rows L2
section
variable {P : Program} {w : World} {K : PySem.W.Frag} {mg : Str → Option Value} {base : Heap}
def vN (i : Nat) : V := .int (i : Int)
/-- whether each question of a row is served more than once -/
def spareB (c : Qd → Int) (r : List Str) : Bool := (allQ r r.length).all fun q => decide (1 < c q)
def spareAt (c : Qd → Int) (rs : List (List Str)) (j : Nat) : Bool := match rs[j]? with
  | some r => spareB c r
  | none => false
def sparesT (rs : List (List Str)) (n : Nat) : List Nat := (List.range n).filter (spareAt (fun q => (cntO rs q : Int)) rs)
theorem sparesT_step (rs : List (List Str)) (n : Nat) : sparesT rs (n + 1) = sparesT rs n ++ if spareAt (fun q => (cntO rs q : Int)) rs n = true then [n] else [] := by
  unfold sparesT
  rw [List.range_succ, List.filter_append]
  congr 1
  rw [List.filter_cons, List.filter_nil]
theorem sparesT_len (rs : List (List Str)) (n : Nat) : (sparesT rs n).length ≤ n := by
  have := List.length_filter_le (spareAt (fun q => (cntO rs q : Int)) rs) (List.range n)
  rw [List.length_range] at this
  exact this
theorem spareB_iff {c : Qd → Int} {r : List Str} {b : Bool} (h : b = true ↔ ∀ q ∈ allQ r r.length, 1 < c q) : b = spareB c r := by
  unfold spareB
  cases b with
  | true =>
    exact (List.all_eq_true.mpr fun q hq => decide_eq_true (h.mp rfl q hq)).symm
  | false =>
    symm
    rw [← Bool.not_eq_true]
    intro z
    exact absurd (h.mpr fun q hq => of_decide_eq_true (List.all_eq_true.mp z q hq)) (by decide)
theorem fam_mem {rs : List (List Str)} {r : List Str} (h : r ∈ rs) {q : Qd} (hq : q ∈ allQ r r.length) : q ∈ famQ rs := List.mem_flatMap.mpr ⟨r, h, hq⟩
def spNeedless (C : Addr) : Sp := fun vs H Q _ => ∃ (a : Addr) (rs : List (List Str)), vs = [.ref a] ∧ ShV H C a rs ∧ (∀ r ∈ rs, Row r) ∧ rs.length ≤ 48 ∧
  ∀ (H' : Hp) (p : Addr), Same H H' → H p = none → H' p = some (.lst ((sparesT rs rs.length).map vN)) → Q (.ref p) H'
abbrev nNd : List Str := ["shelf", "many", "number", "index"]
theorem scNd : FnScope nNd ["shelf"] (defScope sNeedless) := ⟨rfl, rfl, rfl, by decide +kernel, rfl, by decide +kernel, by decide +kernel⟩
theorem ok_needless {f C fi : Addr} {fd fdI : FuncData} (F : Fun K "needless" "needless" sNeedless f fd) (T : Txt K mg) (oc : OwnIt K C fi) (FI : FnS P w K mg base 1 fi fdI ["self"] (spIterF C "_indexes")) (bI : Binds K fdI ["self"] [])
    (cC : Cal P w K mg base 2 "count_servers" ["shelf"] (spCnt P w C)) (cS : Cal P w K mg base 2 "is_spare" ["index", "many"] (spSpare P w)) : FnOk P w K mg base CX0 4 f fd ["shelf"] (spNeedless C) := by
  refine F.ok scNd (fun vs H Q E h => ?_) (fun cdv A outer s H vs Q E hr h => ?_)
  · obtain ⟨a, rs, rfl, _⟩ := h
    rfl
  · obtain ⟨a, rs, rfl, hSh, hR, l48, k⟩ := h
    obtain ⟨l, xs, hI, hT⟩ := id hSh
    obtain ⟨dx, ha, hl⟩ := id hI
    have nd := scNd.nd
    have hr2 : Room 2 _ := hr.mono (by decide)
    have le := hT.len
    refine ⟨_, pss_cons (ps_set (i := 1) nd rfl (by first | exact Or.inl rfl | exact Or.inr rfl) (pe_call cC.G hr2 rfl cC.m cC.kp cC.b .nil pass0 (pa_cons (pv 0) pa_nil)))
      (pss_one (ps_ret (pe_lc (own := [("number", 2), ("index", 3)]) (g := gTup K 2 (gCons (gName 2) (gCons (gName 3) gNil))) rfl nd (pi_enumOwn oc FI bI hr (by rfl) T.enumerate (pa_cons (pv 0) pa_nil)) (blkOk_by (N := nNd) (sc := defScope sNeedless) (by decide +kernel))
      (fun _ _ _ _ _ => pg_tup (by rfl) (pgs_cons (pg_name (i := 2) nd rfl (by first | exact Or.inl rfl | exact Or.inr rfl)) (pgs_cons (pg_name (i := 3) nd rfl (by first | exact Or.inl rfl | exact Or.inr rfl)) pgs_nil)))
      (fun _ _ _ _ _ => pts_one (pt_val (pe_call cS.G hr2 rfl cS.m cS.kp cS.b .nil pass0 (pa_cons (pv 3) (pa_cons (pv 1) pa_nil))))) (fun _ _ _ _ _ => pv 2)))), ?_⟩
    refine ⟨_, rfl, a, rs, rfl, hSh, hR, l48, fun H0 d kvs s0 d0 hd hK kl T1 => ?_⟩
    have hI0 := hI.same s0
    have hT0 := hT.same s0
    obtain ⟨dx0, ha0, hl0⟩ := id hI0
    refine ⟨_, rfl, a, l, xs, rfl, hI0.hasL, fun D hD => ?_⟩
    refine lc_it (walk_enum (xs := xs)) (fun i H' => Same H0 H' ∧ H' D = some (.lst ((sparesT rs i).map vN))) ⟨same_new hD, upd_same⟩ (fun i H' _ h => SqL.of (h.1 _ _ hl0)) ?_ ?_
    · rintro i x H3 H4 hi ⟨s3, hDl⟩ y
      obtain ⟨T4, x1, y1, rfl, hT4, rfl, hx1, hy1⟩ := y
      injection hx1 with hx1
      subst hx1
      obtain ⟨t0, r, rfl, hri, hrt⟩ := (hT0.same s3).at_ hy1
      have rm := List.mem_of_getElem? hri
      have R := hR r rm
      have sT := same_new (o := .tup [V.int (i : Nat), V.ref t0]) hT4
      refine ⟨T4, _, rfl, SqT.of upd_same, rfl, _, _, rfl, _, _, rfl, rfl, rfl, ?_⟩
      have s3T := s3.trans sT
      refine Exists.intro _ ⟨rfl, Exists.intro _ ⟨rfl, t0, d, r, kvs, famQ rs, _, rfl, sT _ _ hrt, R, s3T _ _ hd, hK.same s3T, T1, fun q hq => fam_mem rm hq, fun H5 b s5 hb => ⟨_, rfl, ?_⟩⟩⟩
      have s35 := s3.trans (sT.trans s5)
      have hD5 := s5 _ _ (sT _ _ hDl)
      have es : spareAt (fun q => (cntO rs q : Int)) rs i = b := by
        unfold spareAt
        rw [hri]
        exact (spareB_iff hb).symm
      rw [sparesT_step, es]
      cases b with
      | true =>
        refine iteT ?_
        have nl := sparesT_len rs i
        refine ⟨_, rfl, _, hD5, small1000 (by rw [List.length_map]; omega), fun b o hb2 => ?_, ?_⟩
        · rw [upd_ne (ne_of_none hb2 hD)]
          exact s35 _ _ hb2
        · rw [upd_same, List.map_append]
          rfl
      | false =>
        refine iteF ?_
        exact ⟨s35, by rw [hD5]; simp⟩
    · rintro H3 ⟨s3, hDl⟩
      rw [le] at hDl
      have D0 : H D = none := by
        cases e : H D with
        | none => rfl
        | some o =>
          rw [s0 _ _ e] at hD
          cases hD
      exact k H3 D (s0.trans s3) D0 hDl
end
end Qk
set_option maxRecDepth 100000
set_option maxHeartbeats 4000000
namespace Qk
open PySem PySem.Spec PyProof.Rows L2
section
variable {P : Program} {w : World} {K : PySem.W.Frag} {mg : Str → Option Value} {base : Heap}
def lessC (c : Qd → Int) (r : List Str) : Qd → Int := fun q => c q - if q ∈ allQ r r.length then 1 else 0
/-- what stays of rows, from the first one of these on -/
def pruneGo : (Qd → Int) → List (List Str) → List (List Str)
  | _, [] => []
  | c, r :: rs => if spareB c r = true then pruneGo (lessC c r) rs else r :: pruneGo c rs
def prunedR (rs : List (List Str)) : List (List Str) := (pruneGo (fun q => (cntO rs q : Int)) rs.reverse).reverse
theorem pruneGo_sub : ∀ {rs : List (List Str)} {c : Qd → Int}, (pruneGo c rs).Sublist rs
  | [], _ => .slnil
  | r :: rs, c => by
    unfold pruneGo
    split
    · exact .cons _ pruneGo_sub
    · exact .cons₂ _ pruneGo_sub
theorem putQ_old {kvs : QNs} {q : Qd} {b : Addr} {n : Int} (h : (lookQ kvs q).isSome = true) : (putQ kvs q b n).length = kvs.length := by
  unfold putQ
  rw [if_pos h, List.length_map]
theorem paired_revP {α β : Type} {F : α → β → Prop} {xs : List α} {ys : List β} (h : Paired F xs ys) : Paired F xs.reverse ys.reverse := by
  induction h with
  | nil => exact .nil
  | cons h _ ih =>
    rw [List.reverse_cons, List.reverse_cons]
    exact paired_app ih (.cons h .nil)
theorem TL.offC {P : Program} {w : World} {H : Hp} {d : Addr} {kvs : QNs} {o : HO} (hd : H d = some (CQ P w d kvs)) : ∀ {xs : List V} {rs : List (List Str)}, TL H xs rs → TL (upd H d o) xs rs := fun h => Paired.mapP h fun x r ⟨t, e, g⟩ => ⟨t, e, by
  rw [upd_ne fun e => by rw [e, hd] at g; cases g]
  exact g⟩
theorem KeysQ.offL {H : Hp} {L : Addr} {us vs : List V} {kvs : QNs} (hL : H L = some (.lst us)) (K : KeysQ H kvs) : KeysQ (upd H L (.lst vs)) kvs := fun p hp => by
  obtain ⟨c, h1, h2⟩ := K p hp
  exact ⟨c, by rw [upd_ne fun e => by rw [e, hL] at h1; cases h1]; exact h1, by rw [upd_ne fun e => by rw [e, hL] at h2; cases h2]; exact h2⟩
def spPruned (C : Addr) : Sp := fun vs H Q _ => ∃ (a : Addr) (rs : List (List Str)), vs = [.ref a] ∧ ShV H C a rs ∧ (∀ r ∈ rs, Row r) ∧ rs.length ≤ 48 ∧ NewS C H (prunedR rs) Q
abbrev nPr : List Str := ["shelf", "many", "left", "index", "question"]
theorem scPr : FnScope nPr ["shelf"] (defScope sPruned) := ⟨rfl, rfl, rfl, by decide +kernel, rfl, by decide +kernel, by decide +kernel⟩
theorem ok_pruned {f C fI fQ : Addr} {fd fdI fdQ : FuncData} (F : Fun K "pruned" "pruned" sPruned f fd) (T : Txt K mg) (TC : TxC K mg C) (M : Mk K C fI) (FI : FnOk P w K mg base CX0 5 fI fdI ["self", "indexes"] (spInitS C)) (bI : Binds K fdI ["self", "indexes"] [])
    (mQ : Meth K C "indexes" fQ) (gQ : FnOk P w K mg base CX0 1 fQ fdQ ["self"] (spIxsM C)) (bQ : Binds K fdQ ["self"] [])
    (cQ : Cal P w K mg base 1 "questions_of" ["index"] spQof)
    (cC : Cal P w K mg base 2 "count_servers" ["shelf"] (spCnt P w C)) (cS : Cal P w K mg base 2 "is_spare" ["index", "many"] (spSpare P w)) : FnOk P w K mg base CX0 7 f fd ["shelf"] (spPruned C) := by
  refine F.ok scPr (fun vs H Q E h => ?_) (fun cdv A outer s H vs Q E hr h => ?_)
  · obtain ⟨a, rs, rfl, _⟩ := h
    rfl
  · obtain ⟨a, rs, rfl, hSh, hR, l48, k⟩ := h
    obtain ⟨l, xs, ⟨dx, ha, hl⟩, hT⟩ := id hSh
    have nd := scPr.nd
    have hr2 : Room 2 _ := hr.mono (by decide)
    have hr1 : Room 1 _ := hr.mono (by decide)
    have hr6 : Room 6 _ := hr.mono (by decide)
    have le := hT.len
    have hu16 : A.units + 3 + 16 < cLine := by
      have := hr.un
      have e : (A.deeper (envOfC "pruned" (defScope sPruned) s.heap.objs.size f cdv)).units = A.units + 3 := rfl
      omega
    refine ⟨_, pss_cons (ps_set (i := 1) nd rfl (by first | exact Or.inl rfl | exact Or.inr rfl) (pe_call cC.G hr2 rfl cC.m cC.kp cC.b .nil pass0 (pa_cons (pv 0) pa_nil)))
      (pss_cons (ps_set (i := 2) nd rfl (by first | exact Or.inl rfl | exact Or.inr rfl) (pe_lst pa_nil))
      (pss_cons (ps_for PassesOwn.never rfl (pi_list (pe_revL (pe_meth0 (pv 0) TC.cl mQ gQ hr1 bQ .nil pass0))) (pg_name (i := 3) nd rfl (by first | exact Or.inl rfl | exact Or.inr rfl))
        (pss_one (ps_if (pt_val (pe_call cS.G hr2 rfl cS.m cS.kp cS.b .nil pass0 (pa_cons (pv 3) (pa_cons (pv 1) pa_nil))))
          (pss_one (ps_for PassesOwn.never rfl (pi_list (pe_call cQ.G hr1 rfl cQ.m cQ.kp cQ.b .nil pass0 (pa_cons (pv 3) pa_nil))) (pg_name (i := 4) nd rfl (by first | exact Or.inl rfl | exact Or.inr rfl))
            (pss_one (ps_qput hu16 (pv 1) (pv 4) (pe_op op_sub (pe_qget hu16 (pv 1) (pv 4) (fun _ _ => rfl)) pe_int) rfl))))
          (pss_one (ps_expr (pe_bm PySem.F.plainAttrs_list PySem.F.slot_list_append PySem.F.type_list_append mt_append (pv 2) (pa_cons (pv 3) pa_nil)))))))
      (pss_one (ps_ret (pe_make M FI hr6 rfl TC.mgC bI .nil pass0 (pa_cons (pe_revL (pv 2)) pa_nil)))))), ?_⟩
    refine ⟨_, rfl, a, rs, rfl, hSh, hR, l48, fun H0 d kvs s0 d0 hd hK kl T1 => ?_⟩
    refine ⟨by decide, fun L hL => ?_⟩
    have s1 := same_new (o := .lst []) hL
    have hd1 := s1 _ _ hd
    have hL1 : (upd H0 L (.lst [])) L = some (.lst []) := upd_same
    have dL : d ≠ L := ne_of_none hd hL
    have hK1 := hK.same s1
    have s01 := s0.trans s1
    have L0 : H L = none := by
      cases e : H L with
      | none => rfl
      | some o =>
        rw [s0 _ _ e] at hL
        cases hL
    generalize upd H0 L (.lst []) = H1 at s01 hd1 hL1 hK1 ⊢
    refine ⟨_, rfl, a, dx, _, rfl, s01 _ _ ha, rfl, a, rs, rfl, hSh.same s01, fun p ys H2 s2 hp hT2 => ?_⟩
    refine ⟨p, ys, rfl, SqL.of hp, fun pr hpr => ?_⟩
    have s3 := same_new (o := .lst ys.reverse) hpr
    have hpr3 : (upd H2 pr (.lst ys.reverse)) pr = some (.lst ys.reverse) := upd_same
    have hT3 : TL (upd H2 pr (.lst ys.reverse)) ys.reverse rs.reverse := paired_revP (TL.same s3 hT2)
    have s03 := s01.trans (s2.trans s3)
    have hd3 := s3 _ _ (s2 _ _ hd1)
    have hL3 := s3 _ _ (s2 _ _ hL1)
    have hK3 := (hK1.same s2).same s3
    have prL : pr ≠ L := fun e => by
      rw [e, s2 _ _ hL1] at hpr
      cases hpr
    have prd : pr ≠ d := fun e => by
      rw [e, s2 _ _ hd1] at hpr
      cases hpr
    generalize upd H2 pr (.lst ys.reverse) = H3 at s03 hpr3 hT3 hd3 hL3 hK3 ⊢
    have yl := hT2.len
    refine ⟨pr, rfl, ⟨_, SqL.of hpr3⟩, ?_⟩
    refine for_list (K := K) (a := pr) (xs := ys.reverse) (fun i σ G => ∃ v3 v4, σ = [some (.ref a), some (.ref d), some (.ref L), v3, v4] ∧ Same H G ∧ G pr = some (.lst ys.reverse) ∧ TL G ys.reverse rs.reverse ∧ ∃ (kv : QNs) (c : Qd → Int) (us : List V) (ls : List (List Str)), G d = some (CQ P w d kv) ∧ KeysQ G kv ∧ kv.length ≤ 1200 ∧ Tells kv (famQ rs) c ∧ G L = some (.lst us) ∧ TL G us ls ∧ us.length ≤ i ∧
        pruneGo (fun q => (cntO rs q : Int)) rs.reverse = ls ++ pruneGo c (rs.reverse.drop i))
      ⟨_, _, rfl, s03, hpr3, hT3, kvs, _, [], [], hd3, hK3, kl, T1, hL3, .nil, Nat.le_refl _, rfl⟩ (fun i σ G _ ⟨_, _, _, _, h, _⟩ => SqL.of h) ?_ ?_
    · rintro i y σ G hy ⟨v3, v4, rfl, sG, hprG, hTG, kv, c, us, ls, hdG, hKG, klG, TG, hLG, hUG, ul, hgo⟩
      obtain ⟨t0, r, rfl, hri, hrt⟩ := hTG.at_ hy
      have rm := List.mem_reverse.mp (List.mem_of_getElem? hri)
      have R := hR r rm
      have il : i < ys.reverse.length := (List.getElem?_eq_some_iff.mp hy).1
      have il2 : i < 48 := by
        rw [List.length_reverse] at il
        omega
      have ed : rs.reverse.drop i = r :: rs.reverse.drop (i + 1) := by
        obtain ⟨hlt, he⟩ := List.getElem?_eq_some_iff.mp hri
        rw [List.drop_eq_getElem_cons hlt, he]
      refine ⟨_, rfl, _, rfl, t0, d, r, kv, famQ rs, c, rfl, hrt, R, hdG, hKG, TG, fun q hq => fam_mem rm hq, fun G1 b sb hb => ⟨_, rfl, ?_⟩⟩
      have eb := spareB_iff hb
      have hd1' := sb _ _ hdG
      have hL1' := sb _ _ hLG
      have hpr1 := sb _ _ hprG
      cases b with
      | true =>
        refine iteT ?_
        have hgo2 : pruneGo (fun q => (cntO rs q : Int)) rs.reverse = ls ++ pruneGo (lessC c r) (rs.reverse.drop (i + 1)) := by
          rw [hgo, ed]
          show ls ++ (if spareB c r = true then _ else _) = _
          rw [if_pos eb.symm]
        refine ⟨_, rfl, t0, r, rfl, sb _ _ hrt, R, fun zs qs t G2 s2 htn ht hql hpm hri2 => ⟨t, rfl, ⟨_, SqL.of ht⟩, ?_⟩⟩
        have hd2 := s2 _ _ hd1'
        have td : t ≠ d := fun e => by
          rw [e, hd2] at ht
          cases ht
        have ql24 : qs.length ≤ 24 := by
          rw [hpm.length_eq, allQ_len]
          have := R.le
          omega
        have qnd : qs.Nodup := hpm.nodup_iff.mpr (allQ_nodup R)
        refine for_list (K := K) (a := t) (xs := zs) (fun j σ G' => ∃ v4', σ = [some (.ref a), some (.ref d), some (.ref L), some (.ref t0), v4'] ∧ Same H G' ∧ G' pr = some (.lst ys.reverse) ∧ TL G' ys.reverse rs.reverse ∧ G' t = some (.lst zs) ∧ QL G' zs qs ∧ G' L = some (.lst us) ∧ TL G' us ls ∧ ∃ kv2 : QNs, G' d = some (CQ P w d kv2) ∧ KeysQ G' kv2 ∧ kv2.length ≤ 1200 ∧ Tells kv2 (famQ rs) (fun z => c z - if z ∈ qs.take j then 1 else 0))
          ⟨_, rfl, sG.trans (sb.trans s2), s2 _ _ hpr1, (hTG.same sb).same s2, ht, hql, s2 _ _ hL1', TL.same s2 (TL.same sb hUG), kv, hd2, (hKG.same sb).same s2, klG, TG.eq (fun q => by simp) (fun q hq => hq)⟩ (fun j σ G' _ ⟨_, _, _, _, _, h, _⟩ => SqL.of h) ?_ ?_
        · rintro j v σ G3 hv ⟨v4', rfl, s3', hpr3', hT3', ht3, hql3, hL3', hU3, kv2, hd3', hK3', kl3, T3⟩
          obtain ⟨o, q, rfl, hqj, hqa⟩ := hql3.at_ hv
          have tk2 : qs.take (j + 1) = qs.take j ++ [q] := by rw [List.take_add_one, hqj]; rfl
          have hn : q ∉ qs.take j := fun h => by
            have := List.Nodup.sublist (List.take_sublist (j + 1) qs) qnd
            rw [tk2, List.nodup_append] at this
            exact this.2.2 q h q (List.mem_singleton_self q) rfl
          have qf : q ∈ famQ rs := fam_mem rm (hpm.mem_iff.mp (List.mem_of_getElem? hqj))
          have sU : ∀ u, Same H (upd G3 d u) := fun u b o hb => by
            rw [upd_ne (ne_of_none hb d0)]
            exact s3' _ _ hb
          have lk := T3.get qf
          refine ⟨_, rfl, _, rfl, d, o, kv2, q, _, rfl, hd3', hK3', rfl, hqa, lk, _, _, rfl, rfl, _, rfl, _, rfl, d, o, kv2, q, _, rfl, hd3', hK3', rfl, hqa, rfl, by rw [sizeLine_eq]; omega, ?_⟩
          refine ⟨_, rfl, sU _, by rw [upd_ne prd]; exact hpr3', hT3'.offC hd3', by rw [upd_ne td]; exact ht3, Paired.mapP hql3 fun x z ⟨v, e, h⟩ => ⟨v, e, h.offC hd3'⟩, by rw [upd_ne dL.symm]; exact hL3', TL.offC hd3' hU3, _, upd_same, hK3'.put hd3' hqa, by rw [putQ_old (by rw [lk]; rfl)]; exact kl3, ?_⟩
          refine (T3.put q o _).eq (fun z => ?_) (fun z hz => List.mem_append_left _ hz)
          show (if z = q then (c q - if q ∈ qs.take j then 1 else 0) - 1 else c z - if z ∈ qs.take j then 1 else 0) = c z - if z ∈ qs.take (j + 1) then 1 else 0
          rw [tk2]
          by_cases e : z = q
          · subst e
            rw [if_pos rfl, if_neg hn, if_pos (List.mem_append_right _ (List.mem_singleton_self z))]
            omega
          · rw [if_neg e]
            by_cases m : z ∈ qs.take j
            · rw [if_pos m, if_pos (List.mem_append_left _ m)]
            · rw [if_neg m, if_neg fun h => (List.mem_append.mp h).elim m fun h => e (List.mem_singleton.mp h)]
        · rintro σ G3 ⟨v4', rfl, s3', hpr3', hT3', ht3, hql3, hL3', hU3, kv2, hd3', hK3', kl3, T3⟩
          rw [hql.len, List.take_of_length_le (Nat.le_refl _)] at T3
          refine ⟨_, _, rfl, s3', hpr3', hT3', kv2, lessC c r, us, ls, hd3', hK3', kl3, T3.eq (fun z => ?_) (fun z hz => hz), hL3', hU3, by omega, hgo2⟩
          show c z - (if z ∈ qs then 1 else 0) = c z - if z ∈ allQ r r.length then 1 else 0
          by_cases m : z ∈ qs
          · rw [if_pos m, if_pos (hpm.mem_iff.mp m)]
          · rw [if_neg m, if_neg fun h => m (hpm.mem_iff.mpr h)]
      | false =>
        refine iteF ?_
        have hgo2 : pruneGo (fun q => (cntO rs q : Int)) rs.reverse = (ls ++ [r]) ++ pruneGo c (rs.reverse.drop (i + 1)) := by
          rw [hgo, ed, List.append_assoc]
          show ls ++ (if spareB c r = true then _ else _) = _
          rw [if_neg (by rw [← eb]; decide)]
          rfl
        refine ⟨_, rfl, .inl ⟨rfl, _, SqL.of hL1'⟩, _, rfl, L, us, _, rfl, rfl, hL1', small1000 (by omega), _, _, rfl, fun b' o' hb2 => ?_, by rw [upd_ne prL]; exact hpr1, TL.off hL1' (hTG.same sb), kv, c, us ++ [.ref t0], ls ++ [r], by rw [upd_ne dL]; exact hd1', (hKG.same sb).offL hL1', klG, TG, upd_same, TL.off (xs := us) hL1' ((TL.same sb hUG).snoc (sb _ _ hrt)), by rw [List.length_append]; simp; omega, hgo2⟩
        rw [upd_ne (ne_of_none hb2 L0)]
        exact sb _ _ (sG _ _ hb2)
    · rintro σ G ⟨v3, v4, rfl, sG, hprG, hTG, kv, c, us, ls, hdG, hKG, klG, TG, hLG, hUG, ul, hgo⟩
      rw [List.drop_of_length_le (by rw [List.length_reverse, List.length_reverse]; omega)] at hgo
      have hls : ls = pruneGo (fun q => (cntO rs q : Int)) rs.reverse := by
        rw [hgo]
        show ls = ls ++ []
        rw [List.append_nil]
      refine ⟨_, rfl, L, us, rfl, SqL.of hLG, fun p2 hp2 => ?_⟩
      have s4 := same_new (o := .lst us.reverse) hp2
      intro x dx' nx ndx nex
      have sub : ∀ q ∈ ls, q ∈ rs := fun q hq => by
        rw [hls] at hq
        exact List.mem_reverse.mp (pruneGo_sub.subset hq)
      refine make_shelf (rs := ls.reverse) upd_same (paired_revP (TL.same s4 hUG)) (by rw [List.length_reverse] at *; omega) (fun q hq => hR q (sub q (List.mem_reverse.mp hq))) nx ndx fun H' y s5 hS => ?_
      rw [hls] at hS
      exact k H' y (sG.trans (s4.trans s5)) hS
end
end Qk
set_option maxRecDepth 100000
set_option maxHeartbeats 4000000
namespace Qk
open PySem PySem.Spec PyProof.Rows L2
section
variable {P : Program} {w : World} {K : PySem.W.Frag} {mg : Str → Option Value} {base : Heap}
theorem cntO_app (A B : List (List Str)) (q : Qd) : cntO (A ++ B) q = cntO A q + cntO B q := by
  unfold cntO
  rw [List.filter_append, List.length_append]
theorem cntO_mid (A B : List (List Str)) (r : List Str) (q : Qd) : cntO (A ++ r :: B) q = cntO (A ++ B) q + if q ∈ allQ r r.length then 1 else 0 := by
  have e : A ++ r :: B = (A ++ [r]) ++ B := by rw [List.append_assoc]; rfl
  rw [e, cntO_app, cntO_snoc, cntO_app]
  omega
theorem fam_cnt {rs : List (List Str)} {q : Qd} : q ∈ famQ rs ↔ 0 < cntO rs q := by
  unfold famQ cntO
  rw [List.mem_flatMap, List.length_pos_iff]
  constructor
  · rintro ⟨r, hr, hq⟩ e
    have : r ∈ rs.filter fun r => decide (q ∈ allQ r r.length) := List.mem_filter.mpr ⟨hr, decide_eq_true hq⟩
    rw [e] at this
    cases this
  · intro h
    obtain ⟨r, hr⟩ := List.exists_mem_of_ne_nil _ h
    obtain ⟨h1, h2⟩ := List.mem_filter.mp hr
    exact ⟨r, h1, of_decide_eq_true h2⟩
theorem spare_fam {A B : List (List Str)} {r : List Str} : spareB (fun q => (cntO (A ++ r :: B) q : Int)) r = true ↔ ∀ q, q ∈ famQ (A ++ B) ↔ q ∈ famQ (A ++ r :: B) := by
  unfold spareB
  rw [List.all_eq_true]
  constructor
  · intro h q
    rw [fam_cnt, fam_cnt, cntO_mid]
    by_cases m : q ∈ allQ r r.length
    · have this : 1 < (cntO (A ++ r :: B) q : Int) := of_decide_eq_true (h q m)
      rw [cntO_mid, if_pos m] at this
      rw [if_pos m]
      omega
    · rw [if_neg m]
      omega
  · intro h q m
    have := (h q).mpr (fam_cnt.mpr (by rw [cntO_mid, if_pos m]; omega))
    rw [fam_cnt] at this
    show decide (1 < (cntO (A ++ r :: B) q : Int)) = true
    rw [cntO_mid, if_pos m]
    exact decide_eq_true (by omega)
theorem less_cnt {A B : List (List Str)} {r : List Str} : lessC (fun q => (cntO (A ++ r :: B) q : Int)) r = fun q => (cntO (A ++ B) q : Int) := by
  funext q
  show (cntO (A ++ r :: B) q : Int) - (if q ∈ allQ r r.length then 1 else 0) = (cntO (A ++ B) q : Int)
  rw [cntO_mid]
  split <;> omega
theorem Dist.same_iff {qs rs zs ys : List Qd} (h1 : Dist qs zs) (h2 : Dist rs ys) : zs = ys ↔ ∀ q, q ∈ qs ↔ q ∈ rs := ⟨fun e q => by rw [← h1.mem q, ← h2.mem q, e], fun h => Dist.uniq h1 h2 h⟩
def spLO : Sp := fun vs H Q _ => ∃ (a : Addr) (ys : List V) (n : Nat), vs = [.ref a, .int (n : Int)] ∧ H a = some (.lst ys) ∧ ys.length ≤ 1000 ∧ ∀ (H' : Hp) (p : Addr), Same H H' → H p = none → H' p = some (.lst (ys.take n ++ ys.drop (n + 1))) → Q (.ref p) H'
theorem scLO : FnScope ["_law_some", "_law_at"] ["_law_some", "_law_at"] (defScope sLeftOut) := ⟨rfl, rfl, rfl, by decide +kernel, rfl, by decide +kernel, by decide +kernel⟩
theorem cut_behind2 (i : Nat) (xs : List V) : cutV xs (some ((i : Int) + 1)) none = xs.drop (i + 1) := by
  have e : ((i : Int) + 1) = ((i + 1 : Nat) : Int) := by omega
  rw [e]
  unfold cutV
  rw [HT.sIx_none, HT.sIx_nat]
  by_cases h : i + 1 ≤ xs.length
  · rw [Nat.min_eq_left h, List.take_of_length_le (by rw [List.length_drop]; omega)]
  · rw [Nat.min_eq_right (by omega), List.drop_of_length_le (Nat.le_refl _), List.drop_of_length_le (by omega), List.take_nil]
theorem ok_lo {f : Addr} {fd : FuncData} (F : Fun K "_law_left_out" "_law_left_out" sLeftOut f fd) (T : Txt K mg) : FnOk P w K mg base CX0 1 f fd ["_law_some", "_law_at"] spLO := by
  refine F.ok scLO (fun vs H Q E h => ?_) (fun cdv A outer s H vs Q E hr h => ?_)
  · obtain ⟨a, ys, n, rfl, _⟩ := h
    rfl
  · obtain ⟨a, ys, n, rfl, ha, hl, k⟩ := h
    refine ⟨_, pss_one (ps_ret (pe_op op_cat (pe_slice sl_list (pv 0) po_none (po_some (pv 1))) (pe_slice sl_list (pv 0) (po_some (pe_op op_add (pv 1) pe_int)) po_none))), ?_⟩
    refine ⟨_, rfl, _, rfl, _, rfl, a, ys, rfl, SqL.of ha, fun p1 hp1 => ?_⟩
    have n1 := same_new (o := .lst (cutV ys none (some (n : Int)))) hp1
    refine ⟨_, rfl, _, rfl, _, _, rfl, rfl, _, rfl, a, ys, rfl, SqL.of (n1 _ _ ha), fun p2 hp2 => ?_⟩
    have n2 := same_new (o := .lst (cutV ys (some ((n : Int) + 1)) none)) hp2
    refine ⟨p1, p2, ys.take n, ys.drop (n + 1), rfl, rfl, n2 _ _ (by rw [upd_same, cut_to]), by rw [upd_same, cut_behind2], by rw [sizeLine_eq, List.length_take, List.length_drop]; omega, fun p3 hp3 => ?_⟩
    have n3 := same_new (o := .lst (ys.take n ++ ys.drop (n + 1))) hp3
    have sA := n1.trans (n2.trans n3)
    exact k _ p3 sA (by
      cases e : H p3 with
      | none => rfl
      | some o =>
        rw [n2 _ _ (n1 _ _ e)] at hp3
        cases hp3) upd_same
end
end Qk
set_option maxRecDepth 100000
set_option maxHeartbeats 4000000
namespace Qk
open PySem PySem.Spec PyProof.Rows L2
section
variable {P : Program} {w : World} {K : PySem.W.Frag} {mg : Str → Option Value} {base : Heap}
theorem paired_takeL {α β : Type} {F : α → β → Prop} : ∀ {xs : List α} {ys : List β} (n : Nat), Paired F xs ys → Paired F (xs.take n) (ys.take n)
  | _, _, 0, _ => by rw [List.take_zero, List.take_zero]; exact .nil
  | _, _, n + 1, .nil => .nil
  | _, _, n + 1, .cons r t => by rw [List.take_succ_cons, List.take_succ_cons]; exact .cons r (paired_takeL n t)
theorem paired_dropL {α β : Type} {F : α → β → Prop} : ∀ {xs : List α} {ys : List β} (n : Nat), Paired F xs ys → Paired F (xs.drop n) (ys.drop n)
  | _, _, 0, h => h
  | _, _, n + 1, .nil => .nil
  | _, _, n + 1, .cons r t => by rw [List.drop_succ_cons, List.drop_succ_cons]; exact paired_dropL n t
theorem Dist.le {qs zs : List Qd} (D : Dist qs zs) : zs.length ≤ qs.length := nodup_leQ _ _ D.nd fun z hz => (D.mem z).mp hz
theorem TL.leftOut {H : Hp} {ys : List V} {rs : List (List Str)} (h : TL H ys rs) (n : Nat) : TL H (ys.take n ++ ys.drop (n + 1)) (rs.take n ++ rs.drop (n + 1)) := paired_app (paired_takeL n h) (paired_dropL (n + 1) h)
def spLPr : Sp := fun vs H Q _ => ∃ (a : Addr) (ys : List V) (rs : List (List Str)), vs = [.ref a] ∧ H a = some (.lst ys) ∧ TL H ys rs ∧ (∀ r ∈ rs, Row r) ∧ rs.length ≤ 12 ∧ ∀ (H' : Hp) (p : Addr) (zs : List V), Same H H' → H' p = some (.lst zs) → TL H' zs (prunedR rs) → Q (.ref p) H'
abbrev nLP : List Str := ["_law_some", "_law_found", "_law_at"]
theorem scLP : FnScope nLP ["_law_some"] (defScope sLPruned) := ⟨rfl, rfl, rfl, by decide +kernel, rfl, by decide +kernel, by decide +kernel⟩
theorem ok_lpr {f : Addr} {fd : FuncData} (F : Fun K "_law_pruned" "_law_pruned" sLPruned f fd) (T : Txt K mg)
    (cF : Cal P w K mg base 2 "_law_family" ["_law_indexes_here"] spFamily) (cL : Cal P w K mg base 1 "_law_left_out" ["_law_some", "_law_at"] spLO) : FnOk P w K mg base CX0 3 f fd ["_law_some"] spLPr := by
  refine F.ok scLP (fun vs H Q E h => ?_) (fun cdv A outer s H vs Q E hr h => ?_)
  · obtain ⟨a, ys, rs, rfl, _⟩ := h
    rfl
  · obtain ⟨a, ys, rs, rfl, ha, hT, hR, h12, k⟩ := h
    have nd := scLP.nd
    have hr2 : Room 2 _ := hr.mono (by decide)
    have hr1 : Room 1 _ := hr.mono (by decide)
    have yl := hT.len
    refine ⟨_, pss_cons (ps_set (i := 1) nd rfl (by first | exact Or.inl rfl | exact Or.inr rfl) (pe_callTy call_list_of (by rfl) T.list (by decide +kernel) (pa_cons (pv 0) pa_nil)))
      (pss_cons (ps_for PassesOwn.never rfl (pi_list (pe_revL (pe_listRg rfl (by rfl) T.list (prg_1 (by rfl) T.range (pe_callB call_len_seq (by rfl) T.len PySem.boot_len (pa_cons (pv 0) pa_nil)))))) (pg_name (i := 2) nd rfl (by first | exact Or.inl rfl | exact Or.inr rfl))
        (pss_one (ps_if (pt_cmpR (r := rEqD K) (op_eqD hr1.units) (pe_call cF.G hr2 rfl cF.m cF.kp cF.b .nil pass0 (pa_cons (pe_call cL.G hr1 rfl cL.m cL.kp cL.b .nil pass0 (pa_cons (pv 1) (pa_cons (pv 2) pa_nil))) pa_nil)) (pe_call cF.G hr2 rfl cF.m cF.kp cF.b .nil pass0 (pa_cons (pv 1) pa_nil)) (nomark _))
          (pss_one (ps_set (i := 1) nd rfl (by first | exact Or.inl rfl | exact Or.inr rfl) (pe_call cL.G hr1 rfl cL.m cL.kp cL.b .nil pass0 (pa_cons (pv 1) (pa_cons (pv 2) pa_nil))))) pss_nil)))
      (pss_one (ps_ret (pv 1)))), ?_⟩
    refine ⟨_, rfl, a, ys, rfl, .inl (SqL.of ha), fun p0 hp0 => ?_⟩
    have s0 := same_new (o := .lst ys) hp0
    have hp00 : (upd H p0 (.lst ys)) p0 = some (.lst ys) := upd_same
    refine ⟨_, rfl, a, ys, rfl, .inl (SqL.of (s0 _ _ ha)), _, rfl, RgOk.of_le (by decide) (by omega) (by decide) (by omega), fun q hq => ?_⟩
    have s1 := same_new (o := .lst (rgV 0 (ys.length : Int))) hq
    refine ⟨q, _, rfl, SqL.of upd_same, fun pr hpr => ?_⟩
    have s2 := same_new (o := .lst (rgV 0 (ys.length : Int)).reverse) hpr
    have s012 := s0.trans (s1.trans s2)
    have hpr2 : (upd (upd (upd H p0 (.lst ys)) q (.lst (rgV 0 (ys.length : Int)))) pr (.lst (rgV 0 (ys.length : Int)).reverse)) pr = some (.lst (rgV 0 (ys.length : Int)).reverse) := upd_same
    have hp02 := s2 _ _ (s1 _ _ hp00)
    have hT2 : TL _ ys rs := TL.same s012 hT
    generalize upd (upd (upd H p0 (.lst ys)) q (.lst (rgV 0 (ys.length : Int)))) pr (.lst (rgV 0 (ys.length : Int)).reverse) = H2 at s012 hpr2 hp02 hT2 ⊢
    refine ⟨pr, rfl, ⟨_, SqL.of hpr2⟩, ?_⟩
    have hlen : (rgV 0 (ys.length : Int)).reverse.length = ys.length := by rw [List.length_reverse, rgV_length]; omega
    refine for_list (K := K) (a := pr) (xs := (rgV 0 (ys.length : Int)).reverse) (fun j σ G => ∃ (pf : Addr) (v2 : Option V) (us : List V) (ls : List (List Str)), σ = [some (.ref a), some (.ref pf), v2] ∧ Same H2 G ∧ G pf = some (.lst us) ∧ TL G us (rs.take (rs.length - j) ++ ls.reverse) ∧ (∀ r ∈ ls, r ∈ rs) ∧ ls.length ≤ j ∧
        pruneGo (fun q => (cntO rs q : Int)) rs.reverse = ls ++ pruneGo (fun q => (cntO (rs.take (rs.length - j) ++ ls.reverse) q : Int)) (rs.reverse.drop j))
      ⟨p0, _, ys, [], rfl, Same.refl _, hp02, by simpa using hT2, (fun r hr => nomatch hr), Nat.le_refl _, by simp⟩ (fun j σ G _ ⟨_, _, _, _, _, s, _⟩ => SqL.of (s _ _ hpr2)) ?_ ?_
    · rintro j x σ G hxj ⟨pf, v2, us, ls, rfl, sG, hpf, hU, lsub, ll, hgo⟩
      have jl : j < rs.length := by
        have := (List.getElem?_eq_some_iff.mp hxj).1
        omega
      obtain ⟨m, hm⟩ : ∃ m : Nat, rs.length = m + 1 + j := ⟨rs.length - 1 - j, by omega⟩
      have ml : m < rs.length := by omega
      obtain ⟨r, hr⟩ : ∃ r, rs[m]? = some r := ⟨rs[m], List.getElem?_eq_getElem ml⟩
      have hx : x = .int (m : Int) := by
        have e1 : (rgV 0 (ys.length : Int)).reverse[j]? = (rgV 0 (ys.length : Int))[m]? := by
          rw [List.getElem?_reverse (by rw [rgV_length]; omega), rgV_length]
          congr 1
          omega
        rw [e1] at hxj
        unfold rgV at hxj
        rw [List.getElem?_map, List.getElem?_range (by omega)] at hxj
        injection hxj with hxj
        rw [← hxj]
        show V.int (0 + (m : Int)) = _
        rw [Int.zero_add]
      subst hx
      have et : rs.take (rs.length - j) = rs.take m ++ [r] := by
        rw [show rs.length - j = m + 1 by omega, List.take_add_one, hr]
        rfl
      have ed : rs.reverse.drop j = r :: rs.reverse.drop (j + 1) := by
        have hlt : j < rs.reverse.length := by rw [List.length_reverse]; exact jl
        rw [List.drop_eq_getElem_cons hlt]
        congr 1
        have h2 : rs.reverse[j]? = some r := by
          rw [List.getElem?_reverse jl, show rs.length - 1 - j = m by omega, hr]
        rw [List.getElem?_eq_getElem hlt] at h2
        injection h2
      have et2 : rs.take (rs.length - (j + 1)) = rs.take m := by rw [show rs.length - (j + 1) = m by omega]
      have ef : rs.take (rs.length - j) ++ ls.reverse = rs.take m ++ r :: ls.reverse := by rw [et, List.append_assoc]; rfl
      rw [ef] at hU hgo
      have rm := List.mem_of_getElem? hr
      have ulen := hU.len
      have tl : (rs.take m).length = m := by rw [List.length_take]; omega
      have flen : (rs.take m ++ r :: ls.reverse).length = m + 1 + ls.length := by rw [List.length_append, List.length_cons, List.length_reverse, tl]; omega
      have hRf : ∀ z ∈ rs.take m ++ r :: ls.reverse, Row z := fun z hz => by
        rcases List.mem_append.mp hz with h | h
        · exact hR z (List.mem_of_mem_take h)
        rcases List.mem_cons.mp h with rfl | h
        · exact hR z rm
        · exact hR z (lsub z (List.mem_reverse.mp h))
      have elo : (rs.take m ++ r :: ls.reverse).take m ++ (rs.take m ++ r :: ls.reverse).drop (m + 1) = rs.take m ++ ls.reverse := by
        rw [List.take_left' tl, List.drop_append, tl, List.drop_of_length_le (by omega), show m + 1 - m = 1 by omega]
        rfl
      have hRl : ∀ z ∈ rs.take m ++ ls.reverse, Row z := fun z hz => by
        rcases List.mem_append.mp hz with h | h
        · exact hRf z (List.mem_append_left _ h)
        · exact hRf z (List.mem_append_right _ (List.mem_cons_of_mem _ h))
      have llen : (rs.take m ++ ls.reverse).length = m + ls.length := by rw [List.length_append, List.length_reverse, tl]
      refine ⟨_, rfl, _, rfl, pf, us, m, rfl, hpf, by omega, fun H3 p3 s3 hp3n hp3 => ⟨p3, _, _, rfl, hp3, by rw [← elo]; exact (TL.same s3 hU).leftOut m, hRl, by omega, fun H4 p4 y4 z4 s4 hp4 q4 D4 => ?_⟩⟩
      have s34 := s3.trans s4
      refine ⟨_, rfl, pf, us, _, rfl, s34 _ _ hpf, TL.same s34 hU, hRf, by omega, fun H5 p5 y5 z5 s5 hp5 q5 D5 => ?_⟩
      have fz : ∀ {A : List (List Str)} {z : List Qd}, (∀ r ∈ A, Row r) → A.length ≤ 12 → Dist (famQ A) z → (∀ q ∈ z, Qfine q) ∧ z.length ≤ 300 := fun {A z} hA hl D => by
        refine ⟨fun q hq => (famQ_qz hA q ((D.mem q).mp hq)).fine, ?_⟩
        have h1 := D.le
        have h2 := famQ_len hA
        omega
      obtain ⟨f4, l4⟩ := fz hRl (by omega) D4
      obtain ⟨f5, l5⟩ := fz hRf (by omega) D5
      refine ⟨.list (z4.map dq), .list (z5.map dq), .lst (SqL.of (s5 _ _ hp4)) (q4.same s5).dp, .lst (SqL.of hp5) q5.dp, (dok_qs3 f4 l4).shaped, (dok_qs3 f5 l5).shaped, _, rfl, ?_⟩
      rw [eqv_qs]
      have hiff : z4 = z5 ↔ spareB (fun q => (cntO (rs.take m ++ r :: ls.reverse) q : Int)) r = true := (Dist.same_iff D4 D5).trans spare_fam.symm
      have s35 := s34.trans s5
      cases hb : decide (z4 = z5) with
      | true =>
        refine iteT ?_
        have sp := hiff.mp (of_decide_eq_true hb)
        refine ⟨_, rfl, _, rfl, pf, us, m, rfl, s35 _ _ hpf, by omega, fun H6 p6 s6 hp6n hp6 => ?_⟩
        refine ⟨p6, _, _, ls, rfl, sG.trans (s35.trans s6), hp6, ?_, lsub, by omega, ?_⟩
        · rw [et2, ← elo]
          exact (TL.same (s35.trans s6) hU).leftOut m
        · rw [hgo, ed, et2]
          show ls ++ (if spareB _ r = true then pruneGo (lessC _ r) _ else _) = _
          rw [if_pos sp, less_cnt]
      | false =>
        refine iteF ?_
        have sp : ¬ spareB (fun q => (cntO (rs.take m ++ r :: ls.reverse) q : Int)) r = true := fun h => of_decide_eq_false hb (hiff.mpr h)
        have ef2 : rs.take (rs.length - (j + 1)) ++ (ls ++ [r]).reverse = rs.take m ++ r :: ls.reverse := by
          rw [et2, List.reverse_append]
          rfl
        refine ⟨pf, _, us, ls ++ [r], rfl, sG.trans s35, s35 _ _ hpf, by rw [ef2]; exact TL.same s35 hU, fun z hz => ?_, by rw [List.length_append]; simp; omega, ?_⟩
        · rcases List.mem_append.mp hz with h | h
          · exact lsub z h
          · rw [List.mem_singleton.mp h]
            exact rm
        · rw [hgo, ed, ef2, List.append_assoc]
          show ls ++ (if spareB _ r = true then _ else _) = _
          rw [if_neg sp]
          rfl
    · rintro σ G ⟨pf, v2, us, ls, rfl, sG, hpf, hU, lsub, ll, hgo⟩
      rw [hlen, yl, List.drop_of_length_le (by rw [List.length_reverse]; exact Nat.le_refl _)] at hgo
      have e : prunedR rs = ls.reverse := by
        unfold prunedR
        rw [hgo]
        show (ls ++ []).reverse = _
        rw [List.append_nil]
      rw [hlen, yl, Nat.sub_self, List.take_zero, List.nil_append, ← e] at hU
      exact ⟨_, rfl, k G pf us (s012.trans sG) hpf hU⟩
end
end Qk
set_option maxRecDepth 100000
set_option maxHeartbeats 4000000
namespace Qk
open PySem PySem.Spec PyProof.Rows L2
section
variable {P : Program} {w : World} {K : PySem.W.Frag} {mg : Str → Option Value} {base : Heap}
def spCrossed : Sp := fun vs H Q _ => ∃ (b l nm : Addr) (xs : List Str), vs = [.ref b, .ref nm] ∧ Bag H b l ∧ nm ≠ b ∧ H nm = some (.lst (xs.map V.str)) ∧ Row xs ∧
  ∀ (H' : Hp) (p p1 p2 : Addr) (y1 y2 : List V) (r1 r2 : List (List Str)), H' p = some (.lst [.ref p1, .ref p2]) → H' p1 = some (.lst y1) → H' p2 = some (.lst y2) → TL H' y1 r1 → TL H' y2 r2 → (∀ r ∈ r1 ++ r2, Row r) → r1.length = 2 → r2.length = 2 → Bag H' b l → Kp b H H' → Q (.ref p) H'
abbrev nCr : List Str := ["_law_bag_here", "_law_names_here", "_law_row", "_law_size", "_law_other"]
theorem scCr : FnScope nCr ["_law_bag_here", "_law_names_here"] (defScope sCrossed) := ⟨rfl, rfl, rfl, by decide +kernel, rfl, by decide +kernel, by decide +kernel⟩
theorem Row.perm {xs ys : List Str} (R : Row xs) (h : ys.Perm xs) : Row ys := ⟨h.nodup_iff.mpr R.nd, fun c hc => R.sub c (h.mem_iff.mp hc), by rw [h.length_eq]; exact R.pos, by rw [h.length_eq]; exact R.le⟩
theorem Row.take34 {xs : List Str} (R : Row xs) {n : Nat} (h : 0 < n) : Row (xs.take n) := ⟨R.nd.sublist (List.take_sublist _ _), fun c hc => R.sub c (List.mem_of_mem_take hc), by rw [List.length_take]; have := R.pos; omega, by rw [List.length_take]; have := R.le; omega⟩
theorem ok_crossed {f : Addr} {fd : FuncData} (F : Fun K "_law_crossed" "_law_crossed" sCrossed f fd) (T : Txt K mg)
    (cT : Cal P w K mg base 1 "_law_take" ["_law_bag_here", "_law_many"] spTake)
    (cM : Cal P w K mg base 2 "_law_mixed" ["_law_bag_here", "_law_things"] spMixed) : FnOk P w K mg base CX0 3 f fd ["_law_bag_here", "_law_names_here"] spCrossed := by
  refine F.ok scCr (fun vs H Q E h => ?_) (fun cdv A outer s H vs Q E hr h => ?_)
  · obtain ⟨b, l, nm, xs, rfl, _⟩ := h
    rfl
  · obtain ⟨b, l, nm, xs, rfl, B, nmb, hn, R, k⟩ := h
    have nd := scCr.nd
    have hr2 : Room 2 _ := hr
    have hr1 : Room 1 _ := hr.mono (by decide)
    have Rle := R.le
    have Rpos := R.pos
    refine ⟨_, (pss_cons (ps_set (i := 2) nd rfl (by first | exact Or.inl rfl | exact Or.inr rfl) (pe_call cM.G hr2 rfl cM.m cM.kp cM.b .nil pass0 (pa_cons (pv 0) (pa_cons (pv 1) pa_nil))))
      (pss_cons (ps_set (i := 3) nd rfl (by first | exact Or.inl rfl | exact Or.inr rfl) (pe_op op_add pe_int (pe_call cT.G hr1 rfl cT.m cT.kp cT.b .nil pass0 (pa_cons (pv 0) (pa_cons (pe_callB call_len_seq (by rfl) T.len PySem.boot_len (pa_cons (pv 2) pa_nil)) pa_nil)))))
      (pss_cons (ps_set (i := 4) nd rfl (by first | exact Or.inl rfl | exact Or.inr rfl) (pe_call cM.G hr2 rfl cM.m cM.kp cM.b .nil pass0 (pa_cons (pv 0) (pa_cons (pe_slice sl_list (pv 2) po_none (po_some (pv 3))) pa_nil))))
      (pss_one (ps_ret (pe_lst (pa_cons (pe_lst (pa_cons (pe_callTy call_tuple_of (by rfl) T.tuple (by decide +kernel) (pa_cons (pv 2) pa_nil)) (pa_cons (pe_callTy call_tuple_of (by rfl) T.tuple (by decide +kernel) (pa_cons (pv 4) pa_nil)) pa_nil))) (pa_cons (pe_lst (pa_cons (pe_callTy call_tuple_of (by rfl) T.tuple (by decide +kernel) (pa_cons (pe_slice sl_list (pv 2) po_none (po_some (pv 3))) pa_nil)) (pa_cons (pe_callTy call_tuple_of (by rfl) T.tuple (by decide +kernel) (pa_cons (pe_op op_cat (pv 4) (pe_slice sl_list (pv 2) (po_some (pv 3)) po_none)) pa_nil)) pa_nil))) pa_nil)))))))), ?_⟩
    refine ⟨_, rfl, _, rfl, b, l, nm, _, rfl, B, nmb, hn, by rw [List.length_map]; omega, fun ys p2 H2 hpm hn2 h2b h2 B2 k2 => ?_⟩
    obtain ⟨zs, rfl, hzs⟩ := perm_strs hpm
    have Rz := R.perm hzs
    have zl := Rz.le
    have zpos := Rz.pos
    refine ⟨_, rfl, _, rfl, p2, _, rfl, .inl (SqL.of h2), b, l, (zs.map V.str).length, rfl, B2, by rw [List.length_map]; omega, by rw [List.length_map]; omega, fun j H3 hj B3 k3 => ⟨_, _, rfl, rfl, ?_⟩⟩
    have h23 := k3 _ _ h2 h2b
    rw [List.length_map] at hj
    have e1 : (1 + (j : Int)) = ((j + 1 : Nat) : Int) := by omega
    have ec : cutV (zs.map V.str) none (some (1 + (j : Int))) = (zs.take (j + 1)).map V.str := by rw [e1, cut_to, List.map_take]
    have ec2 : cutV (zs.map V.str) (some (1 + (j : Int))) none = (zs.drop (j + 1)).map V.str := by
      rw [show (1 + (j : Int)) = (j : Int) + 1 by omega, cut_behind2, List.map_drop]
    refine ⟨_, rfl, _, rfl, _, rfl, _, rfl, p2, _, rfl, SqL.of h23, fun p4 hp4 => ?_⟩
    have n4 := same_new (o := .lst (cutV (zs.map V.str) none (some (1 + (j : Int))))) hp4
    refine ⟨b, l, p4, (zs.take (j + 1)).map V.str, rfl, B3.same n4, B3.ne hp4, by rw [← ec]; exact upd_same, by rw [List.length_map, List.length_take]; omega, fun ws0 p5 H5 hpm5 hn5 h5b h5 B5 k5 => ?_⟩
    obtain ⟨ws, rfl, hws⟩ := perm_strs hpm5
    have Rt := Rz.take34 (n := j + 1) (by omega)
    have Rw := Rt.perm hws
    have k35 := (Kp.of (b := b) n4).trans k5
    have h25 := k35 _ _ h23 h2b
    have Rmix : Row (ws ++ zs.drop (j + 1)) := Rz.perm (by
      have := hws.append_right (zs.drop (j + 1))
      rw [List.take_append_drop] at this
      exact this)
    have kH5 := (k2.trans k3).trans k35
    -- the four
    refine ⟨_, rfl, p2, _, rfl, .inl ⟨SqL.of h25, fun t1 ht1 => ?_⟩⟩
    have m1 := same_new (o := .tup (zs.map V.str)) ht1
    refine ⟨_, rfl, p5, _, rfl, .inl ⟨SqL.of (m1 _ _ h5), fun t2 ht2 => ?_⟩⟩
    have m2 := same_new (o := .tup (ws.map V.str)) ht2
    refine ⟨by show 2 ≤ sizeLine; decide, fun q1 hq1 => ?_⟩
    have m3 := same_new (o := .lst [V.ref t1, .ref t2]) hq1
    have m123 := m1.trans (m2.trans m3)
    refine ⟨_, rfl, _, rfl, _, rfl, p2, _, rfl, SqL.of (m123 _ _ h25), fun p6 hp6 => ?_⟩
    have m4 := same_new (o := .lst (cutV (zs.map V.str) none (some (1 + (j : Int))))) hp6
    refine ⟨p6, _, rfl, .inl ⟨SqL.of upd_same, fun t3 ht3 => ?_⟩⟩
    have m5 := same_new (o := .tup (cutV (zs.map V.str) none (some (1 + (j : Int))))) ht3
    have m45 := m4.trans m5
    refine ⟨_, rfl, _, rfl, _, rfl, _, rfl, p2, _, rfl, SqL.of ((m123.trans m45) _ _ h25), fun p7 hp7 => ?_⟩
    have m6 := same_new (o := .lst (cutV (zs.map V.str) (some (1 + (j : Int))) none)) hp7
    have m16 := (m123.trans m45).trans m6
    refine ⟨p5, p7, ws.map V.str, (zs.drop (j + 1)).map V.str, rfl, rfl, m16 _ _ h5, by rw [← ec2]; exact upd_same, by rw [sizeLine_eq, List.length_map, List.length_map, List.length_drop]; have := Rw.le; omega, fun p8 hp8 => ?_⟩
    have m7 := same_new (o := .lst (ws.map V.str ++ (zs.drop (j + 1)).map V.str)) hp8
    refine ⟨p8, _, rfl, .inl ⟨SqL.of upd_same, fun t4 ht4 => ?_⟩⟩
    have m8 := same_new (o := .tup (ws.map V.str ++ (zs.drop (j + 1)).map V.str)) ht4
    refine ⟨by show 2 ≤ sizeLine; decide, fun q2 hq2 => ?_⟩
    have m9 := same_new (o := .lst [V.ref t3, .ref t4]) hq2
    refine ⟨by show 2 ≤ sizeLine; decide, fun q3 hq3 => ?_⟩
    have m10 := same_new (o := .lst [V.ref q1, .ref q2]) hq3
    have m69 := m6.trans (m7.trans (m8.trans (m9.trans m10)))
    have mA := (m123.trans m45).trans m69
    have BA := B5.same mA
    refine k _ q3 q1 q2 [.ref t1, .ref t2] [.ref t3, .ref t4] [zs, ws] [zs.take (j + 1), ws ++ zs.drop (j + 1)] upd_same ?_ ?_ ?_ ?_ ?_ rfl rfl BA (kH5.trans (Kp.of mA))
    · exact (m45.trans m69) _ _ upd_same
    · exact m10 _ _ upd_same
    · exact .cons ⟨t1, rfl, ((m2.trans m3).trans (m45.trans m69)) _ _ upd_same⟩ (.cons ⟨t2, rfl, (m3.trans (m45.trans m69)) _ _ upd_same⟩ .nil)
    · exact .cons ⟨t3, rfl, m69 _ _ (by rw [← ec]; exact upd_same)⟩ (.cons ⟨t4, rfl, (m9.trans m10) _ _ (by rw [List.map_append]; exact upd_same)⟩ .nil)
    · intro r hr
      rcases List.mem_append.mp hr with h | h
      · rcases List.mem_cons.mp h with rfl | h
        · exact Rz
        · rw [List.mem_singleton.mp h]
          exact Rw
      · rcases List.mem_cons.mp h with rfl | h
        · exact Rt
        · rw [List.mem_singleton.mp h]
          exact Rmix
end
end Qk
set_option maxRecDepth 100000
set_option maxHeartbeats 4000000
namespace Qk
open PySem PySem.Spec PyProof.Rows L2
section
variable {X : Cx}
/-- xs != [], whatever xs holds -/
def rNeNil (K : PySem.W.Frag) : R2 := fun x y H Q => ∃ (a b : Addr) (xs : List V), x = .ref a ∧ y = .ref b ∧ SqL K H a xs ∧ SqL K H b [] ∧ Q (.bl (!decide (xs = []))) H
theorem op_neNil (hu : X.A.units + 64 < cLine) : OpR X (compareOp .NotEq) (rNeNil X.K) := by
  intro pins s σ H x y v u Q I rx ry h
  obtain ⟨a, b, xs, rfl, rfl, ha, hb, q⟩ := h
  cases rx
  cases ry
  by_cases hx : xs = []
  · subst hx
    exact op_neD hu pins s σ H (.ref a) (.ref b) (.ref a) (.ref b) Q I rfl rfl ⟨.list [], .list [], .lst ha .nil, .lst hb .nil, rfl, rfl, q⟩
  · obtain ⟨its, rv, pl, _⟩ := I.list ha
    obtain ⟨jts, rv2, pl2, _⟩ := I.list hb
    have l1 : its.length = xs.length := rv.length.symm
    have l2 : jts.length = 0 := rv2.length.symm
    have ne : xs.length ≠ 0 := fun e => hx (List.eq_nil_of_length_eq_zero e)
    rw [decide_eq_false hx] at q
    refine PySem.SeqAt.RcNeAt.lists_lengths pl.isList pl2.isList (by simp [l1, l2, ne]) (by omega) X.prog X.w X.xe _ ⟨.bl true, H, I, rfl, q⟩
end
end Qk
set_option maxRecDepth 100000
set_option maxHeartbeats 4000000
namespace Qk
open PySem PySem.Spec PyProof.Rows L2
/-- a flat value: a text is of signs as they are written, where it is short -/
def Flat (H : Hp) (A : Addr → Prop) (x : V) : Prop := x = .non ∨ (∃ b, x = .bl b) ∨ (∃ i, x = .int i) ∨ (∃ z : Str, x = .str z ∧ z.cps.size ≤ 10000 ∧ (z.cps.size ≤ 8 → PyData.strOk z = true)) ∨ ∃ a kvs, x = .ref a ∧ ¬ A a ∧ H a = some (.dK kvs)
/-- a value whose lists and tuples lie at most n deep, none of them at an address of A -/
def VA (mx : Nat) (H : Hp) (A : Addr → Prop) : Nat → V → Prop
  | 0, x => Flat H A x
  | n + 1, x => Flat H A x ∨ ∃ a xs, x = .ref a ∧ ¬ A a ∧ (H a = some (.lst xs) ∨ H a = some (.tup xs)) ∧ xs.length ≤ mx ∧ ∀ y ∈ xs, VA mx H A n y
section
variable {mx : Nat} {H H' : Hp} {A A' : Addr → Prop}
theorem Flat.keep {x : V} (k : ∀ c o, H c = some o → ¬ A c → H' c = some o ∧ ¬ A' c) (h : Flat H A x) : Flat H' A' x := by
  rcases h with h | h | h | h | ⟨a, kvs, e, na, ha⟩
  · exact .inl h
  · exact .inr (.inl h)
  · exact .inr (.inr (.inl h))
  · exact .inr (.inr (.inr (.inl h)))
  · exact .inr (.inr (.inr (.inr ⟨a, kvs, e, (k _ _ ha na).2, (k _ _ ha na).1⟩)))
theorem VA.keep : ∀ {n : Nat} {x : V}, (∀ c o, H c = some o → ¬ A c → H' c = some o ∧ ¬ A' c) → VA mx H A n x → VA mx H' A' n x
  | 0, x, k, h => Flat.keep k h
  | n + 1, x, k, h => by
    rcases h with h | ⟨a, xs, e, na, ha, hl, hx⟩
    · exact .inl (Flat.keep k h)
    · refine .inr ⟨a, xs, e, ?_, ?_, hl, fun y hy => VA.keep k (hx y hy)⟩
      · rcases ha with ha | ha
        · exact (k _ _ ha na).2
        · exact (k _ _ ha na).2
      · rcases ha with ha | ha
        · exact .inl (k _ _ ha na).1
        · exact .inr (k _ _ ha na).1
theorem VA.same {n : Nat} {x : V} (s : Same H H') (h : VA mx H A n x) : VA mx H' A n x := VA.keep (fun c o e na => ⟨s c o e, na⟩) h
theorem VA.up : ∀ {n : Nat} {x : V}, VA mx H A n x → VA mx H A (n + 1) x
  | 0, _, h => .inl h
  | n + 1, _, h => by
    rcases h with h | ⟨a, xs, e, na, ha, hl, hx⟩
    · exact .inl h
    · exact .inr ⟨a, xs, e, na, ha, hl, fun y hy => VA.up (hx y hy)⟩
theorem VA.le {n m : Nat} (h : n ≤ m) {x : V} (v : VA mx H A n x) : VA mx H A m x := by
  obtain ⟨k, rfl⟩ := Nat.le.dest h
  clear h
  induction k with
  | zero => exact v
  | succ k ih => exact ih.up
end
/-- new values: all that they are made of is newer than H0 -/
def old (H0 : Hp) : Addr → Prop := fun c => ∃ o, H0 c = some o
theorem VA.fresh {mx n : Nat} {H : Hp} {A : Addr → Prop} {x : V} {p : Addr} {o : HO} (hp : H p = none) (h : VA mx H A n x) : VA mx (upd H p o) (fun c => A c ∨ c = p) n x :=
  VA.keep (fun c u e na => ⟨by rw [upd_ne (ne_of_none e hp)]; exact e, fun ha => ha.elim na fun ec => ne_of_none e hp ec⟩) h
section
variable {X : Cx} {mx : Nat}
theorem PE.imp {e : Expr} {t t' : TE} (h : PE X e t) (hi : ∀ σ H Q, t' σ H Q → t σ H Q) : PE X e t' := ⟨fun pins s σ H Q I q => h.run pins s σ H Q I (hi σ H Q q)⟩
theorem PA.imp {es : List Expr} {t t' : TA} (h : PA X es t) (hi : ∀ σ H Q, t' σ H Q → t σ H Q) : PA X es t' := ⟨fun pos pins s σ H Q I q => h.run pos pins s σ H Q I (hi σ H Q q)⟩
end
end Qk
set_option maxRecDepth 100000
set_option maxHeartbeats 4000000
namespace Qk
open PySem PySem.Spec PyProof.Rows L2
mutual
inductive D3 (H : Hp) : V → PyData → Prop
  | non : D3 H .non .none
  | bl (b : Bool) : D3 H (.bl b) (.bool b)
  | int (i : Int) : D3 H (.int i) (.int i)
  | str (x : Str) : D3 H (.str x) (.str x)
  | lst {a : Addr} {xs : List V} {ds : List PyData} : H a = some (.lst xs) → a ≠ sysModules → D3A H xs ds → D3 H (.ref a) (.list ds)
  | tup {a : Addr} {xs : List V} {ds : List PyData} : H a = some (.tup xs) → D3A H xs ds → D3 H (.ref a) (.tuple ds)
  | dic {a : Addr} {kvs : List (Key × V)} {D : List (PyData × PyData)} : H a = some (.dK kvs) → D2K H kvs D → D3 H (.ref a) (.dict D)
inductive D3A (H : Hp) : List V → List PyData → Prop
  | nil : D3A H [] []
  | cons {v : V} {vs : List V} {d : PyData} {ds : List PyData} : D3 H v d → D3A H vs ds → D3A H (v :: vs) (d :: ds)
end
section
variable {X : Cx} {pins : List (Addr × Obj)} {σ : L2.St} {H H' : Hp} {s : Shared}
theorem D2.dic_reads (I : Inv X pins σ H s) {a : Addr} {kvs : List (Key × V)} {D : List (PyData × PyData)} (ha : H a = some (.dK kvs)) (hk : D2K H kvs D) {u : Value} (r : RelV (.ref a) u) : ∃ as, Reads s.heap u (.dict D) as ∧ sysModules ∉ as :=
  D2.reads I (.inr ⟨a, kvs, D, rfl, ha, hk, rfl⟩) r
mutual
theorem D3.reads (I : Inv X pins σ H s) : ∀ (d : PyData) (v : V) (u : Value), D3 H v d → RelV v u → ∃ as, Reads s.heap u d as ∧ sysModules ∉ as
  | .none, _, _, h, r => by
    cases h
    cases r
    exact ⟨_, Reads.none, by simp⟩
  | .bool b, _, _, h, r => by
    cases h
    cases r
    exact ⟨_, Reads.bool b, by simp⟩
  | .int i, _, _, h, r => by
    cases h
    obtain ⟨t, rfl⟩ := r
    exact ⟨_, Reads.int i t, by simp⟩
  | .str x, _, _, h, r => by
    cases h
    obtain ⟨t, rfl⟩ := r
    exact ⟨_, Reads.str x t, by simp⟩
  | .list ds, _, _, h, r => by
    cases h with
    | lst hs hn ha =>
      cases r
      obtain ⟨its, rv, ⟨o, n, ho, hc, _, hd⟩, _⟩ := I.list (SqL.of hs)
      obtain ⟨as, hr, ns⟩ := D3.readsAll I ds _ its ha rv
      refine ⟨_, Reads.list ho hc hd hr, fun z => ?_⟩
      rcases List.mem_cons.mp z with e | e
      · exact hn e.symm
      · exact ns e
  | .tuple ds, _, _, h, r => by
    cases h with
    | tup hs ha =>
      cases r
      obtain ⟨its, rv, ⟨o, ho, hc, n, hd⟩, _⟩ := I.tuple (SqT.of hs)
      obtain ⟨as, hr, ns⟩ := D3.readsAll I ds _ its ha rv
      exact ⟨_, Reads.tuple ho hc hd hr, ns⟩
  | .dict D, _, _, h, r => by
    cases h with
    | dic ha hk => exact D2.dic_reads I ha hk r
theorem D3.readsAll (I : Inv X pins σ H s) : ∀ (ds : List PyData) (vs : List V) (us : List Value), D3A H vs ds → Vals vs us → ∃ as, ReadsAll s.heap us ds as ∧ sysModules ∉ as
  | [], _, _, h, r => by
    cases h
    cases r
    exact ⟨_, ReadsAll.nil, by simp⟩
  | d :: ds, _, _, h, r => by
    cases h with
    | cons h1 h2 =>
      cases r with
      | cons r1 r2 =>
        obtain ⟨as, q1, n1⟩ := D3.reads I d _ _ h1 r1
        obtain ⟨bs, q2, n2⟩ := D3.readsAll I ds _ _ h2 r2
        refine ⟨_, ReadsAll.cons q1 q2, fun z => ?_⟩
        rcases List.mem_append.mp z with e | e
        · exact n1 e
        · exact n2 e
end
end
end Qk
set_option maxRecDepth 100000
set_option maxHeartbeats 4000000
namespace Qk
open PySem PySem.Spec PyProof.Rows L2
mutual
def fine4 : PyData → Bool
  | .none => true
  | .bool _ => true
  | .int i => decide (i.natAbs < 10 ^ 60)
  | .str x => x.cps.toList.all (fun c => decide (c < 16 ^ 8)) && decide (x.cps.size ≤ 10000)
  | .list xs => fineAll4 xs
  | .tuple xs => fineAll4 xs
  | .dict [] => true
  | .dict [(.str x, .int i)] => decide (x = "a") && decide (i = 1)
  | .dict _ => false
def fineAll4 : List PyData → Bool
  | [] => true
  | x :: xs => fine4 x && fineAll4 xs
end
mutual
def cost4 : PyData → Nat
  | .none => 4
  | .bool _ => 5
  | .int _ => 64
  | .str x => 10 * x.cps.size + 10
  | .list xs => costAll4 xs + 3
  | .tuple xs => costAll4 xs + 3
  | .dict _ => 20
def costAll4 : List PyData → Nat
  | [] => 0
  | x :: xs => cost4 x + 2 + costAll4 xs
end
/-- the names that a law may meet -/
def menuC : List Str := "city" :: menu
/-- a flat text; if it is a column, it is one of the menu -/
def TxOk (z : Str) : Prop := (z.cps.toList.all (fun c => decide (c < 16 ^ 8)) = true) ∧ z.cps.size ≤ 10000 ∧ (z.cps.size ≤ 8 → PyData.strOk z = true) ∧ (colS z = true → z ∈ menuC)
mutual
/-- a value that shows this, nothing of it at an address of A, its lists told apart from sys.modules -/
inductive D4 (mx : Nat) (H : Hp) (A : Addr → Prop) : V → PyData → Prop
  | non : D4 mx H A .non .none
  | bl (b : Bool) : D4 mx H A (.bl b) (.bool b)
  | int (i : Int) : i.natAbs < 10 ^ 60 → D4 mx H A (.int i) (.int i)
  | str (x : Str) : TxOk x → D4 mx H A (.str x) (.str x)
  | lst {a : Addr} {xs : List V} {ds : List PyData} : H a = some (.lst xs) → ¬ A a → a ≠ sysModules → xs.length ≤ mx → D4A mx H A xs ds → D4 mx H A (.ref a) (.list ds)
  | tup {a : Addr} {xs : List V} {ds : List PyData} : H a = some (.tup xs) → ¬ A a → xs.length ≤ mx → D4A mx H A xs ds → D4 mx H A (.ref a) (.tuple ds)
  | dic0 {a : Addr} : H a = some (.dK []) → ¬ A a → D4 mx H A (.ref a) (.dict [])
  | dic1 {a : Addr} : H a = some (.dK [(Sum.inr "a", .int 1)]) → ¬ A a → D4 mx H A (.ref a) (.dict [(.str "a", .int 1)])
inductive D4A (mx : Nat) (H : Hp) (A : Addr → Prop) : List V → List PyData → Prop
  | nil : D4A mx H A [] []
  | cons {v : V} {vs : List V} {d : PyData} {ds : List PyData} : D4 mx H A v d → D4A mx H A vs ds → D4A mx H A (v :: vs) (d :: ds)
end
section
variable {mx : Nat} {H H' : Hp} {A A' : Addr → Prop}
mutual
theorem D4.keep (k : ∀ c o, H c = some o → ¬ A c → H' c = some o ∧ ¬ A' c) : ∀ (d : PyData) (x : V), D4 mx H A x d → D4 mx H' A' x d
  | .none, _, h => by cases h; exact .non
  | .bool _, _, h => by cases h; exact .bl _
  | .int _, _, h => by cases h with | int _ hi => exact .int _ hi
  | .str _, _, h => by cases h with | str _ hx => exact .str _ hx
  | .list ds, _, h => by
    cases h with
    | lst h1 h2 h3 h4 h5 => exact .lst (k _ _ h1 h2).1 (k _ _ h1 h2).2 h3 h4 (D4A.keep k ds _ h5)
  | .tuple ds, _, h => by
    cases h with
    | tup h1 h2 h4 h5 => exact .tup (k _ _ h1 h2).1 (k _ _ h1 h2).2 h4 (D4A.keep k ds _ h5)
  | .dict _, _, h => by
    cases h with
    | dic0 h1 h2 => exact .dic0 (k _ _ h1 h2).1 (k _ _ h1 h2).2
    | dic1 h1 h2 => exact .dic1 (k _ _ h1 h2).1 (k _ _ h1 h2).2
theorem D4A.keep (k : ∀ c o, H c = some o → ¬ A c → H' c = some o ∧ ¬ A' c) : ∀ (ds : List PyData) (xs : List V), D4A mx H A xs ds → D4A mx H' A' xs ds
  | [], _, h => by cases h; exact .nil
  | d :: ds, _, h => by
    cases h with
    | cons h1 h2 => exact .cons (D4.keep k d _ h1) (D4A.keep k ds _ h2)
end
mutual
theorem D4.fine : ∀ (d : PyData) (x : V), D4 mx H A x d → fine4 d = true
  | .none, _, h => by simp only [fine4]
  | .bool _, _, h => by simp only [fine4]
  | .int _, _, h => by
    cases h with
    | int i hi =>
      simp only [fine4]
      exact decide_eq_true hi
  | .str _, _, h => by
    cases h with
    | str x hx =>
      simp only [fine4, Bool.and_eq_true]
      exact ⟨hx.1, decide_eq_true hx.2.1⟩
  | .list ds, _, h => by
    cases h with
    | lst h1 h2 h3 h4 h5 =>
      simp only [fine4]
      exact D4A.fine ds _ h5
  | .tuple ds, _, h => by
    cases h with
    | tup h1 h2 h4 h5 =>
      simp only [fine4]
      exact D4A.fine ds _ h5
  | .dict _, _, h => by
    cases h with
    | dic0 h1 h2 => simp only [fine4]
    | dic1 h1 h2 =>
      simp only [fine4]
      decide +kernel
theorem D4A.fine : ∀ (ds : List PyData) (xs : List V), D4A mx H A xs ds → fineAll4 ds = true
  | [], _, h => by simp only [fineAll4]
  | d :: ds, _, h => by
    cases h with
    | cons h1 h2 =>
      simp only [fineAll4, Bool.and_eq_true]
      exact ⟨D4.fine d _ h1, D4A.fine ds _ h2⟩
end
end
/-- such a value, its text no longer than c, no deeper than n -/
def WV (mx : Nat) (H : Hp) (A : Addr → Prop) (c n : Nat) (x : V) : Prop := ∃ d, D4 mx H A x d ∧ cost4 d ≤ c ∧ d.depth ≤ n
section
variable {mx : Nat} {H H' : Hp} {A A' : Addr → Prop} {c c' n n' : Nat} {x : V}
theorem WV.keep (k : ∀ c o, H c = some o → ¬ A c → H' c = some o ∧ ¬ A' c) (h : WV mx H A c n x) : WV mx H' A' c n x := by
  obtain ⟨d, h1, h2, h3⟩ := h
  exact ⟨d, D4.keep k d x h1, h2, h3⟩
theorem WV.same (s : Same H H') (h : WV mx H A c n x) : WV mx H' A c n x := WV.keep (fun c o e na => ⟨s c o e, na⟩) h
theorem WV.le (hc : c ≤ c') (hn : n ≤ n') (h : WV mx H A c n x) : WV mx H A c' n' x := by
  obtain ⟨d, h1, h2, h3⟩ := h
  exact ⟨d, h1, Nat.le_trans h2 hc, Nat.le_trans h3 hn⟩
end
end Qk
set_option maxRecDepth 100000
set_option maxHeartbeats 4000000
namespace Qk
open PySem PySem.Spec PyProof.Rows L2
theorem D4A.len {mx : Nat} {H : Hp} {A : Addr → Prop} : ∀ {ds : List PyData} {xs : List V}, D4A mx H A xs ds → xs.length = ds.length
  | [], _, h => by cases h; rfl
  | d :: ds, _, h => by
    cases h with
    | cons h1 h2 => rw [List.length_cons, List.length_cons, D4A.len h2]
theorem D4A.all {mx : Nat} {H : Hp} {A : Addr → Prop} : ∀ {ds : List PyData} {xs : List V}, D4A mx H A xs ds → ∀ x ∈ xs, ∃ d ∈ ds, D4 mx H A x d
  | [], _, h => by cases h; intro x hx; cases hx
  | d :: ds, _, h => by
    cases h with
    | cons h1 h2 =>
      intro x hx
      rcases List.mem_cons.mp hx with rfl | hx
      · exact ⟨d, List.mem_cons_self, h1⟩
      · obtain ⟨e, he, h⟩ := D4A.all h2 x hx
        exact ⟨e, List.mem_cons_of_mem _ he, h⟩
theorem D4A.of {mx : Nat} {H : Hp} {A : Addr → Prop} {c n : Nat} : ∀ {xs : List V}, (∀ x ∈ xs, WV mx H A c n x) → ∃ ds, D4A mx H A xs ds ∧ ∀ d ∈ ds, cost4 d ≤ c ∧ d.depth ≤ n
  | [], _ => ⟨[], .nil, fun d hd => (nomatch hd)⟩
  | x :: xs, h => by
    obtain ⟨d, h1, h2, h3⟩ := h x List.mem_cons_self
    obtain ⟨ds, g1, g2⟩ := D4A.of fun y hy => h y (List.mem_cons_of_mem _ hy)
    refine ⟨d :: ds, .cons h1 g1, fun e he => ?_⟩
    rcases List.mem_cons.mp he with rfl | he
    · exact ⟨h2, h3⟩
    · exact g2 e he
end Qk
set_option maxRecDepth 100000
set_option maxHeartbeats 4000000
namespace Qk
open PySem PySem.Spec PyProof.Rows L2
theorem vals_rev {xs : List V} {us : List Value} (h : Vals xs us) : Vals xs.reverse us.reverse := by
  induction h with
  | nil => exact .nil
  | cons r _ ih =>
    rw [List.reverse_cons, List.reverse_cons]
    exact ih.append (.cons r .nil)
end Qk
set_option maxRecDepth 100000
set_option maxHeartbeats 4000000
namespace HT
open PySem PySem.Spec PyProof.Rows
variable {prog : Program} {w : World} {A : Around} {E : Value → Shared → Prop} {s : Shared}
theorem adjust_rev (n : Nat) : Builtin.Slice.sliceAdjust none none (-1) (n : Int) = ((n : Int) - 1, -1) := by
  unfold Builtin.Slice.sliceAdjust
  simp
theorem places_rev (n : Nat) : Builtin.Slice.slicePlaces ((n : Int) - 1) (-1) (-1) = n := by
  unfold Builtin.Slice.slicePlaces
  simp
  try omega
theorem fm_congr {α β : Type} {f g : α → Option β} : ∀ {l : List α}, (∀ m ∈ l, f m = g m) → l.filterMap f = l.filterMap g
  | [], _ => rfl
  | a :: l, h => by
    rw [List.filterMap_cons, List.filterMap_cons, h a List.mem_cons_self, fm_congr fun m hm => h m (List.mem_cons_of_mem _ hm)]
theorem pick_rev (xs : Array Value) : ((List.range xs.size).filterMap fun (m : Nat) => xs[(((xs.size : Int) - 1) + (m : Int) * (-1)).toNat]?).toArray = xs.toList.reverse.toArray := by
  have h := PySem.W.krv_all xs
  congr 1
  rw [← h, ← List.filterMap_reverse, ← PySem.W.krv_range, List.filterMap_map]
  refine fm_congr fun m hm => ?_
  have := List.mem_range.mp hm
  show xs[(((xs.size : Int) - 1) + (m : Int) * (-1)).toNat]? = xs[xs.size - 1 - m]?
  congr 1
  omega
theorem sliceApplied_rev {sl : Addr} {n : Nat} {t : Tok} {Q : Int × Int × Nat → Shared → Prop} (hs : s.heap.IsSliceOf sl .none .none (.int (-1) t))
    (h : Q ((n : Int) - 1, -1, n) s) : wpAny (model prog w) A (Builtin.Slice.sliceApplied (.ref sl) (pure (n : Int))) Q E s := by
  obtain ⟨os, hos, hcs, hds⟩ := id hs
  unfold Builtin.Slice.sliceApplied Builtin.Slice.sliceFields
  refine wpAny_bind (wpAny_bind (wpAny_field hos hds (x := .none) rfl (wpAny_bind (wpAny_field hos hds (x := .none) rfl (wpAny_bind (wpAny_field hos hds (x := .int (-1) t) rfl (wpAny_pure ?_)))))))
  refine wpAny_bind (slicePart_int ?_)
  show wpAny _ _ (if ((-1 : Int) == 0) = true then _ else _) _ _ s
  rw [if_neg (by decide)]
  refine wpAny_bind (slicePart_none (wpAny_bind (slicePart_none (wpAny_bind (wpAny_pure ?_)))))
  show wpAny _ _ (match Builtin.Slice.sliceAdjust none none (-1) (n : Int) with | (lo, hi) => pure (lo, (-1 : Int), Builtin.Slice.slicePlaces lo hi (-1))) _ _ s
  rw [adjust_rev n]
  show wpAny _ _ (pure (((n : Int) - 1), (-1 : Int), Builtin.Slice.slicePlaces ((n : Int) - 1) (-1) (-1))) _ _ s
  rw [places_rev]
  exact wpAny_pure h
theorem getItem_tuple_rev {t sl : Addr} {items : Array Value} {tk : Tok} {Q : Value → Shared → Prop} (ht : IsTup s.heap t items) (hs : s.heap.IsSliceOf sl .none .none (.int (-1) tk))
    (h : Q (.ref s.heap.objs.size) { s with heap := s.heap.push { cls := .type "tuple", data := .seq items.toList.reverse.toArray } })
    (hsz : items.size ≤ sizeLine) : wpAny (model prog w) A (getItem (.ref t) (.ref sl)) Q E s := by
  have htake : sizeOk (.seq items.toList.reverse.toArray) := by
    show items.toList.reverse.toArray.size ≤ sizeLine
    rw [List.size_toArray, List.length_reverse, Array.length_toList]
    exact hsz
  obtain ⟨os, hos, hcs, hds⟩ := id hs
  have hTs : s.TypeIs (.ref sl) "slice" := ⟨os, hos, hcs⟩
  unfold getItem
  try with_reducible refine wpAny_holding ?_
  first | refine wpAny_bind (wpAny_pure ?_) | skip
  refine wpAny_bind (wpAny_sequenceKey ht.typeIs (by decide) ?_)
  refine wpAny_bind (wpAny_callSpecial?_slot (name := Str.ofString "__getitem__") ht.typeIs PyProof.Rows.slot_tuple_getitem
    (wpAny_call_entry PyProof.Rows.slot_tuple_getitem ht.typeIs entry_tuple_getitem ?_ (args_tuple_getitem _ _)))
  show wpAny _ _ (Builtin.Tuple.tupleItemsOf (.ref t) >>= _) _ _ s
  refine wpAny_bind (tupleItemsOf_ ht ?_)
  refine wpAny_bind (wpAny_typeOf hTs ?_)
  rw [if_pos (by decide)]
  refine wpAny_bind (sliceApplied_rev hs ?_)
  have hno : ¬ ((((items.size : Int) - 1) == 0 && (-1 : Int) == 1 && items.size == items.size) = true) := by
    intro q
    rw [Bool.and_eq_true, Bool.and_eq_true] at q
    exact absurd q.1.2 (by decide)
  show wpAny _ _ (if ((((items.size : Int) - 1) == 0 && (-1 : Int) == 1 && items.size == items.size) = true) then _ else _) _ _ s
  rw [if_neg hno, pick_rev]
  first
    | exact wpAny_bind (m := Builtin.Tuple.tupleExact _) (wpAny_newObj_type (wpAny_pure ⟨_, rfl, wpAny_pure h⟩) htake)
    | exact wpAny_bind (m := Builtin.Tuple.tupleExact _) (wpAny_newObj_type (wpAny_bind (wpAny_pure (wpAny_pure ⟨_, rfl, wpAny_pure h⟩))) htake)
    | exact wpAny_bind (wpAny_bind (m := Builtin.Tuple.tupleExact _) (wpAny_newObj_type (wpAny_pure (wpAny_pure ⟨_, rfl, wpAny_pure h⟩)) htake))
    | exact wpAny_bind (wpAny_bind (m := Builtin.Tuple.tupleExact _) (wpAny_newObj_type (wpAny_pure ⟨_, rfl, wpAny_pure h⟩) htake))
end HT
namespace Qk
open PySem PySem.Spec PyProof.Rows L2
/-- x[::-1] of a tuple: a new one -/
def tRevT (K : PySem.W.Frag) (te : TE) : TE := fun σ H Q => te σ H fun x H1 => ∃ (a : Addr) (xs : List V), x = .ref a ∧ SqT K H1 a xs ∧ ∀ p, H1 p = none → Q (.ref p) (upd H1 p (.tup xs.reverse))
theorem pe_revT {X : Cx} {e : Expr} {te : TE} {k : Nat} {p1 p2 p3 pos : Pos} (he : PE X e te) : PE X (.Subscript e (.Slice none none (some (.UnaryOp .USub (.Constant (.int 1) k p1) p2)) p3) pos) (tRevT X.K te) := by
  refine ⟨fun pins s σ H Q I h => ?_⟩
  refine Subscript_ (thn (he.run pins s σ H _ I h) fun v s1 ⟨x, H1, I1, r1, q1⟩ => ?_)
  obtain ⟨a, xs, ex, hx, q⟩ := q1
  subst ex
  cases r1
  have hst : PO X (some (.UnaryOp .USub (.Constant (.int 1) k p1) p2)) (tPart (tUn (rU fun i => .int (-i)) (tC (.int 1)))) := po_some (pe_un un_neg pe_int)
  refine wpAny_Slice ?_
  show wpAny _ _ (pure Value.none) _ _ _
  refine wpAny_pure ?_
  show wpAny _ _ (pure Value.none) _ _ _
  refine wpAny_pure ?_
  refine thn ((pe_un (r := rU fun i => .int (-i)) un_neg pe_int).run pins s1 σ H1 (fun v H' => v = .int (-1) ∧ H' = H1) I1 ⟨1, rfl, rfl, rfl⟩) fun w s4 z => ?_
  obtain ⟨v, H4, I4, rv, rfl, rfl⟩ := z
  obtain ⟨t, rfl⟩ := rv
  have I5 : Inv X pins σ H4 { s4 with heap := s4.heap.push { cls := .type "slice", data := .fields #[.none, .none, .int (-1) t] } } := I4.kept (t' := s4.toks) fun b ob q => Heap.get?_push_of_some _ q
  obtain ⟨its, r, htp, hz⟩ := I5.tuple hx
  show wpAny (model X.prog X.w) X.A (subscriptTail e (.Slice none none (some (.UnaryOp .USub (.Constant (.int 1) k p1) p2)) p3) (.ref a) (.ref s4.heap.objs.size)) (EP X pins σ Q) X.xe { s4 with heap := s4.heap.push { cls := .type "slice", data := .fields #[.none, .none, .int (-1) t] } }
  refine tail_any (ops := [.ref a, .ref s4.heap.objs.size]) htp.typeIs (PyProof.Rows.slot_tuple_getitem.lookup) ?_ (by with_unfolding_all rfl)
  refine HT.getItem_tuple_rev htp (tk := t) ⟨_, Heap.get?_push_size _ rfl, rfl, rfl⟩ ?_ (by rw [List.size_toArray, ← r.length]; exact hz)
  exact ⟨.ref _, _, I5.laid (t' := s4.toks) (o := .tup xs.reverse) (fun b ob q => Heap.get?_push_of_some _ q) (Nat.le_refl _) ⟨by rw [List.length_reverse]; exact hz, _, vals_rev r, IsTup.new _ _⟩, rfl, q _ (I5.hok.fresh (Nat.le_refl _))⟩
end Qk
set_option maxRecDepth 100000
set_option maxHeartbeats 4000000
set_option maxRecDepth 100000
set_option maxHeartbeats 4000000
namespace Qk
open PySem PySem.Spec PyProof.Rows L2
section
variable {P : Program} {w : World} {K : PySem.W.Frag} {mg : Str → Option Value} {base : Heap}
theorem tC_of {v : V} {σ : L2.St} {H : Hp} {Q : VK} (h : Q v H) : L2.tC v σ H Q := h
theorem mkSR {H : Hp} {C d x dx : Addr} {xs : List V} {rs : List (List Str)} {R : VK} (hd : H d = some (.lst xs)) (hq : TL H xs rs) (hl : xs.length ≤ 48) (hz : ∀ r ∈ rs, Row r) (nx : H x = none) (ndx : H dx = none) (k : ∀ H', Same H H' → ShV H' C x rs → R .non H') :
    spInitS C [.ref x, .ref d] (upd (upd H dx (.own x)) x (.ins C dx [])) R E0 := by
  have sm := made_same (C := C) nx ndx
  refine ⟨x, d, dx, xs, rs, rfl, upd_same, .inl (sm _ _ hd), hq.same sm, hl, hz, fun H' l hk hI hl0 => ?_⟩
  have s : Same H H' := fun c o e => hk c o (sm _ _ e) (ne_of_none e nx)
  exact k H' s ⟨l, xs, hI, hq.same s⟩
def dN (n : Nat) : PyData := .int (n : Int)
theorem dp_ns {H : Hp} : ∀ ns : List Nat, DpAll K H (ns.map vN) (ns.map dN)
  | [] => .nil
  | n :: ns => .cons (.int _) (dp_ns ns)
theorem small60 {n : Nat} (h : n ≤ 1000) : (n : Int).natAbs < 10 ^ 60 := Nat.lt_of_le_of_lt (show (n : Int).natAbs ≤ 1000 by omega) (by decide)
theorem fine_ns : ∀ {ns : List Nat}, (∀ n ∈ ns, n ≤ 1000) → fineAll (ns.map dN) = true
  | [], _ => rfl
  | n :: ns, h => by
    show (fine (dN n) && fineAll (ns.map dN)) = true
    rw [fine_ns fun x hx => h x (List.mem_cons_of_mem _ hx), Bool.and_true]
    exact fine_int (small60 (h n List.mem_cons_self))
theorem cost_ns : ∀ (ns : List Nat), costAll (ns.map dN) = 66 * ns.length
  | [] => rfl
  | n :: ns => by
    show cost (dN n) + 2 + costAll (ns.map dN) = _
    rw [cost_ns ns, List.length_cons]
    show 64 + 2 + _ = _
    omega
theorem depth_ns : ∀ (ns : List Nat), PyData.depthAll (ns.map dN) = 0
  | [] => rfl
  | n :: ns => by
    show max (PyData.depth (dN n)) (PyData.depthAll (ns.map dN)) = 0
    rw [depth_ns ns]
    rfl
theorem dok_ns {ns : List Nat} (h : ∀ n ∈ ns, n ≤ 1000) (hl : ns.length ≤ 4000) : DOk (.list (ns.map dN)) :=
  ⟨fine_ns h, by show PyData.depthAll _ + 1 ≤ 50; rw [depth_ns]; decide, by show costAll _ + 3 ≤ _; rw [cost_ns]; omega⟩
theorem fam_fine {A : List (List Str)} {z : List Qd} (hA : ∀ r ∈ A, Row r) (hl : A.length ≤ 12) (D : Dist (famQ A) z) : (∀ q ∈ z, Qfine q) ∧ z.length ≤ 300 := by
  refine ⟨fun q hq => (famQ_qz hA q ((D.mem q).mp hq)).fine, ?_⟩
  have h1 := D.le
  have h2 := famQ_len hA
  omega
abbrev nLaw : List Str := ["_law_script", "_law_bag_here", "_law_turn", "_law_names_here", "_law_some", "_law_pairs", "_law_whole", "_law_shelf", "_law_due", "_law_again", "_law_found", "_law_left", "_law_at"]
theorem scLaw : FnScope nLaw ["_law_script"] (defScope sLaw) := ⟨rfl, rfl, rfl, by decide +kernel, rfl, by decide +kernel, by decide +kernel⟩
def spLaw (K : PySem.W.Frag) : Sp := fun vs H Q _ => ∃ (a : Addr) (ns : List Int), vs = [.ref a] ∧ SqL K H a (ns.map V.int) ∧ ns.length ≤ 63 ∧ ∀ H', Q (.bl true) H'
theorem ok_law {f C fi fI fl : Addr} {fd fdi fdI fdl : FuncData} (F : Fun K "law" "law" sLaw f fd) (T : Txt K mg) (TC : TxC K mg C) (M : Mk K C fI) (FI : FnOk P w K mg base CX0 5 fI fdI ["self", "indexes"] (spInitS C)) (bFI : Binds K fdI ["self", "indexes"] [])
    (oI : OwnIt K C fi) (gI : FnS P w K mg base 1 fi fdi ["self"] (spIterF C "_indexes")) (bI : Binds K fdi ["self"] []) (oL : OwnLen K C fl) (gL : FnOk P w K mg base CX0 1 fl fdl ["self"] (spLenF C "_indexes")) (bL : Binds K fdl ["self"] [])
    (cB : Cal P w K mg base 1 "_law_bag" ["_law_script"] (spBag K))
    (cT : Cal P w K mg base 1 "_law_take" ["_law_bag_here", "_law_many"] spTake)
    (cO : Cal P w K mg base 2 "_law_one" ["_law_bag_here", "_law_some"] spOne)
    (cM : Cal P w K mg base 2 "_law_mixed" ["_law_bag_here", "_law_things"] spMixed)
    (cN : Cal P w K mg base 3 "_law_names" ["_law_bag_here", "_law_many"] spNames)
    (cX : Cal P w K mg base 4 "_law_indexes" ["_law_bag_here", "_law_names_here", "_law_most"] spIndexes)
    (cF : Cal P w K mg base 2 "_law_family" ["_law_indexes_here"] spFamily)
    (cL : Cal P w K mg base 1 "_law_left_out" ["_law_some", "_law_at"] spLO)
    (cCr : Cal P w K mg base 3 "_law_crossed" ["_law_bag_here", "_law_names_here"] spCrossed)
    (cLP : Cal P w K mg base 3 "_law_pruned" ["_law_some"] spLPr)
    (cNd : Cal P w K mg base 4 "needless" ["shelf"] (spNeedless C))
    (cPr : Cal P w K mg base 7 "pruned" ["shelf"] (spPruned C))
    (cA : CalG P w K mg base 1 "_law_alike" ["_law_found", "_law_due"] (spAlikeD K)) : FnG P w K mg base 8 f fd ["_law_script"] (spLaw K) := by
  refine okG F scLaw (fun vs H Q E h => ?_) (fun cdv AA outer s H vs Q E hr hg h => ?_)
  · obtain ⟨a, ns, rfl, _⟩ := h
    rfl
  · obtain ⟨a, ns, rfl, hS, hlen, k⟩ := h
    have nd := scLaw.nd
    have hr7 : Room 7 _ := hr
    have hr6 : Room 6 _ := hr.mono (by decide)
    have hr4 : Room 4 _ := hr.mono (by decide)
    have hr3 : Room 3 _ := hr.mono (by decide)
    have hr2 : Room 2 _ := hr.mono (by decide)
    have hr1 : Room 1 _ := hr.mono (by decide)
    refine ⟨_, (pss_cons (ps_set (i := 1) nd rfl (by first | exact Or.inl rfl | exact Or.inr rfl) (pe_call cB.G hr1 rfl cB.m cB.kp cB.b .nil pass0 (pa_cons (pv 0) pa_nil)))
      (pss_cons (ps_for PassesOwn.never rfl (pi_range1 (by rfl) T.range (pa_cons pe_int pa_nil)) (pg_name (i := 2) nd rfl (by first | exact Or.inl rfl | exact Or.inr rfl)) (pss_cons (ps_set (i := 3) nd rfl (by first | exact Or.inl rfl | exact Or.inr rfl) (pe_call cN.G hr3 rfl cN.m cN.kp cN.b .nil pass0 (pa_cons (pv 1) (pa_cons (pe_op op_add pe_int (pe_call cT.G hr1 rfl cT.m cT.kp cT.b .nil pass0 (pa_cons (pv 1) (pa_cons pe_int pa_nil)))) pa_nil))))
      (pss_cons (ps_set (i := 4) nd rfl (by first | exact Or.inl rfl | exact Or.inr rfl) (pe_call cX.G hr4 rfl cX.m cX.kp cX.b .nil pass0 (pa_cons (pv 1) (pa_cons (pv 3) (pa_cons pe_int pa_nil)))))
      (Evl.pss_cut (ps_if (PW.pt (pw_and (pt_cmpR (op_neNil hr1.units) (pv 4) (pe_lst pa_nil) (nomark _)) (pw_and1 (pt_cmpR op_eq (pe_call cT.G hr1 rfl cT.m cT.kp cT.b .nil pass0 (pa_cons (pv 1) (pa_cons pe_int pa_nil))) pe_int (nomark _))))) (pss_one (ps_set (i := 4) nd rfl (by first | exact Or.inl rfl | exact Or.inr rfl) (pe_call cM.G hr2 rfl cM.m cM.kp cM.b .nil pass0 (pa_cons (pv 1) (pa_cons (pe_op op_cat (pv 4) (pe_lst (pa_cons (pe_revT (pe_call cO.G hr2 rfl cO.m cO.kp cO.b .nil pass0 (pa_cons (pv 1) (pa_cons (pv 4) pa_nil)))) pa_nil))) pa_nil))))) pss_nil)
      (Evl.pss_cut (ps_if (PW.pt (pw_and (pt_cmpR op_gt (pe_callB call_len_seq (by rfl) T.len PySem.boot_len (pa_cons (pv 3) pa_nil)) pe_int (nomark _)) (pw_and1 (pt_cmpR op_eq (pe_call cT.G hr1 rfl cT.m cT.kp cT.b .nil pass0 (pa_cons (pv 1) (pa_cons pe_int pa_nil))) pe_int (nomark _))))) (pss_cons (ps_set (i := 5) nd rfl (by first | exact Or.inl rfl | exact Or.inr rfl) (pe_call cCr.G hr3 rfl cCr.m cCr.kp cCr.b .nil pass0 (pa_cons (pv 1) (pa_cons (pv 3) pa_nil))))
      (pss_one (ps_set (i := 4) nd rfl (by first | exact Or.inl rfl | exact Or.inr rfl) (pe_call cM.G hr2 rfl cM.m cM.kp cM.b .nil pass0 (pa_cons (pv 1) (pa_cons (pe_op op_cat (pe_op op_cat (pe_slice sl_list (pv 4) po_none (po_some pe_int)) (pe_ix ix_list (pv 5) pe_int fun _ _ => rfl)) (pe_ix ix_list (pv 5) pe_int fun _ _ => rfl)) pa_nil)))))) pss_nil)
      (pss_cons (ps_asg (pe_tup (pa_cons (pe_call cF.G hr2 rfl cF.m cF.kp cF.b .nil pass0 (pa_cons (pv 4) pa_nil)) (pa_cons (pe_make M FI hr6 rfl TC.mgC bFI .nil pass0 (pa_cons (pv 4) pa_nil)) pa_nil))) (pg_tup (by rfl) (pgs_cons (pg_name (i := 6) nd rfl (by first | exact Or.inl rfl | exact Or.inr rfl)) (pgs_cons (pg_name (i := 7) nd rfl (by first | exact Or.inl rfl | exact Or.inr rfl)) pgs_nil))))
      (pss_cons (ps_setLc (i := 8) (own := [("_law_at", 12)]) (g := gName 12) rfl nd rfl (by rfl) (sw_true rfl (by rfl) rfl (by decide)) (pi_range1 (by rfl) T.range (pa_cons (pe_callB call_len_seq (by rfl) T.len PySem.boot_len (pa_cons (pv 4) pa_nil)) pa_nil)) (blkOk_by (N := nLaw) (sc := defScope sLaw) (by decide +kernel)) (fun _ _ _ _ _ => (pg_name (i := 12) nd rfl (by first | exact Or.inl rfl | exact Or.inr rfl))) (fun _ _ _ _ _ => pts_one (pt_cmpR (r := rEqD K) (op_eqD hr1.units) (pe_call cF.G hr2 rfl cF.m cF.kp cF.b .nil pass0 (pa_cons (pe_call cL.G hr1 rfl cL.m cL.kp cL.b .nil pass0 (pa_cons (pv 4) (pa_cons (pv 12) pa_nil))) pa_nil)) (pv 6) (nomark _))) (fun _ _ _ _ _ => (pv 12)))
      (pss_one (ps_for PassesOwn.never rfl (pi_range1 (by rfl) T.range (pa_cons pe_int pa_nil)) (pg_name (i := 9) nd rfl (by first | exact Or.inl rfl | exact Or.inr rfl)) (pss_cons (ps_set (i := 10) nd rfl (by first | exact Or.inl rfl | exact Or.inr rfl) (pe_call cNd.G hr4 rfl cNd.m cNd.kp cNd.b .nil pass0 (pa_cons (pv 7) pa_nil)))
      (pss_cons (ps_if (PW.pt (pw_or (pt_not (pt_val (pe_callB (r := rIsi K) call_isi (by rfl) T.isinstance (by decide +kernel) (pa_cons (pv 10) (pa_cons (pe_bltn (v := .ty "list") (by rfl) T.list (by decide +kernel) rfl) pa_nil))))) (pw_or1 (pt_not (pt_val (pe_callg cA.G hr1 hg rfl cA.m cA.kp cA.b (pa_cons (pv 10) (pa_cons (pv 8) pa_nil)))))))) (pss_one (ps_ret pe_bl)) pss_nil)
      (pss_cons (ps_expr (pe_bm PySem.F.plainAttrs_list PySem.F.slot_list_append PySem.F.type_list_append mt_append (pv 10) (pa_cons pe_non pa_nil)))
      (pss_cons (ps_set (i := 11) nd rfl (by first | exact Or.inl rfl | exact Or.inr rfl) (pe_call cPr.G hr7 rfl cPr.m cPr.kp cPr.b .nil pass0 (pa_cons (pv 7) pa_nil)))
      (pss_one (ps_if (PW.pt (pw_or (pt_not (pt_val (pe_callB (r := rIsi K) call_isi (by rfl) T.isinstance (by decide +kernel) (pa_cons (pv 11) (pa_cons (pe_glob (v := .ref C) rfl TC.mgC rfl) pa_nil))))) (pw_or (pt_cmpR (op_neD hr1.units) (pe_callTy (call_listOwnF rfl oI gI bI oL gL bL hr4) (by rfl) T.list (by decide +kernel) (pa_cons (pv 11) pa_nil)) (pe_call cLP.G hr3 rfl cLP.m cLP.kp cLP.b .nil pass0 (pa_cons (pv 4) pa_nil)) (nomark _)) (pw_or1 (pt_cmpR (op_neD hr1.units) (pe_callTy (call_listOwnF rfl oI gI bI oL gL bL hr4) (by rfl) T.list (by decide +kernel) (pa_cons (pv 7) pa_nil)) (pv 4) (nomark _)))))) (pss_one (ps_ret pe_bl)) pss_nil)))))))))))))))
      (pss_one (ps_ret pe_bl)))), ?_⟩
    refine ⟨_, rfl, a, ns, rfl, hS, hlen, fun b l H1 hb B1 s1 => ?_⟩
    refine ⟨6, rfl, by decide, by decide, ?_⟩
    refine for_range (lo := 0) (n := 6) (fun i σ H' => Bag H' b l ∧ ∃ (v2 v3 v4 v5 v6 v7 v8 v9 v10 v11 : Option V), σ = [some (.ref a), some (.ref b), v2, v3, v4, v5, v6, v7, v8, v9, v10, v11, none])
      ⟨B1, none, none, none, none, none, none, none, none, none, none, rfl⟩ ?_ (fun σ H' _ => k H')
    rintro i σ H2 hi ⟨B2, v2, v3, v4, v5, v6, v7, v8, v9, v10, v11, rfl⟩
    refine ⟨_, rfl, _, rfl, b, l, 4, rfl, B2, by decide, by decide, fun j H3 hj B3 k3 => ⟨_, _, rfl, rfl, b, l, 1 + j, by show [V.ref b, V.int (1 + (j : Int))] = _; rw [show (1 + (j : Int)) = ((1 + j : Nat) : Int) by omega], B3, fun xs nm H4 N4 hnmn nmb hnm B4 k4 => ?_⟩⟩
    have R : Row xs := N4.row (by omega)
    have Rle := R.le
    refine ⟨_, rfl, _, rfl, b, l, nm, xs, 6, rfl, B4, nmb, hnm, R, by decide, fun so ys rs H5 hson sob hso hTs hRs l6 B5 k5 => ?_⟩
    have hnm5 := k5 _ _ hnm nmb
    -- one turned
    refine ⟨fun σ H' => ∃ (so : Addr) (ys : List V) (rs : List (List Str)), σ = [some (.ref a), some (.ref b), some (.int (0 + (i : Int))), some (.ref nm), some (.ref so), v5, v6, v7, v8, v9, v10, v11, none] ∧ Bag H' b l ∧ H' nm = some (.lst (xs.map V.str)) ∧ H' so = some (.lst ys) ∧ so ≠ b ∧ TL H' ys rs ∧ (∀ r ∈ rs, Row r) ∧ rs.length ≤ 7, ?_, ?_⟩
    · refine ⟨_, rfl, by decide, fun e he => ⟨so, e, ys, rfl, rfl, SqL.of ((same_new he) _ _ hso), SqL.of upd_same, ?_⟩⟩
      have ne := same_new (o := .lst []) he
      have Be := B5.same ne
      have hsoe := ne _ _ hso
      have hTe : TL _ ys rs := TL.same ne hTs
      have hnme := ne _ _ hnm5
      have yl := hTs.len
      have hRr : ∀ r ∈ rs, Row r := fun r hr => (hRs r hr).1
      generalize upd H5 e (.lst []) = He at Be hsoe hTe hnme ⊢
      clear ne
      by_cases hy : ys = []
      · rw [decide_eq_true hy]
        exact ⟨_, rfl, iteF ⟨so, ys, rs, rfl, Be, hnme, hsoe, sob, hTe, hRr, by omega⟩⟩
      · rw [decide_eq_false hy]
        refine ⟨_, rfl, iteT ?_⟩
        refine ⟨_, rfl, b, l, 2, rfl, Be, by decide, by decide, fun j2 H7 hj2 B7 k7 => ⟨rfl, _, rfl, ?_⟩⟩
        have hso7 := k7 _ _ hsoe sob
        have hT7 : TL H7 ys rs := TL.kp Be k7 hTe
        have hnm7 := k7 _ _ hnme nmb
        refine ite2 (fun _ => ?_) (fun _ => ⟨so, ys, rs, rfl, B7, hnm7, hso7, sob, hT7, hRr, by omega⟩)
        refine ⟨_, rfl, _, rfl, _, rfl, _, rfl, b, l, so, ys, rfl, B7, sob, hso7, hy, by omega, fun x H8 hx B8 k8 => ?_⟩
        have hso8 := k8 _ _ hso7 sob
        have hT8 : TL H8 ys rs := TL.kp B7 k8 hT7
        have hnm8 := k8 _ _ hnm7 nmb
        obtain ⟨t, r, rfl, rm, ht⟩ := hT8.mem x hx
        refine ⟨t, _, rfl, SqT.of ht, fun pt hpt => ?_⟩
        have m1 := same_new (o := .tup (r.map V.str).reverse) hpt
        refine ⟨by show 1 ≤ sizeLine; decide, fun pl hpl => ?_⟩
        have m2 := same_new (o := .lst [V.ref pt]) hpl
        refine ⟨so, pl, ys, [.ref pt], rfl, rfl, (m1.trans m2) _ _ hso8, upd_same, by rw [sizeLine_eq]; show ys.length + 1 ≤ _; omega, fun pc hpc => ?_⟩
        have m3 := same_new (o := .lst (ys ++ [.ref pt])) hpc
        have m13 := m1.trans (m2.trans m3)
        have Bc := B8.same m13
        have hTc : TL (upd (upd (upd H8 pt (.tup (r.map V.str).reverse)) pl (.lst [V.ref pt])) pc (.lst (ys ++ [.ref pt]))) (ys ++ [.ref pt]) (rs ++ [r.reverse]) := (TL.same m13 hT8).snoc ((m2.trans m3) _ _ (by rw [List.map_reverse]; exact upd_same))
        refine ⟨b, l, pc, _, rfl, Bc, (B8.same (m1.trans m2)).ne hpc, upd_same, by rw [List.length_append]; show ys.length + 1 < 1000; omega, fun us pu H9 hpm9 hn9 h9b h9 B9 k9 => ?_⟩
        obtain ⟨rs9, hT9, hp9⟩ := paired_perm hpm9 (TL.kp Bc k9 hTc)
        refine ⟨pu, us, rs9, rfl, B9, k9 _ _ (m13 _ _ hnm8) nmb, h9, h9b, hT9, fun z hz => ?_, by rw [hp9.length_eq, List.length_append]; simp; omega⟩
        rcases List.mem_append.mp (hp9.mem_iff.mp hz) with h | h
        · exact hRr z h
        · rw [List.mem_singleton.mp h]
          exact (hRr r rm).perm (List.reverse_perm r)
    rintro σ H6 ⟨so6, ys6, rs6, rfl, B6, hnm6, hso6, sob6, hT6, hR6, l7⟩
    clear hso hTs hRs hson sob l6
    refine ⟨fun σ H' => ∃ (so : Addr) (ys : List V) (rs : List (List Str)) (v5 : Option V), σ = [some (.ref a), some (.ref b), some (.int (0 + (i : Int))), some (.ref nm), some (.ref so), v5, v6, v7, v8, v9, v10, v11, none] ∧ Bag H' b l ∧ H' so = some (.lst ys) ∧ so ≠ b ∧ TL H' ys rs ∧ (∀ r ∈ rs, Row r) ∧ rs.length ≤ 7, ?_, ?_⟩
    · have yl := hT6.len
      refine ⟨_, rfl, nm, _, rfl, .inl (SqL.of hnm6), _, 2, rfl, rfl, _, rfl, ?_⟩
      by_cases h2 : (2 : Int) < ((xs.map V.str).length : Int)
      · rw [decide_eq_true h2]
        refine iteT ?_
        refine ⟨_, rfl, b, l, 2, rfl, B6, by decide, by decide, fun j2 H7 hj2 B7 k7 => ⟨rfl, _, rfl, ?_⟩⟩
        have hso7 := k7 _ _ hso6 sob6
        have hT7 : TL H7 ys6 rs6 := TL.kp B6 k7 hT6
        have hnm7 := k7 _ _ hnm6 nmb
        refine ite2 (fun _ => ?_) (fun _ => ⟨so6, ys6, rs6, _, rfl, B7, hso7, sob6, hT7, hR6, l7⟩)
        refine ⟨_, rfl, _, rfl, b, l, nm, xs, rfl, B7, nmb, hnm7, R, fun H8 p p1 p2 y1 y2 r1 r2 hp hp1 hp2 hT1 hT2 hRr e1 e2 B8 k8 => ?_⟩
        have hso8 := k8 _ _ hso7 sob6
        have hT8 : TL H8 ys6 rs6 := TL.kp B7 k8 hT7
        have e3 : cutV ys6 none (some (3 : Int)) = ys6.take 3 := cut_to 3 ys6
        have l1 := hT1.len
        have l2 := hT2.len
        refine ⟨_, rfl, _, rfl, _, rfl, so6, ys6, rfl, SqL.of hso8, fun p4 hp4 => ?_⟩
        have m1 := same_new (o := .lst (cutV ys6 none (some (3 : Int)))) hp4
        refine ⟨_, rfl, ?_⟩
        refine tC_of ?_
        refine rIx 0 (m1 _ _ hp) rfl ⟨p4, p1, ys6.take 3, y1, rfl, rfl, by rw [← e3]; exact upd_same, m1 _ _ hp1, by rw [sizeLine_eq, List.length_take]; omega, fun p5 hp5 => ?_⟩
        have m2 := same_new (o := .lst (ys6.take 3 ++ y1)) hp5
        refine ⟨_, rfl, ?_⟩
        refine tC_of ?_
        refine rIx 1 ((m1.trans m2) _ _ hp) rfl ⟨p5, p2, ys6.take 3 ++ y1, y2, rfl, rfl, upd_same, (m1.trans m2) _ _ hp2, by rw [sizeLine_eq, List.length_append, List.length_take]; omega, fun p6 hp6 => ?_⟩
        have m3 := same_new (o := .lst (ys6.take 3 ++ y1 ++ y2)) hp6
        have m13 := m1.trans (m2.trans m3)
        have B9 := B8.same m13
        have hT9 : TL _ (ys6.take 3 ++ y1 ++ y2) (rs6.take 3 ++ r1 ++ r2) := paired_app (paired_app (paired_takeL 3 (TL.same m13 hT8)) (TL.same m13 hT1)) (TL.same m13 hT2)
        refine ⟨b, l, p6, _, rfl, B9, (B8.same (m1.trans m2)).ne hp6, upd_same, by rw [List.length_append, List.length_append, List.length_take]; omega, fun us pu H10 hpm10 hn10 h10b h10 B10 k10 => ?_⟩
        obtain ⟨rs10, hT10, hp10⟩ := paired_perm hpm10 (TL.kp B9 k10 hT9)
        refine ⟨pu, us, rs10, _, rfl, B10, h10, h10b, hT10, fun z hz => ?_, by rw [hp10.length_eq, List.length_append, List.length_append, List.length_take]; omega⟩
        rcases List.mem_append.mp (hp10.mem_iff.mp hz) with h | h
        · rcases List.mem_append.mp h with h | h
          · exact hR6 z (List.mem_of_mem_take h)
          · exact hRr z (List.mem_append_left _ h)
        · exact hRr z (List.mem_append_right _ h)
      · rw [decide_eq_false h2]
        exact iteF ⟨so6, ys6, rs6, _, rfl, B6, hso6, sob6, hT6, hR6, l7⟩
    rintro σ H8 ⟨so, ys, rs, v5', rfl, B8, hso, sob, hT, hR, l7'⟩
    clear hso6 hT6 hR6 B6 hnm6 hnm5 B5 k5 hnm
    have yl := hT.len
    refine ⟨_, rfl, so, ys, rs, rfl, hso, hT, hR, by omega, fun H9 p9 y9 z9 s9 hp9 q9 D9 => ?_⟩
    refine ⟨_, rfl, ?_⟩
    intro sh dx nx ndx nex
    refine mkSR (s9 _ _ hso) (TL.same s9 hT) (by omega) hR nx ndx fun H10 s10 hSh => ?_
    refine ⟨rfl, ?_⟩
    refine ⟨by show 2 ≤ sizeLine; decide, fun t ht => ?_⟩
    have st := same_new (o := .tup [V.ref p9, .ref sh]) ht
    refine ⟨t, _, rfl, SqT.of upd_same, rfl, _, _, rfl, _, _, rfl, rfl, ?_⟩
    have sA := s9.trans (s10.trans st)
    have B12 := B8.same sA
    have hso12 := sA _ _ hso
    have hT12 : TL _ ys rs := TL.same sA hT
    have hp12 := (s10.trans st) _ _ hp9
    have q12 := q9.same (s10.trans st)
    have hSh12 := hSh.same st
    generalize upd H10 t (.tup [V.ref p9, .ref sh]) = H12 at B12 hso12 hT12 hp12 q12 hSh12 ⊢
    clear sA st ht hSh s10 nx ndx nex s9 hp9 q9 hso hT B8
    -- the numbers that are due
    refine ⟨_, rfl, so, ys, rfl, .inl (SqL.of hso12), (ys.length : Int), rfl, by omega, by omega, fun D hD => ?_⟩
    have Db := B12.ne hD
    refine lc_range (lo := 0) (n := ys.length) (fun i H' => Same H12 H' ∧ H' D = some (.lst ((sparesT rs i).map vN))) ⟨same_new hD, upd_same⟩ ?_ ?_
    · rintro i H13 hi ⟨s13, hDl⟩
      obtain ⟨r, hri⟩ : ∃ r, rs[i]? = some r := ⟨rs[i]'(by omega), List.getElem?_eq_getElem (by omega)⟩
      have rm := List.mem_of_getElem? hri
      have esp : rs = rs.take i ++ r :: rs.drop (i + 1) := by
        obtain ⟨hlt, he⟩ := List.getElem?_eq_some_iff.mp hri
        rw [← he, ← List.drop_eq_getElem_cons hlt, List.take_append_drop]
      have hRl : ∀ z ∈ rs.take i ++ rs.drop (i + 1), Row z := fun z hz => by
        rcases List.mem_append.mp hz with h | h
        · exact hR z (List.mem_of_mem_take h)
        · exact hR z (List.mem_of_mem_drop h)
      have hll : (rs.take i ++ rs.drop (i + 1)).length ≤ 12 := by rw [List.length_append, List.length_take, List.length_drop]; omega
      refine ⟨rfl, Exists.intro _ ⟨rfl, Exists.intro _ ⟨rfl, so, ys, i, by show [V.ref so, V.int (0 + (i : Int))] = _; rw [Int.zero_add], s13 _ _ hso12, by omega, fun H14 p14 s14 hn14 hp14 => ⟨p14, _, _, rfl, hp14, (TL.same (s13.trans s14) hT12).leftOut i, hRl, hll, fun H15 p15 y15 z15 s15 hp15 q15 D15 => Exists.intro _ ⟨rfl, ?_⟩⟩⟩⟩⟩
      have s15' := s13.trans (s14.trans s15)
      obtain ⟨f9, l9⟩ := fam_fine hR (by omega) D9
      obtain ⟨f15, l15⟩ := fam_fine hRl hll D15
      refine ⟨.list (z15.map dq), .list (z9.map dq), .lst (SqL.of hp15) q15.dp, .lst (SqL.of (s15' _ _ hp12)) (q12.same s15').dp, (dok_qs3 f15 l15).shaped, (dok_qs3 f9 l9).shaped, _, rfl, ?_⟩
      rw [eqv_qs]
      have hb' : spareAt (fun q => (cntO rs q : Int)) rs i = decide (z15 = z9) := by
        unfold spareAt
        rw [hri]
        have hiff : z15 = z9 ↔ spareB (fun q => (cntO rs q : Int)) r = true := by
          rw [Dist.same_iff D15 D9]
          have key := spare_fam (A := rs.take i) (B := rs.drop (i + 1)) (r := r)
          rw [← esp] at key
          exact key.symm
        cases hz : decide (z15 = z9) with
        | true => exact hiff.mp (of_decide_eq_true hz)
        | false =>
          have := of_decide_eq_false hz
          exact Bool.not_eq_true _ ▸ fun h => this (hiff.mpr h)
      have hD5 := (s14.trans s15) _ _ hDl
      rw [sparesT_step, hb']
      cases hz : decide (z15 = z9) with
      | true =>
        refine iteT ?_
        have nl := sparesT_len rs i
        refine ⟨_, rfl, _, hD5, small1000 (by rw [List.length_map]; omega), fun b' o hb2 => ?_, ?_⟩
        · rw [upd_ne (ne_of_none hb2 hD)]
          exact s15' _ _ hb2
        · rw [upd_same, List.map_append]
          show some (HO.lst (_ ++ [V.int (0 + (i : Int))])) = _
          rw [Int.zero_add]
          rfl
      | false =>
        refine iteF ?_
        exact ⟨s15', by rw [hD5]; simp⟩
    rintro H13 ⟨s13, hDl⟩
    have hD13 : H13 D = some (.lst ((sparesT rs rs.length).map vN)) := by rw [hDl, yl]
    have B13 := B12.same s13
    have hso13 := s13 _ _ hso12
    have hT13 : TL H13 ys rs := TL.same s13 hT12
    have hSh13 := hSh12.same s13
    clear hDl s13 hD Db hso12 hT12 hSh12 B12 q12 hp12
    have dns := dok_ns (ns := sparesT rs rs.length) (fun n hn => by
      have := List.mem_range.mp (List.mem_filter.mp hn).1
      omega) (by have := sparesT_len rs rs.length; omega)
    have ok := dok_rs hR (by omega)
    have okp : DOk (.list ((prunedR rs).map dR)) := dok_rs (fun r hr => by
      unfold prunedR at hr
      exact hR r (List.mem_reverse.mp (pruneGo_sub.subset (List.mem_reverse.mp hr)))) (by
      unfold prunedR
      rw [List.length_reverse]
      have := (pruneGo_sub (c := fun q => (cntO rs q : Int)) (rs := rs.reverse)).length_le
      rw [List.length_reverse] at this
      omega)
    refine ⟨3, rfl, by decide, by decide, ?_⟩
    refine for_range (lo := 0) (n := 3) (fun i' σ H' => Bag H' b l ∧ Same H13 H' ∧ ∃ (v9 v10 v11 : Option V), σ = [some (.ref a), some (.ref b), some (.int (0 + (i : Int))), some (.ref nm), some (.ref so), v5', some (.ref p9), some (.ref sh), some (.ref D), v9, v10, v11, none])
      ⟨B13, Same.refl _, _, _, _, rfl⟩ ?_ (fun σ H' ⟨B', _, _, _, _, e⟩ => ⟨B', _, _, _, _, _, _, _, _, _, _, e⟩)
    rintro i' σ H14 hi' ⟨B14, s14, w9, w10, w11, rfl⟩
    refine ⟨_, rfl, sh, rs, rfl, hSh13.same s14, hR, by omega, fun H15 p s15 hpn hp => ?_⟩
    have s1315 := s14.trans s15
    refine ⟨_, rfl, .ref p, .ty "list", .type "list", .type "list", true, rfl, .ty _, .base (.lst hp), kit_ty (by decide +kernel), _, rfl, ?_⟩
    refine iteF ?_
    have p13 : H13 p = none := by
      cases e : H13 p with
      | none => rfl
      | some o =>
        rw [s14 _ _ e] at hpn
        cases hpn
    refine ⟨_, rfl, _, rfl, .ref p, .ref D, .list ((sparesT rs rs.length).map dN), rfl, .lst (SqL.of hp) (dp_ns _), .lst (SqL.of (s1315 _ _ hD13)) (dp_ns _), dns, ⟨_, rfl, ?_⟩⟩
    refine iteF ?_
    refine ⟨_, rfl, .inl ⟨rfl, _, SqL.of hp⟩, p, _, _, rfl, rfl, hp, small1000 (by rw [List.length_map]; have := sparesT_len rs rs.length; omega), ?_⟩
    have s16 : Same H13 (upd H15 p (.lst ((sparesT rs rs.length).map vN ++ [.non]))) := fun b' o hb2 => by
      rw [upd_ne (ne_of_none hb2 p13)]
      exact s1315 _ _ hb2
    have B16 : Bag (upd H15 p (.lst ((sparesT rs rs.length).map vN ++ [.non]))) b l := B13.same s16
    generalize upd H15 p (.lst ((sparesT rs rs.length).map vN ++ [.non])) = H16 at s16 B16 ⊢
    refine ⟨_, rfl, sh, rs, rfl, hSh13.same s16, hR, by omega, fun H17 x s17 hSx => ?_⟩
    have s1317 := s16.trans s17
    obtain ⟨lx, xx, ⟨dx', hxa, hxl⟩, hxT⟩ := id hSx
    refine ⟨_, rfl, .ref x, .ref C, .ref C, .ref C, true, rfl, .own C, TC.ty hxa, kit_self, _, rfl, ?_⟩
    refine iteF ?_
    have pl : (prunedR rs).length ≤ 48 := by
      unfold prunedR
      rw [List.length_reverse]
      have := (pruneGo_sub (c := fun q => (cntO rs q : Int)) (rs := rs.reverse)).length_le
      rw [List.length_reverse] at this
      omega
    have xl := hxT.len
    refine ⟨_, rfl, x, lx, xx, rfl, ⟨dx', _, hxa, rfl, hxl⟩, by omega, fun e1 he1 => ?_⟩
    have m1 := same_new (o := .lst xx) he1
    refine ⟨_, rfl, so, ys, rs, rfl, (s1317.trans m1) _ _ hso13, TL.same (s1317.trans m1) hT13, hR, by omega, fun H18 p18 zs18 s18 hp18 hT18 => ?_⟩
    refine ⟨.list ((prunedR rs).map dR), .list ((prunedR rs).map dR), .lst (SqL.of (s18 _ _ upd_same)) (TL.same (m1.trans s18) hxT).dp, .lst (SqL.of hp18) hT18.dp, okp.shaped, okp.shaped, _, rfl, ?_⟩
    rw [SeqAt.eqv_refl _ (fine_lay _ okp.f).1]
    refine iteF ?_
    have s1318 := s1317.trans (m1.trans s18)
    obtain ⟨ls, xs2, ⟨ds, hsa, hsl⟩, hsT⟩ := hSh13.same s1318
    have sl := hsT.len
    refine ⟨_, rfl, sh, ls, xs2, rfl, ⟨ds, _, hsa, rfl, hsl⟩, by omega, fun e2 he2 => ⟨_, rfl, ?_⟩⟩
    have m2 := same_new (o := .lst xs2) he2
    refine ⟨.list (rs.map dR), .list (rs.map dR), .lst (SqL.of upd_same) (TL.same m2 hsT).dp, .lst (SqL.of ((s1318.trans m2) _ _ hso13)) (TL.same (s1318.trans m2) hT13).dp, ok.shaped, ok.shaped, _, rfl, ?_⟩
    rw [SeqAt.eqv_refl _ (fine_lay _ ok.f).1]
    refine iteF ?_
    exact ⟨B13.same (s1318.trans m2), s1318.trans m2, _, _, _, rfl⟩
end
end Qk
set_option maxRecDepth 100000
set_option maxHeartbeats 4000000
namespace Qk
open PySem PySem.Spec PyProof.Rows L2
theorem all_mk {l : PySem.W.OpenLaw} {w : World} {K : PySem.W.Frag} {h : Heap} {mg : Str → Option Value} {fa f1 f2 f3 f4 f5 f6 f7 f8 f9 f10 f11 f12 f13 f14 f15 f16 f17 f18 f19 f20 f21 f22 f23 f24 C fI fJ fN fX : Addr} {tL tM : Nat} (X : K.In h) (G : h.Ns mainGlobals mg) (hfa : mg "law" = some (.ref fa))
    {od1 an1 od2 an2 od3 an3 od4 an4 od5 an5 od6 an6 od7 an7 od8 an8 od9 an9 od10 an10 od11 an11 od12 an12 od13 an13 od14 an14 od15 an15 od16 an16 od17 an17 od18 an18 od19 an19 od20 an20 od21 an21 od22 an22 od23 an23 od24 an24 odI anI odJ anJ odN anN odX anX : Option Addr} {slI slJ slN slX sl1 sl2 sl3 sl4 sl5 sl6 sl7 sl8 sl9 sl10 sl11 sl12 sl13 sl14 sl15 sl16 sl17 sl18 sl19 sl20 sl21 sl22 sl23 sl24 : Array (Option Value)} {oc1 kV1 dc1 pm1 cd1 ct1 oc2 kV2 dc2 pm2 cd2 ct2 oc3 kV3 dc3 pm3 cd3 ct3 oc4 kV4 dc4 pm4 cd4 ct4 oc5 kV5 dc5 pm5 cd5 ct5 oc6 kV6 dc6 pm6 cd6 ct6 oc7 kV7 dc7 pm7 cd7 ct7 oc8 kV8 dc8 pm8 cd8 ct8 oc9 kV9 dc9 pm9 cd9 ct9 oc10 kV10 dc10 pm10 cd10 ct10 oc11 kV11 dc11 pm11 cd11 ct11 oc12 kV12 dc12 pm12 cd12 ct12 oc13 kV13 dc13 pm13 cd13 ct13 oc14 kV14 dc14 pm14 cd14 ct14 oc15 kV15 dc15 pm15 cd15 ct15 oc16 kV16 dc16 pm16 cd16 ct16 oc17 kV17 dc17 pm17 cd17 ct17 oc18 kV18 dc18 pm18 cd18 ct18 oc19 kV19 dc19 pm19 cd19 ct19 oc20 kV20 dc20 pm20 cd20 ct20 oc21 kV21 dc21 pm21 cd21 ct21 oc22 kV22 dc22 pm22 cd22 ct22 oc23 kV23 dc23 pm23 cd23 ct23 oc24 kV24 dc24 pm24 cd24 ct24 ocI kVI dcI pmI cdI ctI ocJ kVJ dcJ pmJ cdJ ctJ ocN kVN dcN pmN cdN ctN ocX kVX dcX pmX cdX ctX : Value}
    (a1 : PySem.W.nsIn K mainGlobals "is_column" = some (some (.ref f1))) (l1 : K.lookup f1 = some ⟨oc1, od1, .func (PySem.W.fnOf "is_column" "is_column" (defArgs sIsCol) (defBody sIsCol) (defScope sIsCol) .none kV1 dc1 pm1 an1 cd1 ct1), sl1⟩) (c1 : PySem.W.codeIn K cd1 "is_column" = true) (k1 : PySem.W.keepIn K (.ref f1) = true)
    (a2 : PySem.W.nsIn K mainGlobals "are_different_columns" = some (some (.ref f2))) (l2 : K.lookup f2 = some ⟨oc2, od2, .func (PySem.W.fnOf "are_different_columns" "are_different_columns" (defArgs sAreDiff) (defBody sAreDiff) (defScope sAreDiff) .none kV2 dc2 pm2 an2 cd2 ct2), sl2⟩) (c2 : PySem.W.codeIn K cd2 "are_different_columns" = true) (k2 : PySem.W.keepIn K (.ref f2) = true)
    (a3 : PySem.W.nsIn K mainGlobals "is_index" = some (some (.ref f3))) (l3 : K.lookup f3 = some ⟨oc3, od3, .func (PySem.W.fnOf "is_index" "is_index" (defArgs sIsIndex) (defBody sIsIndex) (defScope sIsIndex) .none kV3 dc3 pm3 an3 cd3 ct3), sl3⟩) (c3 : PySem.W.codeIn K cd3 "is_index" = true) (k3 : PySem.W.keepIn K (.ref f3) = true)
    (a4 : PySem.W.nsIn K mainGlobals "are_indexes" = some (some (.ref f4))) (l4 : K.lookup f4 = some ⟨oc4, od4, .func (PySem.W.fnOf "are_indexes" "are_indexes" (defArgs sAreIxs) (defBody sAreIxs) (defScope sAreIxs) .none kV4 dc4 pm4 an4 cd4 ct4), sl4⟩) (c4 : PySem.W.codeIn K cd4 "are_indexes" = true) (k4 : PySem.W.keepIn K (.ref f4) = true)
    (a5 : PySem.W.nsIn K mainGlobals "questions_of" = some (some (.ref f5))) (l5 : K.lookup f5 = some ⟨oc5, od5, .func (PySem.W.fnOf "questions_of" "questions_of" (defArgs sQof) (defBody sQof) (defScope sQof) .none kV5 dc5 pm5 an5 cd5 ct5), sl5⟩) (c5 : PySem.W.codeIn K cd5 "questions_of" = true) (k5 : PySem.W.keepIn K (.ref f5) = true)
    (a6 : PySem.W.nsIn K mainGlobals "count_servers" = some (some (.ref f6))) (l6 : K.lookup f6 = some ⟨oc6, od6, .func (PySem.W.fnOf "count_servers" "count_servers" (defArgs sCountSv) (defBody sCountSv) (defScope sCountSv) .none kV6 dc6 pm6 an6 cd6 ct6), sl6⟩) (c6 : PySem.W.codeIn K cd6 "count_servers" = true) (k6 : PySem.W.keepIn K (.ref f6) = true)
    (a7 : PySem.W.nsIn K mainGlobals "is_spare" = some (some (.ref f7))) (l7 : K.lookup f7 = some ⟨oc7, od7, .func (PySem.W.fnOf "is_spare" "is_spare" (defArgs sIsSpare) (defBody sIsSpare) (defScope sIsSpare) .none kV7 dc7 pm7 an7 cd7 ct7), sl7⟩) (c7 : PySem.W.codeIn K cd7 "is_spare" = true) (k7 : PySem.W.keepIn K (.ref f7) = true)
    (a8 : PySem.W.nsIn K mainGlobals "needless" = some (some (.ref f8))) (l8 : K.lookup f8 = some ⟨oc8, od8, .func (PySem.W.fnOf "needless" "needless" (defArgs sNeedless) (defBody sNeedless) (defScope sNeedless) .none kV8 dc8 pm8 an8 cd8 ct8), sl8⟩) (c8 : PySem.W.codeIn K cd8 "needless" = true) (k8 : PySem.W.keepIn K (.ref f8) = true)
    (a9 : PySem.W.nsIn K mainGlobals "pruned" = some (some (.ref f9))) (l9 : K.lookup f9 = some ⟨oc9, od9, .func (PySem.W.fnOf "pruned" "pruned" (defArgs sPruned) (defBody sPruned) (defScope sPruned) .none kV9 dc9 pm9 an9 cd9 ct9), sl9⟩) (c9 : PySem.W.codeIn K cd9 "pruned" = true) (k9 : PySem.W.keepIn K (.ref f9) = true)
    (a10 : PySem.W.nsIn K mainGlobals "_law_bag" = some (some (.ref f10))) (l10 : K.lookup f10 = some ⟨oc10, od10, .func (PySem.W.fnOf "_law_bag" "_law_bag" (defArgs sBag) (defBody sBag) (defScope sBag) .none kV10 dc10 pm10 an10 cd10 ct10), sl10⟩) (c10 : PySem.W.codeIn K cd10 "_law_bag" = true) (k10 : PySem.W.keepIn K (.ref f10) = true)
    (a11 : PySem.W.nsIn K mainGlobals "_law_take" = some (some (.ref f11))) (l11 : K.lookup f11 = some ⟨oc11, od11, .func (PySem.W.fnOf "_law_take" "_law_take" (defArgs sTake) (defBody sTake) (defScope sTake) .none kV11 dc11 pm11 an11 cd11 ct11), sl11⟩) (c11 : PySem.W.codeIn K cd11 "_law_take" = true) (k11 : PySem.W.keepIn K (.ref f11) = true)
    (a12 : PySem.W.nsIn K mainGlobals "_law_one" = some (some (.ref f12))) (l12 : K.lookup f12 = some ⟨oc12, od12, .func (PySem.W.fnOf "_law_one" "_law_one" (defArgs sOne) (defBody sOne) (defScope sOne) .none kV12 dc12 pm12 an12 cd12 ct12), sl12⟩) (c12 : PySem.W.codeIn K cd12 "_law_one" = true) (k12 : PySem.W.keepIn K (.ref f12) = true)
    (a13 : PySem.W.nsIn K mainGlobals "_law_mixed" = some (some (.ref f13))) (l13 : K.lookup f13 = some ⟨oc13, od13, .func (PySem.W.fnOf "_law_mixed" "_law_mixed" (defArgs sMixed) (defBody sMixed) (defScope sMixed) .none kV13 dc13 pm13 an13 cd13 ct13), sl13⟩) (c13 : PySem.W.codeIn K cd13 "_law_mixed" = true) (k13 : PySem.W.keepIn K (.ref f13) = true)
    (a14 : PySem.W.nsIn K mainGlobals "_law_names" = some (some (.ref f14))) (l14 : K.lookup f14 = some ⟨oc14, od14, .func (PySem.W.fnOf "_law_names" "_law_names" (defArgs sNames) (defBody sNames) (defScope sNames) .none kV14 dc14 pm14 an14 cd14 ct14), sl14⟩) (c14 : PySem.W.codeIn K cd14 "_law_names" = true) (k14 : PySem.W.keepIn K (.ref f14) = true)
    (a15 : PySem.W.nsIn K mainGlobals "_law_once" = some (some (.ref f15))) (l15 : K.lookup f15 = some ⟨oc15, od15, .func (PySem.W.fnOf "_law_once" "_law_once" (defArgs sOnce) (defBody sOnce) (defScope sOnce) .none kV15 dc15 pm15 an15 cd15 ct15), sl15⟩) (c15 : PySem.W.codeIn K cd15 "_law_once" = true) (k15 : PySem.W.keepIn K (.ref f15) = true)
    (a16 : PySem.W.nsIn K mainGlobals "_law_index" = some (some (.ref f16))) (l16 : K.lookup f16 = some ⟨oc16, od16, .func (PySem.W.fnOf "_law_index" "_law_index" (defArgs sIndex) (defBody sIndex) (defScope sIndex) .none kV16 dc16 pm16 an16 cd16 ct16), sl16⟩) (c16 : PySem.W.codeIn K cd16 "_law_index" = true) (k16 : PySem.W.keepIn K (.ref f16) = true)
    (a17 : PySem.W.nsIn K mainGlobals "_law_indexes" = some (some (.ref f17))) (l17 : K.lookup f17 = some ⟨oc17, od17, .func (PySem.W.fnOf "_law_indexes" "_law_indexes" (defArgs sIndexes) (defBody sIndexes) (defScope sIndexes) .none kV17 dc17 pm17 an17 cd17 ct17), sl17⟩) (c17 : PySem.W.codeIn K cd17 "_law_indexes" = true) (k17 : PySem.W.keepIn K (.ref f17) = true)
    (a18 : PySem.W.nsIn K mainGlobals "_law_served_by" = some (some (.ref f18))) (l18 : K.lookup f18 = some ⟨oc18, od18, .func (PySem.W.fnOf "_law_served_by" "_law_served_by" (defArgs sServedBy) (defBody sServedBy) (defScope sServedBy) .none kV18 dc18 pm18 an18 cd18 ct18), sl18⟩) (c18 : PySem.W.codeIn K cd18 "_law_served_by" = true) (k18 : PySem.W.keepIn K (.ref f18) = true)
    (a19 : PySem.W.nsIn K mainGlobals "_law_family" = some (some (.ref f19))) (l19 : K.lookup f19 = some ⟨oc19, od19, .func (PySem.W.fnOf "_law_family" "_law_family" (defArgs sFamily) (defBody sFamily) (defScope sFamily) .none kV19 dc19 pm19 an19 cd19 ct19), sl19⟩) (c19 : PySem.W.codeIn K cd19 "_law_family" = true) (k19 : PySem.W.keepIn K (.ref f19) = true)
    (a20 : PySem.W.nsIn K mainGlobals "_law_alike" = some (some (.ref f20))) (l20 : K.lookup f20 = some ⟨oc20, od20, .func (PySem.W.fnOf "_law_alike" "_law_alike" (defArgs sAlike) (defBody sAlike) (defScope sAlike) .none kV20 dc20 pm20 an20 cd20 ct20), sl20⟩) (c20 : PySem.W.codeIn K cd20 "_law_alike" = true) (k20 : PySem.W.keepIn K (.ref f20) = true)
    (a21 : PySem.W.nsIn K mainGlobals "_law_crossed" = some (some (.ref f21))) (l21 : K.lookup f21 = some ⟨oc21, od21, .func (PySem.W.fnOf "_law_crossed" "_law_crossed" (defArgs sCrossed) (defBody sCrossed) (defScope sCrossed) .none kV21 dc21 pm21 an21 cd21 ct21), sl21⟩) (c21 : PySem.W.codeIn K cd21 "_law_crossed" = true) (k21 : PySem.W.keepIn K (.ref f21) = true)
    (a22 : PySem.W.nsIn K mainGlobals "_law_left_out" = some (some (.ref f22))) (l22 : K.lookup f22 = some ⟨oc22, od22, .func (PySem.W.fnOf "_law_left_out" "_law_left_out" (defArgs sLeftOut) (defBody sLeftOut) (defScope sLeftOut) .none kV22 dc22 pm22 an22 cd22 ct22), sl22⟩) (c22 : PySem.W.codeIn K cd22 "_law_left_out" = true) (k22 : PySem.W.keepIn K (.ref f22) = true)
    (a23 : PySem.W.nsIn K mainGlobals "_law_pruned" = some (some (.ref f23))) (l23 : K.lookup f23 = some ⟨oc23, od23, .func (PySem.W.fnOf "_law_pruned" "_law_pruned" (defArgs sLPruned) (defBody sLPruned) (defScope sLPruned) .none kV23 dc23 pm23 an23 cd23 ct23), sl23⟩) (c23 : PySem.W.codeIn K cd23 "_law_pruned" = true) (k23 : PySem.W.keepIn K (.ref f23) = true)
    (a24 : PySem.W.nsIn K mainGlobals "law" = some (some (.ref f24))) (l24 : K.lookup f24 = some ⟨oc24, od24, .func (PySem.W.fnOf "law" "law" (defArgs sLaw) (defBody sLaw) (defScope sLaw) .none kV24 dc24 pm24 an24 cd24 ct24), sl24⟩) (c24 : PySem.W.codeIn K cd24 "law" = true) (k24 : PySem.W.keepIn K (.ref f24) = true)
    (aC : PySem.W.nsIn K mainGlobals "Shelf" = some (some (.ref C)))
    (aL : PySem.W.nsIn K mainGlobals "LONGEST_COLUMN" = some (some (.int 8 tL)))
    (aM : PySem.W.nsIn K mainGlobals "LIMIT" = some (some (.int 48 tM)))
    (aI : PySem.W.findIn K (.ref C) "__init__" = some (some (.ref fI))) (iI : PySem.W.isFn K (.ref fI) = true) (lI : K.lookup fI = some ⟨ocI, odI, .func (PySem.W.fnOf "__init__" "Shelf.__init__" (defArgs sInit) (defBody sInit) (defScope sInit) .none kVI dcI pmI anI cdI ctI), slI⟩) (cI : PySem.W.codeIn K cdI "Shelf.__init__" = true) (kI : PySem.W.keepIn K (.ref fI) = true)
    (aJ : PySem.W.findIn K (.ref C) "__iter__" = some (some (.ref fJ))) (iJ : PySem.W.isFn K (.ref fJ) = true) (lJ : K.lookup fJ = some ⟨ocJ, odJ, .func (PySem.W.fnOf "__iter__" "Shelf.__iter__" (defArgs sIter) (defBody sIter) (defScope sIter) .none kVJ dcJ pmJ anJ cdJ ctJ), slJ⟩) (cJ : PySem.W.codeIn K cdJ "Shelf.__iter__" = true) (kJ : PySem.W.keepIn K (.ref fJ) = true)
    (aN : PySem.W.findIn K (.ref C) "__len__" = some (some (.ref fN))) (iN : PySem.W.isFn K (.ref fN) = true) (lN : K.lookup fN = some ⟨ocN, odN, .func (PySem.W.fnOf "__len__" "Shelf.__len__" (defArgs sLen) (defBody sLen) (defScope sLen) .none kVN dcN pmN anN cdN ctN), slN⟩) (cN : PySem.W.codeIn K cdN "Shelf.__len__" = true) (kN : PySem.W.keepIn K (.ref fN) = true)
    (aX : PySem.W.findIn K (.ref C) "indexes" = some (some (.ref fX))) (iX : PySem.W.isFn K (.ref fX) = true) (lX : K.lookup fX = some ⟨ocX, odX, .func (PySem.W.fnOf "indexes" "Shelf.indexes" (defArgs sIxsM) (defBody sIxsM) (defScope sIxsM) .none kVX dcX pmX anX cdX ctX), slX⟩) (cX : PySem.W.codeIn K cdX "Shelf.indexes" = true) (kX : PySem.W.keepIn K (.ref fX) = true)
    (pg : PySem.W.plainGet K C Str.empty = true) (hd : PySem.W.hasDictIn K C = true) (po : PySem.W.plainOver K C = true) (sa : PySem.W.findIn K (.ref C) "__setattr__" = some (some (.builtin "object.__setattr__"))) (mk : PySem.W.makesIn K C = true) (kc : PySem.W.keepIn K (.ref C) = true) (nQ : PySem.W.findIn K (.ref C) "_indexes" = some none)
    (ha : PySem.W.findIn K (.ref C) "__class__" = some (some (.builtin "object.__class__"))) (hn : PySem.W.specialIn K (.builtin "object.__class__") "__get__" = some (some (.builtin "getset_descriptor.__get__"))) (ht : PySem.W.takesIn K (.builtin "object.__class__") = some true) (hm : PySem.W.mroIn K C (.type "object") = some true)
    (zlen : PySem.W.nsIn K mainGlobals "len" = some none) (zint : PySem.W.nsIn K mainGlobals "int" = some none) (zabs : PySem.W.nsIn K mainGlobals "abs" = some none) (ztuple : PySem.W.nsIn K mainGlobals "tuple" = some none) (zsorted : PySem.W.nsIn K mainGlobals "sorted" = some none) (zrange : PySem.W.nsIn K mainGlobals "range" = some none) (zrepr : PySem.W.nsIn K mainGlobals "repr" = some none) (zlist : PySem.W.nsIn K mainGlobals "list" = some none) (zset : PySem.W.nsIn K mainGlobals "set" = some none) (zisinstance : PySem.W.nsIn K mainGlobals "isinstance" = some none) (zstr : PySem.W.nsIn K mainGlobals "str" = some none) (zall : PySem.W.nsIn K mainGlobals "all" = some none) (zenumerate : PySem.W.nsIn K mainGlobals "enumerate" = some none) (ziter : PySem.W.nsIn K mainGlobals "iter" = some none) :
    ∃ fd : FuncData, (∀ (s : Shared) (v : Value), BindsTo s fd ⟨[v], []⟩ [("_law_script", v)]) ∧ ∀ base : Heap, K.In base → base.Ns mainGlobals mg → FnG l.prog w K mg base 8 fa fd ["_law_script"] (spLaw K) := by
  have e := hfa.symm.trans (PySem.W.mg_of X G a24)
  cases e
  have T : Txt K mg := ⟨PySem.W.mg_none_of X G zlen, PySem.W.mg_none_of X G zint, PySem.W.mg_none_of X G zabs, PySem.W.mg_none_of X G ztuple, PySem.W.mg_none_of X G zsorted, PySem.W.mg_none_of X G zrange, PySem.W.mg_none_of X G zrepr, PySem.W.mg_none_of X G zlist, PySem.W.mg_none_of X G zset, PySem.W.mg_none_of X G zisinstance, PySem.W.mg_none_of X G zstr, PySem.W.mg_none_of X G zall, PySem.W.mg_none_of X G zenumerate, PySem.W.mg_none_of X G ziter, ⟨tL, PySem.W.mg_of X G aL⟩, ⟨tM, PySem.W.mg_of X G aM⟩⟩
  have TC : TxC K mg C := ⟨⟨pg, hd, po, sa⟩, nQ, PySem.W.mg_of X G aC, ha, hn, ht, hm⟩
  have FI := fun_mk (st := sInit) lI cI kI
  have bI := FI.binds (ps := ["self", "indexes"]) fun _ _ _ _ _ _ us hl => match us, hl with | [_, _], _ => rfl
  have FJ := fun_mk (st := sIter) lJ cJ kJ
  have bJ := FJ.binds (ps := ["self"]) fun _ _ _ _ _ _ us hl => match us, hl with | [_], _ => rfl
  have FN := fun_mk (st := sLen) lN cN kN
  have bN := FN.binds (ps := ["self"]) fun _ _ _ _ _ _ us hl => match us, hl with | [_], _ => rfl
  have FX := fun_mk (st := sIxsM) lX cX kX
  have bX := FX.binds (ps := ["self"]) fun _ _ _ _ _ _ us hl => match us, hl with | [_], _ => rfl
  have F1 := fun_mk (st := sIsCol) l1 c1 k1
  have b1 := F1.binds (ps := ["thing"]) fun _ _ _ _ _ _ us hl => match us, hl with | [_], _ => rfl
  have F2 := fun_mk (st := sAreDiff) l2 c2 k2
  have b2 := F2.binds (ps := ["things"]) fun _ _ _ _ _ _ us hl => match us, hl with | [_], _ => rfl
  have F3 := fun_mk (st := sIsIndex) l3 c3 k3
  have b3 := F3.binds (ps := ["thing"]) fun _ _ _ _ _ _ us hl => match us, hl with | [_], _ => rfl
  have F4 := fun_mk (st := sAreIxs) l4 c4 k4
  have b4 := F4.binds (ps := ["thing"]) fun _ _ _ _ _ _ us hl => match us, hl with | [_], _ => rfl
  have F5 := fun_mk (st := sQof) l5 c5 k5
  have b5 := F5.binds (ps := ["index"]) fun _ _ _ _ _ _ us hl => match us, hl with | [_], _ => rfl
  have F6 := fun_mk (st := sCountSv) l6 c6 k6
  have b6 := F6.binds (ps := ["shelf"]) fun _ _ _ _ _ _ us hl => match us, hl with | [_], _ => rfl
  have F7 := fun_mk (st := sIsSpare) l7 c7 k7
  have b7 := F7.binds (ps := ["index", "many"]) fun _ _ _ _ _ _ us hl => match us, hl with | [_, _], _ => rfl
  have F8 := fun_mk (st := sNeedless) l8 c8 k8
  have b8 := F8.binds (ps := ["shelf"]) fun _ _ _ _ _ _ us hl => match us, hl with | [_], _ => rfl
  have F9 := fun_mk (st := sPruned) l9 c9 k9
  have b9 := F9.binds (ps := ["shelf"]) fun _ _ _ _ _ _ us hl => match us, hl with | [_], _ => rfl
  have F10 := fun_mk (st := sBag) l10 c10 k10
  have b10 := F10.binds (ps := ["_law_script"]) fun _ _ _ _ _ _ us hl => match us, hl with | [_], _ => rfl
  have F11 := fun_mk (st := sTake) l11 c11 k11
  have b11 := F11.binds (ps := ["_law_bag_here", "_law_many"]) fun _ _ _ _ _ _ us hl => match us, hl with | [_, _], _ => rfl
  have F12 := fun_mk (st := sOne) l12 c12 k12
  have b12 := F12.binds (ps := ["_law_bag_here", "_law_some"]) fun _ _ _ _ _ _ us hl => match us, hl with | [_, _], _ => rfl
  have F13 := fun_mk (st := sMixed) l13 c13 k13
  have b13 := F13.binds (ps := ["_law_bag_here", "_law_things"]) fun _ _ _ _ _ _ us hl => match us, hl with | [_, _], _ => rfl
  have F14 := fun_mk (st := sNames) l14 c14 k14
  have b14 := F14.binds (ps := ["_law_bag_here", "_law_many"]) fun _ _ _ _ _ _ us hl => match us, hl with | [_, _], _ => rfl
  have F15 := fun_mk (st := sOnce) l15 c15 k15
  have b15 := F15.binds (ps := ["_law_some"]) fun _ _ _ _ _ _ us hl => match us, hl with | [_], _ => rfl
  have F16 := fun_mk (st := sIndex) l16 c16 k16
  have b16 := F16.binds (ps := ["_law_bag_here", "_law_names_here"]) fun _ _ _ _ _ _ us hl => match us, hl with | [_, _], _ => rfl
  have F17 := fun_mk (st := sIndexes) l17 c17 k17
  have b17 := F17.binds (ps := ["_law_bag_here", "_law_names_here", "_law_most"]) fun _ _ _ _ _ _ us hl => match us, hl with | [_, _, _], _ => rfl
  have F18 := fun_mk (st := sServedBy) l18 c18 k18
  have b18 := F18.binds (ps := ["_law_index_here"]) fun _ _ _ _ _ _ us hl => match us, hl with | [_], _ => rfl
  have F19 := fun_mk (st := sFamily) l19 c19 k19
  have b19 := F19.binds (ps := ["_law_indexes_here"]) fun _ _ _ _ _ _ us hl => match us, hl with | [_], _ => rfl
  have F20 := fun_mk (st := sAlike) l20 c20 k20
  have b20 := F20.binds (ps := ["_law_found", "_law_due"]) fun _ _ _ _ _ _ us hl => match us, hl with | [_, _], _ => rfl
  have F21 := fun_mk (st := sCrossed) l21 c21 k21
  have b21 := F21.binds (ps := ["_law_bag_here", "_law_names_here"]) fun _ _ _ _ _ _ us hl => match us, hl with | [_, _], _ => rfl
  have F22 := fun_mk (st := sLeftOut) l22 c22 k22
  have b22 := F22.binds (ps := ["_law_some", "_law_at"]) fun _ _ _ _ _ _ us hl => match us, hl with | [_, _], _ => rfl
  have F23 := fun_mk (st := sLPruned) l23 c23 k23
  have b23 := F23.binds (ps := ["_law_some"]) fun _ _ _ _ _ _ us hl => match us, hl with | [_], _ => rfl
  have F24 := fun_mk (st := sLaw) l24 c24 k24
  have b24 := F24.binds (ps := ["_law_script"]) fun _ _ _ _ _ _ us hl => match us, hl with | [_], _ => rfl
  refine ⟨PySem.W.fnOf "law" "law" (defArgs sLaw) (defBody sLaw) (defScope sLaw) .none kV24 dc24 pm24 an24 cd24 ct24, fun s v => .of_eq rfl, fun base _ _ => ?_⟩
  let c_1 : Cal l.prog w K mg base 1 "is_column" ["thing"] (spText K colS) := ⟨_, _, ok_iscol F1 T, PySem.W.mg_of X G a1, k1, b1⟩
  let c_2 : Cal l.prog w K mg base 2 "are_different_columns" ["things"] (spRowT) := ⟨_, _, ok_arediff F2 T c_1, PySem.W.mg_of X G a2, k2, b2⟩
  let c_3 : Cal l.prog w K mg base 3 "is_index" ["thing"] (spRowT) := ⟨_, _, ok_isindex F3 T c_2, PySem.W.mg_of X G a3, k3, b3⟩
  let c_4 : Cal l.prog w K mg base 4 "are_indexes" ["thing"] (spAreIxs) := ⟨_, _, ok_areixs F4 T c_3, PySem.W.mg_of X G a4, k4, b4⟩
  have GJ : FnS l.prog w K mg base 1 fJ _ ["self"] (spIterF C "_indexes") := ok_itr FJ T TC
  have GN : FnOk l.prog w K mg base CX0 1 fN _ ["self"] (spLenF C "_indexes") := ok_len FN T TC
  have GX : FnOk l.prog w K mg base CX0 1 fX _ ["self"] (spIxsM C) := ok_ixsm FX T TC
  have GI : FnOk l.prog w K mg base CX0 5 fI _ ["self", "indexes"] (spInitS C) := ok_init FI T TC c_4
  let c_5 : Cal l.prog w K mg base 1 "questions_of" ["index"] (spQof) := ⟨_, _, ok_qof F5 T, PySem.W.mg_of X G a5, k5, b5⟩
  let c_6 : Cal l.prog w K mg base 2 "count_servers" ["shelf"] (spCnt l.prog w C) := ⟨_, _, ok_cnt F6 T ⟨aJ, iJ⟩ GJ bJ c_5, PySem.W.mg_of X G a6, k6, b6⟩
  let c_7 : Cal l.prog w K mg base 2 "is_spare" ["index", "many"] (spSpare l.prog w) := ⟨_, _, ok_spare F7 T c_5, PySem.W.mg_of X G a7, k7, b7⟩
  let c_8 : Cal l.prog w K mg base 4 "needless" ["shelf"] (spNeedless C) := ⟨_, _, ok_needless F8 T ⟨aJ, iJ⟩ GJ bJ c_6 c_7, PySem.W.mg_of X G a8, k8, b8⟩
  let c_9 : Cal l.prog w K mg base 7 "pruned" ["shelf"] (spPruned C) := ⟨_, _, ok_pruned F9 T TC ⟨mk, aI, iI, kc⟩ GI bI ⟨aX, iX, kX⟩ GX bX c_5 c_6 c_7, PySem.W.mg_of X G a9, k9, b9⟩
  let c_10 : Cal l.prog w K mg base 1 "_law_bag" ["_law_script"] (spBag K) := ⟨_, _, ok_bag F10 T, PySem.W.mg_of X G a10, k10, b10⟩
  let c_11 : Cal l.prog w K mg base 1 "_law_take" ["_law_bag_here", "_law_many"] (spTake) := ⟨_, _, ok_take F11 T, PySem.W.mg_of X G a11, k11, b11⟩
  let c_12 : Cal l.prog w K mg base 2 "_law_one" ["_law_bag_here", "_law_some"] (spOne) := ⟨_, _, ok_one F12 T c_11, PySem.W.mg_of X G a12, k12, b12⟩
  let c_13 : Cal l.prog w K mg base 2 "_law_mixed" ["_law_bag_here", "_law_things"] (spMixed) := ⟨_, _, ok_mixed F13 T c_11, PySem.W.mg_of X G a13, k13, b13⟩
  let c_14 : Cal l.prog w K mg base 3 "_law_names" ["_law_bag_here", "_law_many"] (spNames) := ⟨_, _, ok_names F14 T c_13, PySem.W.mg_of X G a14, k14, b14⟩
  let c_15 : Cal l.prog w K mg base 1 "_law_once" ["_law_some"] (spOnce K) := ⟨_, _, ok_once F15 T, PySem.W.mg_of X G a15, k15, b15⟩
  let c_16 : Cal l.prog w K mg base 3 "_law_index" ["_law_bag_here", "_law_names_here"] (spIndex) := ⟨_, _, ok_index F16 T c_11 c_13, PySem.W.mg_of X G a16, k16, b16⟩
  let c_17 : Cal l.prog w K mg base 4 "_law_indexes" ["_law_bag_here", "_law_names_here", "_law_most"] (spIndexes) := ⟨_, _, ok_indexes F17 T c_11 c_12 c_13 c_16, PySem.W.mg_of X G a17, k17, b17⟩
  let c_18 : Cal l.prog w K mg base 1 "_law_served_by" ["_law_index_here"] (spServedBy) := ⟨_, _, ok_servedby F18 T, PySem.W.mg_of X G a18, k18, b18⟩
  let c_19 : Cal l.prog w K mg base 2 "_law_family" ["_law_indexes_here"] (spFamily) := ⟨_, _, ok_family F19 T c_18 c_15, PySem.W.mg_of X G a19, k19, b19⟩
  let c_20 : CalG l.prog w K mg base 1 "_law_alike" ["_law_found", "_law_due"] (spAlikeD K) := ⟨_, _, ok_alike F20 T, PySem.W.mg_of X G a20, k20, b20⟩
  let c_21 : Cal l.prog w K mg base 3 "_law_crossed" ["_law_bag_here", "_law_names_here"] (spCrossed) := ⟨_, _, ok_crossed F21 T c_11 c_13, PySem.W.mg_of X G a21, k21, b21⟩
  let c_22 : Cal l.prog w K mg base 1 "_law_left_out" ["_law_some", "_law_at"] (spLO) := ⟨_, _, ok_lo F22 T, PySem.W.mg_of X G a22, k22, b22⟩
  let c_23 : Cal l.prog w K mg base 3 "_law_pruned" ["_law_some"] (spLPr) := ⟨_, _, ok_lpr F23 T c_19 c_22, PySem.W.mg_of X G a23, k23, b23⟩
  exact ok_law F24 T TC ⟨mk, aI, iI, kc⟩ GI bI ⟨aJ, iJ⟩ GJ bJ ⟨aN, iN⟩ GN bN c_10 c_11 c_12 c_13 c_14 c_17 c_19 c_22 c_21 c_23 c_8 c_9 c_20
theorem walk {l : PySem.W.OpenLaw} {q : Program} {loose : List Str} {XP : (Str → Option Value) → Heap → Prop} {YP : World → Heap → Prop} {d : DefRec} {K : Params → PySem.W.Frag} (hn : l.most = some 63) (hdf : d.params.defaults = [])
    (hY : ∀ (w : World) (h : Heap), YP w h → (K w.params).In h)
    (F : ∀ (w : World) (mg : Str → Option Value) (fa : Addr) (h : Heap), (K w.params).In h → h.Ns mainGlobals mg → mg d.name = some (.ref fa) →
      ∃ fd : FuncData, (∀ (s : Shared) (u : Value), BindsTo s fd ⟨[u], []⟩ [("_law_script", u)]) ∧ ∀ base : Heap, (K w.params).In base → base.Ns mainGlobals mg → FnG l.prog w (K w.params) mg base 8 fa fd ["_law_script"] (spLaw (K w.params))) :
    PySem.W.WalkO q loose XP YP l.row.toRowW d [] (fun f vs => PySem.call f vs) :=
  walk_g (n := 63) (k := 8) (x := "_law_script") (sp := fun w => spLaw (K w.params)) hn (by decide) hdf ⟨rfl, by decide, by decide⟩ hY F (fun _ _ a ns hl _ hS => ⟨a, ns, rfl, hS, hl, fun _ => rfl⟩)
end Qk
open PySem PySem.W PyProof.Rows
set_option maxRecDepth 100000 in
set_option maxHeartbeats 0 in
theorem PySem.Challenge.cw_narrowkeys_k34_needless_indexes_holds : PySem.Challenge.rw_narrowkeys_k34_needless_indexes.Holds := by
  w_on; o_law; k_head; (case hw => w_witness2)
  k_fill
  refine Qk.walk (l := PySem.Challenge.rw_narrowkeys_k34_needless_indexes) rfl rfl (fun w h Y => PySem.W.kIn_of Y) ?F
  case F =>
    intro w mg fa h KX G hmg
    refine' Qk.all_mk KX G hmg ?a1 ?l1 ?c1 ?k1 ?a2 ?l2 ?c2 ?k2 ?a3 ?l3 ?c3 ?k3 ?a4 ?l4 ?c4 ?k4 ?a5 ?l5 ?c5 ?k5 ?a6 ?l6 ?c6 ?k6 ?a7 ?l7 ?c7 ?k7 ?a8 ?l8 ?c8 ?k8 ?a9 ?l9 ?c9 ?k9 ?a10 ?l10 ?c10 ?k10 ?a11 ?l11 ?c11 ?k11 ?a12 ?l12 ?c12 ?k12 ?a13 ?l13 ?c13 ?k13 ?a14 ?l14 ?c14 ?k14 ?a15 ?l15 ?c15 ?k15 ?a16 ?l16 ?c16 ?k16 ?a17 ?l17 ?c17 ?k17 ?a18 ?l18 ?c18 ?k18 ?a19 ?l19 ?c19 ?k19 ?a20 ?l20 ?c20 ?k20 ?a21 ?l21 ?c21 ?k21 ?a22 ?l22 ?c22 ?k22 ?a23 ?l23 ?c23 ?k23 ?a24 ?l24 ?c24 ?k24 ?aC ?aL ?aM ?aI ?iI ?lI ?cI ?kI ?aJ ?iJ ?lJ ?cJ ?kJ ?aN ?iN ?lN ?cN ?kN ?aX ?iX ?lX ?cX ?kX ?pg ?hd ?po ?sa ?mk ?kc ?nQ ?ha ?hn ?ht ?hm ?zlen ?zint ?zabs ?ztuple ?zsorted ?zrange ?zrepr ?zlist ?zset ?zisinstance ?zstr ?zall ?zenumerate ?ziter
    (case a1 => k_is)
    (case l1 => k_is)
    (case c1 => k_is)
    (case k1 => k_is)
    (case a2 => k_is)
    (case l2 => k_is)
    (case c2 => k_is)
    (case k2 => k_is)
    (case a3 => k_is)
    (case l3 => k_is)
    (case c3 => k_is)
    (case k3 => k_is)
    (case a4 => k_is)
    (case l4 => k_is)
    (case c4 => k_is)
    (case k4 => k_is)
    (case a5 => k_is)
    (case l5 => k_is)
    (case c5 => k_is)
    (case k5 => k_is)
    (case a6 => k_is)
    (case l6 => k_is)
    (case c6 => k_is)
    (case k6 => k_is)
    (case a7 => k_is)
    (case l7 => k_is)
    (case c7 => k_is)
    (case k7 => k_is)
    (case a8 => k_is)
    (case l8 => k_is)
    (case c8 => k_is)
    (case k8 => k_is)
    (case a9 => k_is)
    (case l9 => k_is)
    (case c9 => k_is)
    (case k9 => k_is)
    (case a10 => k_is)
    (case l10 => k_is)
    (case c10 => k_is)
    (case k10 => k_is)
    (case a11 => k_is)
    (case l11 => k_is)
    (case c11 => k_is)
    (case k11 => k_is)
    (case a12 => k_is)
    (case l12 => k_is)
    (case c12 => k_is)
    (case k12 => k_is)
    (case a13 => k_is)
    (case l13 => k_is)
    (case c13 => k_is)
    (case k13 => k_is)
    (case a14 => k_is)
    (case l14 => k_is)
    (case c14 => k_is)
    (case k14 => k_is)
    (case a15 => k_is)
    (case l15 => k_is)
    (case c15 => k_is)
    (case k15 => k_is)
    (case a16 => k_is)
    (case l16 => k_is)
    (case c16 => k_is)
    (case k16 => k_is)
    (case a17 => k_is)
    (case l17 => k_is)
    (case c17 => k_is)
    (case k17 => k_is)
    (case a18 => k_is)
    (case l18 => k_is)
    (case c18 => k_is)
    (case k18 => k_is)
    (case a19 => k_is)
    (case l19 => k_is)
    (case c19 => k_is)
    (case k19 => k_is)
    (case a20 => k_is)
    (case l20 => k_is)
    (case c20 => k_is)
    (case k20 => k_is)
    (case a21 => k_is)
    (case l21 => k_is)
    (case c21 => k_is)
    (case k21 => k_is)
    (case a22 => k_is)
    (case l22 => k_is)
    (case c22 => k_is)
    (case k22 => k_is)
    (case a23 => k_is)
    (case l23 => k_is)
    (case c23 => k_is)
    (case k23 => k_is)
    (case a24 => k_is)
    (case l24 => k_is)
    (case c24 => k_is)
    (case k24 => k_is)
    (case aC => first | k_is | rfl)
    (case aL => first | k_is | rfl)
    (case aM => first | k_is | rfl)
    (case aI => first | k_is | rfl)
    (case iI => first | k_is | rfl)
    (case lI => first | k_is | rfl)
    (case cI => first | k_is | rfl)
    (case kI => first | k_is | rfl)
    (case aJ => first | k_is | rfl)
    (case iJ => first | k_is | rfl)
    (case lJ => first | k_is | rfl)
    (case cJ => first | k_is | rfl)
    (case kJ => first | k_is | rfl)
    (case aN => first | k_is | rfl)
    (case iN => first | k_is | rfl)
    (case lN => first | k_is | rfl)
    (case cN => first | k_is | rfl)
    (case kN => first | k_is | rfl)
    (case aX => first | k_is | rfl)
    (case iX => first | k_is | rfl)
    (case lX => first | k_is | rfl)
    (case cX => first | k_is | rfl)
    (case kX => first | k_is | rfl)
    (case pg => first | k_is | rfl)
    (case hd => first | k_is | rfl)
    (case po => first | k_is | rfl)
    (case sa => first | k_is | rfl)
    (case mk => first | k_is | rfl)
    (case kc => first | k_is | rfl)
    (case nQ => first | k_is | rfl)
    (case ha => first | k_is | rfl)
    (case hn => first | k_is | rfl)
    (case ht => first | k_is | rfl)
    (case hm => first | k_is | rfl)
    (case zlen => k_is)
    (case zint => k_is)
    (case zabs => k_is)
    (case ztuple => k_is)
    (case zsorted => k_is)
    (case zrange => k_is)
    (case zrepr => k_is)
    (case zlist => k_is)
    (case zset => k_is)
    (case zisinstance => k_is)
    (case zstr => k_is)
    (case zall => k_is)
    (case zenumerate => k_is)
    (case ziter => k_is)
#print axioms PySem.Challenge.cw_narrowkeys_k34_needless_indexes_holds
