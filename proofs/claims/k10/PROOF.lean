import PyProof.Rows.All
import Wide.All
import OpenK.AllK
import Wide.FinOn
import HandS.ForMost
import HandS.More
import HandS.TupAny
import HandS.Star
import HandS.Evl
import PyProof.Rows.StrMeet
import HandS.Walk
import PyProof.StrLawsRepr
import HandS.SortRule
import HandS.Deep
import KE.GoesEnum
import KE.GoesMore
import HandS.ExcInit
import HandS.ExcIs
import HandS.ExcField
import HandS.ExcValue
import HandS.IsInst
import KE.KExcIs
import KE.KExcInit
import KE.KExcMake
import PySem.Challenge.RW_narrowkeys_k10_errors_apart
set_option Elab.async false
set_option linter.all false
set_option maxRecDepth 100000
set_option maxHeartbeats 4000000
namespace Qk
open PySem PySem.Spec PyProof.Rows L2

/-! rules of my own: a list's item read for an augmented store, repr of flat values, sorted of a list or a tuple of texts -/
section
variable {X : Cx}

theorem get_list : PGet X (fun o i H Q => ∃ p xs j v, o = .ref p ∧ i = .int ((j : Nat) : Int) ∧ SqL X.K H p xs ∧ xs[j]? = some v ∧ Q v H) := by
  intro pins s σ H o i ov iv Q I ro ri h
  obtain ⟨p, xs, j, v, rfl, rfl, hx, ha, q⟩ := h
  cases ro
  obtain ⟨t, rfl⟩ := ri
  obtain ⟨its, r, pl, hz⟩ := I.list hx
  obtain ⟨w, ew, rw'⟩ := r.get ha
  have hj : j < xs.length := (List.getElem?_eq_some_iff.mp ha).1
  have hn := line63
  exact wpAny_getItem_list pl.isList (by omega) (by omega) (by simpa using ew) ⟨v, H, I, rw', q⟩

/-- flat values, as repr shows them -/
def flatText : V → Option Str
  | .non => some "None"
  | .bl b => some (if b then "True" else "False")
  | .int i => if i.natAbs.log2 < 1920 then some (toString i) else none
  | _ => none
def rReprF : List V → Hp → VK → Prop := fun vs H Q => ∃ x t, vs = [x] ∧ flatText x = some t ∧ Q (.str t) H
theorem call_reprF : CallR X (.builtin "repr") rReprF := by
  intro pins s σ H xs us Q I r h
  obtain ⟨x, t, rfl, e, q⟩ := h
  obtain ⟨u, rfl, rx⟩ := vals1 r
  cases x with
  | non =>
    cases rx
    obtain rfl := Option.some.inj e
    exact PySem.P.repr_of_none ⟨.str _, H, I.tok _, ⟨_, rfl⟩, q⟩
  | bl b =>
    cases rx
    obtain rfl := Option.some.inj e
    exact PySem.P.repr_of_bool ⟨.str _, H, I.tok _, ⟨_, rfl⟩, q⟩
  | int i =>
    obtain ⟨tk, rfl⟩ := rx
    replace e : (if i.natAbs.log2 < 1920 then some (Str.ofString (toString i)) else none) = some t := e
    by_cases hz : i.natAbs.log2 < 1920
    · rw [if_pos hz] at e
      obtain rfl := Option.some.inj e
      exact PySem.P.repr_of_int hz ⟨.str _, H, I.tok _, ⟨_, rfl⟩, q⟩
    · rw [if_neg hz] at e
      cases e
  | str _ => cases e
  | byt _ => cases e
  | flt _ => cases e
  | ref _ => cases e
  | ty _ => cases e

def rSortedST (K : PySem.W.Frag) : List V → Hp → VK → Prop := fun vs H Q => ∃ (a : Addr) (ss : List Str), vs = [V.ref a] ∧ (SqL K H a (ss.map V.str) ∨ SqT K H a (ss.map V.str)) ∧ ss.length < 64 ∧
  ∀ (ys : List Str) (p : Addr), ys.Perm ss → sortedS ys = true → H p = none → Q (.ref p) (upd H p (.lst (ys.map V.str)))
theorem cr_sortedST : CallR X (.builtin "sorted") (rSortedST X.K) := by
  intro pins s σ H vs us Q I r h
  obtain ⟨a, ss, rfl, hs, h64, q⟩ := h
  rcases hs with hs | hs
  · exact cr_sortedS pins s σ H _ us Q I r ⟨a, ss, rfl, hs, h64, q⟩
  · obtain ⟨its, rv, ⟨o, ho, hc, n, hd⟩, hz⟩ := I.tuple hs
    rw [Vals.ref1 r]
    have hS : StrsAre its ss := rv.strs
    have hl : its.length = ss.length := by
      have z := rv.length
      rw [List.length_map] at z
      exact z.symm
    refine Calls.call_function_entry PyProof.Rows.kind_sorted PyProof.Rows.plain_sorted PyProof.Rows.entry_sorted (PyProof.Rows.args_sorted1 _) ?_
    unfold Builtin.«sorted»
    refine wpAny_bind (m := checkCount "sorted" 1 1 _) (wpAny_pure ?_)
    refine wpAny_bind (wpAny_collect_seq a (.inr rfl) ho hc hd (fun h' hk => ?_) (by rw [List.size_toArray, hl, sizeLine_eq]; omega))
    have e0 : its.toArray.toList = its := by simp
    rw [e0]
    have I1 : Inv X pins σ H { s with heap := h' } := I.kept (t' := s.toks) hk
    refine wpAny_bind (wpAny_newList ?_ (by rw [hl, sizeLine_eq]; omega))
    have hoL : (h'.push (seqObj "list" its.toArray 0)).get? h'.objs.size = some (seqObj "list" its.toArray 0) := Heap.get?_push_size _ rfl
    show wpAny _ _ _ _ _ { s with heap := h'.push (seqObj "list" its.toArray 0) }
    refine wpAny_bind (wpAny_holding (wpAny_call_entry PyProof.Rows.slot_list_sort ⟨_, hoL, rfl⟩ PyProof.Rows.entry_list_sort
      (list_sort_treeK strKind_oneLt (s := { s with heap := h'.push (seqObj "list" its.toArray 0) }) hoL hS.keysOf (fun v₁ v₂ rest e => keyKind_strs (by rw [← e]; exact hS)) (by rw [hl]; exact h64) fun st' hp hs => ⟨_, rfl, ?_⟩)
      (PyProof.Rows.args_list_sort _)))
    obtain ⟨ys, g1, g2, g3⟩ := sorted_out_str hS hp hs
    obtain ⟨ep, he'⟩ := PyProof.Rows.sortedHeap_at (vs := its) (out := (arrOf st').map (·.2)) hoL
    have hlen : (ys.map V.str).length ≤ sizeLine := by
      rw [List.length_map, g2.length_eq]
      exact Nat.le_trans (Nat.le_of_lt h64) (by decide)
    have hfresh : H h'.objs.size = none := I1.hok.fresh (Nat.le_refl _)
    refine wpAny_pure ⟨_, rfl, .ref h'.objs.size, upd H h'.objs.size (.lst (ys.map V.str)), I1.laid (t' := s.toks) (fun b u hu => ?_) (Nat.le_refl _)
      (show ObjOk X.prog X.w _ _ h'.objs.size (.lst (ys.map V.str)) from ⟨hlen, ((arrOf st').map (·.2)).toList, ep, vals_of_strs g1, by rw [Array.toArray_toList]; exact he'⟩), rfl, q ys _ g2 g3 hfresh⟩
    have hb : b ≠ h'.objs.size := Nat.ne_of_lt (Heap.lt_size hu)
    have hu2 : (h'.push (seqObj "list" its.toArray 0)).get? b = some u := Heap.get?_push_of_some _ hu
    rw [PyProof.Rows.sortedHeap_old hb (Heap.lt_size hu2)]
    exact hu2
end
end Qk

set_option maxRecDepth 100000
set_option maxHeartbeats 4000000
namespace Qk
open PySem PySem.Spec PyProof.Rows L2

/-! the law's bag of draws: what is known of it, and what a draw may touch -/
def Bag (H : Hp) (b l : Addr) : Prop := ∃ (h m : Int) (p : Nat) (ns : List Int), H b = some (.lst [.int h, .int m, .int (p : Int), .ref l]) ∧ H l = some (.lst (ns.map V.int)) ∧ l ≠ b ∧
  0 ≤ h ∧ 0 ≤ m ∧ m < 2147483647 ∧ ∀ n ∈ ns, 0 ≤ n
/-- all but b is kept -/
def Kp (b : Addr) (H H' : Hp) : Prop := ∀ c o, H c = some o → c ≠ b → H' c = some o
theorem Kp.refl (b : Addr) (H : Hp) : Kp b H H := fun _ _ e _ => e
theorem Kp.trans {b : Addr} {H H1 H2 : Hp} (x : Kp b H H1) (y : Kp b H1 H2) : Kp b H H2 := fun c o e n => y c o (x c o e n) n
theorem Kp.of {b : Addr} {H H' : Hp} (s : Same H H') : Kp b H H' := fun c o e _ => s c o e
theorem Kp.at_ (b : Addr) (H : Hp) (o : HO) : Kp b H (upd H b o) := fun c u e n => by rw [upd_ne n]; exact e
theorem Kp.new {b p : Addr} {H : Hp} {o : HO} (hp : H p = none) : Kp b H (L2.upd H p o) := fun c u e _ => by rw [upd_ne (ne_of_none e hp)]; exact e
theorem Bag.at_ {H : Hp} {b l : Addr} (B : Bag H b l) : ∃ o, H b = some o := by
  obtain ⟨h, m, p, ns, hb, _⟩ := B
  exact ⟨_, hb⟩
theorem Bag.same {H H' : Hp} {b l : Addr} (s : Same H H') (B : Bag H b l) : Bag H' b l := by
  obtain ⟨h, m, p, ns, hb, hl, r⟩ := B
  exact ⟨h, m, p, ns, s _ _ hb, s _ _ hl, r⟩
theorem same_new {H : Hp} {p : Addr} {o : HO} (h : H p = none) : Same H (upd H p o) := fun b x e => by
  rw [upd_ne (ne_of_none e h)]
  exact e
theorem Bag.new {H : Hp} {b l p : Addr} {o : HO} (B : Bag H b l) (h : H p = none) : Bag (upd H p o) b l := B.same (same_new h)
theorem Bag.ne {H : Hp} {b l p : Addr} (B : Bag H b l) (h : H p = none) : p ≠ b := by
  obtain ⟨o, e⟩ := B.at_
  exact (ne_of_none e h).symm
/-- the bag stands nowhere where something of another kind stands -/
theorem Bag.ne_tup {H : Hp} {b l p : Addr} {xs : List V} (B : Bag H b l) (h : H p = some (.tup xs)) : p ≠ b := by
  obtain ⟨h', m, q, ns, hb, _⟩ := B
  exact ne_of h hb (by intro z; cases z)
theorem Bag.ne_strs {H : Hp} {b l p : Addr} {xs : List Str} (B : Bag H b l) (h : H p = some (.lst (xs.map V.str))) : p ≠ b := by
  obtain ⟨h', m, q, ns, hb, _⟩ := B
  refine ne_of h hb fun z => ?_
  injection z with z
  cases xs with
  | nil => cases z
  | cons x xs =>
    rw [List.map_cons] at z
    injection z with z _
    cases z
/-- what stands beside the bag and its list may change -/
theorem Bag.off {H H' : Hp} {b l p : Addr} (B : Bag H b l) (h : ∀ c o, H c = some o → c ≠ p → H' c = some o) (nb : b ≠ p) (nl : l ≠ p) : Bag H' b l := by
  obtain ⟨h', m, q, ns, hb, hl, r⟩ := B
  exact ⟨h', m, q, ns, h _ _ hb nb, h _ _ hl nl, r⟩
theorem Bag.list {H : Hp} {b l : Addr} (B : Bag H b l) : ∃ o, H l = some o := by
  obtain ⟨h, m, p, ns, hb, hl, _⟩ := B
  exact ⟨_, hl⟩
theorem Bag.nel {H : Hp} {b l p : Addr} (B : Bag H b l) (h : H p = none) : l ≠ p := by
  obtain ⟨o, e⟩ := B.list
  exact ne_of_none e h
theorem Bag.upd {H : Hp} {b l p : Addr} {o : HO} (B : Bag H b l) (nb : b ≠ p) (nl : l ≠ p) : Bag (L2.upd H p o) b l :=
  B.off (fun c u e n => by rw [upd_ne n]; exact e) nb nl
theorem rIx {K : PySem.W.Frag} {H : Hp} {b : Addr} {xs : List V} {v : V} {Q : VK} (j : Nat) (h : H b = some (.lst xs)) (e : xs[j]? = some v) (q : Q v H) : rIxL K (.ref b) (.int (j : Int)) H Q :=
  ⟨b, xs, (j : Int), v, rfl, rfl, SqL.of h, atI_nat e, q⟩
theorem setIx {H : Hp} {b : Addr} {xs : List V} {v : V} {Q : Hp → Prop} (j : Nat) (h : H b = some (.lst xs)) (e : j < xs.length) (q : Q (upd H b (.lst (xs.set j v)))) : rSetL (.ref b) (.int (j : Int)) v H Q :=
  ⟨b, xs, (j : Int), j, rfl, rfl, h, Evl.ixN_nat e, q⟩

/-! promises of the law's own helpers -/
/-- a draw: a number below many, the bag moves on -/
def spTake : Sp := fun vs H Q _ => ∃ (b l : Addr) (n : Int), vs = [.ref b, .int n] ∧ Bag H b l ∧ 0 < n ∧ n < 1000000 ∧ ∀ (k : Nat) (H' : Hp), (k : Int) < n → Bag H' b l → Kp b H H' → Q (.int (k : Int)) H'
/-- one of a list -/
def spOne : Sp := fun vs H Q _ => ∃ (b l a : Addr) (xs : List V), vs = [.ref b, .ref a] ∧ Bag H b l ∧ a ≠ b ∧ H a = some (.lst xs) ∧ xs ≠ [] ∧ xs.length < 1000 ∧ ∀ (x : V) (H' : Hp), x ∈ xs → Bag H' b l → Kp b H H' → Q x H'
/-- a new list of the same things in some order -/
def spMixed : Sp := fun vs H Q _ => ∃ (b l a : Addr) (xs : List V), vs = [.ref b, .ref a] ∧ Bag H b l ∧ a ≠ b ∧ H a = some (.lst xs) ∧ xs.length < 1000 ∧
  ∀ (ys : List V) (p : Addr) (H' : Hp), ys.Perm xs → H p = none → p ≠ b → H' p = some (.lst ys) → Bag H' b l → Kp b H H' → Q (.ref p) H'

/-- the bag of a script -/
def spBag (K : PySem.W.Frag) : Sp := fun vs H Q _ => ∃ (a : Addr) (ns : List Int), vs = [.ref a] ∧ SqL K H a (ns.map V.int) ∧ ns.length ≤ 63 ∧ ∀ (b l : Addr) (H' : Hp), H b = none → Bag H' b l → Same H H' → Q (.ref b) H'
/-- a def that is called by its name -/
structure Cal (P : Program) (w : World) (K : PySem.W.Frag) (mg : Str → Option Value) (base : Heap) (k : Nat) (x : Str) (ps : List Str) (sp : Sp) where
  f : Addr
  fd : FuncData
  G : FnOk P w K mg base CX0 k f fd ps sp
  m : mg x = some (.ref f)
  kp : PySem.W.keepIn K (.ref f) = true
  b : Binds K fd ps []
theorem cut_to (k : Nat) (xs : List V) : cutV xs none (some (k : Int)) = xs.take k := by
  unfold cutV
  rw [HT.sIx_none, HT.sIx_nat, List.drop_zero, Nat.sub_zero]
  by_cases h : k ≤ xs.length
  · rw [Nat.min_eq_left h]
  · rw [Nat.min_eq_right (by omega), List.take_of_length_le (Nat.le_refl _), List.take_of_length_le (by omega)]
theorem take_mod {k n : Int} (hn : 0 < n) : ∃ j : Nat, k % n = (j : Int) ∧ (j : Int) < n := by
  have h1 := Int.emod_nonneg k (show n ≠ 0 by omega)
  have h2 := Int.emod_lt_of_pos k hn
  exact ⟨(k % n).toNat, by omega, by omega⟩
/-- the names that the laws draw from -/
def menu : List Str := ["a", "b", "ab", "ba", "job", "view", "pin", "quay", "stock", "golfer", "exhumed", "zzzzzzzz"]
theorem menu_nodup : menu.Nodup := by decide +kernel
theorem perm_strs {ys : List V} {xs : List Str} (h : ys.Perm (xs.map V.str)) : ∃ zs : List Str, ys = zs.map V.str ∧ zs.Perm xs := by
  have go : ∀ (ys : List V), (∀ y ∈ ys, ∃ z, y = V.str z) → ∃ zs : List Str, ys = zs.map V.str := by
    intro ys
    induction ys with
    | nil => intro _; exact ⟨[], rfl⟩
    | cons y ys ih =>
      intro h
      obtain ⟨z, rfl⟩ := h y List.mem_cons_self
      obtain ⟨zs, rfl⟩ := ih fun y hy => h y (List.mem_cons_of_mem _ hy)
      exact ⟨z :: zs, rfl⟩
  obtain ⟨zs, rfl⟩ := go ys fun y hy => by
    obtain ⟨z, _, e⟩ := List.mem_map.mp (h.mem_iff.mp hy)
    exact ⟨z, e.symm⟩
  refine ⟨zs, rfl, ?_⟩
  have unstr : ∀ l : List Str, (l.map V.str).map (fun v => match v with | .str z => z | _ => "") = l := fun l => by
    rw [List.map_map]
    exact (List.map_congr_left fun _ _ => rfl).trans (List.map_id _)
  have := h.map (fun v => match v with | .str z => z | _ => "")
  rwa [unstr, unstr] at this
/-- some of the menu's names, each once, n at most -/
structure Names (n : Nat) (xs : List Str) : Prop where
  nd : xs.Nodup
  sub : ∀ c ∈ xs, c ∈ menu
  len : xs.length = min n 12
def spNames : Sp := fun vs H Q _ => ∃ (b l : Addr) (n : Nat), vs = [.ref b, .int (n : Int)] ∧ Bag H b l ∧
  ∀ (xs : List Str) (p : Addr) (H' : Hp), Names n xs → H p = none → p ≠ b → H' p = some (.lst (xs.map V.str)) → Bag H' b l → Kp b H H' → Q (.ref p) H'
/-- a row of names -/
structure Row (xs : List Str) : Prop where
  nd : xs.Nodup
  sub : ∀ c ∈ xs, c ∈ menu
  pos : 0 < xs.length
  le : xs.length ≤ 12
theorem Names.row {n : Nat} {xs : List Str} (h : Names n xs) (hn : 0 < n) : Row xs := ⟨h.nd, h.sub, by rw [h.len]; omega, by rw [h.len]; omega⟩
/-- a question as it stands -/
def QAt (H : Hp) (q : Addr) (cols : List Str) (e : Str) : Prop := ∃ c, H q = some (.tup [.ref c, .str e]) ∧ H c = some (.tup (cols.map V.str))
theorem QAt.same {H H' : Hp} {q : Addr} {cols : List Str} {e : Str} (s : Same H H') (h : QAt H q cols e) : QAt H' q cols e := by
  obtain ⟨c, h1, h2⟩ := h
  exact ⟨c, s _ _ h1, s _ _ h2⟩
theorem QAt.kp {H H' : Hp} {q b l : Addr} {cols : List Str} {e : Str} (B : Bag H b l) (s : Kp b H H') (h : QAt H q cols e) : QAt H' q cols e := by
  obtain ⟨c, h1, h2⟩ := h
  exact ⟨c, s _ _ h1 (B.ne_tup h1), s _ _ h2 (B.ne_tup h2)⟩
structure Qok (xs cols : List Str) (e : Str) : Prop where
  nd : cols.Nodup
  srt : sortedS cols = true
  sub : ∀ c ∈ cols, c ∈ xs
  esub : e = "" ∨ e ∈ xs
  ne : e ∉ cols
  some : e = "" → cols ≠ []
  le : cols.length ≤ 12
def spQuestion : Sp := fun vs H Q _ => ∃ (b l a : Addr) (xs : List Str), vs = [.ref b, .ref a] ∧ Bag H b l ∧ a ≠ b ∧ H a = some (.lst (xs.map V.str)) ∧ Row xs ∧
  ∀ (q : Addr) (cols : List Str) (e : Str) (H' : Hp), QAt H' q cols e → Qok xs cols e → Bag H' b l → Kp b H H' → Q (.ref q) H'
def spBeginT : Sp := fun vs H Q _ => ∃ (b l a : Addr) (xs : List Str), vs = [.ref b, .ref a] ∧ Bag H b l ∧ H a = some (.tup (xs.map V.str)) ∧ Row xs ∧
  ∀ (q : Addr) (cols : List Str) (e : Str) (H' : Hp), QAt H' q cols e → Qok xs cols e → Bag H' b l → Kp b H H' → Q (.ref q) H'
def spBeginL : Sp := fun vs H Q _ => ∃ (b l a : Addr) (xs : List Str), vs = [.ref b, .ref a] ∧ Bag H b l ∧ a ≠ b ∧ H a = some (.lst (xs.map V.str)) ∧ Row xs ∧
  ∀ (q : Addr) (cols : List Str) (e : Str) (H' : Hp), QAt H' q cols e → Qok xs cols e → Bag H' b l → Kp b H H' → Q (.ref q) H'
def spIndex : Sp := fun vs H Q _ => ∃ (b l a : Addr) (xs : List Str), vs = [.ref b, .ref a] ∧ Bag H b l ∧ a ≠ b ∧ H a = some (.lst (xs.map V.str)) ∧ Row xs ∧
  ∀ (t : Addr) (ys : List Str) (H' : Hp), H' t = some (.tup (ys.map V.str)) → Row ys → (∀ c ∈ ys, c ∈ xs) → Bag H' b l → Kp b H H' → Q (.ref t) H'
theorem menu_ne : ∀ c ∈ menu, c ≠ "" := by decide +kernel
/-- out of a beginning of some order of a row -/
theorem qok_plain {xs ys zs : List Str} {k : Nat} (R : Row xs) (hp : ys.Perm xs) (hz : zs.Perm (ys.take (k + 1))) (hs : sortedS zs = true) : Qok xs zs "" := by
  have sl := List.take_sublist (k + 1) ys
  have hsub : ∀ c ∈ zs, c ∈ xs := fun c hc => hp.mem_iff.mp (sl.mem (hz.mem_iff.mp hc))
  have hl := R.le
  have hpos := R.pos
  have hyl := hp.length_eq
  have hzl := hz.length_eq
  rw [List.length_take] at hzl
  refine ⟨hz.nodup_iff.mpr ((hp.nodup_iff.mpr R.nd).sublist sl), hs, hsub, .inl rfl, fun h => menu_ne _ (R.sub _ (hsub _ h)) rfl, fun _ h => ?_, by omega⟩
  rw [h] at hzl
  simp at hzl
  omega
theorem qok_ranged {xs ys zs : List Str} {k : Nat} {e : Str} (R : Row xs) (hp : ys.Perm xs) (he : ys[k]? = some e) (hz : zs.Perm (ys.take k)) (hs : sortedS zs = true) : Qok xs zs e := by
  have sl := List.take_sublist k ys
  have hsub : ∀ c ∈ zs, c ∈ xs := fun c hc => hp.mem_iff.mp (sl.mem (hz.mem_iff.mp hc))
  have hmem : e ∈ xs := hp.mem_iff.mp (List.mem_of_getElem? he)
  have hl := R.le
  have hyl := hp.length_eq
  have hzl := hz.length_eq
  rw [List.length_take] at hzl
  have ndy := hp.nodup_iff.mpr R.nd
  refine ⟨hz.nodup_iff.mpr (ndy.sublist sl), hs, hsub, .inr hmem, fun h => ?_, fun h => absurd h (menu_ne _ (R.sub _ hmem)), by omega⟩
  have h1 := hz.mem_iff.mp h
  have hk : k < ys.length := (List.getElem?_eq_some_iff.mp he).1
  have e2 : ys = ys.take k ++ ys.drop k := (List.take_append_drop k ys).symm
  have e3 : e ∈ ys.drop k := by
    have : (ys.drop k)[0]? = some e := by rw [List.getElem?_drop]; exact he
    exact List.mem_of_getElem? this
  rw [e2] at ndy
  exact (List.nodup_append.mp ndy).2.2 _ h1 _ e3 rfl
end Qk

set_option maxRecDepth 100000
set_option maxHeartbeats 4000000
namespace Qk
open PySem PySem.Spec PyProof.Rows L2

/-! sorted lists of texts -/
def leS (a b : Str) : Prop := ltCps b.cps.toList a.cps.toList = false
theorem str_ext {a b : Str} (h : a.cps.toList = b.cps.toList) : a = b := by
  obtain ⟨x⟩ := a
  obtain ⟨y⟩ := b
  simp only at h
  congr 1
  exact Array.toList_inj.mp h
theorem leS_antisymm {a b : Str} (h1 : leS a b) (h2 : leS b a) : a = b := by
  unfold leS at h1 h2
  rw [ltCps_eq] at h1 h2
  have n1 := of_decide_eq_false h1
  have n2 := of_decide_eq_false h2
  exact str_ext (List.le_antisymm (List.not_lt.mp n1) (List.not_lt.mp n2))
theorem leS_refl (a : Str) : leS a a := by
  unfold leS
  rw [ltCps_eq]
  exact decide_eq_false (List.lt_irrefl _)
theorem leS_trans {a b c : Str} (h1 : leS a b) (h2 : leS b c) : leS a c := by
  unfold leS at *
  rw [ltCps_eq] at *
  have n1 := List.not_lt.mp (of_decide_eq_false h1)
  have n2 := List.not_lt.mp (of_decide_eq_false h2)
  exact decide_eq_false (List.not_lt.mpr (List.le_trans n1 n2))
theorem risingS_pw : ∀ (xs : List Str) (p : Str), risingS p xs = true → (p :: xs).Pairwise leS
  | [], p, _ => List.pairwise_singleton _ _
  | x :: r, p, h => by
    rw [risingS, Bool.and_eq_true] at h
    have h1 : leS p x := by
      have := h.1
      rw [Bool.not_eq_true'] at this
      exact this
    have ih := risingS_pw r x h.2
    refine List.pairwise_cons.mpr ⟨fun y hy => ?_, ih⟩
    rcases List.mem_cons.mp hy with rfl | hy
    · exact h1
    · exact leS_trans h1 ((List.pairwise_cons.mp ih).1 y hy)
theorem sortedS_pw {xs : List Str} (h : sortedS xs = true) : xs.Pairwise leS := by
  cases xs with
  | nil => exact List.Pairwise.nil
  | cons x r => exact risingS_pw r x h
theorem perm_sorted : ∀ {xs ys : List Str}, xs.Perm ys → xs.Pairwise leS → ys.Pairwise leS → xs = ys
  | [], ys, h, _, _ => (List.Perm.nil_eq h)
  | x :: xs, [], h, _, _ => absurd h.length_eq (by simp)
  | x :: xs, y :: ys, h, h1, h2 => by
    have e : x = y := by
      rcases List.mem_cons.mp (h.mem_iff.mp List.mem_cons_self) with e | m1
      · exact e
      · rcases List.mem_cons.mp (h.mem_iff.mpr List.mem_cons_self) with e | m2
        · exact e.symm
        · exact leS_antisymm ((List.pairwise_cons.mp h1).1 y m2) ((List.pairwise_cons.mp h2).1 x m1)
    subst e
    rw [perm_sorted (List.Perm.cons_inv h) (List.pairwise_cons.mp h1).2 (List.pairwise_cons.mp h2).2]
theorem sorted_unique {xs ys zs : List Str} (h1 : xs.Perm zs) (h2 : ys.Perm zs) (s1 : sortedS xs = true) (s2 : sortedS ys = true) : xs = ys :=
  perm_sorted (h1.trans h2.symm) (sortedS_pw s1) (sortedS_pw s2)

/-! == of lists and tuples of texts -/
theorem menu_ok : ∀ c ∈ menu, PyData.strOk c = true := by decide +kernel
theorem lay_strs : ∀ {xs : List Str}, (∀ c ∈ xs, PyData.strOk c = true) → PyData.canLayAll0 (xs.map PyData.str) = true
  | [], _ => rfl
  | x :: xs, h => by
    show (PyData.canLay0 (.str x) && PyData.canLayAll0 (xs.map PyData.str)) = true
    rw [lay_strs fun c hc => h c (List.mem_cons_of_mem _ hc), Bool.and_true]
    exact h x List.mem_cons_self
theorem depth_strs : ∀ (xs : List Str), PyData.depthAll (xs.map PyData.str) = 0
  | [] => rfl
  | x :: xs => by
    show max (PyData.depth (.str x)) (PyData.depthAll (xs.map PyData.str)) = 0
    rw [depth_strs xs]
    rfl
theorem eqv_strs : ∀ (xs ys : List Str), PyData.eqvAll (xs.map PyData.str) (ys.map PyData.str) = decide (xs = ys)
  | [], [] => by simp [PyData.eqvAll]
  | [], y :: ys => by simp [PyData.eqvAll]
  | x :: xs, [] => by simp [PyData.eqvAll]
  | x :: xs, y :: ys => by
    show PyData.eqvAll (PyData.str x :: xs.map PyData.str) (PyData.str y :: ys.map PyData.str) = _
    rw [PyData.eqvAll, eqv_strs xs ys, PyData.eqv]
    by_cases h1 : x = y
    · subst h1
      by_cases h2 : xs = ys
      · subst h2
        simp
      · simp [h2]
    · simp [h1]
theorem shaped_list {xs : List Str} (h : ∀ c ∈ xs, PyData.strOk c = true) : SeqAt.shaped (.list (xs.map PyData.str)) = true := by
  unfold SeqAt.shaped
  rw [Bool.and_eq_true]
  exact ⟨lay_strs h, decide_eq_true (by rw [PyData.depth, depth_strs]; decide)⟩
theorem shaped_tuple {xs : List Str} (h : ∀ c ∈ xs, PyData.strOk c = true) : SeqAt.shaped (.tuple (xs.map PyData.str)) = true := by
  unfold SeqAt.shaped
  rw [Bool.and_eq_true]
  exact ⟨lay_strs h, decide_eq_true (by rw [PyData.depth, depth_strs]; decide)⟩
theorem dp_strs {K : PySem.W.Frag} {H : Hp} : ∀ (xs : List Str), DpAll K H (xs.map V.str) (xs.map PyData.str)
  | [] => .nil
  | x :: xs => .cons (.str x) (dp_strs xs)
theorem flat_strs (xs : List Str) : (xs.map V.str).all flatV = true := by
  rw [List.all_map]
  exact List.all_eq_true.mpr fun _ _ => rfl
theorem inV_strs (c : Str) (xs : List Str) : inV (.str c) (xs.map V.str) = decide (c ∈ xs) := by
  unfold inV
  rw [List.any_map]
  by_cases h : c ∈ xs
  · rw [decide_eq_true h]
    exact List.any_eq_true.mpr ⟨c, h, by show (c == c) = true; exact beq_self_eq_true c⟩
  · rw [decide_eq_false h]
    refine List.any_eq_false.mpr fun y hy e => h ?_
    have e' : (y == c) = true := e
    rw [← eq_of_beq e']
    exact hy

theorem perm_of_sub : ∀ {xs ys : List Str}, xs.Nodup → (∀ c ∈ xs, c ∈ ys) → ys.length ≤ xs.length → xs.Perm ys
  | [], ys, _, _, h => by
    have : ys = [] := List.eq_nil_of_length_eq_zero (by simpa using h)
    rw [this]
  | x :: xs, ys, nd, hs, h => by
    have hx := hs x List.mem_cons_self
    have hp := List.perm_cons_erase hx
    obtain ⟨nx, nd'⟩ := List.nodup_cons.mp nd
    have hl := hp.length_eq
    rw [List.length_cons] at hl h
    refine ((perm_of_sub (ys := ys.erase x) nd' (fun c hc => ?_) (by omega)).cons x).trans hp.symm
    have ne : c ≠ x := fun e => nx (e ▸ hc)
    exact (List.mem_erase_of_ne ne).mpr (hs c (List.mem_cons_of_mem _ hc))

/-! the least place of a fault -/
def goodAt (ix cols : List Str) (p : Nat) : Prop := ∃ c, ix[p]? = some c ∧ c ∈ cols
instance (ix cols : List Str) (p : Nat) : Decidable (goodAt ix cols p) :=
  match h : ix[p]? with
  | some c => if hc : c ∈ cols then isTrue ⟨c, h, hc⟩ else isFalse fun ⟨d, hd, hm⟩ => hc (by rw [h] at hd; cases hd; exact hm)
  | none => isFalse fun ⟨d, hd, _⟩ => by rw [h] at hd; cases hd
def fault (ix cols : List Str) (last : Str) : Option Nat :=
  match (List.range cols.length).find? (fun p => !decide (goodAt ix cols p)) with
  | some p => some p
  | none => if last ≠ "" ∧ ix[cols.length]? ≠ some last then some cols.length else none
theorem find_none {n : Nat} {g : Nat → Bool} (h : ∀ p, p < n → g p = false) : (List.range n).find? g = none :=
  List.find?_eq_none.mpr fun p hp e => by rw [h p (List.mem_range.mp hp)] at e; cases e
theorem find_at {n i : Nat} {g : Nat → Bool} (hi : i < n) (h : ∀ p, p < i → g p = false) (hg : g i = true) : (List.range n).find? g = some i := by
  refine List.find?_range_eq_some.mpr ⟨hg, List.mem_range.mpr hi, fun j hj => ?_⟩
  rw [h j hj]
  rfl
theorem fault_at {ix cols : List Str} {last : Str} {i : Nat} (hi : i < cols.length) (h : ∀ p, p < i → goodAt ix cols p) (hg : ¬ goodAt ix cols i) : fault ix cols last = some i := by
  unfold fault
  rw [find_at hi (fun p hp => by rw [decide_eq_true (h p hp)]; rfl) (by rw [decide_eq_false hg]; rfl)]
theorem fault_end {ix cols : List Str} {last : Str} (h : ∀ p, p < cols.length → goodAt ix cols p) : fault ix cols last = if last ≠ "" ∧ ix[cols.length]? ≠ some last then some cols.length else none := by
  unfold fault
  rw [find_none fun p hp => by rw [decide_eq_true (h p hp)]; rfl]
theorem fault_le {ix cols : List Str} {last : Str} {p : Nat} (h : fault ix cols last = some p) : p ≤ cols.length := by
  unfold fault at h
  split at h
  · next q e =>
    cases h
    have := List.mem_range.mp (List.mem_of_find?_eq_some e)
    omega
  · split at h
    · cases h
      omega
    · cases h
def optV : Option Nat → V
  | none => .non
  | some n => .int (n : Int)
/-- no fault just if the beginning is made of the columns, with the last one behind -/
theorem fault_none {ix cols ws : List Str} {last : Str} (hix : ix.Nodup) (hc : cols.Nodup) (hs : sortedS cols = true) (hw : ws.Perm (ix.take cols.length)) (hws : sortedS ws = true) :
    fault ix cols last = none ↔ ws = cols ∧ (last = "" ∨ ix[cols.length]? = some last) := by
  constructor
  · intro h
    unfold fault at h
    split at h
    · cases h
    · next e =>
      have good : ∀ p, p < cols.length → goodAt ix cols p := fun p hp => by
        have := List.find?_eq_none.mp e p (List.mem_range.mpr hp)
        simpa using this
      constructor
      · have hle : cols.length ≤ ix.length := by
          rcases Nat.lt_or_ge ix.length cols.length with hlt | hge
          · obtain ⟨c, h1, _⟩ := good ix.length hlt
            rw [List.getElem?_eq_none (Nat.le_refl _)] at h1
            cases h1
          · exact hge
        have hlen : (ix.take cols.length).length = cols.length := by rw [List.length_take]; omega
        have hsub : ix.take cols.length ⊆ cols := fun c hc' => by
          obtain ⟨p, hp, e⟩ := List.mem_iff_getElem.mp hc'
          rw [hlen] at hp
          obtain ⟨d, h1, h2⟩ := good p hp
          rw [List.getElem_take] at e
          rw [List.getElem?_eq_getElem (by omega)] at h1
          cases h1
          rw [← e]
          exact h2
        have hperm : (ix.take cols.length).Perm cols := perm_of_sub (hix.sublist (List.take_sublist _ _)) (fun c hc => hsub hc) (by omega)
        exact sorted_unique hw hperm.symm hws hs
      · by_cases h1 : last = ""
        · exact .inl h1
        · by_cases h2 : ix[cols.length]? = some last
          · exact .inr h2
          · rw [if_pos ⟨h1, h2⟩] at h
            cases h
  · rintro ⟨rfl, h2⟩
    rw [fault_end fun p hp => ?_]
    · rw [if_neg]
      rintro ⟨a1, a2⟩
      rcases h2 with h2 | h2
      · exact a1 h2
      · exact a2 h2
    · have hl := hw.length_eq
      rw [List.length_take] at hl
      have hp2 : p < ix.length := by omega
      refine ⟨ix[p], List.getElem?_eq_getElem hp2, hw.mem_iff.mpr ?_⟩
      exact List.mem_iff_getElem.mpr ⟨p, by rw [List.length_take]; omega, by rw [List.getElem_take]⟩

/-! promises about serving -/
def spFault : Sp := fun vs H Q _ => ∃ (t q : Addr) (ix cols : List Str) (e : Str), vs = [.ref t, .ref q] ∧ H t = some (.tup (ix.map V.str)) ∧ QAt H q cols e ∧ cols.length ≤ 12 ∧ ∀ H', Same H H' → Q (optV (fault ix cols e)) H'
def spServ : Sp := fun vs H Q _ => ∃ (t q : Addr) (ix cols : List Str) (e : Str), vs = [.ref t, .ref q] ∧ H t = some (.tup (ix.map V.str)) ∧ QAt H q cols e ∧ cols.length ≤ 12 ∧ ∀ H', Same H H' → Q (.bl (decide (fault ix cols e = none))) H'
def spServes : Sp := fun vs H Q _ => ∃ (t q : Addr) (ix cols : List Str) (e : Str), vs = [.ref t, .ref q] ∧ H t = some (.tup (ix.map V.str)) ∧ QAt H q cols e ∧ cols.length ≤ 12 ∧ ix.length ≤ 12 ∧ ix.Nodup ∧ (∀ c ∈ ix, c ∈ menu) ∧
  cols.Nodup ∧ sortedS cols = true ∧ (∀ c ∈ cols, c ∈ menu) ∧ (e = "" ∨ e ∈ menu) ∧ ∀ H', Same H H' → Q (.bl (decide (fault ix cols e = none))) H'
/-- two flat values that are the same -/
def spAlikeF : Sp := fun vs H Q _ => ∃ (v : V) (t : Str), vs = [v, v] ∧ flatText v = some t ∧ Q (.bl true) H
theorem optV_text {o : Option Nat} (h : ∀ n, o = some n → n ≤ 12) : ∃ t, flatText (optV o) = some t := by
  cases o with
  | none => exact ⟨_, rfl⟩
  | some n =>
    have hn := h n rfl
    refine ⟨toString (n : Int), ?_⟩
    show (if (n : Int).natAbs.log2 < 1920 then some (Str.ofString (toString (n : Int))) else none) = _
    rw [if_pos]
    have : (n : Int).natAbs = n := Int.natAbs_natCast n
    rw [this]
    refine Nat.lt_of_le_of_lt (Nat.log2_le_self n) ?_
    omega
theorem scal_flat {v : V} {t : Str} (h : flatText v = some t) : scal v v = true := by
  cases v with
  | non => rfl
  | bl _ => rfl
  | int _ => rfl
  | str _ => cases h
  | byt _ => cases h
  | flt _ => cases h
  | ref _ => cases h
  | ty _ => cases h

theorem slA {K : PySem.W.Frag} {H : Hp} {a : Addr} {xs : List Str} {lo hi : Option Int} {ys : List Str} {Q : VK} (h : H a = some (.tup (xs.map V.str))) (e : cutV (xs.map V.str) lo hi = ys.map V.str)
    (k : ∀ (r : Addr) (H' : Hp), Same H H' → H' r = some (.tup (ys.map V.str)) → Q (.ref r) H') : rSlA K (.ref a) lo hi H Q := by
  refine ⟨a, _, rfl, SqT.of h, fun hw => k a H (Same.refl _) ?_, fun _ p hp => ?_⟩
  · rw [h, ← e]
    unfold cutV
    rw [hw.1, hw.2, List.drop_zero, Nat.sub_zero, List.take_length]
  · rw [e]
    exact k p _ (same_new hp) upd_same
theorem cut_one (n : Nat) (xs : List Str) : cutV (xs.map V.str) (some (n : Int)) (some ((n : Int) + 1)) = ((xs.drop n).take 1).map V.str := by
  have e1 : (n : Int) + 1 = ((n + 1 : Nat) : Int) := by omega
  unfold cutV
  rw [e1, HT.sIx_nat, HT.sIx_nat, List.length_map]
  by_cases h : n < xs.length
  · rw [Nat.min_eq_left (by omega), Nat.min_eq_left (by omega), ← List.map_drop, ← List.map_take]
    congr 2
    omega
  · have e2 : min n xs.length = xs.length := Nat.min_eq_right (by omega)
    rw [e2, List.drop_of_length_le (show (xs.map V.str).length ≤ xs.length by rw [List.length_map]; exact Nat.le_refl _), List.drop_of_length_le (show xs.length ≤ n by omega), List.take_nil, List.take_nil, List.map_nil]
theorem take_one {xs : List Str} {n : Nat} {e : Str} : (xs.drop n).take 1 = [e] ↔ xs[n]? = some e := by
  have h0 : (xs.drop n)[0]? = xs[n]? := by rw [List.getElem?_drop]; rfl
  cases hd : xs.drop n with
  | nil =>
    rw [hd] at h0
    have h1 : none = xs[n]? := h0
    rw [← h1]
    simp
  | cons y ys =>
    rw [hd] at h0
    have h1 : some y = xs[n]? := h0
    rw [← h1]
    simp

/-! what a law knows of its index and its question -/
structure QM (cols : List Str) (e : Str) : Prop where
  nd : cols.Nodup
  srt : sortedS cols = true
  sub : ∀ c ∈ cols, c ∈ menu
  esub : e = "" ∨ e ∈ menu
  le : cols.length ≤ 12
  some : e = "" → cols ≠ []
theorem Qok.qm {xs cols : List Str} {e : Str} (h : Qok xs cols e) (R : ∀ c ∈ xs, c ∈ menu) : QM cols e :=
  ⟨h.nd, h.srt, fun c hc => R _ (h.sub _ hc), h.esub.imp id (fun m => R _ m), h.le, h.some⟩
theorem Row.take {xs : List Str} (R : Row xs) (k : Nat) : Row (xs.take (k + 1)) :=
  ⟨R.nd.sublist (List.take_sublist _ _), fun c hc => R.sub _ ((List.take_sublist _ _).mem hc), by have := R.pos; rw [List.length_take]; omega, by have := R.le; rw [List.length_take]; omega⟩
/-- two places exchanged -/
def sw (x y k : Nat) : Nat := if k = y then x else if k = x then y else k
theorem sw_lt {x y k n : Nat} (hx : x < n) (hy : y < n) (hk : k < n) : sw x y k < n := by
  unfold sw
  split
  · exact hx
  · split
    · exact hy
    · exact hk
theorem sw_inj {x y j k : Nat} (h : sw x y j = sw x y k) : j = k := by
  unfold sw at h
  split at h <;> split at h <;> (try split at h) <;> (try split at h) <;> omega
def swp (ix : List Str) (x y : Nat) : List Str := (List.range ix.length).map fun k => ix.getD (sw x y k) ""
theorem swp_len (ix : List Str) (x y : Nat) : (swp ix x y).length = ix.length := by
  unfold swp
  rw [List.length_map, List.length_range]
theorem swp_get {ix : List Str} {x y k : Nat} (hx : x < ix.length) (hy : y < ix.length) (hk : k < ix.length) : (swp ix x y)[k]? = ix[sw x y k]? := by
  unfold swp
  rw [List.getElem?_map, List.getElem?_range hk]
  show some (ix.getD (sw x y k) "") = _
  rw [List.getD_eq_getElem?_getD, List.getElem?_eq_getElem (sw_lt hx hy hk)]
  rfl
theorem swp_row {ix : List Str} {x y : Nat} (R : Row ix) (hx : x < ix.length) (hy : y < ix.length) : Row (swp ix x y) := by
  refine ⟨?_, fun c hc => ?_, by rw [swp_len]; exact R.pos, by rw [swp_len]; exact R.le⟩
  · unfold swp
    refine List.pairwise_map.mpr (List.Pairwise.imp_of_mem ?_ List.nodup_range)
    intro j k hj hk hne he
    have hj := sw_lt hx hy (List.mem_range.mp hj)
    have hk := sw_lt hx hy (List.mem_range.mp hk)
    rw [List.getD_eq_getElem?_getD, List.getD_eq_getElem?_getD, List.getElem?_eq_getElem hj, List.getElem?_eq_getElem hk] at he
    have he2 : ix[sw x y j] = ix[sw x y k] := he
    have := (List.nodup_iff_pairwise_ne.mp R.nd)
    rcases Nat.lt_trichotomy (sw x y j) (sw x y k) with h | h | h
    · exact List.pairwise_iff_getElem.mp this _ _ hj hk h he2
    · exact hne (sw_inj h)
    · exact List.pairwise_iff_getElem.mp this _ _ hk hj h he2.symm
  · unfold swp at hc
    obtain ⟨k, hk, rfl⟩ := List.mem_map.mp hc
    have hk := sw_lt hx hy (List.mem_range.mp hk)
    rw [List.getD_eq_getElem?_getD, List.getElem?_eq_getElem hk]
    exact R.sub _ (List.getElem_mem hk)
end Qk

set_option maxRecDepth 100000
set_option maxHeartbeats 4000000
namespace Qk
open PySem PySem.Spec PyProof.Rows L2

/-! ### defs that may be told only where no repr is running: what stands around them has no guard -/
structure FnG (P : Program) (w : World) (K : PySem.W.Frag) (mg : Str → Option Value) (base : Heap) (k : Nat) (f : Addr) (fd : FuncData) (ps : List Str) (sp : Sp) : Prop where
  len : ∀ vs H Q E, sp vs H Q E → vs.length = ps.length
  run : ∀ (A : Around) (outer : List Env) (s : Shared) (H : Hp) (args : Args) (us : List Value) (vs : List V) (Q : VK) (E : XK), Room k A → A.guards = some [] → Env0 P w K mg base A outer s H →
    BindsTo s fd args (ps.zip us) → Vals vs us → sp vs H Q E → codeAny (model P w) A (.call (.ref f) args) (CR CX0 outer P w H s Q E) s
theorem FnG.of {P : Program} {w : World} {K : PySem.W.Frag} {mg : Str → Option Value} {base : Heap} {k : Nat} {f : Addr} {fd : FuncData} {ps : List Str} {sp : Sp} (F : FnOk P w K mg base CX0 k f fd ps sp) : FnG P w K mg base k f fd ps sp :=
  ⟨F.len, fun A o s H args us vs Q E hr _ e b v h => F.run A o s H args us vs Q E hr e b v h⟩

section
variable {P : Program} {w : World} {K : PySem.W.Frag} {mg : Str → Option Value} {base : Heap}
theorem okG {x qual : Str} {st : Stmt} {f : Addr} {fd : FuncData} {N ps : List Str} {k : Nat} {sp : Sp} (F : Fun K x qual st f fd) (S : FnScope N ps (defScope st)) (len : ∀ vs H Q E, sp vs H Q E → vs.length = ps.length)
    (body : ∀ (cdv : Value) (A : Around) (outer : List Env) (s : Shared) (H : Hp) (vs : List V) (Q : VK) (E : XK), Room k (A.deeper (envOfC qual (defScope st) s.heap.objs.size f cdv)) → A.guards = some [] → sp vs H Q E →
      ∃ t, PSs (cxOf CX0 P w K mg base N qual (defScope st) f cdv A outer s H E).nox (defBody st) t ∧ t { nx := fun _ H' => Q .non H', rt := Q } (start N vs) H) : FnG P w K mg base (k + 1) f fd ps sp := by
  obtain ⟨oc, od, kV, doc, pm, an, cdv, ct, osl, rfl, lk, hcd⟩ := F.ex
  constructor
  · exact len
  intro A outer s H args us vs Q E hr hg e0 hb rv hsp
  have hlen := len _ _ _ _ hsp
  have kept : ∀ b o, base.get? b = some o → s.heap.get? b = some o := fun b o e => (e0.bs b o e).1
  have KX : K.In s.heap := e0.mod.kin.keeps kept
  have par : ∀ y ∈ ps.zip us, (defScope st).names.lookup y.1 = some .local ∨ ((defScope st).names.lookup y.1 = some .cell ∧ ((cellsFrom (s.heap.objs.size + 1) (defScope st).names []).lookup y.1).isSome = true) := by
    rintro ⟨n, v⟩ hy
    exact (S.par n (List.of_mem_zip hy).1).imp id fun q => ⟨q, PySem.W.cellsFrom_some _ _ _ (.inl q)⟩
  refine codeAny_call_function hr.depth (KX _ _ lk) rfl S.co S.gen rfl (PySem.W.codeRec_of KX hcd) (hb _ _ _ _ ?_)
  refine wpAny_newFunctionEnv_cells S.kind par fun env he s1 xe => ?_
  subst he
  refine ⟨(e0.mod.nolimit.keeps kept).keeps xe.toInCall.keep, codeAny_func ?_⟩
  obtain ⟨t, ht, hq⟩ := body cdv A outer s H vs Q E (hr.deeper _) hg hsp
  refine wpAny_mono (ht.nox.run [] s1 (start N vs) H _ (inv_start S hr.hd e0 hlen rv xe) hq) (fun fl s' hs => ?_) fun _ _ z => z
  cases fl with
  | ret u =>
    obtain ⟨v, σ', H', J, r, q⟩ := hs
    exact ⟨v, H', J.os, J.bare, J.base, J.hok, r, q⟩
  | next =>
    obtain ⟨σ', H', J, q⟩ := hs
    exact ⟨V.non, H', J.os, J.bare, J.base, J.hok, rfl, q⟩
  | brk => exact hs.elim fun _ z => z.elim fun _ z => z.2.elim
  | cont => exact hs.elim fun _ z => z.elim fun _ z => z.2.elim
end
section
variable {X : Cx} {k : Nat} {f : Addr} {fd : FuncData} {ps : List Str} {sp : Sp} {x : Str} {p pos : Pos} {e : Expr} {es : List Expr} {t : TA}
theorem run_g {pins : List (Addr × Obj)} {σ : L2.St} {H : Hp} {s : Shared} {Q : VK} {us : List Value} {vs : List V} (F : FnG X.prog X.w X.K X.mg X.base k f fd ps sp) (hr : Room k X.A) (hg : X.A.guards = some []) (hb : Binds X.K fd ps [])
    (I : Inv X pins σ H s) (r : Vals vs us) (h : sp vs H Q E0) : wpAny (model X.prog X.w) X.A (call (.ref f) us) (EP X pins σ Q) X.xe s := by
  have hl : (us ++ ([] : List Value)).length = ps.length := by
    rw [List.append_nil, ← r.length]
    exact F.len _ _ _ _ h
  have hbd := hb s us I.kIn hl
  rw [List.append_nil] at hbd
  have c := F.run X.A X.stack s H ⟨us, []⟩ us vs Q E0 hr hg I.env0 hbd r h
  refine wpAny_call (codeAny_mono c fun r s' hq => ?_)
  cases r with
  | error e => exact False.elim hq
  | ok fl =>
    cases fl with
    | ret u => exact I.after hq
    | _ => exact False.elim hq
/-- a call by name of such a def, all arguments given -/
theorem pe_callg (F : FnG X.prog X.w X.K X.mg X.base k f fd ps sp) (hr : Room k X.A) (hg : X.A.guards = some []) (hgl : Gl X x) (hm : X.mg x = some (.ref f)) (hk : PySem.W.keepIn X.K (.ref f) = true) (hb : Binds X.K fd ps [])
    (ha : PA X (e :: es) t) (hdb : (x == ("__debug__" : Str)) = false := by decide) (he : starEach (e :: es) X.env = (false, eval e X.env) :: starEach es X.env := by rfl) (hpl : (backTo pos (starEach es X.env)).any (·.1) = false := by rfl) :
    PE X (.Call (.Name x p) (e :: es) [] pos) (fun σ H Q => t σ H fun vs H1 => sp vs H1 Q E0) := by
  constructor
  intro pins s σ H Q I h
  refine wpAny_Call_Name_kw (ld_glob I hgl hm ?_ hdb)
  refine PySem.W.callWith_K (h₀ := X.base) I.ok.mod.kin hk ?_ he hpl
  exact thn (ha.run pos pins s σ H _ I h) fun us s1 ⟨vs, H1, I1, r, q⟩ => ⟨I1.kIn, run_g F hr hg hb I1 r q⟩
/-- repr of data, where no repr is running -/
def rReprD (K : PySem.W.Frag) : List V → Hp → VK → Prop := fun vs H Q => ∃ (x : V) (d : PyData), vs = [x] ∧ Dp K H x d ∧ d.showable = true ∧ d.hasDict = false ∧ d.shown.length ≤ sizeLine ∧ d.depth ≤ 60 ∧ Q (.str d.shown) H
theorem call_reprD (hg : X.A.guards = some []) (hu : X.A.units + 64 < cLine) : CallR X (.builtin "repr") (rReprD X.K) := by
  intro pins s σ H xs us Q I r h
  obtain ⟨x, d, rfl, hd, h1, h2, h3, h4, q⟩ := h
  obtain ⟨u, rfl, rx⟩ := vals1 r
  obtain ⟨as, rd⟩ := Dp.reads I d x u hd rx
  cases hd with
  | non =>
    cases rx
    exact PySem.P.repr_of_none ⟨.str _, H, I.tok _, ⟨_, rfl⟩, q⟩
  | bl b =>
    cases rx
    exact PySem.P.repr_of_bool ⟨.str _, H, I.tok _, ⟨_, rfl⟩, q⟩
  | int i =>
    obtain ⟨tk, rfl⟩ := rx
    exact PySem.P.repr_of_int (by simpa [PyData.showable] using h1) ⟨.str _, H, I.tok _, ⟨_, rfl⟩, q⟩
  | str z =>
    obtain ⟨tk, rfl⟩ := rx
    exact PySem.P.repr_of_str ⟨.str _, H, I.tok _, ⟨_, rfl⟩, q⟩ h3
  | lst hs ha =>
    cases rx
    exact repr_of_reads' rd h1 (fun z => by rw [h2] at z; cases z) hg (by omega) (fun _ _ z => z) (fun h' u tk hk => ⟨.str _, H, I.kept hk, ⟨_, rfl⟩, q⟩) h3
  | tup hs ha =>
    cases rx
    exact repr_of_reads' rd h1 (fun z => by rw [h2] at z; cases z) hg (by omega) (fun _ _ z => z) (fun h' u tk hk => ⟨.str _, H, I.kept hk, ⟨_, rfl⟩, q⟩) h3
end
end Qk

set_option maxRecDepth 100000
set_option maxHeartbeats 4000000
namespace Qk
open PySem PySem.Spec PyProof.Rows L2

/-! ### the end of a law whose def is of that kind -/
theorem law_g {P : Program} {w : World} {K : PySem.W.Frag} {mg mb : Str → Option Value} {k : Nat} {fa a : Addr} {fd : FuncData} {x : Str} {sp : Sp} {s₁ : Shared} {vs : List Value} {ns : List Int}
    (KX : K.In s₁.heap) (hns : s₁.heap.Ns mainGlobals mg) (hb : s₁.heap.Ns builtinsNs mb) (hbb : ∀ x : Str, x ≠ "__name__" → mb x = bootBuiltins x) (hlim : s₁.heap.NoLimit) (hg : s₁.gens = #[])
    (ha : s₁.heap.get? a = some { cls := .type "list", data := .seq vs.toArray }) (hi : IntsAre vs ns) (hl : ns.length ≤ sizeLine) (hr : Room k callerA)
    (F : ∀ base : Heap, K.In base → base.Ns mainGlobals mg → FnG P w K mg base k fa fd [x] sp) (hbind : ∀ (s : Shared) (u : Value), BindsTo s fd ⟨[u], []⟩ [(x, u)])
    (hsp : ∀ H : Hp, Only H → SqL K H a (ns.map V.int) → sp [.ref a] H (fun v _ => v = .bl true) fun _ _ _ => False) :
    codeAny (model P w) callerA (.call (.ref fa) ⟨[.ref a], []⟩) (fun r s' => r = .ok (.ret (.bool true)) ∧ OldK s₁.heap s'.heap ∧ s'.os = s₁.os ∧ AllBare s'.gens) s₁ := by
  let o : Obj := { cls := .type "list", data := .seq vs.toArray }
  have rv : Vals (ns.map V.int) vs := vals_ints hi
  have lenV : vs.length = ns.length := hi.length
  -- the abstract heap: the script alone, where the top does not know it
  let H : Hp := fun b => if b = a ∧ K.lookup a = none then some (.frz o (.lst (ns.map V.int))) else none
  have Hsome : ∀ {b u}, H b = some u → b = a ∧ K.lookup a = none ∧ u = .frz o (.lst (ns.map V.int)) := fun {b u} z => by
    by_cases c : b = a ∧ K.lookup a = none
    · have z2 : some (HO.frz o (.lst (ns.map V.int))) = some u := (if_pos c).symm.trans z
      exact ⟨c.1, c.2, (Option.some.inj z2).symm⟩
    · have z2 : (none : Option HO) = some u := (if_neg c).symm.trans z
      cases z2
  have hO : Only H := fun b => by
    cases q : H b with
    | none => exact .inl rfl
    | some u => exact .inr ⟨_, _, by rw [(Hsome q).2.2]⟩
  have hS : SqL K H a (ns.map V.int) := by
    cases q : K.lookup a with
    | none => exact .inl (.inr ⟨o, if_pos ⟨rfl, q⟩⟩)
    | some u =>
      have e := KX a u q
      rw [ha] at e
      cases e
      exact .inr ⟨_, vs.toArray, _, q, rfl, rfl, rfl, by rw [List.size_toArray, lenV]; exact hl, by simpa using rv⟩
  have hok : HOk P w H s₁.heap := fun b u z => by
    obtain ⟨rfl, _, rfl⟩ := Hsome z
    exact ⟨ha, by rw [List.length_map]; exact hl, vs, _, rv, ha⟩
  have keepB : ∀ {b : Addr} {u : Obj}, s₁.heap.get? b = some u → (b = a → K.lookup a ≠ none) → (hidT s₁.heap H).get? b = some u := fun {b u} e n => hidT_get e (by
    cases q : H b with
    | none => rfl
    | some z => exact absurd (Hsome q).2.1 (n (Hsome q).1))
  have keepN : ∀ {b : Addr} {m : Str → Option Value}, s₁.heap.Ns b m → (hidT s₁.heap H).Ns b m := fun {b m} ⟨u, es, ep, e, d, r⟩ => by
    refine ⟨u, es, ep, keepB e fun eb => ?_, d, r⟩
    subst eb
    rw [ha] at e
    cases e
    cases d
  have hKb : K.In (hidT s₁.heap H) := fun b u e => keepB (KX b u e) fun eb q => by
    subst eb
    rw [q] at e
    cases e
  have hM : Mod K mg (hidT s₁.heap H) := ⟨hKb, keepN hns, ⟨mb, keepN hb, hbb⟩, let ⟨mc, h1, h2⟩ := hlim; ⟨mc, keepN h1, h2⟩⟩
  have e0 : Env0 P w K mg (hidT s₁.heap H) callerA [] s₁ H := ⟨rfl, hM, fun _ _ e => of_hidT e, Nat.le_of_eq (hidT_size _ _), trivial, fun b z => absurd (show b ∈ ([] : List Addr) from z) (by simp), hok, .of_eq hg⟩
  have run := (F _ hKb (keepN hns)).run callerA [] s₁ H ⟨[.ref a], []⟩ [.ref a] [.ref a] _ _ hr rfl e0 (hbind s₁ (.ref a)) (.cons rfl .nil) (hsp H hO hS)
  refine codeAny_mono run fun r s' h => ?_
  cases r with
  | error e => exact False.elim h
  | ok fl =>
    cases fl with
    | ret u =>
      obtain ⟨v, H', os, bare, un, hok', r', q⟩ := h
      obtain rfl : v = .bl true := q
      obtain rfl : u = Value.bool true := r'
      refine ⟨rfl, OldK.of_keep fun b u e => ?_, os, bare⟩
      cases q : H b with
      | none => exact un.keep b u e q (fun z => absurd (show b ∈ ([] : List Addr) from z) (by simp)) (by simp)
      | some z =>
        obtain ⟨rfl, _, rfl⟩ := Hsome q
        obtain ⟨e2, _⟩ := hok' b _ (un.frzs b o _ q)
        rw [ha] at e
        cases e
        exact e2
    | _ => exact False.elim h
theorem walk_g {l : PySem.W.OpenLaw} {n k : Nat} {q : Program} {loose : List Str} {XP : (Str → Option Value) → Heap → Prop} {YP : World → Heap → Prop} {d : DefRec} {K : Params → PySem.W.Frag} {sp : World → Sp} {x : Str}
    (hn : l.most = some n) (hn2 : n ≤ sizeLine) (hdf : d.params.defaults = []) (hr : Room k callerA) (hY : ∀ (w : World) (h : Heap), YP w h → (K w.params).In h)
    (F : ∀ (w : World) (mg : Str → Option Value) (fa : Addr) (h : Heap), (K w.params).In h → h.Ns mainGlobals mg → mg d.name = some (.ref fa) →
      ∃ fd : FuncData, (∀ (s : Shared) (u : Value), BindsTo s fd ⟨[u], []⟩ [(x, u)]) ∧ ∀ base : Heap, (K w.params).In base → base.Ns mainGlobals mg → FnG l.prog w (K w.params) mg base k fa fd [x] (sp w))
    (hsp : ∀ (w : World) (H : Hp) (a : Addr) (ns : List Int), ns.length ≤ n → Only H → SqL (K w.params) H a (ns.map V.int) → sp w [.ref a] H (fun v _ => v = .bl true) fun _ _ _ => False) :
    PySem.W.WalkO q loose XP YP l.row.toRowW d [] (fun f vs => PySem.call f vs) := by
  refine Att.attach_call hn hdf fun w s₀ s₁ mg mb fa o pm cd doc a vs ns G Y ho hd hcd hmg hobj hints hlen hg => ?_
  obtain ⟨fd, hb, hF⟩ := F w mg fa _ (hY w _ Y) G.T.g hmg
  exact law_g (hY w _ Y) G.T.g G.T.b G.T.builtins G.T.nolimit hg hobj hints (Nat.le_trans hlen hn2) hr hF hb fun H hO hS => hsp w H a ns hlen hO hS

/-! ### data that may be compared and shown -/
mutual
def fine : PyData → Bool
  | .none => true
  | .bool _ => true
  | .int i => decide (i.natAbs < 1000000)
  | .str x => PyData.strOk x && decide (x.cps.size ≤ 20)
  | .list xs => fineAll xs
  | .tuple xs => fineAll xs
  | .dict _ => false
def fineAll : List PyData → Bool
  | [] => true
  | x :: xs => fine x && fineAll xs
end
mutual
def cost : PyData → Nat
  | .none => 4
  | .bool _ => 5
  | .int _ => 22
  | .str _ => 210
  | .list xs => costAll xs + 3
  | .tuple xs => costAll xs + 3
  | .dict _ => 0
def costAll : List PyData → Nat
  | [] => 0
  | x :: xs => cost x + 2 + costAll xs
end
mutual
theorem fine_lay : ∀ d : PyData, fine d = true → d.canLay0 = true ∧ d.showable = true ∧ d.hasDict = false
  | .none, _ => ⟨rfl, rfl, rfl⟩
  | .bool _, _ => ⟨rfl, rfl, rfl⟩
  | .int i, h => by
    have hi : i.natAbs < 1000000 := of_decide_eq_true h
    refine ⟨rfl, ?_, rfl⟩
    show decide (i.natAbs.log2 < 1920) = true
    refine decide_eq_true ?_
    by_cases h0 : i.natAbs = 0
    · rw [h0]
      decide
    · exact Nat.lt_of_lt_of_le ((Nat.log2_lt h0).mpr (show i.natAbs < 2 ^ 20 by omega)) (by decide)
  | .str x, h => by
    have h' : (PyData.strOk x && decide (x.cps.size ≤ 20)) = true := h
    rw [Bool.and_eq_true] at h'
    exact ⟨h'.1, rfl, rfl⟩
  | .list xs, h => fine_layAll xs h
  | .tuple xs, h => fine_layAll xs h
  | .dict _, h => by cases h
theorem fine_layAll : ∀ xs : List PyData, fineAll xs = true → PyData.canLayAll0 xs = true ∧ PyData.showableAll xs = true ∧ PyData.hasDictAll xs = false
  | [], _ => ⟨rfl, rfl, rfl⟩
  | x :: xs, h => by
    have h' : (fine x && fineAll xs) = true := h
    rw [Bool.and_eq_true] at h'
    obtain ⟨a1, a2, a3⟩ := fine_lay x h'.1
    obtain ⟨b1, b2, b3⟩ := fine_layAll xs h'.2
    refine ⟨?_, ?_, ?_⟩
    · show (PyData.canLay0 x && PyData.canLayAll0 xs) = true
      rw [a1, b1]
      rfl
    · show (PyData.showable x && PyData.showableAll xs) = true
      rw [a2, b2]
      rfl
    · show (PyData.hasDict x || PyData.hasDictAll xs) = false
      rw [a3, b3]
      rfl
end
theorem listText_le (ts : List Str) : (listText ts).length ≤ piled ts + 2 := by
  cases ts with
  | nil => decide
  | cons t r =>
    have e : listText (t :: r) = textFrom 1 ("[" ++ "" ++ t) r ++ "]" := rfl
    rw [e, strLen_append, textFrom_length_pos r 1 _ (by decide), strLen_append, piled_cons]
    have e1 : (("[" : Str) ++ ("" : Str)).length = 1 := rfl
    have e2 : ((("]" : String) : Str)).length = 1 := rfl
    have e3 : (((("[" : String) : Str) ++ (("" : String) : Str)) : Str).length = 1 := rfl
    omega
theorem tupleText_le (ts : List Str) : (tupleText ts).length ≤ piled ts + 3 := by
  unfold tupleText
  rw [strLen_append, strLen_append]
  have e1 : (("(" : String) : Str).length = 1 := rfl
  have e2 : ((if (ts.length == 1) = true then ",)" else ")" : String) : Str).length ≤ 2 := by
    split
    · decide
    · decide
  cases ts with
  | nil =>
    have : (Str.join ", " ([] : List Str)).length = 0 := rfl
    omega
  | cons t r =>
    have := join_length_add (t :: r) (by simp)
    omega
mutual
theorem shown_le : ∀ d : PyData, fine d = true → d.shown.length ≤ cost d
  | .none, _ => by decide
  | .bool b, _ => by cases b <;> decide
  | .int i, h => by
    have hi : i.natAbs < 1000000 := of_decide_eq_true h
    have e := int_text_length_le10 (k := 6) (a := i) (by decide) hi
    show (Str.ofString (toString i)).length ≤ 22
    rw [PySem.ofString_length]
    omega
  | .str x, h => by
    have h' : (PyData.strOk x && decide (x.cps.size ≤ 20)) = true := h
    rw [Bool.and_eq_true] at h'
    have h2 : x.length ≤ 20 := of_decide_eq_true h'.2
    have h3 : ∀ c ∈ x.cps.toList, c < 16 ^ 8 := fun c hc => by
      have := Array.all_eq_true'.mp h'.1 c (by simpa using hc)
      have := of_decide_eq_true this
      omega
    have := PySem.StrLaws.reprText_len x h3
    show (reprText x).length ≤ 210
    omega
  | .list xs, h => by
    have := listText_le (PyData.shownAll xs)
    have h2 := shown_leAll xs h
    show (listText (PyData.shownAll xs)).length ≤ costAll xs + 3
    omega
  | .tuple xs, h => by
    have := tupleText_le (PyData.shownAll xs)
    have h2 := shown_leAll xs h
    show (tupleText (PyData.shownAll xs)).length ≤ costAll xs + 3
    omega
  | .dict _, h => by cases h
theorem shown_leAll : ∀ xs : List PyData, fineAll xs = true → piled (PyData.shownAll xs) ≤ costAll xs
  | [], _ => Nat.le_refl 0
  | x :: xs, h => by
    have h' : (fine x && fineAll xs) = true := h
    rw [Bool.and_eq_true] at h'
    have h1 := shown_le x h'.1
    have h2 := shown_leAll xs h'.2
    show piled (PyData.shown x :: PyData.shownAll xs) ≤ cost x + 2 + costAll xs
    rw [piled_cons]
    omega
end
structure DOk (d : PyData) : Prop where
  f : fine d = true
  dp : d.depth ≤ 50
  c : cost d ≤ 1000000
theorem DOk.shaped {d : PyData} (h : DOk d) : SeqAt.shaped d = true := by
  unfold SeqAt.shaped
  rw [(fine_lay d h.f).1]
  exact decide_eq_true (Nat.le_trans h.dp (by decide))
theorem DOk.len {d : PyData} (h : DOk d) : d.shown.length ≤ sizeLine := Nat.le_trans (shown_le d h.f) (Nat.le_trans h.c (by rw [sizeLine_eq]; decide))
mutual
theorem Dp.same {K : PySem.W.Frag} {H H' : Hp} (s : Same H H') : ∀ (d : PyData) (v : V), Dp K H v d → Dp K H' v d
  | .none, _, h => by cases h; exact .non
  | .bool _, _, h => by cases h; exact .bl _
  | .int _, _, h => by cases h; exact .int _
  | .str _, _, h => by cases h; exact .str _
  | .list ds, _, h => by
    cases h with
    | lst h1 h2 => exact .lst (s.seq h1) (Dp.sameAll s ds _ h2)
  | .tuple ds, _, h => by
    cases h with
    | tup h1 h2 => exact .tup (Evl.ex_t s h1) (Dp.sameAll s ds _ h2)
  | .dict _, _, h => by cases h
theorem Dp.sameAll {K : PySem.W.Frag} {H H' : Hp} (s : Same H H') : ∀ (ds : List PyData) (vs : List V), DpAll K H vs ds → DpAll K H' vs ds
  | [], _, h => by cases h; exact .nil
  | d :: ds, _, h => by
    cases h with
    | cons h1 h2 => exact .cons (Dp.same s d _ h1) (Dp.sameAll s ds _ h2)
end
/-- two data that are the same -/
def spAlikeD (K : PySem.W.Frag) : Sp := fun vs H Q _ => ∃ (x y : V) (d : PyData), vs = [x, y] ∧ Dp K H x d ∧ Dp K H y d ∧ DOk d ∧ Q (.bl true) H
/-- the names as data -/
def okS (c : Str) : Bool := PyData.strOk c && decide (c.cps.size ≤ 20)
theorem menu_okS : ∀ c ∈ menu, okS c = true := by decide +kernel
theorem fine_strs : ∀ {xs : List Str}, (∀ c ∈ xs, okS c = true) → fineAll (xs.map PyData.str) = true
  | [], _ => rfl
  | x :: xs, h => by
    show (fine (.str x) && fineAll (xs.map PyData.str)) = true
    rw [fine_strs fun c hc => h c (List.mem_cons_of_mem _ hc), Bool.and_true]
    exact h x List.mem_cons_self
theorem cost_strs : ∀ (xs : List Str), costAll (xs.map PyData.str) = 212 * xs.length
  | [] => rfl
  | x :: xs => by
    show cost (.str x) + 2 + costAll (xs.map PyData.str) = _
    rw [cost_strs xs, List.length_cons]
    show 210 + 2 + _ = _
    omega
theorem dok_strs {xs : List Str} (h : ∀ c ∈ xs, okS c = true) (hl : xs.length ≤ 100) : DOk (.tuple (xs.map PyData.str)) :=
  ⟨fine_strs h, by show PyData.depthAll _ + 1 ≤ 50; rw [depth_strs]; decide, by show costAll _ + 3 ≤ _; rw [cost_strs]; omega⟩
/-- a question as data -/
def dQ (cols : List Str) (e : Str) : PyData := .tuple [.tuple (cols.map PyData.str), .str e]
theorem dp_q {K : PySem.W.Frag} {H : Hp} {q : Addr} {cols : List Str} {e : Str} (h : QAt H q cols e) : Dp K H (.ref q) (dQ cols e) := by
  obtain ⟨c, h1, h2⟩ := h
  exact .tup (SqT.of h1) (.cons (.tup (SqT.of h2) (dp_strs _)) (.cons (.str e) .nil))
structure CalG (P : Program) (w : World) (K : PySem.W.Frag) (mg : Str → Option Value) (base : Heap) (k : Nat) (x : Str) (ps : List Str) (sp : Sp) where
  f : Addr
  fd : FuncData
  G : FnG P w K mg base k f fd ps sp
  m : mg x = some (.ref f)
  kp : PySem.W.keepIn K (.ref f) = true
  b : Binds K fd ps []
end Qk

set_option maxRecDepth 100000
set_option maxHeartbeats 4000000
namespace Qk
open PySem PySem.Spec PyProof.Rows L2

/-! ### the order of texts, of tuples of texts, of questions -/
def ltS (a b : Str) : Bool := decide (a.cps.toList < b.cps.toList)
def lexS : List Str → List Str → Bool
  | [], [] => false
  | [], _ :: _ => true
  | _ :: _, [] => false
  | x :: xs, y :: ys => if x = y then lexS xs ys else ltS x y
theorem ltS_irrefl (a : Str) : ltS a a = false := decide_eq_false (List.lt_irrefl _)
theorem ltS_tri {a b : Str} (h : a ≠ b) : ltS a b = true ∨ ltS b a = true := by
  unfold ltS
  by_cases h1 : a.cps.toList < b.cps.toList
  · exact .inl (decide_eq_true h1)
  · by_cases h2 : b.cps.toList < a.cps.toList
    · exact .inr (decide_eq_true h2)
    · exact absurd (str_ext (List.le_antisymm (List.not_lt.mp h2) (List.not_lt.mp h1))) h
theorem ltS_trans {a b c : Str} (h1 : ltS a b = true) (h2 : ltS b c = true) : ltS a c = true := by
  unfold ltS at *
  exact decide_eq_true (List.lt_trans (of_decide_eq_true h1) (of_decide_eq_true h2))
theorem ltS_asym {a b : Str} (h1 : ltS a b = true) : ltS b a = false := by
  cases h2 : ltS b a with
  | false => rfl
  | true =>
    have := ltS_trans h1 h2
    rw [ltS_irrefl] at this
    cases this
theorem lexS_irrefl : ∀ a : List Str, lexS a a = false
  | [] => rfl
  | x :: xs => by
    rw [lexS, if_pos rfl]
    exact lexS_irrefl xs
theorem lexS_tri : ∀ {a b : List Str}, a ≠ b → lexS a b = true ∨ lexS b a = true
  | [], [], h => absurd rfl h
  | [], _ :: _, _ => .inl rfl
  | _ :: _, [], _ => .inr rfl
  | x :: xs, y :: ys, h => by
    rw [lexS, lexS]
    by_cases e : x = y
    · subst e
      rw [if_pos rfl, if_pos rfl]
      exact lexS_tri fun z => h (by rw [z])
    · rw [if_neg e, if_neg (Ne.symm e)]
      exact ltS_tri e
theorem lexS_trans : ∀ {a b c : List Str}, lexS a b = true → lexS b c = true → lexS a c = true
  | [], [], _, h, _ => by cases h
  | [], _ :: _, [], _, h => by cases h
  | [], _ :: _, _ :: _, _, _ => rfl
  | _ :: _, [], _, h, _ => by cases h
  | _ :: _, _ :: _, [], _, h => by cases h
  | x :: xs, y :: ys, z :: zs, h1, h2 => by
    rw [lexS] at h1 h2 ⊢
    by_cases e1 : x = y
    · subst e1
      rw [if_pos rfl] at h1
      by_cases e2 : x = z
      · rw [if_pos e2] at h2 ⊢
        exact lexS_trans h1 h2
      · rw [if_neg e2] at h2 ⊢
        exact h2
    · rw [if_neg e1] at h1
      by_cases e2 : y = z
      · subst e2
        rw [if_neg e1]
        exact h1
      · rw [if_neg e2] at h2
        have h3 := ltS_trans h1 h2
        have e3 : x ≠ z := fun e => by
          subst e
          rw [ltS_asym h1] at h2
          cases h2
        rw [if_neg e3]
        exact h3
theorem lexS_asym {a b : List Str} (h1 : lexS a b = true) : lexS b a = false := by
  cases h2 : lexS b a with
  | false => rfl
  | true =>
    have := lexS_trans h1 h2
    rw [lexS_irrefl] at this
    cases this
abbrev Qd := List Str × Str
def ltQ (p q : Qd) : Bool := if p.1 = q.1 then ltS p.2 q.2 else lexS p.1 q.1
theorem ltQ_irrefl (p : Qd) : ltQ p p = false := by
  unfold ltQ
  rw [if_pos rfl]
  exact ltS_irrefl _
theorem ltQ_tri {p q : Qd} (h : p ≠ q) : ltQ p q = true ∨ ltQ q p = true := by
  unfold ltQ
  by_cases e : p.1 = q.1
  · rw [if_pos e, if_pos e.symm]
    exact ltS_tri fun z => h (Prod.ext e z)
  · rw [if_neg e, if_neg (Ne.symm e)]
    exact lexS_tri e
theorem ltQ_trans {p q r : Qd} (h1 : ltQ p q = true) (h2 : ltQ q r = true) : ltQ p r = true := by
  unfold ltQ at *
  by_cases e1 : p.1 = q.1
  · rw [if_pos e1] at h1
    by_cases e2 : q.1 = r.1
    · rw [if_pos e2] at h2
      rw [if_pos (e1.trans e2)]
      exact ltS_trans h1 h2
    · rw [if_neg e2] at h2
      rw [if_neg (e1 ▸ e2), e1]
      exact h2
  · rw [if_neg e1] at h1
    by_cases e2 : q.1 = r.1
    · rw [if_pos e2] at h2
      rw [if_neg (e2 ▸ e1), ← e2]
      exact h1
    · rw [if_neg e2] at h2
      have h3 := lexS_trans h1 h2
      have e3 : p.1 ≠ r.1 := fun e => by
        rw [e] at h1
        rw [lexS_asym h1] at h2
        cases h2
      rw [if_neg e3]
      exact h3
theorem ltQ_asym {p q : Qd} (h1 : ltQ p q = true) : ltQ q p = false := by
  cases h2 : ltQ q p with
  | false => rfl
  | true =>
    have := ltQ_trans h1 h2
    rw [ltQ_irrefl] at this
    cases this
theorem swo_q {α : Type} (k : α → Qd) : SrtO.Swo fun x y => ltQ (k x) (k y) := by
  refine ⟨fun x y h => ltQ_asym h, fun x y z h1 h2 => ?_⟩
  -- not y < x, not z < y: not z < x
  cases h3 : ltQ (k z) (k x) with
  | false => rfl
  | true =>
    by_cases e : k x = k y
    · rw [e] at h3
      have : ltQ (k z) (k y) = false := h2
      rw [this] at h3
      cases h3
    · rcases ltQ_tri e with h | h
      · have h4 : ltQ (k z) (k y) = true := ltQ_trans h3 h
        rw [h2] at h4
        cases h4
      · have : ltQ (k y) (k x) = false := h1
        rw [this] at h
        cases h
theorem perm_ltQ : ∀ {xs ys : List Qd}, xs.Perm ys → xs.Pairwise (fun a b => ltQ b a = false) → ys.Pairwise (fun a b => ltQ b a = false) → xs = ys
  | [], ys, h, _, _ => List.Perm.nil_eq h
  | x :: xs, [], h, _, _ => absurd h.length_eq (by simp)
  | x :: xs, y :: ys, h, h1, h2 => by
    have e : x = y := by
      rcases List.mem_cons.mp (h.mem_iff.mp List.mem_cons_self) with e | m1
      · exact e
      · rcases List.mem_cons.mp (h.mem_iff.mpr List.mem_cons_self) with e | m2
        · exact e.symm
        · have a1 := (List.pairwise_cons.mp h1).1 y m2
          have a2 := (List.pairwise_cons.mp h2).1 x m1
          by_cases e : x = y
          · exact e
          · rcases ltQ_tri e with h | h
            · rw [a2] at h; cases h
            · rw [a1] at h; cases h
    subst e
    rw [perm_ltQ (List.Perm.cons_inv h) (List.pairwise_cons.mp h1).2 (List.pairwise_cons.mp h2).2]

/-! ### t < u of tuples of texts -/
section
open PySem.SeqAt
open PySem.AutoSeq1 (wpAny_loadPart')
open PySem.MeetsSeq PySem.MeetsSeq2 PySem.MeetsSeq3
theorem eqAt_str (A : Around) (s : Shared) (a : Str) (t : Tok) (c : Str) (u : Tok) : ∃ e, SeqAt.EqAt A s (.str a t) (.str c u) e ∧ (e = true ↔ a = c) :=
  ⟨(a == c), SeqAt.EqAt.str_str a t c u, by simp⟩
theorem rcLt_str (A : Around) (s : Shared) (a : Str) (t : Tok) (c : Str) (u : Tok) (prog : Program) (w : World) (E : Value → Shared → Prop) (Q : Value → Shared → Prop) (h : Q (.bool (ltS a c)) s) :
    wpAny (model prog w) A (richCompare .Lt (.str a t) (.str c u)) Q E s := by
  have z : wpAny (model prog w) A (compareOp .Lt (.str a t) (.str c u)) Q E s := PySem.P.lt_str h
  exact z
theorem tuple_lt_texts (l b : Addr) (us vs : Array Value) (n m : Nat) (d1 d2 : Option Addr) (sl1 sl2 : Array (Option Value)) (xs ys : List Str) (hx : StrsAre us.toList xs) (hy : StrsAre vs.toList ys) :
    Meets (Builtin.«tuple.__lt__» ⟨[.ref l, .ref b], []⟩)
      (fun _ R s => s.heap.get? l = some { cls := .type "tuple", dict := d1, data := .seq us n, slots := sl1 } ∧ s.heap.get? b = some { cls := .type "tuple", dict := d2, data := .seq vs m, slots := sl2 } ∧
        R (.ok (.ret (.bool (lexS xs ys)))) s) :=
  .of_wp fun prog w A R s h => by
    obtain ⟨hp, g, d, tk, os⟩ := s; obtain ⟨hl, hb, h⟩ := h
    have f2 := AutoSeq1.sub_tuple_tuple
    have z1 : us.size = xs.length := by rw [← hx.length]; simp
    have z2 : vs.size = ys.length := by rw [← hy.length]; simp
    wp_walk using wpAny_loadPart' hl, wpAny_loadPart' hb, wpAny_forIn_list _ (fun rest b s' => b.1 = none ∧ s' = ⟨hp, g, d, tk, os⟩ ∧ ∃ (as bs : List Value) (x' y' : List Str), rest = as.zip bs ∧
      StrsAre as x' ∧ StrsAre bs y' ∧ x'.length + vs.size = y'.length + us.size ∧ R (.ok (.ret (.bool (lexS x' y')))) ⟨hp, g, d, tk, os⟩) _
    case turn =>
      rintro ⟨u, v⟩ rest b s' ⟨hb', rfl, as, bs, x', y', hz, ha, hc, hlen, hR⟩
      cases ha with
      | nil => rw [List.zip_nil_left] at hz; cases hz
      | cons a t ha' =>
        cases hc with
        | nil => rw [List.zip_nil_right] at hz; cases hz
        | cons c t2 hc' =>
          rw [List.zip_cons_cons] at hz
          injection hz with e1 hrest
          injection e1 with eu ev
          subst eu ev
          rw [lexS] at hR
          simp only [List.length_cons] at hlen
          obtain ⟨e, he, hiff⟩ := eqAt_str A.in1 ⟨hp, g, d, tk, os⟩ a t c t2
          refine wpAny_bind (he prog w _ _ ?_)
          cases e with
          | true =>
            rw [if_pos (hiff.mp rfl)] at hR
            wp_walk
            exact ⟨rfl, rfl, _, _, _, _, hrest, ha', hc', by omega, hR⟩
          | false =>
            rw [if_neg (fun q => absurd (hiff.mpr q) Bool.false_ne_true)] at hR
            have hri := rcLt_str A.in1 ⟨hp, g, d, tk, os⟩ a t c t2 prog w
            wp_walk using hri
            exact ⟨_, rfl, by simpa using hR⟩
    case fin =>
      rintro ⟨b1, b2⟩ s' ⟨hb', rfl, as, bs, x', y', hz, ha, hc, hlen, hR⟩
      simp only at hb'
      subst hb'
      have hv : lexS x' y' = decide (us.size < vs.size) := by
        cases ha with
        | nil =>
          cases hc with
          | nil =>
            simp only [List.length_nil] at hlen
            exact (decide_eq_false (by omega)).symm
          | cons c u hw =>
            simp only [List.length_nil, List.length_cons] at hlen
            exact (decide_eq_true (by omega)).symm
        | cons a t hv =>
          cases hc with
          | nil =>
            simp only [List.length_nil, List.length_cons] at hlen
            exact (decide_eq_false (by omega)).symm
          | cons c u hw =>
            rw [List.zip_cons_cons] at hz
            cases hz
      rw [hv] at hR
      wp_walk
      exact ⟨_, rfl, by simpa [Builtin.Tuple.tupleCompareSizes] using hR⟩
    case h =>
      exact ⟨rfl, rfl, us.toList, vs.toList, xs, ys, rfl, hx, hy, by omega, h⟩
theorem lt_tupTexts {prog : Program} {w : World} {A : Around} {E : Value → Shared → Prop} {s : Shared} {l b : Addr} {us vs : Array Value} {xs ys : List Str} {Q : Value → Shared → Prop} (hl : IsTup s.heap l us) (hb : IsTup s.heap b vs)
    (hx : StrsAre us.toList xs) (hy : StrsAre vs.toList ys) (hu : A.units < cLine) (h : Q (.bool (lexS xs ys)) s) : wpAny (model prog w) A (compareOp .Lt (.ref l) (.ref b)) Q E s := by
  obtain ⟨⟨c1, d1, e1, sl1⟩, ho, hc, n, hd⟩ := id hl
  obtain ⟨⟨c2, d2, e2, sl2⟩, ho2, hc2, m, hd2⟩ := id hb
  simp only at hc hd hc2 hd2
  subst hc hd hc2 hd2
  exact richCompare_meets_room (op := .Lt) ⟨_, ho, rfl⟩ ⟨_, ho2, rfl⟩ PySem.F.slot_tuple_lt PySem.F.entry_tuple_lt (PySem.F.args_tuple_lt_2 _ _) (tuple_lt_texts l b us vs n m d1 d2 sl1 sl2 xs ys hx hy)
    ⟨ho, ho2, show Value.bool (lexS xs ys) ≠ Value.notImplemented ∧ Q (.bool (lexS xs ys)) s from ⟨(fun x => nomatch x), h⟩⟩ hu
end
/-! ### sorted of questions -/
/-- v is a question in the heap -/
def IsQ (h : Heap) (v : Value) (q : Qd) : Prop := ∃ (a c : Addr) (o oc : Obj) (t : Tok) (us : List Value) (n m : Nat), v = .ref a ∧ h.get? a = some o ∧ o.cls = .type "tuple" ∧ o.data = .seq #[.ref c, .str q.2 t] n ∧
  h.get? c = some oc ∧ oc.cls = .type "tuple" ∧ oc.data = .seq us.toArray m ∧ StrsAre us q.1
theorem IsQ.keeps {h h' : Heap} {v : Value} {q : Qd} (x : IsQ h v q) (k : ∀ b o, h.get? b = some o → o.cls = .type "tuple" → h'.get? b = some o) : IsQ h' v q := by
  obtain ⟨a, c, o, oc, t, us, n, m, e, ho, hc, hd, hoc, hcc, hdc, hs⟩ := x
  exact ⟨a, c, o, oc, t, us, n, m, e, k _ _ ho hc, hc, hd, k _ _ hoc hcc, hcc, hdc, hs⟩
section
variable {prog : Program} {w : World} {A : Around} {E : Value → Shared → Prop} {s : Shared}
theorem reads_strs {h : Heap} : ∀ {us : List Value} {xs : List Str}, StrsAre us xs → ∃ as, ReadsAll h us (xs.map PyData.str) as
  | _, _, .nil => ⟨_, ReadsAll.nil⟩
  | _, _, .cons x t r => by
    obtain ⟨as, q⟩ := reads_strs (h := h) r
    exact ⟨_, ReadsAll.cons (Reads.str x t) q⟩
theorem q_cmp {vs : List Value} {k : Value → Qd} (hu : A.units + 64 < cLine) (hm : ∀ v ∈ vs, ∀ c ∈ (k v).1, PyData.strOk c = true) (hp : ∀ v ∈ vs, IsQ s.heap v (k v)) : SrtO.Cmp prog w A s (tuples' false) (fun p => p.1 ∈ vs) (SrtO.lt2 fun v u => ltQ (k v) (k u)) := by
  intro p q hm1 hm2
  have h1 := hp _ hm1
  have h2 := hp _ hm2
  have m1 := hm _ hm1
  have m2 := hm _ hm2
  show wpAny (model prog w) A (keyLt' (tuples' false) p.1 q.1) (fun r s' => s' = s ∧ r = ltQ (k p.1) (k q.1)) (fun _ _ => False) s
  generalize k p.1 = x at h1 m1 ⊢
  generalize k q.1 = y at h2 m2 ⊢
  obtain ⟨xc, xe⟩ := x
  obtain ⟨yc, ye⟩ := y
  obtain ⟨a, c, o, oc, t, us, n, m, e, ho, hc, hd, hoc, hcc, hdc, hs⟩ := h1
  obtain ⟨a', c', o', oc', t', us', n', m', e', ho', hc', hd', hoc', hcc', hdc', hs'⟩ := h2
  rw [e, e']
  refine PySem.W.kat_lt ho hd ho' hd' ?_
  show PySem.W.KatLex prog w A false (decide (2 < 2)) _ [(.ref c, .ref c'), (.str xe t, .str ye t')] 0 s
  obtain ⟨as, r1⟩ := reads_strs (h := s.heap) hs
  obtain ⟨bs, r2⟩ := reads_strs (h := s.heap) hs'
  have rd1 : Reads s.heap (.ref c) (.tuple (xc.map PyData.str)) as := Reads.tuple hoc hcc hdc (by simpa using r1)
  have rd2 : Reads s.heap (.ref c') (.tuple (yc.map PyData.str)) bs := Reads.tuple hoc' hcc' hdc' (by simpa using r2)
  have l1 : (PyData.tuple (xc.map PyData.str)).canLay0 = true := lay_strs m1
  have l2 : (PyData.tuple (yc.map PyData.str)).canLay0 = true := lay_strs m2
  refine PySem.W.kat_cons (SeqAt.eqBoolOverData prog w A _ s _ _ _ _ as bs _ rd1 rd2 l1 l2 ?_ ?_)
  · have : (PyData.tuple (xc.map PyData.str)).depth = 1 := by
      show PyData.depthAll _ + 1 = 1
      rw [depth_strs]
    omega
  rw [PyData.eqv, eqv_strs]
  by_cases ex : xc = yc
  · rw [decide_eq_true ex]
    refine PySem.W.kat_yes (PySem.W.kat_cons (SeqAt.EqAt.str_str xe t ye t' prog w _ _ ?_))
    by_cases ey : xe = ye
    · have e3 : ltQ (xc, xe) (yc, ye) = false := by rw [ex, ey]; exact ltQ_irrefl _
      have e4 : (xe == ye) = true := beq_iff_eq.mpr ey
      rw [e4]
      exact PySem.W.kat_yes (PySem.W.kat_nil ⟨rfl, e3.symm⟩)
    · have e3 : ltQ (xc, xe) (yc, ye) = ltS xe ye := if_pos ex
      have e4 : (xe == ye) = false := beq_eq_false_iff_ne.mpr ey
      rw [e4]
      refine PySem.W.kat_no (PySem.W.kat_one _ _ (rcLt_str A s xe t ye t' prog w _ _ ?_))
      exact (show s = s ∧ ltS xe ye = ltQ (xc, xe) (yc, ye) from ⟨rfl, e3.symm⟩)
  · rw [decide_eq_false ex]
    have e3 : ltQ (xc, xe) (yc, ye) = lexS xc yc := if_neg ex
    refine PySem.W.kat_no (PySem.W.kat_one _ _ (lt_tupTexts (us := us.toArray) (vs := us'.toArray) ⟨oc, hoc, hcc, m, hdc⟩ ⟨oc', hoc', hcc', m', hdc'⟩ (by simpa using hs) (by simpa using hs') (by omega) ?_))
    exact (show s = s ∧ lexS xc yc = ltQ (xc, xe) (yc, ye) from ⟨rfl, e3.symm⟩)
theorem q_firsts {h : Heap} : ∀ {vs : List Value} {k : Value → Qd}, (∀ v ∈ vs, IsQ h v (k v)) → ∃ fs : List Value, PySem.W.KatTups h vs fs ∧ fs.length = vs.length ∧ ∀ f ∈ fs, ∃ c oc, f = Value.ref c ∧ h.get? c = some oc ∧ oc.cls = .type "tuple"
  | [], _, _ => ⟨[], PySem.W.KatTups.nil, rfl, fun _ hm => by simp at hm⟩
  | v :: vs, k, hp => by
    obtain ⟨fs, h1, h2, h3⟩ := q_firsts (vs := vs) (k := k) fun v' hm => hp v' (List.mem_cons_of_mem _ hm)
    obtain ⟨a, c, o, oc, t, us, n, m, e, ho, hc, hd, hoc, hcc, hdc, hs⟩ := hp v List.mem_cons_self
    subst e
    refine ⟨.ref c :: fs, PySem.W.KatTups.cons ho hc hd rfl h1, by rw [List.length_cons, List.length_cons, h2], fun f hm => ?_⟩
    rcases List.mem_cons.mp hm with rfl | hm
    · exact ⟨c, oc, rfl, hoc, hcc⟩
    · exact h3 f hm
theorem q_sortable {a : Addr} {vs : List Value} {k : Value → Qd} (hu : A.units + 64 < cLine) (h0 : 0 < vs.length) (hm : ∀ v ∈ vs, ∀ c ∈ (k v).1, PyData.strOk c = true) (hp : ∀ v ∈ vs, IsQ s.heap v (k v)) (ha : ∀ o, s.heap.get? a = some o → o.cls ≠ .type "tuple") :
    SrtO.SortableO prog w A s a vs fun v u => ltQ (k v) (k u) := by
  intro h' keep
  have hp' : ∀ v ∈ vs, IsQ h' v (k v) := fun v hm => (hp v hm).keeps fun b o e c => keep b o (fun z => by subst z; exact ha o e c) e
  obtain ⟨fs, h1, h2, h3⟩ := q_firsts hp'
  refine ⟨tuples' false, fun Q E hq => ?_, q_cmp hu hm hp'⟩
  refine PySem.W.kat_kind (T := .type "tuple") h1 (by omega) (fun f hf => ?_) (by rfl) ?_
  · obtain ⟨c, oc, rfl, hoc, hcc⟩ := h3 f hf
    rw [← hcc]
    exact (PySem.W.Looks.ld hoc).andThen PySem.W.Looks.now
  · have e : (Value.type "tuple" != Value.type "tuple") = false := by first | decide +kernel | rfl | decide
    rw [e]
    exact hq
end
section
variable {X : Cx}
/-- sorted(xs) of questions: a new list of the same ones, rising -/
def rSortedQ (K : PySem.W.Frag) : List V → Hp → VK → Prop := fun vs H Q => ∃ (a : Addr) (xs : List V) (k : V → Qd), vs = [V.ref a] ∧ SqL K H a xs ∧ (∀ x ∈ xs, ∃ t, x = V.ref t ∧ QAt H t (k x).1 (k x).2 ∧ ∀ c ∈ (k x).1, PyData.strOk c = true) ∧
  ∀ ys p, ys.Perm xs → (ys.map k).Pairwise (fun a b => ltQ b a = false) → H p = none → Q (.ref p) (upd H p (.lst ys))
theorem cr_sortedQ (hu : X.A.units + 80 < cLine) : CallR X (.builtin "sorted") (rSortedQ X.K) := by
  intro pins s σ H vs us Q I r h
  obtain ⟨a, xs, k, rfl, hs, hx, q⟩ := h
  obtain ⟨its, rv, hl, hz⟩ := I.list hs
  obtain ⟨u, rfl, ru⟩ := vals1 r
  obtain rfl : u = Value.ref a := ru
  obtain ⟨e1, e2⟩ := refs_back rv fun x m => by
    obtain ⟨t, e, _⟩ := hx x m
    exact ⟨t, e⟩
  have isq : ∀ v ∈ its, IsQ s.heap v (k (backV v)) ∧ ∀ c ∈ (k (backV v)).1, PyData.strOk c = true := fun v hv => by
    obtain ⟨t, rfl⟩ := e2 v hv
    have hmem : V.ref t ∈ xs := by rw [e1]; exact List.mem_map.mpr ⟨_, hv, rfl⟩
    obtain ⟨t', e, ⟨c, g1, g2⟩, g3⟩ := hx _ hmem
    cases e
    obtain ⟨_, i1, r1, o, ho, hc, n, hd⟩ := I.hok _ _ g1
    obtain ⟨_, i2, r2, oc, hoc, hcc, m, hdc⟩ := I.hok _ _ g2
    obtain ⟨u1, u2, rfl, ra, rb⟩ := vals2 r1
    obtain rfl : u1 = Value.ref c := ra
    obtain ⟨tk, rfl⟩ := rb
    exact ⟨⟨t, c, o, oc, tk, i2, n, m, rfl, ho, hc, hd, hoc, hcc, hdc, r2.strs⟩, g3⟩
  refine SrtO.sorted_ord (swo_q fun u => k (backV u)) hl.isList (by rw [← rv.length]; exact hz) (fun h2 h₁ b hb kk => ?_) fun out h1 h2 => ?_
  · refine q_sortable (s := { s with heap := h₁ }) (by show X.A.units + 1 + 1 + 64 < cLine; omega) (by omega) (fun v hv => (isq v hv).2) (fun v hv => (isq v hv).1.keeps fun c o e _ => (kk c o e).2) fun o e => ?_
    have e' : some o = some (seqObj "list" its.toArray 0) := e.symm.trans hb
    cases e'
    intro c
    exact absurd (Value.type.inj c) (by decide)
  · have h3 : ∀ u ∈ out, ∃ a, u = Value.ref a := fun u hu => e2 u (h2.perm.mem_iff.mp hu)
    obtain ⟨n, hn⟩ := sortedAll_at s.heap its out.toArray
    have hperm : (out.map backV).Perm xs := by
      rw [e1]
      exact h2.perm.map backV
    have hsrt : ((out.map backV).map k).Pairwise (fun a b => ltQ b a = false) := by
      rw [List.map_map]
      exact List.pairwise_map.mpr h1
    refine ⟨.ref (s.heap.objs.size + 1), upd H (s.heap.objs.size + 1) (.lst (out.map backV)), I.laid (t' := s.toks) (fun b o e => sortedAll_old e) (Nat.le_succ _) ⟨?_, out, n, vals_back h3, hn⟩, rfl, q _ _ hperm hsrt (I.hok.fresh (Nat.le_succ _))⟩
    rw [hperm.length_eq]
    exact hz
end
end Qk

set_option maxRecDepth 100000
set_option maxHeartbeats 4000000
namespace Qk
open PySem PySem.Spec PyProof.Rows L2 PySem.W

/-! ### enumerate of a tuple -/
set_option maxHeartbeats 1000000 in
theorem meets_enum1 {v : Value} {o : Obj} {H : Heap → Prop} (B : Begins v o H) :
    Meets (Builtin.«enumerate.__new__» ⟨[.type "enumerate", v], []⟩) (fun _ R s => H s.heap ∧
      R (.ok (.ret (.ref (s.heap.push o).objs.size))) { s with heap := (s.heap.push o).push { cls := .type "enumerate", data := .fields #[.none, .bool false, .ref s.heap.objs.size, rawInt 0, .none, .none] } }) :=
  .of_wp fun prog w A R s h => by
    obtain ⟨hp, g, d, tk, os⟩ := s
    obtain ⟨h1, h⟩ := h
    have hsub := sub_enumerate
    have q1 : ∀ {A' : Around} {E : Value → Shared → Prop} {Q : Value → Shared → Prop}, Q (.ref hp.objs.size) ⟨hp.push o, g, d, tk, os⟩ → wpAny (model prog w) A' (pyIter v) Q E ⟨hp, g, d, tk, os⟩ :=
      fun q => B.iter prog w _ _ ⟨hp, g, d, tk, os⟩ _ h1 q
    wp_walk using q1
    refine wpAny_stack_any fun st => wpAny_pure ?_
    split
    · rename_i c _ _ _ _ _
      cases (c == Value.type "enumerate")
      · wp_walk using q1
        exact ⟨_, rfl, h⟩
      · wp_walk using q1
        exact ⟨_, rfl, h⟩
    · wp_walk using q1
      exact ⟨_, rfl, h⟩
theorem call_enum1 {prog : Program} {w : World} {A : Around} {E : Value → Shared → Prop} {s : Shared} {v : Value} {o : Obj} {H : Heap → Prop} {Q : Value → Shared → Prop} (B : Begins v o H) (h1 : H s.heap)
    (h : ∀ h', IsEnum h' (s.heap.objs.size + 1) s.heap.objs.size 0 .none → h'.get? s.heap.objs.size = some o → (∀ b o, s.heap.get? b = some o → h'.get? b = some o) → Q (.ref (s.heap.objs.size + 1)) { s with heap := h' }) :
    wpAny (model prog w) A (call (.type "enumerate") [v]) Q E s := by
  refine callType_new F.called_enumerate (by decide) (F.typeCall_enumerate_1 _) (F.newCall_enumerate_1 _) (fun obj => F.args_object_init_2 obj _) F.entry_enumerate_new (meets_enum1 B) ⟨h1, ?_⟩
  have hz : (s.heap.push o).objs.size = s.heap.objs.size + 1 := Heap.size_push ..
  show _ ∧ _
  rw [hz]
  have he : IsEnum ((s.heap.push o).push { cls := .type "enumerate", data := .fields #[.none, .bool false, .ref s.heap.objs.size, rawInt 0, .none, .none] }) (s.heap.objs.size + 1) s.heap.objs.size 0 .none := by
    have q := Heap.get?_push_size (s.heap.push o) (o := { cls := .type "enumerate", data := .fields #[.none, .bool false, .ref s.heap.objs.size, rawInt 0, .none, .none] }) rfl
    rw [hz] at q
    exact q
  exact ⟨⟨_, he, rfl⟩, h _ he (Heap.get?_push_of_some _ (Heap.get?_push_size _ B.free)) fun b u x => Heap.get?_push_of_some _ (Heap.get?_push_of_some _ x)⟩
/-- the tuple at a, each item in a new pair -/
def IteT (K : PySem.W.Frag) (a : Addr) : It :=
  ⟨fun i H => ∃ (xs : List V) (x : V), SqT K H a xs ∧ xs[i]? = some x, fun i H v H' => ∃ T x, v = .ref T ∧ H T = none ∧ H' = upd H T (.tup [.int (i : Nat), x]) ∧ ∀ xs, SqT K H a xs → xs[i]? = some x, fun i H => ∃ xs : List V, SqT K H a xs ∧ xs.length = i⟩
theorem turn_enumT {P : Program} {w : World} {K : PySem.W.Frag} {elts : List Expr} {kk : Nat} {tpos : Pos} (a e it : Addr) :
    Turn P w K (.Tuple elts kk tpos) (IteT K a) [e, it] e (fun i h => (∃ old, IsEnum h e it ((i : Nat) : Int) old) ∧ h.IsTupleIter it a i ∧ e ≠ it ∧ a ≠ it ∧ a ≠ e) where
  mem := by simp
  obj := fun i h st b hb => by
    obtain ⟨⟨old, he⟩, ⟨o, ho, hc, hd⟩, _⟩ := st
    have e' : b = e ∨ b = it := by simpa using hb
    rcases e' with z | z
    · rw [z]; exact ⟨_, he, fun v q => nomatch q⟩
    · rw [z]; exact ⟨o, ho, fun v q => by rw [hd] at q; cases q⟩
  keep := fun i h h' st k => let ⟨⟨old, he⟩, hi, hne⟩ := st; ⟨⟨old, k e (by simp) _ he⟩, hi.at fun o q => k it (by simp) o q, hne⟩
  item := by
    intro X hP hw hK hc i pins s σ H E I hf st hg
    subst hP hw hK
    obtain ⟨⟨old, he⟩, hit, hne, hai, hae⟩ := st
    obtain ⟨xs, x, hq, hx⟩ := hg
    obtain ⟨its, rv, p, hz⟩ := I.tuple hq
    obtain ⟨u, hu, ru⟩ := rv.get hx
    have hel : e < s.heap.objs.size := Heap.lt_size he
    have hil : it < s.heap.objs.size := by obtain ⟨_, q, _⟩ := hit; exact Heap.lt_size q
    have hT0 : s.heap.IsTuple a its.toArray := p
    have hlt : i < its.toArray.size := by
      have := (List.getElem?_eq_some_iff.mp hu).1
      simpa using this
    refine wpAny_pyNext_enum_itemD (Draws.tuple (A := X.A.in1) (I.ok.hd hc) it a hai its.toArray) he ⟨hit, hT0⟩ hlt hne (by simp [Ne.symm hae, hne]) fun y h' tk hy ho hst hT hsz hk => ?_
    have hyu : y = u := by
      have h1 : its.toArray[i]? = some y := hy
      rw [List.getElem?_toArray, hu] at h1
      exact (Option.some.inj h1).symm
    subst hyu
    obtain ⟨hit', _⟩ := hst
    refine ⟨_, rfl, wpAny_letOwnedTupleGo_enum (s := { s with heap := h', toks := tk + 1 }) ho fun h'' he' sb => ?_⟩
    have hT2 : h''.get? s.heap.objs.size = some { cls := .type "tuple", data := .seq #[.int i tk, y] } := (sb.2 _ (Nat.ne_of_gt hel)).trans hT
    have new : ObjOk X.prog X.w (upd H s.heap.objs.size (.tup [.int (i : Nat), x])) h'' s.heap.objs.size (.tup [.int (i : Nat), x]) :=
      ⟨by show 2 ≤ sizeLine; decide, [.int i tk, y], .cons ⟨_, rfl⟩ (.cons ru .nil), ⟨_, hT2, rfl, _, rfl⟩⟩
    have I1 : Inv X pins σ (upd H s.heap.objs.size (.tup [.int (i : Nat), x])) { s with heap := h'', toks := tk + 1 } :=
      I.turnedNew (ch := [e, it]) (fun b ob hb q => (sb.2 b (fun z => hb (by simp [z]))).trans (hk b ob (fun z => hb (by simp [z])) (fun z => hb (by simp [z])) q)) hf (Nat.le_refl _) new
    refine ⟨.ref s.heap.objs.size, _, I1, rfl, ⟨_, x, rfl, I.hok.fresh (Nat.le_refl _), rfl, fun ys hy => by rw [I.tuple_inj hy hq]; exact hx⟩, ⟨⟨y, ?_⟩, hit'.at fun o q => (sb.2 it (Ne.symm hne)).trans q, hne, hai, hae⟩, fun b hb => ?_⟩
    · have e1 : ((i + 1 : Nat) : Int) = (i : Int) + 1 := by omega
      rw [e1]; exact he'
    · have hb' : b < s.heap.objs.size := by
        have e' : b = e ∨ b = it := by simpa using hb
        rcases e' with z | z
        · rw [z]; exact hel
        · rw [z]; exact hil
      rw [upd_ne (Nat.ne_of_lt hb')]
      exact (hf b hb).1
  done := by
    intro X hP hw hK hc i pins s σ H E I hf st hg
    subst hP hw hK
    obtain ⟨⟨old, he⟩, hit, hne, hai, hae⟩ := st
    obtain ⟨xs, hq, hx⟩ := hg
    obtain ⟨its, rv, p, hz⟩ := I.tuple hq
    obtain ⟨f0, f1, f2, f3, f4, f5⟩ := hf it (by simp)
    have hT0 : s.heap.IsTuple a its.toArray := p
    have hi : i = its.toArray.size := by
      rw [List.size_toArray, ← rv.length]
      exact hx.symm
    subst hi
    exact wpAny_pyNext_enum_endD (Draws.tuple (A := X.A.in1) (I.ok.hd hc) it a hai its.toArray) he ⟨hit, hT0⟩ fun h' eb => ⟨rfl, I.turned (t' := s.toks) (fun b o hb q => eb b o hb q) f0 f1 f3 f4 f5⟩
  self := fun A i s Q E st h => let ⟨⟨_, he⟩, _⟩ := st; wpAny_pyIter_enum he h
def iEnumT (K : PySem.W.Frag) (ta : TA) : TI := fun σ H R => ta σ H fun vs H1 => ∃ a xs, vs = [.ref a] ∧ SqT K H1 a xs ∧ R (IteT K a) H1
theorem pi_enumT {X : Cx} {e : Expr} {ta : TA} {p pos tpos : Pos} {elts : List Expr} {kk : Nat} (hg : Gl X "enumerate") (hm : X.mg "enumerate" = none) (ha : PA X [e] ta) (hs : starEach [e] X.env = [(false, eval e X.env)] := by rfl) :
    PI X (.Tuple elts kk tpos) (.Call (.Name "enumerate" p) [e] [] pos) (iEnumT X.K ta) := by
  refine ⟨fun pins s σ H R I h => ?_⟩
  refine Call_ (ld_blt I hg hm boot_enumerate (PyProof.Rows.callWith_type1 (thn (ha.run pos pins s σ H _ I h) fun us s1 ⟨vs, H1, I1, r1, q1⟩ => ?_) hs rfl))
  obtain ⟨a, xs, ex, hq, q⟩ := q1
  subst ex
  cases r1 with
  | cons r rr =>
    cases rr
    cases r
    obtain ⟨its, rv, p', hz⟩ := I1.tuple hq
    have al : a < s1.heap.objs.size := p'.lt
    refine call_enum1 (begins_tuple a its.toArray) p' fun h' he hit hk => wpAny_pyIter_enum he ?_
    have I2 : Inv X pins σ H1 { s1 with heap := h' } := I1.kept (t' := s1.toks) hk
    refine ⟨s1.heap.objs.size + 1, [s1.heap.objs.size + 1, s1.heap.objs.size], _, _, H1, rfl, I2, turn_enumT a (s1.heap.objs.size + 1) s1.heap.objs.size, ⟨⟨.none, he⟩, ⟨_, hit, rfl, rfl⟩, Nat.succ_ne_self _, Nat.ne_of_lt al, Nat.ne_of_lt (Nat.lt_succ_of_lt al)⟩, fun b hb => ?_, q⟩
    have e' : b = s1.heap.objs.size + 1 ∨ b = s1.heap.objs.size := by simpa using hb
    have hle : s1.heap.objs.size ≤ b := by
      rcases e' with z | z
      · rw [z]; exact Nat.le_add_right _ _
      · rw [z]; exact Nat.le_refl _
    exact I1.fpOk hle (I1.hok.fresh hle)
/-- for i, x in enumerate(t): a word of the turn, the slots, the heap -/
theorem for_enumT {K : PySem.W.Frag} {a : Addr} {xs : List V} {g : TG} {tb : TS} {D : Ends} {σ : L2.St} {H : Hp} (Pv : Nat → L2.St → Hp → Prop) (h0 : Pv 0 σ H) (hl : ∀ i σ H, i ≤ xs.length → Pv i σ H → SqT K H a xs)
    (hs : ∀ i x σ H, xs[i]? = some x → Pv i σ H → ∀ T, H T = none → g (.ref T) σ (upd H T (.tup [.int (i : Nat), x])) fun σ2 H2 => tb { D with nx := Pv (i + 1), ct := Pv (i + 1), bk := D.nx } σ2 H2) (hd : ∀ σ H, Pv xs.length σ H → D.nx σ H) :
    ∃ W : Nat → Nat → L2.St → Hp → Prop, (∃ m, W 0 m σ H) ∧ ∀ i m σ H, W i m σ H →
      ((IteT K a).stop i H ∧ D.nx σ H) ∨ ((IteT K a).go i H ∧ ∃ N : L2.St → Hp → Prop, (∀ σ' H', N σ' H' → ∃ m', m' < m ∧ W (i + 1) m' σ' H') ∧ ∀ x H', (IteT K a).yld i H x H' → g x σ H' fun σ2 H2 => tb { D with nx := N, ct := N, bk := D.nx } σ2 H2) := by
  refine ⟨fun i m σ H => m = xs.length - i ∧ i ≤ xs.length ∧ Pv i σ H, ⟨xs.length, by simp, Nat.zero_le _, h0⟩, ?_⟩
  rintro i m σ H ⟨rfl, hi, p⟩
  have q := hl i σ H hi p
  rcases Nat.lt_or_ge i xs.length with hlt | hge
  · have hx : xs[i]? = some xs[i] := List.getElem?_eq_getElem hlt
    refine .inr ⟨⟨xs, xs[i], q, hx⟩, Pv (i + 1), fun σ' H' p' => ⟨xs.length - (i + 1), by omega, rfl, hlt, p'⟩, fun x H' y => ?_⟩
    obtain ⟨T, z, rfl, hT, rfl, hz⟩ := y
    have e := hz xs q
    exact hs i z σ H e p T hT
  · have e : i = xs.length := by omega
    subst e
    exact .inl ⟨⟨xs, q, rfl⟩, hd σ H p⟩
end Qk

set_option maxRecDepth 100000
set_option maxHeartbeats 4000000
namespace Qk
open PySem PySem.Spec PyProof.Rows L2

/-! the sorted list of some texts -/
instance (a b : Str) : Decidable (leS a b) := by unfold leS; infer_instance
def srt (xs : List Str) : List Str := xs.mergeSort (fun a b => decide (leS a b))
theorem leS_total (a b : Str) : leS a b ∨ leS b a := by
  unfold leS
  rw [ltCps_eq, ltCps_eq]
  by_cases h : b.cps.toList < a.cps.toList
  · right
    refine decide_eq_false fun h2 => List.lt_irrefl _ (List.lt_trans h h2)
  · left
    exact decide_eq_false h
theorem srt_perm (xs : List Str) : (srt xs).Perm xs := List.mergeSort_perm _ _
theorem srt_pw (xs : List Str) : (srt xs).Pairwise leS := by
  have h := List.pairwise_mergeSort (le := fun a b => decide (leS a b)) (fun a b c h1 h2 => decide_eq_true (leS_trans (of_decide_eq_true h1) (of_decide_eq_true h2)))
    (fun a b => by
      rcases leS_total a b with h | h
      · simp [h]
      · simp [h]) xs
  exact h.imp fun h => of_decide_eq_true h
theorem srt_eq {ws xs : List Str} (h : ws.Perm xs) (hs : sortedS ws = true) : ws = srt xs := perm_sorted (h.trans (srt_perm xs).symm) (sortedS_pw hs) (srt_pw xs)
theorem srt_len (xs : List Str) : (srt xs).length = xs.length := (srt_perm xs).length_eq

/-! all questions that an index serves, as the index is walked -/
def qPair (ix : List Str) (j : Nat) : List Qd := [(srt (ix.take j), ix.getD j ""), (srt (ix.take (j + 1)), "")]
def allQ (ix : List Str) (n : Nat) : List Qd := (List.range n).flatMap (qPair ix)
theorem allQ_zero (ix : List Str) : allQ ix 0 = [] := rfl
theorem allQ_succ (ix : List Str) (n : Nat) : allQ ix (n + 1) = allQ ix n ++ qPair ix n := by
  unfold allQ
  rw [List.range_succ, List.flatMap_append]
  simp
theorem allQ_len (ix : List Str) : ∀ n, (allQ ix n).length = 2 * n
  | 0 => rfl
  | n + 1 => by
    rw [allQ_succ, List.length_append, allQ_len ix n]
    show 2 * n + 2 = _
    omega
theorem mem_allQ {ix : List Str} {n : Nat} {q : Qd} : q ∈ allQ ix n ↔ ∃ j, j < n ∧ (q = (srt (ix.take j), ix.getD j "") ∨ q = ((srt (ix.take (j + 1)), ("" : Str)) : Qd)) := by
  unfold allQ
  rw [List.mem_flatMap]
  constructor
  · rintro ⟨j, hj, h⟩
    refine ⟨j, List.mem_range.mp hj, ?_⟩
    simpa [qPair] using h
  · rintro ⟨j, hj, h⟩
    refine ⟨j, List.mem_range.mpr hj, ?_⟩
    simpa [qPair] using h
/-- a question is among them just if the index serves it -/
theorem allQ_serves {ix cols : List Str} {e : Str} (R : Row ix) (hc : cols.Nodup) (hs : sortedS cols = true) (hne : e = "" → cols ≠ []) : (cols, e) ∈ allQ ix ix.length ↔ fault ix cols e = none := by
  have hp := srt_perm (ix.take cols.length)
  have key : fault ix cols e = none ↔ srt (ix.take cols.length) = cols ∧ (e = "" ∨ ix[cols.length]? = some e) := by
    constructor
    · intro h
      have good := h
      unfold fault at good
      -- through the sorted list itself
      have e1 : ∃ ws : List Str, ws.Perm (ix.take cols.length) ∧ sortedS ws = true := by
        refine ⟨srt (ix.take cols.length), hp, sortedS_of_pairwise _ (srt_pw _)⟩
      obtain ⟨ws, w1, w2⟩ := e1
      have := (fault_none (last := e) R.nd hc hs w1 w2).mp h
      rw [← srt_eq w1 w2]
      exact this
    · rintro ⟨h1, h2⟩
      exact (fault_none (last := e) R.nd hc hs hp (sortedS_of_pairwise _ (srt_pw _))).mpr ⟨h1, h2⟩
  rw [mem_allQ, key]
  have getD_at : ∀ j, j < ix.length → ix[j]? = some (ix.getD j "") := fun j hj => by
    rw [List.getD_eq_getElem?_getD, List.getElem?_eq_getElem hj]
    rfl
  constructor
  · rintro ⟨j, hj, h | h⟩
    · injection h with h1 h2
      have hl : cols.length = j := by rw [h1, srt_len, List.length_take]; omega
      rw [hl]
      exact ⟨h1.symm, .inr (by rw [h2]; exact getD_at j hj)⟩
    · injection h with h1 h2
      have hl : cols.length = j + 1 := by rw [h1, srt_len, List.length_take]; omega
      rw [hl]
      exact ⟨h1.symm, .inl h2⟩
  · rintro ⟨h1, h2⟩
    have hl : cols.length ≤ ix.length := by
      have := congrArg List.length h1
      rw [srt_len, List.length_take] at this
      omega
    by_cases he : e = ""
    · have hpos : cols.length ≠ 0 := fun z => hne he (List.eq_nil_of_length_eq_zero z)
      refine ⟨cols.length - 1, by omega, .inr ?_⟩
      have e1 : cols.length - 1 + 1 = cols.length := by omega
      rw [e1, h1, he]
    · have h3 := h2.resolve_left he
      have hlt : cols.length < ix.length := (List.getElem?_eq_some_iff.mp h3).1
      refine ⟨cols.length, hlt, .inl ?_⟩
      rw [h1]
      have := getD_at _ hlt
      rw [h3] at this
      rw [← Option.some.inj this]

/-! lists of questions as they stand -/
def QL (H : Hp) (xs : List V) (qs : List Qd) : Prop := Paired (fun (x : V) (q : Qd) => ∃ t, x = .ref t ∧ QAt H t q.1 q.2) xs qs
theorem QL.len {H : Hp} {xs : List V} {qs : List Qd} (h : QL H xs qs) : xs.length = qs.length := Paired.length h
theorem QL.same {H H' : Hp} {xs : List V} {qs : List Qd} (s : Same H H') (h : QL H xs qs) : QL H' xs qs := Paired.mapP h fun x q ⟨t, e, z⟩ => ⟨t, e, z.same s⟩
theorem QL.kp {H H' : Hp} {b l : Addr} {xs : List V} {qs : List Qd} (B : Bag H b l) (s : Kp b H H') (h : QL H xs qs) : QL H' xs qs := Paired.mapP h fun x q ⟨t, e, z⟩ => ⟨t, e, z.kp B s⟩
theorem paired_app {α β : Type} {F : α → β → Prop} : ∀ {xs xs' : List α} {ys ys' : List β}, Paired F xs ys → Paired F xs' ys' → Paired F (xs ++ xs') (ys ++ ys')
  | _, _, _, _, .nil, h => h
  | _, _, _, _, .cons r t, h => .cons r (paired_app t h)
theorem QAt.uniq {H : Hp} {t : Addr} {c1 c2 : List Str} {e1 e2 : Str} (h1 : QAt H t c1 e1) (h2 : QAt H t c2 e2) : (c1, e1) = (c2, e2) := by
  obtain ⟨a, x1, x2⟩ := h1
  obtain ⟨b, y1, y2⟩ := h2
  rw [x1] at y1
  injection y1 with y1
  injection y1 with y1
  injection y1 with y1 y3
  injection y3 with y3 _
  injection y1 with y1
  injection y3 with y3
  subst y1
  rw [x2] at y2
  injection y2 with y2
  injection y2 with y2
  have : c1 = c2 := by
    have inj : ∀ {l m : List Str}, l.map V.str = m.map V.str → l = m := fun {l m} h => by
      induction l generalizing m with
      | nil => cases m with
        | nil => rfl
        | cons _ _ => cases h
      | cons x l ih => cases m with
        | nil => cases h
        | cons y m =>
          rw [List.map_cons, List.map_cons] at h
          injection h with h h'
          injection h with h
          rw [h, ih h']
    exact inj y2
  rw [this, y3]
open Classical in
noncomputable def keyQ (H : Hp) (x : V) : Qd := if h : ∃ q : Qd, ∃ t, x = .ref t ∧ QAt H t q.1 q.2 then h.choose else ([], "")
theorem keyQ_at {H : Hp} {t : Addr} {q : Qd} (h : QAt H t q.1 q.2) : keyQ H (.ref t) = q := by
  have ex : ∃ q : Qd, ∃ t', V.ref t = .ref t' ∧ QAt H t' q.1 q.2 := ⟨q, t, rfl, h⟩
  unfold keyQ
  rw [dif_pos ex]
  obtain ⟨t', e, z⟩ := ex.choose_spec
  injection e with e
  subst e
  exact z.uniq h
theorem QL.keys {H : Hp} : ∀ {xs : List V} {qs : List Qd}, QL H xs qs → xs.map (keyQ H) = qs
  | _, _, .nil => rfl
  | _, _, .cons ⟨t, e, z⟩ r => by
    subst e
    rw [List.map_cons, keyQ_at z, QL.keys r]
theorem QL.of_keys {H : Hp} : ∀ {xs : List V}, (∀ x ∈ xs, ∃ (t : Addr) (q : Qd), x = V.ref t ∧ QAt H t q.1 q.2) → QL H xs (xs.map (keyQ H))
  | [], _ => .nil
  | x :: xs, h => by
    obtain ⟨t, q, e, z⟩ := h x List.mem_cons_self
    subst e
    rw [List.map_cons, keyQ_at z]
    exact .cons ⟨t, rfl, z⟩ (QL.of_keys fun y hy => h y (List.mem_cons_of_mem _ hy))
theorem QL.mem {H : Hp} : ∀ {xs : List V} {qs : List Qd}, QL H xs qs → ∀ x ∈ xs, ∃ (t : Addr) (q : Qd), x = V.ref t ∧ QAt H t q.1 q.2 ∧ q ∈ qs
  | _, _, .nil, x, hx => by cases hx
  | _, _, .cons ⟨t, e, z⟩ r, x, hx => by
    rcases List.mem_cons.mp hx with rfl | hx
    · exact ⟨t, _, e, z, List.mem_cons_self⟩
    · obtain ⟨t', q', a, b, c⟩ := QL.mem r x hx
      exact ⟨t', q', a, b, List.mem_cons_of_mem _ c⟩
/-- no question stands behind a greater one -/
def rising (qs : List Qd) : Prop := qs.Pairwise (fun a b => ltQ b a = false)
def rSortedQL (K : PySem.W.Frag) : List V → Hp → VK → Prop := fun vs H Q => ∃ (a : Addr) (xs : List V) (qs : List Qd), vs = [V.ref a] ∧ SqL K H a xs ∧ QL H xs qs ∧ (∀ q ∈ qs, ∀ c ∈ q.1, PyData.strOk c = true) ∧
  ∀ (ys : List V) (rs : List Qd) (p : Addr), QL H ys rs → rs.Perm qs → rising rs → H p = none → Q (.ref p) (upd H p (.lst ys))
theorem cr_sortedQL {X : Cx} (hu : X.A.units + 80 < cLine) : CallR X (.builtin "sorted") (rSortedQL X.K) := by
  intro pins s σ H vs us Q I r h
  obtain ⟨a, xs, qs, rfl, hs, hq, hok, q⟩ := h
  refine cr_sortedQ hu pins s σ H _ us Q I r ⟨a, xs, keyQ H, rfl, hs, fun x hx => ?_, fun ys p hp hr hn => ?_⟩
  · obtain ⟨t, z, e, at_, hm⟩ := hq.mem x hx
    subst e
    rw [keyQ_at at_]
    exact ⟨t, rfl, at_, hok z hm⟩
  · refine q ys (ys.map (keyQ H)) p (QL.of_keys fun y hy => ?_) ?_ hr hn
    · obtain ⟨t, z, e, at_, _⟩ := hq.mem y (hp.mem_iff.mp hy)
      exact ⟨t, z, e, at_⟩
    · rw [← hq.keys]
      exact hp.map _
/-! .. as data -/
def dq (q : Qd) : PyData := dQ q.1 q.2
theorem QL.dp {K : PySem.W.Frag} {H : Hp} : ∀ {xs : List V} {qs : List Qd}, QL H xs qs → DpAll K H xs (qs.map dq)
  | _, _, .nil => .nil
  | _, _, .cons ⟨t, e, z⟩ r => by
    subst e
    exact .cons (dp_q z) (QL.dp r)
structure Qfine (q : Qd) : Prop where
  c : ∀ c ∈ q.1, okS c = true
  e : okS q.2 = true
  l : q.1.length ≤ 12
theorem okS_empty : okS "" = true := by decide +kernel
theorem fine_q {q : Qd} (h : Qfine q) : fine (dq q) = true := by
  show (fine (.tuple (q.1.map PyData.str)) && (fine (.str q.2) && true)) = true
  rw [Bool.and_true, Bool.and_eq_true]
  exact ⟨fine_strs h.c, h.e⟩
theorem cost_q {q : Qd} (h : Qfine q) : cost (dq q) ≤ 3000 := by
  have hl := h.l
  show costAll (q.1.map PyData.str) + 3 + 2 + (210 + 2 + 0) + 3 ≤ 3000
  rw [cost_strs]
  omega
theorem depth_q (q : Qd) : (dq q).depth = 2 := by
  show max (PyData.depthAll (q.1.map PyData.str) + 1) (max 0 0) + 1 = 2
  rw [depth_strs]
  rfl
theorem fine_qs : ∀ {qs : List Qd}, (∀ q ∈ qs, Qfine q) → fineAll (qs.map dq) = true
  | [], _ => rfl
  | q :: qs, h => by
    show (fine (dq q) && fineAll (qs.map dq)) = true
    rw [fine_qs fun q hq => h q (List.mem_cons_of_mem _ hq), Bool.and_true]
    exact fine_q (h q List.mem_cons_self)
theorem cost_qs : ∀ {qs : List Qd}, (∀ q ∈ qs, Qfine q) → costAll (qs.map dq) ≤ 3002 * qs.length
  | [], _ => Nat.le_refl 0
  | q :: qs, h => by
    have h1 := cost_q (h q List.mem_cons_self)
    have h2 := cost_qs fun q hq => h q (List.mem_cons_of_mem _ hq)
    show cost (dq q) + 2 + costAll (qs.map dq) ≤ _
    rw [List.length_cons]
    omega
theorem depth_qs : ∀ (qs : List Qd), PyData.depthAll (qs.map dq) ≤ 2
  | [] => Nat.zero_le _
  | q :: qs => by
    show max (dq q).depth (PyData.depthAll (qs.map dq)) ≤ 2
    rw [depth_q]
    exact Nat.max_le.mpr ⟨Nat.le_refl 2, depth_qs qs⟩
theorem dok_q {q : Qd} (h : Qfine q) : DOk (dq q) := ⟨fine_q h, by rw [depth_q]; decide, Nat.le_trans (cost_q h) (by decide)⟩
theorem dok_qs {qs : List Qd} (h : ∀ q ∈ qs, Qfine q) (hl : qs.length ≤ 100) : DOk (.list (qs.map dq)) :=
  ⟨fine_qs h, by show PyData.depthAll _ + 1 ≤ 50; have := depth_qs qs; omega, by show costAll _ + 3 ≤ _; have := cost_qs h; omega⟩
theorem eqv_q (p q : Qd) : PyData.eqv (dq p) (dq q) = decide (p = q) := by
  show PyData.eqv (.tuple [.tuple (p.1.map PyData.str), .str p.2]) (.tuple [.tuple (q.1.map PyData.str), .str q.2]) = _
  have e0 : PyData.eqv (.tuple (p.1.map PyData.str)) (.tuple (q.1.map PyData.str)) = decide (p.1 = q.1) := by rw [PyData.eqv, eqv_strs]
  rw [PyData.eqv, PyData.eqvAll, PyData.eqvAll, PyData.eqvAll, e0, PyData.eqv, Bool.and_true]
  by_cases h1 : p.1 = q.1
  · by_cases h2 : p.2 = q.2
    · rw [decide_eq_true h1, decide_eq_true (Prod.ext h1 h2), h2, beq_self_eq_true]
      rfl
    · rw [decide_eq_true h1, decide_eq_false (fun e => h2 (by rw [e]))]
      rw [beq_eq_false_iff_ne.mpr h2]
      rfl
  · rw [decide_eq_false h1, decide_eq_false (fun e => h1 (by rw [e]))]
    rfl
theorem any_q (q : Qd) (qs : List Qd) : ((qs.map dq).any fun z => PyData.eqv z (dq q)) = decide (q ∈ qs) := by
  rw [List.any_map]
  by_cases h : q ∈ qs
  · rw [decide_eq_true h]
    exact List.any_eq_true.mpr ⟨q, h, by show PyData.eqv (dq q) (dq q) = true; rw [eqv_q]; exact decide_eq_true rfl⟩
  · rw [decide_eq_false h]
    refine List.any_eq_false.mpr fun y hy e => h ?_
    have e' : PyData.eqv (dq y) (dq q) = true := e
    rw [eqv_q] at e'
    rw [← of_decide_eq_true e']
    exact hy
theorem allQ_fine {ix : List Str} (R : Row ix) {n : Nat} (hn : n ≤ ix.length) : ∀ q ∈ allQ ix n, Qfine q := by
  intro q hq
  obtain ⟨j, hj, h | h⟩ := mem_allQ.mp hq
  · subst h
    refine ⟨fun c hc => menu_okS _ (R.sub _ ((List.take_sublist _ _).mem ((srt_perm _).mem_iff.mp hc))), ?_, by show (srt _).length ≤ 12; rw [srt_len, List.length_take]; have := R.le; omega⟩
    show okS (ix.getD j "") = true
    rw [List.getD_eq_getElem?_getD, List.getElem?_eq_getElem (show j < ix.length by omega)]
    exact menu_okS _ (R.sub _ (List.getElem_mem _))
  · subst h
    exact ⟨fun c hc => menu_okS _ (R.sub _ ((List.take_sublist _ _).mem ((srt_perm _).mem_iff.mp hc))), okS_empty, by show (srt _).length ≤ 12; rw [srt_len, List.length_take]; have := R.le; omega⟩
theorem okS_strOk {c : Str} (h : okS c = true) : PyData.strOk c = true := by
  unfold okS at h
  rw [Bool.and_eq_true] at h
  exact h.1
theorem QM.fine {cols : List Str} {e : Str} (h : QM cols e) : Qfine (cols, e) :=
  ⟨fun c hc => menu_okS _ (h.sub c hc), by rcases h.esub with z | z
                                           · show okS e = true
                                             rw [z]
                                             exact okS_empty
                                           · exact menu_okS _ z, h.le⟩
/-! promises -/
def spQof : Sp := fun vs H Q _ => ∃ (t : Addr) (ix : List Str), vs = [.ref t] ∧ H t = some (.tup (ix.map V.str)) ∧ Row ix ∧
  ∀ (ys : List V) (rs : List Qd) (p : Addr) (H' : Hp), Same H H' → H p = none → H' p = some (.lst ys) → QL H' ys rs → rs.Perm (allQ ix ix.length) → rising rs → Q (.ref p) H'
def spServedBy : Sp := fun vs H Q _ => ∃ (t : Addr) (ix : List Str), vs = [.ref t] ∧ H t = some (.tup (ix.map V.str)) ∧ Row ix ∧
  ∀ (ys : List V) (p : Addr) (H' : Hp), Same H H' → H p = none → H' p = some (.lst ys) → QL H' ys (allQ ix ix.length) → Q (.ref p) H'
theorem rising_uniq {xs ys zs : List Qd} (h1 : xs.Perm zs) (h2 : ys.Perm zs) (r1 : rising xs) (r2 : rising ys) : xs = ys := perm_ltQ (h1.trans h2.symm) r1 r2
end Qk

set_option maxRecDepth 100000
set_option maxHeartbeats 4000000
namespace Qk
open PySem PySem.Spec PyProof.Rows L2

/-! ### own errors as values: made, asked for their class, their fields read -/
/-- an error of the class at C stands at a -/
def Er (H : Hp) (a C : Addr) : Prop := H a = some (exo a C none) ∨ ∃ d fs, H a = some (exo a C (some d)) ∧ H d = some (exd d fs)
theorem Er.same {H H' : Hp} {a C : Addr} (s : Same H H') (h : Er H a C) : Er H' a C := by
  rcases h with h | ⟨d, fs, h, hd⟩
  · exact .inl (s _ _ h)
  · exact .inr ⟨d, fs, s _ _ h, s _ _ hd⟩
/-- what the written part says of such a class -/
structure ErC (K : PySem.W.Frag) (C : Addr) : Prop where
  o : OexC K C
  x : XfC K C
  ha : PySem.W.findIn K (.ref C) "__class__" = some (some (.builtin "object.__class__"))
  hn : PySem.W.specialIn K (.builtin "object.__class__") "__get__" = some (some (.builtin "getset_descriptor.__get__"))
  ht : PySem.W.takesIn K (.builtin "object.__class__") = some true
  hm : PySem.W.mroIn K C (.type "object") = some true
section
variable {X : Cx} {pins : List (Addr × Obj)} {σ : L2.St} {H : Hp} {s : Shared}
theorem er_inst {a C : Addr} (I : Inv X pins σ H s) (h : Er H a C) : ∃ ox od, PySem.W.InstAt s.heap a ox C od := by
  rcases h with h | ⟨d, fs, h, hd⟩
  · obtain ⟨t1, e⟩ := exo_at I.hok h
    exact ⟨_, none, e, rfl, rfl, trivial⟩
  · obtain ⟨t1, e⟩ := exo_at I.hok h
    obtain ⟨mA, ⟨o, es, ep, ho, r⟩, _⟩ := exd_at I.hok hd
    exact ⟨_, some o, e, rfl, rfl, ho⟩
end
/-- isinstance(e, c), e such an error -/
def rIsEr (K : PySem.W.Frag) : List V → Hp → VK → Prop := fun xs H Q => ∃ (a C : Addr) (c : V) (u : Value) (b : Bool), xs = [.ref a, c] ∧ ClsV c u ∧ Er H a C ∧ ErC K C ∧ PySem.W.kitOne K (.ref C) u = some b ∧ Q (.bl b) H
theorem call_isEr {X : Cx} : CallR X (.builtin "isinstance") (rIsEr X.K) := by
  intro pins s σ H xs us Q I r h
  obtain ⟨a, C, c, u, b, rfl, k, he, T, e, q⟩ := h
  obtain ⟨u1, u2, rfl, r1, r2⟩ := vals2 r
  have e2 := k.eq r2
  subst e2
  cases (show u1 = Value.ref a from r1)
  obtain ⟨ox, od, J⟩ := er_inst I he
  obtain ⟨cd, hc, _⟩ := PySem.W.any_some T.x.hdC
  exact PySem.W.kia_one (PySem.W.kitx_exc (by rw [hc]; rfl) T.x.ga T.x.gg T.x.exC T.ha T.hn T.ht T.hm) I.kIn J e (fun z => nomatch z) fun tk => ⟨.bl b, H, I.tok tk, rfl, q⟩
/-- e.f, a field of such an error -/
def tXfl (K : PySem.W.Frag) (n : Str) (te : TE) : TE := fun σ H Q => te σ H fun x H1 => ∃ (a C d : Addr) (fs : List (Str × V)) (v : V), x = .ref a ∧ XfC K C ∧ PySem.W.findIn K (.ref C) n = some none ∧ H1 a = some (exo a C (some d)) ∧
  H1 d = some (exd d fs) ∧ fs.lookup n = some v ∧ Q v H1
theorem pe_xfl {X : Cx} {e : Expr} {te : TE} {pos : Pos} {n : Str} (he : PE X e te) (hb : attributeBase e n X.env (eval e X.env) = eval e X.env := by rfl) : PE X (.Attribute e n pos) (tXfl X.K n te) := by
  refine ⟨fun pins s σ H Q I h => ?_⟩
  refine attr_of hb (thn (he.run pins s σ H _ I h) fun u s1 hh => ?_)
  obtain ⟨x, H1, I1, rx, a, C, d, fs, v, ex, T, hno, ea, ed, l, q⟩ := hh
  subst ex
  obtain rfl : u = Value.ref a := rx
  obtain ⟨t1, ho1⟩ := exo_at I1.hok ea
  obtain ⟨mA, hns, hr⟩ := exd_at I1.hok ed
  obtain ⟨od, ho, hl⟩ := lookIn_ns hns
  obtain ⟨u, hu, ru⟩ := RelO.some_of (v := v) (o := mA n) (by rw [← l]; exact hr n)
  have J : PySem.W.InstAt s1.heap a _ C (some od) := ⟨ho1, rfl, rfl, ho⟩
  exact PySem.HandSPX.exc_get I1.kIn J T.ga T.gg T.exC (PySem.W.findObj_own T.hdC hno rfl (by rw [hl, hu])) (handed_of ru) ⟨v, H1, I1.tok _, ru, q⟩
/-- C(e, ..), C's own __init__ keeping sp: the error is told as a value -/
theorem pe_oex {X : Cx} {e : Expr} {es : List Expr} {ta : TA} {p pos : Pos} {x : Str} {C fI : Addr} {k : Nat} {fd : FuncData} {ps : List Str} {sp : Sp} (T : OexC X.K C) (iC : PySem.W.findIn X.K (.ref C) "__init__" = some (some (.ref fI))) (tI : PySem.W.typeIn X.K (.ref fI) = some (.type "function"))
    (F1 : FnOk X.prog X.w X.K X.mg X.base CX0 k fI fd ps sp) (hr : Room (k + 1) X.A) (hb : Binds X.K fd ps []) (hg : Gl X x) (hm : X.mg x = some (.ref C)) (ha : PA X (e :: es) ta)
    {Kw : List V → Hp → VK → Prop} (hw : ∀ vs H1 (Q : VK), Kw vs H1 Q → vs.length ≤ 1000 ∧ ∀ a, H1 a = none → sp (.ref a :: (vs ++ [])) (upd H1 a (exo a C none)) (fun v H2 => v = .non ∧ Q (.ref a) H2) E0)
    (hdb : (x == ("__debug__" : Str)) = false := by decide) (he : starEach (e :: es) X.env = (false, eval e X.env) :: starEach es X.env := by rfl) (hpl : (backTo pos (starEach es X.env)).any (·.1) = false := by rfl) :
    PE X (.Call (.Name x p) (e :: es) [] pos) (fun σ H Q => ta σ H fun vs H1 => Kw vs H1 Q) := by
  refine ⟨fun pins s σ H Q I h => ?_⟩
  obtain ⟨nm, q, N, bs, bm, sn, sub, ab, col, dd, k0, k1, k2, k3, k5, hC, hbm⟩ := T.cls
  refine wpAny_Call_Name_kw (ld_glob I hg hm ?_ hdb)
  refine PySem.W.callWith_K (h₀ := X.base) I.ok.mod.kin T.kC (thn (ha.run pos pins s σ H _ I h) fun us s1 ⟨vs, H1, I1, r1, q0⟩ => ⟨I1.kIn, ?_⟩) he hpl
  obtain ⟨hz, q1⟩ := hw vs H1 Q q0
  show wpAny _ _ (call (.ref C) us) _ _ _
  obtain ⟨hp, g, dr, tk, os⟩ := s1
  have hsz : hp.objs.size ≤ hp.objs.size + 1 := Nat.le_succ _
  have hn : H1 (hp.objs.size + 1) = none := I1.hok.fresh hsz
  have hq := q1 (hp.objs.size + 1) hn
  have kk : ∀ b o, hp.get? b = some o → ((hp.push (PySem.W.kdv_tup us)).push (PySem.HandSPX.excO C hp.objs.size)).get? b = some o := fun b o e => Heap.get?_push_of_some _ (Heap.get?_push_of_some _ e)
  have hget : ((hp.push (PySem.W.kdv_tup us)).push (PySem.HandSPX.excO C hp.objs.size)).get? (hp.objs.size + 1) = some (PySem.HandSPX.excO C hp.objs.size) := by heap_get
  have I2 : Inv X pins σ (upd H1 (hp.objs.size + 1) (exo (hp.objs.size + 1) C none)) ⟨(hp.push (PySem.W.kdv_tup us)).push (PySem.HandSPX.excO C hp.objs.size), g, dr, tk, os⟩ :=
    I1.laid (t' := tk) (a := hp.objs.size + 1) (o := exo (hp.objs.size + 1) C none) (h' := (hp.push (PySem.W.kdv_tup us)).push (PySem.HandSPX.excO C hp.objs.size)) kk hsz (exo_ok hget)
  have r2 : Vals (V.ref (hp.objs.size + 1) :: (vs ++ [])) (Value.ref (hp.objs.size + 1) :: (us ++ [])) := .cons rfl (r1.append .nil)
  have hl : (Value.ref (hp.objs.size + 1) :: us ++ []).length = ps.length := by
    have e := r2.length
    rw [F1.len _ _ _ _ hq] at e
    exact e.symm
  have hus : us.length ≤ sizeLine := by
    rw [← Paired.length r1, sizeLine_eq]
    omega
  have hbb : BindsTo ⟨(hp.push (PySem.W.kdv_tup us)).push (PySem.HandSPX.excO C hp.objs.size), g, dr, tk, os⟩ fd ⟨Value.ref (hp.objs.size + 1) :: us, []⟩ (ps.zip (Value.ref (hp.objs.size + 1) :: (us ++ []))) :=
    hb _ (Value.ref (hp.objs.size + 1) :: us) I2.kIn hl
  refine wpAny_call (PySem.HandSPX.call_own F.excBase_ValueError (fun Y => PySem.HandSPX.refsVE_contains Y bm hbm) (I1.kIn _ _ hC) (PySem.W.looks_findIn I1.kIn iC) (fun self => PySem.W.bind_fn I1.kIn self tI) hus
    (codeAny_mono (F1.run _ X.stack _ _ ⟨Value.ref (hp.objs.size + 1) :: us, []⟩ (Value.ref (hp.objs.size + 1) :: (us ++ [])) _ _ E0 (hr.make C us []) (I2.env0.make C us []) hbb r2 hq) fun r s' hq' => ?_))
  cases r with
  | error er => exact False.elim hq'
  | ok fl =>
    cases fl with
    | ret u =>
      obtain ⟨v, H2, J, rv, ev, q2⟩ := I2.after hq'
      subst ev
      exact ⟨rv, .ref (hp.objs.size + 1), H2, J, rfl, q2⟩
    | next => exact False.elim hq'
    | brk => exact False.elim hq'
    | cont => exact False.elim hq'
/-- C(), an own class without own __init__ -/
theorem pe_exc0 {X : Cx} {C : Addr} {bmB : List Value} {B newId initId : String} {x : Str} {p pos : Pos} (F : ExcBaseFacts B newId initId bmB) (hi : PySem.W.findIn X.K (.ref C) "__init__" = some (some (.builtin initId))) (q : PySem.W.excInitIn X.K C bmB newId = true)
    (gC : X.mg x = some (.ref C)) (kC : PySem.W.keepIn X.K (.ref C) = true) (hg : Gl X x) (hdb : (x == ("__debug__" : Str)) = false := by decide) :
    PE X (.Call (.Name x p) [] [] pos) (fun σ H Q => ∀ a H2, H a = none → Same H H2 → H2 a = some (exo a C none) → Q (.ref a) H2) := by
  refine ⟨fun pins s σ H Q I h => ?_⟩
  refine wpAny_Call_Name_kw (ld_glob I hg gC ?_ hdb)
  refine PySem.W.callWith_K0 I.kIn kC ?_
  show wpAny _ _ (call (.ref C) []) _ _ _
  obtain ⟨nm, N', qn, bs, bm, hdct, sn, sub, ab, col, dd, k0, k1, k2, k3, k5, hC, hT⟩ := PySem.W.excInit_of I.kIn q
  have hi' : PySem.W.Looks (model X.prog X.w) s.heap (typeLookup (.ref C) "__init__") (some (.builtin initId)) := PySem.W.looks_findIn I.kIn hi
  obtain ⟨hh, g, d, tk, os⟩ := s
  refine PySem.W.call_B F hT hC hi' (Nat.zero_le _) fun h' k he ht => ?_
  have hp : hh.get? (hh.objs.size + 1) = none := Heap.get?_none_of_le (Nat.le_add_right _ _)
  have hn : H (hh.objs.size + 1) = none := I.hok.fresh (Nat.le_add_right _ _)
  exact ⟨.ref _, upd H _ (exo _ C none), I.laidN (t' := tk) k hp hn (exo_ok he), rfl, h _ _ hn (same_new hn) upd_same⟩
end Qk

set_option maxRecDepth 100000
set_option maxHeartbeats 4000000
namespace Qk
open PySem PySem.Spec PyProof.Rows L2

/-! ### repr of lists of data, dicts among them: no list of them is sys.modules -/
mutual
inductive D1 (H : Hp) : V → PyData → Prop
  | non : D1 H .non .none
  | bl (b : Bool) : D1 H (.bl b) (.bool b)
  | int (i : Int) : D1 H (.int i) (.int i)
  | str (x : Str) : D1 H (.str x) (.str x)
  | lst {a : Addr} {xs : List V} {ds : List PyData} : H a = some (.lst xs) → a ≠ sysModules → D1A H xs ds → D1 H (.ref a) (.list ds)
  | tup {a : Addr} {xs : List V} {ds : List PyData} : H a = some (.tup xs) → D1A H xs ds → D1 H (.ref a) (.tuple ds)
inductive D1A (H : Hp) : List V → List PyData → Prop
  | nil : D1A H [] []
  | cons {v : V} {vs : List V} {d : PyData} {ds : List PyData} : D1 H v d → D1A H vs ds → D1A H (v :: vs) (d :: ds)
end
def kD : Key → PyData
  | .inl i => .int i
  | .inr x => .str x
inductive D2K (H : Hp) : List (Key × V) → List (PyData × PyData) → Prop
  | nil : D2K H [] []
  | cons {k : Key} {v : V} {d : PyData} {kvs : List (Key × V)} {D : List (PyData × PyData)} : D1 H v d → D2K H kvs D → D2K H ((k, v) :: kvs) ((kD k, d) :: D)
def D2 (H : Hp) (v : V) (d : PyData) : Prop := D1 H v d ∨ ∃ a kvs D, v = .ref a ∧ H a = some (.dK kvs) ∧ D2K H kvs D ∧ d = .dict D
section
variable {X : Cx} {pins : List (Addr × Obj)} {σ : L2.St} {H : Hp} {s : Shared}
mutual
theorem D1.reads (I : Inv X pins σ H s) : ∀ (d : PyData) (v : V) (u : Value), D1 H v d → RelV v u → ∃ as, Reads s.heap u d as ∧ sysModules ∉ as
  | .none, _, _, h, r => by
    cases h
    cases r
    exact ⟨_, Reads.none, by simp⟩
  | .bool b, _, _, h, r => by
    cases h
    cases r
    exact ⟨_, Reads.bool b, by simp⟩
  | .int i, _, _, h, r => by
    cases h
    obtain ⟨t, rfl⟩ := r
    exact ⟨_, Reads.int i t, by simp⟩
  | .str x, _, _, h, r => by
    cases h
    obtain ⟨t, rfl⟩ := r
    exact ⟨_, Reads.str x t, by simp⟩
  | .list ds, _, _, h, r => by
    cases h with
    | lst hs hn ha =>
      cases r
      obtain ⟨its, rv, ⟨o, n, ho, hc, _, hd⟩, _⟩ := I.list (SqL.of hs)
      obtain ⟨as, hr, ns⟩ := D1.readsAll I ds _ its ha rv
      refine ⟨_, Reads.list ho hc hd hr, fun z => ?_⟩
      rcases List.mem_cons.mp z with e | e
      · exact hn e.symm
      · exact ns e
  | .tuple ds, _, _, h, r => by
    cases h with
    | tup hs ha =>
      cases r
      obtain ⟨its, rv, ⟨o, ho, hc, n, hd⟩, _⟩ := I.tuple (SqT.of hs)
      obtain ⟨as, hr, ns⟩ := D1.readsAll I ds _ its ha rv
      exact ⟨_, Reads.tuple ho hc hd hr, ns⟩
  | .dict _, _, _, h, _ => by cases h
theorem D1.readsAll (I : Inv X pins σ H s) : ∀ (ds : List PyData) (vs : List V) (us : List Value), D1A H vs ds → Vals vs us → ∃ as, ReadsAll s.heap us ds as ∧ sysModules ∉ as
  | [], _, _, h, r => by
    cases h
    cases r
    exact ⟨_, ReadsAll.nil, by simp⟩
  | d :: ds, _, _, h, r => by
    cases h with
    | cons h1 h2 =>
      cases r with
      | cons r1 r2 =>
        obtain ⟨as, q1, n1⟩ := D1.reads I d _ _ h1 r1
        obtain ⟨bs, q2, n2⟩ := D1.readsAll I ds _ _ h2 r2
        refine ⟨_, ReadsAll.cons q1 q2, fun z => ?_⟩
        rcases List.mem_append.mp z with e | e
        · exact n1 e
        · exact n2 e
end
theorem D2K.reads (I : Inv X pins σ H s) {kvs : List (Key × V)} {D : List (PyData × PyData)} (h : D2K H kvs D) : ∀ (vs : List (Key × Value)) (es : List DictEntry), KV kvs vs → Pairs (mixKind X.prog X.w) es vs →
    ∃ as bs, ReadsAll s.heap (es.map (·.key)) (D.map (·.1)) as ∧ ReadsAll s.heap (es.map (·.val)) (D.map (·.2)) bs ∧ sysModules ∉ as ∧ sysModules ∉ bs := by
  induction h with
  | nil =>
    intro vs es r p
    cases r
    cases p
    exact ⟨_, _, ReadsAll.nil, ReadsAll.nil, by simp, by simp⟩
  | @cons k v d kvs D h1 h2 ih =>
    intro vs es r p
    cases r with
    | @cons _ q _ vs' r1 r2 =>
      cases p with
      | @cons e _ es' _ p1 p2 p3 =>
        obtain ⟨as, bs, q1, q2, n1, n2⟩ := ih _ _ r2 p3
        obtain ⟨cs, q3, n3⟩ := D1.reads I d v e.val h1 (by rw [p2]; exact r1.2)
        have hk : ∃ ds, Reads s.heap e.key (kD k) ds ∧ sysModules ∉ ds := by
          have e1 : k = q.1 := r1.1
          rw [← e1] at p1
          rcases keyIs_shape (show keyIs k e.key = true from p1) with ⟨i, t, rfl, e2⟩ | ⟨x, t, rfl, e2⟩
          · rw [e2]
            exact ⟨_, Reads.int i t, by simp⟩
          · rw [e2]
            exact ⟨_, Reads.str x t, by simp⟩
        obtain ⟨ds, q4, n4⟩ := hk
        refine ⟨_, _, ReadsAll.cons q4 q1, ReadsAll.cons q3 q2, fun z => ?_, fun z => ?_⟩
        · rcases List.mem_append.mp z with e | e
          · exact n4 e
          · exact n1 e
        · rcases List.mem_append.mp z with e | e
          · exact n3 e
          · exact n2 e
theorem D2.reads (I : Inv X pins σ H s) {v : V} {d : PyData} {u : Value} (h : D2 H v d) (r : RelV v u) : ∃ as, Reads s.heap u d as ∧ sysModules ∉ as := by
  rcases h with h | ⟨a, kvs, D, rfl, ha, hk, rfl⟩
  · exact D1.reads I d v u h r
  · cases r
    obtain ⟨z, hd, vs, rel, ⟨o, es, ep, h1, h2, h3, h4, h5, h6⟩⟩ := dk_of I.hok ha
    obtain ⟨as, bs, q1, q2, n1, n2⟩ := hk.reads I vs es.toList rel h5
    refine ⟨_, Reads.dict h1 h2.1 h3 q1 q2, fun z => ?_⟩
    rcases List.mem_append.mp z with e | e
    · rcases List.mem_cons.mp e with e | e
      · rw [← e] at hd
        simp at hd
      · exact n1 e
    · exact n2 e
theorem D2.readsRep (I : Inv X pins σ H s) {v : V} {d : PyData} (h : D2 H v d) : ∀ (n : Nat) (us : List Value), Vals (List.replicate n v) us → ∃ as, ReadsAll s.heap us (List.replicate n d) as ∧ sysModules ∉ as
  | 0, us, r => by
    cases r
    exact ⟨_, ReadsAll.nil, by simp⟩
  | n + 1, us, r => by
    rw [List.replicate_succ] at r
    cases r with
    | cons r1 r2 =>
      obtain ⟨as, q1, n1⟩ := h.reads I r1
      obtain ⟨bs, q2, n2⟩ := D2.readsRep I h n _ r2
      refine ⟨_, ReadsAll.cons q1 q2, fun z => ?_⟩
      rcases List.mem_append.mp z with e | e
      · exact n1 e
      · exact n2 e
end
/-- what can be shown eleven times -/
def shD (d : PyData) : Bool := (PyData.list (List.replicate 11 d)).showable && decide ((PyData.list (List.replicate 11 d)).shown.length ≤ 10000) && decide ((PyData.list (List.replicate 11 d)).depth ≤ 60)
/-- repr of eleven times the same -/
def rRepr11 : List V → Hp → VK → Prop := fun vs H Q => ∃ (p : Addr) (v : V) (d : PyData), vs = [.ref p] ∧ H p = some (.lst (List.replicate 11 v)) ∧ p ≠ sysModules ∧ D2 H v d ∧ shD d = true ∧ Q (.str (PyData.list (List.replicate 11 d)).shown) H
section
variable {X : Cx}
theorem call_repr11 (hg : X.A.guards = some []) (hu : X.A.units + 64 < cLine) : CallR X (.builtin "repr") rRepr11 := by
  intro pins s σ H xs us Q I r h
  obtain ⟨p, v, d, rfl, hp, hn, hd, hs, q⟩ := h
  obtain ⟨u, rfl, rx⟩ := vals1 r
  cases rx
  unfold shD at hs
  simp only [Bool.and_eq_true, decide_eq_true_eq] at hs
  obtain ⟨⟨h1, h3⟩, h4⟩ := hs
  obtain ⟨its, rv, ⟨o, n, ho, hc, _, hdd⟩, _⟩ := I.list (SqL.of hp)
  obtain ⟨as, hr, ns⟩ := hd.readsRep I 11 its rv
  refine repr_of_reads' (Reads.list ho hc hdd hr) h1 (fun _ z => ?_) hg (by omega) (fun _ _ z => z) (fun h' u tk hk => ⟨.str _, H, I.kept hk, ⟨_, rfl⟩, q⟩) (by rw [sizeLine_eq]; omega)
  rcases List.mem_cons.mp z with e | e
  · exact hn e.symm
  · exact ns e
/-! new lists, told apart from sys.modules -/
def tLstN (t : TA) : TE := fun σ H Q => t σ H fun xs H1 => xs.length ≤ sizeLine ∧ ∀ p, H1 p = none → p ≠ sysModules → Q (.ref p) (upd H1 p (.lst xs))
theorem pe_lstN {es : List Expr} {t : TA} {pos : Pos} (h : PA X es t) : PE X (.List es pos) (tLstN t) := by
  refine ⟨fun pins s σ H Q I hq => ?_⟩
  refine wpAny_List_spliced (thn (h.run pos pins s σ H _ I hq) fun us s1 ⟨xs, H1, I1, r, z, q⟩ => ⟨by rw [← r.length]; exact z, ?_⟩)
  have hf : H1 s1.heap.objs.size = none := I1.hok.fresh (Nat.le_refl _)
  refine ⟨.ref s1.heap.objs.size, upd H1 s1.heap.objs.size (.lst xs), I1.laid (t' := s1.toks) (fun b u e => Heap.get?_push_of_some _ e) (Nat.le_refl _) ?_, rfl, q _ hf (Nat.ne_of_gt I1.big)⟩
  exact ⟨z, us, 0, r, Heap.get?_push_size _ rfl⟩
def rCatN : R2 := fun x y H Q => ∃ l b xs zs, x = .ref l ∧ y = .ref b ∧ H l = some (.lst xs) ∧ H b = some (.lst zs) ∧ xs.length + zs.length ≤ sizeLine ∧ ∀ p, H p = none → p ≠ sysModules → Q (.ref p) (upd H p (.lst (xs ++ zs)))
theorem op_catN : OpR X (binaryOp .Add) rCatN := by
  intro pins s σ H x y v u Q I rx ry h
  obtain ⟨l, b, xs, zs, rfl, rfl, hH, hB, hz, q⟩ := h
  cases rx
  cases ry
  obtain ⟨z, its, n, r, hl, e⟩ := I.lstM hH
  obtain ⟨z2, its2, n2, r2, hl2, e2⟩ := I.lstM hB
  refine PySem.P.add_list e e2 ?_ (by rw [List.size_toArray, List.size_toArray]; omega)
  have ea : its.toArray ++ its2.toArray = (its ++ its2).toArray := by simp
  rw [ea]
  exact ⟨.ref _, _, I.lnew (t' := s.toks) (r.append r2) (by rw [List.length_append]; omega), rfl, q _ I.fresh (Nat.ne_of_gt I.big)⟩
def rRepN : R2 := fun x y H Q => ∃ l k xs, x = .ref l ∧ y = .int k ∧ H l = some (.lst xs) ∧ -(2 ^ 63) ≤ k ∧ k < 2 ^ 63 ∧ xs.length * k.toNat ≤ sizeLine ∧
  ∀ p, H p = none → p ≠ sysModules → Q (.ref p) (upd H p (.lst (List.replicate k.toNat xs).flatten))
theorem op_repN : OpR X (binaryOp .Mult) rRepN := by
  intro pins s σ H x y v u Q I rx ry h
  obtain ⟨l, k, xs, rfl, rfl, hH, h1, h2, hz, q⟩ := h
  cases rx
  obtain ⟨t, rfl⟩ := ry
  obtain ⟨z, its, n, r, hl, e⟩ := I.lstM hH
  have hlen : its.toArray.size * k.toNat ≤ sizeLine := by rw [List.size_toArray, ← hl]; exact hz
  have hcap : ¬ its.toArray.size * k.toNat > (2 ^ 63 - 1) / 8 := by
    have : (sizeLine : Nat) ≤ (2 ^ 63 - 1) / 8 := by decide
    omega
  have hfit : ¬ (!Builtin.List.listFitsIndex k) = true := by
    rw [fitsIndex_both h1 h2]
    exact Bool.false_ne_true
  have hlong : ¬ Builtin.List.listTooLong (its.toArray.size * k.toNat) = true := by
    rw [notLongL hlen]
    exact Bool.false_ne_true
  have hnew : List.foldl (fun x1 x2 => x1 ++ x2) #[] (List.replicate (if its.toArray.isEmpty = true then 0 else k.toNat) its.toArray) = (List.replicate k.toNat its).flatten.toArray := by
    have f0 : ∀ m : Nat, List.foldl (fun x1 x2 => x1 ++ x2) #[] (List.replicate m its.toArray) = (List.replicate m its).flatten.toArray := fun m => by
      have := foldl_rep its m []
      rw [List.nil_append] at this
      exact this
    rw [f0]
    cases its with
    | nil => simp
    | cons a r' => rw [if_neg (by simp)]
  refine wpAny_binaryOp_repeat_ref (T := "list") (U := "int") (by decide) ⟨_, e, rfl⟩ (fun s' => typeIs_int s' k t) noFill_list_mul F.fills_int_mul F.slot_int_rmul repeat_list F.slot_int_index.lookup
    (call_meets F.slot_int_rmul (typeIs_int s k t) F.entry_int_rmul (F.args_int_rmul_2 _ _) (int___rmul___int_list k t l its.toArray n)
      ⟨e, rfl, ⟨_, e, rfl⟩, call_meets F.slot_list_mul ⟨_, e, rfl⟩ F.entry_list_mul (F.args_list_mul_2 _ _) (AutoListH.list___mul___list_int_3 l its.toArray n k t hfit hcap hlong) ⟨e, ?_⟩⟩)
  rw [hnew]
  exact ⟨.ref _, _, I.lnew (t' := s.toks) (r.rep k.toNat) (by rw [PyProof.Rows.lm_len_rep_flat, Nat.mul_comm]; exact hz), rfl, q _ I.fresh (Nat.ne_of_gt I.big)⟩
end
end Qk

set_option maxRecDepth 100000
set_option maxHeartbeats 4000000
namespace Qk
open PySem PySem.Spec PyProof.Rows L2

/-! ### what the written part says of an error class, as a test -/
def oexB (K : PySem.W.Frag) (C : Addr) : Bool := match K.lookup C with
  | some ⟨.type "type", _, .cls cd, sl⟩ => (match cd.mro, sl.toList with
    | .ref C' :: bm, [_, _, _, _, some (.builtin n), _] => C' == C && n == "ValueError.__new__" && !cd.hasDel && cd.hasDict && PySem.HandSPX.refsVE bm
    | _, _ => false)
  | _ => false
def ercB (K : PySem.W.Frag) (C : Addr) : Bool := oexB K C && decide (PySem.W.findIn K (.ref C) "__setattr__" = some (some (.builtin "object.__setattr__"))) && decide (PySem.W.typeIn K (.ref C) = some (.type "type")) && PySem.W.keepIn K (.ref C) && xfB K C &&
  decide (PySem.W.findIn K (.ref C) "__class__" = some (some (.builtin "object.__class__"))) && decide (PySem.W.specialIn K (.builtin "object.__class__") "__get__" = some (some (.builtin "getset_descriptor.__get__"))) &&
  decide (PySem.W.takesIn K (.builtin "object.__class__") = some true) && decide (PySem.W.mroIn K C (.type "object") = some true)
theorem oexB_ok {K : PySem.W.Frag} {C : Addr} (q : oexB K C = true) : ∃ nm q N bs bm sn sub ab col dd k0 k1 k2 k3 k5, K.lookup C = some (excClassObj nm q C N bs bm true sn sub ab col dd k0 k1 k2 k3 k5 "ValueError.__new__") ∧ PySem.HandSPX.refsVE bm = true := by
  unfold oexB at q
  split at q
  · rename_i dd cd sl ho
    split at q
    · rename_i C' bm k0 k1 k2 k3 n k5 hm hs
      simp only [Bool.and_eq_true, beq_iff_eq, Bool.not_eq_true'] at q
      obtain ⟨⟨⟨⟨rfl, rfl⟩, hdel⟩, hd⟩, ht⟩ := q
      obtain ⟨nm, bs, mro, ns, qn, hd', sn, sub, ab, col, del⟩ := cd
      dsimp only at hm hdel hd
      subst hm hdel hd
      have hsl : sl = #[k0, k1, k2, k3, some (.builtin "ValueError.__new__"), k5] := by
        obtain ⟨l⟩ := sl
        simp only at hs
        rw [hs]
      subst hsl
      exact ⟨nm, qn, ns, bs, bm, sn, sub, ab, col, dd, k0, k1, k2, k3, k5, ho, ht⟩
    · cases q
  · cases q
theorem ercB_ok {K : PySem.W.Frag} {C : Addr} (q : ercB K C = true) : ErC K C := by
  unfold ercB at q
  simp only [Bool.and_eq_true, decide_eq_true_eq] at q
  obtain ⟨⟨⟨⟨⟨⟨⟨⟨h1, h2⟩, h3⟩, h4⟩, h5⟩, h6⟩, h7⟩, h8⟩, h9⟩ := q
  exact ⟨⟨oexB_ok h1, h2, (xfB_ok h5).exC, h3, h4⟩, xfB_ok h5, h6, h7, h8, h9⟩

/-! ### the sixteen classes, in the law's order -/
def nmE (i : Nat) : Str := ([("Wrong" : Str), "Apart", "TooMany", "NoQuestion", "NoNumber", "Unserved", "NoOrder", "NoColumn", "Full", "Refused", "NoEntry", "Unfit", "NoText", "NoDeed", "Nothing", "NoCommand"] : List Str).getD i ""
def fdE (i : Nat) : Str := ([("place" : Str), "pair", "limit", "question", "number", "question", "pair", "column", "limit", "deed", "many"] : List Str).getD i ""
def csB (K : PySem.W.Frag) (cs : List Addr) (ck : Addr) : Bool :=
  (List.range 16).all fun i => ercB K (cs.getD i 0) && (decide (11 ≤ i) || decide (PySem.W.findIn K (.ref (cs.getD i 0)) (fdE i) = some none)) && (decide (i < 11) || (PySem.W.excInitIn K (cs.getD i 0) [.type "ValueError", .type "Exception", .type "BaseException", .type "object"] "ValueError.__new__" && decide (PySem.W.findIn K (.ref (cs.getD i 0)) "__init__" = some (some (.builtin "ValueError.__init__"))))) &&
    decide (PySem.W.kitOne K (.ref (cs.getD i 0)) (.ref ck) = some true) && decide (PySem.W.kitOne K (.ref (cs.getD i 0)) (.type "ValueError") = some true) &&
    (List.range 16).all fun j => decide (PySem.W.kitOne K (.ref (cs.getD i 0)) (.ref (cs.getD j 0)) = some (decide (i = j)))
structure Tab (K : PySem.W.Frag) (mg : Str → Option Value) where
  cs : Nat → Addr
  ck : Addr
  T : ∀ i, i < 16 → ErC K (cs i)
  no : ∀ i, i < 11 → PySem.W.findIn K (.ref (cs i)) (fdE i) = some none
  un : ∀ i, i < 16 → 11 ≤ i → PySem.W.excInitIn K (cs i) [.type "ValueError", .type "Exception", .type "BaseException", .type "object"] "ValueError.__new__" = true ∧ PySem.W.findIn K (.ref (cs i)) "__init__" = some (some (.builtin "ValueError.__init__"))
  kk : ∀ i, i < 16 → PySem.W.kitOne K (.ref (cs i)) (.ref ck) = some true
  kv : ∀ i, i < 16 → PySem.W.kitOne K (.ref (cs i)) (.type "ValueError") = some true
  kit : ∀ i j, i < 16 → j < 16 → PySem.W.kitOne K (.ref (cs i)) (.ref (cs j)) = some (decide (i = j))
  m : ∀ i, i < 16 → mg (nmE i) = some (.ref (cs i))
  mkE : mg "KeysError" = some (.ref ck)
theorem csB_ok {K : PySem.W.Frag} {cs : List Addr} {ck : Addr} (q : csB K cs ck = true) : ∀ i, i < 16 → (((((ercB K (cs.getD i 0) = true ∧ (11 ≤ i ∨ PySem.W.findIn K (.ref (cs.getD i 0)) (fdE i) = some none)) ∧ (i < 11 ∨ PySem.W.excInitIn K (cs.getD i 0) [.type "ValueError", .type "Exception", .type "BaseException", .type "object"] "ValueError.__new__" = true ∧ PySem.W.findIn K (.ref (cs.getD i 0)) "__init__" = some (some (.builtin "ValueError.__init__")))) ∧
    PySem.W.kitOne K (.ref (cs.getD i 0)) (.ref ck) = some true) ∧ PySem.W.kitOne K (.ref (cs.getD i 0)) (.type "ValueError") = some true) ∧ ∀ j, j < 16 → PySem.W.kitOne K (.ref (cs.getD i 0)) (.ref (cs.getD j 0)) = some (decide (i = j))) := by
  unfold csB at q
  rw [List.all_eq_true] at q
  have key := fun i (hi : i < 16) => q i (List.mem_range.mpr hi)
  simp only [Bool.and_eq_true, Bool.or_eq_true, decide_eq_true_eq, List.all_eq_true, List.mem_range] at key
  exact key
def tab_of {K : PySem.W.Frag} {mg : Str → Option Value} {cs : List Addr} {ck : Addr} (q : csB K cs ck = true) (m : ∀ i, i < 16 → mg (nmE i) = some (.ref (cs.getD i 0))) (mk : mg "KeysError" = some (.ref ck)) : Tab K mg := by
  have key := csB_ok q
  exact ⟨fun i => cs.getD i 0, ck, fun i hi => ercB_ok (key i hi).1.1.1.1.1, fun i hi => (key i (by omega)).1.1.1.1.2.resolve_left (by omega), fun i hi h11 => (key i hi).1.1.1.2.resolve_left (by omega),
    fun i hi => (key i hi).1.1.2, fun i hi => (key i hi).1.2, fun i j hi hj => (key i hi).2 j hj, m, mk⟩
/-- self.f = x -/
def spInit (K : PySem.W.Frag) (f : Str) : Sp := fun vs H Q _ => ∃ (a C : Addr) (x : V), vs = [.ref a, x] ∧ OexC K C ∧ PySem.W.findIn K (.ref C) f = some none ∧ H a = some (exo a C none) ∧
  ∀ d, H d = none → d ≠ a → Q .non (upd (upd H d (exd d [(f, x)])) a (exo a C (some d)))
/-- an error with its one field -/
def ErF (H : Hp) (a C : Addr) (f : Str) (x : V) : Prop := ∃ d, H a = some (exo a C (some d)) ∧ H d = some (exd d [(f, x)])
theorem ErF.same {H H' : Hp} {a C : Addr} {f : Str} {x : V} (s : Same H H') (h : ErF H a C f x) : ErF H' a C f x := by
  obtain ⟨d, h1, h2⟩ := h
  exact ⟨d, s _ _ h1, s _ _ h2⟩
theorem ErF.er {H : Hp} {a C : Addr} {f : Str} {x : V} (h : ErF H a C f x) : Er H a C := by
  obtain ⟨d, h1, h2⟩ := h
  exact .inr ⟨d, _, h1, h2⟩
structure ICls (P : Program) (w : World) (K : PySem.W.Frag) (mg : Str → Option Value) (base : Heap) (C : Addr) (f : Str) where
  fI : Addr
  fd : FuncData
  iC : PySem.W.findIn K (.ref C) "__init__" = some (some (.ref fI))
  tI : PySem.W.typeIn K (.ref fI) = some (.type "function")
  F : FnOk P w K mg base CX0 1 fI fd ["self", f] (spInit K f)
  b : Binds K fd ["self", f] []
def tMkF (C : Addr) (f : Str) (ta : TA) : TE := fun σ H Q => ta σ H fun vs H1 => ∃ x, vs = [x] ∧ ∀ a H2, H1 a = none → Same H1 H2 → ErF H2 a C f x → Q (.ref a) H2
theorem pe_mkF {X : Cx} {e : Expr} {es : List Expr} {ta : TA} {p pos : Pos} {x : Str} {C : Addr} {f : Str} (T : ErC X.K C) (no : PySem.W.findIn X.K (.ref C) f = some none) (c : ICls X.prog X.w X.K X.mg X.base C f) (hr : Room 2 X.A) (hg : Gl X x) (hm : X.mg x = some (.ref C)) (ha : PA X (e :: es) ta)
    (hdb : (x == ("__debug__" : Str)) = false := by decide) (he : starEach (e :: es) X.env = (false, eval e X.env) :: starEach es X.env := by rfl) (hpl : (backTo pos (starEach es X.env)).any (·.1) = false := by rfl) :
    PE X (.Call (.Name x p) (e :: es) [] pos) (tMkF C f ta) := by
  refine pe_oex T.o c.iC c.tI c.F hr c.b hg hm ha (Kw := fun vs H1 Q => ∃ x, vs = [x] ∧ ∀ a H2, H1 a = none → Same H1 H2 → ErF H2 a C f x → Q (.ref a) H2) (fun vs H1 Q h => ?_) hdb he hpl
  obtain ⟨x, rfl, q⟩ := h
  refine ⟨by show 1 ≤ 1000; decide, fun a ha => ⟨a, C, x, rfl, T.o, no, upd_same, fun d hd hda => ⟨rfl, q a _ ha (fun c o hc => ?_) ⟨d, upd_same, by rw [upd_ne hda]; exact upd_same⟩⟩⟩⟩
  have hca : c ≠ a := ne_of_none hc ha
  rw [upd_ne hda.symm.symm] at hd
  rw [upd_ne hca, upd_ne (ne_of_none hc hd), upd_ne hca]
  exact hc
/-- for i, x in enumerate(xs): a word of the turn, the slots, the heap -/
theorem for_enumL {K : PySem.W.Frag} {a : Addr} {xs : List V} {g : TG} {tb : TS} {D : Ends} {σ : L2.St} {H : Hp} (Pv : Nat → L2.St → Hp → Prop) (h0 : Pv 0 σ H) (hl : ∀ i σ H, i ≤ xs.length → Pv i σ H → SqL K H a xs)
    (hs : ∀ i x σ H, xs[i]? = some x → Pv i σ H → ∀ T, H T = none → g (.ref T) σ (upd H T (.tup [.int (i : Nat), x])) fun σ2 H2 => tb { D with nx := Pv (i + 1), ct := Pv (i + 1), bk := D.nx } σ2 H2) (hd : ∀ σ H, Pv xs.length σ H → D.nx σ H) :
    ∃ W : Nat → Nat → L2.St → Hp → Prop, (∃ m, W 0 m σ H) ∧ ∀ i m σ H, W i m σ H →
      ((Ite K a).stop i H ∧ D.nx σ H) ∨ ((Ite K a).go i H ∧ ∃ N : L2.St → Hp → Prop, (∀ σ' H', N σ' H' → ∃ m', m' < m ∧ W (i + 1) m' σ' H') ∧ ∀ x H', (Ite K a).yld i H x H' → g x σ H' fun σ2 H2 => tb { D with nx := N, ct := N, bk := D.nx } σ2 H2) := by
  refine ⟨fun i m σ H => m = xs.length - i ∧ i ≤ xs.length ∧ Pv i σ H, ⟨xs.length, by simp, Nat.zero_le _, h0⟩, ?_⟩
  rintro i m σ H ⟨rfl, hi, p⟩
  have q := hl i σ H hi p
  rcases Nat.lt_or_ge i xs.length with hlt | hge
  · have hx : xs[i]? = some xs[i] := List.getElem?_eq_getElem hlt
    refine .inr ⟨⟨xs, xs[i], q, hx⟩, Pv (i + 1), fun σ' H' p' => ⟨xs.length - (i + 1), by omega, rfl, hlt, p'⟩, fun x H' y => ?_⟩
    obtain ⟨T, z, rfl, hT, rfl, hz⟩ := y
    have e := hz xs q
    exact hs i z σ H e p T hT
  · have e : i = xs.length := by omega
    subst e
    exact .inl ⟨⟨xs, q, Nat.le_refl _⟩, hd σ H p⟩
/-! ### data kept, their types -/
mutual
theorem D1.same {H H' : Hp} (s : Same H H') : ∀ (d : PyData) (v : V), D1 H v d → D1 H' v d
  | .none, _, h => by
    cases h
    exact .non
  | .bool b, _, h => by
    cases h
    exact .bl b
  | .int i, _, h => by
    cases h
    exact .int i
  | .str x, _, h => by
    cases h
    exact .str x
  | .list ds, _, h => by
    cases h with
    | lst a b c => exact .lst (s _ _ a) b (D1.sameAll s ds _ c)
  | .tuple ds, _, h => by
    cases h with
    | tup a c => exact .tup (s _ _ a) (D1.sameAll s ds _ c)
  | .dict _, _, h => by cases h
theorem D1.sameAll {H H' : Hp} (s : Same H H') : ∀ (ds : List PyData) (vs : List V), D1A H vs ds → D1A H' vs ds
  | [], _, h => by
    cases h
    exact .nil
  | d :: ds, _, h => by
    cases h with
    | cons a b => exact .cons (D1.same s d _ a) (D1.sameAll s ds _ b)
end
def tyD : PyData → String
  | .none => "NoneType"
  | .bool _ => "bool"
  | .int _ => "int"
  | .str _ => "str"
  | .list _ => "list"
  | .tuple _ => "tuple"
  | .dict _ => "dict"
def isL : PyData → Bool
  | .list _ | .dict _ => true
  | _ => false
theorem D1.ty {K : PySem.W.Frag} {H : Hp} {v : V} {d : PyData} (h : D1 H v d) : TyX K H v (.type (tyD d)) := by
  cases h with
  | non => exact .base .non
  | bl b => exact .base (.bl b)
  | int i => exact .base (.int i)
  | str x => exact .base (.str x)
  | lst a b c => exact .base (.lst a)
  | tup a c => exact .base (.tup a)
theorem kl_of {d : PyData} (h : isL d = false) : kitB (tyD d) "list" = some false ∧ kitB (tyD d) "dict" = some false := by
  cases d with
  | none => exact ⟨by decide +kernel, by decide +kernel⟩
  | bool b => exact ⟨by show kitB "bool" "list" = _; decide +kernel, by show kitB "bool" "dict" = _; decide +kernel⟩
  | int b => exact ⟨by show kitB "int" "list" = _; decide +kernel, by show kitB "int" "dict" = _; decide +kernel⟩
  | str b => exact ⟨by show kitB "str" "list" = _; decide +kernel, by show kitB "str" "dict" = _; decide +kernel⟩
  | list b => cases h
  | tuple b => exact ⟨by show kitB "tuple" "list" = _; decide +kernel, by show kitB "tuple" "dict" = _; decide +kernel⟩
  | dict b => cases h
theorem ErF.off {H : Hp} {a b C : Addr} {f : Str} {x : V} {o u : HO} (h : ErF H a C f x) (hb : H b = some o) (ho : ∀ φ, o ≠ .ext φ) : ErF (L2.upd H b u) a C f x := by
  obtain ⟨d, h1, h2⟩ := h
  refine ⟨d, ?_, ?_⟩
  · rw [upd_ne (ne_of h1 hb fun z => ho _ z.symm)]
    exact h1
  · rw [upd_ne (ne_of h2 hb fun z => ho _ z.symm)]
    exact h2
theorem D2K.same {H H' : Hp} (s : Same H H') {kvs : List (Key × V)} {D : List (PyData × PyData)} (h : D2K H kvs D) : D2K H' kvs D := by
  induction h with
  | nil => exact .nil
  | cons h1 _ ih => exact .cons (D1.same s _ _ h1) ih
theorem D2.same {H H' : Hp} (s : Same H H') {v : V} {d : PyData} (h : D2 H v d) : D2 H' v d := by
  rcases h with h | ⟨a, kvs, D, rfl, ha, hk, rfl⟩
  · exact .inl (D1.same s _ _ h)
  · exact .inr ⟨a, kvs, D, rfl, s _ _ ha, hk.same s, rfl⟩
end Qk

set_option maxRecDepth 100000
set_option maxHeartbeats 4000000
namespace Qk
open PySem PySem.Spec PyProof.Rows L2
def top (i : Nat) : Stmt := PySem.Challenge.pw_narrowkeys_k10_errors_apart.main.body.getD i (.Pass ⟨0, 0, 0, 0⟩)
def initOf (s : Stmt) : Stmt := match s with
  | .ClassDef _ _ _ b _ _ _ _ _ _ _ => b.getD 0 (.Pass ⟨0, 0, 0, 0⟩)
  | _ => .Pass ⟨0, 0, 0, 0⟩
abbrev sI0 : Stmt := initOf (top 2)
abbrev sI1 : Stmt := initOf (top 3)
abbrev sI2 : Stmt := initOf (top 4)
abbrev sI3 : Stmt := initOf (top 5)
abbrev sI4 : Stmt := initOf (top 6)
abbrev sI5 : Stmt := initOf (top 7)
abbrev sI6 : Stmt := initOf (top 8)
abbrev sI7 : Stmt := initOf (top 10)
abbrev sI8 : Stmt := initOf (top 13)
abbrev sI9 : Stmt := initOf (top 14)
abbrev sI10 : Stmt := initOf (top 16)
abbrev sBag : Stmt := top 19
abbrev sTake : Stmt := top 20
abbrev sOne : Stmt := top 21
abbrev sValue : Stmt := top 22
abbrev sErrors : Stmt := top 23
abbrev sFields : Stmt := top 24
abbrev sFlags : Stmt := top 25
abbrev sLaw : Stmt := top 26
structure Txt (K : PySem.W.Frag) (mg : Str → Option Value) : Prop where
  len : mg "len" = none
  int : mg "int" = none
  abs : mg "abs" = none
  isinstance : mg "isinstance" = none
  list : mg "list" = none
  dict : mg "dict" = none
  repr : mg "repr" = none
  range : mg "range" = none
  enumerate : mg "enumerate" = none
  ValueError : mg "ValueError" = none
section
variable {P : Program} {w : World} {K : PySem.W.Frag} {mg : Str → Option Value} {base : Heap}
theorem scI0 : FnScope ["self", "place"] ["self", "place"] (defScope sI0) := ⟨rfl, rfl, rfl, by decide +kernel, rfl, by decide +kernel, by decide +kernel⟩
theorem ok_init0 {f : Addr} {fd : FuncData} (F : Fun K "__init__" "Wrong.__init__" sI0 f fd) : FnOk P w K mg base CX0 1 f fd ["self", "place"] (spInit K "place") := by
  refine F.ok scI0 (fun vs H Q E h => ?_) (fun cdv A outer s H vs Q E hr h => ?_)
  · obtain ⟨a, C, x, rfl, _⟩ := h
    rfl
  · obtain ⟨a, C, x, rfl, T, no, ha, q⟩ := h
    exact ⟨_, pss_one (ps_ost (pv 0) (pv 1)), _, rfl, _, rfl, a, C, rfl, T, no, .inl ⟨ha, fun d hd hda => q d hd hda⟩⟩
theorem scI1 : FnScope ["self", "pair"] ["self", "pair"] (defScope sI1) := ⟨rfl, rfl, rfl, by decide +kernel, rfl, by decide +kernel, by decide +kernel⟩
theorem ok_init1 {f : Addr} {fd : FuncData} (F : Fun K "__init__" "Apart.__init__" sI1 f fd) : FnOk P w K mg base CX0 1 f fd ["self", "pair"] (spInit K "pair") := by
  refine F.ok scI1 (fun vs H Q E h => ?_) (fun cdv A outer s H vs Q E hr h => ?_)
  · obtain ⟨a, C, x, rfl, _⟩ := h
    rfl
  · obtain ⟨a, C, x, rfl, T, no, ha, q⟩ := h
    exact ⟨_, pss_one (ps_ost (pv 0) (pv 1)), _, rfl, _, rfl, a, C, rfl, T, no, .inl ⟨ha, fun d hd hda => q d hd hda⟩⟩
theorem scI2 : FnScope ["self", "limit"] ["self", "limit"] (defScope sI2) := ⟨rfl, rfl, rfl, by decide +kernel, rfl, by decide +kernel, by decide +kernel⟩
theorem ok_init2 {f : Addr} {fd : FuncData} (F : Fun K "__init__" "TooMany.__init__" sI2 f fd) : FnOk P w K mg base CX0 1 f fd ["self", "limit"] (spInit K "limit") := by
  refine F.ok scI2 (fun vs H Q E h => ?_) (fun cdv A outer s H vs Q E hr h => ?_)
  · obtain ⟨a, C, x, rfl, _⟩ := h
    rfl
  · obtain ⟨a, C, x, rfl, T, no, ha, q⟩ := h
    exact ⟨_, pss_one (ps_ost (pv 0) (pv 1)), _, rfl, _, rfl, a, C, rfl, T, no, .inl ⟨ha, fun d hd hda => q d hd hda⟩⟩
theorem scI3 : FnScope ["self", "question"] ["self", "question"] (defScope sI3) := ⟨rfl, rfl, rfl, by decide +kernel, rfl, by decide +kernel, by decide +kernel⟩
theorem ok_init3 {f : Addr} {fd : FuncData} (F : Fun K "__init__" "NoQuestion.__init__" sI3 f fd) : FnOk P w K mg base CX0 1 f fd ["self", "question"] (spInit K "question") := by
  refine F.ok scI3 (fun vs H Q E h => ?_) (fun cdv A outer s H vs Q E hr h => ?_)
  · obtain ⟨a, C, x, rfl, _⟩ := h
    rfl
  · obtain ⟨a, C, x, rfl, T, no, ha, q⟩ := h
    exact ⟨_, pss_one (ps_ost (pv 0) (pv 1)), _, rfl, _, rfl, a, C, rfl, T, no, .inl ⟨ha, fun d hd hda => q d hd hda⟩⟩
theorem scI4 : FnScope ["self", "number"] ["self", "number"] (defScope sI4) := ⟨rfl, rfl, rfl, by decide +kernel, rfl, by decide +kernel, by decide +kernel⟩
theorem ok_init4 {f : Addr} {fd : FuncData} (F : Fun K "__init__" "NoNumber.__init__" sI4 f fd) : FnOk P w K mg base CX0 1 f fd ["self", "number"] (spInit K "number") := by
  refine F.ok scI4 (fun vs H Q E h => ?_) (fun cdv A outer s H vs Q E hr h => ?_)
  · obtain ⟨a, C, x, rfl, _⟩ := h
    rfl
  · obtain ⟨a, C, x, rfl, T, no, ha, q⟩ := h
    exact ⟨_, pss_one (ps_ost (pv 0) (pv 1)), _, rfl, _, rfl, a, C, rfl, T, no, .inl ⟨ha, fun d hd hda => q d hd hda⟩⟩
theorem scI5 : FnScope ["self", "question"] ["self", "question"] (defScope sI5) := ⟨rfl, rfl, rfl, by decide +kernel, rfl, by decide +kernel, by decide +kernel⟩
theorem ok_init5 {f : Addr} {fd : FuncData} (F : Fun K "__init__" "Unserved.__init__" sI5 f fd) : FnOk P w K mg base CX0 1 f fd ["self", "question"] (spInit K "question") := by
  refine F.ok scI5 (fun vs H Q E h => ?_) (fun cdv A outer s H vs Q E hr h => ?_)
  · obtain ⟨a, C, x, rfl, _⟩ := h
    rfl
  · obtain ⟨a, C, x, rfl, T, no, ha, q⟩ := h
    exact ⟨_, pss_one (ps_ost (pv 0) (pv 1)), _, rfl, _, rfl, a, C, rfl, T, no, .inl ⟨ha, fun d hd hda => q d hd hda⟩⟩
theorem scI6 : FnScope ["self", "pair"] ["self", "pair"] (defScope sI6) := ⟨rfl, rfl, rfl, by decide +kernel, rfl, by decide +kernel, by decide +kernel⟩
theorem ok_init6 {f : Addr} {fd : FuncData} (F : Fun K "__init__" "NoOrder.__init__" sI6 f fd) : FnOk P w K mg base CX0 1 f fd ["self", "pair"] (spInit K "pair") := by
  refine F.ok scI6 (fun vs H Q E h => ?_) (fun cdv A outer s H vs Q E hr h => ?_)
  · obtain ⟨a, C, x, rfl, _⟩ := h
    rfl
  · obtain ⟨a, C, x, rfl, T, no, ha, q⟩ := h
    exact ⟨_, pss_one (ps_ost (pv 0) (pv 1)), _, rfl, _, rfl, a, C, rfl, T, no, .inl ⟨ha, fun d hd hda => q d hd hda⟩⟩
theorem scI7 : FnScope ["self", "column"] ["self", "column"] (defScope sI7) := ⟨rfl, rfl, rfl, by decide +kernel, rfl, by decide +kernel, by decide +kernel⟩
theorem ok_init7 {f : Addr} {fd : FuncData} (F : Fun K "__init__" "NoColumn.__init__" sI7 f fd) : FnOk P w K mg base CX0 1 f fd ["self", "column"] (spInit K "column") := by
  refine F.ok scI7 (fun vs H Q E h => ?_) (fun cdv A outer s H vs Q E hr h => ?_)
  · obtain ⟨a, C, x, rfl, _⟩ := h
    rfl
  · obtain ⟨a, C, x, rfl, T, no, ha, q⟩ := h
    exact ⟨_, pss_one (ps_ost (pv 0) (pv 1)), _, rfl, _, rfl, a, C, rfl, T, no, .inl ⟨ha, fun d hd hda => q d hd hda⟩⟩
theorem scI8 : FnScope ["self", "limit"] ["self", "limit"] (defScope sI8) := ⟨rfl, rfl, rfl, by decide +kernel, rfl, by decide +kernel, by decide +kernel⟩
theorem ok_init8 {f : Addr} {fd : FuncData} (F : Fun K "__init__" "Full.__init__" sI8 f fd) : FnOk P w K mg base CX0 1 f fd ["self", "limit"] (spInit K "limit") := by
  refine F.ok scI8 (fun vs H Q E h => ?_) (fun cdv A outer s H vs Q E hr h => ?_)
  · obtain ⟨a, C, x, rfl, _⟩ := h
    rfl
  · obtain ⟨a, C, x, rfl, T, no, ha, q⟩ := h
    exact ⟨_, pss_one (ps_ost (pv 0) (pv 1)), _, rfl, _, rfl, a, C, rfl, T, no, .inl ⟨ha, fun d hd hda => q d hd hda⟩⟩
theorem scI9 : FnScope ["self", "deed"] ["self", "deed"] (defScope sI9) := ⟨rfl, rfl, rfl, by decide +kernel, rfl, by decide +kernel, by decide +kernel⟩
theorem ok_init9 {f : Addr} {fd : FuncData} (F : Fun K "__init__" "Refused.__init__" sI9 f fd) : FnOk P w K mg base CX0 1 f fd ["self", "deed"] (spInit K "deed") := by
  refine F.ok scI9 (fun vs H Q E h => ?_) (fun cdv A outer s H vs Q E hr h => ?_)
  · obtain ⟨a, C, x, rfl, _⟩ := h
    rfl
  · obtain ⟨a, C, x, rfl, T, no, ha, q⟩ := h
    exact ⟨_, pss_one (ps_ost (pv 0) (pv 1)), _, rfl, _, rfl, a, C, rfl, T, no, .inl ⟨ha, fun d hd hda => q d hd hda⟩⟩
theorem scI10 : FnScope ["self", "many"] ["self", "many"] (defScope sI10) := ⟨rfl, rfl, rfl, by decide +kernel, rfl, by decide +kernel, by decide +kernel⟩
theorem ok_init10 {f : Addr} {fd : FuncData} (F : Fun K "__init__" "NoEntry.__init__" sI10 f fd) : FnOk P w K mg base CX0 1 f fd ["self", "many"] (spInit K "many") := by
  refine F.ok scI10 (fun vs H Q E h => ?_) (fun cdv A outer s H vs Q E hr h => ?_)
  · obtain ⟨a, C, x, rfl, _⟩ := h
    rfl
  · obtain ⟨a, C, x, rfl, T, no, ha, q⟩ := h
    exact ⟨_, pss_one (ps_ost (pv 0) (pv 1)), _, rfl, _, rfl, a, C, rfl, T, no, .inl ⟨ha, fun d hd hda => q d hd hda⟩⟩
theorem scBag : FnScope ["_law_script", "_law_cell"] ["_law_script"] (defScope sBag) := ⟨rfl, rfl, rfl, by decide +kernel, rfl, by decide +kernel, by decide +kernel⟩
theorem ok_bag {f : Addr} {fd : FuncData} (F : Fun K "_law_bag" "_law_bag" sBag f fd) (T : Txt K mg) : FnOk P w K mg base CX0 1 f fd ["_law_script"] (spBag K) := by
  refine F.ok scBag (fun vs H Q E h => ?_) (fun cdv A outer s H vs Q E hr h => ?_)
  · obtain ⟨a, ns, rfl, _⟩ := h
    rfl
  · obtain ⟨a, ns, rfl, hS, hz, k⟩ := h
    have nd := scBag.nd
    refine ⟨_, pss_one (ps_ret (pe_lst (pa_cons pe_int (pa_cons pe_int (pa_cons pe_int (pa_cons (pe_lc (own := [("_law_cell", 1)]) (g := gName 1) (tt := tYes) rfl nd
      (pi_list (pe_slice sl_list (pv 0) po_none (po_some pe_int))) (blkOk_by (N := ["_law_script", "_law_cell"]) (sc := defScope sBag) (by decide +kernel)) (fun _ _ _ _ _ => pg_name (i := 1) nd rfl (Or.inl rfl)) (fun _ _ _ _ _ => pts_nil)
      (fun _ _ _ _ _ => pe_callB call_abs (by rfl) T.abs (by decide +kernel) (pa_cons (pv 1) pa_nil))) pa_nil)))))), ?_⟩
    refine ⟨_, rfl, _, rfl, a, _, rfl, hS, fun p hp => ⟨p, rfl, ⟨_, SqL.of upd_same⟩, fun D hD => ?_⟩⟩
    have e0 : cutV (ns.map V.int) none (some 63) = (ns.take 63).map V.int := (cut_to 63 _).trans List.map_take.symm
    have npD : p ≠ D := ne_of_none upd_same hD
    have s0 : Same H (upd H p (.lst (cutV (ns.map V.int) none (some 63)))) := same_new hp
    have nD : H D = none := s0.free hD
    refine lc_list (K := K) (a := p) (xs := (ns.take 63).map V.int) (fun i H' => Same H H' ∧ H' p = some (.lst ((ns.take 63).map V.int)) ∧ ∃ ms : List Int, H' D = some (.lst (ms.map V.int)) ∧ ms.length ≤ i ∧ ∀ n ∈ ms, 0 ≤ n)
      ⟨s0.trans (same_new hD), by rw [upd_ne npD, upd_same, e0], [], upd_same, Nat.le_refl _, by simp⟩ (fun i H' _ h => SqL.of h.2.1) ?_ ?_
    · rintro i x H' hi ⟨s1, h1, ms, h2, hl, hm⟩
      rw [List.getElem?_map] at hi
      cases e : (ns.take 63)[i]? with
      | none => rw [e] at hi; cases hi
      | some z =>
        rw [e] at hi
        obtain rfl : V.int z = x := Option.some.inj hi
        have hlt : i < 63 := by
          have := (List.getElem?_eq_some_iff.mp e).1
          rw [List.length_take] at this
          omega
        refine ⟨rfl, Exists.intro _ ⟨rfl, z, rfl, _, h2, by rw [List.length_map, sizeLine_eq]; omega, fun b o q => ?_, ?_, ms ++ [if z < 0 then -z else z], by rw [upd_same]; simp, by simp; omega, ?_⟩⟩
        · have : b ≠ D := ne_of_none q nD
          rw [upd_ne this]
          exact s1 _ _ q
        · rw [upd_ne npD]
          exact h1
        · intro n hn
          rcases List.mem_append.mp hn with hn | hn
          · exact hm n hn
          · obtain rfl := List.mem_singleton.mp hn
            split <;> omega
    · rintro H' ⟨s1, h1, ms, h2, hl, hm⟩
      refine ⟨by show 4 ≤ sizeLine; decide, fun q hq => ?_⟩
      have nDq : D ≠ q := ne_of_none h2 hq
      exact k q D _ (s1.free hq) ⟨0, 1234567891, 0, ms, upd_same, by rw [upd_ne nDq]; exact h2, nDq, by decide, by decide, by decide, hm⟩ (s1.trans (same_new hq))
theorem scTake : FnScope ["_law_bag_here", "_law_many", "_law_cell", "_law_mixed", "_law_drawn", "_law_begin", "_law_second"] ["_law_bag_here", "_law_many"] (defScope sTake) := ⟨rfl, rfl, rfl, by decide +kernel, rfl, by decide +kernel, by decide +kernel⟩
theorem ok_take {f : Addr} {fd : FuncData} (F : Fun K "_law_take" "_law_take" sTake f fd) (T : Txt K mg) : FnOk P w K mg base CX0 1 f fd ["_law_bag_here", "_law_many"] spTake := by
  refine F.ok scTake (fun vs H Q E h => ?_) (fun cdv A outer s H vs Q E hr h => ?_)
  · obtain ⟨b, l, n, rfl, _⟩ := h
    rfl
  · obtain ⟨b, l, n, rfl, B, n0, n1, k⟩ := h
    have nd := scTake.nd
    obtain ⟨h, m, p, ns, hb, hl, nlb, h0, m0, m1, hns⟩ := id B
    refine ⟨_, Evl.pss_cut (ps_if (pt_cmpR op_eq (pe_ix ix_list (pv 0) pe_int fun _ _ => rfl) pe_int (nomark _))
        (pss_cons (ps_set (i := 2) nd rfl (Or.inl rfl) pe_int)
        (Evl.pss_cut (ps_if (pt_cmpR op_lt (pe_ix ix_list (pv 0) pe_int fun _ _ => rfl) (pe_callB call_len_seq (by rfl) T.len PySem.boot_len (pa_cons (pe_ix ix_list (pv 0) pe_int fun _ _ => rfl) pa_nil)) (nomark _))
          (pss_one (ps_set (i := 2) nd rfl (Or.inl rfl) (pe_ix ix_list (pe_ix ix_list (pv 0) pe_int fun _ _ => rfl) (pe_ix ix_list (pv 0) pe_int fun _ _ => rfl) fun _ _ => rfl))) pss_nil)
        (pss_cons (ps_augS (pv 0) pe_int get_list pe_int ip_add set_list)
        (Evl.pss_cut (ps_if (pt_cmpR op_ge (pv 2) pe_int (nomark _)) (pss_one (ps_asg (pv 2) (pg_sub (pv 0) pe_int set_list))) pss_nil)
        (pss_cons (ps_set (i := 3) nd rfl (Or.inl rfl) (pe_op op_add (pe_op op_add (pe_op op_mul (pe_ix ix_list (pv 0) pe_int fun _ _ => rfl) pe_int)
            (pe_op op_mod (pe_callTy call_int1 (by rfl) T.int (by decide +kernel) (pa_cons (pv 2) pa_nil)) pe_int)) (pe_op op_mul pe_int (pe_ix ix_list (pv 0) pe_int fun _ _ => rfl))))
        (pss_one (ps_asg (pe_op op_mod (pe_callTy call_int1 (by rfl) T.int (by decide +kernel) (pa_cons (pv 3) pa_nil)) pe_int) (pg_sub (pv 0) pe_int set_list)))))))) pss_nil)
      (Evl.pss_cut (ps_if (pt_cmpR op_gt (pe_ix ix_list (pv 0) pe_int fun _ _ => rfl) pe_int (nomark _))
        (pss_cons (ps_set (i := 4) nd rfl (Or.inl rfl) (pe_op op_mod (pe_callTy call_int1 (by rfl) T.int (by decide +kernel) (pa_cons (pe_ix ix_list (pv 0) pe_int fun _ _ => rfl) pa_nil)) (pv 1)))
        (pss_cons (ps_asg (pe_op op_fdivN (pe_callTy call_int1 (by rfl) T.int (by decide +kernel) (pa_cons (pe_ix ix_list (pv 0) pe_int fun _ _ => rfl) pa_nil)) (pv 1)) (pg_sub (pv 0) pe_int set_list))
        (pss_one (ps_ret (pv 4))))) pss_nil)
      (pss_cons (ps_set (i := 5) nd rfl (Or.inl rfl) (pe_op op_mod (pe_callTy call_int1 (by rfl) T.int (by decide +kernel) (pa_cons (pe_op op_mul (pe_op op_add (pe_ix ix_list (pv 0) pe_int fun _ _ => rfl) pe_int) pe_int) pa_nil)) pe_int))
      (pss_cons (ps_set (i := 6) nd rfl (Or.inl rfl) (pe_op op_mod (pe_callTy call_int1 (by rfl) T.int (by decide +kernel) (pa_cons (pe_op op_mul (pe_op op_mod (pe_callTy call_int1 (by rfl) T.int (by decide +kernel) (pa_cons (pe_op op_mul (pv 5) (pv 5)) pa_nil)) pe_int) pe_int) pa_nil)) pe_int))
      (pss_one (ps_ret (pe_op op_mod (pe_callTy call_int1 (by rfl) T.int (by decide +kernel) (pa_cons (pe_op op_fdiv (pv 6) pe_int) pa_nil)) (pv 1)))))))
      , ?_⟩
    refine ⟨fun σ' H' => ∃ c2 c3, σ' = [some (.ref b), some (.int n), c2, c3, none, none, none] ∧ Bag H' b l ∧ Kp b H H', ?_, ?_⟩
    · refine ⟨_, rfl, b, _, _, _, rfl, rfl, SqL.of hb, rfl, rfl, _, rfl, ?_⟩
      refine ite2 (fun _ => ?_) (fun _ => ⟨_, _, rfl, B, Kp.refl _ _⟩)
      refine ⟨fun σ' H' => ∃ c : Int, 0 ≤ c ∧ σ' = [some (.ref b), some (.int n), some (.int c), none, none, none, none] ∧ H' = H, ?_, ?_⟩
      · refine ⟨_, rfl, b, _, _, _, rfl, rfl, SqL.of hb, rfl, _, rfl, b, _, _, _, rfl, rfl, SqL.of hb, rfl, _, _, rfl, .inl (SqL.of hl), _, _, rfl, rfl, _, rfl, ?_⟩
        refine ite2 (fun hc => ?_) (fun _ => ⟨0, Int.le_refl 0, rfl, rfl⟩)
        have hp : p < ns.length := by
          have := of_decide_eq_true hc
          rw [List.length_map] at this
          omega
        refine ⟨_, rfl, b, _, _, _, rfl, rfl, SqL.of hb, rfl, _, rfl, b, _, _, _, rfl, rfl, SqL.of hb, rfl, l, _, _, .int ns[p], rfl, rfl, SqL.of hl, atI_nat (by rw [List.getElem?_map, List.getElem?_eq_getElem hp]; rfl), ?_⟩
        exact ⟨ns[p], hns _ (List.getElem_mem hp), rfl, rfl⟩
      · rintro σ' H' ⟨c, hc, rfl, rfl⟩
        refine ⟨_, rfl, b, _, 2, _, rfl, rfl, SqL.of hb, rfl, _, _, rfl, rfl, b, _, _, 2, rfl, rfl, hb, rfl, ?_⟩
        have hl1 : (upd H' b (HO.lst [.int h, .int m, .int ((p + 1 : Nat) : Int), .ref l])) l = some (HO.lst (ns.map V.int)) := by rw [upd_ne nlb]; exact hl
        refine ⟨fun σ' H2 => ∃ h' : Int, 0 ≤ h' ∧ σ' = [some (.ref b), some (.int n), some (.int c), none, none, none, none] ∧ H2 b = some (.lst [.int h', .int m, .int ((p + 1 : Nat) : Int), .ref l]) ∧ Kp b H' H2, ?_, ?_⟩
        · refine ⟨_, rfl, _, _, rfl, rfl, _, rfl, ?_⟩
          refine ite2 (fun _ => ?_) (fun _ => ⟨h, h0, rfl, upd_same, Kp.at_ _ _ _⟩)
          refine ⟨_, rfl, _, rfl, b, _, 0, 0, rfl, rfl, upd_same, rfl, ?_⟩
          exact ⟨c, hc, rfl, upd_same, (Kp.at_ _ _ _).trans (Kp.at_ _ _ _)⟩
        · rintro σ' H2 ⟨h', h0', rfl, hb2, k2⟩
          have hl2 : H2 l = some (.lst (ns.map V.int)) := k2 _ _ hl nlb
          refine ⟨_, rfl, b, _, 1, _, rfl, rfl, SqL.of hb2, rfl, _, _, rfl, rfl, .inl ⟨by omega, by omega⟩, _, rfl, .inl ⟨_, rfl, _, _, rfl, rfl, (by show (0 : Int) < 2147483647; decide), _, _, rfl, rfl,
            _, rfl, b, _, 2, _, rfl, rfl, SqL.of hb2, rfl, _, _, rfl, rfl, .inl ⟨by decide, by decide⟩, _, _, rfl, rfl, _, rfl, .inl ⟨_, rfl, _, _, rfl, rfl, (by show (0 : Int) < 2147483647; decide), _, rfl, b, _, 1, 1, rfl, rfl, hb2, rfl, ?_⟩⟩⟩
          exact ⟨_, _, rfl, ⟨h', _, p + 1, ns, upd_same, (by rw [upd_ne nlb]; exact hl2), nlb, h0', Int.emod_nonneg _ (by decide), Int.emod_lt_of_pos _ (by decide), hns⟩, k2.trans (Kp.at_ _ _ _)⟩
    · rintro σ1 H1 ⟨c2, c3, rfl, B1, k1⟩
      clear hb hl hns h0 m0 m1
      obtain ⟨h, m, p, ns, hb, hl, nlb, h0, m0, m1, hns⟩ := id B1
      refine ⟨fun σ' H' => σ' = [some (.ref b), some (.int n), c2, c3, none, none, none] ∧ H' = H1, ?_, ?_⟩
      · refine ⟨_, rfl, b, _, 0, _, rfl, rfl, SqL.of hb, rfl, _, _, rfl, rfl, _, rfl, ?_⟩
        refine ite2 (fun _ => ?_) (fun _ => ⟨rfl, rfl⟩)
        obtain ⟨j, ej, hj⟩ := take_mod (k := h) n0
        refine ⟨_, rfl, b, _, 0, _, rfl, rfl, SqL.of hb, rfl, .inl ⟨_, rfl, _, rfl, _, _, rfl, rfl, n0, _, rfl, b, _, 0, _, rfl, rfl, SqL.of hb, rfl, .inl ⟨_, rfl, _, rfl, _, _, rfl, rfl, ⟨by omega, by omega⟩, _, rfl, b, _, 0, 0, rfl, rfl, hb, rfl, _, rfl, ?_⟩⟩⟩
        show Q (.int (h % n)) _
        rw [ej]
        refine k j _ hj ⟨_, m, p, ns, upd_same, (by rw [upd_ne nlb]; exact hl), nlb, ?_, m0, m1, hns⟩ (k1.trans (Kp.at_ _ _ _))
        show 0 ≤ h.fdiv n
        rw [Int.fdiv_eq_ediv_of_nonneg h (by omega)]
        exact Int.ediv_nonneg h0 (by omega)
      · rintro σ' H' ⟨rfl, rfl⟩
        have q1 : ∀ x : Int, 0 ≤ x % 1000000007 ∧ x % 1000000007 < 1000000007 := fun x => ⟨Int.emod_nonneg _ (by decide), Int.emod_lt_of_pos _ (by decide)⟩
        have q2 : ∀ x : Int, 0 ≤ x % 998244353 ∧ x % 998244353 < 998244353 := fun x => ⟨Int.emod_nonneg _ (by decide), Int.emod_lt_of_pos _ (by decide)⟩
        obtain ⟨u, eu⟩ : ∃ u, u = ((m + 1) * 39373) % 1000000007 := ⟨_, rfl⟩
        have hu := q1 ((m + 1) * 39373)
        rw [← eu] at hu
        obtain ⟨j, ej, hj⟩ := take_mod (k := (u * u % 998244353 * 30011 % 998244353) / 7) n0
        have hv := q2 (u * u)
        refine ⟨_, rfl, b, _, 1, _, rfl, rfl, SqL.of hb, rfl, _, _, rfl, rfl, _, _, rfl, rfl, .inl ⟨by omega, by omega⟩, .inl ⟨_, rfl, _, _, rfl, rfl, (by show (0 : Int) < 1000000007; decide), ?_⟩⟩
        show tSeq _ _ _ [some (.ref b), some (.int n), c2, c3, none, some (.int (((m + 1) * 39373) % 1000000007)), none] _
        rw [← eu]
        refine ⟨_, rfl, _, rfl, _, _, rfl, rfl, .inl ⟨by omega, by omega⟩, .inl ⟨_, rfl, _, _, rfl, rfl, (by show (0 : Int) < 998244353; decide), _, _, rfl, rfl, .inl ⟨by omega, by omega⟩, .inl ⟨_, rfl, _, _, rfl, rfl, (by show (0 : Int) < 998244353; decide), _, rfl, _, _, rfl, rfl, ⟨by decide, by decide⟩, .inl ⟨_, rfl, _, rfl, _, _, rfl, rfl, n0, ?_⟩⟩⟩⟩
        show Q (.int ((u * u % 998244353 * 30011 % 998244353) / 7 % n)) _
        rw [ej]
        exact k j _ hj B1 k1
theorem scOne : FnScope ["_law_bag_here", "_law_some"] ["_law_bag_here", "_law_some"] (defScope sOne) := ⟨rfl, rfl, rfl, by decide +kernel, rfl, by decide +kernel, by decide +kernel⟩
theorem ok_one {f : Addr} {fd : FuncData} (F : Fun K "_law_one" "_law_one" sOne f fd) (T : Txt K mg) (cT : Cal P w K mg base 1 "_law_take" ["_law_bag_here", "_law_many"] spTake) : FnOk P w K mg base CX0 2 f fd ["_law_bag_here", "_law_some"] spOne := by
  refine F.ok scOne (fun vs H Q E h => ?_) (fun cdv A outer s H vs Q E hr h => ?_)
  · obtain ⟨b, l, a, xs, rfl, _⟩ := h
    rfl
  · obtain ⟨b, l, a, xs, rfl, B, nab, ha, hne, hz, k⟩ := h
    refine ⟨_, pss_one (ps_ret (pe_ix ix_list (pv 1) (pe_call cT.G hr rfl cT.m cT.kp cT.b .nil pass0 (pa_cons (pv 0) (pa_cons (pe_callB call_len_seq (by rfl) T.len PySem.boot_len (pa_cons (pv 1) pa_nil)) pa_nil))) fun _ _ => rfl)), ?_⟩
    have hpos : 0 < xs.length := List.length_pos_iff.mpr hne
    refine ⟨_, rfl, _, rfl, _, rfl, _, _, rfl, .inl (SqL.of ha), b, l, _, rfl, B, by omega, by omega, fun j H' hj B' k' => ?_⟩
    have hj' : j < xs.length := by omega
    exact ⟨a, xs, j, xs[j], rfl, rfl, SqL.of (k' _ _ ha nab), atI_nat (List.getElem?_eq_getElem hj'), k _ _ (List.getElem_mem hj') B' k'⟩
/-- a drawn value, as it stands -/
inductive VC (K : PySem.W.Frag) (H : Hp) (b l : Addr) : V → Prop
  | con {x : V} {d : PyData} : D1 H x d → isL d = false → shD d = true → VC K H b l x
  | lst {a i : Addr} (pre ns : List Int) : H a = some (.lst (pre.map V.int ++ [.ref i])) → a ≠ sysModules → H i = some (.lst (ns.map V.int)) → i ≠ sysModules → i ≠ a → b ≠ a → l ≠ a → (pre = [0] ∧ ns = [1] ∨ pre = [] ∧ ns = []) → VC K H b l (.ref a)
  | dct {a i : Addr} : H a = some (.dK [(.inr "a", .ref i)]) → H i = some (.lst [.int 2]) → i ≠ sysModules → i ≠ a → b ≠ a → l ≠ a → VC K H b l (.ref a)
theorem VC.same {H H' : Hp} {b l : Addr} {x : V} (s : Same H H') (h : VC K H b l x) : VC K H' b l x := by
  cases h with
  | con h1 h2 h3 => exact .con (D1.same s _ _ h1) h2 h3
  | lst pre ns h1 h2 h3 h4 h5 h6 h7 h8 => exact .lst pre ns (s _ _ h1) h2 (s _ _ h3) h4 h5 h6 h7 h8
  | dct h1 h2 h3 h4 h5 h6 => exact .dct (s _ _ h1) (s _ _ h2) h3 h4 h5 h6
def spValue (K : PySem.W.Frag) : Sp := fun vs H Q _ => ∃ (b l : Addr), vs = [.ref b] ∧ Bag H b l ∧ ∀ (x : V) (H' : Hp), VC K H' b l x → Bag H' b l → Kp b H H' → Q x H'
theorem scValue : FnScope ["_law_bag_here", "_law_menu"] ["_law_bag_here"] (defScope sValue) := ⟨rfl, rfl, rfl, by decide +kernel, rfl, by decide +kernel, by decide +kernel⟩
theorem shA : shD .none = true ∧ shD (.str "") = true ∧ shD (.tuple [.str "a", .str "b"]) = true ∧ shD (.bool true) = true ∧ shD (.int (10 ^ 39)) = true ∧ shD (.tuple []) = true ∧ shD (.int 0) = true ∧ shD (.bool false) = true ∧ shD (.int (-1)) = true ∧ shD (.str "a") = true := by decide +kernel
theorem ok_value {f : Addr} {fd : FuncData} (F : Fun K "_law_value" "_law_value" sValue f fd) (T : Txt K mg) (cO : Cal P w K mg base 2 "_law_one" ["_law_bag_here", "_law_some"] spOne) : FnOk P w K mg base CX0 3 f fd ["_law_bag_here"] (spValue K) := by
  refine F.ok scValue (fun vs H Q E h => ?_) (fun cdv A outer s H vs Q E hr h => ?_)
  · obtain ⟨b, l, rfl, _⟩ := h
    rfl
  · obtain ⟨b, l, rfl, B, k⟩ := h
    have nd := scValue.nd
    refine ⟨_, pss_cons (ps_set (i := 1) nd rfl (Or.inl rfl) (pe_lst (pa_cons pe_non (pa_cons pe_str (pa_cons (pe_tup (pa_cons pe_str (pa_cons pe_str pa_nil))) (pa_cons (pe_lstN (pa_cons pe_int (pa_cons (pe_lstN (pa_cons pe_int pa_nil)) pa_nil)))
        (pa_cons (pe_disp (pps_cons pe_str (pe_lstN (pa_cons pe_int pa_nil)) pps_nil) (by rfl) rfl (by simp) (by simp)) (pa_cons pe_bl (pa_cons (pe_op op_pow pe_int pe_int) (pa_cons (pe_lstN (pa_cons (pe_lstN pa_nil) pa_nil)) (pa_cons (pe_tup pa_nil)
        (pa_cons pe_int (pa_cons pe_bl (pa_cons (pe_un un_neg pe_int) (pa_cons pe_str pa_nil)))))))))))))))
      (pss_one (ps_ret (pe_call cO.G hr rfl cO.m cO.kp cO.b .nil pass0 (pa_cons (pv 0) (pa_cons (pv 1) pa_nil))))), ?_⟩
    refine ⟨by show 2 ≤ sizeLine; decide, fun t2 n2 => ?_⟩
    have S2 := same_new (o := .tup [.str "a", .str "b"]) n2
    have h2 : (upd H t2 (.tup [.str "a", .str "b"])) t2 = some (.tup [.str "a", .str "b"]) := upd_same
    have b2 := B.ne n2
    generalize upd H t2 (.tup [.str "a", .str "b"]) = H2 at *
    refine ⟨by show 1 ≤ sizeLine; decide, fun i3 ni3 si3 => ?_⟩
    have S3 := same_new (o := .lst [.int 1]) ni3
    have hi3 : (upd H2 i3 (.lst [.int 1])) i3 = some (.lst [.int 1]) := upd_same
    have bi3 := (B.same S2).ne ni3
    generalize upd H2 i3 (.lst [.int 1]) = H3 at *
    refine ⟨by show 2 ≤ sizeLine; decide, fun a3 na3 sa3 => ?_⟩
    have S4 := same_new (o := .lst [.int 0, .ref i3]) na3
    have ha3 : (upd H3 a3 (.lst [.int 0, .ref i3])) a3 = some (.lst [.int 0, .ref i3]) := upd_same
    have B3 := (B.same S2).same S3
    have ba3 := B3.ne na3
    have la3 := B3.nel na3
    have ia3 : i3 ≠ a3 := ne_of_none hi3 na3
    generalize upd H3 a3 (.lst [.int 0, .ref i3]) = H4 at *
    refine fun p4 np4 => ?_
    have B4 := B3.same S4
    have bp4 := B4.ne np4
    have lp4 := B4.nel np4
    have S5a := same_new (o := .dK []) np4
    have hp4a : (upd H4 p4 (.dK [])) p4 = some (.dK []) := upd_same
    generalize hE : upd H4 p4 (.dK []) = H4a at *
    refine ⟨by show 1 ≤ sizeLine; decide, fun i4 ni4 si4 => ?_⟩
    have S5b := same_new (o := .lst [.int 2]) ni4
    have hi4 : (upd H4a i4 (.lst [.int 2])) i4 = some (.lst [.int 2]) := upd_same
    have bi4 := (B4.same S5a).ne ni4
    have ip4 : i4 ≠ p4 := (ne_of_none hp4a ni4).symm
    generalize upd H4a i4 (.lst [.int 2]) = H4b at *
    refine ⟨S5b _ _ hp4a, [(.inr "a", .ref i4)], rfl, by show 1 ≤ 15; decide, ?_⟩
    have S5 : Same H4 (upd H4b p4 (.dK (mergeK [] [(.inr "a", .ref i4)]))) := fun c o hc => by
      rw [upd_ne (ne_of_none hc np4)]
      exact S5b _ _ (S5a _ _ hc)
    have hp4 : (upd H4b p4 (.dK (mergeK [] [(.inr "a", .ref i4)]))) p4 = some (.dK [(.inr "a", .ref i4)]) := upd_same
    have hi4' : (upd H4b p4 (.dK (mergeK [] [(.inr "a", .ref i4)]))) i4 = some (.lst [.int 2]) := by rw [upd_ne ip4]; exact hi4
    generalize upd H4b p4 (.dK (mergeK [] [(.inr "a", .ref i4)])) = H5 at *
    refine ⟨10, 39, rfl, rfl, ⟨by decide, by decide, by decide⟩, ?_⟩
    have B5 := B4.same S5
    refine ⟨by show 0 ≤ sizeLine; decide, fun i7 ni7 si7 => ?_⟩
    have S6 := same_new (o := .lst []) ni7
    have hi7 : (upd H5 i7 (.lst [])) i7 = some (.lst []) := upd_same
    have bi7 := B5.ne ni7
    generalize upd H5 i7 (.lst []) = H6 at *
    have B6 := B5.same S6
    refine ⟨by show 1 ≤ sizeLine; decide, fun a7 na7 sa7 => ?_⟩
    have S7 := same_new (o := .lst [.ref i7]) na7
    have ha7 : (upd H6 a7 (.lst [.ref i7])) a7 = some (.lst [.ref i7]) := upd_same
    have ba7 := B6.ne na7
    have la7 := B6.nel na7
    have ia7 : i7 ≠ a7 := ne_of_none hi7 na7
    generalize upd H6 a7 (.lst [.ref i7]) = H7 at *
    have B7 := B6.same S7
    refine ⟨by show 0 ≤ sizeLine; decide, fun t8 nt8 => ?_⟩
    have S8 := same_new (o := .tup []) nt8
    have ht8 : (upd H7 t8 (.tup [])) t8 = some (.tup []) := upd_same
    have bt8 := B7.ne nt8
    generalize upd H7 t8 (.tup []) = H8 at *
    have B8 := B7.same S8
    refine ⟨1, rfl, ?_⟩
    refine ⟨by show 13 ≤ sizeLine; decide, fun M nM => ?_⟩
    have S9 := same_new (o := .lst [.non, .str "", .ref t2, .ref a3, .ref p4, .bl true, .int (10 ^ 39), .ref a7, .ref t8, .int 0, .bl false, .int (-1), .str "a"]) nM
    have hM : (upd H8 M (.lst [.non, .str "", .ref t2, .ref a3, .ref p4, .bl true, .int (10 ^ 39), .ref a7, .ref t8, .int 0, .bl false, .int (-1), .str "a"])) M = _ := upd_same
    have bM := B8.ne nM
    have B9 := B8.same S9
    refine ⟨_, rfl, _, rfl, b, l, M, _, rfl, B9, bM, hM, by simp, by show 13 < 1000; decide, fun x H' hx B' k' => k x H' ?_ B' ?_⟩
    · obtain ⟨q1, q2, q3, q4, q5, q6, q7, q8, q9, q10⟩ := shA
      have up8 : ∀ {c o}, H8 c = some o → c ≠ b → H' c = some o := fun hc n => k' _ _ (S9 _ _ hc) n
      have up7 : ∀ {c o}, H7 c = some o → c ≠ b → H' c = some o := fun hc n => up8 (S8 _ _ hc) n
      have up6 : ∀ {c o}, H6 c = some o → c ≠ b → H' c = some o := fun hc n => up7 (S7 _ _ hc) n
      have up5 : ∀ {c o}, H5 c = some o → c ≠ b → H' c = some o := fun hc n => up6 (S6 _ _ hc) n
      have up4 : ∀ {c o}, H4 c = some o → c ≠ b → H' c = some o := fun hc n => up5 (S5 _ _ hc) n
      have up3 : ∀ {c o}, H3 c = some o → c ≠ b → H' c = some o := fun hc n => up4 (S4 _ _ hc) n
      have up2 : ∀ {c o}, H2 c = some o → c ≠ b → H' c = some o := fun hc n => up3 (S3 _ _ hc) n
      have ht2 := up2 h2 b2
      have ht8' := up8 ht8 bt8
      simp only [List.mem_cons, List.not_mem_nil, or_false] at hx
      rcases hx with rfl | rfl | rfl | rfl | rfl | rfl | rfl | rfl | rfl | rfl | rfl | rfl | rfl
      · exact .con .non rfl q1
      · exact .con (.str _) rfl q2
      · exact .con (.tup ht2 (.cons (.str _) (.cons (.str _) .nil))) rfl q3
      · exact .lst [0] [1] (up4 ha3 ba3) sa3 (up3 hi3 bi3) si3 ia3 ba3.symm la3 (.inl ⟨rfl, rfl⟩)
      · exact .dct (up5 hp4 bp4) (up5 hi4' bi4) si4 ip4 bp4.symm lp4
      · exact .con (.bl _) rfl q4
      · exact .con (.int _) rfl q5
      · exact .lst [] [] (up7 ha7 ba7) sa7 (up6 hi7 bi7) si7 ia7 ba7.symm la7 (.inr ⟨rfl, rfl⟩)
      · exact .con (.tup ht8' .nil) rfl q6
      · exact .con (.int _) rfl q7
      · exact .con (.bl _) rfl q8
      · exact .con (.int _) rfl q9
      · exact .con (.str _) rfl q10
    · exact fun c o hc n => k' _ _ (S9 _ _ (S8 _ _ (S7 _ _ (S6 _ _ (S5 _ _ (S4 _ _ (S3 _ _ (S2 _ _ hc)))))))) n
def esL (e : Nat → Addr) : List V := (List.range 16).map fun i => V.ref (e i)
structure EL {K : PySem.W.Frag} {mg : Str → Option Value} (Tb : Tab K mg) (H : Hp) (e : Nat → Addr) (x : V) : Prop where
  f : ∀ i, i < 11 → ErF H (e i) (Tb.cs i) (fdE i) x
  u : ∀ i, 11 ≤ i → i < 16 → H (e i) = some (exo (e i) (Tb.cs i) none)
theorem EL.er {Tb : Tab K mg} {H : Hp} {e : Nat → Addr} {x : V} (h : EL Tb H e x) (i : Nat) (hi : i < 16) : Er H (e i) (Tb.cs i) := by
  by_cases q : i < 11
  · exact (h.f i q).er
  · exact .inl (h.u i (by omega) hi)
theorem EL.same {Tb : Tab K mg} {H H' : Hp} {e : Nat → Addr} {x : V} (s : Same H H') (h : EL Tb H e x) : EL Tb H' e x := ⟨fun i hi => (h.f i hi).same s, fun i h1 h2 => s _ _ (h.u i h1 h2)⟩
def spErrors {K : PySem.W.Frag} {mg : Str → Option Value} (Tb : Tab K mg) : Sp := fun vs H Q _ => ∃ x, vs = [x] ∧ ∀ (L : Addr) (e : Nat → Addr) (H' : Hp), H L = none → Same H H' → H' L = some (.lst (esL e)) → EL Tb H' e x → Q (.ref L) H'
theorem scErrors : FnScope ["_law_x", "_law_some"] ["_law_x"] (defScope sErrors) := ⟨rfl, rfl, rfl, by decide +kernel, rfl, by decide +kernel, by decide +kernel⟩
theorem ok_errors {f : Addr} {fd : FuncData} (F : Fun K "_law_errors" "_law_errors" sErrors f fd) (Tb : Tab K mg) (I : ∀ i, i < 11 → ICls P w K mg base (Tb.cs i) (fdE i)) : FnOk P w K mg base CX0 3 f fd ["_law_x"] (spErrors Tb) := by
  refine F.ok scErrors (fun vs H Q E h => ?_) (fun cdv A outer s H vs Q E hr h => ?_)
  · obtain ⟨x, rfl, _⟩ := h
    rfl
  · obtain ⟨x, rfl, q⟩ := h
    have nd := scErrors.nd
    refine ⟨_, pss_cons (ps_set (i := 1) nd rfl (Or.inl rfl) (pe_lst (pa_cons (pe_mkF (Tb.T 0 (by decide)) (Tb.no 0 (by decide)) (I 0 (by decide)) hr rfl (Tb.m 0 (by decide)) (pa_cons (pv 0) pa_nil)) (pa_cons (pe_mkF (Tb.T 1 (by decide)) (Tb.no 1 (by decide)) (I 1 (by decide)) hr rfl (Tb.m 1 (by decide)) (pa_cons (pv 0) pa_nil)) (pa_cons (pe_mkF (Tb.T 2 (by decide)) (Tb.no 2 (by decide)) (I 2 (by decide)) hr rfl (Tb.m 2 (by decide)) (pa_cons (pv 0) pa_nil)) (pa_cons (pe_mkF (Tb.T 3 (by decide)) (Tb.no 3 (by decide)) (I 3 (by decide)) hr rfl (Tb.m 3 (by decide)) (pa_cons (pv 0) pa_nil)) (pa_cons (pe_mkF (Tb.T 4 (by decide)) (Tb.no 4 (by decide)) (I 4 (by decide)) hr rfl (Tb.m 4 (by decide)) (pa_cons (pv 0) pa_nil)) (pa_cons (pe_mkF (Tb.T 5 (by decide)) (Tb.no 5 (by decide)) (I 5 (by decide)) hr rfl (Tb.m 5 (by decide)) (pa_cons (pv 0) pa_nil)) (pa_cons (pe_mkF (Tb.T 6 (by decide)) (Tb.no 6 (by decide)) (I 6 (by decide)) hr rfl (Tb.m 6 (by decide)) (pa_cons (pv 0) pa_nil)) (pa_cons (pe_mkF (Tb.T 7 (by decide)) (Tb.no 7 (by decide)) (I 7 (by decide)) hr rfl (Tb.m 7 (by decide)) (pa_cons (pv 0) pa_nil)) (pa_cons (pe_mkF (Tb.T 8 (by decide)) (Tb.no 8 (by decide)) (I 8 (by decide)) hr rfl (Tb.m 8 (by decide)) (pa_cons (pv 0) pa_nil)) pa_nil))))))))))) (pss_one (ps_ret (pe_op op_cat (pv 1) (pe_lst (pa_cons (pe_mkF (Tb.T 9 (by decide)) (Tb.no 9 (by decide)) (I 9 (by decide)) hr rfl (Tb.m 9 (by decide)) (pa_cons (pv 0) pa_nil)) (pa_cons (pe_mkF (Tb.T 10 (by decide)) (Tb.no 10 (by decide)) (I 10 (by decide)) hr rfl (Tb.m 10 (by decide)) (pa_cons (pv 0) pa_nil)) (pa_cons (pe_exc0 PySem.F.excBase_ValueError (Tb.un 11 (by decide) (by decide)).2 (Tb.un 11 (by decide) (by decide)).1 (Tb.m 11 (by decide)) (Tb.T 11 (by decide)).o.kC rfl) (pa_cons (pe_exc0 PySem.F.excBase_ValueError (Tb.un 12 (by decide) (by decide)).2 (Tb.un 12 (by decide) (by decide)).1 (Tb.m 12 (by decide)) (Tb.T 12 (by decide)).o.kC rfl) (pa_cons (pe_exc0 PySem.F.excBase_ValueError (Tb.un 13 (by decide) (by decide)).2 (Tb.un 13 (by decide) (by decide)).1 (Tb.m 13 (by decide)) (Tb.T 13 (by decide)).o.kC rfl) (pa_cons (pe_exc0 PySem.F.excBase_ValueError (Tb.un 14 (by decide) (by decide)).2 (Tb.un 14 (by decide) (by decide)).1 (Tb.m 14 (by decide)) (Tb.T 14 (by decide)).o.kC rfl) (pa_cons (pe_exc0 PySem.F.excBase_ValueError (Tb.un 15 (by decide) (by decide)).2 (Tb.un 15 (by decide) (by decide)).1 (Tb.m 15 (by decide)) (Tb.T 15 (by decide)).o.kC rfl) pa_nil))))))))))), ?_⟩
    refine ⟨_, rfl, x, rfl, fun e0 H1 n0 s0 f0 => ?_⟩
    refine ⟨_, rfl, x, rfl, fun e1 H2 n1 s1 f1 => ?_⟩
    refine ⟨_, rfl, x, rfl, fun e2 H3 n2 s2 f2 => ?_⟩
    refine ⟨_, rfl, x, rfl, fun e3 H4 n3 s3 f3 => ?_⟩
    refine ⟨_, rfl, x, rfl, fun e4 H5 n4 s4 f4 => ?_⟩
    refine ⟨_, rfl, x, rfl, fun e5 H6 n5 s5 f5 => ?_⟩
    refine ⟨_, rfl, x, rfl, fun e6 H7 n6 s6 f6 => ?_⟩
    refine ⟨_, rfl, x, rfl, fun e7 H8 n7 s7 f7 => ?_⟩
    refine ⟨_, rfl, x, rfl, fun e8 H9 n8 s8 f8 => ?_⟩
    refine ⟨by show 9 ≤ sizeLine; decide, fun p hp => ?_⟩
    have sp := same_new (o := .lst [.ref e0, .ref e1, .ref e2, .ref e3, .ref e4, .ref e5, .ref e6, .ref e7, .ref e8]) hp
    have hpl : (upd H9 p (.lst [.ref e0, .ref e1, .ref e2, .ref e3, .ref e4, .ref e5, .ref e6, .ref e7, .ref e8])) p = some (.lst [.ref e0, .ref e1, .ref e2, .ref e3, .ref e4, .ref e5, .ref e6, .ref e7, .ref e8]) := upd_same
    generalize upd H9 p (.lst [.ref e0, .ref e1, .ref e2, .ref e3, .ref e4, .ref e5, .ref e6, .ref e7, .ref e8]) = Hp at *
    refine ⟨_, rfl, ?_⟩
    refine ⟨_, rfl, x, rfl, fun e9 H10 n9 s9 f9 => ?_⟩
    refine ⟨_, rfl, x, rfl, fun e10 H11 n10 s10 f10 => ?_⟩
    refine fun e11 H12 n11 s11 f11 => ?_
    refine fun e12 H13 n12 s12 f12 => ?_
    refine fun e13 H14 n13 s13 f13 => ?_
    refine fun e14 H15 n14 s14 f14 => ?_
    refine fun e15 H16 n15 s15 f15 => ?_
    refine ⟨by show 7 ≤ sizeLine; decide, fun p2 hp2 => ?_⟩
    have sp2 := same_new (o := .lst [.ref e9, .ref e10, .ref e11, .ref e12, .ref e13, .ref e14, .ref e15]) hp2
    have t0 : Same Hp H16 := s9.trans (s10.trans (s11.trans (s12.trans (s13.trans (s14.trans s15)))))
    refine ⟨p, p2, _, _, rfl, rfl, sp2 _ _ (t0 _ _ hpl), upd_same, by show 9 + 7 ≤ sizeLine; decide, fun L hL => ?_⟩
    have sL := same_new (o := .lst ([.ref e0, .ref e1, .ref e2, .ref e3, .ref e4, .ref e5, .ref e6, .ref e7, .ref e8] ++ [.ref e9, .ref e10, .ref e11, .ref e12, .ref e13, .ref e14, .ref e15])) hL
    have u16 := sp2.trans sL
    have u15 := s15.trans u16
    have u14 := s14.trans u15
    have u13 := s13.trans u14
    have u12 := s12.trans u13
    have u11 := s11.trans u12
    have u10 := s10.trans u11
    have u9 := s9.trans u10
    have up := sp.trans u9
    have u8 := s8.trans up
    have u7 := s7.trans u8
    have u6 := s6.trans u7
    have u5 := s5.trans u6
    have u4 := s4.trans u5
    have u3 := s3.trans u4
    have u2 := s2.trans u3
    have u1 := s1.trans u2
    have u0 := s0.trans u1
    have uF := s0.trans (s1.trans (s2.trans (s3.trans (s4.trans (s5.trans (s6.trans (s7.trans (s8.trans (sp.trans (t0.trans sp2))))))))))
    refine q L (fun i => [e0, e1, e2, e3, e4, e5, e6, e7, e8, e9, e10, e11, e12, e13, e14, e15].getD i 0) _ (uF.free hL) u0 upd_same ⟨fun i hi => ?_, fun i h1 h2 => ?_⟩
    · match i, hi with
      | 0, _ => exact f0.same u1
      | 1, _ => exact f1.same u2
      | 2, _ => exact f2.same u3
      | 3, _ => exact f3.same u4
      | 4, _ => exact f4.same u5
      | 5, _ => exact f5.same u6
      | 6, _ => exact f6.same u7
      | 7, _ => exact f7.same u8
      | 8, _ => exact f8.same up
      | 9, _ => exact f9.same u10
      | 10, _ => exact f10.same u11
      | n + 11, h => exact absurd h (by omega)
    · match i, h1, h2 with
      | 11, _, _ => exact u12 _ _ f11
      | 12, _, _ => exact u13 _ _ f12
      | 13, _, _ => exact u14 _ _ f13
      | 14, _, _ => exact u15 _ _ f14
      | 15, _, _ => exact u16 _ _ f15
      | n + 16, _, h => exact absurd h (by omega)
      | 0, h, _ => exact absurd h (by decide)
      | 1, h, _ => exact absurd h (by decide)
      | 2, h, _ => exact absurd h (by decide)
      | 3, h, _ => exact absurd h (by decide)
      | 4, h, _ => exact absurd h (by decide)
      | 5, h, _ => exact absurd h (by decide)
      | 6, h, _ => exact absurd h (by decide)
      | 7, h, _ => exact absurd h (by decide)
      | 8, h, _ => exact absurd h (by decide)
      | 9, h, _ => exact absurd h (by decide)
      | 10, h, _ => exact absurd h (by decide)
def spFields {K : PySem.W.Frag} {mg : Str → Option Value} (Tb : Tab K mg) : Sp := fun vs H Q _ => ∃ (L : Addr) (e : Nat → Addr) (x : V), vs = [.ref L] ∧ H L = some (.lst (esL e)) ∧ EL Tb H e x ∧ ∀ (p : Addr) (H' : Hp), H p = none → p ≠ sysModules → Same H H' → H' p = some (.lst (List.replicate 11 x)) → Q (.ref p) H'
theorem scFields : FnScope ["_law_some", "_law_found"] ["_law_some"] (defScope sFields) := ⟨rfl, rfl, rfl, by decide +kernel, rfl, by decide +kernel, by decide +kernel⟩
theorem ok_fields {f : Addr} {fd : FuncData} (F : Fun K "_law_fields" "_law_fields" sFields f fd) (Tb : Tab K mg) : FnOk P w K mg base CX0 1 f fd ["_law_some"] (spFields Tb) := by
  refine F.ok scFields (fun vs H Q E h => ?_) (fun cdv A outer s H vs Q E hr h => ?_)
  · obtain ⟨L, e, x, rfl, _⟩ := h
    rfl
  · obtain ⟨L, e, x, rfl, hL, hE, q⟩ := h
    have nd := scFields.nd
    refine ⟨_, pss_cons (ps_set (i := 1) nd rfl (Or.inl rfl) (pe_lstN (pa_cons (pe_xfl (pe_ix ix_list (pv 0) pe_int fun _ _ => rfl)) (pa_cons (pe_xfl (pe_ix ix_list (pv 0) pe_int fun _ _ => rfl)) (pa_cons (pe_xfl (pe_ix ix_list (pv 0) pe_int fun _ _ => rfl)) (pa_cons (pe_xfl (pe_ix ix_list (pv 0) pe_int fun _ _ => rfl)) (pa_cons (pe_xfl (pe_ix ix_list (pv 0) pe_int fun _ _ => rfl)) (pa_cons (pe_xfl (pe_ix ix_list (pv 0) pe_int fun _ _ => rfl)) pa_nil)))))))) (pss_one (ps_ret (pe_op op_catN (pv 1) (pe_lstN (pa_cons (pe_xfl (pe_ix ix_list (pv 0) pe_int fun _ _ => rfl)) (pa_cons (pe_xfl (pe_ix ix_list (pv 0) pe_int fun _ _ => rfl)) (pa_cons (pe_xfl (pe_ix ix_list (pv 0) pe_int fun _ _ => rfl)) (pa_cons (pe_xfl (pe_ix ix_list (pv 0) pe_int fun _ _ => rfl)) (pa_cons (pe_xfl (pe_ix ix_list (pv 0) pe_int fun _ _ => rfl)) pa_nil))))))))), ?_⟩
    obtain ⟨d0, a0, b0⟩ := (hE).f 0 (by decide)
    refine ⟨_, rfl, L, _, (0 : Int), .ref (e 0), rfl, rfl, SqL.of hL, rfl, e 0, Tb.cs 0, d0, _, x, rfl, (Tb.T 0 (by decide)).x, Tb.no 0 (by decide), a0, b0, rfl, ?_⟩
    obtain ⟨d1, a1, b1⟩ := (hE).f 1 (by decide)
    refine ⟨_, rfl, L, _, (1 : Int), .ref (e 1), rfl, rfl, SqL.of hL, rfl, e 1, Tb.cs 1, d1, _, x, rfl, (Tb.T 1 (by decide)).x, Tb.no 1 (by decide), a1, b1, rfl, ?_⟩
    obtain ⟨d2, a2, b2⟩ := (hE).f 2 (by decide)
    refine ⟨_, rfl, L, _, (2 : Int), .ref (e 2), rfl, rfl, SqL.of hL, rfl, e 2, Tb.cs 2, d2, _, x, rfl, (Tb.T 2 (by decide)).x, Tb.no 2 (by decide), a2, b2, rfl, ?_⟩
    obtain ⟨d3, a3, b3⟩ := (hE).f 3 (by decide)
    refine ⟨_, rfl, L, _, (3 : Int), .ref (e 3), rfl, rfl, SqL.of hL, rfl, e 3, Tb.cs 3, d3, _, x, rfl, (Tb.T 3 (by decide)).x, Tb.no 3 (by decide), a3, b3, rfl, ?_⟩
    obtain ⟨d4, a4, b4⟩ := (hE).f 4 (by decide)
    refine ⟨_, rfl, L, _, (4 : Int), .ref (e 4), rfl, rfl, SqL.of hL, rfl, e 4, Tb.cs 4, d4, _, x, rfl, (Tb.T 4 (by decide)).x, Tb.no 4 (by decide), a4, b4, rfl, ?_⟩
    obtain ⟨d5, a5, b5⟩ := (hE).f 5 (by decide)
    refine ⟨_, rfl, L, _, (5 : Int), .ref (e 5), rfl, rfl, SqL.of hL, rfl, e 5, Tb.cs 5, d5, _, x, rfl, (Tb.T 5 (by decide)).x, Tb.no 5 (by decide), a5, b5, rfl, ?_⟩
    refine ⟨by show 6 ≤ sizeLine; decide, fun p hp _ => ?_⟩
    have s1 := same_new (o := .lst [x, x, x, x, x, x]) hp
    have hpl : (upd H p (.lst [x, x, x, x, x, x])) p = some (.lst [x, x, x, x, x, x]) := upd_same
    have hL1 := s1 _ _ hL
    have hE1 := hE.same s1
    generalize upd H p (.lst [x, x, x, x, x, x]) = H1 at *
    refine ⟨_, rfl, ?_⟩
    obtain ⟨d6, a6, b6⟩ := (hE1).f 6 (by decide)
    refine ⟨_, rfl, L, _, (6 : Int), .ref (e 6), rfl, rfl, SqL.of hL1, rfl, e 6, Tb.cs 6, d6, _, x, rfl, (Tb.T 6 (by decide)).x, Tb.no 6 (by decide), a6, b6, rfl, ?_⟩
    obtain ⟨d7, a7, b7⟩ := (hE1).f 7 (by decide)
    refine ⟨_, rfl, L, _, (7 : Int), .ref (e 7), rfl, rfl, SqL.of hL1, rfl, e 7, Tb.cs 7, d7, _, x, rfl, (Tb.T 7 (by decide)).x, Tb.no 7 (by decide), a7, b7, rfl, ?_⟩
    obtain ⟨d8, a8, b8⟩ := (hE1).f 8 (by decide)
    refine ⟨_, rfl, L, _, (8 : Int), .ref (e 8), rfl, rfl, SqL.of hL1, rfl, e 8, Tb.cs 8, d8, _, x, rfl, (Tb.T 8 (by decide)).x, Tb.no 8 (by decide), a8, b8, rfl, ?_⟩
    obtain ⟨d9, a9, b9⟩ := (hE1).f 9 (by decide)
    refine ⟨_, rfl, L, _, (9 : Int), .ref (e 9), rfl, rfl, SqL.of hL1, rfl, e 9, Tb.cs 9, d9, _, x, rfl, (Tb.T 9 (by decide)).x, Tb.no 9 (by decide), a9, b9, rfl, ?_⟩
    obtain ⟨d10, a10, b10⟩ := (hE1).f 10 (by decide)
    refine ⟨_, rfl, L, _, (10 : Int), .ref (e 10), rfl, rfl, SqL.of hL1, rfl, e 10, Tb.cs 10, d10, _, x, rfl, (Tb.T 10 (by decide)).x, Tb.no 10 (by decide), a10, b10, rfl, ?_⟩
    refine ⟨by show 5 ≤ sizeLine; decide, fun p2 hp2 _ => ?_⟩
    have s2 := same_new (o := .lst [x, x, x, x, x]) hp2
    refine ⟨p, p2, _, _, rfl, rfl, s2 _ _ hpl, upd_same, by show 6 + 5 ≤ sizeLine; decide, fun L2 hL2 nL2 => ?_⟩
    exact q L2 _ ((s1.trans s2).free hL2) nL2 ((s1.trans s2).trans (same_new hL2)) upd_same
def spFlags {K : PySem.W.Frag} {mg : Str → Option Value} (Tb : Tab K mg) : Sp := fun vs H Q _ => ∃ (a : Addr) (i : Nat), vs = [.ref a] ∧ i < 16 ∧ Er H a (Tb.cs i) ∧ ∀ (p : Addr) (H' : Hp), H p = none → Same H H' → H' p = some (.lst ((List.range 16).map fun j => V.bl (decide (i = j)))) → Q (.ref p) H'
theorem scFlags : FnScope ["_law_e", "_law_found"] ["_law_e"] (defScope sFlags) := ⟨rfl, rfl, rfl, by decide +kernel, rfl, by decide +kernel, by decide +kernel⟩
theorem ok_flags {f : Addr} {fd : FuncData} (F : Fun K "_law_flags" "_law_flags" sFlags f fd) (T : Txt K mg) (Tb : Tab K mg) : FnOk P w K mg base CX0 1 f fd ["_law_e"] (spFlags Tb) := by
  refine F.ok scFlags (fun vs H Q E h => ?_) (fun cdv A outer s H vs Q E hr h => ?_)
  · obtain ⟨a, i, rfl, _⟩ := h
    rfl
  · obtain ⟨a, i, rfl, hi, hE, q⟩ := h
    have nd := scFlags.nd
    refine ⟨_, pss_cons (ps_set (i := 1) nd rfl (Or.inl rfl) (pe_lst (pa_cons (pe_callB call_isEr (by rfl) T.isinstance (by decide +kernel) (pa_cons (pv 0) (pa_cons (pe_glob (v := .ref (Tb.cs 0)) rfl (Tb.m 0 (by decide)) rfl) pa_nil))) (pa_cons (pe_callB call_isEr (by rfl) T.isinstance (by decide +kernel) (pa_cons (pv 0) (pa_cons (pe_glob (v := .ref (Tb.cs 1)) rfl (Tb.m 1 (by decide)) rfl) pa_nil))) (pa_cons (pe_callB call_isEr (by rfl) T.isinstance (by decide +kernel) (pa_cons (pv 0) (pa_cons (pe_glob (v := .ref (Tb.cs 2)) rfl (Tb.m 2 (by decide)) rfl) pa_nil))) (pa_cons (pe_callB call_isEr (by rfl) T.isinstance (by decide +kernel) (pa_cons (pv 0) (pa_cons (pe_glob (v := .ref (Tb.cs 3)) rfl (Tb.m 3 (by decide)) rfl) pa_nil))) pa_nil)))))) (pss_cons (ps_set (i := 1) nd rfl (Or.inl rfl) (pe_op op_cat (pv 1) (pe_lst (pa_cons (pe_callB call_isEr (by rfl) T.isinstance (by decide +kernel) (pa_cons (pv 0) (pa_cons (pe_glob (v := .ref (Tb.cs 4)) rfl (Tb.m 4 (by decide)) rfl) pa_nil))) (pa_cons (pe_callB call_isEr (by rfl) T.isinstance (by decide +kernel) (pa_cons (pv 0) (pa_cons (pe_glob (v := .ref (Tb.cs 5)) rfl (Tb.m 5 (by decide)) rfl) pa_nil))) (pa_cons (pe_callB call_isEr (by rfl) T.isinstance (by decide +kernel) (pa_cons (pv 0) (pa_cons (pe_glob (v := .ref (Tb.cs 6)) rfl (Tb.m 6 (by decide)) rfl) pa_nil))) (pa_cons (pe_callB call_isEr (by rfl) T.isinstance (by decide +kernel) (pa_cons (pv 0) (pa_cons (pe_glob (v := .ref (Tb.cs 7)) rfl (Tb.m 7 (by decide)) rfl) pa_nil))) pa_nil))))))) (pss_cons (ps_set (i := 1) nd rfl (Or.inl rfl) (pe_op op_cat (pv 1) (pe_lst (pa_cons (pe_callB call_isEr (by rfl) T.isinstance (by decide +kernel) (pa_cons (pv 0) (pa_cons (pe_glob (v := .ref (Tb.cs 8)) rfl (Tb.m 8 (by decide)) rfl) pa_nil))) (pa_cons (pe_callB call_isEr (by rfl) T.isinstance (by decide +kernel) (pa_cons (pv 0) (pa_cons (pe_glob (v := .ref (Tb.cs 9)) rfl (Tb.m 9 (by decide)) rfl) pa_nil))) (pa_cons (pe_callB call_isEr (by rfl) T.isinstance (by decide +kernel) (pa_cons (pv 0) (pa_cons (pe_glob (v := .ref (Tb.cs 10)) rfl (Tb.m 10 (by decide)) rfl) pa_nil))) (pa_cons (pe_callB call_isEr (by rfl) T.isinstance (by decide +kernel) (pa_cons (pv 0) (pa_cons (pe_glob (v := .ref (Tb.cs 11)) rfl (Tb.m 11 (by decide)) rfl) pa_nil))) pa_nil))))))) (pss_one (ps_ret (pe_op op_cat (pv 1) (pe_lst (pa_cons (pe_callB call_isEr (by rfl) T.isinstance (by decide +kernel) (pa_cons (pv 0) (pa_cons (pe_glob (v := .ref (Tb.cs 12)) rfl (Tb.m 12 (by decide)) rfl) pa_nil))) (pa_cons (pe_callB call_isEr (by rfl) T.isinstance (by decide +kernel) (pa_cons (pv 0) (pa_cons (pe_glob (v := .ref (Tb.cs 13)) rfl (Tb.m 13 (by decide)) rfl) pa_nil))) (pa_cons (pe_callB call_isEr (by rfl) T.isinstance (by decide +kernel) (pa_cons (pv 0) (pa_cons (pe_glob (v := .ref (Tb.cs 14)) rfl (Tb.m 14 (by decide)) rfl) pa_nil))) (pa_cons (pe_callB call_isEr (by rfl) T.isinstance (by decide +kernel) (pa_cons (pv 0) (pa_cons (pe_glob (v := .ref (Tb.cs 15)) rfl (Tb.m 15 (by decide)) rfl) pa_nil))) pa_nil)))))))))), ?_⟩
    refine ⟨_, rfl, a, Tb.cs i, .ref (Tb.cs 0), .ref (Tb.cs 0), decide (i = 0), rfl, .own _, hE, Tb.T i hi, Tb.kit i 0 hi (by decide), ?_⟩
    refine ⟨_, rfl, a, Tb.cs i, .ref (Tb.cs 1), .ref (Tb.cs 1), decide (i = 1), rfl, .own _, hE, Tb.T i hi, Tb.kit i 1 hi (by decide), ?_⟩
    refine ⟨_, rfl, a, Tb.cs i, .ref (Tb.cs 2), .ref (Tb.cs 2), decide (i = 2), rfl, .own _, hE, Tb.T i hi, Tb.kit i 2 hi (by decide), ?_⟩
    refine ⟨_, rfl, a, Tb.cs i, .ref (Tb.cs 3), .ref (Tb.cs 3), decide (i = 3), rfl, .own _, hE, Tb.T i hi, Tb.kit i 3 hi (by decide), ?_⟩
    refine ⟨by show 4 ≤ sizeLine; decide, fun p0 hp0 => ?_⟩
    have s0 := same_new (o := .lst [.bl (decide (i = 0)), .bl (decide (i = 1)), .bl (decide (i = 2)), .bl (decide (i = 3))]) hp0
    have h0 : (upd H p0 (.lst [.bl (decide (i = 0)), .bl (decide (i = 1)), .bl (decide (i = 2)), .bl (decide (i = 3))])) p0 = some (.lst [.bl (decide (i = 0)), .bl (decide (i = 1)), .bl (decide (i = 2)), .bl (decide (i = 3))]) := upd_same
    have E0' := hE.same s0
    generalize upd H p0 (.lst [.bl (decide (i = 0)), .bl (decide (i = 1)), .bl (decide (i = 2)), .bl (decide (i = 3))]) = H0 at *
    refine ⟨_, rfl, ?_⟩
    refine ⟨_, rfl, a, Tb.cs i, .ref (Tb.cs 4), .ref (Tb.cs 4), decide (i = 4), rfl, .own _, E0', Tb.T i hi, Tb.kit i 4 hi (by decide), ?_⟩
    refine ⟨_, rfl, a, Tb.cs i, .ref (Tb.cs 5), .ref (Tb.cs 5), decide (i = 5), rfl, .own _, E0', Tb.T i hi, Tb.kit i 5 hi (by decide), ?_⟩
    refine ⟨_, rfl, a, Tb.cs i, .ref (Tb.cs 6), .ref (Tb.cs 6), decide (i = 6), rfl, .own _, E0', Tb.T i hi, Tb.kit i 6 hi (by decide), ?_⟩
    refine ⟨_, rfl, a, Tb.cs i, .ref (Tb.cs 7), .ref (Tb.cs 7), decide (i = 7), rfl, .own _, E0', Tb.T i hi, Tb.kit i 7 hi (by decide), ?_⟩
    refine ⟨by show 4 ≤ sizeLine; decide, fun g1 hg1 => ?_⟩
    have r1 := same_new (o := .lst [.bl (decide (i = 4)), .bl (decide (i = 5)), .bl (decide (i = 6)), .bl (decide (i = 7))]) hg1
    refine ⟨p0, g1, _, _, rfl, rfl, r1 _ _ h0, upd_same, by show 4 + 4 ≤ sizeLine; decide, fun p1 hp1 => ?_⟩
    have s1 := (s0.trans r1).trans (same_new (o := .lst ([.bl (decide (i = 0)), .bl (decide (i = 1)), .bl (decide (i = 2)), .bl (decide (i = 3))] ++ [.bl (decide (i = 4)), .bl (decide (i = 5)), .bl (decide (i = 6)), .bl (decide (i = 7))])) hp1)
    have h1 : (upd (upd H0 g1 (.lst [.bl (decide (i = 4)), .bl (decide (i = 5)), .bl (decide (i = 6)), .bl (decide (i = 7))])) p1 (.lst ([.bl (decide (i = 0)), .bl (decide (i = 1)), .bl (decide (i = 2)), .bl (decide (i = 3))] ++ [.bl (decide (i = 4)), .bl (decide (i = 5)), .bl (decide (i = 6)), .bl (decide (i = 7))]))) p1 = some (.lst ([.bl (decide (i = 0)), .bl (decide (i = 1)), .bl (decide (i = 2)), .bl (decide (i = 3)), .bl (decide (i = 4)), .bl (decide (i = 5)), .bl (decide (i = 6)), .bl (decide (i = 7))])) := upd_same
    have E1' := hE.same s1
    generalize upd (upd H0 g1 (.lst [.bl (decide (i = 4)), .bl (decide (i = 5)), .bl (decide (i = 6)), .bl (decide (i = 7))])) p1 (.lst ([.bl (decide (i = 0)), .bl (decide (i = 1)), .bl (decide (i = 2)), .bl (decide (i = 3))] ++ [.bl (decide (i = 4)), .bl (decide (i = 5)), .bl (decide (i = 6)), .bl (decide (i = 7))])) = H1 at *
    refine ⟨_, rfl, ?_⟩
    refine ⟨_, rfl, a, Tb.cs i, .ref (Tb.cs 8), .ref (Tb.cs 8), decide (i = 8), rfl, .own _, E1', Tb.T i hi, Tb.kit i 8 hi (by decide), ?_⟩
    refine ⟨_, rfl, a, Tb.cs i, .ref (Tb.cs 9), .ref (Tb.cs 9), decide (i = 9), rfl, .own _, E1', Tb.T i hi, Tb.kit i 9 hi (by decide), ?_⟩
    refine ⟨_, rfl, a, Tb.cs i, .ref (Tb.cs 10), .ref (Tb.cs 10), decide (i = 10), rfl, .own _, E1', Tb.T i hi, Tb.kit i 10 hi (by decide), ?_⟩
    refine ⟨_, rfl, a, Tb.cs i, .ref (Tb.cs 11), .ref (Tb.cs 11), decide (i = 11), rfl, .own _, E1', Tb.T i hi, Tb.kit i 11 hi (by decide), ?_⟩
    refine ⟨by show 4 ≤ sizeLine; decide, fun g2 hg2 => ?_⟩
    have r2 := same_new (o := .lst [.bl (decide (i = 8)), .bl (decide (i = 9)), .bl (decide (i = 10)), .bl (decide (i = 11))]) hg2
    refine ⟨p1, g2, _, _, rfl, rfl, r2 _ _ h1, upd_same, by show 8 + 4 ≤ sizeLine; decide, fun p2 hp2 => ?_⟩
    have s2 := (s1.trans r2).trans (same_new (o := .lst ([.bl (decide (i = 0)), .bl (decide (i = 1)), .bl (decide (i = 2)), .bl (decide (i = 3)), .bl (decide (i = 4)), .bl (decide (i = 5)), .bl (decide (i = 6)), .bl (decide (i = 7))] ++ [.bl (decide (i = 8)), .bl (decide (i = 9)), .bl (decide (i = 10)), .bl (decide (i = 11))])) hp2)
    have h2 : (upd (upd H1 g2 (.lst [.bl (decide (i = 8)), .bl (decide (i = 9)), .bl (decide (i = 10)), .bl (decide (i = 11))])) p2 (.lst ([.bl (decide (i = 0)), .bl (decide (i = 1)), .bl (decide (i = 2)), .bl (decide (i = 3)), .bl (decide (i = 4)), .bl (decide (i = 5)), .bl (decide (i = 6)), .bl (decide (i = 7))] ++ [.bl (decide (i = 8)), .bl (decide (i = 9)), .bl (decide (i = 10)), .bl (decide (i = 11))]))) p2 = some (.lst ([.bl (decide (i = 0)), .bl (decide (i = 1)), .bl (decide (i = 2)), .bl (decide (i = 3)), .bl (decide (i = 4)), .bl (decide (i = 5)), .bl (decide (i = 6)), .bl (decide (i = 7)), .bl (decide (i = 8)), .bl (decide (i = 9)), .bl (decide (i = 10)), .bl (decide (i = 11))])) := upd_same
    have E2' := hE.same s2
    generalize upd (upd H1 g2 (.lst [.bl (decide (i = 8)), .bl (decide (i = 9)), .bl (decide (i = 10)), .bl (decide (i = 11))])) p2 (.lst ([.bl (decide (i = 0)), .bl (decide (i = 1)), .bl (decide (i = 2)), .bl (decide (i = 3)), .bl (decide (i = 4)), .bl (decide (i = 5)), .bl (decide (i = 6)), .bl (decide (i = 7))] ++ [.bl (decide (i = 8)), .bl (decide (i = 9)), .bl (decide (i = 10)), .bl (decide (i = 11))])) = H2 at *
    refine ⟨_, rfl, ?_⟩
    refine ⟨_, rfl, a, Tb.cs i, .ref (Tb.cs 12), .ref (Tb.cs 12), decide (i = 12), rfl, .own _, E2', Tb.T i hi, Tb.kit i 12 hi (by decide), ?_⟩
    refine ⟨_, rfl, a, Tb.cs i, .ref (Tb.cs 13), .ref (Tb.cs 13), decide (i = 13), rfl, .own _, E2', Tb.T i hi, Tb.kit i 13 hi (by decide), ?_⟩
    refine ⟨_, rfl, a, Tb.cs i, .ref (Tb.cs 14), .ref (Tb.cs 14), decide (i = 14), rfl, .own _, E2', Tb.T i hi, Tb.kit i 14 hi (by decide), ?_⟩
    refine ⟨_, rfl, a, Tb.cs i, .ref (Tb.cs 15), .ref (Tb.cs 15), decide (i = 15), rfl, .own _, E2', Tb.T i hi, Tb.kit i 15 hi (by decide), ?_⟩
    refine ⟨by show 4 ≤ sizeLine; decide, fun g3 hg3 => ?_⟩
    have r3 := same_new (o := .lst [.bl (decide (i = 12)), .bl (decide (i = 13)), .bl (decide (i = 14)), .bl (decide (i = 15))]) hg3
    refine ⟨p2, g3, _, _, rfl, rfl, r3 _ _ h2, upd_same, by show 12 + 4 ≤ sizeLine; decide, fun p3 hp3 => ?_⟩
    exact q p3 _ ((s2.trans r3).free hp3) ((s2.trans r3).trans (same_new hp3)) upd_same
theorem EL.off {Tb : Tab K mg} {H : Hp} {e : Nat → Addr} {x : V} {b : Addr} {o u : HO} (h : EL Tb H e x) (hb : H b = some o) (ho : ∀ φ, o ≠ .ext φ) : EL Tb (L2.upd H b u) e x :=
  ⟨fun i hi => (h.f i hi).off hb ho, fun i h1 h2 => by rw [upd_ne (ne_of (h.u i h1 h2) hb fun z => ho _ z.symm)]; exact h.u i h1 h2⟩
theorem shB : shD (.list [.int 0, .list [.int 1], .str "more"]) = true ∧ shD (.list [.list [], .str "more"]) = true ∧ shD (.dict [(.str "a", .list [.int 2]), (.str "more", .int 0)]) = true := by decide +kernel
def flg (i : Nat) : List V := (List.range 16).map fun j => V.bl (decide (i = j))
def flgD (i : Nat) : PyData := .list ((List.range 16).map fun j => PyData.bool (decide (i = j)))
theorem flg_dp {H : Hp} {p : Addr} {i : Nat} (h : H p = some (.lst (flg i))) : Dp K H (.ref p) (flgD i) := by
  refine .lst (SqL.of h) ?_
  unfold flg
  have go : ∀ l : List Nat, DpAll K H (l.map fun j => V.bl (decide (i = j))) (l.map fun j => PyData.bool (decide (i = j))) := fun l => by
    induction l with
    | nil => exact .nil
    | cons a l ih => exact .cons (.bl _) ih
  exact go _
theorem flg_eqv : ∀ i, i < 16 → (!PyData.eqv (flgD i) (flgD i)) = false ∧ SeqAt.shaped (flgD i) = true := by
  intro i hi
  have : ∀ i ∈ List.range 16, (!PyData.eqv (flgD i) (flgD i)) = false ∧ SeqAt.shaped (flgD i) = true := by decide +kernel
  exact this i (List.mem_range.mpr hi)
abbrev nLaw : List Str := ["_law_script", "_law_bag_here", "_law_turn", "_law_thing", "_law_some", "_law_at", "_law_e", "_law_k"]
theorem scLaw : FnScope nLaw ["_law_script"] (defScope sLaw) := ⟨rfl, rfl, rfl, by decide +kernel, rfl, by decide +kernel, by decide +kernel⟩
def spLaw (K : PySem.W.Frag) : Sp := fun vs H Q _ => ∃ (a : Addr) (ns : List Int), vs = [.ref a] ∧ SqL K H a (ns.map V.int) ∧ ns.length ≤ 63 ∧ ∀ H', Q (.bl true) H'
theorem ok_law {f : Addr} {fd : FuncData} (F : Fun K "law" "law" sLaw f fd) (T : Txt K mg) (Tb : Tab K mg)
    (cB : Cal P w K mg base 1 "_law_bag" ["_law_script"] (spBag K))
    (cV : Cal P w K mg base 3 "_law_value" ["_law_bag_here"] (spValue K))
    (cE : Cal P w K mg base 3 "_law_errors" ["_law_x"] (spErrors Tb))
    (cF : Cal P w K mg base 1 "_law_fields" ["_law_some"] (spFields Tb))
    (cG : Cal P w K mg base 1 "_law_flags" ["_law_e"] (spFlags Tb)) : FnG P w K mg base 4 f fd ["_law_script"] (spLaw K) := by
  refine okG F scLaw (fun vs H Q E h => ?_) (fun cdv A outer s H vs Q E hr hg h => ?_)
  · obtain ⟨a, ns, rfl, _⟩ := h
    rfl
  · obtain ⟨a, ns, rfl, hS, hlen, k⟩ := h
    have nd := scLaw.nd
    have hr1 : Room 1 _ := hr.mono (by decide)
    have hu80 : A.units + 3 + 80 < cLine := by
      have := hr.un
      have e : (A.deeper (envOfC "law" (defScope sLaw) s.heap.objs.size f cdv)).units = A.units + 3 := rfl
      omega
    have hu64 : A.units + 3 + 64 < cLine := by omega
    have hu1 : A.units + 3 + 1 < cLine := by omega
    refine ⟨_, pss_cons (ps_set (i := 1) nd rfl (Or.inl rfl) (pe_call cB.G hr1 rfl cB.m cB.kp cB.b .nil pass0 (pa_cons (pv 0) pa_nil)))
      (pss_cons (ps_for PassesOwn.never rfl (pi_range1 (by rfl) T.range (pa_cons pe_int pa_nil)) (pg_name (i := 2) nd rfl (Or.inl rfl))
        (pss_cons (ps_set (i := 3) nd rfl (Or.inl rfl) (pe_call cV.G hr rfl cV.m cV.kp cV.b .nil pass0 (pa_cons (pv 1) pa_nil)))
        (pss_cons (ps_set (i := 4) nd rfl (Or.inl rfl) (pe_call cE.G hr rfl cE.m cE.kp cE.b .nil pass0 (pa_cons (pv 3) pa_nil)))
        (Evl.pss_cut (ps_if (pt_val (pe_callB call_isi (by rfl) T.isinstance (by decide +kernel) (pa_cons (pv 3) (pa_cons (pe_bltn (v := .ty "list") (by rfl) T.list (by decide +kernel) rfl) pa_nil))))
          (pss_one (ps_expr (pe_bm PySem.F.plainAttrs_list PySem.F.slot_list_append PySem.F.type_list_append mt_append (pv 3) (pa_cons pe_str pa_nil)))) pss_nil)
        (Evl.pss_cut (ps_if (pt_val (pe_callB call_isi (by rfl) T.isinstance (by decide +kernel) (pa_cons (pv 3) (pa_cons (pe_bltn (v := .ty "dict") (by rfl) T.dict (by decide +kernel) rfl) pa_nil))))
          (pss_one (ps_dput hu1 (pv 3) pe_str pe_int rfl)) pss_nil)
        (pss_cons (ps_if (pt_cmpR op_ne (pe_callB (call_repr11 hg hu64) (by rfl) T.repr (by decide +kernel) (pa_cons (pe_call cF.G hr1 rfl cF.m cF.kp cF.b .nil pass0 (pa_cons (pv 4) pa_nil)) pa_nil))
            (pe_callB (call_repr11 hg hu64) (by rfl) T.repr (by decide +kernel) (pa_cons (pe_op op_repN (pe_lst (pa_cons (pv 3) pa_nil)) pe_int) pa_nil)) (nomark _)) (pss_one (ps_ret pe_bl)) pss_nil)
        (pss_one (ps_for PassesOwn.never rfl (pi_enum (by rfl) T.enumerate (pa_cons (pv 4) pa_nil)) (pg_tup (by rfl) (pgs_cons (pg_name (i := 5) nd rfl (Or.inr rfl)) (pgs_cons (pg_name (i := 6) nd rfl (Or.inl rfl)) pgs_nil)))
          (pss_cons (ps_if (pt_cmpR (op_neD hu64) (pe_call cG.G hr1 rfl cG.m cG.kp cG.b .nil pass0 (pa_cons (pv 6) pa_nil))
              (pe_lc (own := [("_law_k", 7)]) (g := gName 7) (tt := tYes) rfl nd (pi_range1 (by rfl) T.range (pa_cons pe_int pa_nil)) (blkOk_by (N := nLaw) (sc := defScope sLaw) (by decide +kernel)) (fun _ _ _ _ _ => pg_name (i := 7) nd rfl (Or.inl rfl))
                (fun _ _ _ _ _ => pts_nil) (fun _ _ _ _ _ => pe_cmpR op_eq (pv 7) (pv 5) (nomark _))) (nomark _)) (pss_one (ps_ret pe_bl)) pss_nil)
          (pss_one (ps_if (PW.pt (pw_or (pt_not (pt_val (pe_callB call_isEr (by rfl) T.isinstance (by decide +kernel) (pa_cons (pv 6) (pa_cons (pe_glob (v := .ref Tb.ck) rfl Tb.mkE rfl) pa_nil)))))
              (pw_or1 (pt_not (pt_val (pe_callB call_isEr (by rfl) T.isinstance (by decide +kernel) (pa_cons (pv 6) (pa_cons (pe_bltn (v := .ty "ValueError") (by rfl) T.ValueError (by decide +kernel) rfl) pa_nil)))))))) (pss_one (ps_ret pe_bl)) pss_nil)))))))))))
      (pss_one (ps_ret pe_bl))), ?_⟩
    refine ⟨_, rfl, a, ns, rfl, hS, hlen, fun b l H1 hb B1 s1 => ?_⟩
    refine ⟨6, rfl, by decide, by decide, ?_⟩
    refine for_range (lo := 0) (n := 6) (fun i σ H' => Bag H' b l ∧ ∃ (v2 v3 v4 v5 v6 v7 : Option V), σ = [some (.ref a), some (.ref b), v2, v3, v4, v5, v6, v7])
      ⟨B1, none, none, none, none, none, none, rfl⟩ ?_ (fun σ H' _ => k H')
    rintro i σ H' hi ⟨B, v2, v3, v4, v5, v6, v7, rfl⟩
    refine ⟨_, rfl, b, l, rfl, B, fun x H2 hx B2 k2 => ?_⟩
    refine ⟨_, rfl, x, rfl, fun L e H3 nL s3 hL hE => ?_⟩
    have hx3 := hx.same s3
    have B3 := B2.same s3
    refine ⟨fun σ' H4 => (∃ v2, σ' = [some (.ref a), some (.ref b), v2, some x, some (.ref L), v5, v6, v7]) ∧ Bag H4 b l ∧ H4 L = some (.lst (esL e)) ∧ EL Tb H4 e x ∧
      ((∃ (d : PyData) (t : String), TyX K H4 x (.type t) ∧ kitB t "dict" = some false ∧ D1 H4 x d ∧ shD d = true) ∨ ∃ q i, x = .ref q ∧ H4 q = some (.dK [(.inr "a", .ref i)]) ∧ H4 i = some (.lst [.int 2]) ∧ i ≠ sysModules ∧ i ≠ q ∧ b ≠ q ∧ l ≠ q), ?_, ?_⟩
    · refine ⟨_, rfl, ?_⟩
      cases hx with
      | con h1 h2 h3 =>
        have h1' := D1.same s3 _ _ h1
        obtain ⟨kl, kd⟩ := kl_of h2
        refine ⟨_, _, _, .type "list", false, rfl, .ty "list", h1'.ty, kit_ty kl, _, rfl, ?_⟩
        refine iteF ?_
        exact ⟨⟨_, rfl⟩, B3, hL, hE, .inl ⟨_, _, h1'.ty, kd, h1', h3⟩⟩
      | @lst q i pre ns h1 h2 h3 h4 h5 h6 h7 h8 =>
        have h1' := s3 _ _ h1
        have h3' := s3 _ _ h3
        have hqL : L ≠ q := (ne_of_none h1 nL).symm
        refine ⟨_, _, .type "list", .type "list", true, rfl, .ty "list", .base (.lst h1'), kit_ty (by decide +kernel), _, rfl, ?_⟩
        refine iteT ?_
        refine ⟨_, rfl, .inl ⟨rfl, _, SqL.of h1'⟩, q, _, _, rfl, rfl, h1', ?_, ?_⟩
        · rcases h8 with ⟨rfl, rfl⟩ | ⟨rfl, rfl⟩ <;> exact small1000 (by simp)
        refine ⟨⟨_, rfl⟩, B3.upd h6 h7, by rw [upd_ne hqL]; exact hL, hE.off h1' (by intro φ z; cases z), .inl ?_⟩
        have hq : (upd H3 q (.lst (pre.map V.int ++ [.ref i] ++ [.str "more"]))) q = some (.lst (pre.map V.int ++ [.ref i] ++ [.str "more"])) := upd_same
        have hi' : (upd H3 q (.lst (pre.map V.int ++ [.ref i] ++ [.str "more"]))) i = some (.lst (ns.map V.int)) := by rw [upd_ne h5]; exact h3'
        obtain ⟨sh1, sh2, sh3⟩ := shB
        rcases h8 with ⟨rfl, rfl⟩ | ⟨rfl, rfl⟩
        · exact ⟨_, "list", .base (.lst hq), by decide +kernel, .lst hq h2 (.cons (.int 0) (.cons (.lst hi' h4 (.cons (.int 1) .nil)) (.cons (.str _) .nil))), sh1⟩
        · exact ⟨_, "list", .base (.lst hq), by decide +kernel, .lst hq h2 (.cons (.lst hi' h4 .nil) (.cons (.str _) .nil)), sh2⟩
      | @dct q i h1 h2 h3 h4 h5 h6 =>
        have h1' := s3 _ _ h1
        refine ⟨_, _, .type "dict", .type "list", false, rfl, .ty "list", .base (.dK h1'), kit_ty (by decide +kernel), _, rfl, ?_⟩
        refine iteF ?_
        exact ⟨⟨_, rfl⟩, B3, hL, hE, .inr ⟨q, i, rfl, h1', s3 _ _ h2, h3, h4, h5, h6⟩⟩
    rintro σ4 H4 ⟨⟨v2, rfl⟩, B4, hL4, hE4, hx4⟩
    refine ⟨fun σ' H5 => (∃ v2, σ' = [some (.ref a), some (.ref b), v2, some x, some (.ref L), v5, v6, v7]) ∧ Bag H5 b l ∧ H5 L = some (.lst (esL e)) ∧ EL Tb H5 e x ∧ ∃ d, D2 H5 x d ∧ shD d = true, ?_, ?_⟩
    · refine ⟨_, rfl, ?_⟩
      rcases hx4 with ⟨d, t, ty, kd, h1, h3⟩ | ⟨q, i, rfl, h1, h2, h3, h4, h5, h6⟩
      · refine ⟨_, _, _, .type "dict", false, rfl, .ty "dict", ty, kit_ty kd, _, rfl, ?_⟩
        refine iteF ?_
        exact ⟨⟨_, rfl⟩, B4, hL4, hE4, d, .inl h1, h3⟩
      · refine ⟨_, _, .type "dict", .type "dict", true, rfl, .ty "dict", .base (.dK h1), kit_ty (by decide +kernel), _, rfl, ?_⟩
        refine iteT ?_
        refine ⟨_, rfl, q, _, rfl, DPut.k (k := .inr "more") h1 (by show 1 < sizeLine; decide), ?_⟩
        have hqL : L ≠ q := ne_of hL4 h1 (by intro z; cases z)
        refine ⟨⟨_, rfl⟩, B4.upd h5 h6, by rw [upd_ne hqL]; exact hL4, hE4.off h1 (by intro φ z; cases z), _, .inr ⟨q, _, _, rfl, upd_same, .cons (.lst (by rw [upd_ne h4]; exact h2) h3 (.cons (.int 2) .nil)) (.cons (.int 0) .nil), rfl⟩, shB.2.2⟩
    rintro σ5 H5 ⟨⟨v2, rfl⟩, B5, hL5, hE5, d, hd, hsh⟩
    refine ⟨_, rfl, L, e, x, rfl, hL5, hE5, fun p H6 np sp s6 hp => ⟨p, x, d, rfl, hp, sp, D2.same s6 hd, hsh, _, rfl, by show 1 ≤ sizeLine; decide, fun p1 hp1 => ⟨p1, 11, [x], rfl, rfl, upd_same, by decide, by decide, by show 1 * 11 ≤ sizeLine; decide, fun p2 hp2 sp2 => ?_⟩⟩⟩
    have s7 := (s6.trans (same_new (o := .lst [x]) hp1)).trans (same_new (o := .lst (List.replicate (Int.toNat 11) [x]).flatten) hp2)
    refine ⟨p2, x, d, rfl, upd_same, sp2, D2.same s7 hd, hsh, rfl, _, rfl, ?_⟩
    rw [decide_eq_true (rfl : V.str _ = V.str _)]
    refine iteF ?_
    have B7 := B5.same s7
    have hL7 := s7 _ _ hL5
    have hE7 := hE5.same s7
    refine ⟨_, rfl, L, _, rfl, SqL.of hL7, for_enumL (K := K) (a := L) (xs := esL e) (fun i σ H' => (∃ v5 v6 v7, σ = [some (.ref a), some (.ref b), v2, some x, some (.ref L), v5, v6, v7]) ∧ Bag H' b l ∧ H' L = some (.lst (esL e)) ∧ EL Tb H' e x)
      ⟨⟨_, _, _, rfl⟩, B7, hL7, hE7⟩ (fun i σ H' _ h => SqL.of h.2.2.1) ?_ ?_⟩
    · rintro i z σ H' hi ⟨⟨v5, v6, v7, rfl⟩, B8, hL8, hE8⟩ T1 hT1
      have hi16 : i < 16 := (List.getElem?_eq_some_iff.mp hi).1
      obtain rfl : V.ref (e i) = z := by
        unfold esL at hi
        rw [List.getElem?_map, List.getElem?_range hi16] at hi
        exact Option.some.inj hi
      have sT : Same H' _ := same_new (o := .tup [.int (i : Nat), .ref (e i)]) hT1
      have E9 := (hE8.same sT).er i hi16
      refine ⟨T1, _, rfl, SqT.of upd_same, rfl, _, _, rfl, _, _, rfl, rfl, ?_⟩
      refine ⟨_, rfl, e i, i, rfl, hi16, E9, fun p9 H9 np9 s9 hp9 => ⟨16, rfl, by decide, by decide, fun D hD => ?_⟩⟩
      refine lc_range (lo := 0) (n := 16) (fun j H' => Same H9 H' ∧ H' D = some (.lst ((List.range j).map fun k => V.bl (decide (i = k))))) ⟨same_new hD, upd_same⟩ ?_ ?_
      · rintro j H10 hj ⟨s10, hDl⟩
        refine ⟨rfl, Exists.intro _ ⟨rfl, _, rfl, rfl, _, hDl, small1000 (by simp; omega), fun c o hc => ?_, ?_⟩⟩
        · rw [upd_ne (ne_of_none hc hD)]
          exact s10 _ _ hc
        · rw [upd_same, List.range_succ, List.map_append]
          have e1 : decide (V.int (0 + (j : Int)) = V.int (i : Int)) = decide (i = j) := by
            refine decide_eq_decide.mpr ⟨fun q => ?_, fun q => ?_⟩
            · injection q with q
              omega
            · subst q
              rw [Int.zero_add]
          show some (HO.lst (_ ++ [V.bl (decide (V.int (0 + (j : Int)) = V.int (i : Int)))])) = _
          rw [e1]
          rfl
      · rintro H10 ⟨s10, hDl⟩
        obtain ⟨q1, q2⟩ := flg_eqv i hi16
        refine ⟨flgD i, flgD i, flg_dp (s10 _ _ hp9), flg_dp hDl, q2, q2, _, rfl, ?_⟩
        rw [q1]
        refine iteF ?_
        have s11 := sT.trans (s9.trans s10)
        have E11 := E9.same (s9.trans s10)
        refine ⟨_, rfl, e i, Tb.cs i, _, .ref Tb.ck, true, rfl, .own _, E11, Tb.T i hi16, Tb.kk i hi16, _, rfl, ?_⟩
        refine iteF ?_
        refine ⟨_, rfl, e i, Tb.cs i, _, .type "ValueError", true, rfl, .ty _, E11, Tb.T i hi16, Tb.kv i hi16, _, rfl, ?_⟩
        refine iteF ?_
        exact ⟨⟨_, _, _, rfl⟩, B8.same s11, s11 _ _ hL8, hE8.same s11⟩
    · rintro σ H' ⟨⟨v5, v6, v7, rfl⟩, B, _, _⟩
      exact ⟨B, _, _, _, _, _, _, rfl⟩
end
theorem all_mk {l : PySem.W.OpenLaw} {w : World} {K : PySem.W.Frag} {h : Heap} {mg : Str → Option Value} {fa f1 f2 f3 f4 f5 f6 f7 f8 f100 f101 f102 f103 f104 f105 f106 f107 f108 f109 f110 cc0 cc1 cc2 cc3 cc4 cc5 cc6 cc7 cc8 cc9 cc10 cc11 cc12 cc13 cc14 cc15 ck : Addr} (X : K.In h) (G : h.Ns mainGlobals mg) (hfa : mg "law" = some (.ref fa))
    {od1 an1 od2 an2 od3 an3 od4 an4 od5 an5 od6 an6 od7 an7 od8 an8 od100 an100 od101 an101 od102 an102 od103 an103 od104 an104 od105 an105 od106 an106 od107 an107 od108 an108 od109 an109 od110 an110 : Option Addr} {sl1 sl2 sl3 sl4 sl5 sl6 sl7 sl8 sl100 sl101 sl102 sl103 sl104 sl105 sl106 sl107 sl108 sl109 sl110 : Array (Option Value)} {oc1 kV1 dc1 pm1 cd1 ct1 oc2 kV2 dc2 pm2 cd2 ct2 oc3 kV3 dc3 pm3 cd3 ct3 oc4 kV4 dc4 pm4 cd4 ct4 oc5 kV5 dc5 pm5 cd5 ct5 oc6 kV6 dc6 pm6 cd6 ct6 oc7 kV7 dc7 pm7 cd7 ct7 oc8 kV8 dc8 pm8 cd8 ct8 oc100 kV100 dc100 pm100 cd100 ct100 oc101 kV101 dc101 pm101 cd101 ct101 oc102 kV102 dc102 pm102 cd102 ct102 oc103 kV103 dc103 pm103 cd103 ct103 oc104 kV104 dc104 pm104 cd104 ct104 oc105 kV105 dc105 pm105 cd105 ct105 oc106 kV106 dc106 pm106 cd106 ct106 oc107 kV107 dc107 pm107 cd107 ct107 oc108 kV108 dc108 pm108 cd108 ct108 oc109 kV109 dc109 pm109 cd109 ct109 oc110 kV110 dc110 pm110 cd110 ct110 : Value}
    (a1 : PySem.W.nsIn K mainGlobals "_law_bag" = some (some (.ref f1))) (l1 : K.lookup f1 = some ⟨oc1, od1, .func (PySem.W.fnOf "_law_bag" "_law_bag" (defArgs sBag) (defBody sBag) (defScope sBag) .none kV1 dc1 pm1 an1 cd1 ct1), sl1⟩) (c1 : PySem.W.codeIn K cd1 "_law_bag" = true) (k1 : PySem.W.keepIn K (.ref f1) = true)
    (a2 : PySem.W.nsIn K mainGlobals "_law_take" = some (some (.ref f2))) (l2 : K.lookup f2 = some ⟨oc2, od2, .func (PySem.W.fnOf "_law_take" "_law_take" (defArgs sTake) (defBody sTake) (defScope sTake) .none kV2 dc2 pm2 an2 cd2 ct2), sl2⟩) (c2 : PySem.W.codeIn K cd2 "_law_take" = true) (k2 : PySem.W.keepIn K (.ref f2) = true)
    (a3 : PySem.W.nsIn K mainGlobals "_law_one" = some (some (.ref f3))) (l3 : K.lookup f3 = some ⟨oc3, od3, .func (PySem.W.fnOf "_law_one" "_law_one" (defArgs sOne) (defBody sOne) (defScope sOne) .none kV3 dc3 pm3 an3 cd3 ct3), sl3⟩) (c3 : PySem.W.codeIn K cd3 "_law_one" = true) (k3 : PySem.W.keepIn K (.ref f3) = true)
    (a4 : PySem.W.nsIn K mainGlobals "_law_value" = some (some (.ref f4))) (l4 : K.lookup f4 = some ⟨oc4, od4, .func (PySem.W.fnOf "_law_value" "_law_value" (defArgs sValue) (defBody sValue) (defScope sValue) .none kV4 dc4 pm4 an4 cd4 ct4), sl4⟩) (c4 : PySem.W.codeIn K cd4 "_law_value" = true) (k4 : PySem.W.keepIn K (.ref f4) = true)
    (a5 : PySem.W.nsIn K mainGlobals "_law_errors" = some (some (.ref f5))) (l5 : K.lookup f5 = some ⟨oc5, od5, .func (PySem.W.fnOf "_law_errors" "_law_errors" (defArgs sErrors) (defBody sErrors) (defScope sErrors) .none kV5 dc5 pm5 an5 cd5 ct5), sl5⟩) (c5 : PySem.W.codeIn K cd5 "_law_errors" = true) (k5 : PySem.W.keepIn K (.ref f5) = true)
    (a6 : PySem.W.nsIn K mainGlobals "_law_fields" = some (some (.ref f6))) (l6 : K.lookup f6 = some ⟨oc6, od6, .func (PySem.W.fnOf "_law_fields" "_law_fields" (defArgs sFields) (defBody sFields) (defScope sFields) .none kV6 dc6 pm6 an6 cd6 ct6), sl6⟩) (c6 : PySem.W.codeIn K cd6 "_law_fields" = true) (k6 : PySem.W.keepIn K (.ref f6) = true)
    (a7 : PySem.W.nsIn K mainGlobals "_law_flags" = some (some (.ref f7))) (l7 : K.lookup f7 = some ⟨oc7, od7, .func (PySem.W.fnOf "_law_flags" "_law_flags" (defArgs sFlags) (defBody sFlags) (defScope sFlags) .none kV7 dc7 pm7 an7 cd7 ct7), sl7⟩) (c7 : PySem.W.codeIn K cd7 "_law_flags" = true) (k7 : PySem.W.keepIn K (.ref f7) = true)
    (a8 : PySem.W.nsIn K mainGlobals "law" = some (some (.ref f8))) (l8 : K.lookup f8 = some ⟨oc8, od8, .func (PySem.W.fnOf "law" "law" (defArgs sLaw) (defBody sLaw) (defScope sLaw) .none kV8 dc8 pm8 an8 cd8 ct8), sl8⟩) (c8 : PySem.W.codeIn K cd8 "law" = true) (k8 : PySem.W.keepIn K (.ref f8) = true)
    (q0 : PySem.W.nsIn K mainGlobals "Wrong" = some (some (.ref cc0)))
    (q1 : PySem.W.nsIn K mainGlobals "Apart" = some (some (.ref cc1)))
    (q2 : PySem.W.nsIn K mainGlobals "TooMany" = some (some (.ref cc2)))
    (q3 : PySem.W.nsIn K mainGlobals "NoQuestion" = some (some (.ref cc3)))
    (q4 : PySem.W.nsIn K mainGlobals "NoNumber" = some (some (.ref cc4)))
    (q5 : PySem.W.nsIn K mainGlobals "Unserved" = some (some (.ref cc5)))
    (q6 : PySem.W.nsIn K mainGlobals "NoOrder" = some (some (.ref cc6)))
    (q7 : PySem.W.nsIn K mainGlobals "NoColumn" = some (some (.ref cc7)))
    (q8 : PySem.W.nsIn K mainGlobals "Full" = some (some (.ref cc8)))
    (q9 : PySem.W.nsIn K mainGlobals "Refused" = some (some (.ref cc9)))
    (q10 : PySem.W.nsIn K mainGlobals "NoEntry" = some (some (.ref cc10)))
    (q11 : PySem.W.nsIn K mainGlobals "Unfit" = some (some (.ref cc11)))
    (q12 : PySem.W.nsIn K mainGlobals "NoText" = some (some (.ref cc12)))
    (q13 : PySem.W.nsIn K mainGlobals "NoDeed" = some (some (.ref cc13)))
    (q14 : PySem.W.nsIn K mainGlobals "Nothing" = some (some (.ref cc14)))
    (q15 : PySem.W.nsIn K mainGlobals "NoCommand" = some (some (.ref cc15)))
    (qk : PySem.W.nsIn K mainGlobals "KeysError" = some (some (.ref ck)))
    (hcs : csB K [cc0, cc1, cc2, cc3, cc4, cc5, cc6, cc7, cc8, cc9, cc10, cc11, cc12, cc13, cc14, cc15] ck = true)
    (i0 : PySem.W.findIn K (.ref cc0) "__init__" = some (some (.ref f100))) (t0 : PySem.W.typeIn K (.ref f100) = some (.type "function")) (l100 : K.lookup f100 = some ⟨oc100, od100, .func (PySem.W.fnOf "__init__" "Wrong.__init__" (defArgs sI0) (defBody sI0) (defScope sI0) .none kV100 dc100 pm100 an100 cd100 ct100), sl100⟩) (c100 : PySem.W.codeIn K cd100 "Wrong.__init__" = true) (k100 : PySem.W.keepIn K (.ref f100) = true)
    (i1 : PySem.W.findIn K (.ref cc1) "__init__" = some (some (.ref f101))) (t1 : PySem.W.typeIn K (.ref f101) = some (.type "function")) (l101 : K.lookup f101 = some ⟨oc101, od101, .func (PySem.W.fnOf "__init__" "Apart.__init__" (defArgs sI1) (defBody sI1) (defScope sI1) .none kV101 dc101 pm101 an101 cd101 ct101), sl101⟩) (c101 : PySem.W.codeIn K cd101 "Apart.__init__" = true) (k101 : PySem.W.keepIn K (.ref f101) = true)
    (i2 : PySem.W.findIn K (.ref cc2) "__init__" = some (some (.ref f102))) (t2 : PySem.W.typeIn K (.ref f102) = some (.type "function")) (l102 : K.lookup f102 = some ⟨oc102, od102, .func (PySem.W.fnOf "__init__" "TooMany.__init__" (defArgs sI2) (defBody sI2) (defScope sI2) .none kV102 dc102 pm102 an102 cd102 ct102), sl102⟩) (c102 : PySem.W.codeIn K cd102 "TooMany.__init__" = true) (k102 : PySem.W.keepIn K (.ref f102) = true)
    (i3 : PySem.W.findIn K (.ref cc3) "__init__" = some (some (.ref f103))) (t3 : PySem.W.typeIn K (.ref f103) = some (.type "function")) (l103 : K.lookup f103 = some ⟨oc103, od103, .func (PySem.W.fnOf "__init__" "NoQuestion.__init__" (defArgs sI3) (defBody sI3) (defScope sI3) .none kV103 dc103 pm103 an103 cd103 ct103), sl103⟩) (c103 : PySem.W.codeIn K cd103 "NoQuestion.__init__" = true) (k103 : PySem.W.keepIn K (.ref f103) = true)
    (i4 : PySem.W.findIn K (.ref cc4) "__init__" = some (some (.ref f104))) (t4 : PySem.W.typeIn K (.ref f104) = some (.type "function")) (l104 : K.lookup f104 = some ⟨oc104, od104, .func (PySem.W.fnOf "__init__" "NoNumber.__init__" (defArgs sI4) (defBody sI4) (defScope sI4) .none kV104 dc104 pm104 an104 cd104 ct104), sl104⟩) (c104 : PySem.W.codeIn K cd104 "NoNumber.__init__" = true) (k104 : PySem.W.keepIn K (.ref f104) = true)
    (i5 : PySem.W.findIn K (.ref cc5) "__init__" = some (some (.ref f105))) (t5 : PySem.W.typeIn K (.ref f105) = some (.type "function")) (l105 : K.lookup f105 = some ⟨oc105, od105, .func (PySem.W.fnOf "__init__" "Unserved.__init__" (defArgs sI5) (defBody sI5) (defScope sI5) .none kV105 dc105 pm105 an105 cd105 ct105), sl105⟩) (c105 : PySem.W.codeIn K cd105 "Unserved.__init__" = true) (k105 : PySem.W.keepIn K (.ref f105) = true)
    (i6 : PySem.W.findIn K (.ref cc6) "__init__" = some (some (.ref f106))) (t6 : PySem.W.typeIn K (.ref f106) = some (.type "function")) (l106 : K.lookup f106 = some ⟨oc106, od106, .func (PySem.W.fnOf "__init__" "NoOrder.__init__" (defArgs sI6) (defBody sI6) (defScope sI6) .none kV106 dc106 pm106 an106 cd106 ct106), sl106⟩) (c106 : PySem.W.codeIn K cd106 "NoOrder.__init__" = true) (k106 : PySem.W.keepIn K (.ref f106) = true)
    (i7 : PySem.W.findIn K (.ref cc7) "__init__" = some (some (.ref f107))) (t7 : PySem.W.typeIn K (.ref f107) = some (.type "function")) (l107 : K.lookup f107 = some ⟨oc107, od107, .func (PySem.W.fnOf "__init__" "NoColumn.__init__" (defArgs sI7) (defBody sI7) (defScope sI7) .none kV107 dc107 pm107 an107 cd107 ct107), sl107⟩) (c107 : PySem.W.codeIn K cd107 "NoColumn.__init__" = true) (k107 : PySem.W.keepIn K (.ref f107) = true)
    (i8 : PySem.W.findIn K (.ref cc8) "__init__" = some (some (.ref f108))) (t8 : PySem.W.typeIn K (.ref f108) = some (.type "function")) (l108 : K.lookup f108 = some ⟨oc108, od108, .func (PySem.W.fnOf "__init__" "Full.__init__" (defArgs sI8) (defBody sI8) (defScope sI8) .none kV108 dc108 pm108 an108 cd108 ct108), sl108⟩) (c108 : PySem.W.codeIn K cd108 "Full.__init__" = true) (k108 : PySem.W.keepIn K (.ref f108) = true)
    (i9 : PySem.W.findIn K (.ref cc9) "__init__" = some (some (.ref f109))) (t9 : PySem.W.typeIn K (.ref f109) = some (.type "function")) (l109 : K.lookup f109 = some ⟨oc109, od109, .func (PySem.W.fnOf "__init__" "Refused.__init__" (defArgs sI9) (defBody sI9) (defScope sI9) .none kV109 dc109 pm109 an109 cd109 ct109), sl109⟩) (c109 : PySem.W.codeIn K cd109 "Refused.__init__" = true) (k109 : PySem.W.keepIn K (.ref f109) = true)
    (i10 : PySem.W.findIn K (.ref cc10) "__init__" = some (some (.ref f110))) (t10 : PySem.W.typeIn K (.ref f110) = some (.type "function")) (l110 : K.lookup f110 = some ⟨oc110, od110, .func (PySem.W.fnOf "__init__" "NoEntry.__init__" (defArgs sI10) (defBody sI10) (defScope sI10) .none kV110 dc110 pm110 an110 cd110 ct110), sl110⟩) (c110 : PySem.W.codeIn K cd110 "NoEntry.__init__" = true) (k110 : PySem.W.keepIn K (.ref f110) = true)
    (zlen : PySem.W.nsIn K mainGlobals "len" = some none) (zint : PySem.W.nsIn K mainGlobals "int" = some none) (zabs : PySem.W.nsIn K mainGlobals "abs" = some none) (zisinstance : PySem.W.nsIn K mainGlobals "isinstance" = some none) (zlist : PySem.W.nsIn K mainGlobals "list" = some none) (zdict : PySem.W.nsIn K mainGlobals "dict" = some none) (zrepr : PySem.W.nsIn K mainGlobals "repr" = some none) (zrange : PySem.W.nsIn K mainGlobals "range" = some none) (zenumerate : PySem.W.nsIn K mainGlobals "enumerate" = some none) (zValueError : PySem.W.nsIn K mainGlobals "ValueError" = some none) :
    ∃ fd : FuncData, (∀ (s : Shared) (v : Value), BindsTo s fd ⟨[v], []⟩ [("_law_script", v)]) ∧ ∀ base : Heap, K.In base → base.Ns mainGlobals mg → FnG l.prog w K mg base 4 fa fd ["_law_script"] (spLaw K) := by
  have e := hfa.symm.trans (PySem.W.mg_of X G a8)
  cases e
  have T : Txt K mg := ⟨PySem.W.mg_none_of X G zlen, PySem.W.mg_none_of X G zint, PySem.W.mg_none_of X G zabs, PySem.W.mg_none_of X G zisinstance, PySem.W.mg_none_of X G zlist, PySem.W.mg_none_of X G zdict, PySem.W.mg_none_of X G zrepr, PySem.W.mg_none_of X G zrange, PySem.W.mg_none_of X G zenumerate, PySem.W.mg_none_of X G zValueError⟩
  let Tb : Tab K mg := tab_of hcs (fun i hi => match i, hi with
    | 0, _ => PySem.W.mg_of X G q0
    | 1, _ => PySem.W.mg_of X G q1
    | 2, _ => PySem.W.mg_of X G q2
    | 3, _ => PySem.W.mg_of X G q3
    | 4, _ => PySem.W.mg_of X G q4
    | 5, _ => PySem.W.mg_of X G q5
    | 6, _ => PySem.W.mg_of X G q6
    | 7, _ => PySem.W.mg_of X G q7
    | 8, _ => PySem.W.mg_of X G q8
    | 9, _ => PySem.W.mg_of X G q9
    | 10, _ => PySem.W.mg_of X G q10
    | 11, _ => PySem.W.mg_of X G q11
    | 12, _ => PySem.W.mg_of X G q12
    | 13, _ => PySem.W.mg_of X G q13
    | 14, _ => PySem.W.mg_of X G q14
    | 15, _ => PySem.W.mg_of X G q15
    | n + 16, h => absurd h (by omega)) (PySem.W.mg_of X G qk)
  have F1 := fun_mk (st := sBag) l1 c1 k1
  have b1 := F1.binds (ps := ["_law_script"]) fun _ _ _ _ _ _ us hl => match us, hl with | [_], _ => rfl
  have F2 := fun_mk (st := sTake) l2 c2 k2
  have b2 := F2.binds (ps := ["_law_bag_here", "_law_many"]) fun _ _ _ _ _ _ us hl => match us, hl with | [_, _], _ => rfl
  have F3 := fun_mk (st := sOne) l3 c3 k3
  have b3 := F3.binds (ps := ["_law_bag_here", "_law_some"]) fun _ _ _ _ _ _ us hl => match us, hl with | [_, _], _ => rfl
  have F4 := fun_mk (st := sValue) l4 c4 k4
  have b4 := F4.binds (ps := ["_law_bag_here"]) fun _ _ _ _ _ _ us hl => match us, hl with | [_], _ => rfl
  have F5 := fun_mk (st := sErrors) l5 c5 k5
  have b5 := F5.binds (ps := ["_law_x"]) fun _ _ _ _ _ _ us hl => match us, hl with | [_], _ => rfl
  have F6 := fun_mk (st := sFields) l6 c6 k6
  have b6 := F6.binds (ps := ["_law_some"]) fun _ _ _ _ _ _ us hl => match us, hl with | [_], _ => rfl
  have F7 := fun_mk (st := sFlags) l7 c7 k7
  have b7 := F7.binds (ps := ["_law_e"]) fun _ _ _ _ _ _ us hl => match us, hl with | [_], _ => rfl
  have F8 := fun_mk (st := sLaw) l8 c8 k8
  have b8 := F8.binds (ps := ["_law_script"]) fun _ _ _ _ _ _ us hl => match us, hl with | [_], _ => rfl
  have F100 := fun_mk (st := sI0) l100 c100 k100
  have b100 := F100.binds (ps := ["self", "place"]) fun _ _ _ _ _ _ us hl => match us, hl with | [_, _], _ => rfl
  have F101 := fun_mk (st := sI1) l101 c101 k101
  have b101 := F101.binds (ps := ["self", "pair"]) fun _ _ _ _ _ _ us hl => match us, hl with | [_, _], _ => rfl
  have F102 := fun_mk (st := sI2) l102 c102 k102
  have b102 := F102.binds (ps := ["self", "limit"]) fun _ _ _ _ _ _ us hl => match us, hl with | [_, _], _ => rfl
  have F103 := fun_mk (st := sI3) l103 c103 k103
  have b103 := F103.binds (ps := ["self", "question"]) fun _ _ _ _ _ _ us hl => match us, hl with | [_, _], _ => rfl
  have F104 := fun_mk (st := sI4) l104 c104 k104
  have b104 := F104.binds (ps := ["self", "number"]) fun _ _ _ _ _ _ us hl => match us, hl with | [_, _], _ => rfl
  have F105 := fun_mk (st := sI5) l105 c105 k105
  have b105 := F105.binds (ps := ["self", "question"]) fun _ _ _ _ _ _ us hl => match us, hl with | [_, _], _ => rfl
  have F106 := fun_mk (st := sI6) l106 c106 k106
  have b106 := F106.binds (ps := ["self", "pair"]) fun _ _ _ _ _ _ us hl => match us, hl with | [_, _], _ => rfl
  have F107 := fun_mk (st := sI7) l107 c107 k107
  have b107 := F107.binds (ps := ["self", "column"]) fun _ _ _ _ _ _ us hl => match us, hl with | [_, _], _ => rfl
  have F108 := fun_mk (st := sI8) l108 c108 k108
  have b108 := F108.binds (ps := ["self", "limit"]) fun _ _ _ _ _ _ us hl => match us, hl with | [_, _], _ => rfl
  have F109 := fun_mk (st := sI9) l109 c109 k109
  have b109 := F109.binds (ps := ["self", "deed"]) fun _ _ _ _ _ _ us hl => match us, hl with | [_, _], _ => rfl
  have F110 := fun_mk (st := sI10) l110 c110 k110
  have b110 := F110.binds (ps := ["self", "many"]) fun _ _ _ _ _ _ us hl => match us, hl with | [_, _], _ => rfl
  refine ⟨PySem.W.fnOf "law" "law" (defArgs sLaw) (defBody sLaw) (defScope sLaw) .none kV8 dc8 pm8 an8 cd8 ct8, fun s v => .of_eq rfl, fun base _ _ => ?_⟩
  let I : ∀ i, i < 11 → ICls l.prog w K mg base (Tb.cs i) (fdE i) := fun i hi => match i, hi with
    | 0, _ => ⟨f100, _, i0, t0, ok_init0 F100, b100⟩
    | 1, _ => ⟨f101, _, i1, t1, ok_init1 F101, b101⟩
    | 2, _ => ⟨f102, _, i2, t2, ok_init2 F102, b102⟩
    | 3, _ => ⟨f103, _, i3, t3, ok_init3 F103, b103⟩
    | 4, _ => ⟨f104, _, i4, t4, ok_init4 F104, b104⟩
    | 5, _ => ⟨f105, _, i5, t5, ok_init5 F105, b105⟩
    | 6, _ => ⟨f106, _, i6, t6, ok_init6 F106, b106⟩
    | 7, _ => ⟨f107, _, i7, t7, ok_init7 F107, b107⟩
    | 8, _ => ⟨f108, _, i8, t8, ok_init8 F108, b108⟩
    | 9, _ => ⟨f109, _, i9, t9, ok_init9 F109, b109⟩
    | 10, _ => ⟨f110, _, i10, t10, ok_init10 F110, b110⟩
    | n + 11, h => absurd h (by omega)
  let c_1 : Cal l.prog w K mg base 1 "_law_bag" ["_law_script"] (spBag K) := ⟨_, _, ok_bag F1 T, PySem.W.mg_of X G a1, k1, b1⟩
  let c_2 : Cal l.prog w K mg base 1 "_law_take" ["_law_bag_here", "_law_many"] (spTake) := ⟨_, _, ok_take F2 T, PySem.W.mg_of X G a2, k2, b2⟩
  let c_3 : Cal l.prog w K mg base 2 "_law_one" ["_law_bag_here", "_law_some"] (spOne) := ⟨_, _, ok_one F3 T c_2, PySem.W.mg_of X G a3, k3, b3⟩
  let c_4 : Cal l.prog w K mg base 3 "_law_value" ["_law_bag_here"] (spValue K) := ⟨_, _, ok_value F4 T c_3, PySem.W.mg_of X G a4, k4, b4⟩
  let c_5 : Cal l.prog w K mg base 3 "_law_errors" ["_law_x"] (spErrors Tb) := ⟨_, _, ok_errors F5 Tb I, PySem.W.mg_of X G a5, k5, b5⟩
  let c_6 : Cal l.prog w K mg base 1 "_law_fields" ["_law_some"] (spFields Tb) := ⟨_, _, ok_fields F6 Tb, PySem.W.mg_of X G a6, k6, b6⟩
  let c_7 : Cal l.prog w K mg base 1 "_law_flags" ["_law_e"] (spFlags Tb) := ⟨_, _, ok_flags F7 T Tb, PySem.W.mg_of X G a7, k7, b7⟩
  exact ok_law F8 T Tb c_1 c_4 c_5 c_6 c_7
theorem walk {l : PySem.W.OpenLaw} {q : Program} {loose : List Str} {XP : (Str → Option Value) → Heap → Prop} {YP : World → Heap → Prop} {d : DefRec} {K : Params → PySem.W.Frag} (hn : l.most = some 63) (hdf : d.params.defaults = [])
    (hY : ∀ (w : World) (h : Heap), YP w h → (K w.params).In h)
    (F : ∀ (w : World) (mg : Str → Option Value) (fa : Addr) (h : Heap), (K w.params).In h → h.Ns mainGlobals mg → mg d.name = some (.ref fa) →
      ∃ fd : FuncData, (∀ (s : Shared) (u : Value), BindsTo s fd ⟨[u], []⟩ [("_law_script", u)]) ∧ ∀ base : Heap, (K w.params).In base → base.Ns mainGlobals mg → FnG l.prog w (K w.params) mg base 4 fa fd ["_law_script"] (spLaw (K w.params))) :
    PySem.W.WalkO q loose XP YP l.row.toRowW d [] (fun f vs => PySem.call f vs) :=
  walk_g (n := 63) (k := 4) (x := "_law_script") (sp := fun w => spLaw (K w.params)) hn (by decide) hdf ⟨rfl, by decide, by decide⟩ hY F (fun _ _ a ns hl _ hS => ⟨a, ns, rfl, hS, hl, fun _ => rfl⟩)
end Qk
open PySem PySem.W PyProof.Rows
set_option maxRecDepth 100000 in
set_option maxHeartbeats 0 in
theorem PySem.Challenge.cw_narrowkeys_k10_errors_apart_holds : PySem.Challenge.rw_narrowkeys_k10_errors_apart.Holds := by
  w_on; o_law; k_head; (case hw => w_witness2)
  k_fill
  refine Qk.walk (l := PySem.Challenge.rw_narrowkeys_k10_errors_apart) rfl rfl (fun w h Y => PySem.W.kIn_of Y) ?F
  case F =>
    intro w mg fa h KX G hmg
    refine' Qk.all_mk KX G hmg ?a1 ?l1 ?c1 ?k1 ?a2 ?l2 ?c2 ?k2 ?a3 ?l3 ?c3 ?k3 ?a4 ?l4 ?c4 ?k4 ?a5 ?l5 ?c5 ?k5 ?a6 ?l6 ?c6 ?k6 ?a7 ?l7 ?c7 ?k7 ?a8 ?l8 ?c8 ?k8 ?q0 ?q1 ?q2 ?q3 ?q4 ?q5 ?q6 ?q7 ?q8 ?q9 ?q10 ?q11 ?q12 ?q13 ?q14 ?q15 ?qk ?hcs ?i0 ?t0 ?l100 ?c100 ?k100 ?i1 ?t1 ?l101 ?c101 ?k101 ?i2 ?t2 ?l102 ?c102 ?k102 ?i3 ?t3 ?l103 ?c103 ?k103 ?i4 ?t4 ?l104 ?c104 ?k104 ?i5 ?t5 ?l105 ?c105 ?k105 ?i6 ?t6 ?l106 ?c106 ?k106 ?i7 ?t7 ?l107 ?c107 ?k107 ?i8 ?t8 ?l108 ?c108 ?k108 ?i9 ?t9 ?l109 ?c109 ?k109 ?i10 ?t10 ?l110 ?c110 ?k110 ?zlen ?zint ?zabs ?zisinstance ?zlist ?zdict ?zrepr ?zrange ?zenumerate ?zValueError
    (case a1 => k_is)
    (case l1 => k_is)
    (case c1 => k_is)
    (case k1 => k_is)
    (case a2 => k_is)
    (case l2 => k_is)
    (case c2 => k_is)
    (case k2 => k_is)
    (case a3 => k_is)
    (case l3 => k_is)
    (case c3 => k_is)
    (case k3 => k_is)
    (case a4 => k_is)
    (case l4 => k_is)
    (case c4 => k_is)
    (case k4 => k_is)
    (case a5 => k_is)
    (case l5 => k_is)
    (case c5 => k_is)
    (case k5 => k_is)
    (case a6 => k_is)
    (case l6 => k_is)
    (case c6 => k_is)
    (case k6 => k_is)
    (case a7 => k_is)
    (case l7 => k_is)
    (case c7 => k_is)
    (case k7 => k_is)
    (case a8 => k_is)
    (case l8 => k_is)
    (case c8 => k_is)
    (case k8 => k_is)
    (case q0 => k_is)
    (case q1 => k_is)
    (case q2 => k_is)
    (case q3 => k_is)
    (case q4 => k_is)
    (case q5 => k_is)
    (case q6 => k_is)
    (case q7 => k_is)
    (case q8 => k_is)
    (case q9 => k_is)
    (case q10 => k_is)
    (case q11 => k_is)
    (case q12 => k_is)
    (case q13 => k_is)
    (case q14 => k_is)
    (case q15 => k_is)
    (case qk => k_is)
    (case hcs => first | k_is | rfl)
    (case i0 => k_is)
    (case t0 => k_is)
    (case l100 => k_is)
    (case c100 => k_is)
    (case k100 => k_is)
    (case i1 => k_is)
    (case t1 => k_is)
    (case l101 => k_is)
    (case c101 => k_is)
    (case k101 => k_is)
    (case i2 => k_is)
    (case t2 => k_is)
    (case l102 => k_is)
    (case c102 => k_is)
    (case k102 => k_is)
    (case i3 => k_is)
    (case t3 => k_is)
    (case l103 => k_is)
    (case c103 => k_is)
    (case k103 => k_is)
    (case i4 => k_is)
    (case t4 => k_is)
    (case l104 => k_is)
    (case c104 => k_is)
    (case k104 => k_is)
    (case i5 => k_is)
    (case t5 => k_is)
    (case l105 => k_is)
    (case c105 => k_is)
    (case k105 => k_is)
    (case i6 => k_is)
    (case t6 => k_is)
    (case l106 => k_is)
    (case c106 => k_is)
    (case k106 => k_is)
    (case i7 => k_is)
    (case t7 => k_is)
    (case l107 => k_is)
    (case c107 => k_is)
    (case k107 => k_is)
    (case i8 => k_is)
    (case t8 => k_is)
    (case l108 => k_is)
    (case c108 => k_is)
    (case k108 => k_is)
    (case i9 => k_is)
    (case t9 => k_is)
    (case l109 => k_is)
    (case c109 => k_is)
    (case k109 => k_is)
    (case i10 => k_is)
    (case t10 => k_is)
    (case l110 => k_is)
    (case c110 => k_is)
    (case k110 => k_is)
    (case zlen => k_is)
    (case zint => k_is)
    (case zabs => k_is)
    (case zisinstance => k_is)
    (case zlist => k_is)
    (case zdict => k_is)
    (case zrepr => k_is)
    (case zrange => k_is)
    (case zenumerate => k_is)
    (case zValueError => k_is)
#print axioms PySem.Challenge.cw_narrowkeys_k10_errors_apart_holds
