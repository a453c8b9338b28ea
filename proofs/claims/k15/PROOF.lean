import PyProof.Rows.All
import Wide.All
import OpenK.AllK
import Wide.FinOn
import HandS.ForMost
import HandS.More
import HandS.TupAny
import HandS.Star
import HandS.Evl
import PyProof.Rows.StrMeet
import HandS.Walk
import PyProof.StrLawsRepr
import HandS.SortRule
import HandS.Deep
import KE.GoesEnum
import KE.GoesMore
import PySem.Challenge.RW_narrowkeys_k15_serving_and_faults
set_option Elab.async false
set_option linter.all false
set_option maxRecDepth 100000
set_option maxHeartbeats 4000000
namespace Qk
open PySem PySem.Spec PyProof.Rows L2

/-! rules of my own: a list's item read for an augmented store, repr of flat values, sorted of a list or a tuple of texts -/
section
variable {X : Cx}

theorem get_list : PGet X (fun o i H Q => ∃ p xs j v, o = .ref p ∧ i = .int ((j : Nat) : Int) ∧ SqL X.K H p xs ∧ xs[j]? = some v ∧ Q v H) := by
  intro pins s σ H o i ov iv Q I ro ri h
  obtain ⟨p, xs, j, v, rfl, rfl, hx, ha, q⟩ := h
  cases ro
  obtain ⟨t, rfl⟩ := ri
  obtain ⟨its, r, pl, hz⟩ := I.list hx
  obtain ⟨w, ew, rw'⟩ := r.get ha
  have hj : j < xs.length := (List.getElem?_eq_some_iff.mp ha).1
  have hn := line63
  exact wpAny_getItem_list pl.isList (by omega) (by omega) (by simpa using ew) ⟨v, H, I, rw', q⟩

/-- flat values, as repr shows them -/
def flatText : V → Option Str
  | .non => some "None"
  | .bl b => some (if b then "True" else "False")
  | .int i => if i.natAbs.log2 < 1920 then some (toString i) else none
  | _ => none
def rReprF : List V → Hp → VK → Prop := fun vs H Q => ∃ x t, vs = [x] ∧ flatText x = some t ∧ Q (.str t) H
theorem call_reprF : CallR X (.builtin "repr") rReprF := by
  intro pins s σ H xs us Q I r h
  obtain ⟨x, t, rfl, e, q⟩ := h
  obtain ⟨u, rfl, rx⟩ := vals1 r
  cases x with
  | non =>
    cases rx
    obtain rfl := Option.some.inj e
    exact PySem.P.repr_of_none ⟨.str _, H, I.tok _, ⟨_, rfl⟩, q⟩
  | bl b =>
    cases rx
    obtain rfl := Option.some.inj e
    exact PySem.P.repr_of_bool ⟨.str _, H, I.tok _, ⟨_, rfl⟩, q⟩
  | int i =>
    obtain ⟨tk, rfl⟩ := rx
    replace e : (if i.natAbs.log2 < 1920 then some (Str.ofString (toString i)) else none) = some t := e
    by_cases hz : i.natAbs.log2 < 1920
    · rw [if_pos hz] at e
      obtain rfl := Option.some.inj e
      exact PySem.P.repr_of_int hz ⟨.str _, H, I.tok _, ⟨_, rfl⟩, q⟩
    · rw [if_neg hz] at e
      cases e
  | str _ => cases e
  | byt _ => cases e
  | flt _ => cases e
  | ref _ => cases e
  | ty _ => cases e

def rSortedST (K : PySem.W.Frag) : List V → Hp → VK → Prop := fun vs H Q => ∃ (a : Addr) (ss : List Str), vs = [V.ref a] ∧ (SqL K H a (ss.map V.str) ∨ SqT K H a (ss.map V.str)) ∧ ss.length < 64 ∧
  ∀ (ys : List Str) (p : Addr), ys.Perm ss → sortedS ys = true → H p = none → Q (.ref p) (upd H p (.lst (ys.map V.str)))
theorem cr_sortedST : CallR X (.builtin "sorted") (rSortedST X.K) := by
  intro pins s σ H vs us Q I r h
  obtain ⟨a, ss, rfl, hs, h64, q⟩ := h
  rcases hs with hs | hs
  · exact cr_sortedS pins s σ H _ us Q I r ⟨a, ss, rfl, hs, h64, q⟩
  · obtain ⟨its, rv, ⟨o, ho, hc, n, hd⟩, hz⟩ := I.tuple hs
    rw [Vals.ref1 r]
    have hS : StrsAre its ss := rv.strs
    have hl : its.length = ss.length := by
      have z := rv.length
      rw [List.length_map] at z
      exact z.symm
    refine Calls.call_function_entry PyProof.Rows.kind_sorted PyProof.Rows.plain_sorted PyProof.Rows.entry_sorted (PyProof.Rows.args_sorted1 _) ?_
    unfold Builtin.«sorted»
    refine wpAny_bind (m := checkCount "sorted" 1 1 _) (wpAny_pure ?_)
    refine wpAny_bind (wpAny_collect_seq a (.inr rfl) ho hc hd (fun h' hk => ?_) (by rw [List.size_toArray, hl, sizeLine_eq]; omega))
    have e0 : its.toArray.toList = its := by simp
    rw [e0]
    have I1 : Inv X pins σ H { s with heap := h' } := I.kept (t' := s.toks) hk
    refine wpAny_bind (wpAny_newList ?_ (by rw [hl, sizeLine_eq]; omega))
    have hoL : (h'.push (seqObj "list" its.toArray 0)).get? h'.objs.size = some (seqObj "list" its.toArray 0) := Heap.get?_push_size _ rfl
    show wpAny _ _ _ _ _ { s with heap := h'.push (seqObj "list" its.toArray 0) }
    refine wpAny_bind (wpAny_holding (wpAny_call_entry PyProof.Rows.slot_list_sort ⟨_, hoL, rfl⟩ PyProof.Rows.entry_list_sort
      (list_sort_treeK strKind_oneLt (s := { s with heap := h'.push (seqObj "list" its.toArray 0) }) hoL hS.keysOf (fun v₁ v₂ rest e => keyKind_strs (by rw [← e]; exact hS)) (by rw [hl]; exact h64) fun st' hp hs => ⟨_, rfl, ?_⟩)
      (PyProof.Rows.args_list_sort _)))
    obtain ⟨ys, g1, g2, g3⟩ := sorted_out_str hS hp hs
    obtain ⟨ep, he'⟩ := PyProof.Rows.sortedHeap_at (vs := its) (out := (arrOf st').map (·.2)) hoL
    have hlen : (ys.map V.str).length ≤ sizeLine := by
      rw [List.length_map, g2.length_eq]
      exact Nat.le_trans (Nat.le_of_lt h64) (by decide)
    have hfresh : H h'.objs.size = none := I1.hok.fresh (Nat.le_refl _)
    refine wpAny_pure ⟨_, rfl, .ref h'.objs.size, upd H h'.objs.size (.lst (ys.map V.str)), I1.laid (t' := s.toks) (fun b u hu => ?_) (Nat.le_refl _)
      (show ObjOk X.prog X.w _ _ h'.objs.size (.lst (ys.map V.str)) from ⟨hlen, ((arrOf st').map (·.2)).toList, ep, vals_of_strs g1, by rw [Array.toArray_toList]; exact he'⟩), rfl, q ys _ g2 g3 hfresh⟩
    have hb : b ≠ h'.objs.size := Nat.ne_of_lt (Heap.lt_size hu)
    have hu2 : (h'.push (seqObj "list" its.toArray 0)).get? b = some u := Heap.get?_push_of_some _ hu
    rw [PyProof.Rows.sortedHeap_old hb (Heap.lt_size hu2)]
    exact hu2
end
end Qk

set_option maxRecDepth 100000
set_option maxHeartbeats 4000000
namespace Qk
open PySem PySem.Spec PyProof.Rows L2

/-! the law's bag of draws: what is known of it, and what a draw may touch -/
def Bag (H : Hp) (b l : Addr) : Prop := ∃ (h m : Int) (p : Nat) (ns : List Int), H b = some (.lst [.int h, .int m, .int (p : Int), .ref l]) ∧ H l = some (.lst (ns.map V.int)) ∧ l ≠ b ∧
  0 ≤ h ∧ 0 ≤ m ∧ m < 2147483647 ∧ ∀ n ∈ ns, 0 ≤ n
/-- all but b is kept -/
def Kp (b : Addr) (H H' : Hp) : Prop := ∀ c o, H c = some o → c ≠ b → H' c = some o
theorem Kp.refl (b : Addr) (H : Hp) : Kp b H H := fun _ _ e _ => e
theorem Kp.trans {b : Addr} {H H1 H2 : Hp} (x : Kp b H H1) (y : Kp b H1 H2) : Kp b H H2 := fun c o e n => y c o (x c o e n) n
theorem Kp.of {b : Addr} {H H' : Hp} (s : Same H H') : Kp b H H' := fun c o e _ => s c o e
theorem Kp.at_ (b : Addr) (H : Hp) (o : HO) : Kp b H (upd H b o) := fun c u e n => by rw [upd_ne n]; exact e
theorem Kp.new {b p : Addr} {H : Hp} {o : HO} (hp : H p = none) : Kp b H (L2.upd H p o) := fun c u e _ => by rw [upd_ne (ne_of_none e hp)]; exact e
theorem Bag.at_ {H : Hp} {b l : Addr} (B : Bag H b l) : ∃ o, H b = some o := by
  obtain ⟨h, m, p, ns, hb, _⟩ := B
  exact ⟨_, hb⟩
theorem Bag.same {H H' : Hp} {b l : Addr} (s : Same H H') (B : Bag H b l) : Bag H' b l := by
  obtain ⟨h, m, p, ns, hb, hl, r⟩ := B
  exact ⟨h, m, p, ns, s _ _ hb, s _ _ hl, r⟩
theorem same_new {H : Hp} {p : Addr} {o : HO} (h : H p = none) : Same H (upd H p o) := fun b x e => by
  rw [upd_ne (ne_of_none e h)]
  exact e
theorem Bag.new {H : Hp} {b l p : Addr} {o : HO} (B : Bag H b l) (h : H p = none) : Bag (upd H p o) b l := B.same (same_new h)
theorem Bag.ne {H : Hp} {b l p : Addr} (B : Bag H b l) (h : H p = none) : p ≠ b := by
  obtain ⟨o, e⟩ := B.at_
  exact (ne_of_none e h).symm
/-- the bag stands nowhere where something of another kind stands -/
theorem Bag.ne_tup {H : Hp} {b l p : Addr} {xs : List V} (B : Bag H b l) (h : H p = some (.tup xs)) : p ≠ b := by
  obtain ⟨h', m, q, ns, hb, _⟩ := B
  exact ne_of h hb (by intro z; cases z)
theorem Bag.ne_strs {H : Hp} {b l p : Addr} {xs : List Str} (B : Bag H b l) (h : H p = some (.lst (xs.map V.str))) : p ≠ b := by
  obtain ⟨h', m, q, ns, hb, _⟩ := B
  refine ne_of h hb fun z => ?_
  injection z with z
  cases xs with
  | nil => cases z
  | cons x xs =>
    rw [List.map_cons] at z
    injection z with z _
    cases z
/-- what stands beside the bag and its list may change -/
theorem Bag.off {H H' : Hp} {b l p : Addr} (B : Bag H b l) (h : ∀ c o, H c = some o → c ≠ p → H' c = some o) (nb : b ≠ p) (nl : l ≠ p) : Bag H' b l := by
  obtain ⟨h', m, q, ns, hb, hl, r⟩ := B
  exact ⟨h', m, q, ns, h _ _ hb nb, h _ _ hl nl, r⟩
theorem Bag.list {H : Hp} {b l : Addr} (B : Bag H b l) : ∃ o, H l = some o := by
  obtain ⟨h, m, p, ns, hb, hl, _⟩ := B
  exact ⟨_, hl⟩
theorem Bag.nel {H : Hp} {b l p : Addr} (B : Bag H b l) (h : H p = none) : l ≠ p := by
  obtain ⟨o, e⟩ := B.list
  exact ne_of_none e h
theorem Bag.upd {H : Hp} {b l p : Addr} {o : HO} (B : Bag H b l) (nb : b ≠ p) (nl : l ≠ p) : Bag (L2.upd H p o) b l :=
  B.off (fun c u e n => by rw [upd_ne n]; exact e) nb nl
theorem rIx {K : PySem.W.Frag} {H : Hp} {b : Addr} {xs : List V} {v : V} {Q : VK} (j : Nat) (h : H b = some (.lst xs)) (e : xs[j]? = some v) (q : Q v H) : rIxL K (.ref b) (.int (j : Int)) H Q :=
  ⟨b, xs, (j : Int), v, rfl, rfl, SqL.of h, atI_nat e, q⟩
theorem setIx {H : Hp} {b : Addr} {xs : List V} {v : V} {Q : Hp → Prop} (j : Nat) (h : H b = some (.lst xs)) (e : j < xs.length) (q : Q (upd H b (.lst (xs.set j v)))) : rSetL (.ref b) (.int (j : Int)) v H Q :=
  ⟨b, xs, (j : Int), j, rfl, rfl, h, Evl.ixN_nat e, q⟩

/-! promises of the law's own helpers -/
/-- a draw: a number below many, the bag moves on -/
def spTake : Sp := fun vs H Q _ => ∃ (b l : Addr) (n : Int), vs = [.ref b, .int n] ∧ Bag H b l ∧ 0 < n ∧ n < 1000000 ∧ ∀ (k : Nat) (H' : Hp), (k : Int) < n → Bag H' b l → Kp b H H' → Q (.int (k : Int)) H'
/-- one of a list -/
def spOne : Sp := fun vs H Q _ => ∃ (b l a : Addr) (xs : List V), vs = [.ref b, .ref a] ∧ Bag H b l ∧ a ≠ b ∧ H a = some (.lst xs) ∧ xs ≠ [] ∧ xs.length < 1000 ∧ ∀ (x : V) (H' : Hp), x ∈ xs → Bag H' b l → Kp b H H' → Q x H'
/-- a new list of the same things in some order -/
def spMixed : Sp := fun vs H Q _ => ∃ (b l a : Addr) (xs : List V), vs = [.ref b, .ref a] ∧ Bag H b l ∧ a ≠ b ∧ H a = some (.lst xs) ∧ xs.length < 1000 ∧
  ∀ (ys : List V) (p : Addr) (H' : Hp), ys.Perm xs → H p = none → p ≠ b → H' p = some (.lst ys) → Bag H' b l → Kp b H H' → Q (.ref p) H'

/-- the bag of a script -/
def spBag (K : PySem.W.Frag) : Sp := fun vs H Q _ => ∃ (a : Addr) (ns : List Int), vs = [.ref a] ∧ SqL K H a (ns.map V.int) ∧ ns.length ≤ 63 ∧ ∀ (b l : Addr) (H' : Hp), H b = none → Bag H' b l → Same H H' → Q (.ref b) H'
/-- a def that is called by its name -/
structure Cal (P : Program) (w : World) (K : PySem.W.Frag) (mg : Str → Option Value) (base : Heap) (k : Nat) (x : Str) (ps : List Str) (sp : Sp) where
  f : Addr
  fd : FuncData
  G : FnOk P w K mg base CX0 k f fd ps sp
  m : mg x = some (.ref f)
  kp : PySem.W.keepIn K (.ref f) = true
  b : Binds K fd ps []
theorem cut_to (k : Nat) (xs : List V) : cutV xs none (some (k : Int)) = xs.take k := by
  unfold cutV
  rw [HT.sIx_none, HT.sIx_nat, List.drop_zero, Nat.sub_zero]
  by_cases h : k ≤ xs.length
  · rw [Nat.min_eq_left h]
  · rw [Nat.min_eq_right (by omega), List.take_of_length_le (Nat.le_refl _), List.take_of_length_le (by omega)]
theorem take_mod {k n : Int} (hn : 0 < n) : ∃ j : Nat, k % n = (j : Int) ∧ (j : Int) < n := by
  have h1 := Int.emod_nonneg k (show n ≠ 0 by omega)
  have h2 := Int.emod_lt_of_pos k hn
  exact ⟨(k % n).toNat, by omega, by omega⟩
/-- the names that the laws draw from -/
def menu : List Str := ["a", "b", "ab", "ba", "job", "view", "pin", "quay", "stock", "golfer", "exhumed", "zzzzzzzz"]
theorem menu_nodup : menu.Nodup := by decide +kernel
theorem perm_strs {ys : List V} {xs : List Str} (h : ys.Perm (xs.map V.str)) : ∃ zs : List Str, ys = zs.map V.str ∧ zs.Perm xs := by
  have go : ∀ (ys : List V), (∀ y ∈ ys, ∃ z, y = V.str z) → ∃ zs : List Str, ys = zs.map V.str := by
    intro ys
    induction ys with
    | nil => intro _; exact ⟨[], rfl⟩
    | cons y ys ih =>
      intro h
      obtain ⟨z, rfl⟩ := h y List.mem_cons_self
      obtain ⟨zs, rfl⟩ := ih fun y hy => h y (List.mem_cons_of_mem _ hy)
      exact ⟨z :: zs, rfl⟩
  obtain ⟨zs, rfl⟩ := go ys fun y hy => by
    obtain ⟨z, _, e⟩ := List.mem_map.mp (h.mem_iff.mp hy)
    exact ⟨z, e.symm⟩
  refine ⟨zs, rfl, ?_⟩
  have unstr : ∀ l : List Str, (l.map V.str).map (fun v => match v with | .str z => z | _ => "") = l := fun l => by
    rw [List.map_map]
    exact (List.map_congr_left fun _ _ => rfl).trans (List.map_id _)
  have := h.map (fun v => match v with | .str z => z | _ => "")
  rwa [unstr, unstr] at this
/-- some of the menu's names, each once, n at most -/
structure Names (n : Nat) (xs : List Str) : Prop where
  nd : xs.Nodup
  sub : ∀ c ∈ xs, c ∈ menu
  len : xs.length = min n 12
def spNames : Sp := fun vs H Q _ => ∃ (b l : Addr) (n : Nat), vs = [.ref b, .int (n : Int)] ∧ Bag H b l ∧
  ∀ (xs : List Str) (p : Addr) (H' : Hp), Names n xs → H p = none → p ≠ b → H' p = some (.lst (xs.map V.str)) → Bag H' b l → Kp b H H' → Q (.ref p) H'
/-- a row of names -/
structure Row (xs : List Str) : Prop where
  nd : xs.Nodup
  sub : ∀ c ∈ xs, c ∈ menu
  pos : 0 < xs.length
  le : xs.length ≤ 12
theorem Names.row {n : Nat} {xs : List Str} (h : Names n xs) (hn : 0 < n) : Row xs := ⟨h.nd, h.sub, by rw [h.len]; omega, by rw [h.len]; omega⟩
/-- a question as it stands -/
def QAt (H : Hp) (q : Addr) (cols : List Str) (e : Str) : Prop := ∃ c, H q = some (.tup [.ref c, .str e]) ∧ H c = some (.tup (cols.map V.str))
theorem QAt.same {H H' : Hp} {q : Addr} {cols : List Str} {e : Str} (s : Same H H') (h : QAt H q cols e) : QAt H' q cols e := by
  obtain ⟨c, h1, h2⟩ := h
  exact ⟨c, s _ _ h1, s _ _ h2⟩
theorem QAt.kp {H H' : Hp} {q b l : Addr} {cols : List Str} {e : Str} (B : Bag H b l) (s : Kp b H H') (h : QAt H q cols e) : QAt H' q cols e := by
  obtain ⟨c, h1, h2⟩ := h
  exact ⟨c, s _ _ h1 (B.ne_tup h1), s _ _ h2 (B.ne_tup h2)⟩
structure Qok (xs cols : List Str) (e : Str) : Prop where
  nd : cols.Nodup
  srt : sortedS cols = true
  sub : ∀ c ∈ cols, c ∈ xs
  esub : e = "" ∨ e ∈ xs
  ne : e ∉ cols
  some : e = "" → cols ≠ []
  le : cols.length ≤ 12
def spQuestion : Sp := fun vs H Q _ => ∃ (b l a : Addr) (xs : List Str), vs = [.ref b, .ref a] ∧ Bag H b l ∧ a ≠ b ∧ H a = some (.lst (xs.map V.str)) ∧ Row xs ∧
  ∀ (q : Addr) (cols : List Str) (e : Str) (H' : Hp), QAt H' q cols e → Qok xs cols e → Bag H' b l → Kp b H H' → Q (.ref q) H'
def spBeginT : Sp := fun vs H Q _ => ∃ (b l a : Addr) (xs : List Str), vs = [.ref b, .ref a] ∧ Bag H b l ∧ H a = some (.tup (xs.map V.str)) ∧ Row xs ∧
  ∀ (q : Addr) (cols : List Str) (e : Str) (H' : Hp), QAt H' q cols e → Qok xs cols e → Bag H' b l → Kp b H H' → Q (.ref q) H'
def spBeginL : Sp := fun vs H Q _ => ∃ (b l a : Addr) (xs : List Str), vs = [.ref b, .ref a] ∧ Bag H b l ∧ a ≠ b ∧ H a = some (.lst (xs.map V.str)) ∧ Row xs ∧
  ∀ (q : Addr) (cols : List Str) (e : Str) (H' : Hp), QAt H' q cols e → Qok xs cols e → Bag H' b l → Kp b H H' → Q (.ref q) H'
def spIndex : Sp := fun vs H Q _ => ∃ (b l a : Addr) (xs : List Str), vs = [.ref b, .ref a] ∧ Bag H b l ∧ a ≠ b ∧ H a = some (.lst (xs.map V.str)) ∧ Row xs ∧
  ∀ (t : Addr) (ys : List Str) (H' : Hp), H' t = some (.tup (ys.map V.str)) → Row ys → (∀ c ∈ ys, c ∈ xs) → Bag H' b l → Kp b H H' → Q (.ref t) H'
theorem menu_ne : ∀ c ∈ menu, c ≠ "" := by decide +kernel
/-- out of a beginning of some order of a row -/
theorem qok_plain {xs ys zs : List Str} {k : Nat} (R : Row xs) (hp : ys.Perm xs) (hz : zs.Perm (ys.take (k + 1))) (hs : sortedS zs = true) : Qok xs zs "" := by
  have sl := List.take_sublist (k + 1) ys
  have hsub : ∀ c ∈ zs, c ∈ xs := fun c hc => hp.mem_iff.mp (sl.mem (hz.mem_iff.mp hc))
  have hl := R.le
  have hpos := R.pos
  have hyl := hp.length_eq
  have hzl := hz.length_eq
  rw [List.length_take] at hzl
  refine ⟨hz.nodup_iff.mpr ((hp.nodup_iff.mpr R.nd).sublist sl), hs, hsub, .inl rfl, fun h => menu_ne _ (R.sub _ (hsub _ h)) rfl, fun _ h => ?_, by omega⟩
  rw [h] at hzl
  simp at hzl
  omega
theorem qok_ranged {xs ys zs : List Str} {k : Nat} {e : Str} (R : Row xs) (hp : ys.Perm xs) (he : ys[k]? = some e) (hz : zs.Perm (ys.take k)) (hs : sortedS zs = true) : Qok xs zs e := by
  have sl := List.take_sublist k ys
  have hsub : ∀ c ∈ zs, c ∈ xs := fun c hc => hp.mem_iff.mp (sl.mem (hz.mem_iff.mp hc))
  have hmem : e ∈ xs := hp.mem_iff.mp (List.mem_of_getElem? he)
  have hl := R.le
  have hyl := hp.length_eq
  have hzl := hz.length_eq
  rw [List.length_take] at hzl
  have ndy := hp.nodup_iff.mpr R.nd
  refine ⟨hz.nodup_iff.mpr (ndy.sublist sl), hs, hsub, .inr hmem, fun h => ?_, fun h => absurd h (menu_ne _ (R.sub _ hmem)), by omega⟩
  have h1 := hz.mem_iff.mp h
  have hk : k < ys.length := (List.getElem?_eq_some_iff.mp he).1
  have e2 : ys = ys.take k ++ ys.drop k := (List.take_append_drop k ys).symm
  have e3 : e ∈ ys.drop k := by
    have : (ys.drop k)[0]? = some e := by rw [List.getElem?_drop]; exact he
    exact List.mem_of_getElem? this
  rw [e2] at ndy
  exact (List.nodup_append.mp ndy).2.2 _ h1 _ e3 rfl
end Qk

set_option maxRecDepth 100000
set_option maxHeartbeats 4000000
namespace Qk
open PySem PySem.Spec PyProof.Rows L2

/-! sorted lists of texts -/
def leS (a b : Str) : Prop := ltCps b.cps.toList a.cps.toList = false
theorem str_ext {a b : Str} (h : a.cps.toList = b.cps.toList) : a = b := by
  obtain ⟨x⟩ := a
  obtain ⟨y⟩ := b
  simp only at h
  congr 1
  exact Array.toList_inj.mp h
theorem leS_antisymm {a b : Str} (h1 : leS a b) (h2 : leS b a) : a = b := by
  unfold leS at h1 h2
  rw [ltCps_eq] at h1 h2
  have n1 := of_decide_eq_false h1
  have n2 := of_decide_eq_false h2
  exact str_ext (List.le_antisymm (List.not_lt.mp n1) (List.not_lt.mp n2))
theorem leS_refl (a : Str) : leS a a := by
  unfold leS
  rw [ltCps_eq]
  exact decide_eq_false (List.lt_irrefl _)
theorem leS_trans {a b c : Str} (h1 : leS a b) (h2 : leS b c) : leS a c := by
  unfold leS at *
  rw [ltCps_eq] at *
  have n1 := List.not_lt.mp (of_decide_eq_false h1)
  have n2 := List.not_lt.mp (of_decide_eq_false h2)
  exact decide_eq_false (List.not_lt.mpr (List.le_trans n1 n2))
theorem risingS_pw : ∀ (xs : List Str) (p : Str), risingS p xs = true → (p :: xs).Pairwise leS
  | [], p, _ => List.pairwise_singleton _ _
  | x :: r, p, h => by
    rw [risingS, Bool.and_eq_true] at h
    have h1 : leS p x := by
      have := h.1
      rw [Bool.not_eq_true'] at this
      exact this
    have ih := risingS_pw r x h.2
    refine List.pairwise_cons.mpr ⟨fun y hy => ?_, ih⟩
    rcases List.mem_cons.mp hy with rfl | hy
    · exact h1
    · exact leS_trans h1 ((List.pairwise_cons.mp ih).1 y hy)
theorem sortedS_pw {xs : List Str} (h : sortedS xs = true) : xs.Pairwise leS := by
  cases xs with
  | nil => exact List.Pairwise.nil
  | cons x r => exact risingS_pw r x h
theorem perm_sorted : ∀ {xs ys : List Str}, xs.Perm ys → xs.Pairwise leS → ys.Pairwise leS → xs = ys
  | [], ys, h, _, _ => (List.Perm.nil_eq h)
  | x :: xs, [], h, _, _ => absurd h.length_eq (by simp)
  | x :: xs, y :: ys, h, h1, h2 => by
    have e : x = y := by
      rcases List.mem_cons.mp (h.mem_iff.mp List.mem_cons_self) with e | m1
      · exact e
      · rcases List.mem_cons.mp (h.mem_iff.mpr List.mem_cons_self) with e | m2
        · exact e.symm
        · exact leS_antisymm ((List.pairwise_cons.mp h1).1 y m2) ((List.pairwise_cons.mp h2).1 x m1)
    subst e
    rw [perm_sorted (List.Perm.cons_inv h) (List.pairwise_cons.mp h1).2 (List.pairwise_cons.mp h2).2]
theorem sorted_unique {xs ys zs : List Str} (h1 : xs.Perm zs) (h2 : ys.Perm zs) (s1 : sortedS xs = true) (s2 : sortedS ys = true) : xs = ys :=
  perm_sorted (h1.trans h2.symm) (sortedS_pw s1) (sortedS_pw s2)

/-! == of lists and tuples of texts -/
theorem menu_ok : ∀ c ∈ menu, PyData.strOk c = true := by decide +kernel
theorem lay_strs : ∀ {xs : List Str}, (∀ c ∈ xs, PyData.strOk c = true) → PyData.canLayAll0 (xs.map PyData.str) = true
  | [], _ => rfl
  | x :: xs, h => by
    show (PyData.canLay0 (.str x) && PyData.canLayAll0 (xs.map PyData.str)) = true
    rw [lay_strs fun c hc => h c (List.mem_cons_of_mem _ hc), Bool.and_true]
    exact h x List.mem_cons_self
theorem depth_strs : ∀ (xs : List Str), PyData.depthAll (xs.map PyData.str) = 0
  | [] => rfl
  | x :: xs => by
    show max (PyData.depth (.str x)) (PyData.depthAll (xs.map PyData.str)) = 0
    rw [depth_strs xs]
    rfl
theorem eqv_strs : ∀ (xs ys : List Str), PyData.eqvAll (xs.map PyData.str) (ys.map PyData.str) = decide (xs = ys)
  | [], [] => by simp [PyData.eqvAll]
  | [], y :: ys => by simp [PyData.eqvAll]
  | x :: xs, [] => by simp [PyData.eqvAll]
  | x :: xs, y :: ys => by
    show PyData.eqvAll (PyData.str x :: xs.map PyData.str) (PyData.str y :: ys.map PyData.str) = _
    rw [PyData.eqvAll, eqv_strs xs ys, PyData.eqv]
    by_cases h1 : x = y
    · subst h1
      by_cases h2 : xs = ys
      · subst h2
        simp
      · simp [h2]
    · simp [h1]
theorem shaped_list {xs : List Str} (h : ∀ c ∈ xs, PyData.strOk c = true) : SeqAt.shaped (.list (xs.map PyData.str)) = true := by
  unfold SeqAt.shaped
  rw [Bool.and_eq_true]
  exact ⟨lay_strs h, decide_eq_true (by rw [PyData.depth, depth_strs]; decide)⟩
theorem shaped_tuple {xs : List Str} (h : ∀ c ∈ xs, PyData.strOk c = true) : SeqAt.shaped (.tuple (xs.map PyData.str)) = true := by
  unfold SeqAt.shaped
  rw [Bool.and_eq_true]
  exact ⟨lay_strs h, decide_eq_true (by rw [PyData.depth, depth_strs]; decide)⟩
theorem dp_strs {K : PySem.W.Frag} {H : Hp} : ∀ (xs : List Str), DpAll K H (xs.map V.str) (xs.map PyData.str)
  | [] => .nil
  | x :: xs => .cons (.str x) (dp_strs xs)
theorem flat_strs (xs : List Str) : (xs.map V.str).all flatV = true := by
  rw [List.all_map]
  exact List.all_eq_true.mpr fun _ _ => rfl
theorem inV_strs (c : Str) (xs : List Str) : inV (.str c) (xs.map V.str) = decide (c ∈ xs) := by
  unfold inV
  rw [List.any_map]
  by_cases h : c ∈ xs
  · rw [decide_eq_true h]
    exact List.any_eq_true.mpr ⟨c, h, by show (c == c) = true; exact beq_self_eq_true c⟩
  · rw [decide_eq_false h]
    refine List.any_eq_false.mpr fun y hy e => h ?_
    have e' : (y == c) = true := e
    rw [← eq_of_beq e']
    exact hy

theorem perm_of_sub : ∀ {xs ys : List Str}, xs.Nodup → (∀ c ∈ xs, c ∈ ys) → ys.length ≤ xs.length → xs.Perm ys
  | [], ys, _, _, h => by
    have : ys = [] := List.eq_nil_of_length_eq_zero (by simpa using h)
    rw [this]
  | x :: xs, ys, nd, hs, h => by
    have hx := hs x List.mem_cons_self
    have hp := List.perm_cons_erase hx
    obtain ⟨nx, nd'⟩ := List.nodup_cons.mp nd
    have hl := hp.length_eq
    rw [List.length_cons] at hl h
    refine ((perm_of_sub (ys := ys.erase x) nd' (fun c hc => ?_) (by omega)).cons x).trans hp.symm
    have ne : c ≠ x := fun e => nx (e ▸ hc)
    exact (List.mem_erase_of_ne ne).mpr (hs c (List.mem_cons_of_mem _ hc))

/-! the least place of a fault -/
def goodAt (ix cols : List Str) (p : Nat) : Prop := ∃ c, ix[p]? = some c ∧ c ∈ cols
instance (ix cols : List Str) (p : Nat) : Decidable (goodAt ix cols p) :=
  match h : ix[p]? with
  | some c => if hc : c ∈ cols then isTrue ⟨c, h, hc⟩ else isFalse fun ⟨d, hd, hm⟩ => hc (by rw [h] at hd; cases hd; exact hm)
  | none => isFalse fun ⟨d, hd, _⟩ => by rw [h] at hd; cases hd
def fault (ix cols : List Str) (last : Str) : Option Nat :=
  match (List.range cols.length).find? (fun p => !decide (goodAt ix cols p)) with
  | some p => some p
  | none => if last ≠ "" ∧ ix[cols.length]? ≠ some last then some cols.length else none
theorem find_none {n : Nat} {g : Nat → Bool} (h : ∀ p, p < n → g p = false) : (List.range n).find? g = none :=
  List.find?_eq_none.mpr fun p hp e => by rw [h p (List.mem_range.mp hp)] at e; cases e
theorem find_at {n i : Nat} {g : Nat → Bool} (hi : i < n) (h : ∀ p, p < i → g p = false) (hg : g i = true) : (List.range n).find? g = some i := by
  refine List.find?_range_eq_some.mpr ⟨hg, List.mem_range.mpr hi, fun j hj => ?_⟩
  rw [h j hj]
  rfl
theorem fault_at {ix cols : List Str} {last : Str} {i : Nat} (hi : i < cols.length) (h : ∀ p, p < i → goodAt ix cols p) (hg : ¬ goodAt ix cols i) : fault ix cols last = some i := by
  unfold fault
  rw [find_at hi (fun p hp => by rw [decide_eq_true (h p hp)]; rfl) (by rw [decide_eq_false hg]; rfl)]
theorem fault_end {ix cols : List Str} {last : Str} (h : ∀ p, p < cols.length → goodAt ix cols p) : fault ix cols last = if last ≠ "" ∧ ix[cols.length]? ≠ some last then some cols.length else none := by
  unfold fault
  rw [find_none fun p hp => by rw [decide_eq_true (h p hp)]; rfl]
theorem fault_le {ix cols : List Str} {last : Str} {p : Nat} (h : fault ix cols last = some p) : p ≤ cols.length := by
  unfold fault at h
  split at h
  · next q e =>
    cases h
    have := List.mem_range.mp (List.mem_of_find?_eq_some e)
    omega
  · split at h
    · cases h
      omega
    · cases h
def optV : Option Nat → V
  | none => .non
  | some n => .int (n : Int)
/-- no fault just if the beginning is made of the columns, with the last one behind -/
theorem fault_none {ix cols ws : List Str} {last : Str} (hix : ix.Nodup) (hc : cols.Nodup) (hs : sortedS cols = true) (hw : ws.Perm (ix.take cols.length)) (hws : sortedS ws = true) :
    fault ix cols last = none ↔ ws = cols ∧ (last = "" ∨ ix[cols.length]? = some last) := by
  constructor
  · intro h
    unfold fault at h
    split at h
    · cases h
    · next e =>
      have good : ∀ p, p < cols.length → goodAt ix cols p := fun p hp => by
        have := List.find?_eq_none.mp e p (List.mem_range.mpr hp)
        simpa using this
      constructor
      · have hle : cols.length ≤ ix.length := by
          rcases Nat.lt_or_ge ix.length cols.length with hlt | hge
          · obtain ⟨c, h1, _⟩ := good ix.length hlt
            rw [List.getElem?_eq_none (Nat.le_refl _)] at h1
            cases h1
          · exact hge
        have hlen : (ix.take cols.length).length = cols.length := by rw [List.length_take]; omega
        have hsub : ix.take cols.length ⊆ cols := fun c hc' => by
          obtain ⟨p, hp, e⟩ := List.mem_iff_getElem.mp hc'
          rw [hlen] at hp
          obtain ⟨d, h1, h2⟩ := good p hp
          rw [List.getElem_take] at e
          rw [List.getElem?_eq_getElem (by omega)] at h1
          cases h1
          rw [← e]
          exact h2
        have hperm : (ix.take cols.length).Perm cols := perm_of_sub (hix.sublist (List.take_sublist _ _)) (fun c hc => hsub hc) (by omega)
        exact sorted_unique hw hperm.symm hws hs
      · by_cases h1 : last = ""
        · exact .inl h1
        · by_cases h2 : ix[cols.length]? = some last
          · exact .inr h2
          · rw [if_pos ⟨h1, h2⟩] at h
            cases h
  · rintro ⟨rfl, h2⟩
    rw [fault_end fun p hp => ?_]
    · rw [if_neg]
      rintro ⟨a1, a2⟩
      rcases h2 with h2 | h2
      · exact a1 h2
      · exact a2 h2
    · have hl := hw.length_eq
      rw [List.length_take] at hl
      have hp2 : p < ix.length := by omega
      refine ⟨ix[p], List.getElem?_eq_getElem hp2, hw.mem_iff.mpr ?_⟩
      exact List.mem_iff_getElem.mpr ⟨p, by rw [List.length_take]; omega, by rw [List.getElem_take]⟩

/-! promises about serving -/
def spFault : Sp := fun vs H Q _ => ∃ (t q : Addr) (ix cols : List Str) (e : Str), vs = [.ref t, .ref q] ∧ H t = some (.tup (ix.map V.str)) ∧ QAt H q cols e ∧ cols.length ≤ 12 ∧ ∀ H', Same H H' → Q (optV (fault ix cols e)) H'
def spServ : Sp := fun vs H Q _ => ∃ (t q : Addr) (ix cols : List Str) (e : Str), vs = [.ref t, .ref q] ∧ H t = some (.tup (ix.map V.str)) ∧ QAt H q cols e ∧ cols.length ≤ 12 ∧ ∀ H', Same H H' → Q (.bl (decide (fault ix cols e = none))) H'
def spServes : Sp := fun vs H Q _ => ∃ (t q : Addr) (ix cols : List Str) (e : Str), vs = [.ref t, .ref q] ∧ H t = some (.tup (ix.map V.str)) ∧ QAt H q cols e ∧ cols.length ≤ 12 ∧ ix.length ≤ 12 ∧ ix.Nodup ∧ (∀ c ∈ ix, c ∈ menu) ∧
  cols.Nodup ∧ sortedS cols = true ∧ (∀ c ∈ cols, c ∈ menu) ∧ (e = "" ∨ e ∈ menu) ∧ ∀ H', Same H H' → Q (.bl (decide (fault ix cols e = none))) H'
/-- two flat values that are the same -/
def spAlikeF : Sp := fun vs H Q _ => ∃ (v : V) (t : Str), vs = [v, v] ∧ flatText v = some t ∧ Q (.bl true) H
theorem optV_text {o : Option Nat} (h : ∀ n, o = some n → n ≤ 12) : ∃ t, flatText (optV o) = some t := by
  cases o with
  | none => exact ⟨_, rfl⟩
  | some n =>
    have hn := h n rfl
    refine ⟨toString (n : Int), ?_⟩
    show (if (n : Int).natAbs.log2 < 1920 then some (Str.ofString (toString (n : Int))) else none) = _
    rw [if_pos]
    have : (n : Int).natAbs = n := Int.natAbs_natCast n
    rw [this]
    refine Nat.lt_of_le_of_lt (Nat.log2_le_self n) ?_
    omega
theorem scal_flat {v : V} {t : Str} (h : flatText v = some t) : scal v v = true := by
  cases v with
  | non => rfl
  | bl _ => rfl
  | int _ => rfl
  | str _ => cases h
  | byt _ => cases h
  | flt _ => cases h
  | ref _ => cases h
  | ty _ => cases h

theorem slA {K : PySem.W.Frag} {H : Hp} {a : Addr} {xs : List Str} {lo hi : Option Int} {ys : List Str} {Q : VK} (h : H a = some (.tup (xs.map V.str))) (e : cutV (xs.map V.str) lo hi = ys.map V.str)
    (k : ∀ (r : Addr) (H' : Hp), Same H H' → H' r = some (.tup (ys.map V.str)) → Q (.ref r) H') : rSlA K (.ref a) lo hi H Q := by
  refine ⟨a, _, rfl, SqT.of h, fun hw => k a H (Same.refl _) ?_, fun _ p hp => ?_⟩
  · rw [h, ← e]
    unfold cutV
    rw [hw.1, hw.2, List.drop_zero, Nat.sub_zero, List.take_length]
  · rw [e]
    exact k p _ (same_new hp) upd_same
theorem cut_one (n : Nat) (xs : List Str) : cutV (xs.map V.str) (some (n : Int)) (some ((n : Int) + 1)) = ((xs.drop n).take 1).map V.str := by
  have e1 : (n : Int) + 1 = ((n + 1 : Nat) : Int) := by omega
  unfold cutV
  rw [e1, HT.sIx_nat, HT.sIx_nat, List.length_map]
  by_cases h : n < xs.length
  · rw [Nat.min_eq_left (by omega), Nat.min_eq_left (by omega), ← List.map_drop, ← List.map_take]
    congr 2
    omega
  · have e2 : min n xs.length = xs.length := Nat.min_eq_right (by omega)
    rw [e2, List.drop_of_length_le (show (xs.map V.str).length ≤ xs.length by rw [List.length_map]; exact Nat.le_refl _), List.drop_of_length_le (show xs.length ≤ n by omega), List.take_nil, List.take_nil, List.map_nil]
theorem take_one {xs : List Str} {n : Nat} {e : Str} : (xs.drop n).take 1 = [e] ↔ xs[n]? = some e := by
  have h0 : (xs.drop n)[0]? = xs[n]? := by rw [List.getElem?_drop]; rfl
  cases hd : xs.drop n with
  | nil =>
    rw [hd] at h0
    have h1 : none = xs[n]? := h0
    rw [← h1]
    simp
  | cons y ys =>
    rw [hd] at h0
    have h1 : some y = xs[n]? := h0
    rw [← h1]
    simp

/-! what a law knows of its index and its question -/
structure QM (cols : List Str) (e : Str) : Prop where
  nd : cols.Nodup
  srt : sortedS cols = true
  sub : ∀ c ∈ cols, c ∈ menu
  esub : e = "" ∨ e ∈ menu
  le : cols.length ≤ 12
  some : e = "" → cols ≠ []
theorem Qok.qm {xs cols : List Str} {e : Str} (h : Qok xs cols e) (R : ∀ c ∈ xs, c ∈ menu) : QM cols e :=
  ⟨h.nd, h.srt, fun c hc => R _ (h.sub _ hc), h.esub.imp id (fun m => R _ m), h.le, h.some⟩
theorem Row.take {xs : List Str} (R : Row xs) (k : Nat) : Row (xs.take (k + 1)) :=
  ⟨R.nd.sublist (List.take_sublist _ _), fun c hc => R.sub _ ((List.take_sublist _ _).mem hc), by have := R.pos; rw [List.length_take]; omega, by have := R.le; rw [List.length_take]; omega⟩
/-- two places exchanged -/
def sw (x y k : Nat) : Nat := if k = y then x else if k = x then y else k
theorem sw_lt {x y k n : Nat} (hx : x < n) (hy : y < n) (hk : k < n) : sw x y k < n := by
  unfold sw
  split
  · exact hx
  · split
    · exact hy
    · exact hk
theorem sw_inj {x y j k : Nat} (h : sw x y j = sw x y k) : j = k := by
  unfold sw at h
  split at h <;> split at h <;> (try split at h) <;> (try split at h) <;> omega
def swp (ix : List Str) (x y : Nat) : List Str := (List.range ix.length).map fun k => ix.getD (sw x y k) ""
theorem swp_len (ix : List Str) (x y : Nat) : (swp ix x y).length = ix.length := by
  unfold swp
  rw [List.length_map, List.length_range]
theorem swp_get {ix : List Str} {x y k : Nat} (hx : x < ix.length) (hy : y < ix.length) (hk : k < ix.length) : (swp ix x y)[k]? = ix[sw x y k]? := by
  unfold swp
  rw [List.getElem?_map, List.getElem?_range hk]
  show some (ix.getD (sw x y k) "") = _
  rw [List.getD_eq_getElem?_getD, List.getElem?_eq_getElem (sw_lt hx hy hk)]
  rfl
theorem swp_row {ix : List Str} {x y : Nat} (R : Row ix) (hx : x < ix.length) (hy : y < ix.length) : Row (swp ix x y) := by
  refine ⟨?_, fun c hc => ?_, by rw [swp_len]; exact R.pos, by rw [swp_len]; exact R.le⟩
  · unfold swp
    refine List.pairwise_map.mpr (List.Pairwise.imp_of_mem ?_ List.nodup_range)
    intro j k hj hk hne he
    have hj := sw_lt hx hy (List.mem_range.mp hj)
    have hk := sw_lt hx hy (List.mem_range.mp hk)
    rw [List.getD_eq_getElem?_getD, List.getD_eq_getElem?_getD, List.getElem?_eq_getElem hj, List.getElem?_eq_getElem hk] at he
    have he2 : ix[sw x y j] = ix[sw x y k] := he
    have := (List.nodup_iff_pairwise_ne.mp R.nd)
    rcases Nat.lt_trichotomy (sw x y j) (sw x y k) with h | h | h
    · exact List.pairwise_iff_getElem.mp this _ _ hj hk h he2
    · exact hne (sw_inj h)
    · exact List.pairwise_iff_getElem.mp this _ _ hk hj h he2.symm
  · unfold swp at hc
    obtain ⟨k, hk, rfl⟩ := List.mem_map.mp hc
    have hk := sw_lt hx hy (List.mem_range.mp hk)
    rw [List.getD_eq_getElem?_getD, List.getElem?_eq_getElem hk]
    exact R.sub _ (List.getElem_mem hk)
end Qk

set_option maxRecDepth 100000
set_option maxHeartbeats 4000000
namespace Qk
open PySem PySem.Spec PyProof.Rows L2

/-! ### defs that may be told only where no repr is running: what stands around them has no guard -/
structure FnG (P : Program) (w : World) (K : PySem.W.Frag) (mg : Str → Option Value) (base : Heap) (k : Nat) (f : Addr) (fd : FuncData) (ps : List Str) (sp : Sp) : Prop where
  len : ∀ vs H Q E, sp vs H Q E → vs.length = ps.length
  run : ∀ (A : Around) (outer : List Env) (s : Shared) (H : Hp) (args : Args) (us : List Value) (vs : List V) (Q : VK) (E : XK), Room k A → A.guards = some [] → Env0 P w K mg base A outer s H →
    BindsTo s fd args (ps.zip us) → Vals vs us → sp vs H Q E → codeAny (model P w) A (.call (.ref f) args) (CR CX0 outer P w H s Q E) s
theorem FnG.of {P : Program} {w : World} {K : PySem.W.Frag} {mg : Str → Option Value} {base : Heap} {k : Nat} {f : Addr} {fd : FuncData} {ps : List Str} {sp : Sp} (F : FnOk P w K mg base CX0 k f fd ps sp) : FnG P w K mg base k f fd ps sp :=
  ⟨F.len, fun A o s H args us vs Q E hr _ e b v h => F.run A o s H args us vs Q E hr e b v h⟩

section
variable {P : Program} {w : World} {K : PySem.W.Frag} {mg : Str → Option Value} {base : Heap}
theorem okG {x qual : Str} {st : Stmt} {f : Addr} {fd : FuncData} {N ps : List Str} {k : Nat} {sp : Sp} (F : Fun K x qual st f fd) (S : FnScope N ps (defScope st)) (len : ∀ vs H Q E, sp vs H Q E → vs.length = ps.length)
    (body : ∀ (cdv : Value) (A : Around) (outer : List Env) (s : Shared) (H : Hp) (vs : List V) (Q : VK) (E : XK), Room k (A.deeper (envOfC qual (defScope st) s.heap.objs.size f cdv)) → A.guards = some [] → sp vs H Q E →
      ∃ t, PSs (cxOf CX0 P w K mg base N qual (defScope st) f cdv A outer s H E).nox (defBody st) t ∧ t { nx := fun _ H' => Q .non H', rt := Q } (start N vs) H) : FnG P w K mg base (k + 1) f fd ps sp := by
  obtain ⟨oc, od, kV, doc, pm, an, cdv, ct, osl, rfl, lk, hcd⟩ := F.ex
  constructor
  · exact len
  intro A outer s H args us vs Q E hr hg e0 hb rv hsp
  have hlen := len _ _ _ _ hsp
  have kept : ∀ b o, base.get? b = some o → s.heap.get? b = some o := fun b o e => (e0.bs b o e).1
  have KX : K.In s.heap := e0.mod.kin.keeps kept
  have par : ∀ y ∈ ps.zip us, (defScope st).names.lookup y.1 = some .local ∨ ((defScope st).names.lookup y.1 = some .cell ∧ ((cellsFrom (s.heap.objs.size + 1) (defScope st).names []).lookup y.1).isSome = true) := by
    rintro ⟨n, v⟩ hy
    exact (S.par n (List.of_mem_zip hy).1).imp id fun q => ⟨q, PySem.W.cellsFrom_some _ _ _ (.inl q)⟩
  refine codeAny_call_function hr.depth (KX _ _ lk) rfl S.co S.gen rfl (PySem.W.codeRec_of KX hcd) (hb _ _ _ _ ?_)
  refine wpAny_newFunctionEnv_cells S.kind par fun env he s1 xe => ?_
  subst he
  refine ⟨(e0.mod.nolimit.keeps kept).keeps xe.toInCall.keep, codeAny_func ?_⟩
  obtain ⟨t, ht, hq⟩ := body cdv A outer s H vs Q E (hr.deeper _) hg hsp
  refine wpAny_mono (ht.nox.run [] s1 (start N vs) H _ (inv_start S hr.hd e0 hlen rv xe) hq) (fun fl s' hs => ?_) fun _ _ z => z
  cases fl with
  | ret u =>
    obtain ⟨v, σ', H', J, r, q⟩ := hs
    exact ⟨v, H', J.os, J.bare, J.base, J.hok, r, q⟩
  | next =>
    obtain ⟨σ', H', J, q⟩ := hs
    exact ⟨V.non, H', J.os, J.bare, J.base, J.hok, rfl, q⟩
  | brk => exact hs.elim fun _ z => z.elim fun _ z => z.2.elim
  | cont => exact hs.elim fun _ z => z.elim fun _ z => z.2.elim
end
section
variable {X : Cx} {k : Nat} {f : Addr} {fd : FuncData} {ps : List Str} {sp : Sp} {x : Str} {p pos : Pos} {e : Expr} {es : List Expr} {t : TA}
theorem run_g {pins : List (Addr × Obj)} {σ : L2.St} {H : Hp} {s : Shared} {Q : VK} {us : List Value} {vs : List V} (F : FnG X.prog X.w X.K X.mg X.base k f fd ps sp) (hr : Room k X.A) (hg : X.A.guards = some []) (hb : Binds X.K fd ps [])
    (I : Inv X pins σ H s) (r : Vals vs us) (h : sp vs H Q E0) : wpAny (model X.prog X.w) X.A (call (.ref f) us) (EP X pins σ Q) X.xe s := by
  have hl : (us ++ ([] : List Value)).length = ps.length := by
    rw [List.append_nil, ← r.length]
    exact F.len _ _ _ _ h
  have hbd := hb s us I.kIn hl
  rw [List.append_nil] at hbd
  have c := F.run X.A X.stack s H ⟨us, []⟩ us vs Q E0 hr hg I.env0 hbd r h
  refine wpAny_call (codeAny_mono c fun r s' hq => ?_)
  cases r with
  | error e => exact False.elim hq
  | ok fl =>
    cases fl with
    | ret u => exact I.after hq
    | _ => exact False.elim hq
/-- a call by name of such a def, all arguments given -/
theorem pe_callg (F : FnG X.prog X.w X.K X.mg X.base k f fd ps sp) (hr : Room k X.A) (hg : X.A.guards = some []) (hgl : Gl X x) (hm : X.mg x = some (.ref f)) (hk : PySem.W.keepIn X.K (.ref f) = true) (hb : Binds X.K fd ps [])
    (ha : PA X (e :: es) t) (hdb : (x == ("__debug__" : Str)) = false := by decide) (he : starEach (e :: es) X.env = (false, eval e X.env) :: starEach es X.env := by rfl) (hpl : (backTo pos (starEach es X.env)).any (·.1) = false := by rfl) :
    PE X (.Call (.Name x p) (e :: es) [] pos) (fun σ H Q => t σ H fun vs H1 => sp vs H1 Q E0) := by
  constructor
  intro pins s σ H Q I h
  refine wpAny_Call_Name_kw (ld_glob I hgl hm ?_ hdb)
  refine PySem.W.callWith_K (h₀ := X.base) I.ok.mod.kin hk ?_ he hpl
  exact thn (ha.run pos pins s σ H _ I h) fun us s1 ⟨vs, H1, I1, r, q⟩ => ⟨I1.kIn, run_g F hr hg hb I1 r q⟩
/-- repr of data, where no repr is running -/
def rReprD (K : PySem.W.Frag) : List V → Hp → VK → Prop := fun vs H Q => ∃ (x : V) (d : PyData), vs = [x] ∧ Dp K H x d ∧ d.showable = true ∧ d.hasDict = false ∧ d.shown.length ≤ sizeLine ∧ d.depth ≤ 60 ∧ Q (.str d.shown) H
theorem call_reprD (hg : X.A.guards = some []) (hu : X.A.units + 64 < cLine) : CallR X (.builtin "repr") (rReprD X.K) := by
  intro pins s σ H xs us Q I r h
  obtain ⟨x, d, rfl, hd, h1, h2, h3, h4, q⟩ := h
  obtain ⟨u, rfl, rx⟩ := vals1 r
  obtain ⟨as, rd⟩ := Dp.reads I d x u hd rx
  cases hd with
  | non =>
    cases rx
    exact PySem.P.repr_of_none ⟨.str _, H, I.tok _, ⟨_, rfl⟩, q⟩
  | bl b =>
    cases rx
    exact PySem.P.repr_of_bool ⟨.str _, H, I.tok _, ⟨_, rfl⟩, q⟩
  | int i =>
    obtain ⟨tk, rfl⟩ := rx
    exact PySem.P.repr_of_int (by simpa [PyData.showable] using h1) ⟨.str _, H, I.tok _, ⟨_, rfl⟩, q⟩
  | str z =>
    obtain ⟨tk, rfl⟩ := rx
    exact PySem.P.repr_of_str ⟨.str _, H, I.tok _, ⟨_, rfl⟩, q⟩ h3
  | lst hs ha =>
    cases rx
    exact repr_of_reads' rd h1 (fun z => by rw [h2] at z; cases z) hg (by omega) (fun _ _ z => z) (fun h' u tk hk => ⟨.str _, H, I.kept hk, ⟨_, rfl⟩, q⟩) h3
  | tup hs ha =>
    cases rx
    exact repr_of_reads' rd h1 (fun z => by rw [h2] at z; cases z) hg (by omega) (fun _ _ z => z) (fun h' u tk hk => ⟨.str _, H, I.kept hk, ⟨_, rfl⟩, q⟩) h3
end
end Qk

set_option maxRecDepth 100000
set_option maxHeartbeats 4000000
namespace Qk
open PySem PySem.Spec PyProof.Rows L2

/-! ### the end of a law whose def is of that kind -/
theorem law_g {P : Program} {w : World} {K : PySem.W.Frag} {mg mb : Str → Option Value} {k : Nat} {fa a : Addr} {fd : FuncData} {x : Str} {sp : Sp} {s₁ : Shared} {vs : List Value} {ns : List Int}
    (KX : K.In s₁.heap) (hns : s₁.heap.Ns mainGlobals mg) (hb : s₁.heap.Ns builtinsNs mb) (hbb : ∀ x : Str, x ≠ "__name__" → mb x = bootBuiltins x) (hlim : s₁.heap.NoLimit) (hg : s₁.gens = #[])
    (ha : s₁.heap.get? a = some { cls := .type "list", data := .seq vs.toArray }) (hi : IntsAre vs ns) (hl : ns.length ≤ sizeLine) (hr : Room k callerA)
    (F : ∀ base : Heap, K.In base → base.Ns mainGlobals mg → FnG P w K mg base k fa fd [x] sp) (hbind : ∀ (s : Shared) (u : Value), BindsTo s fd ⟨[u], []⟩ [(x, u)])
    (hsp : ∀ H : Hp, Only H → SqL K H a (ns.map V.int) → sp [.ref a] H (fun v _ => v = .bl true) fun _ _ _ => False) :
    codeAny (model P w) callerA (.call (.ref fa) ⟨[.ref a], []⟩) (fun r s' => r = .ok (.ret (.bool true)) ∧ OldK s₁.heap s'.heap ∧ s'.os = s₁.os ∧ AllBare s'.gens) s₁ := by
  let o : Obj := { cls := .type "list", data := .seq vs.toArray }
  have rv : Vals (ns.map V.int) vs := vals_ints hi
  have lenV : vs.length = ns.length := hi.length
  -- the abstract heap: the script alone, where the top does not know it
  let H : Hp := fun b => if b = a ∧ K.lookup a = none then some (.frz o (.lst (ns.map V.int))) else none
  have Hsome : ∀ {b u}, H b = some u → b = a ∧ K.lookup a = none ∧ u = .frz o (.lst (ns.map V.int)) := fun {b u} z => by
    by_cases c : b = a ∧ K.lookup a = none
    · have z2 : some (HO.frz o (.lst (ns.map V.int))) = some u := (if_pos c).symm.trans z
      exact ⟨c.1, c.2, (Option.some.inj z2).symm⟩
    · have z2 : (none : Option HO) = some u := (if_neg c).symm.trans z
      cases z2
  have hO : Only H := fun b => by
    cases q : H b with
    | none => exact .inl rfl
    | some u => exact .inr ⟨_, _, by rw [(Hsome q).2.2]⟩
  have hS : SqL K H a (ns.map V.int) := by
    cases q : K.lookup a with
    | none => exact .inl (.inr ⟨o, if_pos ⟨rfl, q⟩⟩)
    | some u =>
      have e := KX a u q
      rw [ha] at e
      cases e
      exact .inr ⟨_, vs.toArray, _, q, rfl, rfl, rfl, by rw [List.size_toArray, lenV]; exact hl, by simpa using rv⟩
  have hok : HOk P w H s₁.heap := fun b u z => by
    obtain ⟨rfl, _, rfl⟩ := Hsome z
    exact ⟨ha, by rw [List.length_map]; exact hl, vs, _, rv, ha⟩
  have keepB : ∀ {b : Addr} {u : Obj}, s₁.heap.get? b = some u → (b = a → K.lookup a ≠ none) → (hidT s₁.heap H).get? b = some u := fun {b u} e n => hidT_get e (by
    cases q : H b with
    | none => rfl
    | some z => exact absurd (Hsome q).2.1 (n (Hsome q).1))
  have keepN : ∀ {b : Addr} {m : Str → Option Value}, s₁.heap.Ns b m → (hidT s₁.heap H).Ns b m := fun {b m} ⟨u, es, ep, e, d, r⟩ => by
    refine ⟨u, es, ep, keepB e fun eb => ?_, d, r⟩
    subst eb
    rw [ha] at e
    cases e
    cases d
  have hKb : K.In (hidT s₁.heap H) := fun b u e => keepB (KX b u e) fun eb q => by
    subst eb
    rw [q] at e
    cases e
  have hM : Mod K mg (hidT s₁.heap H) := ⟨hKb, keepN hns, ⟨mb, keepN hb, hbb⟩, let ⟨mc, h1, h2⟩ := hlim; ⟨mc, keepN h1, h2⟩⟩
  have e0 : Env0 P w K mg (hidT s₁.heap H) callerA [] s₁ H := ⟨rfl, hM, fun _ _ e => of_hidT e, Nat.le_of_eq (hidT_size _ _), trivial, fun b z => absurd (show b ∈ ([] : List Addr) from z) (by simp), hok, .of_eq hg⟩
  have run := (F _ hKb (keepN hns)).run callerA [] s₁ H ⟨[.ref a], []⟩ [.ref a] [.ref a] _ _ hr rfl e0 (hbind s₁ (.ref a)) (.cons rfl .nil) (hsp H hO hS)
  refine codeAny_mono run fun r s' h => ?_
  cases r with
  | error e => exact False.elim h
  | ok fl =>
    cases fl with
    | ret u =>
      obtain ⟨v, H', os, bare, un, hok', r', q⟩ := h
      obtain rfl : v = .bl true := q
      obtain rfl : u = Value.bool true := r'
      refine ⟨rfl, OldK.of_keep fun b u e => ?_, os, bare⟩
      cases q : H b with
      | none => exact un.keep b u e q (fun z => absurd (show b ∈ ([] : List Addr) from z) (by simp)) (by simp)
      | some z =>
        obtain ⟨rfl, _, rfl⟩ := Hsome q
        obtain ⟨e2, _⟩ := hok' b _ (un.frzs b o _ q)
        rw [ha] at e
        cases e
        exact e2
    | _ => exact False.elim h
theorem walk_g {l : PySem.W.OpenLaw} {n k : Nat} {q : Program} {loose : List Str} {XP : (Str → Option Value) → Heap → Prop} {YP : World → Heap → Prop} {d : DefRec} {K : Params → PySem.W.Frag} {sp : World → Sp} {x : Str}
    (hn : l.most = some n) (hn2 : n ≤ sizeLine) (hdf : d.params.defaults = []) (hr : Room k callerA) (hY : ∀ (w : World) (h : Heap), YP w h → (K w.params).In h)
    (F : ∀ (w : World) (mg : Str → Option Value) (fa : Addr) (h : Heap), (K w.params).In h → h.Ns mainGlobals mg → mg d.name = some (.ref fa) →
      ∃ fd : FuncData, (∀ (s : Shared) (u : Value), BindsTo s fd ⟨[u], []⟩ [(x, u)]) ∧ ∀ base : Heap, (K w.params).In base → base.Ns mainGlobals mg → FnG l.prog w (K w.params) mg base k fa fd [x] (sp w))
    (hsp : ∀ (w : World) (H : Hp) (a : Addr) (ns : List Int), ns.length ≤ n → Only H → SqL (K w.params) H a (ns.map V.int) → sp w [.ref a] H (fun v _ => v = .bl true) fun _ _ _ => False) :
    PySem.W.WalkO q loose XP YP l.row.toRowW d [] (fun f vs => PySem.call f vs) := by
  refine Att.attach_call hn hdf fun w s₀ s₁ mg mb fa o pm cd doc a vs ns G Y ho hd hcd hmg hobj hints hlen hg => ?_
  obtain ⟨fd, hb, hF⟩ := F w mg fa _ (hY w _ Y) G.T.g hmg
  exact law_g (hY w _ Y) G.T.g G.T.b G.T.builtins G.T.nolimit hg hobj hints (Nat.le_trans hlen hn2) hr hF hb fun H hO hS => hsp w H a ns hlen hO hS

/-! ### data that may be compared and shown -/
mutual
def fine : PyData → Bool
  | .none => true
  | .bool _ => true
  | .int i => decide (i.natAbs < 1000000)
  | .str x => PyData.strOk x && decide (x.cps.size ≤ 20)
  | .list xs => fineAll xs
  | .tuple xs => fineAll xs
  | .dict _ => false
def fineAll : List PyData → Bool
  | [] => true
  | x :: xs => fine x && fineAll xs
end
mutual
def cost : PyData → Nat
  | .none => 4
  | .bool _ => 5
  | .int _ => 22
  | .str _ => 210
  | .list xs => costAll xs + 3
  | .tuple xs => costAll xs + 3
  | .dict _ => 0
def costAll : List PyData → Nat
  | [] => 0
  | x :: xs => cost x + 2 + costAll xs
end
mutual
theorem fine_lay : ∀ d : PyData, fine d = true → d.canLay0 = true ∧ d.showable = true ∧ d.hasDict = false
  | .none, _ => ⟨rfl, rfl, rfl⟩
  | .bool _, _ => ⟨rfl, rfl, rfl⟩
  | .int i, h => by
    have hi : i.natAbs < 1000000 := of_decide_eq_true h
    refine ⟨rfl, ?_, rfl⟩
    show decide (i.natAbs.log2 < 1920) = true
    refine decide_eq_true ?_
    by_cases h0 : i.natAbs = 0
    · rw [h0]
      decide
    · exact Nat.lt_of_lt_of_le ((Nat.log2_lt h0).mpr (show i.natAbs < 2 ^ 20 by omega)) (by decide)
  | .str x, h => by
    have h' : (PyData.strOk x && decide (x.cps.size ≤ 20)) = true := h
    rw [Bool.and_eq_true] at h'
    exact ⟨h'.1, rfl, rfl⟩
  | .list xs, h => fine_layAll xs h
  | .tuple xs, h => fine_layAll xs h
  | .dict _, h => by cases h
theorem fine_layAll : ∀ xs : List PyData, fineAll xs = true → PyData.canLayAll0 xs = true ∧ PyData.showableAll xs = true ∧ PyData.hasDictAll xs = false
  | [], _ => ⟨rfl, rfl, rfl⟩
  | x :: xs, h => by
    have h' : (fine x && fineAll xs) = true := h
    rw [Bool.and_eq_true] at h'
    obtain ⟨a1, a2, a3⟩ := fine_lay x h'.1
    obtain ⟨b1, b2, b3⟩ := fine_layAll xs h'.2
    refine ⟨?_, ?_, ?_⟩
    · show (PyData.canLay0 x && PyData.canLayAll0 xs) = true
      rw [a1, b1]
      rfl
    · show (PyData.showable x && PyData.showableAll xs) = true
      rw [a2, b2]
      rfl
    · show (PyData.hasDict x || PyData.hasDictAll xs) = false
      rw [a3, b3]
      rfl
end
theorem listText_le (ts : List Str) : (listText ts).length ≤ piled ts + 2 := by
  cases ts with
  | nil => decide
  | cons t r =>
    have e : listText (t :: r) = textFrom 1 ("[" ++ "" ++ t) r ++ "]" := rfl
    rw [e, strLen_append, textFrom_length_pos r 1 _ (by decide), strLen_append, piled_cons]
    have e1 : (("[" : Str) ++ ("" : Str)).length = 1 := rfl
    have e2 : ((("]" : String) : Str)).length = 1 := rfl
    have e3 : (((("[" : String) : Str) ++ (("" : String) : Str)) : Str).length = 1 := rfl
    omega
theorem tupleText_le (ts : List Str) : (tupleText ts).length ≤ piled ts + 3 := by
  unfold tupleText
  rw [strLen_append, strLen_append]
  have e1 : (("(" : String) : Str).length = 1 := rfl
  have e2 : ((if (ts.length == 1) = true then ",)" else ")" : String) : Str).length ≤ 2 := by
    split
    · decide
    · decide
  cases ts with
  | nil =>
    have : (Str.join ", " ([] : List Str)).length = 0 := rfl
    omega
  | cons t r =>
    have := join_length_add (t :: r) (by simp)
    omega
mutual
theorem shown_le : ∀ d : PyData, fine d = true → d.shown.length ≤ cost d
  | .none, _ => by decide
  | .bool b, _ => by cases b <;> decide
  | .int i, h => by
    have hi : i.natAbs < 1000000 := of_decide_eq_true h
    have e := int_text_length_le10 (k := 6) (a := i) (by decide) hi
    show (Str.ofString (toString i)).length ≤ 22
    rw [PySem.ofString_length]
    omega
  | .str x, h => by
    have h' : (PyData.strOk x && decide (x.cps.size ≤ 20)) = true := h
    rw [Bool.and_eq_true] at h'
    have h2 : x.length ≤ 20 := of_decide_eq_true h'.2
    have h3 : ∀ c ∈ x.cps.toList, c < 16 ^ 8 := fun c hc => by
      have := Array.all_eq_true'.mp h'.1 c (by simpa using hc)
      have := of_decide_eq_true this
      omega
    have := PySem.StrLaws.reprText_len x h3
    show (reprText x).length ≤ 210
    omega
  | .list xs, h => by
    have := listText_le (PyData.shownAll xs)
    have h2 := shown_leAll xs h
    show (listText (PyData.shownAll xs)).length ≤ costAll xs + 3
    omega
  | .tuple xs, h => by
    have := tupleText_le (PyData.shownAll xs)
    have h2 := shown_leAll xs h
    show (tupleText (PyData.shownAll xs)).length ≤ costAll xs + 3
    omega
  | .dict _, h => by cases h
theorem shown_leAll : ∀ xs : List PyData, fineAll xs = true → piled (PyData.shownAll xs) ≤ costAll xs
  | [], _ => Nat.le_refl 0
  | x :: xs, h => by
    have h' : (fine x && fineAll xs) = true := h
    rw [Bool.and_eq_true] at h'
    have h1 := shown_le x h'.1
    have h2 := shown_leAll xs h'.2
    show piled (PyData.shown x :: PyData.shownAll xs) ≤ cost x + 2 + costAll xs
    rw [piled_cons]
    omega
end
structure DOk (d : PyData) : Prop where
  f : fine d = true
  dp : d.depth ≤ 50
  c : cost d ≤ 1000000
theorem DOk.shaped {d : PyData} (h : DOk d) : SeqAt.shaped d = true := by
  unfold SeqAt.shaped
  rw [(fine_lay d h.f).1]
  exact decide_eq_true (Nat.le_trans h.dp (by decide))
theorem DOk.len {d : PyData} (h : DOk d) : d.shown.length ≤ sizeLine := Nat.le_trans (shown_le d h.f) (Nat.le_trans h.c (by rw [sizeLine_eq]; decide))
mutual
theorem Dp.same {K : PySem.W.Frag} {H H' : Hp} (s : Same H H') : ∀ (d : PyData) (v : V), Dp K H v d → Dp K H' v d
  | .none, _, h => by cases h; exact .non
  | .bool _, _, h => by cases h; exact .bl _
  | .int _, _, h => by cases h; exact .int _
  | .str _, _, h => by cases h; exact .str _
  | .list ds, _, h => by
    cases h with
    | lst h1 h2 => exact .lst (s.seq h1) (Dp.sameAll s ds _ h2)
  | .tuple ds, _, h => by
    cases h with
    | tup h1 h2 => exact .tup (Evl.ex_t s h1) (Dp.sameAll s ds _ h2)
  | .dict _, _, h => by cases h
theorem Dp.sameAll {K : PySem.W.Frag} {H H' : Hp} (s : Same H H') : ∀ (ds : List PyData) (vs : List V), DpAll K H vs ds → DpAll K H' vs ds
  | [], _, h => by cases h; exact .nil
  | d :: ds, _, h => by
    cases h with
    | cons h1 h2 => exact .cons (Dp.same s d _ h1) (Dp.sameAll s ds _ h2)
end
/-- two data that are the same -/
def spAlikeD (K : PySem.W.Frag) : Sp := fun vs H Q _ => ∃ (x y : V) (d : PyData), vs = [x, y] ∧ Dp K H x d ∧ Dp K H y d ∧ DOk d ∧ Q (.bl true) H
/-- the names as data -/
def okS (c : Str) : Bool := PyData.strOk c && decide (c.cps.size ≤ 20)
theorem menu_okS : ∀ c ∈ menu, okS c = true := by decide +kernel
theorem fine_strs : ∀ {xs : List Str}, (∀ c ∈ xs, okS c = true) → fineAll (xs.map PyData.str) = true
  | [], _ => rfl
  | x :: xs, h => by
    show (fine (.str x) && fineAll (xs.map PyData.str)) = true
    rw [fine_strs fun c hc => h c (List.mem_cons_of_mem _ hc), Bool.and_true]
    exact h x List.mem_cons_self
theorem cost_strs : ∀ (xs : List Str), costAll (xs.map PyData.str) = 212 * xs.length
  | [] => rfl
  | x :: xs => by
    show cost (.str x) + 2 + costAll (xs.map PyData.str) = _
    rw [cost_strs xs, List.length_cons]
    show 210 + 2 + _ = _
    omega
theorem dok_strs {xs : List Str} (h : ∀ c ∈ xs, okS c = true) (hl : xs.length ≤ 100) : DOk (.tuple (xs.map PyData.str)) :=
  ⟨fine_strs h, by show PyData.depthAll _ + 1 ≤ 50; rw [depth_strs]; decide, by show costAll _ + 3 ≤ _; rw [cost_strs]; omega⟩
/-- a question as data -/
def dQ (cols : List Str) (e : Str) : PyData := .tuple [.tuple (cols.map PyData.str), .str e]
theorem dp_q {K : PySem.W.Frag} {H : Hp} {q : Addr} {cols : List Str} {e : Str} (h : QAt H q cols e) : Dp K H (.ref q) (dQ cols e) := by
  obtain ⟨c, h1, h2⟩ := h
  exact .tup (SqT.of h1) (.cons (.tup (SqT.of h2) (dp_strs _)) (.cons (.str e) .nil))
structure CalG (P : Program) (w : World) (K : PySem.W.Frag) (mg : Str → Option Value) (base : Heap) (k : Nat) (x : Str) (ps : List Str) (sp : Sp) where
  f : Addr
  fd : FuncData
  G : FnG P w K mg base k f fd ps sp
  m : mg x = some (.ref f)
  kp : PySem.W.keepIn K (.ref f) = true
  b : Binds K fd ps []
end Qk

set_option maxRecDepth 100000
set_option maxHeartbeats 4000000
namespace Qk
open PySem PySem.Spec PyProof.Rows L2

/-! ### the order of texts, of tuples of texts, of questions -/
def ltS (a b : Str) : Bool := decide (a.cps.toList < b.cps.toList)
def lexS : List Str → List Str → Bool
  | [], [] => false
  | [], _ :: _ => true
  | _ :: _, [] => false
  | x :: xs, y :: ys => if x = y then lexS xs ys else ltS x y
theorem ltS_irrefl (a : Str) : ltS a a = false := decide_eq_false (List.lt_irrefl _)
theorem ltS_tri {a b : Str} (h : a ≠ b) : ltS a b = true ∨ ltS b a = true := by
  unfold ltS
  by_cases h1 : a.cps.toList < b.cps.toList
  · exact .inl (decide_eq_true h1)
  · by_cases h2 : b.cps.toList < a.cps.toList
    · exact .inr (decide_eq_true h2)
    · exact absurd (str_ext (List.le_antisymm (List.not_lt.mp h2) (List.not_lt.mp h1))) h
theorem ltS_trans {a b c : Str} (h1 : ltS a b = true) (h2 : ltS b c = true) : ltS a c = true := by
  unfold ltS at *
  exact decide_eq_true (List.lt_trans (of_decide_eq_true h1) (of_decide_eq_true h2))
theorem ltS_asym {a b : Str} (h1 : ltS a b = true) : ltS b a = false := by
  cases h2 : ltS b a with
  | false => rfl
  | true =>
    have := ltS_trans h1 h2
    rw [ltS_irrefl] at this
    cases this
theorem lexS_irrefl : ∀ a : List Str, lexS a a = false
  | [] => rfl
  | x :: xs => by
    rw [lexS, if_pos rfl]
    exact lexS_irrefl xs
theorem lexS_tri : ∀ {a b : List Str}, a ≠ b → lexS a b = true ∨ lexS b a = true
  | [], [], h => absurd rfl h
  | [], _ :: _, _ => .inl rfl
  | _ :: _, [], _ => .inr rfl
  | x :: xs, y :: ys, h => by
    rw [lexS, lexS]
    by_cases e : x = y
    · subst e
      rw [if_pos rfl, if_pos rfl]
      exact lexS_tri fun z => h (by rw [z])
    · rw [if_neg e, if_neg (Ne.symm e)]
      exact ltS_tri e
theorem lexS_trans : ∀ {a b c : List Str}, lexS a b = true → lexS b c = true → lexS a c = true
  | [], [], _, h, _ => by cases h
  | [], _ :: _, [], _, h => by cases h
  | [], _ :: _, _ :: _, _, _ => rfl
  | _ :: _, [], _, h, _ => by cases h
  | _ :: _, _ :: _, [], _, h => by cases h
  | x :: xs, y :: ys, z :: zs, h1, h2 => by
    rw [lexS] at h1 h2 ⊢
    by_cases e1 : x = y
    · subst e1
      rw [if_pos rfl] at h1
      by_cases e2 : x = z
      · rw [if_pos e2] at h2 ⊢
        exact lexS_trans h1 h2
      · rw [if_neg e2] at h2 ⊢
        exact h2
    · rw [if_neg e1] at h1
      by_cases e2 : y = z
      · subst e2
        rw [if_neg e1]
        exact h1
      · rw [if_neg e2] at h2
        have h3 := ltS_trans h1 h2
        have e3 : x ≠ z := fun e => by
          subst e
          rw [ltS_asym h1] at h2
          cases h2
        rw [if_neg e3]
        exact h3
theorem lexS_asym {a b : List Str} (h1 : lexS a b = true) : lexS b a = false := by
  cases h2 : lexS b a with
  | false => rfl
  | true =>
    have := lexS_trans h1 h2
    rw [lexS_irrefl] at this
    cases this
abbrev Qd := List Str × Str
def ltQ (p q : Qd) : Bool := if p.1 = q.1 then ltS p.2 q.2 else lexS p.1 q.1
theorem ltQ_irrefl (p : Qd) : ltQ p p = false := by
  unfold ltQ
  rw [if_pos rfl]
  exact ltS_irrefl _
theorem ltQ_tri {p q : Qd} (h : p ≠ q) : ltQ p q = true ∨ ltQ q p = true := by
  unfold ltQ
  by_cases e : p.1 = q.1
  · rw [if_pos e, if_pos e.symm]
    exact ltS_tri fun z => h (Prod.ext e z)
  · rw [if_neg e, if_neg (Ne.symm e)]
    exact lexS_tri e
theorem ltQ_trans {p q r : Qd} (h1 : ltQ p q = true) (h2 : ltQ q r = true) : ltQ p r = true := by
  unfold ltQ at *
  by_cases e1 : p.1 = q.1
  · rw [if_pos e1] at h1
    by_cases e2 : q.1 = r.1
    · rw [if_pos e2] at h2
      rw [if_pos (e1.trans e2)]
      exact ltS_trans h1 h2
    · rw [if_neg e2] at h2
      rw [if_neg (e1 ▸ e2), e1]
      exact h2
  · rw [if_neg e1] at h1
    by_cases e2 : q.1 = r.1
    · rw [if_pos e2] at h2
      rw [if_neg (e2 ▸ e1), ← e2]
      exact h1
    · rw [if_neg e2] at h2
      have h3 := lexS_trans h1 h2
      have e3 : p.1 ≠ r.1 := fun e => by
        rw [e] at h1
        rw [lexS_asym h1] at h2
        cases h2
      rw [if_neg e3]
      exact h3
theorem ltQ_asym {p q : Qd} (h1 : ltQ p q = true) : ltQ q p = false := by
  cases h2 : ltQ q p with
  | false => rfl
  | true =>
    have := ltQ_trans h1 h2
    rw [ltQ_irrefl] at this
    cases this
theorem swo_q {α : Type} (k : α → Qd) : SrtO.Swo fun x y => ltQ (k x) (k y) := by
  refine ⟨fun x y h => ltQ_asym h, fun x y z h1 h2 => ?_⟩
  -- not y < x, not z < y: not z < x
  cases h3 : ltQ (k z) (k x) with
  | false => rfl
  | true =>
    by_cases e : k x = k y
    · rw [e] at h3
      have : ltQ (k z) (k y) = false := h2
      rw [this] at h3
      cases h3
    · rcases ltQ_tri e with h | h
      · have h4 : ltQ (k z) (k y) = true := ltQ_trans h3 h
        rw [h2] at h4
        cases h4
      · have : ltQ (k y) (k x) = false := h1
        rw [this] at h
        cases h
theorem perm_ltQ : ∀ {xs ys : List Qd}, xs.Perm ys → xs.Pairwise (fun a b => ltQ b a = false) → ys.Pairwise (fun a b => ltQ b a = false) → xs = ys
  | [], ys, h, _, _ => List.Perm.nil_eq h
  | x :: xs, [], h, _, _ => absurd h.length_eq (by simp)
  | x :: xs, y :: ys, h, h1, h2 => by
    have e : x = y := by
      rcases List.mem_cons.mp (h.mem_iff.mp List.mem_cons_self) with e | m1
      · exact e
      · rcases List.mem_cons.mp (h.mem_iff.mpr List.mem_cons_self) with e | m2
        · exact e.symm
        · have a1 := (List.pairwise_cons.mp h1).1 y m2
          have a2 := (List.pairwise_cons.mp h2).1 x m1
          by_cases e : x = y
          · exact e
          · rcases ltQ_tri e with h | h
            · rw [a2] at h; cases h
            · rw [a1] at h; cases h
    subst e
    rw [perm_ltQ (List.Perm.cons_inv h) (List.pairwise_cons.mp h1).2 (List.pairwise_cons.mp h2).2]

/-! ### t < u of tuples of texts -/
section
open PySem.SeqAt
open PySem.AutoSeq1 (wpAny_loadPart')
open PySem.MeetsSeq PySem.MeetsSeq2 PySem.MeetsSeq3
theorem eqAt_str (A : Around) (s : Shared) (a : Str) (t : Tok) (c : Str) (u : Tok) : ∃ e, SeqAt.EqAt A s (.str a t) (.str c u) e ∧ (e = true ↔ a = c) :=
  ⟨(a == c), SeqAt.EqAt.str_str a t c u, by simp⟩
theorem rcLt_str (A : Around) (s : Shared) (a : Str) (t : Tok) (c : Str) (u : Tok) (prog : Program) (w : World) (E : Value → Shared → Prop) (Q : Value → Shared → Prop) (h : Q (.bool (ltS a c)) s) :
    wpAny (model prog w) A (richCompare .Lt (.str a t) (.str c u)) Q E s := by
  have z : wpAny (model prog w) A (compareOp .Lt (.str a t) (.str c u)) Q E s := PySem.P.lt_str h
  exact z
theorem tuple_lt_texts (l b : Addr) (us vs : Array Value) (n m : Nat) (d1 d2 : Option Addr) (sl1 sl2 : Array (Option Value)) (xs ys : List Str) (hx : StrsAre us.toList xs) (hy : StrsAre vs.toList ys) :
    Meets (Builtin.«tuple.__lt__» ⟨[.ref l, .ref b], []⟩)
      (fun _ R s => s.heap.get? l = some { cls := .type "tuple", dict := d1, data := .seq us n, slots := sl1 } ∧ s.heap.get? b = some { cls := .type "tuple", dict := d2, data := .seq vs m, slots := sl2 } ∧
        R (.ok (.ret (.bool (lexS xs ys)))) s) :=
  .of_wp fun prog w A R s h => by
    obtain ⟨hp, g, d, tk, os⟩ := s; obtain ⟨hl, hb, h⟩ := h
    have f2 := AutoSeq1.sub_tuple_tuple
    have z1 : us.size = xs.length := by rw [← hx.length]; simp
    have z2 : vs.size = ys.length := by rw [← hy.length]; simp
    wp_walk using wpAny_loadPart' hl, wpAny_loadPart' hb, wpAny_forIn_list _ (fun rest b s' => b.1 = none ∧ s' = ⟨hp, g, d, tk, os⟩ ∧ ∃ (as bs : List Value) (x' y' : List Str), rest = as.zip bs ∧
      StrsAre as x' ∧ StrsAre bs y' ∧ x'.length + vs.size = y'.length + us.size ∧ R (.ok (.ret (.bool (lexS x' y')))) ⟨hp, g, d, tk, os⟩) _
    case turn =>
      rintro ⟨u, v⟩ rest b s' ⟨hb', rfl, as, bs, x', y', hz, ha, hc, hlen, hR⟩
      cases ha with
      | nil => rw [List.zip_nil_left] at hz; cases hz
      | cons a t ha' =>
        cases hc with
        | nil => rw [List.zip_nil_right] at hz; cases hz
        | cons c t2 hc' =>
          rw [List.zip_cons_cons] at hz
          injection hz with e1 hrest
          injection e1 with eu ev
          subst eu ev
          rw [lexS] at hR
          simp only [List.length_cons] at hlen
          obtain ⟨e, he, hiff⟩ := eqAt_str A.in1 ⟨hp, g, d, tk, os⟩ a t c t2
          refine wpAny_bind (he prog w _ _ ?_)
          cases e with
          | true =>
            rw [if_pos (hiff.mp rfl)] at hR
            wp_walk
            exact ⟨rfl, rfl, _, _, _, _, hrest, ha', hc', by omega, hR⟩
          | false =>
            rw [if_neg (fun q => absurd (hiff.mpr q) Bool.false_ne_true)] at hR
            have hri := rcLt_str A.in1 ⟨hp, g, d, tk, os⟩ a t c t2 prog w
            wp_walk using hri
            exact ⟨_, rfl, by simpa using hR⟩
    case fin =>
      rintro ⟨b1, b2⟩ s' ⟨hb', rfl, as, bs, x', y', hz, ha, hc, hlen, hR⟩
      simp only at hb'
      subst hb'
      have hv : lexS x' y' = decide (us.size < vs.size) := by
        cases ha with
        | nil =>
          cases hc with
          | nil =>
            simp only [List.length_nil] at hlen
            exact (decide_eq_false (by omega)).symm
          | cons c u hw =>
            simp only [List.length_nil, List.length_cons] at hlen
            exact (decide_eq_true (by omega)).symm
        | cons a t hv =>
          cases hc with
          | nil =>
            simp only [List.length_nil, List.length_cons] at hlen
            exact (decide_eq_false (by omega)).symm
          | cons c u hw =>
            rw [List.zip_cons_cons] at hz
            cases hz
      rw [hv] at hR
      wp_walk
      exact ⟨_, rfl, by simpa [Builtin.Tuple.tupleCompareSizes] using hR⟩
    case h =>
      exact ⟨rfl, rfl, us.toList, vs.toList, xs, ys, rfl, hx, hy, by omega, h⟩
theorem lt_tupTexts {prog : Program} {w : World} {A : Around} {E : Value → Shared → Prop} {s : Shared} {l b : Addr} {us vs : Array Value} {xs ys : List Str} {Q : Value → Shared → Prop} (hl : IsTup s.heap l us) (hb : IsTup s.heap b vs)
    (hx : StrsAre us.toList xs) (hy : StrsAre vs.toList ys) (hu : A.units < cLine) (h : Q (.bool (lexS xs ys)) s) : wpAny (model prog w) A (compareOp .Lt (.ref l) (.ref b)) Q E s := by
  obtain ⟨⟨c1, d1, e1, sl1⟩, ho, hc, n, hd⟩ := id hl
  obtain ⟨⟨c2, d2, e2, sl2⟩, ho2, hc2, m, hd2⟩ := id hb
  simp only at hc hd hc2 hd2
  subst hc hd hc2 hd2
  exact richCompare_meets_room (op := .Lt) ⟨_, ho, rfl⟩ ⟨_, ho2, rfl⟩ PySem.F.slot_tuple_lt PySem.F.entry_tuple_lt (PySem.F.args_tuple_lt_2 _ _) (tuple_lt_texts l b us vs n m d1 d2 sl1 sl2 xs ys hx hy)
    ⟨ho, ho2, show Value.bool (lexS xs ys) ≠ Value.notImplemented ∧ Q (.bool (lexS xs ys)) s from ⟨(fun x => nomatch x), h⟩⟩ hu
end
/-! ### sorted of questions -/
/-- v is a question in the heap -/
def IsQ (h : Heap) (v : Value) (q : Qd) : Prop := ∃ (a c : Addr) (o oc : Obj) (t : Tok) (us : List Value) (n m : Nat), v = .ref a ∧ h.get? a = some o ∧ o.cls = .type "tuple" ∧ o.data = .seq #[.ref c, .str q.2 t] n ∧
  h.get? c = some oc ∧ oc.cls = .type "tuple" ∧ oc.data = .seq us.toArray m ∧ StrsAre us q.1
theorem IsQ.keeps {h h' : Heap} {v : Value} {q : Qd} (x : IsQ h v q) (k : ∀ b o, h.get? b = some o → o.cls = .type "tuple" → h'.get? b = some o) : IsQ h' v q := by
  obtain ⟨a, c, o, oc, t, us, n, m, e, ho, hc, hd, hoc, hcc, hdc, hs⟩ := x
  exact ⟨a, c, o, oc, t, us, n, m, e, k _ _ ho hc, hc, hd, k _ _ hoc hcc, hcc, hdc, hs⟩
section
variable {prog : Program} {w : World} {A : Around} {E : Value → Shared → Prop} {s : Shared}
theorem reads_strs {h : Heap} : ∀ {us : List Value} {xs : List Str}, StrsAre us xs → ∃ as, ReadsAll h us (xs.map PyData.str) as
  | _, _, .nil => ⟨_, ReadsAll.nil⟩
  | _, _, .cons x t r => by
    obtain ⟨as, q⟩ := reads_strs (h := h) r
    exact ⟨_, ReadsAll.cons (Reads.str x t) q⟩
theorem q_cmp {vs : List Value} {k : Value → Qd} (hu : A.units + 64 < cLine) (hm : ∀ v ∈ vs, ∀ c ∈ (k v).1, PyData.strOk c = true) (hp : ∀ v ∈ vs, IsQ s.heap v (k v)) : SrtO.Cmp prog w A s (tuples' false) (fun p => p.1 ∈ vs) (SrtO.lt2 fun v u => ltQ (k v) (k u)) := by
  intro p q hm1 hm2
  have h1 := hp _ hm1
  have h2 := hp _ hm2
  have m1 := hm _ hm1
  have m2 := hm _ hm2
  show wpAny (model prog w) A (keyLt' (tuples' false) p.1 q.1) (fun r s' => s' = s ∧ r = ltQ (k p.1) (k q.1)) (fun _ _ => False) s
  generalize k p.1 = x at h1 m1 ⊢
  generalize k q.1 = y at h2 m2 ⊢
  obtain ⟨xc, xe⟩ := x
  obtain ⟨yc, ye⟩ := y
  obtain ⟨a, c, o, oc, t, us, n, m, e, ho, hc, hd, hoc, hcc, hdc, hs⟩ := h1
  obtain ⟨a', c', o', oc', t', us', n', m', e', ho', hc', hd', hoc', hcc', hdc', hs'⟩ := h2
  rw [e, e']
  refine PySem.W.kat_lt ho hd ho' hd' ?_
  show PySem.W.KatLex prog w A false (decide (2 < 2)) _ [(.ref c, .ref c'), (.str xe t, .str ye t')] 0 s
  obtain ⟨as, r1⟩ := reads_strs (h := s.heap) hs
  obtain ⟨bs, r2⟩ := reads_strs (h := s.heap) hs'
  have rd1 : Reads s.heap (.ref c) (.tuple (xc.map PyData.str)) as := Reads.tuple hoc hcc hdc (by simpa using r1)
  have rd2 : Reads s.heap (.ref c') (.tuple (yc.map PyData.str)) bs := Reads.tuple hoc' hcc' hdc' (by simpa using r2)
  have l1 : (PyData.tuple (xc.map PyData.str)).canLay0 = true := lay_strs m1
  have l2 : (PyData.tuple (yc.map PyData.str)).canLay0 = true := lay_strs m2
  refine PySem.W.kat_cons (SeqAt.eqBoolOverData prog w A _ s _ _ _ _ as bs _ rd1 rd2 l1 l2 ?_ ?_)
  · have : (PyData.tuple (xc.map PyData.str)).depth = 1 := by
      show PyData.depthAll _ + 1 = 1
      rw [depth_strs]
    omega
  rw [PyData.eqv, eqv_strs]
  by_cases ex : xc = yc
  · rw [decide_eq_true ex]
    refine PySem.W.kat_yes (PySem.W.kat_cons (SeqAt.EqAt.str_str xe t ye t' prog w _ _ ?_))
    by_cases ey : xe = ye
    · have e3 : ltQ (xc, xe) (yc, ye) = false := by rw [ex, ey]; exact ltQ_irrefl _
      have e4 : (xe == ye) = true := beq_iff_eq.mpr ey
      rw [e4]
      exact PySem.W.kat_yes (PySem.W.kat_nil ⟨rfl, e3.symm⟩)
    · have e3 : ltQ (xc, xe) (yc, ye) = ltS xe ye := if_pos ex
      have e4 : (xe == ye) = false := beq_eq_false_iff_ne.mpr ey
      rw [e4]
      refine PySem.W.kat_no (PySem.W.kat_one _ _ (rcLt_str A s xe t ye t' prog w _ _ ?_))
      exact (show s = s ∧ ltS xe ye = ltQ (xc, xe) (yc, ye) from ⟨rfl, e3.symm⟩)
  · rw [decide_eq_false ex]
    have e3 : ltQ (xc, xe) (yc, ye) = lexS xc yc := if_neg ex
    refine PySem.W.kat_no (PySem.W.kat_one _ _ (lt_tupTexts (us := us.toArray) (vs := us'.toArray) ⟨oc, hoc, hcc, m, hdc⟩ ⟨oc', hoc', hcc', m', hdc'⟩ (by simpa using hs) (by simpa using hs') (by omega) ?_))
    exact (show s = s ∧ lexS xc yc = ltQ (xc, xe) (yc, ye) from ⟨rfl, e3.symm⟩)
theorem q_firsts {h : Heap} : ∀ {vs : List Value} {k : Value → Qd}, (∀ v ∈ vs, IsQ h v (k v)) → ∃ fs : List Value, PySem.W.KatTups h vs fs ∧ fs.length = vs.length ∧ ∀ f ∈ fs, ∃ c oc, f = Value.ref c ∧ h.get? c = some oc ∧ oc.cls = .type "tuple"
  | [], _, _ => ⟨[], PySem.W.KatTups.nil, rfl, fun _ hm => by simp at hm⟩
  | v :: vs, k, hp => by
    obtain ⟨fs, h1, h2, h3⟩ := q_firsts (vs := vs) (k := k) fun v' hm => hp v' (List.mem_cons_of_mem _ hm)
    obtain ⟨a, c, o, oc, t, us, n, m, e, ho, hc, hd, hoc, hcc, hdc, hs⟩ := hp v List.mem_cons_self
    subst e
    refine ⟨.ref c :: fs, PySem.W.KatTups.cons ho hc hd rfl h1, by rw [List.length_cons, List.length_cons, h2], fun f hm => ?_⟩
    rcases List.mem_cons.mp hm with rfl | hm
    · exact ⟨c, oc, rfl, hoc, hcc⟩
    · exact h3 f hm
theorem q_sortable {a : Addr} {vs : List Value} {k : Value → Qd} (hu : A.units + 64 < cLine) (h0 : 0 < vs.length) (hm : ∀ v ∈ vs, ∀ c ∈ (k v).1, PyData.strOk c = true) (hp : ∀ v ∈ vs, IsQ s.heap v (k v)) (ha : ∀ o, s.heap.get? a = some o → o.cls ≠ .type "tuple") :
    SrtO.SortableO prog w A s a vs fun v u => ltQ (k v) (k u) := by
  intro h' keep
  have hp' : ∀ v ∈ vs, IsQ h' v (k v) := fun v hm => (hp v hm).keeps fun b o e c => keep b o (fun z => by subst z; exact ha o e c) e
  obtain ⟨fs, h1, h2, h3⟩ := q_firsts hp'
  refine ⟨tuples' false, fun Q E hq => ?_, q_cmp hu hm hp'⟩
  refine PySem.W.kat_kind (T := .type "tuple") h1 (by omega) (fun f hf => ?_) (by rfl) ?_
  · obtain ⟨c, oc, rfl, hoc, hcc⟩ := h3 f hf
    rw [← hcc]
    exact (PySem.W.Looks.ld hoc).andThen PySem.W.Looks.now
  · have e : (Value.type "tuple" != Value.type "tuple") = false := by first | decide +kernel | rfl | decide
    rw [e]
    exact hq
end
section
variable {X : Cx}
/-- sorted(xs) of questions: a new list of the same ones, rising -/
def rSortedQ (K : PySem.W.Frag) : List V → Hp → VK → Prop := fun vs H Q => ∃ (a : Addr) (xs : List V) (k : V → Qd), vs = [V.ref a] ∧ SqL K H a xs ∧ (∀ x ∈ xs, ∃ t, x = V.ref t ∧ QAt H t (k x).1 (k x).2 ∧ ∀ c ∈ (k x).1, PyData.strOk c = true) ∧
  ∀ ys p, ys.Perm xs → (ys.map k).Pairwise (fun a b => ltQ b a = false) → H p = none → Q (.ref p) (upd H p (.lst ys))
theorem cr_sortedQ (hu : X.A.units + 80 < cLine) : CallR X (.builtin "sorted") (rSortedQ X.K) := by
  intro pins s σ H vs us Q I r h
  obtain ⟨a, xs, k, rfl, hs, hx, q⟩ := h
  obtain ⟨its, rv, hl, hz⟩ := I.list hs
  obtain ⟨u, rfl, ru⟩ := vals1 r
  obtain rfl : u = Value.ref a := ru
  obtain ⟨e1, e2⟩ := refs_back rv fun x m => by
    obtain ⟨t, e, _⟩ := hx x m
    exact ⟨t, e⟩
  have isq : ∀ v ∈ its, IsQ s.heap v (k (backV v)) ∧ ∀ c ∈ (k (backV v)).1, PyData.strOk c = true := fun v hv => by
    obtain ⟨t, rfl⟩ := e2 v hv
    have hmem : V.ref t ∈ xs := by rw [e1]; exact List.mem_map.mpr ⟨_, hv, rfl⟩
    obtain ⟨t', e, ⟨c, g1, g2⟩, g3⟩ := hx _ hmem
    cases e
    obtain ⟨_, i1, r1, o, ho, hc, n, hd⟩ := I.hok _ _ g1
    obtain ⟨_, i2, r2, oc, hoc, hcc, m, hdc⟩ := I.hok _ _ g2
    obtain ⟨u1, u2, rfl, ra, rb⟩ := vals2 r1
    obtain rfl : u1 = Value.ref c := ra
    obtain ⟨tk, rfl⟩ := rb
    exact ⟨⟨t, c, o, oc, tk, i2, n, m, rfl, ho, hc, hd, hoc, hcc, hdc, r2.strs⟩, g3⟩
  refine SrtO.sorted_ord (swo_q fun u => k (backV u)) hl.isList (by rw [← rv.length]; exact hz) (fun h2 h₁ b hb kk => ?_) fun out h1 h2 => ?_
  · refine q_sortable (s := { s with heap := h₁ }) (by show X.A.units + 1 + 1 + 64 < cLine; omega) (by omega) (fun v hv => (isq v hv).2) (fun v hv => (isq v hv).1.keeps fun c o e _ => (kk c o e).2) fun o e => ?_
    have e' : some o = some (seqObj "list" its.toArray 0) := e.symm.trans hb
    cases e'
    intro c
    exact absurd (Value.type.inj c) (by decide)
  · have h3 : ∀ u ∈ out, ∃ a, u = Value.ref a := fun u hu => e2 u (h2.perm.mem_iff.mp hu)
    obtain ⟨n, hn⟩ := sortedAll_at s.heap its out.toArray
    have hperm : (out.map backV).Perm xs := by
      rw [e1]
      exact h2.perm.map backV
    have hsrt : ((out.map backV).map k).Pairwise (fun a b => ltQ b a = false) := by
      rw [List.map_map]
      exact List.pairwise_map.mpr h1
    refine ⟨.ref (s.heap.objs.size + 1), upd H (s.heap.objs.size + 1) (.lst (out.map backV)), I.laid (t' := s.toks) (fun b o e => sortedAll_old e) (Nat.le_succ _) ⟨?_, out, n, vals_back h3, hn⟩, rfl, q _ _ hperm hsrt (I.hok.fresh (Nat.le_succ _))⟩
    rw [hperm.length_eq]
    exact hz
end
end Qk

set_option maxRecDepth 100000
set_option maxHeartbeats 4000000
namespace Qk
open PySem PySem.Spec PyProof.Rows L2 PySem.W

/-! ### enumerate of a tuple -/
set_option maxHeartbeats 1000000 in
theorem meets_enum1 {v : Value} {o : Obj} {H : Heap → Prop} (B : Begins v o H) :
    Meets (Builtin.«enumerate.__new__» ⟨[.type "enumerate", v], []⟩) (fun _ R s => H s.heap ∧
      R (.ok (.ret (.ref (s.heap.push o).objs.size))) { s with heap := (s.heap.push o).push { cls := .type "enumerate", data := .fields #[.none, .bool false, .ref s.heap.objs.size, rawInt 0, .none, .none] } }) :=
  .of_wp fun prog w A R s h => by
    obtain ⟨hp, g, d, tk, os⟩ := s
    obtain ⟨h1, h⟩ := h
    have hsub := sub_enumerate
    have q1 : ∀ {A' : Around} {E : Value → Shared → Prop} {Q : Value → Shared → Prop}, Q (.ref hp.objs.size) ⟨hp.push o, g, d, tk, os⟩ → wpAny (model prog w) A' (pyIter v) Q E ⟨hp, g, d, tk, os⟩ :=
      fun q => B.iter prog w _ _ ⟨hp, g, d, tk, os⟩ _ h1 q
    wp_walk using q1
    refine wpAny_stack_any fun st => wpAny_pure ?_
    split
    · rename_i c _ _ _ _ _
      cases (c == Value.type "enumerate")
      · wp_walk using q1
        exact ⟨_, rfl, h⟩
      · wp_walk using q1
        exact ⟨_, rfl, h⟩
    · wp_walk using q1
      exact ⟨_, rfl, h⟩
theorem call_enum1 {prog : Program} {w : World} {A : Around} {E : Value → Shared → Prop} {s : Shared} {v : Value} {o : Obj} {H : Heap → Prop} {Q : Value → Shared → Prop} (B : Begins v o H) (h1 : H s.heap)
    (h : ∀ h', IsEnum h' (s.heap.objs.size + 1) s.heap.objs.size 0 .none → h'.get? s.heap.objs.size = some o → (∀ b o, s.heap.get? b = some o → h'.get? b = some o) → Q (.ref (s.heap.objs.size + 1)) { s with heap := h' }) :
    wpAny (model prog w) A (call (.type "enumerate") [v]) Q E s := by
  refine callType_new F.called_enumerate (by decide) (F.typeCall_enumerate_1 _) (F.newCall_enumerate_1 _) (fun obj => F.args_object_init_2 obj _) F.entry_enumerate_new (meets_enum1 B) ⟨h1, ?_⟩
  have hz : (s.heap.push o).objs.size = s.heap.objs.size + 1 := Heap.size_push ..
  show _ ∧ _
  rw [hz]
  have he : IsEnum ((s.heap.push o).push { cls := .type "enumerate", data := .fields #[.none, .bool false, .ref s.heap.objs.size, rawInt 0, .none, .none] }) (s.heap.objs.size + 1) s.heap.objs.size 0 .none := by
    have q := Heap.get?_push_size (s.heap.push o) (o := { cls := .type "enumerate", data := .fields #[.none, .bool false, .ref s.heap.objs.size, rawInt 0, .none, .none] }) rfl
    rw [hz] at q
    exact q
  exact ⟨⟨_, he, rfl⟩, h _ he (Heap.get?_push_of_some _ (Heap.get?_push_size _ B.free)) fun b u x => Heap.get?_push_of_some _ (Heap.get?_push_of_some _ x)⟩
/-- the tuple at a, each item in a new pair -/
def IteT (K : PySem.W.Frag) (a : Addr) : It :=
  ⟨fun i H => ∃ (xs : List V) (x : V), SqT K H a xs ∧ xs[i]? = some x, fun i H v H' => ∃ T x, v = .ref T ∧ H T = none ∧ H' = upd H T (.tup [.int (i : Nat), x]) ∧ ∀ xs, SqT K H a xs → xs[i]? = some x, fun i H => ∃ xs : List V, SqT K H a xs ∧ xs.length = i⟩
theorem turn_enumT {P : Program} {w : World} {K : PySem.W.Frag} {elts : List Expr} {kk : Nat} {tpos : Pos} (a e it : Addr) :
    Turn P w K (.Tuple elts kk tpos) (IteT K a) [e, it] e (fun i h => (∃ old, IsEnum h e it ((i : Nat) : Int) old) ∧ h.IsTupleIter it a i ∧ e ≠ it ∧ a ≠ it ∧ a ≠ e) where
  mem := by simp
  obj := fun i h st b hb => by
    obtain ⟨⟨old, he⟩, ⟨o, ho, hc, hd⟩, _⟩ := st
    have e' : b = e ∨ b = it := by simpa using hb
    rcases e' with z | z
    · rw [z]; exact ⟨_, he, fun v q => nomatch q⟩
    · rw [z]; exact ⟨o, ho, fun v q => by rw [hd] at q; cases q⟩
  keep := fun i h h' st k => let ⟨⟨old, he⟩, hi, hne⟩ := st; ⟨⟨old, k e (by simp) _ he⟩, hi.at fun o q => k it (by simp) o q, hne⟩
  item := by
    intro X hP hw hK hc i pins s σ H E I hf st hg
    subst hP hw hK
    obtain ⟨⟨old, he⟩, hit, hne, hai, hae⟩ := st
    obtain ⟨xs, x, hq, hx⟩ := hg
    obtain ⟨its, rv, p, hz⟩ := I.tuple hq
    obtain ⟨u, hu, ru⟩ := rv.get hx
    have hel : e < s.heap.objs.size := Heap.lt_size he
    have hil : it < s.heap.objs.size := by obtain ⟨_, q, _⟩ := hit; exact Heap.lt_size q
    have hT0 : s.heap.IsTuple a its.toArray := p
    have hlt : i < its.toArray.size := by
      have := (List.getElem?_eq_some_iff.mp hu).1
      simpa using this
    refine wpAny_pyNext_enum_itemD (Draws.tuple (A := X.A.in1) (I.ok.hd hc) it a hai its.toArray) he ⟨hit, hT0⟩ hlt hne (by simp [Ne.symm hae, hne]) fun y h' tk hy ho hst hT hsz hk => ?_
    have hyu : y = u := by
      have h1 : its.toArray[i]? = some y := hy
      rw [List.getElem?_toArray, hu] at h1
      exact (Option.some.inj h1).symm
    subst hyu
    obtain ⟨hit', _⟩ := hst
    refine ⟨_, rfl, wpAny_letOwnedTupleGo_enum (s := { s with heap := h', toks := tk + 1 }) ho fun h'' he' sb => ?_⟩
    have hT2 : h''.get? s.heap.objs.size = some { cls := .type "tuple", data := .seq #[.int i tk, y] } := (sb.2 _ (Nat.ne_of_gt hel)).trans hT
    have new : ObjOk X.prog X.w (upd H s.heap.objs.size (.tup [.int (i : Nat), x])) h'' s.heap.objs.size (.tup [.int (i : Nat), x]) :=
      ⟨by show 2 ≤ sizeLine; decide, [.int i tk, y], .cons ⟨_, rfl⟩ (.cons ru .nil), ⟨_, hT2, rfl, _, rfl⟩⟩
    have I1 : Inv X pins σ (upd H s.heap.objs.size (.tup [.int (i : Nat), x])) { s with heap := h'', toks := tk + 1 } :=
      I.turnedNew (ch := [e, it]) (fun b ob hb q => (sb.2 b (fun z => hb (by simp [z]))).trans (hk b ob (fun z => hb (by simp [z])) (fun z => hb (by simp [z])) q)) hf (Nat.le_refl _) new
    refine ⟨.ref s.heap.objs.size, _, I1, rfl, ⟨_, x, rfl, I.hok.fresh (Nat.le_refl _), rfl, fun ys hy => by rw [I.tuple_inj hy hq]; exact hx⟩, ⟨⟨y, ?_⟩, hit'.at fun o q => (sb.2 it (Ne.symm hne)).trans q, hne, hai, hae⟩, fun b hb => ?_⟩
    · have e1 : ((i + 1 : Nat) : Int) = (i : Int) + 1 := by omega
      rw [e1]; exact he'
    · have hb' : b < s.heap.objs.size := by
        have e' : b = e ∨ b = it := by simpa using hb
        rcases e' with z | z
        · rw [z]; exact hel
        · rw [z]; exact hil
      rw [upd_ne (Nat.ne_of_lt hb')]
      exact (hf b hb).1
  done := by
    intro X hP hw hK hc i pins s σ H E I hf st hg
    subst hP hw hK
    obtain ⟨⟨old, he⟩, hit, hne, hai, hae⟩ := st
    obtain ⟨xs, hq, hx⟩ := hg
    obtain ⟨its, rv, p, hz⟩ := I.tuple hq
    obtain ⟨f0, f1, f2, f3, f4, f5⟩ := hf it (by simp)
    have hT0 : s.heap.IsTuple a its.toArray := p
    have hi : i = its.toArray.size := by
      rw [List.size_toArray, ← rv.length]
      exact hx.symm
    subst hi
    exact wpAny_pyNext_enum_endD (Draws.tuple (A := X.A.in1) (I.ok.hd hc) it a hai its.toArray) he ⟨hit, hT0⟩ fun h' eb => ⟨rfl, I.turned (t' := s.toks) (fun b o hb q => eb b o hb q) f0 f1 f3 f4 f5⟩
  self := fun A i s Q E st h => let ⟨⟨_, he⟩, _⟩ := st; wpAny_pyIter_enum he h
def iEnumT (K : PySem.W.Frag) (ta : TA) : TI := fun σ H R => ta σ H fun vs H1 => ∃ a xs, vs = [.ref a] ∧ SqT K H1 a xs ∧ R (IteT K a) H1
theorem pi_enumT {X : Cx} {e : Expr} {ta : TA} {p pos tpos : Pos} {elts : List Expr} {kk : Nat} (hg : Gl X "enumerate") (hm : X.mg "enumerate" = none) (ha : PA X [e] ta) (hs : starEach [e] X.env = [(false, eval e X.env)] := by rfl) :
    PI X (.Tuple elts kk tpos) (.Call (.Name "enumerate" p) [e] [] pos) (iEnumT X.K ta) := by
  refine ⟨fun pins s σ H R I h => ?_⟩
  refine Call_ (ld_blt I hg hm boot_enumerate (PyProof.Rows.callWith_type1 (thn (ha.run pos pins s σ H _ I h) fun us s1 ⟨vs, H1, I1, r1, q1⟩ => ?_) hs rfl))
  obtain ⟨a, xs, ex, hq, q⟩ := q1
  subst ex
  cases r1 with
  | cons r rr =>
    cases rr
    cases r
    obtain ⟨its, rv, p', hz⟩ := I1.tuple hq
    have al : a < s1.heap.objs.size := p'.lt
    refine call_enum1 (begins_tuple a its.toArray) p' fun h' he hit hk => wpAny_pyIter_enum he ?_
    have I2 : Inv X pins σ H1 { s1 with heap := h' } := I1.kept (t' := s1.toks) hk
    refine ⟨s1.heap.objs.size + 1, [s1.heap.objs.size + 1, s1.heap.objs.size], _, _, H1, rfl, I2, turn_enumT a (s1.heap.objs.size + 1) s1.heap.objs.size, ⟨⟨.none, he⟩, ⟨_, hit, rfl, rfl⟩, Nat.succ_ne_self _, Nat.ne_of_lt al, Nat.ne_of_lt (Nat.lt_succ_of_lt al)⟩, fun b hb => ?_, q⟩
    have e' : b = s1.heap.objs.size + 1 ∨ b = s1.heap.objs.size := by simpa using hb
    have hle : s1.heap.objs.size ≤ b := by
      rcases e' with z | z
      · rw [z]; exact Nat.le_add_right _ _
      · rw [z]; exact Nat.le_refl _
    exact I1.fpOk hle (I1.hok.fresh hle)
/-- for i, x in enumerate(t): a word of the turn, the slots, the heap -/
theorem for_enumT {K : PySem.W.Frag} {a : Addr} {xs : List V} {g : TG} {tb : TS} {D : Ends} {σ : L2.St} {H : Hp} (Pv : Nat → L2.St → Hp → Prop) (h0 : Pv 0 σ H) (hl : ∀ i σ H, i ≤ xs.length → Pv i σ H → SqT K H a xs)
    (hs : ∀ i x σ H, xs[i]? = some x → Pv i σ H → ∀ T, H T = none → g (.ref T) σ (upd H T (.tup [.int (i : Nat), x])) fun σ2 H2 => tb { D with nx := Pv (i + 1), ct := Pv (i + 1), bk := D.nx } σ2 H2) (hd : ∀ σ H, Pv xs.length σ H → D.nx σ H) :
    ∃ W : Nat → Nat → L2.St → Hp → Prop, (∃ m, W 0 m σ H) ∧ ∀ i m σ H, W i m σ H →
      ((IteT K a).stop i H ∧ D.nx σ H) ∨ ((IteT K a).go i H ∧ ∃ N : L2.St → Hp → Prop, (∀ σ' H', N σ' H' → ∃ m', m' < m ∧ W (i + 1) m' σ' H') ∧ ∀ x H', (IteT K a).yld i H x H' → g x σ H' fun σ2 H2 => tb { D with nx := N, ct := N, bk := D.nx } σ2 H2) := by
  refine ⟨fun i m σ H => m = xs.length - i ∧ i ≤ xs.length ∧ Pv i σ H, ⟨xs.length, by simp, Nat.zero_le _, h0⟩, ?_⟩
  rintro i m σ H ⟨rfl, hi, p⟩
  have q := hl i σ H hi p
  rcases Nat.lt_or_ge i xs.length with hlt | hge
  · have hx : xs[i]? = some xs[i] := List.getElem?_eq_getElem hlt
    refine .inr ⟨⟨xs, xs[i], q, hx⟩, Pv (i + 1), fun σ' H' p' => ⟨xs.length - (i + 1), by omega, rfl, hlt, p'⟩, fun x H' y => ?_⟩
    obtain ⟨T, z, rfl, hT, rfl, hz⟩ := y
    have e := hz xs q
    exact hs i z σ H e p T hT
  · have e : i = xs.length := by omega
    subst e
    exact .inl ⟨⟨xs, q, rfl⟩, hd σ H p⟩
end Qk

set_option maxRecDepth 100000
set_option maxHeartbeats 4000000
namespace Qk
open PySem PySem.Spec PyProof.Rows L2

/-! the sorted list of some texts -/
instance (a b : Str) : Decidable (leS a b) := by unfold leS; infer_instance
def srt (xs : List Str) : List Str := xs.mergeSort (fun a b => decide (leS a b))
theorem leS_total (a b : Str) : leS a b ∨ leS b a := by
  unfold leS
  rw [ltCps_eq, ltCps_eq]
  by_cases h : b.cps.toList < a.cps.toList
  · right
    refine decide_eq_false fun h2 => List.lt_irrefl _ (List.lt_trans h h2)
  · left
    exact decide_eq_false h
theorem srt_perm (xs : List Str) : (srt xs).Perm xs := List.mergeSort_perm _ _
theorem srt_pw (xs : List Str) : (srt xs).Pairwise leS := by
  have h := List.pairwise_mergeSort (le := fun a b => decide (leS a b)) (fun a b c h1 h2 => decide_eq_true (leS_trans (of_decide_eq_true h1) (of_decide_eq_true h2)))
    (fun a b => by
      rcases leS_total a b with h | h
      · simp [h]
      · simp [h]) xs
  exact h.imp fun h => of_decide_eq_true h
theorem srt_eq {ws xs : List Str} (h : ws.Perm xs) (hs : sortedS ws = true) : ws = srt xs := perm_sorted (h.trans (srt_perm xs).symm) (sortedS_pw hs) (srt_pw xs)
theorem srt_len (xs : List Str) : (srt xs).length = xs.length := (srt_perm xs).length_eq

/-! all questions that an index serves, as the index is walked -/
def qPair (ix : List Str) (j : Nat) : List Qd := [(srt (ix.take j), ix.getD j ""), (srt (ix.take (j + 1)), "")]
def allQ (ix : List Str) (n : Nat) : List Qd := (List.range n).flatMap (qPair ix)
theorem allQ_zero (ix : List Str) : allQ ix 0 = [] := rfl
theorem allQ_succ (ix : List Str) (n : Nat) : allQ ix (n + 1) = allQ ix n ++ qPair ix n := by
  unfold allQ
  rw [List.range_succ, List.flatMap_append]
  simp
theorem allQ_len (ix : List Str) : ∀ n, (allQ ix n).length = 2 * n
  | 0 => rfl
  | n + 1 => by
    rw [allQ_succ, List.length_append, allQ_len ix n]
    show 2 * n + 2 = _
    omega
theorem mem_allQ {ix : List Str} {n : Nat} {q : Qd} : q ∈ allQ ix n ↔ ∃ j, j < n ∧ (q = (srt (ix.take j), ix.getD j "") ∨ q = ((srt (ix.take (j + 1)), ("" : Str)) : Qd)) := by
  unfold allQ
  rw [List.mem_flatMap]
  constructor
  · rintro ⟨j, hj, h⟩
    refine ⟨j, List.mem_range.mp hj, ?_⟩
    simpa [qPair] using h
  · rintro ⟨j, hj, h⟩
    refine ⟨j, List.mem_range.mpr hj, ?_⟩
    simpa [qPair] using h
/-- a question is among them just if the index serves it -/
theorem allQ_serves {ix cols : List Str} {e : Str} (R : Row ix) (hc : cols.Nodup) (hs : sortedS cols = true) (hne : e = "" → cols ≠ []) : (cols, e) ∈ allQ ix ix.length ↔ fault ix cols e = none := by
  have hp := srt_perm (ix.take cols.length)
  have key : fault ix cols e = none ↔ srt (ix.take cols.length) = cols ∧ (e = "" ∨ ix[cols.length]? = some e) := by
    constructor
    · intro h
      have good := h
      unfold fault at good
      -- through the sorted list itself
      have e1 : ∃ ws : List Str, ws.Perm (ix.take cols.length) ∧ sortedS ws = true := by
        refine ⟨srt (ix.take cols.length), hp, sortedS_of_pairwise _ (srt_pw _)⟩
      obtain ⟨ws, w1, w2⟩ := e1
      have := (fault_none (last := e) R.nd hc hs w1 w2).mp h
      rw [← srt_eq w1 w2]
      exact this
    · rintro ⟨h1, h2⟩
      exact (fault_none (last := e) R.nd hc hs hp (sortedS_of_pairwise _ (srt_pw _))).mpr ⟨h1, h2⟩
  rw [mem_allQ, key]
  have getD_at : ∀ j, j < ix.length → ix[j]? = some (ix.getD j "") := fun j hj => by
    rw [List.getD_eq_getElem?_getD, List.getElem?_eq_getElem hj]
    rfl
  constructor
  · rintro ⟨j, hj, h | h⟩
    · injection h with h1 h2
      have hl : cols.length = j := by rw [h1, srt_len, List.length_take]; omega
      rw [hl]
      exact ⟨h1.symm, .inr (by rw [h2]; exact getD_at j hj)⟩
    · injection h with h1 h2
      have hl : cols.length = j + 1 := by rw [h1, srt_len, List.length_take]; omega
      rw [hl]
      exact ⟨h1.symm, .inl h2⟩
  · rintro ⟨h1, h2⟩
    have hl : cols.length ≤ ix.length := by
      have := congrArg List.length h1
      rw [srt_len, List.length_take] at this
      omega
    by_cases he : e = ""
    · have hpos : cols.length ≠ 0 := fun z => hne he (List.eq_nil_of_length_eq_zero z)
      refine ⟨cols.length - 1, by omega, .inr ?_⟩
      have e1 : cols.length - 1 + 1 = cols.length := by omega
      rw [e1, h1, he]
    · have h3 := h2.resolve_left he
      have hlt : cols.length < ix.length := (List.getElem?_eq_some_iff.mp h3).1
      refine ⟨cols.length, hlt, .inl ?_⟩
      rw [h1]
      have := getD_at _ hlt
      rw [h3] at this
      rw [← Option.some.inj this]

/-! lists of questions as they stand -/
def QL (H : Hp) (xs : List V) (qs : List Qd) : Prop := Paired (fun (x : V) (q : Qd) => ∃ t, x = .ref t ∧ QAt H t q.1 q.2) xs qs
theorem QL.len {H : Hp} {xs : List V} {qs : List Qd} (h : QL H xs qs) : xs.length = qs.length := Paired.length h
theorem QL.same {H H' : Hp} {xs : List V} {qs : List Qd} (s : Same H H') (h : QL H xs qs) : QL H' xs qs := Paired.mapP h fun x q ⟨t, e, z⟩ => ⟨t, e, z.same s⟩
theorem QL.kp {H H' : Hp} {b l : Addr} {xs : List V} {qs : List Qd} (B : Bag H b l) (s : Kp b H H') (h : QL H xs qs) : QL H' xs qs := Paired.mapP h fun x q ⟨t, e, z⟩ => ⟨t, e, z.kp B s⟩
theorem paired_app {α β : Type} {F : α → β → Prop} : ∀ {xs xs' : List α} {ys ys' : List β}, Paired F xs ys → Paired F xs' ys' → Paired F (xs ++ xs') (ys ++ ys')
  | _, _, _, _, .nil, h => h
  | _, _, _, _, .cons r t, h => .cons r (paired_app t h)
theorem QAt.uniq {H : Hp} {t : Addr} {c1 c2 : List Str} {e1 e2 : Str} (h1 : QAt H t c1 e1) (h2 : QAt H t c2 e2) : (c1, e1) = (c2, e2) := by
  obtain ⟨a, x1, x2⟩ := h1
  obtain ⟨b, y1, y2⟩ := h2
  rw [x1] at y1
  injection y1 with y1
  injection y1 with y1
  injection y1 with y1 y3
  injection y3 with y3 _
  injection y1 with y1
  injection y3 with y3
  subst y1
  rw [x2] at y2
  injection y2 with y2
  injection y2 with y2
  have : c1 = c2 := by
    have inj : ∀ {l m : List Str}, l.map V.str = m.map V.str → l = m := fun {l m} h => by
      induction l generalizing m with
      | nil => cases m with
        | nil => rfl
        | cons _ _ => cases h
      | cons x l ih => cases m with
        | nil => cases h
        | cons y m =>
          rw [List.map_cons, List.map_cons] at h
          injection h with h h'
          injection h with h
          rw [h, ih h']
    exact inj y2
  rw [this, y3]
open Classical in
noncomputable def keyQ (H : Hp) (x : V) : Qd := if h : ∃ q : Qd, ∃ t, x = .ref t ∧ QAt H t q.1 q.2 then h.choose else ([], "")
theorem keyQ_at {H : Hp} {t : Addr} {q : Qd} (h : QAt H t q.1 q.2) : keyQ H (.ref t) = q := by
  have ex : ∃ q : Qd, ∃ t', V.ref t = .ref t' ∧ QAt H t' q.1 q.2 := ⟨q, t, rfl, h⟩
  unfold keyQ
  rw [dif_pos ex]
  obtain ⟨t', e, z⟩ := ex.choose_spec
  injection e with e
  subst e
  exact z.uniq h
theorem QL.keys {H : Hp} : ∀ {xs : List V} {qs : List Qd}, QL H xs qs → xs.map (keyQ H) = qs
  | _, _, .nil => rfl
  | _, _, .cons ⟨t, e, z⟩ r => by
    subst e
    rw [List.map_cons, keyQ_at z, QL.keys r]
theorem QL.of_keys {H : Hp} : ∀ {xs : List V}, (∀ x ∈ xs, ∃ (t : Addr) (q : Qd), x = V.ref t ∧ QAt H t q.1 q.2) → QL H xs (xs.map (keyQ H))
  | [], _ => .nil
  | x :: xs, h => by
    obtain ⟨t, q, e, z⟩ := h x List.mem_cons_self
    subst e
    rw [List.map_cons, keyQ_at z]
    exact .cons ⟨t, rfl, z⟩ (QL.of_keys fun y hy => h y (List.mem_cons_of_mem _ hy))
theorem QL.mem {H : Hp} : ∀ {xs : List V} {qs : List Qd}, QL H xs qs → ∀ x ∈ xs, ∃ (t : Addr) (q : Qd), x = V.ref t ∧ QAt H t q.1 q.2 ∧ q ∈ qs
  | _, _, .nil, x, hx => by cases hx
  | _, _, .cons ⟨t, e, z⟩ r, x, hx => by
    rcases List.mem_cons.mp hx with rfl | hx
    · exact ⟨t, _, e, z, List.mem_cons_self⟩
    · obtain ⟨t', q', a, b, c⟩ := QL.mem r x hx
      exact ⟨t', q', a, b, List.mem_cons_of_mem _ c⟩
/-- no question stands behind a greater one -/
def rising (qs : List Qd) : Prop := qs.Pairwise (fun a b => ltQ b a = false)
def rSortedQL (K : PySem.W.Frag) : List V → Hp → VK → Prop := fun vs H Q => ∃ (a : Addr) (xs : List V) (qs : List Qd), vs = [V.ref a] ∧ SqL K H a xs ∧ QL H xs qs ∧ (∀ q ∈ qs, ∀ c ∈ q.1, PyData.strOk c = true) ∧
  ∀ (ys : List V) (rs : List Qd) (p : Addr), QL H ys rs → rs.Perm qs → rising rs → H p = none → Q (.ref p) (upd H p (.lst ys))
theorem cr_sortedQL {X : Cx} (hu : X.A.units + 80 < cLine) : CallR X (.builtin "sorted") (rSortedQL X.K) := by
  intro pins s σ H vs us Q I r h
  obtain ⟨a, xs, qs, rfl, hs, hq, hok, q⟩ := h
  refine cr_sortedQ hu pins s σ H _ us Q I r ⟨a, xs, keyQ H, rfl, hs, fun x hx => ?_, fun ys p hp hr hn => ?_⟩
  · obtain ⟨t, z, e, at_, hm⟩ := hq.mem x hx
    subst e
    rw [keyQ_at at_]
    exact ⟨t, rfl, at_, hok z hm⟩
  · refine q ys (ys.map (keyQ H)) p (QL.of_keys fun y hy => ?_) ?_ hr hn
    · obtain ⟨t, z, e, at_, _⟩ := hq.mem y (hp.mem_iff.mp hy)
      exact ⟨t, z, e, at_⟩
    · rw [← hq.keys]
      exact hp.map _
/-! .. as data -/
def dq (q : Qd) : PyData := dQ q.1 q.2
theorem QL.dp {K : PySem.W.Frag} {H : Hp} : ∀ {xs : List V} {qs : List Qd}, QL H xs qs → DpAll K H xs (qs.map dq)
  | _, _, .nil => .nil
  | _, _, .cons ⟨t, e, z⟩ r => by
    subst e
    exact .cons (dp_q z) (QL.dp r)
structure Qfine (q : Qd) : Prop where
  c : ∀ c ∈ q.1, okS c = true
  e : okS q.2 = true
  l : q.1.length ≤ 12
theorem okS_empty : okS "" = true := by decide +kernel
theorem fine_q {q : Qd} (h : Qfine q) : fine (dq q) = true := by
  show (fine (.tuple (q.1.map PyData.str)) && (fine (.str q.2) && true)) = true
  rw [Bool.and_true, Bool.and_eq_true]
  exact ⟨fine_strs h.c, h.e⟩
theorem cost_q {q : Qd} (h : Qfine q) : cost (dq q) ≤ 3000 := by
  have hl := h.l
  show costAll (q.1.map PyData.str) + 3 + 2 + (210 + 2 + 0) + 3 ≤ 3000
  rw [cost_strs]
  omega
theorem depth_q (q : Qd) : (dq q).depth = 2 := by
  show max (PyData.depthAll (q.1.map PyData.str) + 1) (max 0 0) + 1 = 2
  rw [depth_strs]
  rfl
theorem fine_qs : ∀ {qs : List Qd}, (∀ q ∈ qs, Qfine q) → fineAll (qs.map dq) = true
  | [], _ => rfl
  | q :: qs, h => by
    show (fine (dq q) && fineAll (qs.map dq)) = true
    rw [fine_qs fun q hq => h q (List.mem_cons_of_mem _ hq), Bool.and_true]
    exact fine_q (h q List.mem_cons_self)
theorem cost_qs : ∀ {qs : List Qd}, (∀ q ∈ qs, Qfine q) → costAll (qs.map dq) ≤ 3002 * qs.length
  | [], _ => Nat.le_refl 0
  | q :: qs, h => by
    have h1 := cost_q (h q List.mem_cons_self)
    have h2 := cost_qs fun q hq => h q (List.mem_cons_of_mem _ hq)
    show cost (dq q) + 2 + costAll (qs.map dq) ≤ _
    rw [List.length_cons]
    omega
theorem depth_qs : ∀ (qs : List Qd), PyData.depthAll (qs.map dq) ≤ 2
  | [] => Nat.zero_le _
  | q :: qs => by
    show max (dq q).depth (PyData.depthAll (qs.map dq)) ≤ 2
    rw [depth_q]
    exact Nat.max_le.mpr ⟨Nat.le_refl 2, depth_qs qs⟩
theorem dok_q {q : Qd} (h : Qfine q) : DOk (dq q) := ⟨fine_q h, by rw [depth_q]; decide, Nat.le_trans (cost_q h) (by decide)⟩
theorem dok_qs {qs : List Qd} (h : ∀ q ∈ qs, Qfine q) (hl : qs.length ≤ 100) : DOk (.list (qs.map dq)) :=
  ⟨fine_qs h, by show PyData.depthAll _ + 1 ≤ 50; have := depth_qs qs; omega, by show costAll _ + 3 ≤ _; have := cost_qs h; omega⟩
theorem eqv_q (p q : Qd) : PyData.eqv (dq p) (dq q) = decide (p = q) := by
  show PyData.eqv (.tuple [.tuple (p.1.map PyData.str), .str p.2]) (.tuple [.tuple (q.1.map PyData.str), .str q.2]) = _
  have e0 : PyData.eqv (.tuple (p.1.map PyData.str)) (.tuple (q.1.map PyData.str)) = decide (p.1 = q.1) := by rw [PyData.eqv, eqv_strs]
  rw [PyData.eqv, PyData.eqvAll, PyData.eqvAll, PyData.eqvAll, e0, PyData.eqv, Bool.and_true]
  by_cases h1 : p.1 = q.1
  · by_cases h2 : p.2 = q.2
    · rw [decide_eq_true h1, decide_eq_true (Prod.ext h1 h2), h2, beq_self_eq_true]
      rfl
    · rw [decide_eq_true h1, decide_eq_false (fun e => h2 (by rw [e]))]
      rw [beq_eq_false_iff_ne.mpr h2]
      rfl
  · rw [decide_eq_false h1, decide_eq_false (fun e => h1 (by rw [e]))]
    rfl
theorem any_q (q : Qd) (qs : List Qd) : ((qs.map dq).any fun z => PyData.eqv z (dq q)) = decide (q ∈ qs) := by
  rw [List.any_map]
  by_cases h : q ∈ qs
  · rw [decide_eq_true h]
    exact List.any_eq_true.mpr ⟨q, h, by show PyData.eqv (dq q) (dq q) = true; rw [eqv_q]; exact decide_eq_true rfl⟩
  · rw [decide_eq_false h]
    refine List.any_eq_false.mpr fun y hy e => h ?_
    have e' : PyData.eqv (dq y) (dq q) = true := e
    rw [eqv_q] at e'
    rw [← of_decide_eq_true e']
    exact hy
theorem allQ_fine {ix : List Str} (R : Row ix) {n : Nat} (hn : n ≤ ix.length) : ∀ q ∈ allQ ix n, Qfine q := by
  intro q hq
  obtain ⟨j, hj, h | h⟩ := mem_allQ.mp hq
  · subst h
    refine ⟨fun c hc => menu_okS _ (R.sub _ ((List.take_sublist _ _).mem ((srt_perm _).mem_iff.mp hc))), ?_, by show (srt _).length ≤ 12; rw [srt_len, List.length_take]; have := R.le; omega⟩
    show okS (ix.getD j "") = true
    rw [List.getD_eq_getElem?_getD, List.getElem?_eq_getElem (show j < ix.length by omega)]
    exact menu_okS _ (R.sub _ (List.getElem_mem _))
  · subst h
    exact ⟨fun c hc => menu_okS _ (R.sub _ ((List.take_sublist _ _).mem ((srt_perm _).mem_iff.mp hc))), okS_empty, by show (srt _).length ≤ 12; rw [srt_len, List.length_take]; have := R.le; omega⟩
theorem okS_strOk {c : Str} (h : okS c = true) : PyData.strOk c = true := by
  unfold okS at h
  rw [Bool.and_eq_true] at h
  exact h.1
theorem QM.fine {cols : List Str} {e : Str} (h : QM cols e) : Qfine (cols, e) :=
  ⟨fun c hc => menu_okS _ (h.sub c hc), by rcases h.esub with z | z
                                           · show okS e = true
                                             rw [z]
                                             exact okS_empty
                                           · exact menu_okS _ z, h.le⟩
/-! promises -/
def spQof : Sp := fun vs H Q _ => ∃ (t : Addr) (ix : List Str), vs = [.ref t] ∧ H t = some (.tup (ix.map V.str)) ∧ Row ix ∧
  ∀ (ys : List V) (rs : List Qd) (p : Addr) (H' : Hp), Same H H' → H p = none → H' p = some (.lst ys) → QL H' ys rs → rs.Perm (allQ ix ix.length) → rising rs → Q (.ref p) H'
def spServedBy : Sp := fun vs H Q _ => ∃ (t : Addr) (ix : List Str), vs = [.ref t] ∧ H t = some (.tup (ix.map V.str)) ∧ Row ix ∧
  ∀ (ys : List V) (p : Addr) (H' : Hp), Same H H' → H p = none → H' p = some (.lst ys) → QL H' ys (allQ ix ix.length) → Q (.ref p) H'
theorem rising_uniq {xs ys zs : List Qd} (h1 : xs.Perm zs) (h2 : ys.Perm zs) (r1 : rising xs) (r2 : rising ys) : xs = ys := perm_ltQ (h1.trans h2.symm) r1 r2
end Qk

set_option maxRecDepth 100000
set_option maxHeartbeats 4000000
namespace Qk
open PySem PySem.Spec PyProof.Rows L2
def top (i : Nat) : Stmt := PySem.Challenge.pw_narrowkeys_k15_serving_and_faults.main.body.getD i (.Pass ⟨0, 0, 0, 0⟩)
abbrev sBag : Stmt := top 4
abbrev sTake : Stmt := top 5
abbrev sOne : Stmt := top 6
abbrev sMixed : Stmt := top 7
abbrev sNames : Stmt := top 8
abbrev sQuestion : Stmt := top 9
abbrev sBeginning : Stmt := top 10
abbrev sIndex : Stmt := top 11
abbrev sServes : Stmt := top 12
abbrev sAlike : Stmt := top 13
abbrev sDue : Stmt := top 14
abbrev sLaw : Stmt := top 15
abbrev sFault : Stmt := top 1
abbrev sServ : Stmt := top 2
structure Txt (K : PySem.W.Frag) (mg : Str → Option Value) : Prop where
  len : mg "len" = none
  int : mg "int" = none
  abs : mg "abs" = none
  tuple : mg "tuple" = none
  sorted : mg "sorted" = none
  range : mg "range" = none
  repr : mg "repr" = none
  list : mg "list" = none
section
variable {P : Program} {w : World} {K : PySem.W.Frag} {mg : Str → Option Value} {base : Heap}
theorem scBag : FnScope ["_law_script", "_law_cell"] ["_law_script"] (defScope sBag) := ⟨rfl, rfl, rfl, by decide +kernel, rfl, by decide +kernel, by decide +kernel⟩
theorem ok_bag {f : Addr} {fd : FuncData} (F : Fun K "_law_bag" "_law_bag" sBag f fd) (T : Txt K mg) : FnOk P w K mg base CX0 1 f fd ["_law_script"] (spBag K) := by
  refine F.ok scBag (fun vs H Q E h => ?_) (fun cdv A outer s H vs Q E hr h => ?_)
  · obtain ⟨a, ns, rfl, _⟩ := h
    rfl
  · obtain ⟨a, ns, rfl, hS, hz, k⟩ := h
    have nd := scBag.nd
    refine ⟨_, pss_one (ps_ret (pe_lst (pa_cons pe_int (pa_cons pe_int (pa_cons pe_int (pa_cons (pe_lc (own := [("_law_cell", 1)]) (g := gName 1) (tt := tYes) rfl nd
      (pi_list (pe_slice sl_list (pv 0) po_none (po_some pe_int))) (blkOk_by (N := ["_law_script", "_law_cell"]) (sc := defScope sBag) (by decide +kernel)) (fun _ _ _ _ _ => pg_name (i := 1) nd rfl (Or.inl rfl)) (fun _ _ _ _ _ => pts_nil)
      (fun _ _ _ _ _ => pe_callB call_abs (by rfl) T.abs (by decide +kernel) (pa_cons (pv 1) pa_nil))) pa_nil)))))), ?_⟩
    refine ⟨_, rfl, _, rfl, a, _, rfl, hS, fun p hp => ⟨p, rfl, ⟨_, SqL.of upd_same⟩, fun D hD => ?_⟩⟩
    have e0 : cutV (ns.map V.int) none (some 63) = (ns.take 63).map V.int := (cut_to 63 _).trans List.map_take.symm
    have npD : p ≠ D := ne_of_none upd_same hD
    have s0 : Same H (upd H p (.lst (cutV (ns.map V.int) none (some 63)))) := same_new hp
    have nD : H D = none := s0.free hD
    refine lc_list (K := K) (a := p) (xs := (ns.take 63).map V.int) (fun i H' => Same H H' ∧ H' p = some (.lst ((ns.take 63).map V.int)) ∧ ∃ ms : List Int, H' D = some (.lst (ms.map V.int)) ∧ ms.length ≤ i ∧ ∀ n ∈ ms, 0 ≤ n)
      ⟨s0.trans (same_new hD), by rw [upd_ne npD, upd_same, e0], [], upd_same, Nat.le_refl _, by simp⟩ (fun i H' _ h => SqL.of h.2.1) ?_ ?_
    · rintro i x H' hi ⟨s1, h1, ms, h2, hl, hm⟩
      rw [List.getElem?_map] at hi
      cases e : (ns.take 63)[i]? with
      | none => rw [e] at hi; cases hi
      | some z =>
        rw [e] at hi
        obtain rfl : V.int z = x := Option.some.inj hi
        have hlt : i < 63 := by
          have := (List.getElem?_eq_some_iff.mp e).1
          rw [List.length_take] at this
          omega
        refine ⟨rfl, Exists.intro _ ⟨rfl, z, rfl, _, h2, by rw [List.length_map, sizeLine_eq]; omega, fun b o q => ?_, ?_, ms ++ [if z < 0 then -z else z], by rw [upd_same]; simp, by simp; omega, ?_⟩⟩
        · have : b ≠ D := ne_of_none q nD
          rw [upd_ne this]
          exact s1 _ _ q
        · rw [upd_ne npD]
          exact h1
        · intro n hn
          rcases List.mem_append.mp hn with hn | hn
          · exact hm n hn
          · obtain rfl := List.mem_singleton.mp hn
            split <;> omega
    · rintro H' ⟨s1, h1, ms, h2, hl, hm⟩
      refine ⟨by show 4 ≤ sizeLine; decide, fun q hq => ?_⟩
      have nDq : D ≠ q := ne_of_none h2 hq
      exact k q D _ (s1.free hq) ⟨0, 1234567891, 0, ms, upd_same, by rw [upd_ne nDq]; exact h2, nDq, by decide, by decide, by decide, hm⟩ (s1.trans (same_new hq))
theorem scTake : FnScope ["_law_bag_here", "_law_many", "_law_cell", "_law_mixed_here", "_law_drawn", "_law_begin", "_law_second"] ["_law_bag_here", "_law_many"] (defScope sTake) := ⟨rfl, rfl, rfl, by decide +kernel, rfl, by decide +kernel, by decide +kernel⟩
theorem ok_take {f : Addr} {fd : FuncData} (F : Fun K "_law_take" "_law_take" sTake f fd) (T : Txt K mg) : FnOk P w K mg base CX0 1 f fd ["_law_bag_here", "_law_many"] spTake := by
  refine F.ok scTake (fun vs H Q E h => ?_) (fun cdv A outer s H vs Q E hr h => ?_)
  · obtain ⟨b, l, n, rfl, _⟩ := h
    rfl
  · obtain ⟨b, l, n, rfl, B, n0, n1, k⟩ := h
    have nd := scTake.nd
    obtain ⟨h, m, p, ns, hb, hl, nlb, h0, m0, m1, hns⟩ := id B
    refine ⟨_, Evl.pss_cut (ps_if (pt_cmpR op_eq (pe_ix ix_list (pv 0) pe_int fun _ _ => rfl) pe_int (nomark _))
        (pss_cons (ps_set (i := 2) nd rfl (Or.inl rfl) pe_int)
        (Evl.pss_cut (ps_if (pt_cmpR op_lt (pe_ix ix_list (pv 0) pe_int fun _ _ => rfl) (pe_callB call_len_seq (by rfl) T.len PySem.boot_len (pa_cons (pe_ix ix_list (pv 0) pe_int fun _ _ => rfl) pa_nil)) (nomark _))
          (pss_one (ps_set (i := 2) nd rfl (Or.inl rfl) (pe_ix ix_list (pe_ix ix_list (pv 0) pe_int fun _ _ => rfl) (pe_ix ix_list (pv 0) pe_int fun _ _ => rfl) fun _ _ => rfl))) pss_nil)
        (pss_cons (ps_augS (pv 0) pe_int get_list pe_int ip_add set_list)
        (Evl.pss_cut (ps_if (pt_cmpR op_ge (pv 2) pe_int (nomark _)) (pss_one (ps_asg (pv 2) (pg_sub (pv 0) pe_int set_list))) pss_nil)
        (pss_cons (ps_set (i := 3) nd rfl (Or.inl rfl) (pe_op op_add (pe_op op_add (pe_op op_mul (pe_ix ix_list (pv 0) pe_int fun _ _ => rfl) pe_int)
            (pe_op op_mod (pe_callTy call_int1 (by rfl) T.int (by decide +kernel) (pa_cons (pv 2) pa_nil)) pe_int)) (pe_op op_mul pe_int (pe_ix ix_list (pv 0) pe_int fun _ _ => rfl))))
        (pss_one (ps_asg (pe_op op_mod (pe_callTy call_int1 (by rfl) T.int (by decide +kernel) (pa_cons (pv 3) pa_nil)) pe_int) (pg_sub (pv 0) pe_int set_list)))))))) pss_nil)
      (Evl.pss_cut (ps_if (pt_cmpR op_gt (pe_ix ix_list (pv 0) pe_int fun _ _ => rfl) pe_int (nomark _))
        (pss_cons (ps_set (i := 4) nd rfl (Or.inl rfl) (pe_op op_mod (pe_callTy call_int1 (by rfl) T.int (by decide +kernel) (pa_cons (pe_ix ix_list (pv 0) pe_int fun _ _ => rfl) pa_nil)) (pv 1)))
        (pss_cons (ps_asg (pe_op op_fdivN (pe_callTy call_int1 (by rfl) T.int (by decide +kernel) (pa_cons (pe_ix ix_list (pv 0) pe_int fun _ _ => rfl) pa_nil)) (pv 1)) (pg_sub (pv 0) pe_int set_list))
        (pss_one (ps_ret (pv 4))))) pss_nil)
      (pss_cons (ps_set (i := 5) nd rfl (Or.inl rfl) (pe_op op_mod (pe_callTy call_int1 (by rfl) T.int (by decide +kernel) (pa_cons (pe_op op_mul (pe_op op_add (pe_ix ix_list (pv 0) pe_int fun _ _ => rfl) pe_int) pe_int) pa_nil)) pe_int))
      (pss_cons (ps_set (i := 6) nd rfl (Or.inl rfl) (pe_op op_mod (pe_callTy call_int1 (by rfl) T.int (by decide +kernel) (pa_cons (pe_op op_mul (pe_op op_mod (pe_callTy call_int1 (by rfl) T.int (by decide +kernel) (pa_cons (pe_op op_mul (pv 5) (pv 5)) pa_nil)) pe_int) pe_int) pa_nil)) pe_int))
      (pss_one (ps_ret (pe_op op_mod (pe_callTy call_int1 (by rfl) T.int (by decide +kernel) (pa_cons (pe_op op_fdiv (pv 6) pe_int) pa_nil)) (pv 1)))))))
      , ?_⟩
    refine ⟨fun σ' H' => ∃ c2 c3, σ' = [some (.ref b), some (.int n), c2, c3, none, none, none] ∧ Bag H' b l ∧ Kp b H H', ?_, ?_⟩
    · refine ⟨_, rfl, b, _, _, _, rfl, rfl, SqL.of hb, rfl, rfl, _, rfl, ?_⟩
      refine ite2 (fun _ => ?_) (fun _ => ⟨_, _, rfl, B, Kp.refl _ _⟩)
      refine ⟨fun σ' H' => ∃ c : Int, 0 ≤ c ∧ σ' = [some (.ref b), some (.int n), some (.int c), none, none, none, none] ∧ H' = H, ?_, ?_⟩
      · refine ⟨_, rfl, b, _, _, _, rfl, rfl, SqL.of hb, rfl, _, rfl, b, _, _, _, rfl, rfl, SqL.of hb, rfl, _, _, rfl, .inl (SqL.of hl), _, _, rfl, rfl, _, rfl, ?_⟩
        refine ite2 (fun hc => ?_) (fun _ => ⟨0, Int.le_refl 0, rfl, rfl⟩)
        have hp : p < ns.length := by
          have := of_decide_eq_true hc
          rw [List.length_map] at this
          omega
        refine ⟨_, rfl, b, _, _, _, rfl, rfl, SqL.of hb, rfl, _, rfl, b, _, _, _, rfl, rfl, SqL.of hb, rfl, l, _, _, .int ns[p], rfl, rfl, SqL.of hl, atI_nat (by rw [List.getElem?_map, List.getElem?_eq_getElem hp]; rfl), ?_⟩
        exact ⟨ns[p], hns _ (List.getElem_mem hp), rfl, rfl⟩
      · rintro σ' H' ⟨c, hc, rfl, rfl⟩
        refine ⟨_, rfl, b, _, 2, _, rfl, rfl, SqL.of hb, rfl, _, _, rfl, rfl, b, _, _, 2, rfl, rfl, hb, rfl, ?_⟩
        have hl1 : (upd H' b (HO.lst [.int h, .int m, .int ((p + 1 : Nat) : Int), .ref l])) l = some (HO.lst (ns.map V.int)) := by rw [upd_ne nlb]; exact hl
        refine ⟨fun σ' H2 => ∃ h' : Int, 0 ≤ h' ∧ σ' = [some (.ref b), some (.int n), some (.int c), none, none, none, none] ∧ H2 b = some (.lst [.int h', .int m, .int ((p + 1 : Nat) : Int), .ref l]) ∧ Kp b H' H2, ?_, ?_⟩
        · refine ⟨_, rfl, _, _, rfl, rfl, _, rfl, ?_⟩
          refine ite2 (fun _ => ?_) (fun _ => ⟨h, h0, rfl, upd_same, Kp.at_ _ _ _⟩)
          refine ⟨_, rfl, _, rfl, b, _, 0, 0, rfl, rfl, upd_same, rfl, ?_⟩
          exact ⟨c, hc, rfl, upd_same, (Kp.at_ _ _ _).trans (Kp.at_ _ _ _)⟩
        · rintro σ' H2 ⟨h', h0', rfl, hb2, k2⟩
          have hl2 : H2 l = some (.lst (ns.map V.int)) := k2 _ _ hl nlb
          refine ⟨_, rfl, b, _, 1, _, rfl, rfl, SqL.of hb2, rfl, _, _, rfl, rfl, .inl ⟨by omega, by omega⟩, _, rfl, .inl ⟨_, rfl, _, _, rfl, rfl, (by show (0 : Int) < 2147483647; decide), _, _, rfl, rfl,
            _, rfl, b, _, 2, _, rfl, rfl, SqL.of hb2, rfl, _, _, rfl, rfl, .inl ⟨by decide, by decide⟩, _, _, rfl, rfl, _, rfl, .inl ⟨_, rfl, _, _, rfl, rfl, (by show (0 : Int) < 2147483647; decide), _, rfl, b, _, 1, 1, rfl, rfl, hb2, rfl, ?_⟩⟩⟩
          exact ⟨_, _, rfl, ⟨h', _, p + 1, ns, upd_same, (by rw [upd_ne nlb]; exact hl2), nlb, h0', Int.emod_nonneg _ (by decide), Int.emod_lt_of_pos _ (by decide), hns⟩, k2.trans (Kp.at_ _ _ _)⟩
    · rintro σ1 H1 ⟨c2, c3, rfl, B1, k1⟩
      clear hb hl hns h0 m0 m1
      obtain ⟨h, m, p, ns, hb, hl, nlb, h0, m0, m1, hns⟩ := id B1
      refine ⟨fun σ' H' => σ' = [some (.ref b), some (.int n), c2, c3, none, none, none] ∧ H' = H1, ?_, ?_⟩
      · refine ⟨_, rfl, b, _, 0, _, rfl, rfl, SqL.of hb, rfl, _, _, rfl, rfl, _, rfl, ?_⟩
        refine ite2 (fun _ => ?_) (fun _ => ⟨rfl, rfl⟩)
        obtain ⟨j, ej, hj⟩ := take_mod (k := h) n0
        refine ⟨_, rfl, b, _, 0, _, rfl, rfl, SqL.of hb, rfl, .inl ⟨_, rfl, _, rfl, _, _, rfl, rfl, n0, _, rfl, b, _, 0, _, rfl, rfl, SqL.of hb, rfl, .inl ⟨_, rfl, _, rfl, _, _, rfl, rfl, ⟨by omega, by omega⟩, _, rfl, b, _, 0, 0, rfl, rfl, hb, rfl, _, rfl, ?_⟩⟩⟩
        show Q (.int (h % n)) _
        rw [ej]
        refine k j _ hj ⟨_, m, p, ns, upd_same, (by rw [upd_ne nlb]; exact hl), nlb, ?_, m0, m1, hns⟩ (k1.trans (Kp.at_ _ _ _))
        show 0 ≤ h.fdiv n
        rw [Int.fdiv_eq_ediv_of_nonneg h (by omega)]
        exact Int.ediv_nonneg h0 (by omega)
      · rintro σ' H' ⟨rfl, rfl⟩
        have q1 : ∀ x : Int, 0 ≤ x % 1000000007 ∧ x % 1000000007 < 1000000007 := fun x => ⟨Int.emod_nonneg _ (by decide), Int.emod_lt_of_pos _ (by decide)⟩
        have q2 : ∀ x : Int, 0 ≤ x % 998244353 ∧ x % 998244353 < 998244353 := fun x => ⟨Int.emod_nonneg _ (by decide), Int.emod_lt_of_pos _ (by decide)⟩
        obtain ⟨u, eu⟩ : ∃ u, u = ((m + 1) * 39373) % 1000000007 := ⟨_, rfl⟩
        have hu := q1 ((m + 1) * 39373)
        rw [← eu] at hu
        obtain ⟨j, ej, hj⟩ := take_mod (k := (u * u % 998244353 * 30011 % 998244353) / 7) n0
        have hv := q2 (u * u)
        refine ⟨_, rfl, b, _, 1, _, rfl, rfl, SqL.of hb, rfl, _, _, rfl, rfl, _, _, rfl, rfl, .inl ⟨by omega, by omega⟩, .inl ⟨_, rfl, _, _, rfl, rfl, (by show (0 : Int) < 1000000007; decide), ?_⟩⟩
        show tSeq _ _ _ [some (.ref b), some (.int n), c2, c3, none, some (.int (((m + 1) * 39373) % 1000000007)), none] _
        rw [← eu]
        refine ⟨_, rfl, _, rfl, _, _, rfl, rfl, .inl ⟨by omega, by omega⟩, .inl ⟨_, rfl, _, _, rfl, rfl, (by show (0 : Int) < 998244353; decide), _, _, rfl, rfl, .inl ⟨by omega, by omega⟩, .inl ⟨_, rfl, _, _, rfl, rfl, (by show (0 : Int) < 998244353; decide), _, rfl, _, _, rfl, rfl, ⟨by decide, by decide⟩, .inl ⟨_, rfl, _, rfl, _, _, rfl, rfl, n0, ?_⟩⟩⟩⟩
        show Q (.int ((u * u % 998244353 * 30011 % 998244353) / 7 % n)) _
        rw [ej]
        exact k j _ hj B1 k1
theorem scOne : FnScope ["_law_bag_here", "_law_some"] ["_law_bag_here", "_law_some"] (defScope sOne) := ⟨rfl, rfl, rfl, by decide +kernel, rfl, by decide +kernel, by decide +kernel⟩
theorem ok_one {f : Addr} {fd : FuncData} (F : Fun K "_law_one" "_law_one" sOne f fd) (T : Txt K mg) (cT : Cal P w K mg base 1 "_law_take" ["_law_bag_here", "_law_many"] spTake) : FnOk P w K mg base CX0 2 f fd ["_law_bag_here", "_law_some"] spOne := by
  refine F.ok scOne (fun vs H Q E h => ?_) (fun cdv A outer s H vs Q E hr h => ?_)
  · obtain ⟨b, l, a, xs, rfl, _⟩ := h
    rfl
  · obtain ⟨b, l, a, xs, rfl, B, nab, ha, hne, hz, k⟩ := h
    refine ⟨_, pss_one (ps_ret (pe_ix ix_list (pv 1) (pe_call cT.G hr rfl cT.m cT.kp cT.b .nil pass0 (pa_cons (pv 0) (pa_cons (pe_callB call_len_seq (by rfl) T.len PySem.boot_len (pa_cons (pv 1) pa_nil)) pa_nil))) fun _ _ => rfl)), ?_⟩
    have hpos : 0 < xs.length := List.length_pos_iff.mpr hne
    refine ⟨_, rfl, _, rfl, _, rfl, _, _, rfl, .inl (SqL.of ha), b, l, _, rfl, B, by omega, by omega, fun j H' hj B' k' => ?_⟩
    have hj' : j < xs.length := by omega
    exact ⟨a, xs, j, xs[j], rfl, rfl, SqL.of (k' _ _ ha nab), atI_nat (List.getElem?_eq_getElem hj'), k _ _ (List.getElem_mem hj') B' k'⟩
theorem scMixed : FnScope ["_law_bag_here", "_law_things", "_law_found", "_law_thing"] ["_law_bag_here", "_law_things"] (defScope sMixed) := ⟨rfl, rfl, rfl, by decide +kernel, rfl, by decide +kernel, by decide +kernel⟩
theorem ok_mixed {f : Addr} {fd : FuncData} (F : Fun K "_law_mixed" "_law_mixed" sMixed f fd) (T : Txt K mg) (cT : Cal P w K mg base 1 "_law_take" ["_law_bag_here", "_law_many"] spTake) : FnOk P w K mg base CX0 2 f fd ["_law_bag_here", "_law_things"] spMixed := by
  refine F.ok scMixed (fun vs H Q E h => ?_) (fun cdv A outer s H vs Q E hr h => ?_)
  · obtain ⟨b, l, a, xs, rfl, _⟩ := h
    rfl
  · obtain ⟨b, l, a, xs, rfl, B, nab, ha, hz, k⟩ := h
    have nd := scMixed.nd
    refine ⟨_, pss_cons (ps_set (i := 2) nd rfl (Or.inl rfl) (pe_lst pa_nil)) (pss_cons (ps_for PassesOwn.never rfl (pi_list (pv 1)) (pg_name (i := 3) nd rfl (Or.inl rfl))
      (pss_one (ps_expr (pe_bm PySem.F.plainAttrs_list PySem.F.slot_list_insert PySem.F.type_list_insert mt_insert (pv 2)
        (pa_cons (pe_call cT.G hr rfl cT.m cT.kp cT.b .nil pass0 (pa_cons (pv 0) (pa_cons (pe_op op_add (pe_callB call_len_seq (by rfl) T.len PySem.boot_len (pa_cons (pv 2) pa_nil)) pe_int) pa_nil))) (pa_cons (pv 3) pa_nil))))))
      (pss_one (ps_ret (pv 2)))), ?_⟩
    refine ⟨by decide, fun p hp => ?_⟩
    have npb : p ≠ b := B.ne hp
    have nap : a ≠ p := ne_of_none ha hp
    refine ⟨_, rfl, a, rfl, ⟨_, SqL.of (by rw [upd_ne nap]; exact ha)⟩, for_list (K := K) (a := a) (xs := xs) (fun i σ H' => ∃ (ys : List V) (v : Option V), σ = [some (.ref b), some (.ref a), some (.ref p), v] ∧ ys.Perm (xs.take i) ∧ H' p = some (.lst ys) ∧ Bag H' b l ∧ Kp b H H')
      ⟨[], none, rfl, by simp, upd_same, B.new hp, Kp.new hp⟩ (fun i σ H' _ ⟨_, _, _, _, _, _, k'⟩ => SqL.of (k' _ _ ha nab)) ?_ ?_⟩
    · rintro i x σ H' hi ⟨ys, v, rfl, hp1, h1, B1, k1⟩
      have hil : i < xs.length := (List.getElem?_eq_some_iff.mp hi).1
      have hyl : ys.length = i := by
        rw [hp1.length_eq, List.length_take]
        omega
      refine ⟨_, rfl, .inl ⟨rfl, _, SqL.of h1⟩, _, rfl, _, rfl, _, _, rfl, .inl (SqL.of h1), _, _, rfl, rfl, b, l, _, rfl, B1, by omega, by omega, fun j H2 hj B2 k2 => ?_⟩
      refine ⟨_, rfl, p, ys, (j : Int), x, rfl, rfl, k2 _ _ h1 npb, Nat.lt_of_lt_of_le (show ys.length < 1000 by omega) (by rw [sizeLine_eq]; decide), by omega, by omega, ?_⟩
      refine ⟨ys.take j ++ [x] ++ ys.drop j, _, rfl, ?_, ?_, ?_, ?_⟩
      · have e1 : xs.take (i + 1) = xs.take i ++ [x] := by
          rw [List.take_add_one, hi]
          rfl
        rw [e1]
        have q1 : (ys.take j ++ [x] ++ ys.drop j).Perm (ys ++ [x]) := by
          have q2 : (ys.take j ++ ([x] ++ ys.drop j)).Perm (ys.take j ++ (ys.drop j ++ [x])) := List.Perm.append_left _ List.perm_append_comm
          rw [List.append_assoc]
          refine q2.trans ?_
          rw [← List.append_assoc, List.take_append_drop]
        exact q1.trans (hp1.append_right _)
      · rw [upd_same]
        simp
      · exact B2.upd npb.symm (B.nel hp)
      · intro c o hc ncb
        have : c ≠ p := ne_of_none hc hp
        rw [upd_ne this]
        exact k2 _ _ (k1 _ _ hc ncb) ncb
    · rintro σ H' ⟨ys, v, rfl, hp1, h1, B1, k1⟩
      rw [List.take_length] at hp1
      exact ⟨_, rfl, k ys p H' hp1 hp npb h1 B1 k1⟩
theorem scNames : FnScope ["_law_bag_here", "_law_many", "_law_menu"] ["_law_bag_here", "_law_many"] (defScope sNames) := ⟨rfl, rfl, rfl, by decide +kernel, rfl, by decide +kernel, by decide +kernel⟩
theorem ok_names {f : Addr} {fd : FuncData} (F : Fun K "_law_names" "_law_names" sNames f fd) (T : Txt K mg) (cM : Cal P w K mg base 2 "_law_mixed" ["_law_bag_here", "_law_things"] spMixed) : FnOk P w K mg base CX0 3 f fd ["_law_bag_here", "_law_many"] spNames := by
  refine F.ok scNames (fun vs H Q E h => ?_) (fun cdv A outer s H vs Q E hr h => ?_)
  · obtain ⟨b, l, n, rfl, _⟩ := h
    rfl
  · obtain ⟨b, l, n, rfl, B, k⟩ := h
    have nd := scNames.nd
    refine ⟨_, pss_cons (ps_set (i := 2) nd rfl (Or.inl rfl) (pe_lst (pa_cons pe_str (pa_cons pe_str (pa_cons pe_str (pa_cons pe_str (pa_cons pe_str (pa_cons pe_str (pa_cons pe_str (pa_cons pe_str (pa_cons pe_str (pa_cons pe_str (pa_cons pe_str (pa_cons pe_str pa_nil))))))))))))))
      (pss_one (ps_ret (pe_slice sl_list (pe_call cM.G hr rfl cM.m cM.kp cM.b .nil pass0 (pa_cons (pv 0) (pa_cons (pv 2) pa_nil))) po_none (po_some (pv 1))))), ?_⟩
    refine ⟨by show 12 ≤ sizeLine; decide, fun p hp => ?_⟩
    have npb : p ≠ b := B.ne hp
    refine ⟨_, rfl, _, rfl, b, l, p, menu.map V.str, rfl, B.new hp, npb, upd_same, by show 12 < 1000; decide, fun ys q H' hp1 hq nqb h1 B1 k1 => ?_⟩
    refine ⟨_, rfl, _, rfl, q, ys, rfl, SqL.of h1, fun r hr => ?_⟩
    have e0 : cutV ys none (some (n : Int)) = ys.take n := cut_to n ys
    rw [e0]
    obtain ⟨zs, rfl, hzs⟩ := perm_strs hp1
    have hsub := (List.take_sublist n zs)
    have nrH : H r = none := by
      cases e : H r with
      | none => rfl
      | some o =>
        have ner : r ≠ p := ne_of_none e hp
        by_cases erb : r = b
        · subst erb
          obtain ⟨o', e'⟩ := B1.at_
          rw [e'] at hr
          cases hr
        · have := k1 r o (by rw [upd_ne ner]; exact e) erb
          rw [this] at hr
          cases hr
    refine k (zs.take n) r _ ⟨(hzs.nodup_iff.mpr menu_nodup).sublist hsub, fun c hc => hzs.mem_iff.mp (hsub.mem hc), by rw [List.length_take, hzs.length_eq]; rfl⟩ nrH (B1.ne hr) (by rw [upd_same, List.map_take]) (B1.new hr) ((Kp.new hp).trans (k1.trans (Kp.new hr)))
theorem scQuestion : FnScope ["_law_bag_here", "_law_names_here", "_law_some", "_law_end"] ["_law_bag_here", "_law_names_here"] (defScope sQuestion) := ⟨rfl, rfl, rfl, by decide +kernel, rfl, by decide +kernel, by decide +kernel⟩
theorem ok_question {f : Addr} {fd : FuncData} (F : Fun K "_law_question" "_law_question" sQuestion f fd) (T : Txt K mg) (cT : Cal P w K mg base 1 "_law_take" ["_law_bag_here", "_law_many"] spTake) (cM : Cal P w K mg base 2 "_law_mixed" ["_law_bag_here", "_law_things"] spMixed) : FnOk P w K mg base CX0 3 f fd ["_law_bag_here", "_law_names_here"] spQuestion := by
  refine F.ok scQuestion (fun vs H Q E h => ?_) (fun cdv A outer s H vs Q E hr h => ?_)
  · obtain ⟨b, l, a, xs, rfl, _⟩ := h
    rfl
  · obtain ⟨b, l, a, xs, rfl, B, nab, ha, R, k⟩ := h
    have nd := scQuestion.nd
    have hr1 : Room 1 _ := hr.mono (by decide)
    refine ⟨_, pss_cons (ps_set (i := 2) nd rfl (Or.inl rfl) (pe_slice sl_list (pe_call cM.G hr rfl cM.m cM.kp cM.b .nil pass0 (pa_cons (pv 0) (pa_cons (pv 1) pa_nil))) po_none
        (po_some (pe_op op_add pe_int (pe_call cT.G hr1 rfl cT.m cT.kp cT.b .nil pass0 (pa_cons (pv 0) (pa_cons (pe_callB call_len_seq (by rfl) T.len PySem.boot_len (pa_cons (pv 1) pa_nil)) pa_nil)))))))
      (Evl.pss_cut (ps_set (i := 3) nd rfl (Or.inl rfl) (pe_ifExp (pt_cmpR op_eq (pe_call cT.G hr1 rfl cT.m cT.kp cT.b .nil pass0 (pa_cons (pv 0) (pa_cons pe_int pa_nil))) pe_int (nomark _))
        (pe_bm0 PySem.F.plainAttrs_list PySem.F.slot_list_pop PySem.F.type_list_pop mt_pop (pv 2)) pe_str))
      (pss_one (ps_ret (pe_tup (pa_cons (pe_callTy call_tuple_of (by rfl) T.tuple (by decide +kernel) (pa_cons (pe_callB cr_sortedST (by rfl) T.sorted (by decide +kernel) (pa_cons (pv 2) pa_nil)) pa_nil)) (pa_cons (pv 3) pa_nil)))))), ?_⟩
    have hl := R.le
    have hpos := R.pos
    refine ⟨_, rfl, _, rfl, b, l, a, _, rfl, B, nab, ha, by rw [List.length_map]; omega, fun ys0 p H1 hp0 hp hpb h1 B1 k1 => ?_⟩
    obtain ⟨ys, rfl, hy⟩ := perm_strs hp0
    have ha1 := k1 _ _ ha nab
    refine ⟨_, rfl, _, rfl, _, _, rfl, .inl (SqL.of ha1), b, l, _, rfl, B1, by rw [List.length_map]; omega, by rw [List.length_map]; omega, fun j H2 hj B2 k2 => ?_⟩
    rw [List.length_map] at hj
    refine ⟨_, _, rfl, rfl, _, rfl, p, _, rfl, SqL.of (k2 _ _ h1 hpb), fun r hr => ?_⟩
    have ec : cutV (ys.map V.str) none (some (1 + (j : Int))) = (ys.take (j + 1)).map V.str := by
      have e1 : (1 + (j : Int)) = ((j + 1 : Nat) : Int) := by omega
      rw [e1, cut_to, List.map_take]
    rw [ec]
    have hrb : r ≠ b := B2.ne hr
    have hyl := hy.length_eq
    refine ⟨fun σ' H' => ∃ (zs : List Str) (e : Str), σ' = [some (.ref b), some (.ref a), some (.ref r), some (.str e)] ∧ H' r = some (.lst (zs.map V.str)) ∧ zs.length ≤ 12 ∧ (∀ ws, ws.Perm zs → sortedS ws = true → Qok xs ws e) ∧ Bag H' b l ∧ Kp b H H', ?_, ?_⟩
    · refine ⟨_, rfl, b, l, 2, rfl, B2.new hr, by decide, by decide, fun j2 H3 hj2 B3 k3 => ?_⟩
      have kH3 : Kp b H H3 := k1.trans (k2.trans ((Kp.new hr).trans k3))
      have hr3 := k3 _ _ upd_same hrb
      refine ⟨rfl, _, rfl, ?_⟩
      refine ite2 (fun _ => ?_) (fun _ => ?_)
      · have hlt : j < ys.length := by omega
        have el : ((ys.take (j + 1)).map V.str)[((ys.take (j + 1)).map V.str).length - 1]? = some (V.str ys[j]) := by
          rw [List.length_map, List.length_take, Nat.min_eq_left (by omega), Nat.add_sub_cancel, List.getElem?_map, List.getElem?_take_of_lt (by omega), List.getElem?_eq_getElem hlt]
          rfl
        refine ⟨_, rfl, .inl ⟨rfl, _, SqL.of hr3⟩, r, _, _, rfl, rfl, hr3, el, ?_⟩
        have ed : ((ys.take (j + 1)).map V.str).dropLast = (ys.take j).map V.str := by
          rw [← List.map_dropLast, List.take_add_one, List.getElem?_eq_getElem hlt, Option.toList_some, List.dropLast_concat]
        rw [ed]
        refine ⟨ys.take j, ys[j], rfl, upd_same, by rw [List.length_take]; omega, fun ws hw hs => qok_ranged R hy (List.getElem?_eq_getElem hlt) hw hs, B3.upd hrb.symm (B2.nel hr), fun c o hc ncb => ?_⟩
        have ncr : c ≠ r := ne_of_none (k2 _ _ (k1 _ _ hc ncb) ncb) hr
        rw [upd_ne ncr]
        exact kH3 _ _ hc ncb
      · exact ⟨ys.take (j + 1), "", rfl, hr3, by rw [List.length_take]; omega, fun ws hw hs => qok_plain R hy hw hs, B3, kH3⟩
    · rintro σ' H' ⟨zs, e, rfl, h2, hz, hq, B4, k4⟩
      refine ⟨_, rfl, r, zs, rfl, .inl (SqL.of h2), by omega, fun ws p1 hw hs hp1 => ⟨p1, _, rfl, .inl ⟨SqL.of upd_same, fun p2 hp2 => ⟨_, rfl, by show 2 ≤ sizeLine; decide, fun p3 hp3 => ?_⟩⟩⟩⟩
      have s3 : Same H' _ := (same_new (o := .lst (ws.map V.str)) hp1).trans ((same_new (o := .tup (ws.map V.str)) hp2).trans (same_new (o := .tup [.ref p2, .str e]) hp3))
      exact k p3 ws e _ ⟨p2, upd_same, same_new hp3 _ _ upd_same⟩ (hq ws hw hs) (B4.same s3) (k4.trans (Kp.of s3))
theorem scBeginning : FnScope ["_law_bag_here", "_law_row", "_law_many"] ["_law_bag_here", "_law_row"] (defScope sBeginning) := ⟨rfl, rfl, rfl, by decide +kernel, rfl, by decide +kernel, by decide +kernel⟩
theorem ok_beginning {f : Addr} {fd : FuncData} (F : Fun K "_law_beginning" "_law_beginning" sBeginning f fd) (T : Txt K mg) (cT : Cal P w K mg base 1 "_law_take" ["_law_bag_here", "_law_many"] spTake) : FnOk P w K mg base CX0 2 f fd ["_law_bag_here", "_law_row"] spBeginT := by
  refine F.ok scBeginning (fun vs H Q E h => ?_) (fun cdv A outer s H vs Q E hr h => ?_)
  · obtain ⟨b, l, a, xs, rfl, _⟩ := h
    rfl
  · obtain ⟨b, l, a, xs, rfl, B, ha, R, k⟩ := h
    have nd := scBeginning.nd
    refine ⟨_, pss_cons (ps_set (i := 2) nd rfl (Or.inl rfl) (pe_op op_add pe_int (pe_call cT.G hr rfl cT.m cT.kp cT.b .nil pass0 (pa_cons (pv 0) (pa_cons (pe_callB call_len_seq (by rfl) T.len PySem.boot_len (pa_cons (pv 1) pa_nil)) pa_nil)))))
      (pss_cons (ps_if (pt_cmpR op_eq (pe_call cT.G hr rfl cT.m cT.kp cT.b .nil pass0 (pa_cons (pv 0) (pa_cons pe_int pa_nil))) pe_int (nomark _))
        (pss_one (ps_ret (pe_tup (pa_cons (pe_callTy call_tuple_of (by rfl) T.tuple (by decide +kernel) (pa_cons (pe_callB cr_sortedST (by rfl) T.sorted (by decide +kernel)
          (pa_cons (pe_slice sl_tupA (pv 1) po_none (po_some (pe_op op_sub (pv 2) pe_int))) pa_nil)) pa_nil)) (pa_cons (pe_ix ix_tup (pv 1) (pe_op op_sub (pv 2) pe_int) fun _ _ => rfl) pa_nil))))) pss_nil)
      (pss_one (ps_ret (pe_tup (pa_cons (pe_callTy call_tuple_of (by rfl) T.tuple (by decide +kernel) (pa_cons (pe_callB cr_sortedST (by rfl) T.sorted (by decide +kernel)
          (pa_cons (pe_slice sl_tupA (pv 1) po_none (po_some (pv 2))) pa_nil)) pa_nil)) (pa_cons pe_str pa_nil)))))), ?_⟩
    have hl := R.le
    have hpos := R.pos
    have hlen : (xs.map V.str).length = xs.length := List.length_map _
    refine ⟨_, rfl, _, rfl, _, _, rfl, .inr (SqT.of ha), b, l, _, rfl, B, by omega, by omega, fun j H1 hj B1 k1 => ⟨_, _, rfl, rfl, ?_⟩⟩
    have hj' : j < xs.length := by omega
    have ha1 := k1 _ _ ha (B.ne_tup ha)
    refine ⟨_, rfl, b, l, 2, rfl, B1, by decide, by decide, fun j2 H2 hj2 B2 k2 => ⟨rfl, _, rfl, ?_⟩⟩
    have ha2 := k2 _ _ ha1 (B1.ne_tup ha1)
    have kH2 : Kp b H H2 := k1.trans k2
    refine ite2 (fun _ => ?_) (fun _ => ?_)
    · have em : (1 + (j : Int)) - 1 = (j : Int) := by omega
      refine ⟨_, rfl, _, rfl, _, _, rfl, rfl, _, rfl, a, _, rfl, SqT.of ha2, fun hw => ?_, fun _ r hr => ?_⟩
      · exfalso
        have h2 := hw.2
        have h3 : HT.sIx (xs.map V.str).length (xs.map V.str).length (some ((j : Nat) : Int)) = (xs.map V.str).length := by
          rw [← em]
          exact h2
        rw [HT.sIx_nat, hlen] at h3
        omega
      · have ec : cutV (xs.map V.str) none (some ((1 + (j : Int)) - 1)) = (xs.take j).map V.str := by rw [em, cut_to, List.map_take]
        show (fun (Hx : Hp) => _) (upd H2 r (.tup (cutV (xs.map V.str) none (some ((1 + (j : Int)) - 1)))))
        rw [ec]
        refine ⟨r, xs.take j, rfl, .inr (SqT.of upd_same), by rw [List.length_take]; omega, fun ws p1 hw hs hp1 => ⟨p1, _, rfl, .inl ⟨SqL.of upd_same, fun p2 hp2 => ?_⟩⟩⟩
        have s2 : Same H2 _ := (same_new (o := .tup ((xs.take j).map V.str)) hr).trans ((same_new (o := .lst (ws.map V.str)) hp1).trans (same_new (o := .tup (ws.map V.str)) hp2))
        refine ⟨_, rfl, _, rfl, _, _, rfl, rfl, a, _, _, .str xs[j], rfl, rfl, SqT.of (s2 _ _ ha2), ?_, by show 2 ≤ sizeLine; decide, fun p3 hp3 => ?_⟩
        · show atI (xs.map V.str) ((1 + (j : Int)) - 1) = _
          rw [em]
          exact atI_nat (by rw [List.getElem?_map, List.getElem?_eq_getElem hj']; rfl)
        · have s3 := s2.trans (same_new (o := .tup [.ref p2, .str xs[j]]) hp3)
          exact k p3 ws xs[j] _ ⟨p2, upd_same, same_new hp3 _ _ upd_same⟩ (qok_ranged R (List.Perm.refl _) (List.getElem?_eq_getElem hj') hw hs) (B2.same s3) (kH2.trans (Kp.of s3))
    · have em : (1 + (j : Int)) = ((j + 1 : Nat) : Int) := by omega
      have fin : ∀ (r : Addr) (H3 : Hp), Same H2 H3 → H3 r = some (.tup ((xs.take (j + 1)).map V.str)) → ∀ (ws : List Str) (p1 : Addr), ws.Perm (xs.take (j + 1)) → sortedS ws = true → H3 p1 = none → ∀ p2, (upd H3 p1 (.lst (ws.map V.str))) p2 = none →
          ∀ p3, (upd (upd H3 p1 (.lst (ws.map V.str))) p2 (.tup (ws.map V.str))) p3 = none → Q (.ref p3) (upd (upd (upd H3 p1 (.lst (ws.map V.str))) p2 (.tup (ws.map V.str))) p3 (.tup [.ref p2, .str ""])) := by
        intro r H3 s h3 ws p1 hw hs hp1 p2 hp2 p3 hp3
        have s3 := s.trans ((same_new (o := .lst (ws.map V.str)) hp1).trans ((same_new (o := .tup (ws.map V.str)) hp2).trans (same_new (o := .tup [.ref p2, .str ""]) hp3)))
        exact k p3 ws "" _ ⟨p2, upd_same, same_new hp3 _ _ upd_same⟩ (qok_plain R (List.Perm.refl _) hw hs) (B2.same s3) (kH2.trans (Kp.of s3))
      have hsm : (xs.take (j + 1)).length < 64 := by rw [List.length_take]; omega
      refine ⟨_, rfl, _, rfl, _, rfl, a, _, rfl, SqT.of ha2, fun hw => ?_, fun _ r hr => ?_⟩
      · have h2 : HT.sIx (xs.map V.str).length (xs.map V.str).length (some ((j + 1 : Nat) : Int)) = (xs.map V.str).length := by
          rw [← em]
          exact hw.2
        rw [HT.sIx_nat, hlen] at h2
        have et : xs.take (j + 1) = xs := List.take_of_length_le (by omega)
        have ha3 : H2 a = some (.tup ((xs.take (j + 1)).map V.str)) := by rw [et]; exact ha2
        exact ⟨a, xs.take (j + 1), rfl, .inr (SqT.of ha3), hsm, fun ws p1 hw hs hp1 => ⟨p1, _, rfl, .inl ⟨SqL.of upd_same, fun p2 hp2 => ⟨by show 2 ≤ sizeLine; decide, fun p3 hp3 => fin a H2 (Same.refl _) ha3 ws p1 hw hs hp1 p2 hp2 p3 hp3⟩⟩⟩⟩
      · have ec : cutV (xs.map V.str) none (some (1 + (j : Int))) = (xs.take (j + 1)).map V.str := by rw [em, cut_to, List.map_take]
        show (fun (Hx : Hp) => _) (upd H2 r (.tup (cutV (xs.map V.str) none (some (1 + (j : Int))))))
        rw [ec]
        exact ⟨r, xs.take (j + 1), rfl, .inr (SqT.of upd_same), hsm, fun ws p1 hw hs hp1 => ⟨p1, _, rfl, .inl ⟨SqL.of upd_same, fun p2 hp2 => ⟨by show 2 ≤ sizeLine; decide, fun p3 hp3 => fin r _ (same_new hr) upd_same ws p1 hw hs hp1 p2 hp2 p3 hp3⟩⟩⟩⟩
theorem scIndex : FnScope ["_law_bag_here", "_law_names_here"] ["_law_bag_here", "_law_names_here"] (defScope sIndex) := ⟨rfl, rfl, rfl, by decide +kernel, rfl, by decide +kernel, by decide +kernel⟩
theorem ok_index {f : Addr} {fd : FuncData} (F : Fun K "_law_index" "_law_index" sIndex f fd) (T : Txt K mg) (cT : Cal P w K mg base 1 "_law_take" ["_law_bag_here", "_law_many"] spTake) (cM : Cal P w K mg base 2 "_law_mixed" ["_law_bag_here", "_law_things"] spMixed) : FnOk P w K mg base CX0 3 f fd ["_law_bag_here", "_law_names_here"] spIndex := by
  refine F.ok scIndex (fun vs H Q E h => ?_) (fun cdv A outer s H vs Q E hr h => ?_)
  · obtain ⟨b, l, a, xs, rfl, _⟩ := h
    rfl
  · obtain ⟨b, l, a, xs, rfl, B, nab, ha, R, k⟩ := h
    have nd := scIndex.nd
    have hr1 : Room 1 _ := hr.mono (by decide)
    refine ⟨_, pss_one (ps_ret (pe_callTy call_tuple_of (by rfl) T.tuple (by decide +kernel) (pa_cons (pe_slice sl_list (pe_call cM.G hr rfl cM.m cM.kp cM.b .nil pass0 (pa_cons (pv 0) (pa_cons (pv 1) pa_nil))) po_none
        (po_some (pe_op op_add pe_int (pe_call cT.G hr1 rfl cT.m cT.kp cT.b .nil pass0 (pa_cons (pv 0) (pa_cons (pe_callB call_len_seq (by rfl) T.len PySem.boot_len (pa_cons (pv 1) pa_nil)) pa_nil)))))) pa_nil))), ?_⟩
    have hl := R.le
    have hpos := R.pos
    refine ⟨_, rfl, _, rfl, b, l, a, _, rfl, B, nab, ha, by rw [List.length_map]; omega, fun ys0 p H1 hp0 hp hpb h1 B1 k1 => ?_⟩
    obtain ⟨ys, rfl, hy⟩ := perm_strs hp0
    have ha1 := k1 _ _ ha nab
    refine ⟨_, rfl, _, rfl, _, _, rfl, .inl (SqL.of ha1), b, l, _, rfl, B1, by rw [List.length_map]; omega, by rw [List.length_map]; omega, fun j H2 hj B2 k2 => ?_⟩
    rw [List.length_map] at hj
    refine ⟨_, _, rfl, rfl, _, rfl, p, _, rfl, SqL.of (k2 _ _ h1 hpb), fun r hr => ⟨r, _, rfl, .inl ⟨SqL.of upd_same, fun t ht => ?_⟩⟩⟩
    have ec : cutV (ys.map V.str) none (some (1 + (j : Int))) = (ys.take (j + 1)).map V.str := by
      have e1 : (1 + (j : Int)) = ((j + 1 : Nat) : Int) := by omega
      rw [e1, cut_to, List.map_take]
    rw [ec] at ht
    rw [ec]
    have hyl := hy.length_eq
    have sl := List.take_sublist (j + 1) ys
    have s2 : Same H2 _ := (same_new (o := .lst ((ys.take (j + 1)).map V.str)) hr).trans (same_new (o := .tup ((ys.take (j + 1)).map V.str)) ht)
    have hsub : ∀ c ∈ ys.take (j + 1), c ∈ xs := fun c hc => hy.mem_iff.mp (sl.mem hc)
    exact k t (ys.take (j + 1)) _ upd_same ⟨(hy.nodup_iff.mpr R.nd).sublist sl, fun c hc => R.sub _ (hsub c hc), by rw [List.length_take]; omega, by rw [List.length_take]; omega⟩ hsub (B2.same s2) (k1.trans (k2.trans (Kp.of s2)))
theorem scFault : FnScope ["index", "question", "columns", "last", "many", "place"] ["index", "question"] (defScope sFault) := ⟨rfl, rfl, rfl, by decide +kernel, rfl, by decide +kernel, by decide +kernel⟩
theorem ok_fault {f : Addr} {fd : FuncData} (F : Fun K "first_fault" "first_fault" sFault f fd) (T : Txt K mg) : FnOk P w K mg base CX0 1 f fd ["index", "question"] spFault := by
  refine F.ok scFault (fun vs H Q E h => ?_) (fun cdv A outer s H vs Q E hr h => ?_)
  · obtain ⟨t, q, ix, cols, e, rfl, _⟩ := h
    rfl
  · obtain ⟨t, q, ix, cols, e, rfl, ht, ⟨c, hq, hc⟩, hl, k⟩ := h
    have nd := scFault.nd
    refine ⟨_, pss_cons (ps_asg (pv 1) (pg_tup (by rfl) (pgs_cons (pg_name (i := 2) nd rfl (Or.inl rfl)) (pgs_cons (pg_name (i := 3) nd rfl (Or.inl rfl)) pgs_nil))))
      (pss_cons (ps_set (i := 4) nd rfl (Or.inl rfl) (pe_callB call_len_seq (by rfl) T.len PySem.boot_len (pa_cons (pv 2) pa_nil)))
      (pss_cons (ps_for PassesOwn.never rfl (pi_range1 (by rfl) T.range (pa_cons (pv 4) pa_nil)) (pg_name (i := 5) nd rfl (Or.inl rfl))
        (pss_one (ps_if (PW.pt (pw_or (pt_cmpR op_ge (pv 5) (pe_callB call_len_seq (by rfl) T.len PySem.boot_len (pa_cons (pv 0) pa_nil)) (nomark _)) (pw_or1 (pt_cmpR op_notIn_seq (pe_ix ix_tup (pv 0) (pv 5) fun _ _ => rfl) (pv 2) (by rfl)))))
          (pss_one (ps_ret (pv 5))) pss_nil)))
      (pss_cons (ps_if (PW.pt (pw_and (pt_cmpR op_ne (pv 3) pe_str (nomark _)) (pw_and1 (PW.pt (pw_or (pt_cmpR op_ge (pv 4) (pe_callB call_len_seq (by rfl) T.len PySem.boot_len (pa_cons (pv 0) pa_nil)) (nomark _)) (pw_or1 (pt_cmpR op_ne (pe_ix ix_tup (pv 0) (pv 4) fun _ _ => rfl) (pv 3) (nomark _))))))))
        (pss_one (ps_ret (pv 4))) pss_nil)
      (pss_one (ps_ret pe_non))))), ?_⟩
    have hlm : (cols.map V.str).length = cols.length := List.length_map _
    have hlx : (ix.map V.str).length = ix.length := List.length_map _
    refine ⟨_, rfl, q, _, rfl, SqT.of hq, rfl, _, _, rfl, _, _, rfl, rfl, _, rfl, _, _, rfl, .inr (SqT.of hc), _, rfl, _, rfl, by omega, by omega, ?_⟩
    rw [hlm]
    refine for_range (lo := 0) (n := cols.length) (fun i σ H' => H' = H ∧ (∃ v, σ = [some (.ref t), some (.ref q), some (.ref c), some (.str e), some (.int (cols.length : Int)), v]) ∧ ∀ p, p < i → goodAt ix cols p)
      ⟨rfl, ⟨none, rfl⟩, fun p hp => absurd hp (Nat.not_lt_zero p)⟩ ?_ ?_
    · rintro i σ H' hi ⟨rfl, ⟨v, rfl⟩, hg⟩
      have e0 : (0 : Int) + (i : Int) = (i : Int) := Int.zero_add _
      rw [e0]
      refine ⟨_, rfl, _, rfl, _, _, rfl, .inr (SqT.of ht), _, _, rfl, rfl, _, rfl, ?_⟩
      rw [hlx]
      refine ite2 (fun h1 => ?_) (fun h1 => ?_)
      · refine ⟨_, rfl, ?_⟩
        have hle : ix.length ≤ i := by
          have := of_decide_eq_true h1
          omega
        have hb : ¬ goodAt ix cols i := fun ⟨c', h2, _⟩ => by rw [List.getElem?_eq_none hle] at h2; cases h2
        have := k H' (Same.refl _)
        rw [fault_at hi hg hb] at this
        exact this
      · have hlt : i < ix.length := by
          by_cases hh : i < ix.length
          · exact hh
          · exact absurd (decide_eq_true (by omega)) h1
        refine ⟨_, rfl, _, rfl, t, _, (i : Int), .str ix[i], rfl, rfl, SqT.of ht, atI_nat (by rw [List.getElem?_map, List.getElem?_eq_getElem hlt]; rfl), _, rfl, c, _, rfl, .inr (SqT.of hc), rfl, flat_strs _, _, rfl, ?_⟩
        show if (!inV (.str ix[i]) (cols.map V.str)) = true then _ else _
        rw [inV_strs]
        by_cases hm : ix[i] ∈ cols
        · rw [decide_eq_true hm]
          refine iteF ?_
          refine ⟨rfl, ⟨_, rfl⟩, fun p hp => ?_⟩
          by_cases hpi : p = i
          · subst hpi
            exact ⟨ix[p], List.getElem?_eq_getElem hlt, hm⟩
          · exact hg p (by omega)
        · rw [decide_eq_false hm]
          refine iteT ?_
          refine ⟨_, rfl, ?_⟩
          have hb : ¬ goodAt ix cols i := fun ⟨c', h2, h3⟩ => by
            rw [List.getElem?_eq_getElem hlt] at h2
            cases h2
            exact hm h3
          have := k H' (Same.refl _)
          rw [fault_at hi hg hb] at this
          exact this
    · rintro σ H' ⟨rfl, ⟨v, rfl⟩, hg⟩
      have kk := k H' (Same.refl _)
      rw [fault_end hg] at kk
      refine ⟨_, rfl, rfl, _, rfl, ?_⟩
      show if (!decide (V.str e = V.str "")) = true then _ else _
      by_cases he : e = ""
      · rw [decide_eq_true (congrArg V.str he)]
        refine iteF ?_
        rw [if_neg (fun h => h.1 he)] at kk
        refine iteF ?_
        exact kk
      · rw [decide_eq_false (fun h => he (by injection h))]
        refine iteT ?_
        refine ⟨_, rfl, _, rfl, _, _, rfl, .inr (SqT.of ht), _, _, rfl, rfl, _, rfl, ?_⟩
        rw [hlx]
        refine ite2 (fun h1 => ?_) (fun h1 => ?_)
        · have hle : ix.length ≤ cols.length := by
            have := of_decide_eq_true h1
            omega
          rw [if_pos ⟨he, by rw [List.getElem?_eq_none hle]; intro h; cases h⟩] at kk
          refine iteT ?_
          exact ⟨_, rfl, kk⟩
        · have hlt : cols.length < ix.length := by
            by_cases hh : cols.length < ix.length
            · exact hh
            · exact absurd (decide_eq_true (by omega)) h1
          refine ⟨_, rfl, _, rfl, t, _, (cols.length : Int), .str ix[cols.length], rfl, rfl, SqT.of ht, atI_nat (by rw [List.getElem?_map, List.getElem?_eq_getElem hlt]; rfl), _, rfl, rfl, _, rfl, ?_⟩
          show if (!decide (V.str ix[cols.length] = V.str e)) = true then _ else _
          by_cases hm : ix[cols.length] = e
          · rw [decide_eq_true (congrArg V.str hm)]
            rw [if_neg (fun h => h.2 (by rw [List.getElem?_eq_getElem hlt, hm]))] at kk
            refine iteF ?_
            exact kk
          · rw [decide_eq_false (fun h => hm (by injection h))]
            rw [if_pos ⟨he, fun h => hm (by rw [List.getElem?_eq_getElem hlt] at h; exact Option.some.inj h)⟩] at kk
            refine iteT ?_
            exact ⟨_, rfl, kk⟩
theorem scDue : FnScope ["_law_index_here", "_law_question_here", "_law_size", "_law_place"] ["_law_index_here", "_law_question_here"] (defScope sDue) := ⟨rfl, rfl, rfl, by decide +kernel, rfl, by decide +kernel, by decide +kernel⟩
theorem ok_due {f : Addr} {fd : FuncData} (F : Fun K "_law_due" "_law_due" sDue f fd) (T : Txt K mg) : FnOk P w K mg base CX0 1 f fd ["_law_index_here", "_law_question_here"] spFault := by
  refine F.ok scDue (fun vs H Q E h => ?_) (fun cdv A outer s H vs Q E hr h => ?_)
  · obtain ⟨t, q, ix, cols, e, rfl, _⟩ := h
    rfl
  · obtain ⟨t, q, ix, cols, e, rfl, ht, ⟨c, hq, hc⟩, hl, k⟩ := h
    have nd := scDue.nd
    refine ⟨_, pss_cons (ps_set (i := 2) nd rfl (Or.inl rfl) (pe_callB call_len_seq (by rfl) T.len PySem.boot_len (pa_cons (pe_ix ix_tup (pv 1) pe_int fun _ _ => rfl) pa_nil)))
      (pss_cons (ps_for PassesOwn.never rfl (pi_range1 (by rfl) T.range (pa_cons (pv 2) pa_nil)) (pg_name (i := 3) nd rfl (Or.inl rfl))
        (pss_one (ps_if (PW.pt (pw_or (pt_cmpR op_ge (pv 3) (pe_callB call_len_seq (by rfl) T.len PySem.boot_len (pa_cons (pv 0) pa_nil)) (nomark _)) (pw_or1 (pt_cmpR op_notIn_seq (pe_ix ix_tup (pv 0) (pv 3) fun _ _ => rfl) (pe_ix ix_tup (pv 1) pe_int fun _ _ => rfl) (by rfl)))))
          (pss_one (ps_ret (pv 3))) pss_nil)))
      (pss_cons (ps_if (PW.pt (pw_and (pt_cmpR op_ne (pe_ix ix_tup (pv 1) pe_int fun _ _ => rfl) pe_str (nomark _)) (pw_and1 (PW.pt (pw_or (pt_cmpR op_ge (pv 2) (pe_callB call_len_seq (by rfl) T.len PySem.boot_len (pa_cons (pv 0) pa_nil)) (nomark _)) (pw_or1 (pt_cmpR op_ne (pe_ix ix_tup (pv 0) (pv 2) fun _ _ => rfl) (pe_ix ix_tup (pv 1) pe_int fun _ _ => rfl) (nomark _))))))))
        (pss_one (ps_ret (pv 2))) pss_nil)
      (pss_one (ps_ret pe_non)))), ?_⟩
    have hlm : (cols.map V.str).length = cols.length := List.length_map _
    have hlx : (ix.map V.str).length = ix.length := List.length_map _
    refine ⟨_, rfl, q, _, 0, _, rfl, rfl, SqT.of hq, rfl, _, _, rfl, .inr (SqT.of hc), _, rfl, _, rfl, by omega, by omega, ?_⟩
    rw [hlm]
    refine for_range (lo := 0) (n := cols.length) (fun i σ H' => H' = H ∧ (∃ v, σ = [some (.ref t), some (.ref q), some (.int (cols.length : Int)), v]) ∧ ∀ p, p < i → goodAt ix cols p)
      ⟨rfl, ⟨none, rfl⟩, fun p hp => absurd hp (Nat.not_lt_zero p)⟩ ?_ ?_
    · rintro i σ H' hi ⟨rfl, ⟨v, rfl⟩, hg⟩
      have e0 : (0 : Int) + (i : Int) = (i : Int) := Int.zero_add _
      rw [e0]
      refine ⟨_, rfl, _, rfl, _, _, rfl, .inr (SqT.of ht), _, _, rfl, rfl, _, rfl, ?_⟩
      rw [hlx]
      refine ite2 (fun h1 => ?_) (fun h1 => ?_)
      · refine ⟨_, rfl, ?_⟩
        have hle : ix.length ≤ i := by
          have := of_decide_eq_true h1
          omega
        have hb : ¬ goodAt ix cols i := fun ⟨c', h2, _⟩ => by rw [List.getElem?_eq_none hle] at h2; cases h2
        have := k H' (Same.refl _)
        rw [fault_at hi hg hb] at this
        exact this
      · have hlt : i < ix.length := by
          by_cases hh : i < ix.length
          · exact hh
          · exact absurd (decide_eq_true (by omega)) h1
        refine ⟨_, rfl, _, rfl, t, _, (i : Int), .str ix[i], rfl, rfl, SqT.of ht, atI_nat (by rw [List.getElem?_map, List.getElem?_eq_getElem hlt]; rfl), _, rfl, q, _, 0, _, rfl, rfl, SqT.of hq, rfl, c, _, rfl, .inr (SqT.of hc), rfl, flat_strs _, _, rfl, ?_⟩
        show if (!inV (.str ix[i]) (cols.map V.str)) = true then _ else _
        rw [inV_strs]
        by_cases hm : ix[i] ∈ cols
        · rw [decide_eq_true hm]
          refine iteF ?_
          refine ⟨rfl, ⟨_, rfl⟩, fun p hp => ?_⟩
          by_cases hpi : p = i
          · subst hpi
            exact ⟨ix[p], List.getElem?_eq_getElem hlt, hm⟩
          · exact hg p (by omega)
        · rw [decide_eq_false hm]
          refine iteT ?_
          refine ⟨_, rfl, ?_⟩
          have hb : ¬ goodAt ix cols i := fun ⟨c', h2, h3⟩ => by
            rw [List.getElem?_eq_getElem hlt] at h2
            cases h2
            exact hm h3
          have := k H' (Same.refl _)
          rw [fault_at hi hg hb] at this
          exact this
    · rintro σ H' ⟨rfl, ⟨v, rfl⟩, hg⟩
      have kk := k H' (Same.refl _)
      rw [fault_end hg] at kk
      refine ⟨_, rfl, q, _, 1, _, rfl, rfl, SqT.of hq, rfl, rfl, _, rfl, ?_⟩
      show if (!decide (V.str e = V.str "")) = true then _ else _
      by_cases he : e = ""
      · rw [decide_eq_true (congrArg V.str he)]
        refine iteF ?_
        rw [if_neg (fun h => h.1 he)] at kk
        refine iteF ?_
        exact kk
      · rw [decide_eq_false (fun h => he (by injection h))]
        refine iteT ?_
        refine ⟨_, rfl, _, rfl, _, _, rfl, .inr (SqT.of ht), _, _, rfl, rfl, _, rfl, ?_⟩
        rw [hlx]
        refine ite2 (fun h1 => ?_) (fun h1 => ?_)
        · have hle : ix.length ≤ cols.length := by
            have := of_decide_eq_true h1
            omega
          rw [if_pos ⟨he, by rw [List.getElem?_eq_none hle]; intro h; cases h⟩] at kk
          refine iteT ?_
          exact ⟨_, rfl, kk⟩
        · have hlt : cols.length < ix.length := by
            by_cases hh : cols.length < ix.length
            · exact hh
            · exact absurd (decide_eq_true (by omega)) h1
          refine ⟨_, rfl, _, rfl, t, _, (cols.length : Int), .str ix[cols.length], rfl, rfl, SqT.of ht, atI_nat (by rw [List.getElem?_map, List.getElem?_eq_getElem hlt]; rfl), _, rfl, q, _, 1, _, rfl, rfl, SqT.of hq, rfl, rfl, _, rfl, ?_⟩
          show if (!decide (V.str ix[cols.length] = V.str e)) = true then _ else _
          by_cases hm : ix[cols.length] = e
          · rw [decide_eq_true (congrArg V.str hm)]
            rw [if_neg (fun h => h.2 (by rw [List.getElem?_eq_getElem hlt, hm]))] at kk
            refine iteF ?_
            exact kk
          · rw [decide_eq_false (fun h => hm (by injection h))]
            rw [if_pos ⟨he, fun h => hm (by rw [List.getElem?_eq_getElem hlt] at h; exact Option.some.inj h)⟩] at kk
            refine iteT ?_
            exact ⟨_, rfl, kk⟩
theorem pw_risingS : ∀ (r : List Str) (p : Str), (p :: r).Pairwise leS → risingS p r = true
  | [], _, _ => rfl
  | x :: r, p, h => by
    obtain ⟨h1, h2⟩ := List.pairwise_cons.mp h
    have h3 : ltCps x.cps.toList p.cps.toList = false := h1 x List.mem_cons_self
    show (!ltCps x.cps.toList p.cps.toList && risingS x r) = true
    rw [h3, pw_risingS r x h2]
    rfl
theorem pw_sortedS {xs : List Str} (h : xs.Pairwise leS) : sortedS xs = true := by
  cases xs with
  | nil => rfl
  | cons x r => exact pw_risingS r x h
theorem exists_sorted (xs : List Str) : ∃ ws : List Str, ws.Perm xs ∧ sortedS ws = true := ⟨srt xs, srt_perm xs, pw_sortedS (srt_pw xs)⟩
theorem scServ : FnScope ["index", "question", "columns", "last", "many"] ["index", "question"] (defScope sServ) := ⟨rfl, rfl, rfl, by decide +kernel, rfl, by decide +kernel, by decide +kernel⟩
theorem ok_serv {f : Addr} {fd : FuncData} (F : Fun K "serves" "serves" sServ f fd) (T : Txt K mg) : FnOk P w K mg base CX0 1 f fd ["index", "question"] spServes := by
  refine F.ok scServ (fun vs H Q E h => ?_) (fun cdv A outer s H vs Q E hr h => ?_)
  · obtain ⟨t, q, ix, cols, e, rfl, _⟩ := h
    rfl
  · obtain ⟨t, q, ix, cols, e, rfl, ht, ⟨c, hq, hc⟩, hl, hxl, hxn, hxm, hcn, hcs, hcm, hem, k⟩ := h
    have nd := scServ.nd
    refine ⟨_, pss_cons (ps_asg (pv 1) (pg_tup (by rfl) (pgs_cons (pg_name (i := 2) nd rfl (Or.inl rfl)) (pgs_cons (pg_name (i := 3) nd rfl (Or.inl rfl)) pgs_nil))))
      (pss_cons (ps_set (i := 4) nd rfl (Or.inl rfl) (pe_callB call_len_seq (by rfl) T.len PySem.boot_len (pa_cons (pv 2) pa_nil)))
      (Evl.pss_cut (ps_if (PW.pt (pw_and (pt_cmpR op_ne (pv 3) pe_str (nomark _)) (pw_and1 (pt_cmpR (op_neD hr.units) (pe_slice sl_tupA (pv 0) (po_some (pv 4)) (po_some (pe_op op_add (pv 4) pe_int)))
          (pe_tup (pa_cons (pv 3) pa_nil)) (nomark _))))) (pss_one (ps_ret pe_bl)) pss_nil)
      (pss_one (ps_ret (pe_cmpR (op_eqD hr.units) (pe_callTy call_tuple_of (by rfl) T.tuple (by decide +kernel) (pa_cons (pe_callB cr_sortedST (by rfl) T.sorted (by decide +kernel)
        (pa_cons (pe_slice sl_tupA (pv 0) po_none (po_some (pv 4))) pa_nil)) pa_nil)) (pv 2) (nomark _)))))), ?_⟩
    have hlm : (cols.map V.str).length = cols.length := List.length_map _
    have fn : ∀ ws : List Str, ws.Perm (ix.take cols.length) → sortedS ws = true → (fault ix cols e = none ↔ ws = cols ∧ (e = "" ∨ ix[cols.length]? = some e)) := fun ws hw hs => fault_none hxn hcn hcs hw hs
    have cm : ∀ c ∈ cols, PyData.strOk c = true := fun c hc => menu_ok _ (hcm _ hc)
    refine ⟨_, rfl, q, _, rfl, SqT.of hq, rfl, _, _, rfl, _, _, rfl, rfl, _, rfl, _, _, rfl, .inr (SqT.of hc), ?_⟩
    rw [hlm]
    refine ⟨fun σ' H' => σ' = [some (.ref t), some (.ref q), some (.ref c), some (.str e), some (.int (cols.length : Int))] ∧ Same H H' ∧ (e = "" ∨ ix[cols.length]? = some e), ?_, ?_⟩
    · refine ⟨_, rfl, rfl, _, rfl, ?_⟩
      show if (!decide (V.str e = V.str "")) = true then _ else _
      by_cases he : e = ""
      · rw [decide_eq_true (congrArg V.str he)]
        refine iteF ?_
        refine iteF ?_
        exact ⟨rfl, Same.refl _, .inl he⟩
      · rw [decide_eq_false (fun h => he (by injection h))]
        refine iteT ?_
        refine ⟨_, rfl, _, rfl, _, rfl, _, rfl, _, _, rfl, rfl, _, rfl, ?_⟩
        refine slA ht (cut_one cols.length ix) fun r2 H4 s4 h4 => ?_
        refine ⟨_, rfl, by show 1 ≤ sizeLine; decide, fun p5 hp5 => ?_⟩
        have em : e ∈ menu := hem.resolve_left he
        have lm : ∀ c ∈ (ix.drop cols.length).take 1, PyData.strOk c = true := fun c hc => menu_ok _ (hxm _ ((List.drop_sublist _ _).mem ((List.take_sublist _ _).mem hc)))
        have s5 := s4.trans (same_new (o := .tup [.str e]) hp5)
        refine ⟨.tuple (((ix.drop cols.length).take 1).map PyData.str), .tuple ([e].map PyData.str), .tup (SqT.of (same_new hp5 _ _ h4)) (dp_strs _), .tup (SqT.of upd_same) (dp_strs [e]), shaped_tuple lm,
          shaped_tuple (fun c hc => by rw [List.mem_singleton.mp hc]; exact menu_ok _ em), _, rfl, ?_⟩
        show if (!PyData.eqv (.tuple (((ix.drop cols.length).take 1).map PyData.str)) (.tuple ([e].map PyData.str))) = true then _ else _
        rw [PyData.eqv, eqv_strs]
        by_cases hm : (ix.drop cols.length).take 1 = [e]
        · rw [decide_eq_true hm]
          refine iteF ?_
          exact ⟨rfl, s5, .inr (take_one.mp hm)⟩
        · rw [decide_eq_false hm]
          refine iteT ?_
          have kk := k _ s5
          have hf : ¬ fault ix cols e = none := fun h => by
            obtain ⟨ws, hw, hs⟩ := exists_sorted (ix.take cols.length)
            rcases ((fn ws hw hs).mp h).2 with q | q
            · exact he q
            · exact hm (take_one.mpr q)
          rw [decide_eq_false hf] at kk
          exact kk
    · rintro σ' H1 ⟨rfl, s1, hd⟩
      refine ⟨_, rfl, _, rfl, _, rfl, ?_⟩
      refine slA (s1 _ _ ht) ((cut_to cols.length _).trans List.map_take.symm) fun r H2 s2 h2 => ?_
      refine ⟨r, ix.take cols.length, rfl, .inr (SqT.of h2), by rw [List.length_take]; omega, fun ws p hw hs hp => ?_⟩
      refine ⟨p, _, rfl, .inl ⟨SqL.of upd_same, fun d hd2 => ?_⟩⟩
      have s5 := (s1.trans s2).trans ((same_new (o := .lst (ws.map V.str)) hp).trans (same_new (o := .tup (ws.map V.str)) hd2))
      have wm : ∀ c ∈ ws, PyData.strOk c = true := fun c hc => menu_ok _ (hxm _ ((List.take_sublist _ _).mem (hw.mem_iff.mp hc)))
      refine ⟨_, rfl, .tuple (ws.map PyData.str), .tuple (cols.map PyData.str), .tup (SqT.of upd_same) (dp_strs _), .tup (SqT.of (s5 _ _ hc)) (dp_strs _), shaped_tuple wm, shaped_tuple cm, ?_⟩
      have kk := k _ s5
      rw [PyData.eqv, eqv_strs]
      have e3 : decide (fault ix cols e = none) = decide (ws = cols) := decide_eq_decide.mpr ⟨fun h => ((fn ws hw hs).mp h).1, fun h => (fn ws hw hs).mpr ⟨h, hd⟩⟩
      rw [e3] at kk
      exact kk
theorem scAlike : FnScope ["_law_found", "_law_due_here"] ["_law_found", "_law_due_here"] (defScope sAlike) := ⟨rfl, rfl, rfl, by decide +kernel, rfl, by decide +kernel, by decide +kernel⟩
theorem ok_alike {f : Addr} {fd : FuncData} (F : Fun K "_law_alike" "_law_alike" sAlike f fd) (T : Txt K mg) : FnOk P w K mg base CX0 1 f fd ["_law_found", "_law_due_here"] spAlikeF := by
  refine F.ok scAlike (fun vs H Q E h => ?_) (fun cdv A outer s H vs Q E hr h => ?_)
  · obtain ⟨v, t, rfl, _⟩ := h
    rfl
  · obtain ⟨v, t, rfl, ht, k⟩ := h
    refine ⟨_, pss_one (ps_ret (pe_and (pe_cmpR op_eq (pv 0) (pv 1) (nomark _)) (pe_one (pe_cmpR op_eq (pe_callB call_reprF (by rfl) T.repr (by decide +kernel) (pa_cons (pv 0) pa_nil)) (pe_callB call_reprF (by rfl) T.repr (by decide +kernel) (pa_cons (pv 1) pa_nil)) (nomark _))))), ?_⟩
    refine ⟨_, rfl, _, rfl, scal_flat ht, _, rfl, ?_⟩
    rw [decide_eq_true (rfl : v = v)]
    refine iteT ?_
    refine ⟨_, rfl, v, t, rfl, ht, _, rfl, v, t, rfl, ht, rfl, ?_⟩
    show Q (.bl (decide (V.str t = V.str t))) H
    rw [decide_eq_true rfl]
    exact k
theorem scServes : FnScope ["_law_index_here", "_law_question_here", "_law_size"] ["_law_index_here", "_law_question_here"] (defScope sServes) := ⟨rfl, rfl, rfl, by decide +kernel, rfl, by decide +kernel, by decide +kernel⟩
theorem ok_serves {f : Addr} {fd : FuncData} (F : Fun K "_law_serves" "_law_serves" sServes f fd) (T : Txt K mg) : FnOk P w K mg base CX0 1 f fd ["_law_index_here", "_law_question_here"] spServes := by
  refine F.ok scServes (fun vs H Q E h => ?_) (fun cdv A outer s H vs Q E hr h => ?_)
  · obtain ⟨t, q, ix, cols, e, rfl, _⟩ := h
    rfl
  · obtain ⟨t, q, ix, cols, e, rfl, ht, ⟨c, hq, hc⟩, hl, hxl, hxn, hxm, hcn, hcs, hcm, hem, k⟩ := h
    have nd := scServes.nd
    refine ⟨_, pss_cons (ps_set (i := 2) nd rfl (Or.inl rfl) (pe_callB call_len_seq (by rfl) T.len PySem.boot_len (pa_cons (pe_ix ix_tup (pv 1) pe_int fun _ _ => rfl) pa_nil)))
      (pss_cons (ps_if (pt_cmpR (op_neD hr.units) (pe_callB cr_sortedST (by rfl) T.sorted (by decide +kernel) (pa_cons (pe_slice sl_tupA (pv 0) po_none (po_some (pv 2))) pa_nil))
          (pe_callTy call_list_of (by rfl) T.list (by decide +kernel) (pa_cons (pe_ix ix_tup (pv 1) pe_int fun _ _ => rfl) pa_nil)) (nomark _)) (pss_one (ps_ret pe_bl)) pss_nil)
      (pss_one (ps_ret (pe_or (pe_cmpR op_eq (pe_ix ix_tup (pv 1) pe_int fun _ _ => rfl) pe_str (nomark _)) (pe_one (pe_cmpR (op_eqD hr.units) (pe_slice sl_tupA (pv 0) (po_some (pv 2)) (po_some (pe_op op_add (pv 2) pe_int)))
          (pe_tup (pa_cons (pe_ix ix_tup (pv 1) pe_int fun _ _ => rfl) pa_nil)) (nomark _))))))), ?_⟩
    have hlm : (cols.map V.str).length = cols.length := List.length_map _
    refine ⟨_, rfl, q, _, 0, _, rfl, rfl, SqT.of hq, rfl, _, _, rfl, .inr (SqT.of hc), _, rfl, _, rfl, _, rfl, ?_⟩
    rw [hlm]
    refine slA ht ((cut_to cols.length _).trans List.map_take.symm) fun r H1 s1 h1 => ?_
    refine ⟨r, ix.take cols.length, rfl, .inr (SqT.of h1), by rw [List.length_take]; omega, fun ws p hw hs hp => ?_⟩
    have s2 := s1.trans (same_new (o := .lst (ws.map V.str)) hp)
    refine ⟨_, rfl, q, _, 0, _, rfl, rfl, SqT.of (s2 _ _ hq), rfl, c, _, rfl, .inr (SqT.of (s2 _ _ hc)), fun p2 hp2 => ?_⟩
    have s3 := s2.trans (same_new (o := .lst (cols.map V.str)) hp2)
    have wm : ∀ c ∈ ws, PyData.strOk c = true := fun c hc => menu_ok _ (hxm _ ((List.take_sublist _ _).mem (hw.mem_iff.mp hc)))
    have cm : ∀ c ∈ cols, PyData.strOk c = true := fun c hc => menu_ok _ (hcm _ hc)
    refine ⟨.list (ws.map PyData.str), .list (cols.map PyData.str), .lst (SqL.of (same_new hp2 _ _ upd_same)) (dp_strs _), .lst (SqL.of upd_same) (dp_strs _), shaped_list wm, shaped_list cm, _, rfl, ?_⟩
    have fn := fault_none (last := e) hxn hcn hcs hw hs
    have kk := k _ s3
    show if (!PyData.eqv (.list (ws.map PyData.str)) (.list (cols.map PyData.str))) = true then _ else _
    rw [PyData.eqv, eqv_strs]
    by_cases hwc : ws = cols
    · rw [decide_eq_true hwc]
      refine iteF ?_
      refine ⟨_, rfl, q, _, 1, _, rfl, rfl, SqT.of (s3 _ _ hq), rfl, rfl, _, rfl, ?_⟩
      by_cases he : e = ""
      · rw [decide_eq_true (congrArg V.str he)]
        refine iteT ?_
        rw [decide_eq_true (fn.mpr ⟨hwc, .inl he⟩)] at kk
        exact kk
      · rw [decide_eq_false (fun h => he (by injection h))]
        refine iteF ?_
        refine ⟨_, rfl, _, rfl, _, rfl, _, rfl, _, _, rfl, rfl, _, rfl, ?_⟩
        refine slA (s3 _ _ ht) (cut_one cols.length ix) fun r2 H4 s4 h4 => ?_
        have s5 := s3.trans s4
        refine ⟨_, rfl, q, _, 1, _, rfl, rfl, SqT.of (s5 _ _ hq), rfl, by show 1 ≤ sizeLine; decide, fun p5 hp5 => ?_⟩
        have em : e ∈ menu := hem.resolve_left he
        have lm : ∀ c ∈ (ix.drop cols.length).take 1, PyData.strOk c = true := fun c hc => menu_ok _ (hxm _ ((List.drop_sublist _ _).mem ((List.take_sublist _ _).mem hc)))
        refine ⟨.tuple (((ix.drop cols.length).take 1).map PyData.str), .tuple ([e].map PyData.str), .tup (SqT.of (same_new hp5 _ _ h4)) (dp_strs _), .tup (SqT.of upd_same) (dp_strs [e]), shaped_tuple lm,
          shaped_tuple (fun c hc => by rw [List.mem_singleton.mp hc]; exact menu_ok _ em), ?_⟩
        have kk2 := k _ (s5.trans (same_new (o := .tup [.str e]) hp5))
        rw [PyData.eqv, eqv_strs]
        have e3 : decide (fault ix cols e = none) = decide ((ix.drop cols.length).take 1 = [e]) := by
          apply decide_eq_decide.mpr
          rw [fn]
          constructor
          · rintro ⟨_, h⟩
            rcases h with h | h
            · exact absurd h he
            · exact take_one.mpr h
          · intro h
            exact ⟨hwc, .inr (take_one.mp h)⟩
        rw [e3] at kk2
        exact kk2
    · rw [decide_eq_false hwc]
      refine iteT ?_
      rw [decide_eq_false (fun h => hwc (fn.mp h).1)] at kk
      exact kk
abbrev nLaw : List Str := ["_law_script", "_law_bag_here", "_law_turn", "_law_names_here", "_law_index_here", "_law_question_here", "_law_at", "_law_to", "_law_due_here", "_law_again", "_law_k"]
theorem scLaw : FnScope nLaw ["_law_script"] (defScope sLaw) := ⟨rfl, rfl, rfl, by decide +kernel, rfl, by decide +kernel, by decide +kernel⟩
def spLaw (K : PySem.W.Frag) : Sp := fun vs H Q _ => ∃ (a : Addr) (ns : List Int), vs = [.ref a] ∧ SqL K H a (ns.map V.int) ∧ ns.length ≤ 63 ∧ ∀ H', Q (.bl true) H'
def Mid (a b l : Addr) (σ : L2.St) (H : Hp) : Prop := ∃ (v2 v3 v6 v7 v8 v9 v10 : Option V) (t q : Addr) (ix cols : List Str) (e : Str),
  σ = [some (.ref a), some (.ref b), v2, v3, some (.ref t), some (.ref q), v6, v7, v8, v9, v10] ∧ Bag H b l ∧ H t = some (.tup (ix.map V.str)) ∧ Row ix ∧ QAt H q cols e ∧ QM cols e
theorem ok_law {f : Addr} {fd : FuncData} (F : Fun K "law" "law" sLaw f fd) (T : Txt K mg)
    (cB : Cal P w K mg base 1 "_law_bag" ["_law_script"] (spBag K))
    (cT : Cal P w K mg base 1 "_law_take" ["_law_bag_here", "_law_many"] spTake)
    (cO : Cal P w K mg base 2 "_law_one" ["_law_bag_here", "_law_some"] spOne)
    (cN : Cal P w K mg base 3 "_law_names" ["_law_bag_here", "_law_many"] spNames)
    (cI : Cal P w K mg base 3 "_law_index" ["_law_bag_here", "_law_names_here"] spIndex)
    (cQ : Cal P w K mg base 3 "_law_question" ["_law_bag_here", "_law_names_here"] spQuestion)
    (cG : Cal P w K mg base 2 "_law_beginning" ["_law_bag_here", "_law_row"] spBeginT)
    (cD : Cal P w K mg base 1 "_law_due" ["_law_index_here", "_law_question_here"] spFault)
    (cS : Cal P w K mg base 1 "_law_serves" ["_law_index_here", "_law_question_here"] spServes)
    (cA : Cal P w K mg base 1 "_law_alike" ["_law_found", "_law_due_here"] spAlikeF)
    (cF : Cal P w K mg base 1 "first_fault" ["index", "question"] spFault)
    (cV : Cal P w K mg base 1 "serves" ["index", "question"] spServes) : FnOk P w K mg base CX0 4 f fd ["_law_script"] (spLaw K) := by
  refine F.ok scLaw (fun vs H Q E h => ?_) (fun cdv A outer s H vs Q E hr h => ?_)
  · obtain ⟨a, ns, rfl, _⟩ := h
    rfl
  · obtain ⟨a, ns, rfl, hS, hlen, k⟩ := h
    have nd := scLaw.nd
    have hr1 : Room 1 _ := hr.mono (by decide)
    have hr2 : Room 2 _ := hr.mono (by decide)
    refine ⟨_, pss_cons (ps_set (i := 1) nd rfl (Or.inl rfl) (pe_call cB.G hr1 rfl cB.m cB.kp cB.b .nil pass0 (pa_cons (pv 0) pa_nil)))
      (pss_cons (ps_for PassesOwn.never rfl (pi_range1 (by rfl) T.range (pa_cons pe_int pa_nil)) (pg_name (i := 2) nd rfl (Or.inl rfl))
        -- names
        (Evl.pss_cut (ps_set (i := 3) nd rfl (Or.inl rfl) (pe_call cN.G hr rfl cN.m cN.kp cN.b .nil pass0 (pa_cons (pv 1) (pa_cons (pe_op op_add pe_int
          (pe_call cT.G hr1 rfl cT.m cT.kp cT.b .nil pass0 (pa_cons (pv 1) (pa_cons (pe_call cO.G hr2 rfl cO.m cO.kp cO.b .nil pass0 (pa_cons (pv 1) (pa_cons (pe_lst (pa_cons pe_int (pa_cons pe_int (pa_cons pe_int (pa_cons pe_int pa_nil))))) pa_nil))) pa_nil)))) pa_nil))))
        -- index, question
        (pss_cons (ps_set (i := 4) nd rfl (Or.inr rfl) (pe_call cI.G hr rfl cI.m cI.kp cI.b .nil pass0 (pa_cons (pv 1) (pa_cons (pv 3) pa_nil))))
        (Evl.pss_cut (ps_set (i := 5) nd rfl (Or.inl rfl) (pe_ifExp (pt_cmpR op_eq (pe_call cT.G hr1 rfl cT.m cT.kp cT.b .nil pass0 (pa_cons (pv 1) (pa_cons pe_int pa_nil))) pe_int (nomark _))
          (pe_call cQ.G hr rfl cQ.m cQ.kp cQ.b .nil pass0 (pa_cons (pv 1) (pa_cons (pv 3) pa_nil))) (pe_call cG.G hr2 rfl cG.m cG.kp cG.b .nil pass0 (pa_cons (pv 1) (pa_cons (pv 4) pa_nil)))))
        -- the index cut
        (Evl.pss_cut (ps_if (pt_cmpR op_eq (pe_call cT.G hr1 rfl cT.m cT.kp cT.b .nil pass0 (pa_cons (pv 1) (pa_cons pe_int pa_nil))) pe_int (nomark _))
          (pss_one (ps_set (i := 4) nd rfl (Or.inr rfl) (pe_slice sl_tupA (pv 4) po_none (po_some (pe_op op_add pe_int (pe_call cT.G hr1 rfl cT.m cT.kp cT.b .nil pass0 (pa_cons (pv 1) (pa_cons (pe_callB call_len_seq (by rfl) T.len PySem.boot_len (pa_cons (pv 4) pa_nil)) pa_nil)))))))) pss_nil)
        -- two places exchanged
        (Evl.pss_cut (ps_if (PW.pt (pw_and (pt_cmpR op_eq (pe_call cT.G hr1 rfl cT.m cT.kp cT.b .nil pass0 (pa_cons (pv 1) (pa_cons pe_int pa_nil))) pe_int (nomark _)) (pw_and1 (pt_cmpR op_gt (pe_callB call_len_seq (by rfl) T.len PySem.boot_len (pa_cons (pv 4) pa_nil)) pe_int (nomark _)))))
          (pss_cons (ps_asg (pe_tup (pa_cons (pe_call cT.G hr1 rfl cT.m cT.kp cT.b .nil pass0 (pa_cons (pv 1) (pa_cons (pe_callB call_len_seq (by rfl) T.len PySem.boot_len (pa_cons (pv 4) pa_nil)) pa_nil)))
              (pa_cons (pe_call cT.G hr1 rfl cT.m cT.kp cT.b .nil pass0 (pa_cons (pv 1) (pa_cons (pe_callB call_len_seq (by rfl) T.len PySem.boot_len (pa_cons (pv 4) pa_nil)) pa_nil))) pa_nil)))
              (pg_tup (by rfl) (pgs_cons (pg_name (i := 6) nd rfl (Or.inr rfl)) (pgs_cons (pg_name (i := 7) nd rfl (Or.inr rfl)) pgs_nil))))
          (pss_one (ps_set (i := 4) nd rfl (Or.inr rfl) (pe_callTy call_tuple_of (by rfl) T.tuple (by decide +kernel) (pa_cons
            (pe_lc (own := [("_law_k", 10)]) (g := gName 10) (tt := tYes) rfl nd (pi_range1 (by rfl) T.range (pa_cons (pe_callB call_len_seq (by rfl) T.len PySem.boot_len (pa_cons (pv 4) pa_nil)) pa_nil))
              (blkOk_by (N := nLaw) (sc := defScope sLaw) (by decide +kernel)) (fun _ _ _ _ _ => pg_name (i := 10) nd rfl (Or.inl rfl)) (fun _ _ _ _ _ => pts_nil)
              (fun _ _ _ _ _ => pe_ix (r := rIxT K) ix_tup (pv 4) (pe_ix (r := rIxL K) ix_list (pe_lst (pa_cons (pv 10) (pa_cons (pv 6) (pa_cons (pv 7) pa_nil))))
                (pe_op op_add (pe_callTy call_int1 (by rfl) T.int (by decide +kernel) (pa_cons (pe_cmpR op_eq (pv 10) (pv 7) (nomark _)) pa_nil))
                  (pe_op op_mul pe_int (pe_callTy call_int1 (by rfl) T.int (by decide +kernel) (pa_cons (pe_and (pe_cmpR op_eq (pv 10) (pv 6) (nomark _)) (pe_one (pe_cmpR op_ne (pv 10) (pv 7) (nomark _)))) pa_nil)))) fun _ _ => rfl) fun _ _ => rfl)) pa_nil))))) pss_nil)
        -- the looks
        (pss_cons (ps_set (i := 8) nd rfl (Or.inl rfl) (pe_call cD.G hr1 rfl cD.m cD.kp cD.b .nil pass0 (pa_cons (pv 4) (pa_cons (pv 5) pa_nil))))
        (pss_cons (ps_for PassesOwn.never rfl (pi_range1 (by rfl) T.range (pa_cons pe_int pa_nil)) (pg_name (i := 9) nd rfl (Or.inl rfl))
          (pss_cons (ps_if (pt_not (pt_val (pe_call cA.G hr1 rfl cA.m cA.kp cA.b .nil pass0 (pa_cons (pe_call cF.G hr1 rfl cF.m cF.kp cF.b .nil pass0 (pa_cons (pv 4) (pa_cons (pv 5) pa_nil))) (pa_cons (pv 8) pa_nil))))) (pss_one (ps_ret pe_bl)) pss_nil)
          (pss_one (ps_if (pt_not (pt_val (pe_call cA.G hr1 rfl cA.m cA.kp cA.b .nil pass0 (pa_cons (pe_call cV.G hr1 rfl cV.m cV.kp cV.b .nil pass0 (pa_cons (pv 4) (pa_cons (pv 5) pa_nil)))
            (pa_cons (pe_call cS.G hr1 rfl cS.m cS.kp cS.b .nil pass0 (pa_cons (pv 4) (pa_cons (pv 5) pa_nil))) pa_nil))))) (pss_one (ps_ret pe_bl)) pss_nil))))
        (pss_one (ps_if (pt_cmpR op_ne (pe_cmp (pc_isN (pv 8)) rfl) (pe_call cV.G hr1 rfl cV.m cV.kp cV.b .nil pass0 (pa_cons (pv 4) (pa_cons (pv 5) pa_nil))) (nomark _)) (pss_one (ps_ret pe_bl)) pss_nil)))))))))
        )
      (pss_one (ps_ret pe_bl))), ?_⟩
    refine ⟨_, rfl, a, ns, rfl, hS, hlen, fun b l H1 hb B1 s1 => ?_⟩
    refine ⟨24, rfl, by decide, by decide, ?_⟩
    refine for_range (lo := 0) (n := 24) (fun i σ H' => Bag H' b l ∧ ∃ (v2 v3 v4 v5 v6 v7 v8 v9 v10 : Option V), σ = [some (.ref a), some (.ref b), v2, v3, v4, v5, v6, v7, v8, v9, v10])
      ⟨B1, none, none, none, none, none, none, none, none, none, rfl⟩ ?_ (fun σ H' _ => k H')
    rintro i σ H' hi ⟨B, v2, v3, v4, v5, v6, v7, v8, v9, v10, rfl⟩
    -- names
    refine ⟨fun σ' H2 => ∃ (v2 : Option V) (nm : Addr) (xs : List Str), σ' = [some (.ref a), some (.ref b), v2, some (.ref nm), v4, v5, v6, v7, v8, v9, v10] ∧ Bag H2 b l ∧ nm ≠ b ∧ H2 nm = some (.lst (xs.map V.str)) ∧ Row xs, ?_, ?_⟩
    · refine ⟨_, rfl, _, rfl, _, rfl, by show 4 ≤ sizeLine; decide, fun p hp => ?_⟩
      refine ⟨b, l, p, _, rfl, B.new hp, B.ne hp, upd_same, by simp, by show 4 < 1000; decide, fun x H2 hx B2 k2 => ?_⟩
      obtain ⟨m, rfl, hm0, hm1⟩ : ∃ m : Int, x = V.int m ∧ 0 < m ∧ m ≤ 12 := by
        simp only [List.mem_cons, List.not_mem_nil, or_false] at hx
        rcases hx with rfl | rfl | rfl | rfl
        · exact ⟨6, rfl, by decide, by decide⟩
        · exact ⟨6, rfl, by decide, by decide⟩
        · exact ⟨6, rfl, by decide, by decide⟩
        · exact ⟨12, rfl, by decide, by decide⟩
      refine ⟨b, l, m, rfl, B2, hm0, by omega, fun j H3 hj B3 k3 => ⟨_, _, rfl, rfl, b, l, 1 + j, rfl, B3, fun xs nm H4 hN hn0 hnb h4 B4 k4 => ?_⟩⟩
      exact ⟨_, nm, xs, rfl, B4, hnb, h4, hN.row (by omega)⟩
    rintro σ2 H2 ⟨v2, nm, xs, rfl, B2, hnb, hnm, R⟩
    refine ⟨_, rfl, _, rfl, b, l, nm, xs, rfl, B2, hnb, hnm, R, fun t ix H3 ht Rx hsub B3 k3 => ?_⟩
    have hnm3 := k3 _ _ hnm hnb
    refine ⟨Mid a b l, ?_, ?_⟩
    · refine ⟨_, rfl, b, l, 2, rfl, B3, by decide, by decide, fun j H4 hj B4 k4 => ⟨rfl, _, rfl, ?_⟩⟩
      have ht4 := k4 _ _ ht (B3.ne_tup ht)
      refine ite2 (fun _ => ?_) (fun _ => ?_)
      · refine ⟨_, rfl, _, rfl, b, l, nm, xs, rfl, B4, hnb, k4 _ _ hnm3 hnb, R, fun q cols e H5 hq ok B5 k5 => ?_⟩
        exact ⟨_, _, _, _, _, _, _, t, q, ix, cols, e, rfl, B5, k5 _ _ ht4 (B4.ne_tup ht4), Rx, hq, ok.qm R.sub⟩
      · refine ⟨_, rfl, _, rfl, b, l, t, ix, rfl, B4, ht4, Rx, fun q cols e H5 hq ok B5 k5 => ?_⟩
        exact ⟨_, _, _, _, _, _, _, t, q, ix, cols, e, rfl, B5, k5 _ _ ht4 (B4.ne_tup ht4), Rx, hq, ok.qm Rx.sub⟩
    rintro σ3 H4 ⟨v2, v3, v6, v7, v8, v9, v10, t, q, ix, cols, e, rfl, B4, ht4, Rx, hq4, ok⟩
    refine ⟨Mid a b l, ?_, ?_⟩
    · refine ⟨_, rfl, b, l, 4, rfl, B4, by decide, by decide, fun j H5 hj B5 k5 => ⟨rfl, _, rfl, ?_⟩⟩
      have ht5 := k5 _ _ ht4 (B4.ne_tup ht4)
      have hq5 := hq4.kp B4 k5
      refine ite2 (fun _ => ?_) (fun _ => ⟨_, _, _, _, _, _, _, t, q, ix, cols, e, rfl, B5, ht5, Rx, hq5, ok⟩)
      have hlx : (ix.map V.str).length = ix.length := List.length_map _
      refine ⟨_, rfl, _, rfl, _, rfl, _, _, rfl, .inr (SqT.of ht5), b, l, _, rfl, B5, by have := Rx.pos; omega, by have := Rx.le; omega, fun j2 H6 hj2 B6 k6 => ⟨_, _, rfl, rfl, _, rfl, ?_⟩⟩
      have ht6 := k6 _ _ ht5 (B5.ne_tup ht5)
      have hq6 := hq5.kp B5 k6
      have ec : cutV (ix.map V.str) none (some (1 + (j2 : Int))) = (ix.take (j2 + 1)).map V.str := by
        have e1 : (1 + (j2 : Int)) = ((j2 + 1 : Nat) : Int) := by omega
        rw [e1, cut_to, List.map_take]
      refine slA ht6 ec fun r H7 s7 h7 => ?_
      exact ⟨_, _, _, _, _, _, _, r, q, _, cols, e, rfl, B6.same s7, h7, Rx.take j2, hq6.same s7, ok⟩
    rintro σ4 H5 ⟨v2, v3, v6, v7, v8, v9, v10, t, q, ix, cols, e, rfl, B5, ht5, Rx, hq5, ok⟩
    refine ⟨Mid a b l, ?_, ?_⟩
    · refine ⟨_, rfl, b, l, 3, rfl, B5, by decide, by decide, fun j H6 hj B6 k6 => ⟨rfl, _, rfl, ?_⟩⟩
      have ht6 := k6 _ _ ht5 (B5.ne_tup ht5)
      have hq6 := hq5.kp B5 k6
      have hlx : (ix.map V.str).length = ix.length := List.length_map _
      have hpos := Rx.pos
      have hle := Rx.le
      refine ite2 (fun _ => ?_) (fun _ => ?_)
      rotate_left
      · refine iteF ?_
        exact ⟨_, _, _, _, _, _, _, t, q, ix, cols, e, rfl, B6, ht6, Rx, hq6, ok⟩
      refine ⟨_, rfl, _, _, rfl, .inr (SqT.of ht6), _, _, rfl, rfl, _, rfl, ?_⟩
      refine ite2 (fun _ => ?_) (fun _ => ⟨_, _, _, _, _, _, _, t, q, ix, cols, e, rfl, B6, ht6, Rx, hq6, ok⟩)
      refine ⟨_, rfl, _, rfl, _, _, rfl, .inr (SqT.of ht6), b, l, _, rfl, B6, by omega, by omega, fun x H7 hx B7 k7 => ?_⟩
      have ht7 := k7 _ _ ht6 (B6.ne_tup ht6)
      have hq7 := hq6.kp B6 k7
      refine ⟨_, rfl, _, rfl, _, _, rfl, .inr (SqT.of ht7), b, l, _, rfl, B7, by omega, by omega, fun y H8 hy B8 k8 => ?_⟩
      have ht8 := k8 _ _ ht7 (B7.ne_tup ht7)
      have hq8 := hq7.kp B7 k8
      have hx' : x < ix.length := by omega
      have hy' : y < ix.length := by omega
      refine ⟨by show 2 ≤ sizeLine; decide, fun p hp => ?_⟩
      have s9 : Same H8 _ := same_new (o := .tup [.int (x : Int), .int (y : Int)]) hp
      have ht9 := s9 _ _ ht8
      refine ⟨p, _, rfl, SqT.of upd_same, rfl, _, _, rfl, _, _, rfl, rfl, ?_⟩
      refine ⟨_, rfl, _, _, rfl, .inr (SqT.of ht9), (ix.length : Int), by rw [hlx], by omega, by omega, fun D hD => ?_⟩
      refine lc_range (lo := 0) (n := ix.length) (fun i H' => Same (upd H8 p (.tup [.int (x : Int), .int (y : Int)])) H' ∧ H' D = some (.lst (((swp ix x y).take i).map V.str)))
        ⟨same_new hD, by rw [upd_same]; rfl⟩ ?_ ?_
      · rintro i H' hi ⟨s10, hDl⟩
        have e0 : (0 : Int) + (i : Int) = (i : Int) := Int.zero_add _
        rw [e0]
        have hsw : sw x y i < ix.length := sw_lt hx' hy' hi
        have hsl : (swp ix x y).length = ix.length := swp_len ix x y
        have fin : ∀ u, H' u = none → ∃ acc, (upd H' u (.lst [.int (i : Int), .int (x : Int), .int (y : Int)])) D = some (.lst acc) ∧ acc.length < sizeLine ∧
            Same (upd H8 p (.tup [.int (x : Int), .int (y : Int)])) (upd (upd H' u (.lst [.int (i : Int), .int (x : Int), .int (y : Int)])) D (.lst (acc ++ [.str ix[sw x y i]]))) ∧
            (upd (upd H' u (.lst [.int (i : Int), .int (x : Int), .int (y : Int)])) D (.lst (acc ++ [.str ix[sw x y i]]))) D = some (.lst (((swp ix x y).take (i + 1)).map V.str)) := by
          intro u hu
          have nDu : D ≠ u := ne_of_none hDl hu
          refine ⟨_, by rw [upd_ne nDu]; exact hDl, by rw [List.length_map, List.length_take, sizeLine_eq]; omega, fun c o hc => ?_, ?_⟩
          · have ncD : c ≠ D := ne_of_none hc hD
            rw [upd_ne ncD]
            exact same_new hu _ _ (s10 _ _ hc)
          · rw [upd_same, List.take_add_one, swp_get hx' hy' hi, List.getElem?_eq_getElem hsw, List.map_append]
            rfl
        have at9 : ∀ (u : Addr) (H9 : Hp), Same H' H9 → SqT K H9 t (ix.map V.str) := fun u H9 s => SqT.of (s _ _ (s10 _ _ ht9))
        have ate : atI (ix.map V.str) ((sw x y i : Nat) : Int) = some (V.str ix[sw x y i]) := atI_nat (by rw [List.getElem?_map, List.getElem?_eq_getElem hsw]; rfl)
        refine ⟨rfl, Exists.intro _ ⟨rfl, _, rfl, _, rfl, _, rfl, by show 3 ≤ sizeLine; decide, fun u hu => ?_⟩⟩
        refine ⟨_, rfl, _, rfl, rfl, .inr ⟨_, rfl, ?_⟩⟩
        refine ⟨_, rfl, _, rfl, rfl, _, rfl, ?_⟩
        by_cases h1 : i = y
        · have e1 : decide (V.int (i : Int) = V.int (y : Int)) = true := decide_eq_true (by rw [h1])
          have es : sw x y i = x := by unfold sw; rw [if_pos h1]
          rw [e1]
          have last : ∀ b2 : Bool, b2 = false → ∀ z, z = V.int ((if true = true then 1 else 0) + 2 * (if b2 = true then 1 else 0)) → atI [V.int (i : Int), .int (x : Int), .int (y : Int)] 1 = some (V.int ((sw x y i : Nat) : Int)) := fun _ _ _ _ => by rw [es]; rfl
          refine ite2 (fun _ => ?_) (fun _ => ?_)
          · refine ⟨_, rfl, _, rfl, rfl, .inr ⟨_, rfl, _, _, rfl, rfl, .inl ⟨by decide, by decide⟩, _, _, rfl, rfl, u, _, 1, .int ((sw x y i : Nat) : Int), rfl, ?_, SqL.of upd_same, by rw [es]; rfl, t, _, _, _, rfl, rfl, at9 u _ (same_new hu), ate, fin u hu⟩⟩
            show V.int ((if true = true then 1 else 0) + 2 * (if (!decide (V.int (i : Int) = V.int (y : Int))) = true then 1 else 0)) = V.int 1
            rw [e1]
            rfl
          · exact .inr ⟨_, rfl, _, _, rfl, rfl, .inl ⟨by decide, by decide⟩, _, _, rfl, rfl, u, _, 1, .int ((sw x y i : Nat) : Int), rfl, rfl, SqL.of upd_same, by rw [es]; rfl, t, _, _, _, rfl, rfl, at9 u _ (same_new hu), ate, fin u hu⟩
        · have e1 : decide (V.int (i : Int) = V.int (y : Int)) = false := decide_eq_false (fun h => h1 (by injection h with h; omega))
          rw [e1]
          by_cases h2 : i = x
          · have e2 : decide (V.int (i : Int) = V.int (x : Int)) = true := decide_eq_true (by rw [h2])
            have es : sw x y i = y := by unfold sw; rw [if_neg h1, if_pos h2]
            rw [e2]
            refine iteT ?_
            refine ⟨_, rfl, _, rfl, rfl, .inr ⟨_, rfl, _, _, rfl, rfl, .inl ⟨by decide, by decide⟩, _, _, rfl, rfl, u, _, 2, .int ((sw x y i : Nat) : Int), rfl, ?_, SqL.of upd_same, by rw [es]; rfl, t, _, _, _, rfl, rfl, at9 u _ (same_new hu), ate, fin u hu⟩⟩
            show V.int ((if false = true then 1 else 0) + 2 * (if (!decide (V.int (i : Int) = V.int (y : Int))) = true then 1 else 0)) = V.int 2
            rw [e1]
            rfl
          · have e2 : decide (V.int (i : Int) = V.int (x : Int)) = false := decide_eq_false (fun h => h2 (by injection h with h; omega))
            have es : sw x y i = i := by unfold sw; rw [if_neg h1, if_neg h2]
            rw [e2]
            refine iteF ?_
            exact .inr ⟨_, rfl, _, _, rfl, rfl, .inl ⟨by decide, by decide⟩, _, _, rfl, rfl, u, _, 0, .int ((sw x y i : Nat) : Int), rfl, rfl, SqL.of upd_same, by rw [es]; rfl, t, _, _, _, rfl, rfl, at9 u _ (same_new hu), ate, fin u hu⟩
      · rintro H' ⟨s10, hDl⟩
        rw [← swp_len ix x y, List.take_length] at hDl
        refine ⟨D, _, rfl, .inl ⟨SqL.of hDl, fun r hr => ?_⟩⟩
        have s11 : Same H8 (upd H' r (.tup ((swp ix x y).map V.str))) := s9.trans (s10.trans (same_new hr))
        exact ⟨_, _, _, _, _, _, _, r, q, swp ix x y, cols, e, rfl, B8.same s11, upd_same, swp_row Rx hx' hy', hq8.same s11, ok⟩
    rintro σ5 H6 ⟨v2, v3, v6, v7, v8, v9, v10, t, q, ix, cols, e, rfl, B6, ht6, Rx, hq6, ok⟩
    have fle : ∀ n, fault ix cols e = some n → n ≤ 12 := fun n h => Nat.le_trans (fault_le h) ok.le
    obtain ⟨tx, htx⟩ := optV_text fle
    refine ⟨_, rfl, _, rfl, t, q, ix, cols, e, rfl, ht6, hq6, ok.le, fun H7 s7 => ?_⟩
    refine ⟨2, rfl, by decide, by decide, ?_⟩
    refine for_range (lo := 0) (n := 2) (fun i σ H' => (∃ v9, σ = [some (.ref a), some (.ref b), v2, v3, some (.ref t), some (.ref q), v6, v7, some (optV (fault ix cols e)), v9, v10]) ∧ Same H6 H')
      ⟨⟨v9, rfl⟩, s7⟩ ?_ ?_
    · rintro i2 σ6 H8 hi2 ⟨⟨v9, rfl⟩, s8⟩
      refine ⟨_, rfl, _, rfl, t, q, ix, cols, e, rfl, s8 _ _ ht6, hq6.same s8, ok.le, fun H9 s9 => ⟨_, rfl, _, tx, rfl, htx, _, rfl, ?_⟩⟩
      refine iteF ?_
      have s89 := s8.trans s9
      refine ⟨_, rfl, _, rfl, t, q, ix, cols, e, rfl, s89 _ _ ht6, hq6.same s89, ok.le, Rx.le, Rx.nd, Rx.sub, ok.nd, ok.srt, ok.sub, ok.esub, fun H10 s10 => ?_⟩
      have s90 := s89.trans s10
      refine ⟨_, rfl, _, rfl, t, q, ix, cols, e, rfl, s90 _ _ ht6, hq6.same s90, ok.le, Rx.le, Rx.nd, Rx.sub, ok.nd, ok.srt, ok.sub, ok.esub, fun H11 s11 => ⟨_, _, rfl, rfl, _, rfl, ?_⟩⟩
      refine iteF ?_
      exact ⟨⟨_, rfl⟩, s90.trans s11⟩
    · rintro σ6 H8 ⟨⟨v9, rfl⟩, s8⟩
      refine ⟨_, rfl, _, rfl, _, rfl, t, q, ix, cols, e, rfl, s8 _ _ ht6, hq6.same s8, ok.le, Rx.le, Rx.nd, Rx.sub, ok.nd, ok.srt, ok.sub, ok.esub, fun H9 s9 => ⟨rfl, _, rfl, ?_⟩⟩
      have e2 : decide (optV (fault ix cols e) = V.non) = decide (fault ix cols e = none) := by
        cases fault ix cols e with
        | none => rfl
        | some n => rfl
      show if (!decide (V.bl (decide (optV (fault ix cols e) = V.non)) = V.bl (decide (fault ix cols e = none)))) = true then _ else _
      rw [e2, decide_eq_true rfl]
      refine iteF ?_
      exact ⟨(B6.same (s8.trans s9)), _, _, _, _, _, _, _, _, _, rfl⟩
end
theorem all_mk {l : PySem.W.OpenLaw} {w : World} {K : PySem.W.Frag} {h : Heap} {mg : Str → Option Value} {fa f1 f2 f3 f4 f5 f6 f7 f8 f9 f10 f11 f12 f13 f14 : Addr} (X : K.In h) (G : h.Ns mainGlobals mg) (hfa : mg "law" = some (.ref fa))
    {od1 an1 od2 an2 od3 an3 od4 an4 od5 an5 od6 an6 od7 an7 od8 an8 od9 an9 od10 an10 od11 an11 od12 an12 od13 an13 od14 an14 : Option Addr} {sl1 sl2 sl3 sl4 sl5 sl6 sl7 sl8 sl9 sl10 sl11 sl12 sl13 sl14 : Array (Option Value)} {oc1 kV1 dc1 pm1 cd1 ct1 oc2 kV2 dc2 pm2 cd2 ct2 oc3 kV3 dc3 pm3 cd3 ct3 oc4 kV4 dc4 pm4 cd4 ct4 oc5 kV5 dc5 pm5 cd5 ct5 oc6 kV6 dc6 pm6 cd6 ct6 oc7 kV7 dc7 pm7 cd7 ct7 oc8 kV8 dc8 pm8 cd8 ct8 oc9 kV9 dc9 pm9 cd9 ct9 oc10 kV10 dc10 pm10 cd10 ct10 oc11 kV11 dc11 pm11 cd11 ct11 oc12 kV12 dc12 pm12 cd12 ct12 oc13 kV13 dc13 pm13 cd13 ct13 oc14 kV14 dc14 pm14 cd14 ct14 : Value}
    (a1 : PySem.W.nsIn K mainGlobals "first_fault" = some (some (.ref f1))) (l1 : K.lookup f1 = some ⟨oc1, od1, .func (PySem.W.fnOf "first_fault" "first_fault" (defArgs sFault) (defBody sFault) (defScope sFault) .none kV1 dc1 pm1 an1 cd1 ct1), sl1⟩) (c1 : PySem.W.codeIn K cd1 "first_fault" = true) (k1 : PySem.W.keepIn K (.ref f1) = true)
    (a2 : PySem.W.nsIn K mainGlobals "serves" = some (some (.ref f2))) (l2 : K.lookup f2 = some ⟨oc2, od2, .func (PySem.W.fnOf "serves" "serves" (defArgs sServ) (defBody sServ) (defScope sServ) .none kV2 dc2 pm2 an2 cd2 ct2), sl2⟩) (c2 : PySem.W.codeIn K cd2 "serves" = true) (k2 : PySem.W.keepIn K (.ref f2) = true)
    (a3 : PySem.W.nsIn K mainGlobals "_law_bag" = some (some (.ref f3))) (l3 : K.lookup f3 = some ⟨oc3, od3, .func (PySem.W.fnOf "_law_bag" "_law_bag" (defArgs sBag) (defBody sBag) (defScope sBag) .none kV3 dc3 pm3 an3 cd3 ct3), sl3⟩) (c3 : PySem.W.codeIn K cd3 "_law_bag" = true) (k3 : PySem.W.keepIn K (.ref f3) = true)
    (a4 : PySem.W.nsIn K mainGlobals "_law_take" = some (some (.ref f4))) (l4 : K.lookup f4 = some ⟨oc4, od4, .func (PySem.W.fnOf "_law_take" "_law_take" (defArgs sTake) (defBody sTake) (defScope sTake) .none kV4 dc4 pm4 an4 cd4 ct4), sl4⟩) (c4 : PySem.W.codeIn K cd4 "_law_take" = true) (k4 : PySem.W.keepIn K (.ref f4) = true)
    (a5 : PySem.W.nsIn K mainGlobals "_law_one" = some (some (.ref f5))) (l5 : K.lookup f5 = some ⟨oc5, od5, .func (PySem.W.fnOf "_law_one" "_law_one" (defArgs sOne) (defBody sOne) (defScope sOne) .none kV5 dc5 pm5 an5 cd5 ct5), sl5⟩) (c5 : PySem.W.codeIn K cd5 "_law_one" = true) (k5 : PySem.W.keepIn K (.ref f5) = true)
    (a6 : PySem.W.nsIn K mainGlobals "_law_mixed" = some (some (.ref f6))) (l6 : K.lookup f6 = some ⟨oc6, od6, .func (PySem.W.fnOf "_law_mixed" "_law_mixed" (defArgs sMixed) (defBody sMixed) (defScope sMixed) .none kV6 dc6 pm6 an6 cd6 ct6), sl6⟩) (c6 : PySem.W.codeIn K cd6 "_law_mixed" = true) (k6 : PySem.W.keepIn K (.ref f6) = true)
    (a7 : PySem.W.nsIn K mainGlobals "_law_names" = some (some (.ref f7))) (l7 : K.lookup f7 = some ⟨oc7, od7, .func (PySem.W.fnOf "_law_names" "_law_names" (defArgs sNames) (defBody sNames) (defScope sNames) .none kV7 dc7 pm7 an7 cd7 ct7), sl7⟩) (c7 : PySem.W.codeIn K cd7 "_law_names" = true) (k7 : PySem.W.keepIn K (.ref f7) = true)
    (a8 : PySem.W.nsIn K mainGlobals "_law_question" = some (some (.ref f8))) (l8 : K.lookup f8 = some ⟨oc8, od8, .func (PySem.W.fnOf "_law_question" "_law_question" (defArgs sQuestion) (defBody sQuestion) (defScope sQuestion) .none kV8 dc8 pm8 an8 cd8 ct8), sl8⟩) (c8 : PySem.W.codeIn K cd8 "_law_question" = true) (k8 : PySem.W.keepIn K (.ref f8) = true)
    (a9 : PySem.W.nsIn K mainGlobals "_law_beginning" = some (some (.ref f9))) (l9 : K.lookup f9 = some ⟨oc9, od9, .func (PySem.W.fnOf "_law_beginning" "_law_beginning" (defArgs sBeginning) (defBody sBeginning) (defScope sBeginning) .none kV9 dc9 pm9 an9 cd9 ct9), sl9⟩) (c9 : PySem.W.codeIn K cd9 "_law_beginning" = true) (k9 : PySem.W.keepIn K (.ref f9) = true)
    (a10 : PySem.W.nsIn K mainGlobals "_law_index" = some (some (.ref f10))) (l10 : K.lookup f10 = some ⟨oc10, od10, .func (PySem.W.fnOf "_law_index" "_law_index" (defArgs sIndex) (defBody sIndex) (defScope sIndex) .none kV10 dc10 pm10 an10 cd10 ct10), sl10⟩) (c10 : PySem.W.codeIn K cd10 "_law_index" = true) (k10 : PySem.W.keepIn K (.ref f10) = true)
    (a11 : PySem.W.nsIn K mainGlobals "_law_serves" = some (some (.ref f11))) (l11 : K.lookup f11 = some ⟨oc11, od11, .func (PySem.W.fnOf "_law_serves" "_law_serves" (defArgs sServes) (defBody sServes) (defScope sServes) .none kV11 dc11 pm11 an11 cd11 ct11), sl11⟩) (c11 : PySem.W.codeIn K cd11 "_law_serves" = true) (k11 : PySem.W.keepIn K (.ref f11) = true)
    (a12 : PySem.W.nsIn K mainGlobals "_law_alike" = some (some (.ref f12))) (l12 : K.lookup f12 = some ⟨oc12, od12, .func (PySem.W.fnOf "_law_alike" "_law_alike" (defArgs sAlike) (defBody sAlike) (defScope sAlike) .none kV12 dc12 pm12 an12 cd12 ct12), sl12⟩) (c12 : PySem.W.codeIn K cd12 "_law_alike" = true) (k12 : PySem.W.keepIn K (.ref f12) = true)
    (a13 : PySem.W.nsIn K mainGlobals "_law_due" = some (some (.ref f13))) (l13 : K.lookup f13 = some ⟨oc13, od13, .func (PySem.W.fnOf "_law_due" "_law_due" (defArgs sDue) (defBody sDue) (defScope sDue) .none kV13 dc13 pm13 an13 cd13 ct13), sl13⟩) (c13 : PySem.W.codeIn K cd13 "_law_due" = true) (k13 : PySem.W.keepIn K (.ref f13) = true)
    (a14 : PySem.W.nsIn K mainGlobals "law" = some (some (.ref f14))) (l14 : K.lookup f14 = some ⟨oc14, od14, .func (PySem.W.fnOf "law" "law" (defArgs sLaw) (defBody sLaw) (defScope sLaw) .none kV14 dc14 pm14 an14 cd14 ct14), sl14⟩) (c14 : PySem.W.codeIn K cd14 "law" = true) (k14 : PySem.W.keepIn K (.ref f14) = true)
    (zlen : PySem.W.nsIn K mainGlobals "len" = some none) (zint : PySem.W.nsIn K mainGlobals "int" = some none) (zabs : PySem.W.nsIn K mainGlobals "abs" = some none) (ztuple : PySem.W.nsIn K mainGlobals "tuple" = some none) (zsorted : PySem.W.nsIn K mainGlobals "sorted" = some none) (zrange : PySem.W.nsIn K mainGlobals "range" = some none) (zrepr : PySem.W.nsIn K mainGlobals "repr" = some none) (zlist : PySem.W.nsIn K mainGlobals "list" = some none) :
    ∃ fd : FuncData, (∀ (s : Shared) (v : Value), BindsTo s fd ⟨[v], []⟩ [("_law_script", v)]) ∧ ∀ base : Heap, K.In base → base.Ns mainGlobals mg → FnOk l.prog w K mg base CX0 4 fa fd ["_law_script"] (spLaw K) := by
  have e := hfa.symm.trans (PySem.W.mg_of X G a14)
  cases e
  have T : Txt K mg := ⟨PySem.W.mg_none_of X G zlen, PySem.W.mg_none_of X G zint, PySem.W.mg_none_of X G zabs, PySem.W.mg_none_of X G ztuple, PySem.W.mg_none_of X G zsorted, PySem.W.mg_none_of X G zrange, PySem.W.mg_none_of X G zrepr, PySem.W.mg_none_of X G zlist⟩
  have F1 := fun_mk (st := sFault) l1 c1 k1
  have b1 := F1.binds (ps := ["index", "question"]) fun _ _ _ _ _ _ us hl => match us, hl with | [_, _], _ => rfl
  have F2 := fun_mk (st := sServ) l2 c2 k2
  have b2 := F2.binds (ps := ["index", "question"]) fun _ _ _ _ _ _ us hl => match us, hl with | [_, _], _ => rfl
  have F3 := fun_mk (st := sBag) l3 c3 k3
  have b3 := F3.binds (ps := ["_law_script"]) fun _ _ _ _ _ _ us hl => match us, hl with | [_], _ => rfl
  have F4 := fun_mk (st := sTake) l4 c4 k4
  have b4 := F4.binds (ps := ["_law_bag_here", "_law_many"]) fun _ _ _ _ _ _ us hl => match us, hl with | [_, _], _ => rfl
  have F5 := fun_mk (st := sOne) l5 c5 k5
  have b5 := F5.binds (ps := ["_law_bag_here", "_law_some"]) fun _ _ _ _ _ _ us hl => match us, hl with | [_, _], _ => rfl
  have F6 := fun_mk (st := sMixed) l6 c6 k6
  have b6 := F6.binds (ps := ["_law_bag_here", "_law_things"]) fun _ _ _ _ _ _ us hl => match us, hl with | [_, _], _ => rfl
  have F7 := fun_mk (st := sNames) l7 c7 k7
  have b7 := F7.binds (ps := ["_law_bag_here", "_law_many"]) fun _ _ _ _ _ _ us hl => match us, hl with | [_, _], _ => rfl
  have F8 := fun_mk (st := sQuestion) l8 c8 k8
  have b8 := F8.binds (ps := ["_law_bag_here", "_law_names_here"]) fun _ _ _ _ _ _ us hl => match us, hl with | [_, _], _ => rfl
  have F9 := fun_mk (st := sBeginning) l9 c9 k9
  have b9 := F9.binds (ps := ["_law_bag_here", "_law_row"]) fun _ _ _ _ _ _ us hl => match us, hl with | [_, _], _ => rfl
  have F10 := fun_mk (st := sIndex) l10 c10 k10
  have b10 := F10.binds (ps := ["_law_bag_here", "_law_names_here"]) fun _ _ _ _ _ _ us hl => match us, hl with | [_, _], _ => rfl
  have F11 := fun_mk (st := sServes) l11 c11 k11
  have b11 := F11.binds (ps := ["_law_index_here", "_law_question_here"]) fun _ _ _ _ _ _ us hl => match us, hl with | [_, _], _ => rfl
  have F12 := fun_mk (st := sAlike) l12 c12 k12
  have b12 := F12.binds (ps := ["_law_found", "_law_due_here"]) fun _ _ _ _ _ _ us hl => match us, hl with | [_, _], _ => rfl
  have F13 := fun_mk (st := sDue) l13 c13 k13
  have b13 := F13.binds (ps := ["_law_index_here", "_law_question_here"]) fun _ _ _ _ _ _ us hl => match us, hl with | [_, _], _ => rfl
  have F14 := fun_mk (st := sLaw) l14 c14 k14
  have b14 := F14.binds (ps := ["_law_script"]) fun _ _ _ _ _ _ us hl => match us, hl with | [_], _ => rfl
  refine ⟨PySem.W.fnOf "law" "law" (defArgs sLaw) (defBody sLaw) (defScope sLaw) .none kV14 dc14 pm14 an14 cd14 ct14, fun s v => .of_eq rfl, fun base _ _ => ?_⟩
  let c_1 : Cal l.prog w K mg base 1 "first_fault" ["index", "question"] (spFault) := ⟨_, _, ok_fault F1 T, PySem.W.mg_of X G a1, k1, b1⟩
  let c_2 : Cal l.prog w K mg base 1 "serves" ["index", "question"] (spServes) := ⟨_, _, ok_serv F2 T, PySem.W.mg_of X G a2, k2, b2⟩
  let c_3 : Cal l.prog w K mg base 1 "_law_bag" ["_law_script"] (spBag K) := ⟨_, _, ok_bag F3 T, PySem.W.mg_of X G a3, k3, b3⟩
  let c_4 : Cal l.prog w K mg base 1 "_law_take" ["_law_bag_here", "_law_many"] (spTake) := ⟨_, _, ok_take F4 T, PySem.W.mg_of X G a4, k4, b4⟩
  let c_5 : Cal l.prog w K mg base 2 "_law_one" ["_law_bag_here", "_law_some"] (spOne) := ⟨_, _, ok_one F5 T c_4, PySem.W.mg_of X G a5, k5, b5⟩
  let c_6 : Cal l.prog w K mg base 2 "_law_mixed" ["_law_bag_here", "_law_things"] (spMixed) := ⟨_, _, ok_mixed F6 T c_4, PySem.W.mg_of X G a6, k6, b6⟩
  let c_7 : Cal l.prog w K mg base 3 "_law_names" ["_law_bag_here", "_law_many"] (spNames) := ⟨_, _, ok_names F7 T c_6, PySem.W.mg_of X G a7, k7, b7⟩
  let c_8 : Cal l.prog w K mg base 3 "_law_question" ["_law_bag_here", "_law_names_here"] (spQuestion) := ⟨_, _, ok_question F8 T c_4 c_6, PySem.W.mg_of X G a8, k8, b8⟩
  let c_9 : Cal l.prog w K mg base 2 "_law_beginning" ["_law_bag_here", "_law_row"] (spBeginT) := ⟨_, _, ok_beginning F9 T c_4, PySem.W.mg_of X G a9, k9, b9⟩
  let c_10 : Cal l.prog w K mg base 3 "_law_index" ["_law_bag_here", "_law_names_here"] (spIndex) := ⟨_, _, ok_index F10 T c_4 c_6, PySem.W.mg_of X G a10, k10, b10⟩
  let c_11 : Cal l.prog w K mg base 1 "_law_serves" ["_law_index_here", "_law_question_here"] (spServes) := ⟨_, _, ok_serves F11 T, PySem.W.mg_of X G a11, k11, b11⟩
  let c_12 : Cal l.prog w K mg base 1 "_law_alike" ["_law_found", "_law_due_here"] (spAlikeF) := ⟨_, _, ok_alike F12 T, PySem.W.mg_of X G a12, k12, b12⟩
  let c_13 : Cal l.prog w K mg base 1 "_law_due" ["_law_index_here", "_law_question_here"] (spFault) := ⟨_, _, ok_due F13 T, PySem.W.mg_of X G a13, k13, b13⟩
  exact ok_law F14 T c_3 c_4 c_5 c_7 c_10 c_8 c_9 c_13 c_11 c_12 c_1 c_2
theorem walk {l : PySem.W.OpenLaw} {q : Program} {loose : List Str} {XP : (Str → Option Value) → Heap → Prop} {YP : World → Heap → Prop} {d : DefRec} {K : Params → PySem.W.Frag} (hn : l.most = some 63) (hdf : d.params.defaults = [])
    (hY : ∀ (w : World) (h : Heap), YP w h → (K w.params).In h)
    (F : ∀ (w : World) (mg : Str → Option Value) (fa : Addr) (h : Heap), (K w.params).In h → h.Ns mainGlobals mg → mg d.name = some (.ref fa) →
      ∃ fd : FuncData, (∀ (s : Shared) (u : Value), BindsTo s fd ⟨[u], []⟩ [("_law_script", u)]) ∧ ∀ base : Heap, (K w.params).In base → base.Ns mainGlobals mg → FnOk l.prog w (K w.params) mg base CX0 4 fa fd ["_law_script"] (spLaw (K w.params))) :
    PySem.W.WalkO q loose XP YP l.row.toRowW d [] (fun f vs => PySem.call f vs) :=
  L2.walk_of (n := 63) (k := 4) (x := "_law_script") (CX := fun _ => CX0) (sp := fun w => spLaw (K w.params)) hn (by decide) hdf ⟨rfl, by decide, by decide⟩ hY F (fun _ _ a ns hl _ hS => ⟨a, ns, rfl, hS, hl, fun _ => rfl⟩) fun _ _ _ _ _ z => z
end Qk
open PySem PySem.W PyProof.Rows
set_option maxRecDepth 100000 in
set_option maxHeartbeats 0 in
theorem PySem.Challenge.cw_narrowkeys_k15_serving_and_faults_holds : PySem.Challenge.rw_narrowkeys_k15_serving_and_faults.Holds := by
  w_on; o_law; k_head; (case hw => w_witness2)
  k_fill
  refine Qk.walk (l := PySem.Challenge.rw_narrowkeys_k15_serving_and_faults) rfl rfl (fun w h Y => PySem.W.kIn_of Y) ?F
  case F =>
    intro w mg fa h KX G hmg
    refine' Qk.all_mk KX G hmg ?a1 ?l1 ?c1 ?k1 ?a2 ?l2 ?c2 ?k2 ?a3 ?l3 ?c3 ?k3 ?a4 ?l4 ?c4 ?k4 ?a5 ?l5 ?c5 ?k5 ?a6 ?l6 ?c6 ?k6 ?a7 ?l7 ?c7 ?k7 ?a8 ?l8 ?c8 ?k8 ?a9 ?l9 ?c9 ?k9 ?a10 ?l10 ?c10 ?k10 ?a11 ?l11 ?c11 ?k11 ?a12 ?l12 ?c12 ?k12 ?a13 ?l13 ?c13 ?k13 ?a14 ?l14 ?c14 ?k14 ?zlen ?zint ?zabs ?ztuple ?zsorted ?zrange ?zrepr ?zlist
    (case a1 => k_is)
    (case l1 => k_is)
    (case c1 => k_is)
    (case k1 => k_is)
    (case a2 => k_is)
    (case l2 => k_is)
    (case c2 => k_is)
    (case k2 => k_is)
    (case a3 => k_is)
    (case l3 => k_is)
    (case c3 => k_is)
    (case k3 => k_is)
    (case a4 => k_is)
    (case l4 => k_is)
    (case c4 => k_is)
    (case k4 => k_is)
    (case a5 => k_is)
    (case l5 => k_is)
    (case c5 => k_is)
    (case k5 => k_is)
    (case a6 => k_is)
    (case l6 => k_is)
    (case c6 => k_is)
    (case k6 => k_is)
    (case a7 => k_is)
    (case l7 => k_is)
    (case c7 => k_is)
    (case k7 => k_is)
    (case a8 => k_is)
    (case l8 => k_is)
    (case c8 => k_is)
    (case k8 => k_is)
    (case a9 => k_is)
    (case l9 => k_is)
    (case c9 => k_is)
    (case k9 => k_is)
    (case a10 => k_is)
    (case l10 => k_is)
    (case c10 => k_is)
    (case k10 => k_is)
    (case a11 => k_is)
    (case l11 => k_is)
    (case c11 => k_is)
    (case k11 => k_is)
    (case a12 => k_is)
    (case l12 => k_is)
    (case c12 => k_is)
    (case k12 => k_is)
    (case a13 => k_is)
    (case l13 => k_is)
    (case c13 => k_is)
    (case k13 => k_is)
    (case a14 => k_is)
    (case l14 => k_is)
    (case c14 => k_is)
    (case k14 => k_is)
    (case zlen => k_is)
    (case zint => k_is)
    (case zabs => k_is)
    (case ztuple => k_is)
    (case zsorted => k_is)
    (case zrange => k_is)
    (case zrepr => k_is)
    (case zlist => k_is)
#print axioms PySem.Challenge.cw_narrowkeys_k15_serving_and_faults_holds
