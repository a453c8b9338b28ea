import PyProof.Rows.All
import Wide.All
import OpenK.AllK
import Wide.FinOn
import HandS.ForMost
import HandS.More
import HandS.TupAny
import HandS.Star
import HandS.Evl
import PyProof.Rows.StrMeet
import HandS.Walk
import PyProof.StrLawsRepr
import HandS.SortRule
import HandS.Deep
import KE.GoesEnum
import KE.GoesMore
import HandS.TupSets
import HandS.SetKeys
import HandS.ExcValue
import HandS.Strs
import HandS.IsInst
import PySem.Challenge.RW_narrowkeys_k13_questions_told
set_option Elab.async false
set_option linter.all false
set_option maxRecDepth 100000
set_option maxHeartbeats 4000000
namespace Qk
open PySem PySem.Spec PyProof.Rows L2

/-! rules of my own: a list's item read for an augmented store, repr of flat values, sorted of a list or a tuple of texts -/
section
variable {X : Cx}

theorem get_list : PGet X (fun o i H Q => ∃ p xs j v, o = .ref p ∧ i = .int ((j : Nat) : Int) ∧ SqL X.K H p xs ∧ xs[j]? = some v ∧ Q v H) := by
  intro pins s σ H o i ov iv Q I ro ri h
  obtain ⟨p, xs, j, v, rfl, rfl, hx, ha, q⟩ := h
  cases ro
  obtain ⟨t, rfl⟩ := ri
  obtain ⟨its, r, pl, hz⟩ := I.list hx
  obtain ⟨w, ew, rw'⟩ := r.get ha
  have hj : j < xs.length := (List.getElem?_eq_some_iff.mp ha).1
  have hn := line63
  exact wpAny_getItem_list pl.isList (by omega) (by omega) (by simpa using ew) ⟨v, H, I, rw', q⟩

/-- flat values, as repr shows them -/
def flatText : V → Option Str
  | .non => some "None"
  | .bl b => some (if b then "True" else "False")
  | .int i => if i.natAbs.log2 < 1920 then some (toString i) else none
  | _ => none
def rReprF : List V → Hp → VK → Prop := fun vs H Q => ∃ x t, vs = [x] ∧ flatText x = some t ∧ Q (.str t) H
theorem call_reprF : CallR X (.builtin "repr") rReprF := by
  intro pins s σ H xs us Q I r h
  obtain ⟨x, t, rfl, e, q⟩ := h
  obtain ⟨u, rfl, rx⟩ := vals1 r
  cases x with
  | non =>
    cases rx
    obtain rfl := Option.some.inj e
    exact PySem.P.repr_of_none ⟨.str _, H, I.tok _, ⟨_, rfl⟩, q⟩
  | bl b =>
    cases rx
    obtain rfl := Option.some.inj e
    exact PySem.P.repr_of_bool ⟨.str _, H, I.tok _, ⟨_, rfl⟩, q⟩
  | int i =>
    obtain ⟨tk, rfl⟩ := rx
    replace e : (if i.natAbs.log2 < 1920 then some (Str.ofString (toString i)) else none) = some t := e
    by_cases hz : i.natAbs.log2 < 1920
    · rw [if_pos hz] at e
      obtain rfl := Option.some.inj e
      exact PySem.P.repr_of_int hz ⟨.str _, H, I.tok _, ⟨_, rfl⟩, q⟩
    · rw [if_neg hz] at e
      cases e
  | str _ => cases e
  | byt _ => cases e
  | flt _ => cases e
  | ref _ => cases e
  | ty _ => cases e

def rSortedST (K : PySem.W.Frag) : List V → Hp → VK → Prop := fun vs H Q => ∃ (a : Addr) (ss : List Str), vs = [V.ref a] ∧ (SqL K H a (ss.map V.str) ∨ SqT K H a (ss.map V.str)) ∧ ss.length < 64 ∧
  ∀ (ys : List Str) (p : Addr), ys.Perm ss → sortedS ys = true → H p = none → Q (.ref p) (upd H p (.lst (ys.map V.str)))
theorem cr_sortedST : CallR X (.builtin "sorted") (rSortedST X.K) := by
  intro pins s σ H vs us Q I r h
  obtain ⟨a, ss, rfl, hs, h64, q⟩ := h
  rcases hs with hs | hs
  · exact cr_sortedS pins s σ H _ us Q I r ⟨a, ss, rfl, hs, h64, q⟩
  · obtain ⟨its, rv, ⟨o, ho, hc, n, hd⟩, hz⟩ := I.tuple hs
    rw [Vals.ref1 r]
    have hS : StrsAre its ss := rv.strs
    have hl : its.length = ss.length := by
      have z := rv.length
      rw [List.length_map] at z
      exact z.symm
    refine Calls.call_function_entry PyProof.Rows.kind_sorted PyProof.Rows.plain_sorted PyProof.Rows.entry_sorted (PyProof.Rows.args_sorted1 _) ?_
    unfold Builtin.«sorted»
    refine wpAny_bind (m := checkCount "sorted" 1 1 _) (wpAny_pure ?_)
    refine wpAny_bind (wpAny_collect_seq a (.inr rfl) ho hc hd (fun h' hk => ?_) (by rw [List.size_toArray, hl, sizeLine_eq]; omega))
    have e0 : its.toArray.toList = its := by simp
    rw [e0]
    have I1 : Inv X pins σ H { s with heap := h' } := I.kept (t' := s.toks) hk
    refine wpAny_bind (wpAny_newList ?_ (by rw [hl, sizeLine_eq]; omega))
    have hoL : (h'.push (seqObj "list" its.toArray 0)).get? h'.objs.size = some (seqObj "list" its.toArray 0) := Heap.get?_push_size _ rfl
    show wpAny _ _ _ _ _ { s with heap := h'.push (seqObj "list" its.toArray 0) }
    refine wpAny_bind (wpAny_holding (wpAny_call_entry PyProof.Rows.slot_list_sort ⟨_, hoL, rfl⟩ PyProof.Rows.entry_list_sort
      (list_sort_treeK strKind_oneLt (s := { s with heap := h'.push (seqObj "list" its.toArray 0) }) hoL hS.keysOf (fun v₁ v₂ rest e => keyKind_strs (by rw [← e]; exact hS)) (by rw [hl]; exact h64) fun st' hp hs => ⟨_, rfl, ?_⟩)
      (PyProof.Rows.args_list_sort _)))
    obtain ⟨ys, g1, g2, g3⟩ := sorted_out_str hS hp hs
    obtain ⟨ep, he'⟩ := PyProof.Rows.sortedHeap_at (vs := its) (out := (arrOf st').map (·.2)) hoL
    have hlen : (ys.map V.str).length ≤ sizeLine := by
      rw [List.length_map, g2.length_eq]
      exact Nat.le_trans (Nat.le_of_lt h64) (by decide)
    have hfresh : H h'.objs.size = none := I1.hok.fresh (Nat.le_refl _)
    refine wpAny_pure ⟨_, rfl, .ref h'.objs.size, upd H h'.objs.size (.lst (ys.map V.str)), I1.laid (t' := s.toks) (fun b u hu => ?_) (Nat.le_refl _)
      (show ObjOk X.prog X.w _ _ h'.objs.size (.lst (ys.map V.str)) from ⟨hlen, ((arrOf st').map (·.2)).toList, ep, vals_of_strs g1, by rw [Array.toArray_toList]; exact he'⟩), rfl, q ys _ g2 g3 hfresh⟩
    have hb : b ≠ h'.objs.size := Nat.ne_of_lt (Heap.lt_size hu)
    have hu2 : (h'.push (seqObj "list" its.toArray 0)).get? b = some u := Heap.get?_push_of_some _ hu
    rw [PyProof.Rows.sortedHeap_old hb (Heap.lt_size hu2)]
    exact hu2
end
end Qk

set_option maxRecDepth 100000
set_option maxHeartbeats 4000000
namespace Qk
open PySem PySem.Spec PyProof.Rows L2

/-! the law's bag of draws: what is known of it, and what a draw may touch -/
def Bag (H : Hp) (b l : Addr) : Prop := ∃ (h m : Int) (p : Nat) (ns : List Int), H b = some (.lst [.int h, .int m, .int (p : Int), .ref l]) ∧ H l = some (.lst (ns.map V.int)) ∧ l ≠ b ∧
  0 ≤ h ∧ 0 ≤ m ∧ m < 2147483647 ∧ ∀ n ∈ ns, 0 ≤ n
/-- all but b is kept -/
def Kp (b : Addr) (H H' : Hp) : Prop := ∀ c o, H c = some o → c ≠ b → H' c = some o
theorem Kp.refl (b : Addr) (H : Hp) : Kp b H H := fun _ _ e _ => e
theorem Kp.trans {b : Addr} {H H1 H2 : Hp} (x : Kp b H H1) (y : Kp b H1 H2) : Kp b H H2 := fun c o e n => y c o (x c o e n) n
theorem Kp.of {b : Addr} {H H' : Hp} (s : Same H H') : Kp b H H' := fun c o e _ => s c o e
theorem Kp.at_ (b : Addr) (H : Hp) (o : HO) : Kp b H (upd H b o) := fun c u e n => by rw [upd_ne n]; exact e
theorem Kp.new {b p : Addr} {H : Hp} {o : HO} (hp : H p = none) : Kp b H (L2.upd H p o) := fun c u e _ => by rw [upd_ne (ne_of_none e hp)]; exact e
theorem Bag.at_ {H : Hp} {b l : Addr} (B : Bag H b l) : ∃ o, H b = some o := by
  obtain ⟨h, m, p, ns, hb, _⟩ := B
  exact ⟨_, hb⟩
theorem Bag.same {H H' : Hp} {b l : Addr} (s : Same H H') (B : Bag H b l) : Bag H' b l := by
  obtain ⟨h, m, p, ns, hb, hl, r⟩ := B
  exact ⟨h, m, p, ns, s _ _ hb, s _ _ hl, r⟩
theorem same_new {H : Hp} {p : Addr} {o : HO} (h : H p = none) : Same H (upd H p o) := fun b x e => by
  rw [upd_ne (ne_of_none e h)]
  exact e
theorem Bag.new {H : Hp} {b l p : Addr} {o : HO} (B : Bag H b l) (h : H p = none) : Bag (upd H p o) b l := B.same (same_new h)
theorem Bag.ne {H : Hp} {b l p : Addr} (B : Bag H b l) (h : H p = none) : p ≠ b := by
  obtain ⟨o, e⟩ := B.at_
  exact (ne_of_none e h).symm
/-- the bag stands nowhere where something of another kind stands -/
theorem Bag.ne_tup {H : Hp} {b l p : Addr} {xs : List V} (B : Bag H b l) (h : H p = some (.tup xs)) : p ≠ b := by
  obtain ⟨h', m, q, ns, hb, _⟩ := B
  exact ne_of h hb (by intro z; cases z)
theorem Bag.ne_strs {H : Hp} {b l p : Addr} {xs : List Str} (B : Bag H b l) (h : H p = some (.lst (xs.map V.str))) : p ≠ b := by
  obtain ⟨h', m, q, ns, hb, _⟩ := B
  refine ne_of h hb fun z => ?_
  injection z with z
  cases xs with
  | nil => cases z
  | cons x xs =>
    rw [List.map_cons] at z
    injection z with z _
    cases z
/-- what stands beside the bag and its list may change -/
theorem Bag.off {H H' : Hp} {b l p : Addr} (B : Bag H b l) (h : ∀ c o, H c = some o → c ≠ p → H' c = some o) (nb : b ≠ p) (nl : l ≠ p) : Bag H' b l := by
  obtain ⟨h', m, q, ns, hb, hl, r⟩ := B
  exact ⟨h', m, q, ns, h _ _ hb nb, h _ _ hl nl, r⟩
theorem Bag.list {H : Hp} {b l : Addr} (B : Bag H b l) : ∃ o, H l = some o := by
  obtain ⟨h, m, p, ns, hb, hl, _⟩ := B
  exact ⟨_, hl⟩
theorem Bag.nel {H : Hp} {b l p : Addr} (B : Bag H b l) (h : H p = none) : l ≠ p := by
  obtain ⟨o, e⟩ := B.list
  exact ne_of_none e h
theorem Bag.upd {H : Hp} {b l p : Addr} {o : HO} (B : Bag H b l) (nb : b ≠ p) (nl : l ≠ p) : Bag (L2.upd H p o) b l :=
  B.off (fun c u e n => by rw [upd_ne n]; exact e) nb nl
theorem rIx {K : PySem.W.Frag} {H : Hp} {b : Addr} {xs : List V} {v : V} {Q : VK} (j : Nat) (h : H b = some (.lst xs)) (e : xs[j]? = some v) (q : Q v H) : rIxL K (.ref b) (.int (j : Int)) H Q :=
  ⟨b, xs, (j : Int), v, rfl, rfl, SqL.of h, atI_nat e, q⟩
theorem setIx {H : Hp} {b : Addr} {xs : List V} {v : V} {Q : Hp → Prop} (j : Nat) (h : H b = some (.lst xs)) (e : j < xs.length) (q : Q (upd H b (.lst (xs.set j v)))) : rSetL (.ref b) (.int (j : Int)) v H Q :=
  ⟨b, xs, (j : Int), j, rfl, rfl, h, Evl.ixN_nat e, q⟩

/-! promises of the law's own helpers -/
/-- a draw: a number below many, the bag moves on -/
def spTake : Sp := fun vs H Q _ => ∃ (b l : Addr) (n : Int), vs = [.ref b, .int n] ∧ Bag H b l ∧ 0 < n ∧ n < 1000000 ∧ ∀ (k : Nat) (H' : Hp), (k : Int) < n → Bag H' b l → Kp b H H' → Q (.int (k : Int)) H'
/-- one of a list -/
def spOne : Sp := fun vs H Q _ => ∃ (b l a : Addr) (xs : List V), vs = [.ref b, .ref a] ∧ Bag H b l ∧ a ≠ b ∧ H a = some (.lst xs) ∧ xs ≠ [] ∧ xs.length < 1000 ∧ ∀ (x : V) (H' : Hp), x ∈ xs → Bag H' b l → Kp b H H' → Q x H'
/-- a new list of the same things in some order -/
def spMixed : Sp := fun vs H Q _ => ∃ (b l a : Addr) (xs : List V), vs = [.ref b, .ref a] ∧ Bag H b l ∧ a ≠ b ∧ H a = some (.lst xs) ∧ xs.length < 1000 ∧
  ∀ (ys : List V) (p : Addr) (H' : Hp), ys.Perm xs → H p = none → p ≠ b → H' p = some (.lst ys) → Bag H' b l → Kp b H H' → Q (.ref p) H'

/-- the bag of a script -/
def spBag (K : PySem.W.Frag) : Sp := fun vs H Q _ => ∃ (a : Addr) (ns : List Int), vs = [.ref a] ∧ SqL K H a (ns.map V.int) ∧ ns.length ≤ 63 ∧ ∀ (b l : Addr) (H' : Hp), H b = none → Bag H' b l → Same H H' → Q (.ref b) H'
/-- a def that is called by its name -/
structure Cal (P : Program) (w : World) (K : PySem.W.Frag) (mg : Str → Option Value) (base : Heap) (k : Nat) (x : Str) (ps : List Str) (sp : Sp) where
  f : Addr
  fd : FuncData
  G : FnOk P w K mg base CX0 k f fd ps sp
  m : mg x = some (.ref f)
  kp : PySem.W.keepIn K (.ref f) = true
  b : Binds K fd ps []
theorem cut_to (k : Nat) (xs : List V) : cutV xs none (some (k : Int)) = xs.take k := by
  unfold cutV
  rw [HT.sIx_none, HT.sIx_nat, List.drop_zero, Nat.sub_zero]
  by_cases h : k ≤ xs.length
  · rw [Nat.min_eq_left h]
  · rw [Nat.min_eq_right (by omega), List.take_of_length_le (Nat.le_refl _), List.take_of_length_le (by omega)]
theorem take_mod {k n : Int} (hn : 0 < n) : ∃ j : Nat, k % n = (j : Int) ∧ (j : Int) < n := by
  have h1 := Int.emod_nonneg k (show n ≠ 0 by omega)
  have h2 := Int.emod_lt_of_pos k hn
  exact ⟨(k % n).toNat, by omega, by omega⟩
/-- the names that the laws draw from -/
def menu : List Str := ["a", "b", "ab", "ba", "job", "view", "pin", "quay", "stock", "golfer", "exhumed", "zzzzzzzz"]
theorem menu_nodup : menu.Nodup := by decide +kernel
theorem perm_strs {ys : List V} {xs : List Str} (h : ys.Perm (xs.map V.str)) : ∃ zs : List Str, ys = zs.map V.str ∧ zs.Perm xs := by
  have go : ∀ (ys : List V), (∀ y ∈ ys, ∃ z, y = V.str z) → ∃ zs : List Str, ys = zs.map V.str := by
    intro ys
    induction ys with
    | nil => intro _; exact ⟨[], rfl⟩
    | cons y ys ih =>
      intro h
      obtain ⟨z, rfl⟩ := h y List.mem_cons_self
      obtain ⟨zs, rfl⟩ := ih fun y hy => h y (List.mem_cons_of_mem _ hy)
      exact ⟨z :: zs, rfl⟩
  obtain ⟨zs, rfl⟩ := go ys fun y hy => by
    obtain ⟨z, _, e⟩ := List.mem_map.mp (h.mem_iff.mp hy)
    exact ⟨z, e.symm⟩
  refine ⟨zs, rfl, ?_⟩
  have unstr : ∀ l : List Str, (l.map V.str).map (fun v => match v with | .str z => z | _ => "") = l := fun l => by
    rw [List.map_map]
    exact (List.map_congr_left fun _ _ => rfl).trans (List.map_id _)
  have := h.map (fun v => match v with | .str z => z | _ => "")
  rwa [unstr, unstr] at this
/-- some of the menu's names, each once, n at most -/
structure Names (n : Nat) (xs : List Str) : Prop where
  nd : xs.Nodup
  sub : ∀ c ∈ xs, c ∈ menu
  len : xs.length = min n 12
def spNames : Sp := fun vs H Q _ => ∃ (b l : Addr) (n : Nat), vs = [.ref b, .int (n : Int)] ∧ Bag H b l ∧
  ∀ (xs : List Str) (p : Addr) (H' : Hp), Names n xs → H p = none → p ≠ b → H' p = some (.lst (xs.map V.str)) → Bag H' b l → Kp b H H' → Q (.ref p) H'
/-- a row of names -/
structure Row (xs : List Str) : Prop where
  nd : xs.Nodup
  sub : ∀ c ∈ xs, c ∈ menu
  pos : 0 < xs.length
  le : xs.length ≤ 12
theorem Names.row {n : Nat} {xs : List Str} (h : Names n xs) (hn : 0 < n) : Row xs := ⟨h.nd, h.sub, by rw [h.len]; omega, by rw [h.len]; omega⟩
/-- a question as it stands -/
def QAt (H : Hp) (q : Addr) (cols : List Str) (e : Str) : Prop := ∃ c, H q = some (.tup [.ref c, .str e]) ∧ H c = some (.tup (cols.map V.str))
theorem QAt.same {H H' : Hp} {q : Addr} {cols : List Str} {e : Str} (s : Same H H') (h : QAt H q cols e) : QAt H' q cols e := by
  obtain ⟨c, h1, h2⟩ := h
  exact ⟨c, s _ _ h1, s _ _ h2⟩
theorem QAt.kp {H H' : Hp} {q b l : Addr} {cols : List Str} {e : Str} (B : Bag H b l) (s : Kp b H H') (h : QAt H q cols e) : QAt H' q cols e := by
  obtain ⟨c, h1, h2⟩ := h
  exact ⟨c, s _ _ h1 (B.ne_tup h1), s _ _ h2 (B.ne_tup h2)⟩
structure Qok (xs cols : List Str) (e : Str) : Prop where
  nd : cols.Nodup
  srt : sortedS cols = true
  sub : ∀ c ∈ cols, c ∈ xs
  esub : e = "" ∨ e ∈ xs
  ne : e ∉ cols
  some : e = "" → cols ≠ []
  le : cols.length ≤ 12
def spQuestion : Sp := fun vs H Q _ => ∃ (b l a : Addr) (xs : List Str), vs = [.ref b, .ref a] ∧ Bag H b l ∧ a ≠ b ∧ H a = some (.lst (xs.map V.str)) ∧ Row xs ∧
  ∀ (q : Addr) (cols : List Str) (e : Str) (H' : Hp), QAt H' q cols e → Qok xs cols e → Bag H' b l → Kp b H H' → Q (.ref q) H'
def spBeginT : Sp := fun vs H Q _ => ∃ (b l a : Addr) (xs : List Str), vs = [.ref b, .ref a] ∧ Bag H b l ∧ H a = some (.tup (xs.map V.str)) ∧ Row xs ∧
  ∀ (q : Addr) (cols : List Str) (e : Str) (H' : Hp), QAt H' q cols e → Qok xs cols e → Bag H' b l → Kp b H H' → Q (.ref q) H'
def spBeginL : Sp := fun vs H Q _ => ∃ (b l a : Addr) (xs : List Str), vs = [.ref b, .ref a] ∧ Bag H b l ∧ a ≠ b ∧ H a = some (.lst (xs.map V.str)) ∧ Row xs ∧
  ∀ (q : Addr) (cols : List Str) (e : Str) (H' : Hp), QAt H' q cols e → Qok xs cols e → Bag H' b l → Kp b H H' → Q (.ref q) H'
def spIndex : Sp := fun vs H Q _ => ∃ (b l a : Addr) (xs : List Str), vs = [.ref b, .ref a] ∧ Bag H b l ∧ a ≠ b ∧ H a = some (.lst (xs.map V.str)) ∧ Row xs ∧
  ∀ (t : Addr) (ys : List Str) (H' : Hp), H' t = some (.tup (ys.map V.str)) → Row ys → (∀ c ∈ ys, c ∈ xs) → Bag H' b l → Kp b H H' → Q (.ref t) H'
theorem menu_ne : ∀ c ∈ menu, c ≠ "" := by decide +kernel
/-- out of a beginning of some order of a row -/
theorem qok_plain {xs ys zs : List Str} {k : Nat} (R : Row xs) (hp : ys.Perm xs) (hz : zs.Perm (ys.take (k + 1))) (hs : sortedS zs = true) : Qok xs zs "" := by
  have sl := List.take_sublist (k + 1) ys
  have hsub : ∀ c ∈ zs, c ∈ xs := fun c hc => hp.mem_iff.mp (sl.mem (hz.mem_iff.mp hc))
  have hl := R.le
  have hpos := R.pos
  have hyl := hp.length_eq
  have hzl := hz.length_eq
  rw [List.length_take] at hzl
  refine ⟨hz.nodup_iff.mpr ((hp.nodup_iff.mpr R.nd).sublist sl), hs, hsub, .inl rfl, fun h => menu_ne _ (R.sub _ (hsub _ h)) rfl, fun _ h => ?_, by omega⟩
  rw [h] at hzl
  simp at hzl
  omega
theorem qok_ranged {xs ys zs : List Str} {k : Nat} {e : Str} (R : Row xs) (hp : ys.Perm xs) (he : ys[k]? = some e) (hz : zs.Perm (ys.take k)) (hs : sortedS zs = true) : Qok xs zs e := by
  have sl := List.take_sublist k ys
  have hsub : ∀ c ∈ zs, c ∈ xs := fun c hc => hp.mem_iff.mp (sl.mem (hz.mem_iff.mp hc))
  have hmem : e ∈ xs := hp.mem_iff.mp (List.mem_of_getElem? he)
  have hl := R.le
  have hyl := hp.length_eq
  have hzl := hz.length_eq
  rw [List.length_take] at hzl
  have ndy := hp.nodup_iff.mpr R.nd
  refine ⟨hz.nodup_iff.mpr (ndy.sublist sl), hs, hsub, .inr hmem, fun h => ?_, fun h => absurd h (menu_ne _ (R.sub _ hmem)), by omega⟩
  have h1 := hz.mem_iff.mp h
  have hk : k < ys.length := (List.getElem?_eq_some_iff.mp he).1
  have e2 : ys = ys.take k ++ ys.drop k := (List.take_append_drop k ys).symm
  have e3 : e ∈ ys.drop k := by
    have : (ys.drop k)[0]? = some e := by rw [List.getElem?_drop]; exact he
    exact List.mem_of_getElem? this
  rw [e2] at ndy
  exact (List.nodup_append.mp ndy).2.2 _ h1 _ e3 rfl
end Qk

set_option maxRecDepth 100000
set_option maxHeartbeats 4000000
namespace Qk
open PySem PySem.Spec PyProof.Rows L2

/-! sorted lists of texts -/
def leS (a b : Str) : Prop := ltCps b.cps.toList a.cps.toList = false
theorem str_ext {a b : Str} (h : a.cps.toList = b.cps.toList) : a = b := by
  obtain ⟨x⟩ := a
  obtain ⟨y⟩ := b
  simp only at h
  congr 1
  exact Array.toList_inj.mp h
theorem leS_antisymm {a b : Str} (h1 : leS a b) (h2 : leS b a) : a = b := by
  unfold leS at h1 h2
  rw [ltCps_eq] at h1 h2
  have n1 := of_decide_eq_false h1
  have n2 := of_decide_eq_false h2
  exact str_ext (List.le_antisymm (List.not_lt.mp n1) (List.not_lt.mp n2))
theorem leS_refl (a : Str) : leS a a := by
  unfold leS
  rw [ltCps_eq]
  exact decide_eq_false (List.lt_irrefl _)
theorem leS_trans {a b c : Str} (h1 : leS a b) (h2 : leS b c) : leS a c := by
  unfold leS at *
  rw [ltCps_eq] at *
  have n1 := List.not_lt.mp (of_decide_eq_false h1)
  have n2 := List.not_lt.mp (of_decide_eq_false h2)
  exact decide_eq_false (List.not_lt.mpr (List.le_trans n1 n2))
theorem risingS_pw : ∀ (xs : List Str) (p : Str), risingS p xs = true → (p :: xs).Pairwise leS
  | [], p, _ => List.pairwise_singleton _ _
  | x :: r, p, h => by
    rw [risingS, Bool.and_eq_true] at h
    have h1 : leS p x := by
      have := h.1
      rw [Bool.not_eq_true'] at this
      exact this
    have ih := risingS_pw r x h.2
    refine List.pairwise_cons.mpr ⟨fun y hy => ?_, ih⟩
    rcases List.mem_cons.mp hy with rfl | hy
    · exact h1
    · exact leS_trans h1 ((List.pairwise_cons.mp ih).1 y hy)
theorem sortedS_pw {xs : List Str} (h : sortedS xs = true) : xs.Pairwise leS := by
  cases xs with
  | nil => exact List.Pairwise.nil
  | cons x r => exact risingS_pw r x h
theorem perm_sorted : ∀ {xs ys : List Str}, xs.Perm ys → xs.Pairwise leS → ys.Pairwise leS → xs = ys
  | [], ys, h, _, _ => (List.Perm.nil_eq h)
  | x :: xs, [], h, _, _ => absurd h.length_eq (by simp)
  | x :: xs, y :: ys, h, h1, h2 => by
    have e : x = y := by
      rcases List.mem_cons.mp (h.mem_iff.mp List.mem_cons_self) with e | m1
      · exact e
      · rcases List.mem_cons.mp (h.mem_iff.mpr List.mem_cons_self) with e | m2
        · exact e.symm
        · exact leS_antisymm ((List.pairwise_cons.mp h1).1 y m2) ((List.pairwise_cons.mp h2).1 x m1)
    subst e
    rw [perm_sorted (List.Perm.cons_inv h) (List.pairwise_cons.mp h1).2 (List.pairwise_cons.mp h2).2]
theorem sorted_unique {xs ys zs : List Str} (h1 : xs.Perm zs) (h2 : ys.Perm zs) (s1 : sortedS xs = true) (s2 : sortedS ys = true) : xs = ys :=
  perm_sorted (h1.trans h2.symm) (sortedS_pw s1) (sortedS_pw s2)

/-! == of lists and tuples of texts -/
theorem menu_ok : ∀ c ∈ menu, PyData.strOk c = true := by decide +kernel
theorem lay_strs : ∀ {xs : List Str}, (∀ c ∈ xs, PyData.strOk c = true) → PyData.canLayAll0 (xs.map PyData.str) = true
  | [], _ => rfl
  | x :: xs, h => by
    show (PyData.canLay0 (.str x) && PyData.canLayAll0 (xs.map PyData.str)) = true
    rw [lay_strs fun c hc => h c (List.mem_cons_of_mem _ hc), Bool.and_true]
    exact h x List.mem_cons_self
theorem depth_strs : ∀ (xs : List Str), PyData.depthAll (xs.map PyData.str) = 0
  | [] => rfl
  | x :: xs => by
    show max (PyData.depth (.str x)) (PyData.depthAll (xs.map PyData.str)) = 0
    rw [depth_strs xs]
    rfl
theorem eqv_strs : ∀ (xs ys : List Str), PyData.eqvAll (xs.map PyData.str) (ys.map PyData.str) = decide (xs = ys)
  | [], [] => by simp [PyData.eqvAll]
  | [], y :: ys => by simp [PyData.eqvAll]
  | x :: xs, [] => by simp [PyData.eqvAll]
  | x :: xs, y :: ys => by
    show PyData.eqvAll (PyData.str x :: xs.map PyData.str) (PyData.str y :: ys.map PyData.str) = _
    rw [PyData.eqvAll, eqv_strs xs ys, PyData.eqv]
    by_cases h1 : x = y
    · subst h1
      by_cases h2 : xs = ys
      · subst h2
        simp
      · simp [h2]
    · simp [h1]
theorem shaped_list {xs : List Str} (h : ∀ c ∈ xs, PyData.strOk c = true) : SeqAt.shaped (.list (xs.map PyData.str)) = true := by
  unfold SeqAt.shaped
  rw [Bool.and_eq_true]
  exact ⟨lay_strs h, decide_eq_true (by rw [PyData.depth, depth_strs]; decide)⟩
theorem shaped_tuple {xs : List Str} (h : ∀ c ∈ xs, PyData.strOk c = true) : SeqAt.shaped (.tuple (xs.map PyData.str)) = true := by
  unfold SeqAt.shaped
  rw [Bool.and_eq_true]
  exact ⟨lay_strs h, decide_eq_true (by rw [PyData.depth, depth_strs]; decide)⟩
theorem dp_strs {K : PySem.W.Frag} {H : Hp} : ∀ (xs : List Str), DpAll K H (xs.map V.str) (xs.map PyData.str)
  | [] => .nil
  | x :: xs => .cons (.str x) (dp_strs xs)
theorem flat_strs (xs : List Str) : (xs.map V.str).all flatV = true := by
  rw [List.all_map]
  exact List.all_eq_true.mpr fun _ _ => rfl
theorem inV_strs (c : Str) (xs : List Str) : inV (.str c) (xs.map V.str) = decide (c ∈ xs) := by
  unfold inV
  rw [List.any_map]
  by_cases h : c ∈ xs
  · rw [decide_eq_true h]
    exact List.any_eq_true.mpr ⟨c, h, by show (c == c) = true; exact beq_self_eq_true c⟩
  · rw [decide_eq_false h]
    refine List.any_eq_false.mpr fun y hy e => h ?_
    have e' : (y == c) = true := e
    rw [← eq_of_beq e']
    exact hy

theorem perm_of_sub : ∀ {xs ys : List Str}, xs.Nodup → (∀ c ∈ xs, c ∈ ys) → ys.length ≤ xs.length → xs.Perm ys
  | [], ys, _, _, h => by
    have : ys = [] := List.eq_nil_of_length_eq_zero (by simpa using h)
    rw [this]
  | x :: xs, ys, nd, hs, h => by
    have hx := hs x List.mem_cons_self
    have hp := List.perm_cons_erase hx
    obtain ⟨nx, nd'⟩ := List.nodup_cons.mp nd
    have hl := hp.length_eq
    rw [List.length_cons] at hl h
    refine ((perm_of_sub (ys := ys.erase x) nd' (fun c hc => ?_) (by omega)).cons x).trans hp.symm
    have ne : c ≠ x := fun e => nx (e ▸ hc)
    exact (List.mem_erase_of_ne ne).mpr (hs c (List.mem_cons_of_mem _ hc))

/-! the least place of a fault -/
def goodAt (ix cols : List Str) (p : Nat) : Prop := ∃ c, ix[p]? = some c ∧ c ∈ cols
instance (ix cols : List Str) (p : Nat) : Decidable (goodAt ix cols p) :=
  match h : ix[p]? with
  | some c => if hc : c ∈ cols then isTrue ⟨c, h, hc⟩ else isFalse fun ⟨d, hd, hm⟩ => hc (by rw [h] at hd; cases hd; exact hm)
  | none => isFalse fun ⟨d, hd, _⟩ => by rw [h] at hd; cases hd
def fault (ix cols : List Str) (last : Str) : Option Nat :=
  match (List.range cols.length).find? (fun p => !decide (goodAt ix cols p)) with
  | some p => some p
  | none => if last ≠ "" ∧ ix[cols.length]? ≠ some last then some cols.length else none
theorem find_none {n : Nat} {g : Nat → Bool} (h : ∀ p, p < n → g p = false) : (List.range n).find? g = none :=
  List.find?_eq_none.mpr fun p hp e => by rw [h p (List.mem_range.mp hp)] at e; cases e
theorem find_at {n i : Nat} {g : Nat → Bool} (hi : i < n) (h : ∀ p, p < i → g p = false) (hg : g i = true) : (List.range n).find? g = some i := by
  refine List.find?_range_eq_some.mpr ⟨hg, List.mem_range.mpr hi, fun j hj => ?_⟩
  rw [h j hj]
  rfl
theorem fault_at {ix cols : List Str} {last : Str} {i : Nat} (hi : i < cols.length) (h : ∀ p, p < i → goodAt ix cols p) (hg : ¬ goodAt ix cols i) : fault ix cols last = some i := by
  unfold fault
  rw [find_at hi (fun p hp => by rw [decide_eq_true (h p hp)]; rfl) (by rw [decide_eq_false hg]; rfl)]
theorem fault_end {ix cols : List Str} {last : Str} (h : ∀ p, p < cols.length → goodAt ix cols p) : fault ix cols last = if last ≠ "" ∧ ix[cols.length]? ≠ some last then some cols.length else none := by
  unfold fault
  rw [find_none fun p hp => by rw [decide_eq_true (h p hp)]; rfl]
theorem fault_le {ix cols : List Str} {last : Str} {p : Nat} (h : fault ix cols last = some p) : p ≤ cols.length := by
  unfold fault at h
  split at h
  · next q e =>
    cases h
    have := List.mem_range.mp (List.mem_of_find?_eq_some e)
    omega
  · split at h
    · cases h
      omega
    · cases h
def optV : Option Nat → V
  | none => .non
  | some n => .int (n : Int)
/-- no fault just if the beginning is made of the columns, with the last one behind -/
theorem fault_none {ix cols ws : List Str} {last : Str} (hix : ix.Nodup) (hc : cols.Nodup) (hs : sortedS cols = true) (hw : ws.Perm (ix.take cols.length)) (hws : sortedS ws = true) :
    fault ix cols last = none ↔ ws = cols ∧ (last = "" ∨ ix[cols.length]? = some last) := by
  constructor
  · intro h
    unfold fault at h
    split at h
    · cases h
    · next e =>
      have good : ∀ p, p < cols.length → goodAt ix cols p := fun p hp => by
        have := List.find?_eq_none.mp e p (List.mem_range.mpr hp)
        simpa using this
      constructor
      · have hle : cols.length ≤ ix.length := by
          rcases Nat.lt_or_ge ix.length cols.length with hlt | hge
          · obtain ⟨c, h1, _⟩ := good ix.length hlt
            rw [List.getElem?_eq_none (Nat.le_refl _)] at h1
            cases h1
          · exact hge
        have hlen : (ix.take cols.length).length = cols.length := by rw [List.length_take]; omega
        have hsub : ix.take cols.length ⊆ cols := fun c hc' => by
          obtain ⟨p, hp, e⟩ := List.mem_iff_getElem.mp hc'
          rw [hlen] at hp
          obtain ⟨d, h1, h2⟩ := good p hp
          rw [List.getElem_take] at e
          rw [List.getElem?_eq_getElem (by omega)] at h1
          cases h1
          rw [← e]
          exact h2
        have hperm : (ix.take cols.length).Perm cols := perm_of_sub (hix.sublist (List.take_sublist _ _)) (fun c hc => hsub hc) (by omega)
        exact sorted_unique hw hperm.symm hws hs
      · by_cases h1 : last = ""
        · exact .inl h1
        · by_cases h2 : ix[cols.length]? = some last
          · exact .inr h2
          · rw [if_pos ⟨h1, h2⟩] at h
            cases h
  · rintro ⟨rfl, h2⟩
    rw [fault_end fun p hp => ?_]
    · rw [if_neg]
      rintro ⟨a1, a2⟩
      rcases h2 with h2 | h2
      · exact a1 h2
      · exact a2 h2
    · have hl := hw.length_eq
      rw [List.length_take] at hl
      have hp2 : p < ix.length := by omega
      refine ⟨ix[p], List.getElem?_eq_getElem hp2, hw.mem_iff.mpr ?_⟩
      exact List.mem_iff_getElem.mpr ⟨p, by rw [List.length_take]; omega, by rw [List.getElem_take]⟩

/-! promises about serving -/
def spFault : Sp := fun vs H Q _ => ∃ (t q : Addr) (ix cols : List Str) (e : Str), vs = [.ref t, .ref q] ∧ H t = some (.tup (ix.map V.str)) ∧ QAt H q cols e ∧ cols.length ≤ 12 ∧ ∀ H', Same H H' → Q (optV (fault ix cols e)) H'
def spServ : Sp := fun vs H Q _ => ∃ (t q : Addr) (ix cols : List Str) (e : Str), vs = [.ref t, .ref q] ∧ H t = some (.tup (ix.map V.str)) ∧ QAt H q cols e ∧ cols.length ≤ 12 ∧ ∀ H', Same H H' → Q (.bl (decide (fault ix cols e = none))) H'
def spServes : Sp := fun vs H Q _ => ∃ (t q : Addr) (ix cols : List Str) (e : Str), vs = [.ref t, .ref q] ∧ H t = some (.tup (ix.map V.str)) ∧ QAt H q cols e ∧ cols.length ≤ 12 ∧ ix.length ≤ 12 ∧ ix.Nodup ∧ (∀ c ∈ ix, c ∈ menu) ∧
  cols.Nodup ∧ sortedS cols = true ∧ (∀ c ∈ cols, c ∈ menu) ∧ (e = "" ∨ e ∈ menu) ∧ ∀ H', Same H H' → Q (.bl (decide (fault ix cols e = none))) H'
/-- two flat values that are the same -/
def spAlikeF : Sp := fun vs H Q _ => ∃ (v : V) (t : Str), vs = [v, v] ∧ flatText v = some t ∧ Q (.bl true) H
theorem optV_text {o : Option Nat} (h : ∀ n, o = some n → n ≤ 12) : ∃ t, flatText (optV o) = some t := by
  cases o with
  | none => exact ⟨_, rfl⟩
  | some n =>
    have hn := h n rfl
    refine ⟨toString (n : Int), ?_⟩
    show (if (n : Int).natAbs.log2 < 1920 then some (Str.ofString (toString (n : Int))) else none) = _
    rw [if_pos]
    have : (n : Int).natAbs = n := Int.natAbs_natCast n
    rw [this]
    refine Nat.lt_of_le_of_lt (Nat.log2_le_self n) ?_
    omega
theorem scal_flat {v : V} {t : Str} (h : flatText v = some t) : scal v v = true := by
  cases v with
  | non => rfl
  | bl _ => rfl
  | int _ => rfl
  | str _ => cases h
  | byt _ => cases h
  | flt _ => cases h
  | ref _ => cases h
  | ty _ => cases h

theorem slA {K : PySem.W.Frag} {H : Hp} {a : Addr} {xs : List Str} {lo hi : Option Int} {ys : List Str} {Q : VK} (h : H a = some (.tup (xs.map V.str))) (e : cutV (xs.map V.str) lo hi = ys.map V.str)
    (k : ∀ (r : Addr) (H' : Hp), Same H H' → H' r = some (.tup (ys.map V.str)) → Q (.ref r) H') : rSlA K (.ref a) lo hi H Q := by
  refine ⟨a, _, rfl, SqT.of h, fun hw => k a H (Same.refl _) ?_, fun _ p hp => ?_⟩
  · rw [h, ← e]
    unfold cutV
    rw [hw.1, hw.2, List.drop_zero, Nat.sub_zero, List.take_length]
  · rw [e]
    exact k p _ (same_new hp) upd_same
theorem cut_one (n : Nat) (xs : List Str) : cutV (xs.map V.str) (some (n : Int)) (some ((n : Int) + 1)) = ((xs.drop n).take 1).map V.str := by
  have e1 : (n : Int) + 1 = ((n + 1 : Nat) : Int) := by omega
  unfold cutV
  rw [e1, HT.sIx_nat, HT.sIx_nat, List.length_map]
  by_cases h : n < xs.length
  · rw [Nat.min_eq_left (by omega), Nat.min_eq_left (by omega), ← List.map_drop, ← List.map_take]
    congr 2
    omega
  · have e2 : min n xs.length = xs.length := Nat.min_eq_right (by omega)
    rw [e2, List.drop_of_length_le (show (xs.map V.str).length ≤ xs.length by rw [List.length_map]; exact Nat.le_refl _), List.drop_of_length_le (show xs.length ≤ n by omega), List.take_nil, List.take_nil, List.map_nil]
theorem take_one {xs : List Str} {n : Nat} {e : Str} : (xs.drop n).take 1 = [e] ↔ xs[n]? = some e := by
  have h0 : (xs.drop n)[0]? = xs[n]? := by rw [List.getElem?_drop]; rfl
  cases hd : xs.drop n with
  | nil =>
    rw [hd] at h0
    have h1 : none = xs[n]? := h0
    rw [← h1]
    simp
  | cons y ys =>
    rw [hd] at h0
    have h1 : some y = xs[n]? := h0
    rw [← h1]
    simp

/-! what a law knows of its index and its question -/
structure QM (cols : List Str) (e : Str) : Prop where
  nd : cols.Nodup
  srt : sortedS cols = true
  sub : ∀ c ∈ cols, c ∈ menu
  esub : e = "" ∨ e ∈ menu
  le : cols.length ≤ 12
  some : e = "" → cols ≠ []
theorem Qok.qm {xs cols : List Str} {e : Str} (h : Qok xs cols e) (R : ∀ c ∈ xs, c ∈ menu) : QM cols e :=
  ⟨h.nd, h.srt, fun c hc => R _ (h.sub _ hc), h.esub.imp id (fun m => R _ m), h.le, h.some⟩
theorem Row.take {xs : List Str} (R : Row xs) (k : Nat) : Row (xs.take (k + 1)) :=
  ⟨R.nd.sublist (List.take_sublist _ _), fun c hc => R.sub _ ((List.take_sublist _ _).mem hc), by have := R.pos; rw [List.length_take]; omega, by have := R.le; rw [List.length_take]; omega⟩
/-- two places exchanged -/
def sw (x y k : Nat) : Nat := if k = y then x else if k = x then y else k
theorem sw_lt {x y k n : Nat} (hx : x < n) (hy : y < n) (hk : k < n) : sw x y k < n := by
  unfold sw
  split
  · exact hx
  · split
    · exact hy
    · exact hk
theorem sw_inj {x y j k : Nat} (h : sw x y j = sw x y k) : j = k := by
  unfold sw at h
  split at h <;> split at h <;> (try split at h) <;> (try split at h) <;> omega
def swp (ix : List Str) (x y : Nat) : List Str := (List.range ix.length).map fun k => ix.getD (sw x y k) ""
theorem swp_len (ix : List Str) (x y : Nat) : (swp ix x y).length = ix.length := by
  unfold swp
  rw [List.length_map, List.length_range]
theorem swp_get {ix : List Str} {x y k : Nat} (hx : x < ix.length) (hy : y < ix.length) (hk : k < ix.length) : (swp ix x y)[k]? = ix[sw x y k]? := by
  unfold swp
  rw [List.getElem?_map, List.getElem?_range hk]
  show some (ix.getD (sw x y k) "") = _
  rw [List.getD_eq_getElem?_getD, List.getElem?_eq_getElem (sw_lt hx hy hk)]
  rfl
theorem swp_row {ix : List Str} {x y : Nat} (R : Row ix) (hx : x < ix.length) (hy : y < ix.length) : Row (swp ix x y) := by
  refine ⟨?_, fun c hc => ?_, by rw [swp_len]; exact R.pos, by rw [swp_len]; exact R.le⟩
  · unfold swp
    refine List.pairwise_map.mpr (List.Pairwise.imp_of_mem ?_ List.nodup_range)
    intro j k hj hk hne he
    have hj := sw_lt hx hy (List.mem_range.mp hj)
    have hk := sw_lt hx hy (List.mem_range.mp hk)
    rw [List.getD_eq_getElem?_getD, List.getD_eq_getElem?_getD, List.getElem?_eq_getElem hj, List.getElem?_eq_getElem hk] at he
    have he2 : ix[sw x y j] = ix[sw x y k] := he
    have := (List.nodup_iff_pairwise_ne.mp R.nd)
    rcases Nat.lt_trichotomy (sw x y j) (sw x y k) with h | h | h
    · exact List.pairwise_iff_getElem.mp this _ _ hj hk h he2
    · exact hne (sw_inj h)
    · exact List.pairwise_iff_getElem.mp this _ _ hk hj h he2.symm
  · unfold swp at hc
    obtain ⟨k, hk, rfl⟩ := List.mem_map.mp hc
    have hk := sw_lt hx hy (List.mem_range.mp hk)
    rw [List.getD_eq_getElem?_getD, List.getElem?_eq_getElem hk]
    exact R.sub _ (List.getElem_mem hk)
end Qk

set_option maxRecDepth 100000
set_option maxHeartbeats 4000000
namespace Qk
open PySem PySem.Spec PyProof.Rows L2

/-! ### defs that may be told only where no repr is running: what stands around them has no guard -/
structure FnG (P : Program) (w : World) (K : PySem.W.Frag) (mg : Str → Option Value) (base : Heap) (k : Nat) (f : Addr) (fd : FuncData) (ps : List Str) (sp : Sp) : Prop where
  len : ∀ vs H Q E, sp vs H Q E → vs.length = ps.length
  run : ∀ (A : Around) (outer : List Env) (s : Shared) (H : Hp) (args : Args) (us : List Value) (vs : List V) (Q : VK) (E : XK), Room k A → A.guards = some [] → Env0 P w K mg base A outer s H →
    BindsTo s fd args (ps.zip us) → Vals vs us → sp vs H Q E → codeAny (model P w) A (.call (.ref f) args) (CR CX0 outer P w H s Q E) s
theorem FnG.of {P : Program} {w : World} {K : PySem.W.Frag} {mg : Str → Option Value} {base : Heap} {k : Nat} {f : Addr} {fd : FuncData} {ps : List Str} {sp : Sp} (F : FnOk P w K mg base CX0 k f fd ps sp) : FnG P w K mg base k f fd ps sp :=
  ⟨F.len, fun A o s H args us vs Q E hr _ e b v h => F.run A o s H args us vs Q E hr e b v h⟩

section
variable {P : Program} {w : World} {K : PySem.W.Frag} {mg : Str → Option Value} {base : Heap}
theorem okG {x qual : Str} {st : Stmt} {f : Addr} {fd : FuncData} {N ps : List Str} {k : Nat} {sp : Sp} (F : Fun K x qual st f fd) (S : FnScope N ps (defScope st)) (len : ∀ vs H Q E, sp vs H Q E → vs.length = ps.length)
    (body : ∀ (cdv : Value) (A : Around) (outer : List Env) (s : Shared) (H : Hp) (vs : List V) (Q : VK) (E : XK), Room k (A.deeper (envOfC qual (defScope st) s.heap.objs.size f cdv)) → A.guards = some [] → sp vs H Q E →
      ∃ t, PSs (cxOf CX0 P w K mg base N qual (defScope st) f cdv A outer s H E).nox (defBody st) t ∧ t { nx := fun _ H' => Q .non H', rt := Q } (start N vs) H) : FnG P w K mg base (k + 1) f fd ps sp := by
  obtain ⟨oc, od, kV, doc, pm, an, cdv, ct, osl, rfl, lk, hcd⟩ := F.ex
  constructor
  · exact len
  intro A outer s H args us vs Q E hr hg e0 hb rv hsp
  have hlen := len _ _ _ _ hsp
  have kept : ∀ b o, base.get? b = some o → s.heap.get? b = some o := fun b o e => (e0.bs b o e).1
  have KX : K.In s.heap := e0.mod.kin.keeps kept
  have par : ∀ y ∈ ps.zip us, (defScope st).names.lookup y.1 = some .local ∨ ((defScope st).names.lookup y.1 = some .cell ∧ ((cellsFrom (s.heap.objs.size + 1) (defScope st).names []).lookup y.1).isSome = true) := by
    rintro ⟨n, v⟩ hy
    exact (S.par n (List.of_mem_zip hy).1).imp id fun q => ⟨q, PySem.W.cellsFrom_some _ _ _ (.inl q)⟩
  refine codeAny_call_function hr.depth (KX _ _ lk) rfl S.co S.gen rfl (PySem.W.codeRec_of KX hcd) (hb _ _ _ _ ?_)
  refine wpAny_newFunctionEnv_cells S.kind par fun env he s1 xe => ?_
  subst he
  refine ⟨(e0.mod.nolimit.keeps kept).keeps xe.toInCall.keep, codeAny_func ?_⟩
  obtain ⟨t, ht, hq⟩ := body cdv A outer s H vs Q E (hr.deeper _) hg hsp
  refine wpAny_mono (ht.nox.run [] s1 (start N vs) H _ (inv_start S hr.hd e0 hlen rv xe) hq) (fun fl s' hs => ?_) fun _ _ z => z
  cases fl with
  | ret u =>
    obtain ⟨v, σ', H', J, r, q⟩ := hs
    exact ⟨v, H', J.os, J.bare, J.base, J.hok, r, q⟩
  | next =>
    obtain ⟨σ', H', J, q⟩ := hs
    exact ⟨V.non, H', J.os, J.bare, J.base, J.hok, rfl, q⟩
  | brk => exact hs.elim fun _ z => z.elim fun _ z => z.2.elim
  | cont => exact hs.elim fun _ z => z.elim fun _ z => z.2.elim
end
section
variable {X : Cx} {k : Nat} {f : Addr} {fd : FuncData} {ps : List Str} {sp : Sp} {x : Str} {p pos : Pos} {e : Expr} {es : List Expr} {t : TA}
theorem run_g {pins : List (Addr × Obj)} {σ : L2.St} {H : Hp} {s : Shared} {Q : VK} {us : List Value} {vs : List V} (F : FnG X.prog X.w X.K X.mg X.base k f fd ps sp) (hr : Room k X.A) (hg : X.A.guards = some []) (hb : Binds X.K fd ps [])
    (I : Inv X pins σ H s) (r : Vals vs us) (h : sp vs H Q E0) : wpAny (model X.prog X.w) X.A (call (.ref f) us) (EP X pins σ Q) X.xe s := by
  have hl : (us ++ ([] : List Value)).length = ps.length := by
    rw [List.append_nil, ← r.length]
    exact F.len _ _ _ _ h
  have hbd := hb s us I.kIn hl
  rw [List.append_nil] at hbd
  have c := F.run X.A X.stack s H ⟨us, []⟩ us vs Q E0 hr hg I.env0 hbd r h
  refine wpAny_call (codeAny_mono c fun r s' hq => ?_)
  cases r with
  | error e => exact False.elim hq
  | ok fl =>
    cases fl with
    | ret u => exact I.after hq
    | _ => exact False.elim hq
/-- a call by name of such a def, all arguments given -/
theorem pe_callg (F : FnG X.prog X.w X.K X.mg X.base k f fd ps sp) (hr : Room k X.A) (hg : X.A.guards = some []) (hgl : Gl X x) (hm : X.mg x = some (.ref f)) (hk : PySem.W.keepIn X.K (.ref f) = true) (hb : Binds X.K fd ps [])
    (ha : PA X (e :: es) t) (hdb : (x == ("__debug__" : Str)) = false := by decide) (he : starEach (e :: es) X.env = (false, eval e X.env) :: starEach es X.env := by rfl) (hpl : (backTo pos (starEach es X.env)).any (·.1) = false := by rfl) :
    PE X (.Call (.Name x p) (e :: es) [] pos) (fun σ H Q => t σ H fun vs H1 => sp vs H1 Q E0) := by
  constructor
  intro pins s σ H Q I h
  refine wpAny_Call_Name_kw (ld_glob I hgl hm ?_ hdb)
  refine PySem.W.callWith_K (h₀ := X.base) I.ok.mod.kin hk ?_ he hpl
  exact thn (ha.run pos pins s σ H _ I h) fun us s1 ⟨vs, H1, I1, r, q⟩ => ⟨I1.kIn, run_g F hr hg hb I1 r q⟩
/-- repr of data, where no repr is running -/
def rReprD (K : PySem.W.Frag) : List V → Hp → VK → Prop := fun vs H Q => ∃ (x : V) (d : PyData), vs = [x] ∧ Dp K H x d ∧ d.showable = true ∧ d.hasDict = false ∧ d.shown.length ≤ sizeLine ∧ d.depth ≤ 60 ∧ Q (.str d.shown) H
theorem call_reprD (hg : X.A.guards = some []) (hu : X.A.units + 64 < cLine) : CallR X (.builtin "repr") (rReprD X.K) := by
  intro pins s σ H xs us Q I r h
  obtain ⟨x, d, rfl, hd, h1, h2, h3, h4, q⟩ := h
  obtain ⟨u, rfl, rx⟩ := vals1 r
  obtain ⟨as, rd⟩ := Dp.reads I d x u hd rx
  cases hd with
  | non =>
    cases rx
    exact PySem.P.repr_of_none ⟨.str _, H, I.tok _, ⟨_, rfl⟩, q⟩
  | bl b =>
    cases rx
    exact PySem.P.repr_of_bool ⟨.str _, H, I.tok _, ⟨_, rfl⟩, q⟩
  | int i =>
    obtain ⟨tk, rfl⟩ := rx
    exact PySem.P.repr_of_int (by simpa [PyData.showable] using h1) ⟨.str _, H, I.tok _, ⟨_, rfl⟩, q⟩
  | str z =>
    obtain ⟨tk, rfl⟩ := rx
    exact PySem.P.repr_of_str ⟨.str _, H, I.tok _, ⟨_, rfl⟩, q⟩ h3
  | lst hs ha =>
    cases rx
    exact repr_of_reads' rd h1 (fun z => by rw [h2] at z; cases z) hg (by omega) (fun _ _ z => z) (fun h' u tk hk => ⟨.str _, H, I.kept hk, ⟨_, rfl⟩, q⟩) h3
  | tup hs ha =>
    cases rx
    exact repr_of_reads' rd h1 (fun z => by rw [h2] at z; cases z) hg (by omega) (fun _ _ z => z) (fun h' u tk hk => ⟨.str _, H, I.kept hk, ⟨_, rfl⟩, q⟩) h3
end
end Qk

set_option maxRecDepth 100000
set_option maxHeartbeats 4000000
namespace Qk
open PySem PySem.Spec PyProof.Rows L2

/-! ### the end of a law whose def is of that kind -/
theorem law_g {P : Program} {w : World} {K : PySem.W.Frag} {mg mb : Str → Option Value} {k : Nat} {fa a : Addr} {fd : FuncData} {x : Str} {sp : Sp} {s₁ : Shared} {vs : List Value} {ns : List Int}
    (KX : K.In s₁.heap) (hns : s₁.heap.Ns mainGlobals mg) (hb : s₁.heap.Ns builtinsNs mb) (hbb : ∀ x : Str, x ≠ "__name__" → mb x = bootBuiltins x) (hlim : s₁.heap.NoLimit) (hg : s₁.gens = #[])
    (ha : s₁.heap.get? a = some { cls := .type "list", data := .seq vs.toArray }) (hi : IntsAre vs ns) (hl : ns.length ≤ sizeLine) (hr : Room k callerA)
    (F : ∀ base : Heap, K.In base → base.Ns mainGlobals mg → FnG P w K mg base k fa fd [x] sp) (hbind : ∀ (s : Shared) (u : Value), BindsTo s fd ⟨[u], []⟩ [(x, u)])
    (hsp : ∀ H : Hp, Only H → SqL K H a (ns.map V.int) → sp [.ref a] H (fun v _ => v = .bl true) fun _ _ _ => False) :
    codeAny (model P w) callerA (.call (.ref fa) ⟨[.ref a], []⟩) (fun r s' => r = .ok (.ret (.bool true)) ∧ OldK s₁.heap s'.heap ∧ s'.os = s₁.os ∧ AllBare s'.gens) s₁ := by
  let o : Obj := { cls := .type "list", data := .seq vs.toArray }
  have rv : Vals (ns.map V.int) vs := vals_ints hi
  have lenV : vs.length = ns.length := hi.length
  -- the abstract heap: the script alone, where the top does not know it
  let H : Hp := fun b => if b = a ∧ K.lookup a = none then some (.frz o (.lst (ns.map V.int))) else none
  have Hsome : ∀ {b u}, H b = some u → b = a ∧ K.lookup a = none ∧ u = .frz o (.lst (ns.map V.int)) := fun {b u} z => by
    by_cases c : b = a ∧ K.lookup a = none
    · have z2 : some (HO.frz o (.lst (ns.map V.int))) = some u := (if_pos c).symm.trans z
      exact ⟨c.1, c.2, (Option.some.inj z2).symm⟩
    · have z2 : (none : Option HO) = some u := (if_neg c).symm.trans z
      cases z2
  have hO : Only H := fun b => by
    cases q : H b with
    | none => exact .inl rfl
    | some u => exact .inr ⟨_, _, by rw [(Hsome q).2.2]⟩
  have hS : SqL K H a (ns.map V.int) := by
    cases q : K.lookup a with
    | none => exact .inl (.inr ⟨o, if_pos ⟨rfl, q⟩⟩)
    | some u =>
      have e := KX a u q
      rw [ha] at e
      cases e
      exact .inr ⟨_, vs.toArray, _, q, rfl, rfl, rfl, by rw [List.size_toArray, lenV]; exact hl, by simpa using rv⟩
  have hok : HOk P w H s₁.heap := fun b u z => by
    obtain ⟨rfl, _, rfl⟩ := Hsome z
    exact ⟨ha, by rw [List.length_map]; exact hl, vs, _, rv, ha⟩
  have keepB : ∀ {b : Addr} {u : Obj}, s₁.heap.get? b = some u → (b = a → K.lookup a ≠ none) → (hidT s₁.heap H).get? b = some u := fun {b u} e n => hidT_get e (by
    cases q : H b with
    | none => rfl
    | some z => exact absurd (Hsome q).2.1 (n (Hsome q).1))
  have keepN : ∀ {b : Addr} {m : Str → Option Value}, s₁.heap.Ns b m → (hidT s₁.heap H).Ns b m := fun {b m} ⟨u, es, ep, e, d, r⟩ => by
    refine ⟨u, es, ep, keepB e fun eb => ?_, d, r⟩
    subst eb
    rw [ha] at e
    cases e
    cases d
  have hKb : K.In (hidT s₁.heap H) := fun b u e => keepB (KX b u e) fun eb q => by
    subst eb
    rw [q] at e
    cases e
  have hM : Mod K mg (hidT s₁.heap H) := ⟨hKb, keepN hns, ⟨mb, keepN hb, hbb⟩, let ⟨mc, h1, h2⟩ := hlim; ⟨mc, keepN h1, h2⟩⟩
  have e0 : Env0 P w K mg (hidT s₁.heap H) callerA [] s₁ H := ⟨rfl, hM, fun _ _ e => of_hidT e, Nat.le_of_eq (hidT_size _ _), trivial, fun b z => absurd (show b ∈ ([] : List Addr) from z) (by simp), hok, .of_eq hg⟩
  have run := (F _ hKb (keepN hns)).run callerA [] s₁ H ⟨[.ref a], []⟩ [.ref a] [.ref a] _ _ hr rfl e0 (hbind s₁ (.ref a)) (.cons rfl .nil) (hsp H hO hS)
  refine codeAny_mono run fun r s' h => ?_
  cases r with
  | error e => exact False.elim h
  | ok fl =>
    cases fl with
    | ret u =>
      obtain ⟨v, H', os, bare, un, hok', r', q⟩ := h
      obtain rfl : v = .bl true := q
      obtain rfl : u = Value.bool true := r'
      refine ⟨rfl, OldK.of_keep fun b u e => ?_, os, bare⟩
      cases q : H b with
      | none => exact un.keep b u e q (fun z => absurd (show b ∈ ([] : List Addr) from z) (by simp)) (by simp)
      | some z =>
        obtain ⟨rfl, _, rfl⟩ := Hsome q
        obtain ⟨e2, _⟩ := hok' b _ (un.frzs b o _ q)
        rw [ha] at e
        cases e
        exact e2
    | _ => exact False.elim h
theorem walk_g {l : PySem.W.OpenLaw} {n k : Nat} {q : Program} {loose : List Str} {XP : (Str → Option Value) → Heap → Prop} {YP : World → Heap → Prop} {d : DefRec} {K : Params → PySem.W.Frag} {sp : World → Sp} {x : Str}
    (hn : l.most = some n) (hn2 : n ≤ sizeLine) (hdf : d.params.defaults = []) (hr : Room k callerA) (hY : ∀ (w : World) (h : Heap), YP w h → (K w.params).In h)
    (F : ∀ (w : World) (mg : Str → Option Value) (fa : Addr) (h : Heap), (K w.params).In h → h.Ns mainGlobals mg → mg d.name = some (.ref fa) →
      ∃ fd : FuncData, (∀ (s : Shared) (u : Value), BindsTo s fd ⟨[u], []⟩ [(x, u)]) ∧ ∀ base : Heap, (K w.params).In base → base.Ns mainGlobals mg → FnG l.prog w (K w.params) mg base k fa fd [x] (sp w))
    (hsp : ∀ (w : World) (H : Hp) (a : Addr) (ns : List Int), ns.length ≤ n → Only H → SqL (K w.params) H a (ns.map V.int) → sp w [.ref a] H (fun v _ => v = .bl true) fun _ _ _ => False) :
    PySem.W.WalkO q loose XP YP l.row.toRowW d [] (fun f vs => PySem.call f vs) := by
  refine Att.attach_call hn hdf fun w s₀ s₁ mg mb fa o pm cd doc a vs ns G Y ho hd hcd hmg hobj hints hlen hg => ?_
  obtain ⟨fd, hb, hF⟩ := F w mg fa _ (hY w _ Y) G.T.g hmg
  exact law_g (hY w _ Y) G.T.g G.T.b G.T.builtins G.T.nolimit hg hobj hints (Nat.le_trans hlen hn2) hr hF hb fun H hO hS => hsp w H a ns hlen hO hS

/-! ### data that may be compared and shown -/
mutual
def fine : PyData → Bool
  | .none => true
  | .bool _ => true
  | .int i => decide (i.natAbs < 1000000)
  | .str x => PyData.strOk x && decide (x.cps.size ≤ 20)
  | .list xs => fineAll xs
  | .tuple xs => fineAll xs
  | .dict _ => false
def fineAll : List PyData → Bool
  | [] => true
  | x :: xs => fine x && fineAll xs
end
mutual
def cost : PyData → Nat
  | .none => 4
  | .bool _ => 5
  | .int _ => 22
  | .str _ => 210
  | .list xs => costAll xs + 3
  | .tuple xs => costAll xs + 3
  | .dict _ => 0
def costAll : List PyData → Nat
  | [] => 0
  | x :: xs => cost x + 2 + costAll xs
end
mutual
theorem fine_lay : ∀ d : PyData, fine d = true → d.canLay0 = true ∧ d.showable = true ∧ d.hasDict = false
  | .none, _ => ⟨rfl, rfl, rfl⟩
  | .bool _, _ => ⟨rfl, rfl, rfl⟩
  | .int i, h => by
    have hi : i.natAbs < 1000000 := of_decide_eq_true h
    refine ⟨rfl, ?_, rfl⟩
    show decide (i.natAbs.log2 < 1920) = true
    refine decide_eq_true ?_
    by_cases h0 : i.natAbs = 0
    · rw [h0]
      decide
    · exact Nat.lt_of_lt_of_le ((Nat.log2_lt h0).mpr (show i.natAbs < 2 ^ 20 by omega)) (by decide)
  | .str x, h => by
    have h' : (PyData.strOk x && decide (x.cps.size ≤ 20)) = true := h
    rw [Bool.and_eq_true] at h'
    exact ⟨h'.1, rfl, rfl⟩
  | .list xs, h => fine_layAll xs h
  | .tuple xs, h => fine_layAll xs h
  | .dict _, h => by cases h
theorem fine_layAll : ∀ xs : List PyData, fineAll xs = true → PyData.canLayAll0 xs = true ∧ PyData.showableAll xs = true ∧ PyData.hasDictAll xs = false
  | [], _ => ⟨rfl, rfl, rfl⟩
  | x :: xs, h => by
    have h' : (fine x && fineAll xs) = true := h
    rw [Bool.and_eq_true] at h'
    obtain ⟨a1, a2, a3⟩ := fine_lay x h'.1
    obtain ⟨b1, b2, b3⟩ := fine_layAll xs h'.2
    refine ⟨?_, ?_, ?_⟩
    · show (PyData.canLay0 x && PyData.canLayAll0 xs) = true
      rw [a1, b1]
      rfl
    · show (PyData.showable x && PyData.showableAll xs) = true
      rw [a2, b2]
      rfl
    · show (PyData.hasDict x || PyData.hasDictAll xs) = false
      rw [a3, b3]
      rfl
end
theorem listText_le (ts : List Str) : (listText ts).length ≤ piled ts + 2 := by
  cases ts with
  | nil => decide
  | cons t r =>
    have e : listText (t :: r) = textFrom 1 ("[" ++ "" ++ t) r ++ "]" := rfl
    rw [e, strLen_append, textFrom_length_pos r 1 _ (by decide), strLen_append, piled_cons]
    have e1 : (("[" : Str) ++ ("" : Str)).length = 1 := rfl
    have e2 : ((("]" : String) : Str)).length = 1 := rfl
    have e3 : (((("[" : String) : Str) ++ (("" : String) : Str)) : Str).length = 1 := rfl
    omega
theorem tupleText_le (ts : List Str) : (tupleText ts).length ≤ piled ts + 3 := by
  unfold tupleText
  rw [strLen_append, strLen_append]
  have e1 : (("(" : String) : Str).length = 1 := rfl
  have e2 : ((if (ts.length == 1) = true then ",)" else ")" : String) : Str).length ≤ 2 := by
    split
    · decide
    · decide
  cases ts with
  | nil =>
    have : (Str.join ", " ([] : List Str)).length = 0 := rfl
    omega
  | cons t r =>
    have := join_length_add (t :: r) (by simp)
    omega
mutual
theorem shown_le : ∀ d : PyData, fine d = true → d.shown.length ≤ cost d
  | .none, _ => by decide
  | .bool b, _ => by cases b <;> decide
  | .int i, h => by
    have hi : i.natAbs < 1000000 := of_decide_eq_true h
    have e := int_text_length_le10 (k := 6) (a := i) (by decide) hi
    show (Str.ofString (toString i)).length ≤ 22
    rw [PySem.ofString_length]
    omega
  | .str x, h => by
    have h' : (PyData.strOk x && decide (x.cps.size ≤ 20)) = true := h
    rw [Bool.and_eq_true] at h'
    have h2 : x.length ≤ 20 := of_decide_eq_true h'.2
    have h3 : ∀ c ∈ x.cps.toList, c < 16 ^ 8 := fun c hc => by
      have := Array.all_eq_true'.mp h'.1 c (by simpa using hc)
      have := of_decide_eq_true this
      omega
    have := PySem.StrLaws.reprText_len x h3
    show (reprText x).length ≤ 210
    omega
  | .list xs, h => by
    have := listText_le (PyData.shownAll xs)
    have h2 := shown_leAll xs h
    show (listText (PyData.shownAll xs)).length ≤ costAll xs + 3
    omega
  | .tuple xs, h => by
    have := tupleText_le (PyData.shownAll xs)
    have h2 := shown_leAll xs h
    show (tupleText (PyData.shownAll xs)).length ≤ costAll xs + 3
    omega
  | .dict _, h => by cases h
theorem shown_leAll : ∀ xs : List PyData, fineAll xs = true → piled (PyData.shownAll xs) ≤ costAll xs
  | [], _ => Nat.le_refl 0
  | x :: xs, h => by
    have h' : (fine x && fineAll xs) = true := h
    rw [Bool.and_eq_true] at h'
    have h1 := shown_le x h'.1
    have h2 := shown_leAll xs h'.2
    show piled (PyData.shown x :: PyData.shownAll xs) ≤ cost x + 2 + costAll xs
    rw [piled_cons]
    omega
end
structure DOk (d : PyData) : Prop where
  f : fine d = true
  dp : d.depth ≤ 50
  c : cost d ≤ 1000000
theorem DOk.shaped {d : PyData} (h : DOk d) : SeqAt.shaped d = true := by
  unfold SeqAt.shaped
  rw [(fine_lay d h.f).1]
  exact decide_eq_true (Nat.le_trans h.dp (by decide))
theorem DOk.len {d : PyData} (h : DOk d) : d.shown.length ≤ sizeLine := Nat.le_trans (shown_le d h.f) (Nat.le_trans h.c (by rw [sizeLine_eq]; decide))
mutual
theorem Dp.same {K : PySem.W.Frag} {H H' : Hp} (s : Same H H') : ∀ (d : PyData) (v : V), Dp K H v d → Dp K H' v d
  | .none, _, h => by cases h; exact .non
  | .bool _, _, h => by cases h; exact .bl _
  | .int _, _, h => by cases h; exact .int _
  | .str _, _, h => by cases h; exact .str _
  | .list ds, _, h => by
    cases h with
    | lst h1 h2 => exact .lst (s.seq h1) (Dp.sameAll s ds _ h2)
  | .tuple ds, _, h => by
    cases h with
    | tup h1 h2 => exact .tup (Evl.ex_t s h1) (Dp.sameAll s ds _ h2)
  | .dict _, _, h => by cases h
theorem Dp.sameAll {K : PySem.W.Frag} {H H' : Hp} (s : Same H H') : ∀ (ds : List PyData) (vs : List V), DpAll K H vs ds → DpAll K H' vs ds
  | [], _, h => by cases h; exact .nil
  | d :: ds, _, h => by
    cases h with
    | cons h1 h2 => exact .cons (Dp.same s d _ h1) (Dp.sameAll s ds _ h2)
end
/-- two data that are the same -/
def spAlikeD (K : PySem.W.Frag) : Sp := fun vs H Q _ => ∃ (x y : V) (d : PyData), vs = [x, y] ∧ Dp K H x d ∧ Dp K H y d ∧ DOk d ∧ Q (.bl true) H
/-- the names as data -/
def okS (c : Str) : Bool := PyData.strOk c && decide (c.cps.size ≤ 20)
theorem menu_okS : ∀ c ∈ menu, okS c = true := by decide +kernel
theorem fine_strs : ∀ {xs : List Str}, (∀ c ∈ xs, okS c = true) → fineAll (xs.map PyData.str) = true
  | [], _ => rfl
  | x :: xs, h => by
    show (fine (.str x) && fineAll (xs.map PyData.str)) = true
    rw [fine_strs fun c hc => h c (List.mem_cons_of_mem _ hc), Bool.and_true]
    exact h x List.mem_cons_self
theorem cost_strs : ∀ (xs : List Str), costAll (xs.map PyData.str) = 212 * xs.length
  | [] => rfl
  | x :: xs => by
    show cost (.str x) + 2 + costAll (xs.map PyData.str) = _
    rw [cost_strs xs, List.length_cons]
    show 210 + 2 + _ = _
    omega
theorem dok_strs {xs : List Str} (h : ∀ c ∈ xs, okS c = true) (hl : xs.length ≤ 100) : DOk (.tuple (xs.map PyData.str)) :=
  ⟨fine_strs h, by show PyData.depthAll _ + 1 ≤ 50; rw [depth_strs]; decide, by show costAll _ + 3 ≤ _; rw [cost_strs]; omega⟩
/-- a question as data -/
def dQ (cols : List Str) (e : Str) : PyData := .tuple [.tuple (cols.map PyData.str), .str e]
theorem dp_q {K : PySem.W.Frag} {H : Hp} {q : Addr} {cols : List Str} {e : Str} (h : QAt H q cols e) : Dp K H (.ref q) (dQ cols e) := by
  obtain ⟨c, h1, h2⟩ := h
  exact .tup (SqT.of h1) (.cons (.tup (SqT.of h2) (dp_strs _)) (.cons (.str e) .nil))
structure CalG (P : Program) (w : World) (K : PySem.W.Frag) (mg : Str → Option Value) (base : Heap) (k : Nat) (x : Str) (ps : List Str) (sp : Sp) where
  f : Addr
  fd : FuncData
  G : FnG P w K mg base k f fd ps sp
  m : mg x = some (.ref f)
  kp : PySem.W.keepIn K (.ref f) = true
  b : Binds K fd ps []
end Qk

set_option maxRecDepth 100000
set_option maxHeartbeats 4000000
namespace Qk
open PySem PySem.Spec PyProof.Rows L2

/-! ### the order of texts, of tuples of texts, of questions -/
def ltS (a b : Str) : Bool := decide (a.cps.toList < b.cps.toList)
def lexS : List Str → List Str → Bool
  | [], [] => false
  | [], _ :: _ => true
  | _ :: _, [] => false
  | x :: xs, y :: ys => if x = y then lexS xs ys else ltS x y
theorem ltS_irrefl (a : Str) : ltS a a = false := decide_eq_false (List.lt_irrefl _)
theorem ltS_tri {a b : Str} (h : a ≠ b) : ltS a b = true ∨ ltS b a = true := by
  unfold ltS
  by_cases h1 : a.cps.toList < b.cps.toList
  · exact .inl (decide_eq_true h1)
  · by_cases h2 : b.cps.toList < a.cps.toList
    · exact .inr (decide_eq_true h2)
    · exact absurd (str_ext (List.le_antisymm (List.not_lt.mp h2) (List.not_lt.mp h1))) h
theorem ltS_trans {a b c : Str} (h1 : ltS a b = true) (h2 : ltS b c = true) : ltS a c = true := by
  unfold ltS at *
  exact decide_eq_true (List.lt_trans (of_decide_eq_true h1) (of_decide_eq_true h2))
theorem ltS_asym {a b : Str} (h1 : ltS a b = true) : ltS b a = false := by
  cases h2 : ltS b a with
  | false => rfl
  | true =>
    have := ltS_trans h1 h2
    rw [ltS_irrefl] at this
    cases this
theorem lexS_irrefl : ∀ a : List Str, lexS a a = false
  | [] => rfl
  | x :: xs => by
    rw [lexS, if_pos rfl]
    exact lexS_irrefl xs
theorem lexS_tri : ∀ {a b : List Str}, a ≠ b → lexS a b = true ∨ lexS b a = true
  | [], [], h => absurd rfl h
  | [], _ :: _, _ => .inl rfl
  | _ :: _, [], _ => .inr rfl
  | x :: xs, y :: ys, h => by
    rw [lexS, lexS]
    by_cases e : x = y
    · subst e
      rw [if_pos rfl, if_pos rfl]
      exact lexS_tri fun z => h (by rw [z])
    · rw [if_neg e, if_neg (Ne.symm e)]
      exact ltS_tri e
theorem lexS_trans : ∀ {a b c : List Str}, lexS a b = true → lexS b c = true → lexS a c = true
  | [], [], _, h, _ => by cases h
  | [], _ :: _, [], _, h => by cases h
  | [], _ :: _, _ :: _, _, _ => rfl
  | _ :: _, [], _, h, _ => by cases h
  | _ :: _, _ :: _, [], _, h => by cases h
  | x :: xs, y :: ys, z :: zs, h1, h2 => by
    rw [lexS] at h1 h2 ⊢
    by_cases e1 : x = y
    · subst e1
      rw [if_pos rfl] at h1
      by_cases e2 : x = z
      · rw [if_pos e2] at h2 ⊢
        exact lexS_trans h1 h2
      · rw [if_neg e2] at h2 ⊢
        exact h2
    · rw [if_neg e1] at h1
      by_cases e2 : y = z
      · subst e2
        rw [if_neg e1]
        exact h1
      · rw [if_neg e2] at h2
        have h3 := ltS_trans h1 h2
        have e3 : x ≠ z := fun e => by
          subst e
          rw [ltS_asym h1] at h2
          cases h2
        rw [if_neg e3]
        exact h3
theorem lexS_asym {a b : List Str} (h1 : lexS a b = true) : lexS b a = false := by
  cases h2 : lexS b a with
  | false => rfl
  | true =>
    have := lexS_trans h1 h2
    rw [lexS_irrefl] at this
    cases this
abbrev Qd := List Str × Str
def ltQ (p q : Qd) : Bool := if p.1 = q.1 then ltS p.2 q.2 else lexS p.1 q.1
theorem ltQ_irrefl (p : Qd) : ltQ p p = false := by
  unfold ltQ
  rw [if_pos rfl]
  exact ltS_irrefl _
theorem ltQ_tri {p q : Qd} (h : p ≠ q) : ltQ p q = true ∨ ltQ q p = true := by
  unfold ltQ
  by_cases e : p.1 = q.1
  · rw [if_pos e, if_pos e.symm]
    exact ltS_tri fun z => h (Prod.ext e z)
  · rw [if_neg e, if_neg (Ne.symm e)]
    exact lexS_tri e
theorem ltQ_trans {p q r : Qd} (h1 : ltQ p q = true) (h2 : ltQ q r = true) : ltQ p r = true := by
  unfold ltQ at *
  by_cases e1 : p.1 = q.1
  · rw [if_pos e1] at h1
    by_cases e2 : q.1 = r.1
    · rw [if_pos e2] at h2
      rw [if_pos (e1.trans e2)]
      exact ltS_trans h1 h2
    · rw [if_neg e2] at h2
      rw [if_neg (e1 ▸ e2), e1]
      exact h2
  · rw [if_neg e1] at h1
    by_cases e2 : q.1 = r.1
    · rw [if_pos e2] at h2
      rw [if_neg (e2 ▸ e1), ← e2]
      exact h1
    · rw [if_neg e2] at h2
      have h3 := lexS_trans h1 h2
      have e3 : p.1 ≠ r.1 := fun e => by
        rw [e] at h1
        rw [lexS_asym h1] at h2
        cases h2
      rw [if_neg e3]
      exact h3
theorem ltQ_asym {p q : Qd} (h1 : ltQ p q = true) : ltQ q p = false := by
  cases h2 : ltQ q p with
  | false => rfl
  | true =>
    have := ltQ_trans h1 h2
    rw [ltQ_irrefl] at this
    cases this
theorem swo_q {α : Type} (k : α → Qd) : SrtO.Swo fun x y => ltQ (k x) (k y) := by
  refine ⟨fun x y h => ltQ_asym h, fun x y z h1 h2 => ?_⟩
  -- not y < x, not z < y: not z < x
  cases h3 : ltQ (k z) (k x) with
  | false => rfl
  | true =>
    by_cases e : k x = k y
    · rw [e] at h3
      have : ltQ (k z) (k y) = false := h2
      rw [this] at h3
      cases h3
    · rcases ltQ_tri e with h | h
      · have h4 : ltQ (k z) (k y) = true := ltQ_trans h3 h
        rw [h2] at h4
        cases h4
      · have : ltQ (k y) (k x) = false := h1
        rw [this] at h
        cases h
theorem perm_ltQ : ∀ {xs ys : List Qd}, xs.Perm ys → xs.Pairwise (fun a b => ltQ b a = false) → ys.Pairwise (fun a b => ltQ b a = false) → xs = ys
  | [], ys, h, _, _ => List.Perm.nil_eq h
  | x :: xs, [], h, _, _ => absurd h.length_eq (by simp)
  | x :: xs, y :: ys, h, h1, h2 => by
    have e : x = y := by
      rcases List.mem_cons.mp (h.mem_iff.mp List.mem_cons_self) with e | m1
      · exact e
      · rcases List.mem_cons.mp (h.mem_iff.mpr List.mem_cons_self) with e | m2
        · exact e.symm
        · have a1 := (List.pairwise_cons.mp h1).1 y m2
          have a2 := (List.pairwise_cons.mp h2).1 x m1
          by_cases e : x = y
          · exact e
          · rcases ltQ_tri e with h | h
            · rw [a2] at h; cases h
            · rw [a1] at h; cases h
    subst e
    rw [perm_ltQ (List.Perm.cons_inv h) (List.pairwise_cons.mp h1).2 (List.pairwise_cons.mp h2).2]

/-! ### t < u of tuples of texts -/
section
open PySem.SeqAt
open PySem.AutoSeq1 (wpAny_loadPart')
open PySem.MeetsSeq PySem.MeetsSeq2 PySem.MeetsSeq3
theorem eqAt_str (A : Around) (s : Shared) (a : Str) (t : Tok) (c : Str) (u : Tok) : ∃ e, SeqAt.EqAt A s (.str a t) (.str c u) e ∧ (e = true ↔ a = c) :=
  ⟨(a == c), SeqAt.EqAt.str_str a t c u, by simp⟩
theorem rcLt_str (A : Around) (s : Shared) (a : Str) (t : Tok) (c : Str) (u : Tok) (prog : Program) (w : World) (E : Value → Shared → Prop) (Q : Value → Shared → Prop) (h : Q (.bool (ltS a c)) s) :
    wpAny (model prog w) A (richCompare .Lt (.str a t) (.str c u)) Q E s := by
  have z : wpAny (model prog w) A (compareOp .Lt (.str a t) (.str c u)) Q E s := PySem.P.lt_str h
  exact z
theorem tuple_lt_texts (l b : Addr) (us vs : Array Value) (n m : Nat) (d1 d2 : Option Addr) (sl1 sl2 : Array (Option Value)) (xs ys : List Str) (hx : StrsAre us.toList xs) (hy : StrsAre vs.toList ys) :
    Meets (Builtin.«tuple.__lt__» ⟨[.ref l, .ref b], []⟩)
      (fun _ R s => s.heap.get? l = some { cls := .type "tuple", dict := d1, data := .seq us n, slots := sl1 } ∧ s.heap.get? b = some { cls := .type "tuple", dict := d2, data := .seq vs m, slots := sl2 } ∧
        R (.ok (.ret (.bool (lexS xs ys)))) s) :=
  .of_wp fun prog w A R s h => by
    obtain ⟨hp, g, d, tk, os⟩ := s; obtain ⟨hl, hb, h⟩ := h
    have f2 := AutoSeq1.sub_tuple_tuple
    have z1 : us.size = xs.length := by rw [← hx.length]; simp
    have z2 : vs.size = ys.length := by rw [← hy.length]; simp
    wp_walk using wpAny_loadPart' hl, wpAny_loadPart' hb, wpAny_forIn_list _ (fun rest b s' => b.1 = none ∧ s' = ⟨hp, g, d, tk, os⟩ ∧ ∃ (as bs : List Value) (x' y' : List Str), rest = as.zip bs ∧
      StrsAre as x' ∧ StrsAre bs y' ∧ x'.length + vs.size = y'.length + us.size ∧ R (.ok (.ret (.bool (lexS x' y')))) ⟨hp, g, d, tk, os⟩) _
    case turn =>
      rintro ⟨u, v⟩ rest b s' ⟨hb', rfl, as, bs, x', y', hz, ha, hc, hlen, hR⟩
      cases ha with
      | nil => rw [List.zip_nil_left] at hz; cases hz
      | cons a t ha' =>
        cases hc with
        | nil => rw [List.zip_nil_right] at hz; cases hz
        | cons c t2 hc' =>
          rw [List.zip_cons_cons] at hz
          injection hz with e1 hrest
          injection e1 with eu ev
          subst eu ev
          rw [lexS] at hR
          simp only [List.length_cons] at hlen
          obtain ⟨e, he, hiff⟩ := eqAt_str A.in1 ⟨hp, g, d, tk, os⟩ a t c t2
          refine wpAny_bind (he prog w _ _ ?_)
          cases e with
          | true =>
            rw [if_pos (hiff.mp rfl)] at hR
            wp_walk
            exact ⟨rfl, rfl, _, _, _, _, hrest, ha', hc', by omega, hR⟩
          | false =>
            rw [if_neg (fun q => absurd (hiff.mpr q) Bool.false_ne_true)] at hR
            have hri := rcLt_str A.in1 ⟨hp, g, d, tk, os⟩ a t c t2 prog w
            wp_walk using hri
            exact ⟨_, rfl, by simpa using hR⟩
    case fin =>
      rintro ⟨b1, b2⟩ s' ⟨hb', rfl, as, bs, x', y', hz, ha, hc, hlen, hR⟩
      simp only at hb'
      subst hb'
      have hv : lexS x' y' = decide (us.size < vs.size) := by
        cases ha with
        | nil =>
          cases hc with
          | nil =>
            simp only [List.length_nil] at hlen
            exact (decide_eq_false (by omega)).symm
          | cons c u hw =>
            simp only [List.length_nil, List.length_cons] at hlen
            exact (decide_eq_true (by omega)).symm
        | cons a t hv =>
          cases hc with
          | nil =>
            simp only [List.length_nil, List.length_cons] at hlen
            exact (decide_eq_false (by omega)).symm
          | cons c u hw =>
            rw [List.zip_cons_cons] at hz
            cases hz
      rw [hv] at hR
      wp_walk
      exact ⟨_, rfl, by simpa [Builtin.Tuple.tupleCompareSizes] using hR⟩
    case h =>
      exact ⟨rfl, rfl, us.toList, vs.toList, xs, ys, rfl, hx, hy, by omega, h⟩
theorem lt_tupTexts {prog : Program} {w : World} {A : Around} {E : Value → Shared → Prop} {s : Shared} {l b : Addr} {us vs : Array Value} {xs ys : List Str} {Q : Value → Shared → Prop} (hl : IsTup s.heap l us) (hb : IsTup s.heap b vs)
    (hx : StrsAre us.toList xs) (hy : StrsAre vs.toList ys) (hu : A.units < cLine) (h : Q (.bool (lexS xs ys)) s) : wpAny (model prog w) A (compareOp .Lt (.ref l) (.ref b)) Q E s := by
  obtain ⟨⟨c1, d1, e1, sl1⟩, ho, hc, n, hd⟩ := id hl
  obtain ⟨⟨c2, d2, e2, sl2⟩, ho2, hc2, m, hd2⟩ := id hb
  simp only at hc hd hc2 hd2
  subst hc hd hc2 hd2
  exact richCompare_meets_room (op := .Lt) ⟨_, ho, rfl⟩ ⟨_, ho2, rfl⟩ PySem.F.slot_tuple_lt PySem.F.entry_tuple_lt (PySem.F.args_tuple_lt_2 _ _) (tuple_lt_texts l b us vs n m d1 d2 sl1 sl2 xs ys hx hy)
    ⟨ho, ho2, show Value.bool (lexS xs ys) ≠ Value.notImplemented ∧ Q (.bool (lexS xs ys)) s from ⟨(fun x => nomatch x), h⟩⟩ hu
end
/-! ### sorted of questions -/
/-- v is a question in the heap -/
def IsQ (h : Heap) (v : Value) (q : Qd) : Prop := ∃ (a c : Addr) (o oc : Obj) (t : Tok) (us : List Value) (n m : Nat), v = .ref a ∧ h.get? a = some o ∧ o.cls = .type "tuple" ∧ o.data = .seq #[.ref c, .str q.2 t] n ∧
  h.get? c = some oc ∧ oc.cls = .type "tuple" ∧ oc.data = .seq us.toArray m ∧ StrsAre us q.1
theorem IsQ.keeps {h h' : Heap} {v : Value} {q : Qd} (x : IsQ h v q) (k : ∀ b o, h.get? b = some o → o.cls = .type "tuple" → h'.get? b = some o) : IsQ h' v q := by
  obtain ⟨a, c, o, oc, t, us, n, m, e, ho, hc, hd, hoc, hcc, hdc, hs⟩ := x
  exact ⟨a, c, o, oc, t, us, n, m, e, k _ _ ho hc, hc, hd, k _ _ hoc hcc, hcc, hdc, hs⟩
section
variable {prog : Program} {w : World} {A : Around} {E : Value → Shared → Prop} {s : Shared}
theorem reads_strs {h : Heap} : ∀ {us : List Value} {xs : List Str}, StrsAre us xs → ∃ as, ReadsAll h us (xs.map PyData.str) as
  | _, _, .nil => ⟨_, ReadsAll.nil⟩
  | _, _, .cons x t r => by
    obtain ⟨as, q⟩ := reads_strs (h := h) r
    exact ⟨_, ReadsAll.cons (Reads.str x t) q⟩
theorem q_cmp {vs : List Value} {k : Value → Qd} (hu : A.units + 64 < cLine) (hm : ∀ v ∈ vs, ∀ c ∈ (k v).1, PyData.strOk c = true) (hp : ∀ v ∈ vs, IsQ s.heap v (k v)) : SrtO.Cmp prog w A s (tuples' false) (fun p => p.1 ∈ vs) (SrtO.lt2 fun v u => ltQ (k v) (k u)) := by
  intro p q hm1 hm2
  have h1 := hp _ hm1
  have h2 := hp _ hm2
  have m1 := hm _ hm1
  have m2 := hm _ hm2
  show wpAny (model prog w) A (keyLt' (tuples' false) p.1 q.1) (fun r s' => s' = s ∧ r = ltQ (k p.1) (k q.1)) (fun _ _ => False) s
  generalize k p.1 = x at h1 m1 ⊢
  generalize k q.1 = y at h2 m2 ⊢
  obtain ⟨xc, xe⟩ := x
  obtain ⟨yc, ye⟩ := y
  obtain ⟨a, c, o, oc, t, us, n, m, e, ho, hc, hd, hoc, hcc, hdc, hs⟩ := h1
  obtain ⟨a', c', o', oc', t', us', n', m', e', ho', hc', hd', hoc', hcc', hdc', hs'⟩ := h2
  rw [e, e']
  refine PySem.W.kat_lt ho hd ho' hd' ?_
  show PySem.W.KatLex prog w A false (decide (2 < 2)) _ [(.ref c, .ref c'), (.str xe t, .str ye t')] 0 s
  obtain ⟨as, r1⟩ := reads_strs (h := s.heap) hs
  obtain ⟨bs, r2⟩ := reads_strs (h := s.heap) hs'
  have rd1 : Reads s.heap (.ref c) (.tuple (xc.map PyData.str)) as := Reads.tuple hoc hcc hdc (by simpa using r1)
  have rd2 : Reads s.heap (.ref c') (.tuple (yc.map PyData.str)) bs := Reads.tuple hoc' hcc' hdc' (by simpa using r2)
  have l1 : (PyData.tuple (xc.map PyData.str)).canLay0 = true := lay_strs m1
  have l2 : (PyData.tuple (yc.map PyData.str)).canLay0 = true := lay_strs m2
  refine PySem.W.kat_cons (SeqAt.eqBoolOverData prog w A _ s _ _ _ _ as bs _ rd1 rd2 l1 l2 ?_ ?_)
  · have : (PyData.tuple (xc.map PyData.str)).depth = 1 := by
      show PyData.depthAll _ + 1 = 1
      rw [depth_strs]
    omega
  rw [PyData.eqv, eqv_strs]
  by_cases ex : xc = yc
  · rw [decide_eq_true ex]
    refine PySem.W.kat_yes (PySem.W.kat_cons (SeqAt.EqAt.str_str xe t ye t' prog w _ _ ?_))
    by_cases ey : xe = ye
    · have e3 : ltQ (xc, xe) (yc, ye) = false := by rw [ex, ey]; exact ltQ_irrefl _
      have e4 : (xe == ye) = true := beq_iff_eq.mpr ey
      rw [e4]
      exact PySem.W.kat_yes (PySem.W.kat_nil ⟨rfl, e3.symm⟩)
    · have e3 : ltQ (xc, xe) (yc, ye) = ltS xe ye := if_pos ex
      have e4 : (xe == ye) = false := beq_eq_false_iff_ne.mpr ey
      rw [e4]
      refine PySem.W.kat_no (PySem.W.kat_one _ _ (rcLt_str A s xe t ye t' prog w _ _ ?_))
      exact (show s = s ∧ ltS xe ye = ltQ (xc, xe) (yc, ye) from ⟨rfl, e3.symm⟩)
  · rw [decide_eq_false ex]
    have e3 : ltQ (xc, xe) (yc, ye) = lexS xc yc := if_neg ex
    refine PySem.W.kat_no (PySem.W.kat_one _ _ (lt_tupTexts (us := us.toArray) (vs := us'.toArray) ⟨oc, hoc, hcc, m, hdc⟩ ⟨oc', hoc', hcc', m', hdc'⟩ (by simpa using hs) (by simpa using hs') (by omega) ?_))
    exact (show s = s ∧ lexS xc yc = ltQ (xc, xe) (yc, ye) from ⟨rfl, e3.symm⟩)
theorem q_firsts {h : Heap} : ∀ {vs : List Value} {k : Value → Qd}, (∀ v ∈ vs, IsQ h v (k v)) → ∃ fs : List Value, PySem.W.KatTups h vs fs ∧ fs.length = vs.length ∧ ∀ f ∈ fs, ∃ c oc, f = Value.ref c ∧ h.get? c = some oc ∧ oc.cls = .type "tuple"
  | [], _, _ => ⟨[], PySem.W.KatTups.nil, rfl, fun _ hm => by simp at hm⟩
  | v :: vs, k, hp => by
    obtain ⟨fs, h1, h2, h3⟩ := q_firsts (vs := vs) (k := k) fun v' hm => hp v' (List.mem_cons_of_mem _ hm)
    obtain ⟨a, c, o, oc, t, us, n, m, e, ho, hc, hd, hoc, hcc, hdc, hs⟩ := hp v List.mem_cons_self
    subst e
    refine ⟨.ref c :: fs, PySem.W.KatTups.cons ho hc hd rfl h1, by rw [List.length_cons, List.length_cons, h2], fun f hm => ?_⟩
    rcases List.mem_cons.mp hm with rfl | hm
    · exact ⟨c, oc, rfl, hoc, hcc⟩
    · exact h3 f hm
theorem q_sortable {a : Addr} {vs : List Value} {k : Value → Qd} (hu : A.units + 64 < cLine) (h0 : 0 < vs.length) (hm : ∀ v ∈ vs, ∀ c ∈ (k v).1, PyData.strOk c = true) (hp : ∀ v ∈ vs, IsQ s.heap v (k v)) (ha : ∀ o, s.heap.get? a = some o → o.cls ≠ .type "tuple") :
    SrtO.SortableO prog w A s a vs fun v u => ltQ (k v) (k u) := by
  intro h' keep
  have hp' : ∀ v ∈ vs, IsQ h' v (k v) := fun v hm => (hp v hm).keeps fun b o e c => keep b o (fun z => by subst z; exact ha o e c) e
  obtain ⟨fs, h1, h2, h3⟩ := q_firsts hp'
  refine ⟨tuples' false, fun Q E hq => ?_, q_cmp hu hm hp'⟩
  refine PySem.W.kat_kind (T := .type "tuple") h1 (by omega) (fun f hf => ?_) (by rfl) ?_
  · obtain ⟨c, oc, rfl, hoc, hcc⟩ := h3 f hf
    rw [← hcc]
    exact (PySem.W.Looks.ld hoc).andThen PySem.W.Looks.now
  · have e : (Value.type "tuple" != Value.type "tuple") = false := by first | decide +kernel | rfl | decide
    rw [e]
    exact hq
end
section
variable {X : Cx}
/-- sorted(xs) of questions: a new list of the same ones, rising -/
def rSortedQ (K : PySem.W.Frag) : List V → Hp → VK → Prop := fun vs H Q => ∃ (a : Addr) (xs : List V) (k : V → Qd), vs = [V.ref a] ∧ SqL K H a xs ∧ (∀ x ∈ xs, ∃ t, x = V.ref t ∧ QAt H t (k x).1 (k x).2 ∧ ∀ c ∈ (k x).1, PyData.strOk c = true) ∧
  ∀ ys p, ys.Perm xs → (ys.map k).Pairwise (fun a b => ltQ b a = false) → H p = none → Q (.ref p) (upd H p (.lst ys))
theorem cr_sortedQ (hu : X.A.units + 80 < cLine) : CallR X (.builtin "sorted") (rSortedQ X.K) := by
  intro pins s σ H vs us Q I r h
  obtain ⟨a, xs, k, rfl, hs, hx, q⟩ := h
  obtain ⟨its, rv, hl, hz⟩ := I.list hs
  obtain ⟨u, rfl, ru⟩ := vals1 r
  obtain rfl : u = Value.ref a := ru
  obtain ⟨e1, e2⟩ := refs_back rv fun x m => by
    obtain ⟨t, e, _⟩ := hx x m
    exact ⟨t, e⟩
  have isq : ∀ v ∈ its, IsQ s.heap v (k (backV v)) ∧ ∀ c ∈ (k (backV v)).1, PyData.strOk c = true := fun v hv => by
    obtain ⟨t, rfl⟩ := e2 v hv
    have hmem : V.ref t ∈ xs := by rw [e1]; exact List.mem_map.mpr ⟨_, hv, rfl⟩
    obtain ⟨t', e, ⟨c, g1, g2⟩, g3⟩ := hx _ hmem
    cases e
    obtain ⟨_, i1, r1, o, ho, hc, n, hd⟩ := I.hok _ _ g1
    obtain ⟨_, i2, r2, oc, hoc, hcc, m, hdc⟩ := I.hok _ _ g2
    obtain ⟨u1, u2, rfl, ra, rb⟩ := vals2 r1
    obtain rfl : u1 = Value.ref c := ra
    obtain ⟨tk, rfl⟩ := rb
    exact ⟨⟨t, c, o, oc, tk, i2, n, m, rfl, ho, hc, hd, hoc, hcc, hdc, r2.strs⟩, g3⟩
  refine SrtO.sorted_ord (swo_q fun u => k (backV u)) hl.isList (by rw [← rv.length]; exact hz) (fun h2 h₁ b hb kk => ?_) fun out h1 h2 => ?_
  · refine q_sortable (s := { s with heap := h₁ }) (by show X.A.units + 1 + 1 + 64 < cLine; omega) (by omega) (fun v hv => (isq v hv).2) (fun v hv => (isq v hv).1.keeps fun c o e _ => (kk c o e).2) fun o e => ?_
    have e' : some o = some (seqObj "list" its.toArray 0) := e.symm.trans hb
    cases e'
    intro c
    exact absurd (Value.type.inj c) (by decide)
  · have h3 : ∀ u ∈ out, ∃ a, u = Value.ref a := fun u hu => e2 u (h2.perm.mem_iff.mp hu)
    obtain ⟨n, hn⟩ := sortedAll_at s.heap its out.toArray
    have hperm : (out.map backV).Perm xs := by
      rw [e1]
      exact h2.perm.map backV
    have hsrt : ((out.map backV).map k).Pairwise (fun a b => ltQ b a = false) := by
      rw [List.map_map]
      exact List.pairwise_map.mpr h1
    refine ⟨.ref (s.heap.objs.size + 1), upd H (s.heap.objs.size + 1) (.lst (out.map backV)), I.laid (t' := s.toks) (fun b o e => sortedAll_old e) (Nat.le_succ _) ⟨?_, out, n, vals_back h3, hn⟩, rfl, q _ _ hperm hsrt (I.hok.fresh (Nat.le_succ _))⟩
    rw [hperm.length_eq]
    exact hz
end
end Qk

set_option maxRecDepth 100000
set_option maxHeartbeats 4000000
namespace Qk
open PySem PySem.Spec PyProof.Rows L2 PySem.W

/-! ### enumerate of a tuple -/
set_option maxHeartbeats 1000000 in
theorem meets_enum1 {v : Value} {o : Obj} {H : Heap → Prop} (B : Begins v o H) :
    Meets (Builtin.«enumerate.__new__» ⟨[.type "enumerate", v], []⟩) (fun _ R s => H s.heap ∧
      R (.ok (.ret (.ref (s.heap.push o).objs.size))) { s with heap := (s.heap.push o).push { cls := .type "enumerate", data := .fields #[.none, .bool false, .ref s.heap.objs.size, rawInt 0, .none, .none] } }) :=
  .of_wp fun prog w A R s h => by
    obtain ⟨hp, g, d, tk, os⟩ := s
    obtain ⟨h1, h⟩ := h
    have hsub := sub_enumerate
    have q1 : ∀ {A' : Around} {E : Value → Shared → Prop} {Q : Value → Shared → Prop}, Q (.ref hp.objs.size) ⟨hp.push o, g, d, tk, os⟩ → wpAny (model prog w) A' (pyIter v) Q E ⟨hp, g, d, tk, os⟩ :=
      fun q => B.iter prog w _ _ ⟨hp, g, d, tk, os⟩ _ h1 q
    wp_walk using q1
    refine wpAny_stack_any fun st => wpAny_pure ?_
    split
    · rename_i c _ _ _ _ _
      cases (c == Value.type "enumerate")
      · wp_walk using q1
        exact ⟨_, rfl, h⟩
      · wp_walk using q1
        exact ⟨_, rfl, h⟩
    · wp_walk using q1
      exact ⟨_, rfl, h⟩
theorem call_enum1 {prog : Program} {w : World} {A : Around} {E : Value → Shared → Prop} {s : Shared} {v : Value} {o : Obj} {H : Heap → Prop} {Q : Value → Shared → Prop} (B : Begins v o H) (h1 : H s.heap)
    (h : ∀ h', IsEnum h' (s.heap.objs.size + 1) s.heap.objs.size 0 .none → h'.get? s.heap.objs.size = some o → (∀ b o, s.heap.get? b = some o → h'.get? b = some o) → Q (.ref (s.heap.objs.size + 1)) { s with heap := h' }) :
    wpAny (model prog w) A (call (.type "enumerate") [v]) Q E s := by
  refine callType_new F.called_enumerate (by decide) (F.typeCall_enumerate_1 _) (F.newCall_enumerate_1 _) (fun obj => F.args_object_init_2 obj _) F.entry_enumerate_new (meets_enum1 B) ⟨h1, ?_⟩
  have hz : (s.heap.push o).objs.size = s.heap.objs.size + 1 := Heap.size_push ..
  show _ ∧ _
  rw [hz]
  have he : IsEnum ((s.heap.push o).push { cls := .type "enumerate", data := .fields #[.none, .bool false, .ref s.heap.objs.size, rawInt 0, .none, .none] }) (s.heap.objs.size + 1) s.heap.objs.size 0 .none := by
    have q := Heap.get?_push_size (s.heap.push o) (o := { cls := .type "enumerate", data := .fields #[.none, .bool false, .ref s.heap.objs.size, rawInt 0, .none, .none] }) rfl
    rw [hz] at q
    exact q
  exact ⟨⟨_, he, rfl⟩, h _ he (Heap.get?_push_of_some _ (Heap.get?_push_size _ B.free)) fun b u x => Heap.get?_push_of_some _ (Heap.get?_push_of_some _ x)⟩
/-- the tuple at a, each item in a new pair -/
def IteT (K : PySem.W.Frag) (a : Addr) : It :=
  ⟨fun i H => ∃ (xs : List V) (x : V), SqT K H a xs ∧ xs[i]? = some x, fun i H v H' => ∃ T x, v = .ref T ∧ H T = none ∧ H' = upd H T (.tup [.int (i : Nat), x]) ∧ ∀ xs, SqT K H a xs → xs[i]? = some x, fun i H => ∃ xs : List V, SqT K H a xs ∧ xs.length = i⟩
theorem turn_enumT {P : Program} {w : World} {K : PySem.W.Frag} {elts : List Expr} {kk : Nat} {tpos : Pos} (a e it : Addr) :
    Turn P w K (.Tuple elts kk tpos) (IteT K a) [e, it] e (fun i h => (∃ old, IsEnum h e it ((i : Nat) : Int) old) ∧ h.IsTupleIter it a i ∧ e ≠ it ∧ a ≠ it ∧ a ≠ e) where
  mem := by simp
  obj := fun i h st b hb => by
    obtain ⟨⟨old, he⟩, ⟨o, ho, hc, hd⟩, _⟩ := st
    have e' : b = e ∨ b = it := by simpa using hb
    rcases e' with z | z
    · rw [z]; exact ⟨_, he, fun v q => nomatch q⟩
    · rw [z]; exact ⟨o, ho, fun v q => by rw [hd] at q; cases q⟩
  keep := fun i h h' st k => let ⟨⟨old, he⟩, hi, hne⟩ := st; ⟨⟨old, k e (by simp) _ he⟩, hi.at fun o q => k it (by simp) o q, hne⟩
  item := by
    intro X hP hw hK hc i pins s σ H E I hf st hg
    subst hP hw hK
    obtain ⟨⟨old, he⟩, hit, hne, hai, hae⟩ := st
    obtain ⟨xs, x, hq, hx⟩ := hg
    obtain ⟨its, rv, p, hz⟩ := I.tuple hq
    obtain ⟨u, hu, ru⟩ := rv.get hx
    have hel : e < s.heap.objs.size := Heap.lt_size he
    have hil : it < s.heap.objs.size := by obtain ⟨_, q, _⟩ := hit; exact Heap.lt_size q
    have hT0 : s.heap.IsTuple a its.toArray := p
    have hlt : i < its.toArray.size := by
      have := (List.getElem?_eq_some_iff.mp hu).1
      simpa using this
    refine wpAny_pyNext_enum_itemD (Draws.tuple (A := X.A.in1) (I.ok.hd hc) it a hai its.toArray) he ⟨hit, hT0⟩ hlt hne (by simp [Ne.symm hae, hne]) fun y h' tk hy ho hst hT hsz hk => ?_
    have hyu : y = u := by
      have h1 : its.toArray[i]? = some y := hy
      rw [List.getElem?_toArray, hu] at h1
      exact (Option.some.inj h1).symm
    subst hyu
    obtain ⟨hit', _⟩ := hst
    refine ⟨_, rfl, wpAny_letOwnedTupleGo_enum (s := { s with heap := h', toks := tk + 1 }) ho fun h'' he' sb => ?_⟩
    have hT2 : h''.get? s.heap.objs.size = some { cls := .type "tuple", data := .seq #[.int i tk, y] } := (sb.2 _ (Nat.ne_of_gt hel)).trans hT
    have new : ObjOk X.prog X.w (upd H s.heap.objs.size (.tup [.int (i : Nat), x])) h'' s.heap.objs.size (.tup [.int (i : Nat), x]) :=
      ⟨by show 2 ≤ sizeLine; decide, [.int i tk, y], .cons ⟨_, rfl⟩ (.cons ru .nil), ⟨_, hT2, rfl, _, rfl⟩⟩
    have I1 : Inv X pins σ (upd H s.heap.objs.size (.tup [.int (i : Nat), x])) { s with heap := h'', toks := tk + 1 } :=
      I.turnedNew (ch := [e, it]) (fun b ob hb q => (sb.2 b (fun z => hb (by simp [z]))).trans (hk b ob (fun z => hb (by simp [z])) (fun z => hb (by simp [z])) q)) hf (Nat.le_refl _) new
    refine ⟨.ref s.heap.objs.size, _, I1, rfl, ⟨_, x, rfl, I.hok.fresh (Nat.le_refl _), rfl, fun ys hy => by rw [I.tuple_inj hy hq]; exact hx⟩, ⟨⟨y, ?_⟩, hit'.at fun o q => (sb.2 it (Ne.symm hne)).trans q, hne, hai, hae⟩, fun b hb => ?_⟩
    · have e1 : ((i + 1 : Nat) : Int) = (i : Int) + 1 := by omega
      rw [e1]; exact he'
    · have hb' : b < s.heap.objs.size := by
        have e' : b = e ∨ b = it := by simpa using hb
        rcases e' with z | z
        · rw [z]; exact hel
        · rw [z]; exact hil
      rw [upd_ne (Nat.ne_of_lt hb')]
      exact (hf b hb).1
  done := by
    intro X hP hw hK hc i pins s σ H E I hf st hg
    subst hP hw hK
    obtain ⟨⟨old, he⟩, hit, hne, hai, hae⟩ := st
    obtain ⟨xs, hq, hx⟩ := hg
    obtain ⟨its, rv, p, hz⟩ := I.tuple hq
    obtain ⟨f0, f1, f2, f3, f4, f5⟩ := hf it (by simp)
    have hT0 : s.heap.IsTuple a its.toArray := p
    have hi : i = its.toArray.size := by
      rw [List.size_toArray, ← rv.length]
      exact hx.symm
    subst hi
    exact wpAny_pyNext_enum_endD (Draws.tuple (A := X.A.in1) (I.ok.hd hc) it a hai its.toArray) he ⟨hit, hT0⟩ fun h' eb => ⟨rfl, I.turned (t' := s.toks) (fun b o hb q => eb b o hb q) f0 f1 f3 f4 f5⟩
  self := fun A i s Q E st h => let ⟨⟨_, he⟩, _⟩ := st; wpAny_pyIter_enum he h
def iEnumT (K : PySem.W.Frag) (ta : TA) : TI := fun σ H R => ta σ H fun vs H1 => ∃ a xs, vs = [.ref a] ∧ SqT K H1 a xs ∧ R (IteT K a) H1
theorem pi_enumT {X : Cx} {e : Expr} {ta : TA} {p pos tpos : Pos} {elts : List Expr} {kk : Nat} (hg : Gl X "enumerate") (hm : X.mg "enumerate" = none) (ha : PA X [e] ta) (hs : starEach [e] X.env = [(false, eval e X.env)] := by rfl) :
    PI X (.Tuple elts kk tpos) (.Call (.Name "enumerate" p) [e] [] pos) (iEnumT X.K ta) := by
  refine ⟨fun pins s σ H R I h => ?_⟩
  refine Call_ (ld_blt I hg hm boot_enumerate (PyProof.Rows.callWith_type1 (thn (ha.run pos pins s σ H _ I h) fun us s1 ⟨vs, H1, I1, r1, q1⟩ => ?_) hs rfl))
  obtain ⟨a, xs, ex, hq, q⟩ := q1
  subst ex
  cases r1 with
  | cons r rr =>
    cases rr
    cases r
    obtain ⟨its, rv, p', hz⟩ := I1.tuple hq
    have al : a < s1.heap.objs.size := p'.lt
    refine call_enum1 (begins_tuple a its.toArray) p' fun h' he hit hk => wpAny_pyIter_enum he ?_
    have I2 : Inv X pins σ H1 { s1 with heap := h' } := I1.kept (t' := s1.toks) hk
    refine ⟨s1.heap.objs.size + 1, [s1.heap.objs.size + 1, s1.heap.objs.size], _, _, H1, rfl, I2, turn_enumT a (s1.heap.objs.size + 1) s1.heap.objs.size, ⟨⟨.none, he⟩, ⟨_, hit, rfl, rfl⟩, Nat.succ_ne_self _, Nat.ne_of_lt al, Nat.ne_of_lt (Nat.lt_succ_of_lt al)⟩, fun b hb => ?_, q⟩
    have e' : b = s1.heap.objs.size + 1 ∨ b = s1.heap.objs.size := by simpa using hb
    have hle : s1.heap.objs.size ≤ b := by
      rcases e' with z | z
      · rw [z]; exact Nat.le_add_right _ _
      · rw [z]; exact Nat.le_refl _
    exact I1.fpOk hle (I1.hok.fresh hle)
/-- for i, x in enumerate(t): a word of the turn, the slots, the heap -/
theorem for_enumT {K : PySem.W.Frag} {a : Addr} {xs : List V} {g : TG} {tb : TS} {D : Ends} {σ : L2.St} {H : Hp} (Pv : Nat → L2.St → Hp → Prop) (h0 : Pv 0 σ H) (hl : ∀ i σ H, i ≤ xs.length → Pv i σ H → SqT K H a xs)
    (hs : ∀ i x σ H, xs[i]? = some x → Pv i σ H → ∀ T, H T = none → g (.ref T) σ (upd H T (.tup [.int (i : Nat), x])) fun σ2 H2 => tb { D with nx := Pv (i + 1), ct := Pv (i + 1), bk := D.nx } σ2 H2) (hd : ∀ σ H, Pv xs.length σ H → D.nx σ H) :
    ∃ W : Nat → Nat → L2.St → Hp → Prop, (∃ m, W 0 m σ H) ∧ ∀ i m σ H, W i m σ H →
      ((IteT K a).stop i H ∧ D.nx σ H) ∨ ((IteT K a).go i H ∧ ∃ N : L2.St → Hp → Prop, (∀ σ' H', N σ' H' → ∃ m', m' < m ∧ W (i + 1) m' σ' H') ∧ ∀ x H', (IteT K a).yld i H x H' → g x σ H' fun σ2 H2 => tb { D with nx := N, ct := N, bk := D.nx } σ2 H2) := by
  refine ⟨fun i m σ H => m = xs.length - i ∧ i ≤ xs.length ∧ Pv i σ H, ⟨xs.length, by simp, Nat.zero_le _, h0⟩, ?_⟩
  rintro i m σ H ⟨rfl, hi, p⟩
  have q := hl i σ H hi p
  rcases Nat.lt_or_ge i xs.length with hlt | hge
  · have hx : xs[i]? = some xs[i] := List.getElem?_eq_getElem hlt
    refine .inr ⟨⟨xs, xs[i], q, hx⟩, Pv (i + 1), fun σ' H' p' => ⟨xs.length - (i + 1), by omega, rfl, hlt, p'⟩, fun x H' y => ?_⟩
    obtain ⟨T, z, rfl, hT, rfl, hz⟩ := y
    have e := hz xs q
    exact hs i z σ H e p T hT
  · have e : i = xs.length := by omega
    subst e
    exact .inl ⟨⟨xs, q, rfl⟩, hd σ H p⟩
end Qk

set_option maxRecDepth 100000
set_option maxHeartbeats 4000000
namespace Qk
open PySem PySem.Spec PyProof.Rows L2

/-! the sorted list of some texts -/
instance (a b : Str) : Decidable (leS a b) := by unfold leS; infer_instance
def srt (xs : List Str) : List Str := xs.mergeSort (fun a b => decide (leS a b))
theorem leS_total (a b : Str) : leS a b ∨ leS b a := by
  unfold leS
  rw [ltCps_eq, ltCps_eq]
  by_cases h : b.cps.toList < a.cps.toList
  · right
    refine decide_eq_false fun h2 => List.lt_irrefl _ (List.lt_trans h h2)
  · left
    exact decide_eq_false h
theorem srt_perm (xs : List Str) : (srt xs).Perm xs := List.mergeSort_perm _ _
theorem srt_pw (xs : List Str) : (srt xs).Pairwise leS := by
  have h := List.pairwise_mergeSort (le := fun a b => decide (leS a b)) (fun a b c h1 h2 => decide_eq_true (leS_trans (of_decide_eq_true h1) (of_decide_eq_true h2)))
    (fun a b => by
      rcases leS_total a b with h | h
      · simp [h]
      · simp [h]) xs
  exact h.imp fun h => of_decide_eq_true h
theorem srt_eq {ws xs : List Str} (h : ws.Perm xs) (hs : sortedS ws = true) : ws = srt xs := perm_sorted (h.trans (srt_perm xs).symm) (sortedS_pw hs) (srt_pw xs)
theorem srt_len (xs : List Str) : (srt xs).length = xs.length := (srt_perm xs).length_eq

/-! all questions that an index serves, as the index is walked -/
def qPair (ix : List Str) (j : Nat) : List Qd := [(srt (ix.take j), ix.getD j ""), (srt (ix.take (j + 1)), "")]
def allQ (ix : List Str) (n : Nat) : List Qd := (List.range n).flatMap (qPair ix)
theorem allQ_zero (ix : List Str) : allQ ix 0 = [] := rfl
theorem allQ_succ (ix : List Str) (n : Nat) : allQ ix (n + 1) = allQ ix n ++ qPair ix n := by
  unfold allQ
  rw [List.range_succ, List.flatMap_append]
  simp
theorem allQ_len (ix : List Str) : ∀ n, (allQ ix n).length = 2 * n
  | 0 => rfl
  | n + 1 => by
    rw [allQ_succ, List.length_append, allQ_len ix n]
    show 2 * n + 2 = _
    omega
theorem mem_allQ {ix : List Str} {n : Nat} {q : Qd} : q ∈ allQ ix n ↔ ∃ j, j < n ∧ (q = (srt (ix.take j), ix.getD j "") ∨ q = ((srt (ix.take (j + 1)), ("" : Str)) : Qd)) := by
  unfold allQ
  rw [List.mem_flatMap]
  constructor
  · rintro ⟨j, hj, h⟩
    refine ⟨j, List.mem_range.mp hj, ?_⟩
    simpa [qPair] using h
  · rintro ⟨j, hj, h⟩
    refine ⟨j, List.mem_range.mpr hj, ?_⟩
    simpa [qPair] using h
/-- a question is among them just if the index serves it -/
theorem allQ_serves {ix cols : List Str} {e : Str} (R : Row ix) (hc : cols.Nodup) (hs : sortedS cols = true) (hne : e = "" → cols ≠ []) : (cols, e) ∈ allQ ix ix.length ↔ fault ix cols e = none := by
  have hp := srt_perm (ix.take cols.length)
  have key : fault ix cols e = none ↔ srt (ix.take cols.length) = cols ∧ (e = "" ∨ ix[cols.length]? = some e) := by
    constructor
    · intro h
      have good := h
      unfold fault at good
      -- through the sorted list itself
      have e1 : ∃ ws : List Str, ws.Perm (ix.take cols.length) ∧ sortedS ws = true := by
        refine ⟨srt (ix.take cols.length), hp, sortedS_of_pairwise _ (srt_pw _)⟩
      obtain ⟨ws, w1, w2⟩ := e1
      have := (fault_none (last := e) R.nd hc hs w1 w2).mp h
      rw [← srt_eq w1 w2]
      exact this
    · rintro ⟨h1, h2⟩
      exact (fault_none (last := e) R.nd hc hs hp (sortedS_of_pairwise _ (srt_pw _))).mpr ⟨h1, h2⟩
  rw [mem_allQ, key]
  have getD_at : ∀ j, j < ix.length → ix[j]? = some (ix.getD j "") := fun j hj => by
    rw [List.getD_eq_getElem?_getD, List.getElem?_eq_getElem hj]
    rfl
  constructor
  · rintro ⟨j, hj, h | h⟩
    · injection h with h1 h2
      have hl : cols.length = j := by rw [h1, srt_len, List.length_take]; omega
      rw [hl]
      exact ⟨h1.symm, .inr (by rw [h2]; exact getD_at j hj)⟩
    · injection h with h1 h2
      have hl : cols.length = j + 1 := by rw [h1, srt_len, List.length_take]; omega
      rw [hl]
      exact ⟨h1.symm, .inl h2⟩
  · rintro ⟨h1, h2⟩
    have hl : cols.length ≤ ix.length := by
      have := congrArg List.length h1
      rw [srt_len, List.length_take] at this
      omega
    by_cases he : e = ""
    · have hpos : cols.length ≠ 0 := fun z => hne he (List.eq_nil_of_length_eq_zero z)
      refine ⟨cols.length - 1, by omega, .inr ?_⟩
      have e1 : cols.length - 1 + 1 = cols.length := by omega
      rw [e1, h1, he]
    · have h3 := h2.resolve_left he
      have hlt : cols.length < ix.length := (List.getElem?_eq_some_iff.mp h3).1
      refine ⟨cols.length, hlt, .inl ?_⟩
      rw [h1]
      have := getD_at _ hlt
      rw [h3] at this
      rw [← Option.some.inj this]

/-! lists of questions as they stand -/
def QL (H : Hp) (xs : List V) (qs : List Qd) : Prop := Paired (fun (x : V) (q : Qd) => ∃ t, x = .ref t ∧ QAt H t q.1 q.2) xs qs
theorem QL.len {H : Hp} {xs : List V} {qs : List Qd} (h : QL H xs qs) : xs.length = qs.length := Paired.length h
theorem QL.same {H H' : Hp} {xs : List V} {qs : List Qd} (s : Same H H') (h : QL H xs qs) : QL H' xs qs := Paired.mapP h fun x q ⟨t, e, z⟩ => ⟨t, e, z.same s⟩
theorem QL.kp {H H' : Hp} {b l : Addr} {xs : List V} {qs : List Qd} (B : Bag H b l) (s : Kp b H H') (h : QL H xs qs) : QL H' xs qs := Paired.mapP h fun x q ⟨t, e, z⟩ => ⟨t, e, z.kp B s⟩
theorem paired_app {α β : Type} {F : α → β → Prop} : ∀ {xs xs' : List α} {ys ys' : List β}, Paired F xs ys → Paired F xs' ys' → Paired F (xs ++ xs') (ys ++ ys')
  | _, _, _, _, .nil, h => h
  | _, _, _, _, .cons r t, h => .cons r (paired_app t h)
theorem QAt.uniq {H : Hp} {t : Addr} {c1 c2 : List Str} {e1 e2 : Str} (h1 : QAt H t c1 e1) (h2 : QAt H t c2 e2) : (c1, e1) = (c2, e2) := by
  obtain ⟨a, x1, x2⟩ := h1
  obtain ⟨b, y1, y2⟩ := h2
  rw [x1] at y1
  injection y1 with y1
  injection y1 with y1
  injection y1 with y1 y3
  injection y3 with y3 _
  injection y1 with y1
  injection y3 with y3
  subst y1
  rw [x2] at y2
  injection y2 with y2
  injection y2 with y2
  have : c1 = c2 := by
    have inj : ∀ {l m : List Str}, l.map V.str = m.map V.str → l = m := fun {l m} h => by
      induction l generalizing m with
      | nil => cases m with
        | nil => rfl
        | cons _ _ => cases h
      | cons x l ih => cases m with
        | nil => cases h
        | cons y m =>
          rw [List.map_cons, List.map_cons] at h
          injection h with h h'
          injection h with h
          rw [h, ih h']
    exact inj y2
  rw [this, y3]
open Classical in
noncomputable def keyQ (H : Hp) (x : V) : Qd := if h : ∃ q : Qd, ∃ t, x = .ref t ∧ QAt H t q.1 q.2 then h.choose else ([], "")
theorem keyQ_at {H : Hp} {t : Addr} {q : Qd} (h : QAt H t q.1 q.2) : keyQ H (.ref t) = q := by
  have ex : ∃ q : Qd, ∃ t', V.ref t = .ref t' ∧ QAt H t' q.1 q.2 := ⟨q, t, rfl, h⟩
  unfold keyQ
  rw [dif_pos ex]
  obtain ⟨t', e, z⟩ := ex.choose_spec
  injection e with e
  subst e
  exact z.uniq h
theorem QL.keys {H : Hp} : ∀ {xs : List V} {qs : List Qd}, QL H xs qs → xs.map (keyQ H) = qs
  | _, _, .nil => rfl
  | _, _, .cons ⟨t, e, z⟩ r => by
    subst e
    rw [List.map_cons, keyQ_at z, QL.keys r]
theorem QL.of_keys {H : Hp} : ∀ {xs : List V}, (∀ x ∈ xs, ∃ (t : Addr) (q : Qd), x = V.ref t ∧ QAt H t q.1 q.2) → QL H xs (xs.map (keyQ H))
  | [], _ => .nil
  | x :: xs, h => by
    obtain ⟨t, q, e, z⟩ := h x List.mem_cons_self
    subst e
    rw [List.map_cons, keyQ_at z]
    exact .cons ⟨t, rfl, z⟩ (QL.of_keys fun y hy => h y (List.mem_cons_of_mem _ hy))
theorem QL.mem {H : Hp} : ∀ {xs : List V} {qs : List Qd}, QL H xs qs → ∀ x ∈ xs, ∃ (t : Addr) (q : Qd), x = V.ref t ∧ QAt H t q.1 q.2 ∧ q ∈ qs
  | _, _, .nil, x, hx => by cases hx
  | _, _, .cons ⟨t, e, z⟩ r, x, hx => by
    rcases List.mem_cons.mp hx with rfl | hx
    · exact ⟨t, _, e, z, List.mem_cons_self⟩
    · obtain ⟨t', q', a, b, c⟩ := QL.mem r x hx
      exact ⟨t', q', a, b, List.mem_cons_of_mem _ c⟩
/-- no question stands behind a greater one -/
def rising (qs : List Qd) : Prop := qs.Pairwise (fun a b => ltQ b a = false)
def rSortedQL (K : PySem.W.Frag) : List V → Hp → VK → Prop := fun vs H Q => ∃ (a : Addr) (xs : List V) (qs : List Qd), vs = [V.ref a] ∧ SqL K H a xs ∧ QL H xs qs ∧ (∀ q ∈ qs, ∀ c ∈ q.1, PyData.strOk c = true) ∧
  ∀ (ys : List V) (rs : List Qd) (p : Addr), QL H ys rs → rs.Perm qs → rising rs → H p = none → Q (.ref p) (upd H p (.lst ys))
theorem cr_sortedQL {X : Cx} (hu : X.A.units + 80 < cLine) : CallR X (.builtin "sorted") (rSortedQL X.K) := by
  intro pins s σ H vs us Q I r h
  obtain ⟨a, xs, qs, rfl, hs, hq, hok, q⟩ := h
  refine cr_sortedQ hu pins s σ H _ us Q I r ⟨a, xs, keyQ H, rfl, hs, fun x hx => ?_, fun ys p hp hr hn => ?_⟩
  · obtain ⟨t, z, e, at_, hm⟩ := hq.mem x hx
    subst e
    rw [keyQ_at at_]
    exact ⟨t, rfl, at_, hok z hm⟩
  · refine q ys (ys.map (keyQ H)) p (QL.of_keys fun y hy => ?_) ?_ hr hn
    · obtain ⟨t, z, e, at_, _⟩ := hq.mem y (hp.mem_iff.mp hy)
      exact ⟨t, z, e, at_⟩
    · rw [← hq.keys]
      exact hp.map _
/-! .. as data -/
def dq (q : Qd) : PyData := dQ q.1 q.2
theorem QL.dp {K : PySem.W.Frag} {H : Hp} : ∀ {xs : List V} {qs : List Qd}, QL H xs qs → DpAll K H xs (qs.map dq)
  | _, _, .nil => .nil
  | _, _, .cons ⟨t, e, z⟩ r => by
    subst e
    exact .cons (dp_q z) (QL.dp r)
structure Qfine (q : Qd) : Prop where
  c : ∀ c ∈ q.1, okS c = true
  e : okS q.2 = true
  l : q.1.length ≤ 12
theorem okS_empty : okS "" = true := by decide +kernel
theorem fine_q {q : Qd} (h : Qfine q) : fine (dq q) = true := by
  show (fine (.tuple (q.1.map PyData.str)) && (fine (.str q.2) && true)) = true
  rw [Bool.and_true, Bool.and_eq_true]
  exact ⟨fine_strs h.c, h.e⟩
theorem cost_q {q : Qd} (h : Qfine q) : cost (dq q) ≤ 3000 := by
  have hl := h.l
  show costAll (q.1.map PyData.str) + 3 + 2 + (210 + 2 + 0) + 3 ≤ 3000
  rw [cost_strs]
  omega
theorem depth_q (q : Qd) : (dq q).depth = 2 := by
  show max (PyData.depthAll (q.1.map PyData.str) + 1) (max 0 0) + 1 = 2
  rw [depth_strs]
  rfl
theorem fine_qs : ∀ {qs : List Qd}, (∀ q ∈ qs, Qfine q) → fineAll (qs.map dq) = true
  | [], _ => rfl
  | q :: qs, h => by
    show (fine (dq q) && fineAll (qs.map dq)) = true
    rw [fine_qs fun q hq => h q (List.mem_cons_of_mem _ hq), Bool.and_true]
    exact fine_q (h q List.mem_cons_self)
theorem cost_qs : ∀ {qs : List Qd}, (∀ q ∈ qs, Qfine q) → costAll (qs.map dq) ≤ 3002 * qs.length
  | [], _ => Nat.le_refl 0
  | q :: qs, h => by
    have h1 := cost_q (h q List.mem_cons_self)
    have h2 := cost_qs fun q hq => h q (List.mem_cons_of_mem _ hq)
    show cost (dq q) + 2 + costAll (qs.map dq) ≤ _
    rw [List.length_cons]
    omega
theorem depth_qs : ∀ (qs : List Qd), PyData.depthAll (qs.map dq) ≤ 2
  | [] => Nat.zero_le _
  | q :: qs => by
    show max (dq q).depth (PyData.depthAll (qs.map dq)) ≤ 2
    rw [depth_q]
    exact Nat.max_le.mpr ⟨Nat.le_refl 2, depth_qs qs⟩
theorem dok_q {q : Qd} (h : Qfine q) : DOk (dq q) := ⟨fine_q h, by rw [depth_q]; decide, Nat.le_trans (cost_q h) (by decide)⟩
theorem dok_qs {qs : List Qd} (h : ∀ q ∈ qs, Qfine q) (hl : qs.length ≤ 100) : DOk (.list (qs.map dq)) :=
  ⟨fine_qs h, by show PyData.depthAll _ + 1 ≤ 50; have := depth_qs qs; omega, by show costAll _ + 3 ≤ _; have := cost_qs h; omega⟩
theorem eqv_q (p q : Qd) : PyData.eqv (dq p) (dq q) = decide (p = q) := by
  show PyData.eqv (.tuple [.tuple (p.1.map PyData.str), .str p.2]) (.tuple [.tuple (q.1.map PyData.str), .str q.2]) = _
  have e0 : PyData.eqv (.tuple (p.1.map PyData.str)) (.tuple (q.1.map PyData.str)) = decide (p.1 = q.1) := by rw [PyData.eqv, eqv_strs]
  rw [PyData.eqv, PyData.eqvAll, PyData.eqvAll, PyData.eqvAll, e0, PyData.eqv, Bool.and_true]
  by_cases h1 : p.1 = q.1
  · by_cases h2 : p.2 = q.2
    · rw [decide_eq_true h1, decide_eq_true (Prod.ext h1 h2), h2, beq_self_eq_true]
      rfl
    · rw [decide_eq_true h1, decide_eq_false (fun e => h2 (by rw [e]))]
      rw [beq_eq_false_iff_ne.mpr h2]
      rfl
  · rw [decide_eq_false h1, decide_eq_false (fun e => h1 (by rw [e]))]
    rfl
theorem any_q (q : Qd) (qs : List Qd) : ((qs.map dq).any fun z => PyData.eqv z (dq q)) = decide (q ∈ qs) := by
  rw [List.any_map]
  by_cases h : q ∈ qs
  · rw [decide_eq_true h]
    exact List.any_eq_true.mpr ⟨q, h, by show PyData.eqv (dq q) (dq q) = true; rw [eqv_q]; exact decide_eq_true rfl⟩
  · rw [decide_eq_false h]
    refine List.any_eq_false.mpr fun y hy e => h ?_
    have e' : PyData.eqv (dq y) (dq q) = true := e
    rw [eqv_q] at e'
    rw [← of_decide_eq_true e']
    exact hy
theorem allQ_fine {ix : List Str} (R : Row ix) {n : Nat} (hn : n ≤ ix.length) : ∀ q ∈ allQ ix n, Qfine q := by
  intro q hq
  obtain ⟨j, hj, h | h⟩ := mem_allQ.mp hq
  · subst h
    refine ⟨fun c hc => menu_okS _ (R.sub _ ((List.take_sublist _ _).mem ((srt_perm _).mem_iff.mp hc))), ?_, by show (srt _).length ≤ 12; rw [srt_len, List.length_take]; have := R.le; omega⟩
    show okS (ix.getD j "") = true
    rw [List.getD_eq_getElem?_getD, List.getElem?_eq_getElem (show j < ix.length by omega)]
    exact menu_okS _ (R.sub _ (List.getElem_mem _))
  · subst h
    exact ⟨fun c hc => menu_okS _ (R.sub _ ((List.take_sublist _ _).mem ((srt_perm _).mem_iff.mp hc))), okS_empty, by show (srt _).length ≤ 12; rw [srt_len, List.length_take]; have := R.le; omega⟩
theorem okS_strOk {c : Str} (h : okS c = true) : PyData.strOk c = true := by
  unfold okS at h
  rw [Bool.and_eq_true] at h
  exact h.1
theorem QM.fine {cols : List Str} {e : Str} (h : QM cols e) : Qfine (cols, e) :=
  ⟨fun c hc => menu_okS _ (h.sub c hc), by rcases h.esub with z | z
                                           · show okS e = true
                                             rw [z]
                                             exact okS_empty
                                           · exact menu_okS _ z, h.le⟩
/-! promises -/
def spQof : Sp := fun vs H Q _ => ∃ (t : Addr) (ix : List Str), vs = [.ref t] ∧ H t = some (.tup (ix.map V.str)) ∧ Row ix ∧
  ∀ (ys : List V) (rs : List Qd) (p : Addr) (H' : Hp), Same H H' → H p = none → H' p = some (.lst ys) → QL H' ys rs → rs.Perm (allQ ix ix.length) → rising rs → Q (.ref p) H'
def spServedBy : Sp := fun vs H Q _ => ∃ (t : Addr) (ix : List Str), vs = [.ref t] ∧ H t = some (.tup (ix.map V.str)) ∧ Row ix ∧
  ∀ (ys : List V) (p : Addr) (H' : Hp), Same H H' → H p = none → H' p = some (.lst ys) → QL H' ys (allQ ix ix.length) → Q (.ref p) H'
theorem rising_uniq {xs ys zs : List Qd} (h1 : xs.Perm zs) (h2 : ys.Perm zs) (r1 : rising xs) (r2 : rising ys) : xs = ys := perm_ltQ (h1.trans h2.symm) r1 r2
end Qk

set_option maxRecDepth 100000
set_option maxHeartbeats 4000000
namespace Qk
open PySem PySem.Spec PyProof.Rows L2

/-! ### a set's table laid anew: small tables have room for what is laid -/
def MaskS (m : Nat) : Prop := m = 7 ∨ m = 15 ∨ m = 31
theorem lcg_all15 : ((List.range 16).all fun j => (List.range 16).any fun b => lcgN 15 b == j) = true := by decide +kernel
theorem lcgS_all {m : Nat} (hm : MaskS m) {j : Nat} (hj : j ≤ m) : ∃ b, b ≤ m ∧ lcgN m b = j := by
  have key : ∀ n : Nat, ((List.range (n + 1)).all fun j => (List.range (n + 1)).any fun b => lcgN n b == j) = true → ∀ j, j ≤ n → ∃ b, b ≤ n ∧ lcgN n b = j := by
    intro n h j hj
    have h1 := List.all_eq_true.mp h j (List.mem_range.mpr (Nat.lt_succ_of_le hj))
    obtain ⟨b, hb, e⟩ := List.any_eq_true.mp h1
    exact ⟨b, Nat.le_of_lt_succ (List.mem_range.mp hb), beq_iff_eq.mp e⟩
  rcases hm with e | e | e
  · subst e; exact key 7 lcg_all7 j hj
  · subst e; exact key 15 lcg_all15 j hj
  · subst e; exact key 31 lcg_all31 j hj
theorem lcgS_round {m : Nat} (hm : MaskS m) : lcgN m (m + 1) = 0 := by
  rcases hm with e | e | e
  · subst e; decide +kernel
  · subst e; decide +kernel
  · subst e; decide +kernel
theorem lcgS_mod {m : Nat} (hm : MaskS m) : ∀ k, lcgN m (m + 1 + k) = lcgN m k
  | 0 => lcgS_round hm
  | k + 1 => by
    show (lcgN m (m + 1 + k) * 5 + 1) % (m + 1) = (lcgN m k * 5 + 1) % (m + 1)
    rw [lcgS_mod hm k]
theorem lcgSI_all {m : Nat} (hm : MaskS m) {i j : Nat} (hi : i ≤ m) (hj : j ≤ m) : ∃ k, k ≤ m ∧ lcgI m i k = j := by
  obtain ⟨a, ha, ea⟩ := lcgS_all hm hi
  obtain ⟨b, hb, eb⟩ := lcgS_all hm hj
  rw [← ea]
  rcases Nat.lt_or_ge b a with c | c
  · refine ⟨b + (m + 1) - a, by omega, ?_⟩
    rw [lcgN_add]
    have e : a + (b + (m + 1) - a) = m + 1 + b := by omega
    rw [e, lcgS_mod hm, eb]
  · refine ⟨b - a, by omega, ?_⟩
    rw [lcgN_add]
    have e : a + (b - a) = b := by omega
    rw [e, eb]
theorem runS_meets {m : Nat} (hm : MaskS m) (h : Int) {j : Nat} (hj : j ≤ m) : ∃ n, n ≤ m + 12 ∧ runI m (SetTable.bits h) n = j := by
  obtain ⟨k, hk, e⟩ := lcgSI_all hm (runI_le m (SetTable.bits h) 12) hj
  exact ⟨12 + k, by omega, by rw [runI_tail (bits_lt h)]; exact e⟩
/-- the search for a free slot -/
theorem free_go (owner : Array (Option Nat)) (m b : Nat) : ∀ f n, (∃ n', n ≤ n' ∧ n' < n + f ∧ (owner.getD (runI m b n') (some 0)).isNone = true) →
    ∃ j, SetTable.layClean.free m owner f (runI m b n) (b / 32 ^ n) = some j ∧ (owner.getD j (some 0)).isNone = true
  | 0, n, ⟨n', h1, h2, _⟩ => absurd h2 (by omega)
  | f + 1, n, ⟨n', h1, h2, h3⟩ => by
    unfold SetTable.layClean.free
    split
    · rename_i k hk
      exact ⟨_, rfl, by simpa using List.find?_some hk⟩
    · rename_i hk
      have hr := runEnd_bd (runI_le m b n)
      have h0 : ¬ (owner.getD (runI m b n) (some 0)).isNone = true := by
        have := List.find?_eq_none.mp hk 0 (List.mem_range.mpr (by omega))
        simpa using this
      have hne : n' ≠ n := fun e => h0 (by rw [← e]; exact h3)
      have ih := free_go owner m b f (n + 1) ⟨n', by omega, by omega, h3⟩
      have e1 : SetTable.leap m (runI m b n) (b / 32 ^ n) = (runI m b (n + 1), b / 32 ^ (n + 1)) := by
        show ((runI m b n * 5 + 1 + b / 32 ^ n / 32) % (m + 1), b / 32 ^ n / 32) = _
        rw [pow_div]
        rfl
      rw [e1]
      exact ih
theorem free_at {m : Nat} (hm : MaskS m) {owner : Array (Option Nat)} (hz : owner.size = m + 1) {j : Nat} (hj : owner.toList[j]? = some none) (h : Int) :
    ∃ j', SetTable.layClean.free m owner (SetTable.turns m) (SetTable.bits h % (m + 1)) (SetTable.bits h) = some j' ∧ owner.toList[j']? = some none := by
  have hjl : j < owner.size := by
    have := (List.getElem?_eq_some_iff.mp hj).1
    rwa [Array.length_toList] at this
  obtain ⟨n, hn, e⟩ := runS_meets hm h (j := j) (by omega)
  have hg : ∀ i, (owner.getD i (some 0)).isNone = true ↔ owner.toList[i]? = some none := fun i => by
    rw [Array.getElem?_toList]
    unfold Array.getD
    by_cases hi : i < owner.size
    · rw [dif_pos hi, Array.getElem?_eq_getElem hi]
      show (owner[i]).isNone = true ↔ some owner[i] = some none
      cases owner[i] <;> simp
    · rw [dif_neg hi, Array.getElem?_eq_none (by omega)]
      simp
  obtain ⟨j', q1, q2⟩ := free_go owner m (SetTable.bits h) (SetTable.turns m) 0 ⟨n, Nat.zero_le _, by unfold SetTable.turns; omega, by rw [e]; exact (hg j).mpr hj⟩
  refine ⟨j', ?_, (hg j').mp q2⟩
  rw [← q1]
  show SetTable.layClean.free m owner (SetTable.turns m) (SetTable.bits h % (m + 1)) (SetTable.bits h) = SetTable.layClean.free m owner (SetTable.turns m) (SetTable.bits h % (m + 1)) (SetTable.bits h / 32 ^ 0)
  rw [Nat.pow_zero, Nat.div_one]
theorem set_perm {k : Nat} : ∀ (l : List (Option Nat)) (j : Nat), l[j]? = some none → ((l.set j (some k)).filterMap id).Perm (k :: l.filterMap id)
  | [], j, h => by simp at h
  | x :: l, 0, h => by
    have e : x = none := by simpa using h
    subst e
    simp
  | x :: l, j + 1, h => by
    have ih := set_perm (k := k) l j (by simpa using h)
    rw [List.set_cons_succ]
    cases x with
    | none => simpa using ih
    | some y =>
      show (y :: (l.set j (some k)).filterMap id).Perm (k :: y :: l.filterMap id)
      exact (ih.cons y).trans (List.Perm.swap _ _ _)
theorem full_len : ∀ l : List (Option Nat), (∀ j : Nat, l[j]? ≠ some none) → (l.filterMap id).length = l.length
  | [], _ => rfl
  | x :: l, h => by
    have ih := full_len l fun j => by simpa using h (j + 1)
    cases x with
    | none => exact absurd rfl (h 0)
    | some y => simpa using ih
/-- so far laid -/
def Lay (m k : Nat) (a : Option (Array (Option Nat) × Nat)) : Prop := ∃ owner, a = some (owner, k) ∧ owner.size = m + 1 ∧ (owner.toList.filterMap id).Perm (List.range k)
def layStep (m : Nat) (acc : Option (Array (Option Nat) × Nat)) (h : Int) : Option (Array (Option Nat) × Nat) := do
  let (owner, k) ← acc
  let j ← SetTable.layClean.free m owner (SetTable.turns m) (SetTable.bits h % (m + 1)) (SetTable.bits h)
  pure (owner.setIfInBounds j (some k), k + 1)
theorem lay_step {m k : Nat} (hm : MaskS m) (hk : k ≤ m) {a : Option (Array (Option Nat) × Nat)} (L : Lay m k a) (h : Int) : Lay m (k + 1) (layStep m a h) := by
  obtain ⟨owner, rfl, hz, hp⟩ := L
  obtain ⟨j, hj⟩ : ∃ j : Nat, owner.toList[j]? = some none := by
    rcases Classical.em (∃ j : Nat, owner.toList[j]? = some none) with c | c
    · exact c
    · exfalso
      have e := full_len owner.toList fun j hj => c ⟨j, hj⟩
      rw [hp.length_eq, List.length_range, Array.length_toList, hz] at e
      omega
  obtain ⟨j', q1, q2⟩ := free_at hm hz hj h
  refine ⟨owner.setIfInBounds j' (some k), ?_, by simp [hz], ?_⟩
  · unfold layStep
    show (SetTable.layClean.free m owner (SetTable.turns m) (SetTable.bits h % (m + 1)) (SetTable.bits h) >>= fun j => pure (owner.setIfInBounds j (some k), k + 1)) = _
    rw [q1]
    rfl
  · rw [Array.toList_setIfInBounds, List.range_succ]
    exact (set_perm _ _ q2).trans ((hp.cons k).trans (List.perm_append_singleton k _).symm)
theorem lay_all {m : Nat} (hm : MaskS m) : ∀ (hs : List Int) (k : Nat) (a : Option (Array (Option Nat) × Nat)), k + hs.length ≤ m + 1 → Lay m k a → Lay m (k + hs.length) (hs.foldl (layStep m) a)
  | [], k, a, _, L => L
  | h :: hs, k, a, hl, L => by
    rw [List.length_cons] at hl
    have := lay_all hm hs (k + 1) (layStep m a h) (by omega) (lay_step hm (by omega) L h)
    rw [List.length_cons, List.foldl_cons]
    have e : k + (hs.length + 1) = k + 1 + hs.length := by omega
    rw [e]
    exact this
theorem range_getD (owner : Array (Option Nat)) : (List.range owner.size).map (fun j => owner.getD j none) = owner.toList := by
  refine List.ext_getElem? fun i => ?_
  by_cases hi : i < owner.size
  · rw [List.getElem?_map, List.getElem?_range hi, List.getElem?_eq_getElem (by rw [Array.length_toList]; exact hi)]
    show some (owner.getD i none) = some owner.toList[i]
    unfold Array.getD
    rw [dif_pos hi]
    rfl
  · rw [List.getElem?_eq_none (by rw [List.length_map, List.length_range]; omega), List.getElem?_eq_none (by rw [Array.length_toList]; omega)]
theorem fm_congr {α β : Type} {f g : α → Option β} : ∀ (l : List α), (∀ x ∈ l, f x = g x) → l.filterMap f = l.filterMap g
  | [], _ => rfl
  | x :: l, h => by
    rw [List.filterMap_cons, List.filterMap_cons, h x List.mem_cons_self, fm_congr l fun y hy => h y (List.mem_cons_of_mem _ hy)]
/-- a table is laid, and all that is laid stands in it -/
theorem laid_ok {m : Nat} (hm : MaskS m) (hs : Array Int) (hl : hs.size ≤ m + 1) (finger moves : Nat) (led plain : Bool) :
    ∃ t order, SetTable.laid m finger moves led plain hs = some (t, order) ∧ t.mask = m ∧ t.dummies = #[] ∧ t.place.size = hs.size ∧ t.led = led ∧ t.plain = plain ∧ order.toList.Perm (List.range hs.size) := by
  have L0 : Lay m 0 (some (Array.replicate (m + 1) none, 0)) := ⟨_, rfl, by simp, by
    have : ∀ n : Nat, (List.replicate n (none : Option Nat)).filterMap id = [] := fun n => by
      induction n with
      | zero => rfl
      | succ n ih => simpa [List.replicate_succ] using ih
    rw [Array.toList_replicate, this]
    simp⟩
  obtain ⟨owner, e, hz, hp⟩ := lay_all hm hs.toList 0 _ (by rw [Array.length_toList]; omega) L0
  rw [Nat.zero_add, Array.length_toList] at e hp
  have e2 : SetTable.layClean m hs = some owner := by
    unfold SetTable.layClean
    rw [← Array.foldl_toList]
    have : (List.foldl (layStep m) (some (Array.replicate (m + 1) none, 0)) hs.toList).map (·.1) = some owner := by rw [e]; rfl
    exact this
  have hlive : ((List.range (m + 1)).filterMap fun j => (owner.getD j none).map (j, ·)).map (·.2) = owner.toList.filterMap id := by
    rw [← range_getD owner, hz, List.map_filterMap, List.filterMap_map]
    refine fm_congr _ fun j _ => ?_
    show ((owner.getD j none).map (j, ·)).map (·.2) = id (owner.getD j none)
    cases owner.getD j none <;> rfl
  unfold SetTable.laid
  rw [e2]
  refine ⟨_, _, rfl, rfl, rfl, ?_, rfl, rfl, ?_⟩
  · show ((((List.range (m + 1)).filterMap fun j => (owner.getD j none).map (j, ·)).map (·.1)).toArray).size = hs.size
    rw [List.size_toArray, List.length_map, ← List.length_map (f := (·.2)), hlive, hp.length_eq, List.length_range]
  · show (((List.range (m + 1)).filterMap fun j => (owner.getD j none).map (j, ·)).map (·.2)).toArray.toList.Perm _
    rw [List.toList_toArray, hlive]
    exact hp
end Qk

set_option maxRecDepth 100000
set_option maxHeartbeats 4000000
namespace Qk
open PySem PySem.Spec PyProof.Rows L2

/-! ### the difference of two sets of texts -/
/-- the set at a holds just the texts of S -/
def TSet (P : Program) (w : World) (h : Heap) (a : Addr) (S : Str → Bool) (n : Nat) : Prop := h.SetOf (strKind P w) a S n
section
variable {P : Program} {w : World} {A : Around} {E : Value → Shared → Prop} {s : Shared} {a o r : Addr} {S T R : Str → Bool} {n m k : Nat}
theorem text_of {v : Value} {z : Str} (h : (strKind P w).is z v = true) : ∃ t, v = .str z t := by
  cases v with
  | str y t =>
    have e : (y == z) = true := h
    rw [beq_iff_eq.mp e]
    exact ⟨t, rfl⟩
  | _ => cases h
theorem quiet_texts (h1 : TSet P w s.heap a S n) (h2 : TSet P w s.heap o T m) (h3 : TSet P w s.heap r R k) {Q : Bool → Shared → Prop} (h : Q true s) : wpAny (model P w) A (setsQuiet [a, o, r]) Q E s := by
  have one : ∀ {b : Addr} {U : Str → Bool} {j : Nat}, TSet P w s.heap b U j → ∀ {Q : Array (Int × Value) → Shared → Prop}, (∀ es : Array (Int × Value), (∀ e ∈ es.toList, ∃ z t, e.2 = Value.str z t) → Q es s) → wpAny (model P w) A (setEntries b) Q E s := by
    intro b U j hb Q q
    obtain ⟨o, es, ep, t, ho, hex, hd, hel, hmem, hlt, hf, hn⟩ := hb
    refine wpAny_setEntries_of ho hd hf (q es fun e he => ?_)
    obtain ⟨⟨z, hz, _⟩, _⟩ := hel e he
    obtain ⟨t, e2⟩ := text_of hz
    exact ⟨z, t, e2⟩
  have any1 : ∀ c ∈ [a, o, r], ∀ {Q : Array (Int × Value) → Shared → Prop}, (∀ es : Array (Int × Value), (∀ e ∈ es.toList, ∃ z t, e.2 = Value.str z t) → Q es s) → wpAny (model P w) A (setEntries c) Q E s := by
    intro c hc
    simp only [List.mem_cons, List.not_mem_nil, or_false] at hc
    rcases hc with rfl | rfl | rfl
    · exact one h1
    · exact one h2
    · exact one h3
  unfold setsQuiet
  refine wpAny_bind (wpAny_forIn_list _ (fun rest b s' => b = (none, ()) ∧ s' = s ∧ ∀ c ∈ rest, c ∈ [a, o, r]) _ ?_ ?_ _ _ ⟨rfl, rfl, fun _ h => h⟩)
  · rintro c rest b s' ⟨rfl, rfl, hc⟩
    refine wpAny_bind (any1 c (hc c List.mem_cons_self) fun es hes => ?_)
    refine wpAny_bind (wpAny_forIn_array' _ (fun rest b s'' => b = (none, ()) ∧ s'' = s' ∧ ∀ e ∈ rest, ∃ z t, e.2 = Value.str z t) _ ?_ ?_ _ _ ⟨rfl, rfl, hes⟩)
    · rintro ⟨u, v⟩ rest2 b s'' ⟨rfl, rfl, he⟩
      obtain ⟨z, t, e2⟩ := he _ List.mem_cons_self
      dsimp only at e2
      subst e2
      exact wpAny_pure ⟨rfl, rfl, fun e h => he e (List.mem_cons_of_mem _ h)⟩
    · rintro b s'' ⟨rfl, rfl, _⟩
      exact wpAny_pure ⟨rfl, rfl, fun c h => hc c (List.mem_cons_of_mem _ h)⟩
  · rintro b s' ⟨rfl, rfl, _⟩
    exact wpAny_pure h
theorem quiet_texts2 (h1 : TSet P w s.heap a S n) (h3 : TSet P w s.heap r R k) {Q : Bool → Shared → Prop} (h : Q true s) : wpAny (model P w) A (setsQuiet [a, r]) Q E s := by
  have one : ∀ {b : Addr} {U : Str → Bool} {j : Nat}, TSet P w s.heap b U j → ∀ {Q : Array (Int × Value) → Shared → Prop}, (∀ es : Array (Int × Value), (∀ e ∈ es.toList, ∃ z t, e.2 = Value.str z t) → Q es s) → wpAny (model P w) A (setEntries b) Q E s := by
    intro b U j hb Q q
    obtain ⟨o, es, ep, t, ho, hex, hd, hel, hmem, hlt, hf, hn⟩ := hb
    refine wpAny_setEntries_of ho hd hf (q es fun e he => ?_)
    obtain ⟨⟨z, hz, _⟩, _⟩ := hel e he
    obtain ⟨t, e2⟩ := text_of hz
    exact ⟨z, t, e2⟩
  have any1 : ∀ c ∈ [a, r], ∀ {Q : Array (Int × Value) → Shared → Prop}, (∀ es : Array (Int × Value), (∀ e ∈ es.toList, ∃ z t, e.2 = Value.str z t) → Q es s) → wpAny (model P w) A (setEntries c) Q E s := by
    intro c hc
    simp only [List.mem_cons, List.not_mem_nil, or_false] at hc
    rcases hc with rfl | rfl
    · exact one h1
    · exact one h3
  unfold setsQuiet
  refine wpAny_bind (wpAny_forIn_list _ (fun rest b s' => b = (none, ()) ∧ s' = s ∧ ∀ c ∈ rest, c ∈ [a, r]) _ ?_ ?_ _ _ ⟨rfl, rfl, fun _ h => h⟩)
  · rintro c rest b s' ⟨rfl, rfl, hc⟩
    refine wpAny_bind (any1 c (hc c List.mem_cons_self) fun es hes => ?_)
    refine wpAny_bind (wpAny_forIn_array' _ (fun rest b s'' => b = (none, ()) ∧ s'' = s' ∧ ∀ e ∈ rest, ∃ z t, e.2 = Value.str z t) _ ?_ ?_ _ _ ⟨rfl, rfl, hes⟩)
    · rintro ⟨u, v⟩ rest2 b s'' ⟨rfl, rfl, he⟩
      obtain ⟨z, t, e2⟩ := he _ List.mem_cons_self
      dsimp only at e2
      subst e2
      exact wpAny_pure ⟨rfl, rfl, fun e h => he e (List.mem_cons_of_mem _ h)⟩
    · rintro b s'' ⟨rfl, rfl, _⟩
      exact wpAny_pure ⟨rfl, rfl, fun c h => hc c (List.mem_cons_of_mem _ h)⟩
  · rintro b s' ⟨rfl, rfl, _⟩
    exact wpAny_pure h
/-- what a walk over the set at a gives: all of it, in some order -/
def Walked (P : Program) (w : World) (S : Str → Bool) (l : List (Int × Value)) : Prop := (∀ e ∈ l, ∃ z t, e.2 = Value.str z t ∧ e.1 = (strKind P w).hash z ∧ S z = true) ∧ (∀ z, S z = true → ∃ e ∈ l, (strKind P w).is z e.2 = true) ∧ l.length < scanBound
theorem walked_of {es : Array (Int × Value)} {l : List (Int × Value)} (hel : ElemsOf (strKind P w) es.toList) (hmem : ∀ z, S z = true ↔ ∃ e ∈ es.toList, (strKind P w).is z e.2 = true) (hlt : es.size < scanBound) (p : l.Perm es.toList) : Walked P w S l := by
  refine ⟨fun e he => ?_, fun z hz => ?_, by rw [p.length_eq, Array.length_toList]; exact hlt⟩
  · have he' := p.mem_iff.mp he
    obtain ⟨⟨z, hz, hh⟩, _⟩ := hel e he'
    obtain ⟨t, e2⟩ := text_of hz
    exact ⟨z, t, e2, hh, (hmem z).mpr ⟨e, he', hz⟩⟩
  · obtain ⟨e, he, hz⟩ := (hmem z).mp hz
    exact ⟨e, p.mem_iff.mpr he, hz⟩
/-- the walk of setWalkUnseen, another set being filled -/
theorem walk_unseen (h1 : TSet P w s.heap a S n) (h2 : TSet P w s.heap o T m) (h3 : TSet P w s.heap r R k) {Q : Array (Int × Value) → Shared → Prop}
    (h : ∀ (arr : Array (Int × Value)) (h' : Heap) (d : Drawn), Walked P w S arr.toList → Heap.SameBut r s.heap h' → TSet P w h' r R k → Q arr { s with heap := h', drawn := d }) :
    wpAny (model P w) A (setWalkUnseen a [o, r] (some r)) Q E s := by
  obtain ⟨oa, es, ep, t, ho, hex, hd, hel, hmem, hlt, hf, hn⟩ := id h1
  have e0 : s = { s with heap := s.heap, drawn := s.drawn } := by cases s; rfl
  unfold setWalkUnseen
  refine wpAny_bind (wpAny_setState_of ho hd hf ?_)
  dsimp only
  refine wpAny_bind (wpAny_byText ?_)
  by_cases c : (w.params.followText "set-order" || (t.led && t.plain) || decide (es.size ≤ 1)) = true
  · rw [if_pos c]
    unfold setWalk
    refine wpAny_bind (wpAny_setState_of ho hd hf ?_)
    dsimp only
    refine wpAny_bind (wpAny_byText ?_)
    by_cases hbt : w.params.followText "set-order" = true
    · refine wp_if_pos hbt ?_
      refine wpAny_bind (wpAny_askSetting (wpAny_pure ?_))
      exact h _ s.heap s.drawn (walked_of hel hmem hlt (pick_perm _ es)) (Heap.SameBut.refl r s.heap) h3
    · refine wp_if_neg hbt ?_
      by_cases hdr : (!t.plain && decide (es.size > 1)) = true
      · refine wp_if_pos hdr ?_
        refine wpAny_bind (drawOrder_at _ _ _ _ (by rw [Array.length_toList]; exact Nat.le_refl _) fun ys d hy => ?_)
        exact wpAny_pure (h _ s.heap d (walked_of hel hmem hlt hy) (Heap.SameBut.refl r s.heap) h3)
      · refine wp_if_neg hdr ?_
        have hled : ¬ (!t.led && decide (es.size > 1)) = true := by
          intro z
          simp only [Bool.and_eq_true, Bool.not_eq_true', decide_eq_true_eq] at z
          simp only [Bool.or_eq_true, Bool.and_eq_true, decide_eq_true_eq] at c
          rcases c with (c | c) | c
          · exact hbt c
          · rw [c.1] at z
            cases z.1
          · omega
        refine wpAny_bind (wpAny_of_eq (a := ()) ?_ ?_)
        · show (if (!t.led && decide (es.size > 1)) = true then unsupported "set:maker-not-led" else pure ()) = pure ()
          rw [if_neg hled]
        · exact wpAny_pure (h _ s.heap s.drawn (walked_of hel hmem hlt (List.Perm.refl _)) (Heap.SameBut.refl r s.heap) h3)
  · rw [if_neg c]
    refine wpAny_bind (quiet_texts h1 h2 h3 ?_)
    refine wp_if_neg (by simp) ?_
    refine wpAny_bind (wpAny_rule ?_)
    obtain ⟨orr, er, epr, tr, hor, hexr, hdr, helr, hmemr, hltr, hfr, hnr⟩ := id h3
    refine wpAny_bind (wpAny_setState_of hor hdr hfr ?_)
    dsimp only
    by_cases c2 : (tr.led && !t.led || tr.plain && !t.plain) = true
    · refine wp_if_pos c2 ?_
      refine wpAny_bind (wpAny_storeSet_of hor hdr ?_ (fits_of_scanBound hltr))
      obtain ⟨_, hS⟩ := SetOf_store (knd := strKind P w) (t' := { tr with led := tr.led && t.led, plain := tr.plain && t.plain }) hor hexr hdr helr hmemr hltr (by cases tr; exact hfr)
      rw [hnr] at hS
      exact wpAny_pure (h es _ s.drawn (walked_of hel hmem hlt (List.Perm.refl _)) (Heap.SameBut.update s.heap r _) hS)
    · refine wp_if_neg c2 ?_
      exact wpAny_pure (h es s.heap s.drawn (walked_of hel hmem hlt (List.Perm.refl _)) (Heap.SameBut.refl r s.heap) h3)
theorem sub_set_self : isSubtype (.type "set") (.type "set") = pure true := by rw [isSubtype_type]; kernel_rfl
theorem any_set (h1 : TSet P w s.heap a S n) {Q : Bool → Shared → Prop} (h : Q true s) : wpAny (model P w) A (Builtin.Frozenset.isAnySet (.ref a)) Q E s := by
  unfold Builtin.Frozenset.isAnySet orM
  refine wpAny_bind (wpAny_isInstance (T := "set") h1.typeIs sub_set_self ?_)
  exact wpAny_pure h
theorem size_of (h1 : TSet P w s.heap a S n) {Q : Nat → Shared → Prop} (h : Q n s) : wpAny (model P w) A (Builtin.Frozenset.sizeOf a) Q E s := by
  obtain ⟨oa, es, ep, t, ho, hex, hd, hel, hmem, hlt, hf, hn⟩ := h1
  unfold Builtin.Frozenset.sizeOf
  refine wpAny_bind (wpAny_setEntries_of ho hd hf (wpAny_pure ?_))
  rw [hn]
  exact h
theorem base_of (h1 : TSet P w s.heap a S n) {Q : Value → Shared → Prop} (h : Q (.type "set") s) : wpAny (model P w) A (Builtin.Frozenset.baseOf a) Q E s := by
  unfold Builtin.Frozenset.baseOf
  refine wpAny_bind (wpAny_isInstance (T := "set") h1.typeIs sub_set_self ?_)
  exact wpAny_pure h
theorem epoch_of (h1 : TSet P w s.heap a S n) {Q : Nat → Shared → Prop} (h : ∀ ep, (∀ s' : Shared, (∀ u, s.heap.get? a = some u → s'.heap.get? a = some u) → ∀ {A : Around} {E : Value → Shared → Prop} {Q' : Unit → Shared → Prop} (id' : String), Q' () s' → wpAny (model P w) A (Builtin.Frozenset.unchanged id' a ep) Q' E s') → Q ep s) : wpAny (model P w) A (setEpoch a) Q E s := by
  obtain ⟨oa, es, ep, t, ho, hex, hd, hel, hmem, hlt, hf, hn⟩ := h1
  refine wpAny_setEpoch_of ho hd hf (h ep fun s' k A E Q' id' q => ?_)
  unfold Builtin.Frozenset.unchanged
  refine wpAny_bind (wpAny_setEpoch_of (k _ ho) hd hf ?_)
  refine wp_if_neg (by simp) (wpAny_pure q)
theorem TSet.keep {h h' : Heap} {a : Addr} {S : Str → Bool} {n : Nat} (x : TSet P w h a S n) (k : ∀ u, h.get? a = some u → h'.get? a = some u) : TSet P w h' a S n := by
  obtain ⟨oa, es, ep, t, ho, r⟩ := x
  exact ⟨oa, es, ep, t, k _ ho, r⟩
theorem TSet.lt {h : Heap} {a : Addr} {S : Str → Bool} {n : Nat} (x : TSet P w h a S n) : a < h.objs.size := by
  obtain ⟨oa, es, ep, t, ho, r⟩ := x
  exact Heap.lt_size ho
/-- where the first set is not much larger -/
theorem diff_near {id' : String} (h1 : TSet P w s.heap a S n) (h2 : TSet P w s.heap o T m) (hnm : ¬ n / 4 > m) {Q : Value → Shared → Prop}
    (h : ∀ (p : Addr) (j : Nat) (h' : Heap) (d : Drawn) (t : Nat), s.heap.get? p = none → (∀ b u, s.heap.get? b = some u → h'.get? b = some u) → TSet P w h' p (fun z => S z && !T z) j → Q (.ref p) { s with heap := h', drawn := d, toks := t }) :
    wpAny (model P w) A (Builtin.Frozenset.difference id' a (.ref o)) Q E s := by
  unfold Builtin.Frozenset.difference
  dsimp only
  refine wpAny_bind (any_set h2 ?_)
  refine wp_if_neg (by simp) ?_
  refine wpAny_bind (m := Builtin.Frozenset.addrOf (.ref o)) (wpAny_pure ?_)
  refine wp_if_neg (by simp) ?_
  refine wp_if_pos rfl ?_
  refine wpAny_bind (size_of h2 ?_)
  refine wpAny_bind (size_of h1 ?_)
  refine wp_if_neg hnm ?_
  refine wpAny_bind (base_of h1 ?_)
  refine wpAny_bind (wpAny_newSet_of (knd := strKind P w) fun led h3 => ?_)
  have hlt1 := h1.lt
  have hlt2 := h2.lt
  have hnew : s.heap.get? s.heap.objs.size = none := Heap.get?_none_of_le (Nat.le_refl _)
  generalize hr : s.heap.objs.size = r at *
  refine wpAny_bind (m := Builtin.Frozenset.addrOf (.ref r)) (wpAny_pure ?_)
  have kp : ∀ b u, s.heap.get? b = some u → (s.heap.push { cls := .type "set", dict := none, data := .set #[] 0 (.fresh 0 0 led) }).get? b = some u := fun b u e => Heap.get?_push_of_some _ e
  generalize s.heap.push { cls := .type "set", dict := none, data := .set #[] 0 (.fresh 0 0 led) } = hp at *
  have g1 : TSet P w hp a S n := h1.keep fun u e => kp _ _ e
  have g2 : TSet P w hp o T m := h2.keep fun u e => kp _ _ e
  refine wpAny_bind (epoch_of (s := { s with heap := hp }) g1 fun ep unch => ?_)
  refine wpAny_bind (wpAny_holding ?_)
  refine wpAny_bind ?_
  refine wp_if_pos rfl ?_
  refine walk_unseen (s := { s with heap := hp }) g1 g2 h3 fun arr h' d wk sb g3 => ?_
  have nra : a ≠ r := Nat.ne_of_lt hlt1
  have nro : o ≠ r := Nat.ne_of_lt hlt2
  refine wpAny_bind (wpAny_forIn_array' _ (fun rest b s' => (∀ e ∈ rest, ∃ z t, e.2 = Value.str z t ∧ e.1 = (strKind P w).hash z ∧ S z = true) ∧ ∃ (hh : Heap) (tk : Nat) (R : Str → Bool) (j : Nat), s' = { s with heap := hh, drawn := d, toks := tk } ∧
      (∀ b u, b ≠ r → hp.get? b = some u → hh.get? b = some u) ∧ TSet P w hh r R j ∧ j + rest.length ≤ arr.toList.length ∧ (∀ z, R z = true → S z = true ∧ T z = false) ∧ (∀ z, S z = true → T z = false → R z = true ∨ ∃ e ∈ rest, (strKind P w).is z e.2 = true)) _ ?_ ?_ _ _ ?_)
  · rintro ⟨hv, x⟩ rest b s' ⟨he, hh, tk, R, j, rfl, kp', gR, hj, r1, r2⟩
    obtain ⟨z, t, e2, e1, hz⟩ := he _ List.mem_cons_self
    dsimp only at e2 e1
    subst e2 e1
    have he' : ∀ e ∈ rest, ∃ z t, e.2 = Value.str z t ∧ e.1 = (strKind P w).hash z ∧ S z = true := fun e h => he e (List.mem_cons_of_mem _ h)
    rw [List.length_cons] at hj
    have u1 := @unch { s with heap := hh, drawn := d, toks := tk } (fun u e => kp' _ _ nra e)
    have g2' : TSet P w hh o T m := g2.keep fun u e => kp' _ _ nro e
    refine wpAny_bind (wpAny_holding ?_)
    refine wp_if_pos rfl ?_
    refine wpAny_bind (wpAny_setFind_of (knd := strKind P w) (k := z) (s := { s with heap := hh, drawn := d, toks := tk }) (strKind_is _ _ _ _) rfl g2' fun q hq => ?_)
    refine wpAny_bind (wpAny_pure ?_)
    rw [hq]
    by_cases ht : T z = true
    · refine wp_if_neg (by rw [ht]; simp) ?_
      refine wpAny_pure (wpAny_bind (u1 _ (wpAny_pure ⟨he', hh, tk, R, j, rfl, kp', gR, by omega, r1, fun y hy ty => ?_⟩)))
      rcases r2 y hy ty with c | ⟨e, hm, c⟩
      · exact .inl c
      · rcases List.mem_cons.mp hm with rfl | hm
        · exfalso
          have : y = z := by
            have e3 : (z == y) = true := c
            exact (beq_iff_eq.mp e3).symm
          rw [this, ht] at ty
          cases ty
        · exact .inr ⟨e, hm, c⟩
    · have tf : T z = false := by simpa using ht
      refine wp_if_pos (by rw [tf]; rfl) ?_
      refine wpAny_bind (wpAny_setAddHashed_of (knd := strKind P w) (k := z) (s := { s with heap := hh, drawn := d, toks := tk }) (strKind_is _ _ _ _) rfl gR (by have := wk.2.2; omega) fun h2 sb2 gR2 => ?_)
      have kp2 : ∀ b u, b ≠ r → hp.get? b = some u → h2.get? b = some u := fun b u nb e => (sb2.2 b nb).trans (kp' b u nb e)
      have u2 := @unch { s with heap := h2, drawn := d, toks := tk } (fun u e => kp2 _ _ nra e)
      refine wpAny_pure (wpAny_bind (u2 _ (wpAny_pure ⟨he', h2, tk, _, _, rfl, kp2, gR2, by split <;> omega, fun y hy => ?_, fun y hy ty => ?_⟩)))
      · simp only [Bool.or_eq_true, decide_eq_true_eq] at hy
        rcases hy with hy | rfl
        · exact r1 y hy
        · exact ⟨hz, tf⟩
      · rcases r2 y hy ty with c | ⟨e, hm, c⟩
        · exact .inl (by rw [c]; rfl)
        · rcases List.mem_cons.mp hm with rfl | hm
          · refine .inl ?_
            have e3 : (z == y) = true := c
            rw [decide_eq_true (beq_iff_eq.mp e3).symm, Bool.or_true]
          · exact .inr ⟨e, hm, c⟩
  · rintro b s' ⟨_, hh, tk, R, j, rfl, kp', gR, _, r1, r2⟩
    refine wpAny_pure (wpAny_pure (h r j hh d tk hnew (fun b u e => kp' b u ?_ (kp b u e)) (SetOf_congr gR (fun z => ?_) rfl)))
    · intro eb
      rw [eb, hnew] at e
      cases e
    · cases c1 : R z with
      | true =>
        obtain ⟨q1, q2⟩ := r1 z c1
        rw [q1, q2]
        rfl
      | false =>
        cases c2 : S z with
        | false => rfl
        | true =>
          cases c3 : T z with
          | true => rfl
          | false =>
            rcases r2 z c2 c3 with q | ⟨e, hm, _⟩
            · rw [q] at c1
              cases c1
            · cases hm
  · refine ⟨wk.1, h', s.toks, fun _ => false, 0, rfl, fun b u nb e => (sb.2 b nb).trans e, g3, by omega, fun z hz => (Bool.false_ne_true hz).elim, fun z hz _ => .inr (wk.2.1 z hz)⟩
end
end Qk

set_option maxRecDepth 100000
set_option maxHeartbeats 4000000
namespace Qk
open PySem PySem.Spec PyProof.Rows L2

/-! ### the difference of two sets of texts, by a copy -/
/-- a set of texts with its table's mask, and few dummies -/
def TM (P : Program) (w : World) (h : Heap) (a : Addr) (S : Str → Bool) (n M c : Nat) : Prop :=
  ∃ o es ep t, h.get? a = some o ∧ o.ExactSet ∧ o.data = .set es ep t ∧ ElemsOf (strKind P w) es.toList ∧ (∀ z, S z = true ↔ ∃ e ∈ es.toList, (strKind P w).is z e.2 = true) ∧ es.size < scanBound ∧ t.fits es.size = true ∧ es.size = n ∧ t.mask = M ∧ t.dummies.size ≤ c
theorem TM.t {P : Program} {w : World} {h : Heap} {a : Addr} {S : Str → Bool} {n M c : Nat} (x : TM P w h a S n M c) : TSet P w h a S n := by
  obtain ⟨o, es, ep, t, h1, h2, h3, h4, h5, h6, h7, h8, _⟩ := x
  exact ⟨o, es, ep, t, h1, h2, h3, h4, h5, h6, h7, h8⟩
theorem range_get (es : Array (Int × Value)) : (List.range es.size).filterMap (fun i => es[i]?) = es.toList := by
  have e1 : (List.range es.size).filterMap (fun i => es[i]?) = ((List.range es.size).map fun i => es[i]?).filterMap id := by rw [List.filterMap_map]; rfl
  have e2 : ((List.range es.size).map fun i => es[i]?) = es.toList.map some := by
    refine List.ext_getElem? fun i => ?_
    by_cases hi : i < es.size
    · rw [List.getElem?_map, List.getElem?_range hi, List.getElem?_map, Array.getElem?_toList, Array.getElem?_eq_getElem hi]
      show some es[i]? = some (some es[i])
      rw [Array.getElem?_eq_getElem hi]
    · rw [List.getElem?_eq_none (by rw [List.length_map, List.length_range]; omega), List.getElem?_eq_none (by rw [List.length_map, Array.length_toList]; omega)]
  rw [e1, e2, List.filterMap_map]
  exact (fm_congr (g := some) _ fun x _ => rfl).trans (List.filterMap_some ..)
theorem order_perm {es : Array (Int × Value)} {order : Array Nat} (hp : order.toList.Perm (List.range es.size)) : (order.filterMap (es[·]?)).toList.Perm es.toList := by
  rw [Array.toList_filterMap]
  exact (hp.filterMap _).trans (by rw [range_get])
section
variable {P : Program} {w : World} {A : Around} {E : Value → Shared → Prop} {s : Shared} {a o r : Addr} {S T R : Str → Bool} {n m k : Nat}
theorem size_tab : ∀ n, n < 13 → 5 ≤ n → MaskS (SetTable.sizeAbove ((0 + n) * 2) - 1) ∧ (8 ≤ n → SetTable.sizeAbove ((0 + n) * 2) - 1 = 31) ∧ ¬ SetTable.sizeAbove ((0 + n) * 2) > sizeLine := by
  intro n hn h5
  have key : ∀ n ∈ List.range 13, 5 ≤ n → (SetTable.sizeAbove ((0 + n) * 2) - 1 = 7 ∨ SetTable.sizeAbove ((0 + n) * 2) - 1 = 15 ∨ SetTable.sizeAbove ((0 + n) * 2) - 1 = 31) ∧ (8 ≤ n → SetTable.sizeAbove ((0 + n) * 2) - 1 = 31) ∧ ¬ SetTable.sizeAbove ((0 + n) * 2) > sizeLine := by decide +kernel
  exact key n (List.mem_range.mpr hn) h5
theorem room_at {led : Bool} (h4 : 4 ≤ n) (h12 : n ≤ 12) (hr : s.heap.get? r = some { cls := .type "set", dict := none, data := .set #[] 0 (.fresh 0 0 led) }) {Q : Unit → Shared → Prop}
    (h : ∀ (h' : Heap) (M ep : Nat) (t : SetTable), MaskS M → (8 ≤ n → M = 31) → Heap.SameBut r s.heap h' → h'.get? r = some { cls := .type "set", dict := none, data := .set #[] ep t } → t.mask = M → t.place = #[] → t.dummies = #[] → Q () { s with heap := h' }) :
    wpAny (model P w) A (setRoomFor r n) Q E s := by
  have hf0 : (SetTable.fresh 0 0 led).fits (#[] : Array (Int × Value)).size = true := by cases led <;> rfl
  unfold setRoomFor
  refine wpAny_bind (wpAny_setState_of hr rfl hf0 ?_)
  dsimp only
  have e0 : (SetTable.fresh 0 0 led).roomFor n = if (0 + n) * 5 ≥ 7 * 3 then some ((0 + n) * 2) else none := rfl
  rw [e0]
  by_cases h5 : n = 4
  · subst h5
    rw [if_neg (by decide)]
    exact wpAny_pure (h s.heap 7 0 _ (.inl rfl) (by omega) (Heap.SameBut.refl r s.heap) hr rfl rfl rfl)
  · rw [if_pos (by omega)]
    dsimp only
    obtain ⟨m1, m2, m3⟩ := size_tab n (by omega) (by omega)
    rw [setRelay_eq]
    refine wpAny_bind (wpAny_setState_of hr rfl hf0 ?_)
    dsimp only
    refine wp_if_neg m3 ?_
    obtain ⟨t, order, e1, e2, e3, e4, e5, e6, e7⟩ := laid_ok m1 ((#[] : Array (Int × Value)).map (·.1)) (by simp) (SetTable.fresh 0 0 led).finger ((SetTable.fresh 0 0 led).movedTo (SetTable.sizeAbove ((0 + n) * 2) - 1)) (SetTable.fresh 0 0 led).led (SetTable.fresh 0 0 led).plain
    have e8 : (SetTable.fresh 0 0 led).relaid ((#[] : Array (Int × Value)).map (·.1)) ((0 + n) * 2) = some (t, order) := e1
    have hes : order.filterMap ((#[] : Array (Int × Value))[·]?) = #[] := by
      have p := order_perm (es := (#[] : Array (Int × Value))) (order := order) (by simpa using e7)
      have := p.length_eq
      exact Array.eq_empty_of_size_eq_zero (by simpa using this)
    rw [e8]
    dsimp only
    rw [hes]
    refine wpAny_bind ?_
    refine wp_if_neg (by simp) (wpAny_pure ?_)
    have hfit : t.fits (#[] : Array (Int × Value)).size = true := by
      unfold SetTable.fits SetTable.fill
      rw [e3, e4]
      simp
    refine wpAny_storeSet_of hr rfl ?_
    obtain ⟨hg, _⟩ := SetOf_store (knd := strKind P w) (S' := fun _ => false) (es' := #[]) (t' := t) hr ⟨rfl, rfl, rfl⟩ rfl (fun e he => by simp at he) (fun z => by simp) (by decide) hfit
    exact h _ _ _ t m1 m2 (Heap.SameBut.update s.heap r _) hg e2 (Array.eq_empty_of_size_eq_zero (by rw [e4]; simp)) e3
theorem merge_at {led : Bool} (h1 : TSet P w s.heap a S n) (h4 : 4 ≤ n) (h12 : n ≤ 12) (hr : s.heap.get? r = some { cls := .type "set", dict := none, data := .set #[] 0 (.fresh 0 0 led) }) (nra : r ≠ a) {Q : Unit → Shared → Prop}
    (h : ∀ (h' : Heap) (M : Nat), MaskS M → (8 ≤ n → M = 31) → Heap.SameBut r s.heap h' → TM P w h' r S n M 0 → Q () { s with heap := h' }) : wpAny (model P w) A (setMerge r a) Q E s := by
  obtain ⟨oa, es, ep, t, ho, hex, hd, hel, hmem, hlt, hf, hn⟩ := id h1
  unfold setMerge
  refine wp_if_neg (by simpa using nra) ?_
  refine wpAny_bind (wpAny_setState_of ho hd hf ?_)
  dsimp only
  refine wp_if_neg (by rw [Array.isEmpty_iff_size_eq_zero]; omega) ?_
  have kp0 : ∀ h' : Heap, Heap.SameBut r s.heap h' → h'.get? a = some oa := fun h' sb => (sb.2 a nra.symm).trans ho
  refine wpAny_bind (room_at (n := es.size) (by omega) (by omega) hr fun h' M ep' ts hM hM8 sb hr' t1 t2 t3 => ?_)
  have hfs : ts.fits (#[] : Array (Int × Value)).size = true := by
    unfold SetTable.fits SetTable.fill
    rw [t2, t3]
    simp
  refine wpAny_bind (wpAny_setState_of (s := { s with heap := h' }) hr' rfl hfs ?_)
  dsimp only
  have hroad : ts.road t = if (ts.mask == t.mask && t.dummies.isEmpty) = true then .slotForSlot else .clean := by
    unfold SetTable.road SetTable.fill
    rw [t2, t3]
    rfl
  by_cases c : (ts.mask == t.mask && t.dummies.isEmpty) = true
  · rw [hroad, if_pos c]
    dsimp only
    obtain ⟨c1, c2⟩ := Bool.and_eq_true_iff.mp c
    refine wpAny_storeSet_of (s := { s with heap := h' }) hr' rfl ?_ (fits_of_scanBound hlt)
    have hft : ({ t with finger := ts.finger, led := ts.led && t.led, moves := ts.moves, plain := ts.plain && t.plain } : SetTable).fits es.size = true := by cases t; exact hf
    obtain ⟨hg, hS⟩ := SetOf_store (knd := strKind P w) (S' := S) (es' := es) (t' := { t with finger := ts.finger, led := ts.led && t.led, moves := ts.moves, plain := ts.plain && t.plain }) hr' ⟨rfl, rfl, rfl⟩ rfl hel hmem hlt hft
    refine h _ M hM (fun q => hM8 (by omega)) (sb.trans (Heap.SameBut.update h' r _)) ⟨_, es, _, _, hg, ⟨rfl, rfl, rfl⟩, rfl, hel, hmem, hlt, hft, hn, (beq_iff_eq.mp c1).symm.trans t1, ?_⟩
    rw [Array.isEmpty_iff_size_eq_zero] at c2
    exact Nat.le_of_eq c2
  · rw [hroad, if_neg c]
    dsimp only
    rw [t1]
    obtain ⟨tn, order, e1, e2, e3, e4, e5, e6, e7⟩ := laid_ok hM (es.map (·.1)) (by rw [Array.size_map]; rcases hM with z | z | z <;> omega) ts.finger ts.moves (ts.led && t.led) (ts.plain && t.plain)
    rw [e1]
    rw [Array.size_map] at e4 e7
    have hp := order_perm e7
    have hsz : (order.filterMap (es[·]?)).size = es.size := by
      have := hp.length_eq
      rwa [Array.length_toList, Array.length_toList] at this
    refine wpAny_bind ?_
    show wpAny _ _ (if ((order.filterMap (es[·]?)).size != es.size) = true then (unsupported "internal:set-table-lost-an-element" >>= fun _ => pure (order.filterMap (es[·]?), tn)) else pure (order.filterMap (es[·]?), tn)) _ _ _
    refine wp_if_neg (by rw [hsz]; simp) (wpAny_pure ?_)
    dsimp only
    have hel' : ElemsOf (strKind P w) (order.filterMap (es[·]?)).toList := hel.perm hp
    have hmem' : ∀ z, S z = true ↔ ∃ e ∈ (order.filterMap (es[·]?)).toList, (strKind P w).is z e.2 = true := fun z => (hmem z).trans ⟨fun ⟨e, he, q⟩ => ⟨e, hp.mem_iff.mpr he, q⟩, fun ⟨e, he, q⟩ => ⟨e, hp.mem_iff.mp he, q⟩⟩
    have hft : tn.fits (order.filterMap (es[·]?)).size = true := by
      unfold SetTable.fits SetTable.fill
      rw [e2, e3, e4, hsz]
      simp
      rcases hM with z | z | z <;> omega
    refine wpAny_storeSet_of (s := { s with heap := h' }) hr' rfl ?_ (fits_of_scanBound (by rw [hsz]; exact hlt))
    obtain ⟨hg, hS⟩ := SetOf_store (knd := strKind P w) (S' := S) (es' := order.filterMap (es[·]?)) (t' := tn) hr' ⟨rfl, rfl, rfl⟩ rfl hel' hmem' (by rw [hsz]; exact hlt) hft
    exact h _ M hM (fun q => hM8 (by omega)) (sb.trans (Heap.SameBut.update h' r _)) ⟨_, _, _, tn, hg, ⟨rfl, rfl, rfl⟩, rfl, hel', hmem', by rw [hsz]; exact hlt, hft, hsz.trans hn, e2, by rw [e3]; exact Nat.le_refl _⟩
theorem new_set {Q : Value → Shared → Prop} (h : ∀ led : Bool, Q (.ref s.heap.objs.size) { s with heap := s.heap.push { cls := .type "set", dict := none, data := .set #[] 0 (.fresh 0 0 led) } }) : wpAny (model P w) A (newSet (.type "set")) Q E s :=
  wpAny_newSet_of (knd := strKind P w) fun led _ => h led
/-- the walk over a set that is not the changed one -/
theorem walk_seen (h1 : TSet P w s.heap a S n) (h3 : TSet P w s.heap r R k) {Q : Array (Int × Value) → Shared → Prop}
    (h : ∀ (arr : Array (Int × Value)) (d : Drawn), Walked P w S arr.toList → arr.size = n → Q arr { s with drawn := d }) :
    wpAny (model P w) A (setWalkUnseen a [r] none) Q E s := by
  obtain ⟨oa, es, ep, t, ho, hex, hd, hel, hmem, hlt, hf, hn⟩ := id h1
  unfold setWalkUnseen
  refine wpAny_bind (wpAny_setState_of ho hd hf ?_)
  dsimp only
  refine wpAny_bind (wpAny_byText ?_)
  by_cases c : (w.params.followText "set-order" || (t.led && t.plain) || decide (es.size ≤ 1)) = true
  · rw [if_pos c]
    unfold setWalk
    refine wpAny_bind (wpAny_setState_of ho hd hf ?_)
    dsimp only
    refine wpAny_bind (wpAny_byText ?_)
    by_cases hbt : w.params.followText "set-order" = true
    · refine wp_if_pos hbt ?_
      refine wpAny_bind (wpAny_askSetting (wpAny_pure ?_))
      exact h _ s.drawn (walked_of hel hmem hlt (pick_perm _ es)) (by rw [← Array.length_toList, (pick_perm _ es).length_eq, Array.length_toList]; exact hn)
    · refine wp_if_neg hbt ?_
      by_cases hdr : (!t.plain && decide (es.size > 1)) = true
      · refine wp_if_pos hdr ?_
        refine wpAny_bind (drawOrder_at _ _ _ _ (by rw [Array.length_toList]; exact Nat.le_refl _) fun ys d hy => ?_)
        exact wpAny_pure (h _ d (walked_of hel hmem hlt hy) (by rw [List.size_toArray, hy.length_eq, Array.length_toList]; exact hn))
      · refine wp_if_neg hdr ?_
        have hled : ¬ (!t.led && decide (es.size > 1)) = true := by
          intro z
          simp only [Bool.and_eq_true, Bool.not_eq_true', decide_eq_true_eq] at z
          simp only [Bool.or_eq_true, Bool.and_eq_true, decide_eq_true_eq] at c
          rcases c with (c | c) | c
          · exact hbt c
          · rw [c.1] at z
            cases z.1
          · omega
        refine wpAny_bind (wpAny_of_eq (a := ()) ?_ ?_)
        · show (if (!t.led && decide (es.size > 1)) = true then unsupported "set:maker-not-led" else pure ()) = pure ()
          rw [if_neg hled]
        · exact wpAny_pure (h _ s.drawn (walked_of hel hmem hlt (List.Perm.refl _)) hn)
  · rw [if_neg c]
    refine wpAny_bind (quiet_texts2 h1 h3 ?_)
    refine wp_if_neg (by simp) ?_
    refine wpAny_bind (wpAny_rule ?_)
    exact wpAny_pure (h es s.drawn (walked_of hel hmem hlt (List.Perm.refl _)) hn)
theorem erase_list {α : Type} (xs : Array α) (j : Nat) : (SetTable.eraseAt xs j).toList = xs.toList.take j ++ xs.toList.drop (j + 1) := by
  unfold SetTable.eraseAt
  rw [Array.toList_append, Array.toList_extract, Array.toList_extract]
  simp [List.extract_eq_drop_take, List.take_of_length_le]
theorem erase_size {α : Type} (xs : Array α) {j : Nat} (h : j < xs.size) : (SetTable.eraseAt xs j).size + 1 = xs.size := by
  rw [← Array.length_toList, erase_list, List.length_append, List.length_take, List.length_drop, Array.length_toList]
  omega
theorem insert_size {α : Type} (xs : Array α) (j : Nat) (x : α) (h : j ≤ xs.size) : (SetTable.insertAt xs j x).size = xs.size + 1 := by
  unfold SetTable.insertAt
  simp
  omega
theorem below_le (xs : Array Nat) (j : Nat) : SetTable.below xs j ≤ xs.size := by
  have go : ∀ f lo hi, lo ≤ hi → hi ≤ xs.size → SetTable.below.go xs j f lo hi ≤ xs.size := by
    intro f
    induction f with
    | zero =>
      intro lo hi h1 h2
      unfold SetTable.below.go
      omega
    | succ f ih =>
      intro lo hi h1 h2
      unfold SetTable.below.go
      split
      · dsimp only
        split
        · exact ih _ _ (by omega) h2
        · exact ih _ _ (by omega) (by omega)
      · omega
  exact go _ _ _ (Nat.zero_le _) (Nat.le_refl _)
/-- one more is taken out, perhaps -/
theorem discard_at {M c : Nat} {z : Str} {t : Tok} (h1 : TM P w s.heap r R k M c) {Q : Bool → Shared → Prop}
    (h : ∀ (b : Bool) (h' : Heap) (R' : Str → Bool) (k' : Nat), Heap.SameBut r s.heap h' → TM P w h' r R' k' M (c + 1) → k ≤ k' + 1 → Q b { s with heap := h' }) :
    wpAny (model P w) A (setDiscardHashed r (.str z t) ((strKind P w).hash z)) Q E s := by
  obtain ⟨o, es, ep, tb, ho, hex, hd, hel, hmem, hlt, hf, hn, hM, hc⟩ := id h1
  unfold setDiscardHashed setFind setFindIn
  refine wpAny_bind (wpAny_bind (wpAny_setState_of ho hd hf ?_))
  dsimp only
  rw [byScan_of (knd := strKind P w) rfl hlt hel]
  simp only [↓reduceIte]
  refine wpAny_bind (wpAny_rule ?_)
  refine wpAny_bind (wpAny_setScan_of (knd := strKind P w) (k := z) (strKind_is _ _ _ _) ho hd hf hel ?_)
  cases hr : List.findIdx? (fun e => (strKind P w).is z e.2) es.toList with
  | none =>
    dsimp only
    refine wpAny_pure (wpAny_pure ?_)
    exact h false s.heap R k (Heap.SameBut.refl r s.heap) ⟨o, es, ep, tb, ho, hex, hd, hel, hmem, hlt, hf, hn, hM, Nat.le_succ_of_le hc⟩ (Nat.le_succ _)
  | some j =>
    dsimp only
    obtain ⟨hj, _, _⟩ := List.findIdx?_eq_some_iff_getElem.mp hr
    rw [Array.length_toList] at hj
    rw [Nat.zero_add]
    refine wpAny_pure ?_
    dsimp only
    refine wpAny_bind (wpAny_setState_of ho hd hf ?_)
    dsimp only
    have hsz := erase_size es hj
    obtain ⟨p1, p2⟩ : tb.place.size = es.size ∧ tb.fill ≤ tb.mask := by
      simp only [SetTable.fits, Bool.and_eq_true, beq_iff_eq, decide_eq_true_eq] at hf
      exact hf
    have hjp : j < tb.place.size := by omega
    have hdrop : tb.drop j = { tb with place := SetTable.eraseAt tb.place j, dummies := SetTable.insertAt tb.dummies (SetTable.below tb.dummies tb.place[j]) tb.place[j] } := by
      unfold SetTable.drop
      rw [Array.getElem?_eq_getElem hjp]
    have hdz : (tb.drop j).dummies.size = tb.dummies.size + 1 := by
      rw [hdrop]
      exact insert_size _ _ _ (below_le _ _)
    have hpz : (tb.drop j).place.size + 1 = tb.place.size := by
      rw [hdrop]
      exact erase_size _ hjp
    have hmz : (tb.drop j).mask = tb.mask := by rw [hdrop]
    have hfit : (tb.drop j).fits (SetTable.eraseAt es j).size = true := by
      unfold SetTable.fits SetTable.fill
      unfold SetTable.fill at p2
      simp only [Bool.and_eq_true, beq_iff_eq, decide_eq_true_eq]
      rw [hmz]
      omega
    have hlt' : (SetTable.eraseAt es j).size < scanBound := by omega
    have hel' : ElemsOf (strKind P w) (SetTable.eraseAt es j).toList := fun e he => by
      rw [erase_list] at he
      refine hel e ?_
      rcases List.mem_append.mp he with q | q
      · exact List.mem_of_mem_take q
      · exact List.mem_of_mem_drop q
    refine wpAny_bind (wpAny_storeSet_of ho hd ?_ (fits_of_scanBound hlt'))
    refine wpAny_bind (wpAny_point (wpAny_pure ?_))
    have hmem' : ∀ y, (SetTable.eraseAt es j).toList.any (fun e => (strKind P w).is y e.2) = true ↔ ∃ e ∈ (SetTable.eraseAt es j).toList, (strKind P w).is y e.2 = true := fun y => by rw [List.any_eq_true]
    obtain ⟨hg, _⟩ := SetOf_store (knd := strKind P w) (S' := fun y => (SetTable.eraseAt es j).toList.any fun e => (strKind P w).is y e.2) (t' := tb.drop j) ho hex hd hel' hmem' hlt' hfit
    exact h true _ _ (SetTable.eraseAt es j).size (Heap.SameBut.update s.heap r _) ⟨_, _, _, _, hg, hex, rfl, hel', hmem', hlt', hfit, rfl, hmz.trans hM, by omega⟩ (by omega)
/-- all of another set are taken out of the set at r -/
theorem update_at {M : Nat} {id' : String} (h1 : TM P w s.heap r R k M 0) (h2 : TSet P w s.heap o T m) (nro : o ≠ r) (hmk : ¬ m / 8 > k) (hM : m ≤ M / 4) {Q : Unit → Shared → Prop}
    (h : ∀ (h' : Heap) (R' : Str → Bool) (k' : Nat) (d : Drawn) (t : Nat), Heap.SameBut r s.heap h' → TSet P w h' r R' k' → k ≤ k' + m → Q () { s with heap := h', drawn := d, toks := t }) :
    wpAny (model P w) A (Builtin.Frozenset.differenceUpdate id' r (.ref o)) Q E s := by
  unfold Builtin.Frozenset.differenceUpdate
  refine wp_if_neg (by simpa using nro) ?_
  refine wpAny_bind (any_set h2 ?_)
  dsimp only
  refine wp_if_pos rfl ?_
  refine wpAny_bind (m := Builtin.Frozenset.addrOf (.ref o)) (wpAny_pure ?_)
  refine wpAny_bind (size_of h2 ?_)
  refine wpAny_bind (size_of h1.t ?_)
  refine wp_if_neg hmk ?_
  refine wpAny_bind (epoch_of h2 fun ep unch => ?_)
  refine wpAny_bind (wpAny_holding ?_)
  refine wpAny_bind (walk_seen h2 h1.t fun arr d wk hsz => ?_)
  refine wpAny_bind (wpAny_forIn_array' _ (fun rest b s' => (∀ e ∈ rest, ∃ z t, e.2 = Value.str z t ∧ e.1 = (strKind P w).hash z ∧ T z = true) ∧ ∃ (hh : Heap) (tk : Nat) (R' : Str → Bool) (k' c : Nat), s' = { s with heap := hh, drawn := d, toks := tk } ∧
      Heap.SameBut r s.heap hh ∧ TM P w hh r R' k' M c ∧ c + rest.length ≤ m ∧ k ≤ k' + c) _ ?_ ?_ _ _ ?_)
  · rintro ⟨hv, x⟩ rest b s' ⟨he, hh, tk, R', k', c, rfl, sb, gR, hc, hk⟩
    obtain ⟨z, t, e2, e1, hz⟩ := he _ List.mem_cons_self
    dsimp only at e2 e1
    subst e2 e1
    rw [List.length_cons] at hc
    refine wpAny_bind (wpAny_holding ?_)
    refine discard_at (s := { s with heap := hh, drawn := d, toks := tk }) gR fun b2 h' R2 k2 sb2 g2 hk2 => ?_
    have sb3 := sb.trans sb2
    have u1 := @unch { s with heap := h', drawn := d, toks := tk } (fun u e => (sb3.2 o nro).trans e)
    exact wpAny_bind (u1 _ (wpAny_pure ⟨fun e h => he e (List.mem_cons_of_mem _ h), h', tk, R2, k2, c + 1, rfl, sb3, g2, by omega, by omega⟩))
  · rintro b s' ⟨_, hh, tk, R', k', c, rfl, sb, gR, hc, hk⟩
    refine wpAny_pure ?_
    obtain ⟨o', es, ep', tb, ho, hex, hd, hel, hmem, hlt, hf, hn, hMm, hcc⟩ := id gR
    unfold setTidy
    refine wpAny_bind (wpAny_setState_of (s := { s with heap := hh, drawn := d, toks := tk }) ho hd hf ?_)
    dsimp only
    rw [List.length_nil] at hc
    refine wp_if_neg ?_ (wpAny_pure (h hh R' k' d tk sb gR.t (by omega)))
    unfold SetTable.tooManyDummies
    rw [hMm]
    simp
    omega
  · refine ⟨wk.1, s.heap, s.toks, R, k, 0, rfl, Heap.SameBut.refl r s.heap, h1, ?_, Nat.le_add_right _ _⟩
    rw [Array.length_toList, hsz]
    omega
/-- where the first set is much larger -/
theorem diff_far {id' : String} (h1 : TSet P w s.heap a S n) (h2 : TSet P w s.heap o T m) (hnm : n / 4 > m) (h12 : n ≤ 12) {Q : Value → Shared → Prop}
    (h : ∀ (p : Addr) (R : Str → Bool) (j : Nat) (h' : Heap) (d : Drawn) (t : Nat), s.heap.get? p = none → (∀ b u, s.heap.get? b = some u → h'.get? b = some u) → TSet P w h' p R j → n ≤ j + m → Q (.ref p) { s with heap := h', drawn := d, toks := t }) :
    wpAny (model P w) A (Builtin.Frozenset.difference id' a (.ref o)) Q E s := by
  unfold Builtin.Frozenset.difference
  dsimp only
  refine wpAny_bind (any_set h2 ?_)
  refine wp_if_neg (by simp) ?_
  refine wpAny_bind (m := Builtin.Frozenset.addrOf (.ref o)) (wpAny_pure ?_)
  refine wp_if_neg (by simp) ?_
  refine wp_if_pos rfl ?_
  refine wpAny_bind (size_of h2 ?_)
  refine wpAny_bind (size_of h1 ?_)
  refine wp_if_pos hnm ?_
  refine wpAny_bind (wpAny_rule ?_)
  unfold Builtin.Frozenset.copyOf
  refine wpAny_bind (wpAny_bind (base_of h1 ?_))
  refine wpAny_bind (new_set fun led => ?_)
  have hlt1 := h1.lt
  have hlt2 := h2.lt
  have hnew : s.heap.get? s.heap.objs.size = none := Heap.get?_none_of_le (Nat.le_refl _)
  have hget : (s.heap.push { cls := .type "set", dict := none, data := .set #[] 0 (.fresh 0 0 led) }).get? s.heap.objs.size = some { cls := .type "set", dict := none, data := .set #[] 0 (.fresh 0 0 led) } := Heap.get?_push_size _ rfl
  generalize hr : s.heap.objs.size = r at *
  refine wpAny_bind (m := Builtin.Frozenset.addrOf (.ref r)) (wpAny_pure ?_)
  have kp : ∀ b u, s.heap.get? b = some u → (s.heap.push { cls := .type "set", dict := none, data := .set #[] 0 (.fresh 0 0 led) }).get? b = some u := fun b u e => Heap.get?_push_of_some _ e
  generalize s.heap.push { cls := .type "set", dict := none, data := .set #[] 0 (.fresh 0 0 led) } = hp at *
  have g1 : TSet P w hp a S n := h1.keep fun u e => kp _ _ e
  have g2 : TSet P w hp o T m := h2.keep fun u e => kp _ _ e
  have nra : r ≠ a := (Nat.ne_of_lt hlt1).symm
  have nro : o ≠ r := Nat.ne_of_lt hlt2
  refine wpAny_bind (merge_at (s := { s with heap := hp }) g1 (by omega) h12 hget nra fun h' M hM hM8 sb gM => ?_)
  refine wpAny_pure ?_
  refine wpAny_bind (m := Builtin.Frozenset.addrOf (.ref r)) (wpAny_pure ?_)
  have g2' : TSet P w h' o T m := g2.keep fun u e => (sb.2 o nro).trans e
  have hmM : m ≤ M / 4 := by
    rcases hM with z | z | z
    · by_cases q : 8 ≤ n
      · rw [hM8 q]
        omega
      · omega
    · omega
    · omega
  refine wpAny_bind (wpAny_holding (update_at (s := { s with heap := h' }) gM g2' nro (by omega) hmM fun h2 R' k' d t sb2 gR hk => ?_))
  refine wpAny_pure (h r R' k' h2 d t hnew (fun b u e => ?_) gR hk)
  have nb : b ≠ r := fun z => by
    rw [z, hnew] at e
    cases e
  exact (sb2.2 b nb).trans ((sb.2 b nb).trans (kp b u e))
end
end Qk

set_option maxRecDepth 100000
set_option maxHeartbeats 4000000
namespace Qk
open PySem PySem.Spec PyProof.Rows L2
/-! ### sets of texts over the layer -/
def SetX (P : Program) (w : World) (a : Addr) (S : Str → Bool) (n : Nat) : HO := .ext fun h => TSet P w h a S n
theorem setX_new {P : Program} {w : World} {H : Hp} {h : Heap} {a : Addr} {S : Str → Bool} {n : Nat} (R : TSet P w h a S n) : ObjOk P w H h a (SetX P w a S n) := by
  have ⟨o, _, _, _, ho, _⟩ := R
  exact ⟨R, ⟨o, ho⟩, fun h1 h2 p k => TSet.keep p fun u e => k u e⟩
theorem entry_set_sub : entryFor table "set.__sub__" = some Builtin.«frozenset.__sub__» :=
  entryFor_alias (id' := "frozenset.__sub__") (by kernel_rfl) rfl (by decide +kernel) (by kernel_rfl)
section
variable {P : Program} {w : World} {A : Around} {E : Value → Shared → Prop} {s : Shared} {a o : Addr} {S T : Str → Bool} {n m : Nat}
theorem sub_call (h1 : TSet P w s.heap a S n) (h2 : TSet P w s.heap o T m) {Q : Value → Shared → Prop} (h : ∀ {A : Around} {E : Value → Shared → Prop} (id' : String), wpAny (model P w) A (Builtin.Frozenset.difference id' a (.ref o)) Q E s) :
    wpAny (model P w) A (call (.builtin "set.__sub__") [.ref a, .ref o]) Q E s := by
  refine wpAny_call_entry PySem.F.slot_set_sub h1.typeIs entry_set_sub ?_ (PySem.F.args_set_sub_2 _ _)
  unfold Builtin.«frozenset.__sub__»
  show wpAny (model P w) A.in1 (do
    let (self, other) ← Builtin.Frozenset.slot1 "__sub__" ⟨[.ref a, .ref o], []⟩
    let (l, r) := if false then (other, self) else (self, other)
    if !(← (Builtin.Frozenset.isAnySet l <&&> Builtin.Frozenset.isAnySet r)) then
      rule s!"frozenset.{"__sub__"}.declined"
      return ← ret .notImplemented
    ret (← Builtin.Frozenset.difference s!"frozenset.{"__sub__"}" (← Builtin.Frozenset.addrOf l) r)) _ _ _
  refine wpAny_bind (wpAny_of_eq (a := ((Value.ref a : Value), (Value.ref o : Value))) (by first | rfl | (simp only [Builtin.Frozenset.slot1, slotArgs]; rfl)) ?_)
  dsimp only
  refine wpAny_bind ?_
  unfold andM
  refine wpAny_bind (any_set h1 ?_)
  refine any_set h2 ?_
  refine wp_if_neg (by simp) ?_
  refine wpAny_bind (m := Builtin.Frozenset.addrOf (.ref a)) (wpAny_pure ?_)
  refine wpAny_bind (wpAny_mono (h _) (fun v s' hv => ?_) fun _ _ z => z)
  exact wpAny_pure ⟨_, rfl, hv⟩
end
/-- one - other, sets of texts -/
def rSub (P : Program) (w : World) : R2 := fun x y H Q => ∃ (a b : Addr) (S T : Str → Bool) (n m : Nat), x = .ref a ∧ y = .ref b ∧ H a = some (SetX P w a S n) ∧ H b = some (SetX P w b T m) ∧ n ≤ 12 ∧ ((∀ z, S z = true → T z = true) → n ≤ m) ∧
  ∀ (p : Addr) (U : Str → Bool) (j : Nat), H p = none → (j = 0 ↔ ∀ z, S z = true → T z = true) → Q (.ref p) (upd H p (SetX P w p U j))
section
variable {X : Cx}
theorem op_subX : OpR X (binaryOp .Sub) (rSub X.prog X.w) := by
  intro pins s σ H x y v u Q I rx ry h
  obtain ⟨a, b, S, T, n, m, rfl, rfl, ha, hb, h12, hc, q⟩ := h
  cases rx
  cases ry
  have h1 : TSet X.prog X.w s.heap a S n := (I.hok a _ ha).1
  have h2 : TSet X.prog X.w s.heap b T m := (I.hok b _ hb).1
  refine wpAny_binaryOp_same (T := "set") h1.typeIs h2.typeIs PySem.F.fills_set_sub PySem.F.slot_set_sub (sub_call h1 h2 fun id' => ?_)
  have fin : ∀ (p : Addr) (U : Str → Bool) (j : Nat) (h' : Heap) (d : Drawn) (t : Nat), s.heap.get? p = none → (∀ b u, s.heap.get? b = some u → h'.get? b = some u) → TSet X.prog X.w h' p U j → (j = 0 ↔ ∀ z, S z = true → T z = true) →
      Value.ref p ≠ .notImplemented ∧ EP X pins σ Q (.ref p) { s with heap := h', drawn := d, toks := t } := fun p U j h' d t hp k g e => by
    have hn : H p = none := I.hok.gone hp
    have J : Inv X pins σ (upd H p (SetX X.prog X.w p U j)) { s with heap := h', toks := t } := I.laidN k hp hn (setX_new g)
    exact ⟨(by intro z; cases z), .ref p, _, ⟨J.ok, J.os, J.bare, J.base, J.loc, J.cell, J.free, J.freeC, J.pin, J.hok, J.len⟩, rfl, q p U j hn e⟩
  by_cases c : n / 4 > m
  · refine diff_far h1 h2 c h12 fun p U j h' d t hp k g hj => fin p U j h' d t hp k g ⟨fun z => ?_, fun z => ?_⟩
    · omega
    · have := hc z
      omega
  · refine diff_near h1 h2 c fun p j h' d t hp k g => fin p _ j h' d t hp k g ?_
    obtain ⟨o, es, ep, tb, g1, g2, g3, g4, g5, g6, g7, g8⟩ := g
    constructor
    · intro z y hy
      cases hT : T y with
      | true => rfl
      | false =>
        obtain ⟨e, he, _⟩ := (g5 y).mp (by show (S y && !T y) = true; rw [hy, hT]; rfl)
        have := List.length_pos_of_mem he
        rw [Array.length_toList] at this
        omega
    · intro z
      rcases Nat.eq_zero_or_pos j with r | r
      · exact r
      · exfalso
        have hl : 0 < es.toList.length := by rw [Array.length_toList]; omega
        obtain ⟨⟨y, hy, _⟩, _⟩ := g4 _ (List.getElem_mem hl)
        have : (S y && !T y) = true := (g5 y).mpr ⟨_, List.getElem_mem hl, hy⟩
        rw [Bool.and_eq_true] at this
        rw [z y this.1] at this
        cases this.2
end
end Qk

set_option maxRecDepth 100000
set_option maxHeartbeats 4000000
namespace Qk
open PySem PySem.Spec PyProof.Rows L2
/-! ### set(xs) of a tuple of texts, len of it -/
section
variable {P : Program} {w : World} {A : Around} {R : Result → Shared → Prop} {I : Addr} {fp wr : List Addr} {G : Array GenState → Array GenState → Prop} {n : Nat} {Pv : Nat → Value → Prop} {St : Nat → Shared → Prop}
/-- what stands after i turns -/
def Fill (P : Program) (w : World) (xs : List Str) (S : Addr) (i : Nat) (h : Heap) : Prop := ∃ j, TSet P w h S (fun z => decide (z ∈ xs.take i)) j ∧ j ≤ i ∧ (xs.Nodup → j = i) ∧ (j = i → (xs.take i).Nodup)
theorem fill_loop (W : WalksS P w A.in1 I fp wr G n Pv St) (S : Addr) (hSf : S ∉ fp) (xs : List Str) (hsz : xs.length = n) (hn1 : n ≤ 1000) (hval : ∀ i v, Pv i v → ∃ t, v = .str (xs.getD i Str.empty) t) :
    ∀ (k i : Nat) (s : Shared), n - i = k → i ≤ n → St i s → Fill P w xs S i s.heap → (∀ s', Moved (S :: wr) G s s' → Fill P w xs S n s'.heap → R (.ok (.ret .none)) s') →
      codeAny (model P w) A (.builtin "set.update.loop" ⟨[.ref S, .ref I], []⟩) R s := by
  have hSw : S ∉ wr := fun h => hSf (W.sub _ h)
  have hsub : ∀ b ∈ wr, b ∈ S :: wr := fun b hb => List.mem_cons_of_mem _ hb
  have same : ∀ {s s' : Shared} {i : Nat}, Moved wr G s s' → Fill P w xs S i s.heap → Fill P w xs S i s'.heap := fun hm ⟨j, g, q⟩ => ⟨j, g.keep fun u e => hm.heap S _ hSw e, q⟩
  intro k
  induction k with
  | zero =>
    intro i s hk hi hst hS hR
    obtain rfl : i = n := by omega
    refine codeAny_builtin PyProof.Rows.F.entry_set_update_loop ?_
    rw [Around.under_plainId PyProof.Rows.F.plain_set_update_loop _]
    exact wpAny_bind (m := pyNext (.ref I)) (W.done s _ _ hst fun s' hm => wpAny_pure (hR s' (hm.mono hsub) (same hm hS)))
  | succ k ih =>
    intro i s hk hi hst hS hR
    have hlt : i < n := by omega
    refine codeAny_builtin PyProof.Rows.F.entry_set_update_loop ?_
    rw [Around.under_plainId PyProof.Rows.F.plain_set_update_loop _]
    refine wpAny_bind (m := pyNext (.ref I)) (W.item i s _ _ hlt hst fun v s' hP hst' hm => ?_)
    obtain ⟨t, rfl⟩ := hval i v hP
    obtain ⟨j, g, hj, hnd, hdn⟩ := same hm hS
    show wpAny _ A.in1 (holding [Value.str (xs.getD i Str.empty) t] (setAdd S (.str (xs.getD i Str.empty) t)) >>= _) _ _ s'
    refine wpAny_bind (wpAny_holding ?_)
    unfold setAdd
    refine wpAny_holding (wpAny_bind ((strKind P w).pyHash (k := xs.getD i Str.empty) (strKind_is _ _ _ _) ?_))
    refine wpAny_setAddHashed_of (knd := strKind P w) (s := { s' with toks := s'.toks + 1 }) (strKind_is _ _ _ _) rfl g (by unfold scanBound; omega) fun h' hsb g2 => ?_
    have hx : xs[i]? = some (xs.getD i Str.empty) := by
      rw [List.getD_eq_getElem?_getD, List.getElem?_eq_getElem (by omega)]
      rfl
    have ht : xs.take (i + 1) = xs.take i ++ [xs.getD i Str.empty] := by rw [List.take_add_one, hx]; rfl
    have g3 : Fill P w xs S (i + 1) h' := by
      refine ⟨_, SetOf_congr g2 (fun z => ?_) rfl, by split <;> omega, fun nd => ?_, fun e => ?_⟩
      · rw [ht]
        simp [Bool.decide_or]
      · have hni : xs.getD i Str.empty ∉ xs.take i := by
          have nd2 : (xs.take (i + 1)).Nodup := nd.sublist (List.take_sublist _ _)
          rw [ht] at nd2
          exact fun z => (List.nodup_append.mp nd2).2.2 _ z _ (List.mem_singleton.mpr rfl) rfl
        rw [if_neg (by simpa using hni), hnd nd]
      · split at e
        · omega
        · rename_i hni
          rw [ht, List.nodup_append]
          refine ⟨hdn (by omega), by simp, fun a ha b hb => ?_⟩
          rw [List.mem_singleton.mp hb]
          rintro rfl
          exact hni (by simpa using ha)
    refine wpAny_pure ⟨plainId_quiet PyProof.Rows.F.plain_set_update_loop _, ih (i + 1) _ (by omega) hlt (W.frame _ s' _ _ hst' (Nat.le_succ _) fun b hb o e => ?_) g3 fun s'' hm'' hS'' => ?_⟩
    · rw [hsb.2 b (fun h : b = S => hSf (by rw [← h]; exact hb))]
      exact e
    · refine hR s'' (Moved.trans W.gtrans ((hm.mono hsub).then_heap (Nat.le_succ _) fun b o hb e => ?_) hm'') hS''
      rw [hsb.2 b (fun h : b = S => hb (by rw [h]; exact List.mem_cons_self))]
      exact e
end
section
variable {P : Program} {w : World} {A : Around} {E : Value → Shared → Prop} {s : Shared}
set_option maxHeartbeats 3200000 in
theorem set_tuple {l : Addr} {items : Array Value} {xs : List Str} {Q : Value → Shared → Prop} (hh : A.handled = none) (hl : s.heap.IsTuple l items) (hi : PyProof.Rows.StrsAre items.toList xs) (hn1 : xs.length ≤ 1000)
    (h : ∀ (h' : Heap) (tk : Nat), Fill P w xs s.heap.objs.size items.size h' → (∀ b o, s.heap.get? b = some o → h'.get? b = some o) → Q (.ref s.heap.objs.size) { s with heap := h', toks := tk }) :
    wpAny (model P w) A (call (.type "set") [.ref l]) Q E s := by
  obtain ⟨c, tl, hmro⟩ := PySem.F.called_set.mro
  have hmade := PySem.F.called_set.made
  have hsub := PySem.F.called_set.sub
  refine wpAny_call (codeAny_of_tree ?_)
  show wpAny _ _ (callAny (.type "set") _) _ _ _
  refine wpAny_pure ⟨Code.quiet_builtin _ (by decide +kernel), codeAny_builtin PySem.F.entry_type_call ?_⟩
  rw [Around.under_plain (weight_type_call_type "set" [.ref l] []) rfl]
  have q1 := PySem.F.called_set.notType
  have q2 := PySem.F.called_set.canCreate
  have q3 := PySem.F.typeCall_set_1 (.ref l)
  repeat (any_goals (first | assumption | wp_step))
  obtain ⟨N, hN⟩ : ∃ N, N = s.heap.objs.size := ⟨_, rfl⟩
  refine codeAny_mono (code_set_new_1 (.ref l) (E := E) (Q₁ := fun v s₁ => ∃ led : Bool, v = .ref s.heap.objs.size ∧ s₁ = { s with heap := s.heap.push { cls := .type "set", dict := none, data := .set #[] 0 (.fresh 0 0 led) } }) fun led => ⟨led, rfl, rfl⟩) fun r s₁ hr => ?_
  cases r with
  | error e => exact hr
  | ok fl =>
    cases fl with
    | ret v =>
      obtain ⟨led, rfl, rfl⟩ := hr
      have hS : (s.heap.push { cls := .type "set", dict := none, data := .set #[] 0 (.fresh 0 0 led) }).get? s.heap.objs.size = some { cls := .type "set", dict := none, data := .set #[] 0 (.fresh 0 0 led) } := Heap.get?_push_size _ rfl
      have hT : Shared.TypeIs { s with heap := s.heap.push { cls := .type "set", dict := none, data := .set #[] 0 (.fresh 0 0 led) } } (.ref s.heap.objs.size) "set" := ⟨_, hS, rfl⟩
      have q4 := PySem.F.called_set.init.lookup
      have q5 := PySem.F.called_set.init.bind (.ref s.heap.objs.size)
      repeat (any_goals (first | assumption | wp_step))
      refine codeAny_mono (codeAny_call_builtin (R := wants (fun r s₂ => r = .none ∧ ∃ h' tk, s₂ = { s with heap := h', toks := tk } ∧ Fill P w xs s.heap.objs.size items.size h' ∧ (∀ b o, s.heap.get? b = some o → h'.get? b = some o)) E)
        PySem.F.called_set.init.plain PySem.F.entry_set_init (check_set_init_1 hT ?_)) fun r₂ s₂ hr₂ => ?_
      · have hlS : l < s.heap.objs.size := by
          obtain ⟨ol, hol, _⟩ := hl
          exact Heap.lt_size hol
        have hl1 : (s.heap.push { cls := .type "set", dict := none, data := .set #[] 0 (.fresh 0 0 led) }).IsTuple l items := hl.push _
        obtain ⟨ol, hol, hcl, nl, hdl⟩ := hl1
        obtain ⟨ocls, odict, odata, oslots⟩ := ol
        simp only at hcl hdl
        subst hcl; subst hdl
        have hol' := hol
        have q6 := PySem.F.sub_tuple_set
        have q7 := PySem.F.sub_tuple_frozenset
        have q8 : (Value.type "tuple" == Value.type "dict") = false := by decide
        have hl1 : (s.heap.push { cls := .type "set", dict := none, data := .set #[] 0 (.fresh 0 0 led) }).IsTuple l items := ⟨_, hol, rfl, nl, rfl⟩
        unfold Builtin.«set.__init__» noKeywords Builtin.Frozenset.updateFrom
        generalize hPI : pyIter = PI
        wp_walk
        subst hPI
        refine wpAny_pyIter_tuple hl1 ?_
        refine wpAny_bind (wpAny_runValue ?_)
        have hh3 : A.in1.in1.in1.handled = none := by simp [hh]
        have hps : (s.heap.push { cls := .type "set", dict := none, data := .set #[] 0 (.fresh 0 0 led) }).objs.size = s.heap.objs.size + 1 := Heap.size_push _ _
        have hneI : l ≠ (s.heap.push { cls := .type "set", dict := none, data := .set #[] 0 (.fresh 0 0 led) }).objs.size := by
          rw [hps]
          exact Nat.ne_of_lt (Nat.lt_succ_of_lt hlS)
        have hSf : s.heap.objs.size ∉ [(s.heap.push { cls := .type "set", dict := none, data := .set #[] 0 (.fresh 0 0 led) }).objs.size, l] := by
          rw [hps]
          simp only [List.mem_cons, List.not_mem_nil, or_false, not_or]
          exact ⟨Nat.ne_of_lt (Nat.lt_succ_self _), Nat.ne_of_gt hlS⟩
        have hsz : xs.length = items.size := by rw [← StrsAre.len_eq hi, Array.length_toList]
        have hval : ∀ (i : Nat) (v : Value), items[i]? = some v → ∃ t, v = .str (xs.getD i Str.empty) t := fun i v hv => SS.strs_at hi i v (by rw [Array.getElem?_toList]; exact hv)
        refine fill_loop ((Walks.tuple hh3 _ l hneI items).toS) s.heap.objs.size hSf xs hsz (by rw [← hsz]; exact hn1) hval (items.size - 0) 0 _ (by omega) (Nat.zero_le _)
          ⟨⟨_, Heap.get?_push_size _ rfl, rfl, rfl⟩, (hl1.push _)⟩ ?hS0 ?hR
        case hS0 =>
          have hget : ((s.heap.push { cls := .type "set", dict := none, data := .set #[] 0 (.fresh 0 0 led) }).push { cls := .type "tuple_iterator", data := .fields #[.ref l, .int 0 0] }).get? s.heap.objs.size
              = some { cls := .type "set", dict := none, data := .set #[] 0 (.fresh 0 0 led) } := Heap.get?_push_of_some _ hS
          exact ⟨0, SetOf_congr ((setObjOf_fresh (knd := strKind P w) led).setOf hget (by unfold scanBound; omega)) (fun z => by simp) rfl, Nat.le_refl _, fun _ => rfl, fun _ => by simp⟩
        case hR =>
          intro s' hm hF
          obtain ⟨h', g', d', tk', os'⟩ := s'
          have eg : g' = s.gens := hm.gens
          have ed : d' = s.drawn := hm.drawn
          have eo : os' = s.os := hm.os
          subst eg; subst ed; subst eo
          show wpAny _ _ _ _ _ _
          refine wpAny_pure ?_
          show wpAny _ _ (ret Value.none) _ _ _
          refine wpAny_pure ⟨rfl, h', tk', rfl, hF, fun b o e => ?_⟩
          have hb := Heap.lt_size e
          refine hm.heap b o ?_ (Heap.get?_push_of_some _ (Heap.get?_push_of_some _ e))
          rw [hps]
          simp only [List.mem_cons, List.mem_singleton, List.not_mem_nil, or_false, not_or]
          exact ⟨Nat.ne_of_lt hb, Nat.ne_of_lt (Nat.lt_succ_of_lt hb)⟩
      · cases r₂ with
        | error e => exact hr₂
        | ok fl₂ =>
          cases fl₂ with
          | ret r =>
            obtain ⟨rfl, h', tk, rfl, hF, hk'⟩ := hr₂
            repeat (any_goals (first | assumption | wp_step))
            exact h _ _ hF hk'
          | _ => exact hr₂.elim
    | _ => exact hr.elim
end
/-- set(xs), xs a tuple of texts -/
def rSetX (K : PySem.W.Frag) (P : Program) (w : World) : List V → Hp → VK → Prop := fun vs H Q => ∃ (l : Addr) (xs : List Str), vs = [.ref l] ∧ SqT K H l (xs.map V.str) ∧ xs.length ≤ 1000 ∧
  ∀ (p : Addr) (n : Nat), H p = none → n ≤ xs.length → (xs.Nodup → n = xs.length) → Q (.ref p) (upd H p (SetX P w p (fun z => decide (z ∈ xs)) n))
def rLenX (P : Program) (w : World) : List V → Hp → VK → Prop := fun vs H Q => ∃ (a : Addr) (S : Str → Bool) (n : Nat), vs = [.ref a] ∧ H a = some (SetX P w a S n) ∧ Q (.int (n : Int)) H
section
variable {X : Cx}
theorem set_any (hc : X.calm = true) {pins : List (Addr × Obj)} {σ : L2.St} {H : Hp} {s : Shared} {l : Addr} {xs : List Str} {Q : VK} (I : Inv X pins σ H s) (hq : SqT X.K H l (xs.map V.str)) (hz : xs.length ≤ 1000)
    (q : ∀ (p : Addr) (n : Nat), H p = none → n ≤ xs.length → (n = xs.length ↔ xs.Nodup) → Q (.ref p) (upd H p (SetX X.prog X.w p (fun z => decide (z ∈ xs)) n))) :
    wpAny (model X.prog X.w) X.A (call (.type "set") [.ref l]) (EP X pins σ Q) X.xe s := by
  obtain ⟨its, rv, pl, _⟩ := I.tuple hq
  have hlen : its.toArray.size = xs.length := by rw [List.size_toArray, ← rv.length, List.length_map]
  refine set_tuple (I.ok.hd hc) pl (by simpa using strsAre_of rv) hz fun h' tk ⟨j, g, hj, hnd, hdn⟩ hk => ?_
  rw [hlen] at g hj hnd hdn
  rw [List.take_of_length_le (Nat.le_refl _)] at g hdn
  have hn : H s.heap.objs.size = none := I.hok.fresh (Nat.le_refl _)
  exact ⟨.ref _, _, I.laidN hk (Heap.get?_none_of_le (Nat.le_refl _)) hn (setX_new g), rfl, q _ j hn hj ⟨hdn, hnd⟩⟩
theorem cr_setX (hc : X.calm = true) : CallR X (.type "set") (rSetX X.K X.prog X.w) := by
  intro pins s σ H vs us Q I r h
  obtain ⟨l, xs, rfl, hq, hz, q⟩ := h
  obtain ⟨u, rfl, rx⟩ := vals1 r
  cases rx
  exact set_any hc I hq hz fun p n hp hn e => q p n hp hn e.mpr
/-- set(xs), xs a tuple of texts: as many as there are just if each stands once -/
def rSetY (K : PySem.W.Frag) (P : Program) (w : World) : List V → Hp → VK → Prop := fun vs H Q => ∃ (l : Addr) (xs : List Str), vs = [.ref l] ∧ SqT K H l (xs.map V.str) ∧ xs.length ≤ 1000 ∧
  ∀ (p : Addr) (n : Nat), H p = none → n ≤ xs.length → (n = xs.length ↔ xs.Nodup) → Q (.ref p) (upd H p (SetX P w p (fun z => decide (z ∈ xs)) n))
theorem cr_setY (hc : X.calm = true) : CallR X (.type "set") (rSetY X.K X.prog X.w) := by
  intro pins s σ H vs us Q I r h
  obtain ⟨l, xs, rfl, hq, hz, q⟩ := h
  obtain ⟨u, rfl, rx⟩ := vals1 r
  cases rx
  exact set_any hc I hq hz q
theorem cr_lenX : CallR X (.builtin "len") (rLenX X.prog X.w) := by
  intro pins s σ H vs us Q I r h
  obtain ⟨a, S, n, rfl, ha, q⟩ := h
  obtain ⟨u, rfl, rx⟩ := vals1 r
  cases rx
  have g : TSet X.prog X.w s.heap a S n := (I.hok a _ ha).1
  obtain ⟨o, es, ep, t, ho, hex, hd, _, _, hlt, hf, hn⟩ := g
  refine call_len_set ho hex hd hf (by unfold scanBound at hlt; omega) ⟨.int n, H, I.tok _, ⟨_, by rw [hn]⟩, q⟩
end
end Qk

set_option maxRecDepth 100000
set_option maxHeartbeats 4000000
namespace Qk
open PySem PySem.Spec PyProof.Rows L2
def top (i : Nat) : Stmt := PySem.Challenge.pw_narrowkeys_k13_questions_told.main.body.getD i (.Pass ⟨0, 0, 0, 0⟩)
abbrev sRow : Stmt := top 1
abbrev sCols : Stmt := top 2
abbrev sWidth : Stmt := top 3
abbrev sPlain : Stmt := top 4
abbrev sBelow : Stmt := top 5
abbrev sCan : Stmt := top 6
abbrev sBag : Stmt := top 8
abbrev sTake : Stmt := top 9
abbrev sOne : Stmt := top 10
abbrev sMixed : Stmt := top 11
abbrev sNames : Stmt := top 12
abbrev sQuestion : Stmt := top 13
abbrev sBeginning : Stmt := top 14
abbrev sAll : Stmt := top 15
abbrev sLBelow : Stmt := top 16
abbrev sLShare : Stmt := top 17
abbrev sAlike : Stmt := top 18
abbrev sRight : Stmt := top 19
abbrev sLaw : Stmt := top 20
structure Txt (K : PySem.W.Frag) (mg : Str → Option Value) : Prop where
  len : mg "len" = none
  int : mg "int" = none
  abs : mg "abs" = none
  tuple : mg "tuple" = none
  sorted : mg "sorted" = none
  range : mg "range" = none
  repr : mg "repr" = none
  list : mg "list" = none
  set : mg "set" = none
section
variable {P : Program} {w : World} {K : PySem.W.Frag} {mg : Str → Option Value} {base : Heap}
/-- all columns of a question, ascending -/
def allC (cols : List Str) (e : Str) : List Str := if e = "" then cols else srt (cols ++ [e])
theorem srt_self {xs : List Str} (h : sortedS xs = true) : srt xs = xs := (srt_eq (List.Perm.refl _) h).symm
theorem mem_all {cols : List Str} {e z : Str} (h : z ∈ allC cols e) : z ∈ cols ∨ (z = e ∧ e ≠ "") := by
  unfold allC at h
  split at h
  · exact .inl h
  · rename_i ne
    have := (srt_perm _).mem_iff.mp h
    rcases List.mem_append.mp this with q | q
    · exact .inl q
    · exact .inr ⟨List.mem_singleton.mp q, ne⟩
theorem all_len {cols : List Str} {e : Str} : (allC cols e).length ≤ cols.length + 1 := by
  unfold allC
  split
  · omega
  · rw [srt_len, List.length_append]
    simp
/-- a question as k13 has it -/
structure QZ (cols : List Str) (e : Str) : Prop where
  m : QM cols e
  ne : e ∉ cols
  le : cols.length + (if e = "" then 0 else 1) ≤ 12
theorem QZ.all_nd {cols : List Str} {e : Str} (h : QZ cols e) : (allC cols e).Nodup := by
  unfold allC
  split
  · exact h.m.nd
  · refine (srt_perm _).nodup_iff.mpr ?_
    rw [List.nodup_append]
    exact ⟨h.m.nd, by simp, fun a ha b hb => by rw [List.mem_singleton.mp hb]; exact fun q => h.ne (q ▸ ha)⟩
theorem QZ.all_le {cols : List Str} {e : Str} (h : QZ cols e) : (allC cols e).length ≤ 12 := by
  have := h.le
  unfold allC
  split
  · rename_i q
    rw [if_pos q] at this
    omega
  · rename_i q
    rw [if_neg q] at this
    rw [srt_len, List.length_append]
    simpa using this
theorem QZ.menu {cols : List Str} {e : Str} (h : QZ cols e) : ∀ z ∈ allC cols e, z ∈ menu := fun z hz => by
  rcases mem_all hz with q | ⟨rfl, ne⟩
  · exact h.m.sub _ q
  · exact h.m.esub.resolve_left ne
theorem nodup_len : ∀ (l D : List Str), l.Nodup → (∀ x ∈ l, x ∈ D) → l.length ≤ D.length
  | [], _, _, _ => Nat.zero_le _
  | x :: l, D, hn, hs => by
    obtain ⟨h1, h2⟩ := List.nodup_cons.mp hn
    have hx : x ∈ D := hs x List.mem_cons_self
    have ih := nodup_len l (D.erase x) h2 fun y hy => (List.mem_erase_of_ne (by rintro rfl; exact h1 hy)).2 (hs y (List.mem_cons_of_mem _ hy))
    have e := List.length_erase_of_mem hx
    have hp : 0 < D.length := List.length_pos_of_mem hx
    rw [List.length_cons]
    omega
theorem Qok.qz {xs cols : List Str} {e : Str} (h : Qok xs cols e) (R : Row xs) : QZ cols e := by
  refine ⟨h.qm R.sub, h.ne, ?_⟩
  have hsub : ∀ z ∈ (if e = "" then cols else cols ++ [e]), z ∈ xs := fun z hz => by
    split at hz
    · exact h.sub _ hz
    · rename_i ne
      rcases List.mem_append.mp hz with q | q
      · exact h.sub _ q
      · rw [List.mem_singleton.mp q]
        exact h.esub.resolve_left ne
  have hnd : (if e = "" then cols else cols ++ [e]).Nodup := by
    split
    · exact h.nd
    · rw [List.nodup_append]
      exact ⟨h.nd, by simp, fun a ha b hb => by rw [List.mem_singleton.mp hb]; exact fun q => h.ne (q ▸ ha)⟩
  have hle := nodup_len _ _ hnd hsub
  have := R.le
  split
  · rename_i q
    rw [if_pos q] at hle
    omega
  · rename_i q
    rw [if_neg q, List.length_append] at hle
    simp at hle
    omega
/-- the columns of a question as they stand -/
def rowC (cols : List Str) (e : Str) : List Str := if e = "" then cols else cols ++ [e]
theorem mem_row {cols : List Str} {e z : Str} : z ∈ rowC cols e ↔ z ∈ allC cols e := by
  unfold rowC allC
  split
  · exact Iff.rfl
  · exact (srt_perm _).mem_iff.symm
theorem row_len {cols : List Str} {e : Str} : (rowC cols e).length = (allC cols e).length := by
  unfold rowC allC
  split
  · rfl
  · rw [srt_len]
theorem QZ.row_le {cols : List Str} {e : Str} (h : QZ cols e) : (rowC cols e).length ≤ 12 := by
  rw [row_len]
  exact h.all_le
theorem QZ.row_nd {cols : List Str} {e : Str} (h : QZ cols e) : (rowC cols e).Nodup := by
  have := h.all_nd
  unfold rowC
  unfold allC at this
  split
  · rename_i q
    rw [if_pos q] at this
    exact this
  · rename_i q
    rw [if_neg q] at this
    exact (srt_perm _).nodup_iff.mp this
def spRow : Sp := fun vs H Q _ => ∃ (q : Addr) (cols : List Str) (e : Str), vs = [.ref q] ∧ QAt H q cols e ∧ QZ cols e ∧ ∀ (t : Addr) (H' : Hp), Same H H' → H' t = some (.tup ((rowC cols e).map V.str)) → Q (.ref t) H'
theorem scRow : FnScope ["question", "columns", "last"] ["question"] (defScope sRow) := ⟨rfl, rfl, rfl, by decide +kernel, rfl, by decide +kernel, by decide +kernel⟩
theorem ok_row {f : Addr} {fd : FuncData} (F : Fun K "row_of" "row_of" sRow f fd) (T : Txt K mg) : FnOk P w K mg base CX0 1 f fd ["question"] spRow := by
  refine F.ok scRow (fun vs H Q E h => ?_) (fun cdv A outer s H vs Q E hr h => ?_)
  · obtain ⟨q, cols, e, rfl, _⟩ := h
    rfl
  · obtain ⟨q, cols, e, rfl, ⟨c, hq, hc⟩, Z, k⟩ := h
    have nd := scRow.nd
    refine ⟨_, pss_cons (ps_asg (pv 0) (pg_tup (by rfl) (pgs_cons (pg_name (i := 1) nd rfl (Or.inl rfl)) (pgs_cons (pg_name (i := 2) nd rfl (Or.inl rfl)) pgs_nil))))
      (pss_cons (ps_if (pt_cmpR op_eq (pv 2) pe_str (nomark _)) (pss_one (ps_ret (pv 1))) pss_nil)
      (pss_one (ps_ret (pe_tup (StX.pa_star (pv 1) (pa_cons (pv 2) pa_nil)))))), ?_⟩
    refine ⟨_, rfl, q, _, rfl, SqT.of hq, rfl, _, _, rfl, _, _, rfl, rfl, _, rfl, rfl, _, rfl, ?_⟩
    by_cases he : e = ""
    · rw [decide_eq_true (congrArg V.str he)]
      refine iteT ?_
      refine ⟨_, rfl, k c H (Same.refl _) ?_⟩
      unfold rowC
      rw [if_pos he]
      exact hc
    · rw [decide_eq_false (fun h => he (by injection h))]
      refine iteF ?_
      have hz := Z.le
      rw [if_neg he] at hz
      refine ⟨_, rfl, c, _, rfl, .inl (SqT.of hc), _, rfl, ?_, fun d1 hd1 => ?_⟩
      · show (cols.map V.str ++ [V.str e]).length ≤ sizeLine
        rw [List.length_append, List.length_map, sizeLine_eq]
        simp
        omega
      refine k d1 _ (same_new hd1) ?_
      unfold rowC
      rw [if_neg he, List.map_append]
      exact upd_same
def spCols : Sp := fun vs H Q _ => ∃ (q : Addr) (cols : List Str) (e : Str), vs = [.ref q] ∧ QAt H q cols e ∧ QZ cols e ∧ ∀ (t : Addr) (H' : Hp), Same H H' → H' t = some (.tup ((allC cols e).map V.str)) → Q (.ref t) H'
theorem scCols : FnScope ["question"] ["question"] (defScope sCols) := ⟨rfl, rfl, rfl, by decide +kernel, rfl, by decide +kernel, by decide +kernel⟩
theorem ok_cols {f : Addr} {fd : FuncData} (F : Fun K "columns_of" "columns_of" sCols f fd) (T : Txt K mg) (cR : Cal P w K mg base 1 "row_of" ["question"] spRow) : FnOk P w K mg base CX0 2 f fd ["question"] spCols := by
  refine F.ok scCols (fun vs H Q E h => ?_) (fun cdv A outer s H vs Q E hr h => ?_)
  · obtain ⟨q, cols, e, rfl, _⟩ := h
    rfl
  · obtain ⟨q, cols, e, rfl, hq, Z, k⟩ := h
    refine ⟨_, pss_one (ps_ret (pe_callTy call_tuple_of (by rfl) T.tuple (by decide +kernel) (pa_cons (pe_callB cr_sortedST (by rfl) T.sorted (by decide +kernel)
      (pa_cons (pe_call cR.G hr rfl cR.m cR.kp cR.b .nil pass0 (pa_cons (pv 0) pa_nil)) pa_nil)) pa_nil))), ?_⟩
    refine ⟨_, rfl, q, cols, e, rfl, hq, Z, fun t H1 s1 ht => ⟨t, rowC cols e, rfl, .inr (SqT.of ht), by have := Z.row_le; omega, fun us d2 hu2 hs2 hd2 => ⟨d2, _, rfl, .inl ⟨SqL.of upd_same, fun d3 hd3 => ?_⟩⟩⟩⟩
    refine k d3 _ (s1.trans ((same_new hd2).trans (same_new hd3))) ?_
    have eu : us = allC cols e := by
      rw [srt_eq hu2 hs2]
      unfold allC rowC
      split
      · exact srt_self Z.m.srt
      · rfl
    rw [eu]
    exact upd_same
def spAll : Sp := fun vs H Q _ => ∃ (q : Addr) (cols : List Str) (e : Str), vs = [.ref q] ∧ QAt H q cols e ∧ QZ cols e ∧ ∀ (t : Addr) (H' : Hp), Same H H' → H' t = some (.lst ((allC cols e).map V.str)) → Q (.ref t) H'
theorem scAll : FnScope ["_law_question_here", "_law_found"] ["_law_question_here"] (defScope sAll) := ⟨rfl, rfl, rfl, by decide +kernel, rfl, by decide +kernel, by decide +kernel⟩
theorem ok_all {f : Addr} {fd : FuncData} (F : Fun K "_law_all" "_law_all" sAll f fd) (T : Txt K mg) : FnOk P w K mg base CX0 1 f fd ["_law_question_here"] spAll := by
  refine F.ok scAll (fun vs H Q E h => ?_) (fun cdv A outer s H vs Q E hr h => ?_)
  · obtain ⟨q, cols, e, rfl, _⟩ := h
    rfl
  · obtain ⟨q, cols, e, rfl, ⟨c, hq, hc⟩, Z, k⟩ := h
    have nd := scAll.nd
    refine ⟨_, pss_cons (ps_set (i := 1) nd rfl (Or.inl rfl) (pe_callTy call_list_of (by rfl) T.list (by decide +kernel) (pa_cons (pe_ix ix_tup (pv 0) pe_int fun _ _ => rfl) pa_nil)))
      (Evl.pss_cut (ps_if (pt_cmpR op_ne (pe_ix ix_tup (pv 0) pe_int fun _ _ => rfl) pe_str (nomark _))
        (pss_one (ps_expr (pe_bm PySem.F.plainAttrs_list PySem.F.slot_list_append PySem.F.type_list_append mt_append (pv 1) (pa_cons (pe_ix ix_tup (pv 0) pe_int fun _ _ => rfl) pa_nil)))) pss_nil)
      (pss_one (ps_ret (pe_callB cr_sortedST (by rfl) T.sorted (by decide +kernel) (pa_cons (pv 1) pa_nil))))), ?_⟩
    refine ⟨_, rfl, q, _, 0, _, rfl, rfl, SqT.of hq, rfl, c, _, rfl, .inr (SqT.of hc), fun p hp => ?_⟩
    have s1 : Same H _ := same_new (o := .lst (cols.map V.str)) hp
    have hz := Z.le
    refine ⟨fun σ' H' => ∃ zs : List Str, σ' = [some (.ref q), some (.ref p)] ∧ Same H H' ∧ H' p = some (.lst (zs.map V.str)) ∧ zs = (if e = "" then cols else cols ++ [e]), ?_, ?_⟩
    · refine ⟨_, rfl, q, _, 1, _, rfl, rfl, SqT.of (s1 _ _ hq), rfl, rfl, _, rfl, ?_⟩
      by_cases he : e = ""
      · rw [decide_eq_true (congrArg V.str he)]
        refine iteF ?_
        exact ⟨cols, rfl, s1, upd_same, by rw [if_pos he]⟩
      · rw [decide_eq_false (fun h => he (by injection h))]
        refine iteT ?_
        refine ⟨_, rfl, .inl ⟨rfl, _, SqL.of upd_same⟩, _, rfl, q, _, 1, _, rfl, rfl, SqT.of (s1 _ _ hq), rfl, p, _, _, rfl, rfl, upd_same, small1000 (by rw [List.length_map]; omega), ?_⟩
        refine ⟨cols ++ [e], rfl, fun b o hb => ?_, ?_, by rw [if_neg he]⟩
        · rw [upd_ne (ne_of_none hb hp)]
          exact s1 _ _ hb
        · rw [upd_same, List.map_append]
          rfl
    · rintro σ' H' ⟨zs, rfl, s2, hpl, rfl⟩
      refine ⟨_, rfl, p, _, rfl, .inl (SqL.of hpl), ?_, fun us d2 hu2 hs2 hd2 => ?_⟩
      · have := Z.m.le
        split
        · omega
        · rw [List.length_append]
          simp
          omega
      · refine k d2 _ (s2.trans (same_new hd2)) ?_
        have eu : us = allC cols e := by
          rw [srt_eq hu2 hs2]
          unfold allC
          split
          · exact srt_self Z.m.srt
          · rfl
        rw [eu]
        exact upd_same
def spWidth : Sp := fun vs H Q _ => ∃ (q : Addr) (cols : List Str) (e : Str), vs = [.ref q] ∧ QAt H q cols e ∧ QZ cols e ∧ ∀ (H' : Hp), Same H H' → Q (.int ((allC cols e).length : Int)) H'
theorem scWidth : FnScope ["question"] ["question"] (defScope sWidth) := ⟨rfl, rfl, rfl, by decide +kernel, rfl, by decide +kernel, by decide +kernel⟩
theorem ok_width {f : Addr} {fd : FuncData} (F : Fun K "width" "width" sWidth f fd) (T : Txt K mg) (cR : Cal P w K mg base 1 "row_of" ["question"] spRow) : FnOk P w K mg base CX0 2 f fd ["question"] spWidth := by
  refine F.ok scWidth (fun vs H Q E h => ?_) (fun cdv A outer s H vs Q E hr h => ?_)
  · obtain ⟨q, cols, e, rfl, _⟩ := h
    rfl
  · obtain ⟨q, cols, e, rfl, hq, Z, k⟩ := h
    refine ⟨_, pss_one (ps_ret (pe_callB call_len_seq (by rfl) T.len PySem.boot_len (pa_cons (pe_call cR.G hr rfl cR.m cR.kp cR.b .nil pass0 (pa_cons (pv 0) pa_nil)) pa_nil))), ?_⟩
    refine ⟨_, rfl, q, cols, e, rfl, hq, Z, fun t H' s1 ht => ⟨_, _, rfl, .inr (SqT.of ht), ?_⟩⟩
    rw [List.length_map, row_len]
    exact k H' s1
def spPlain : Sp := fun vs H Q _ => ∃ (q : Addr) (cols : List Str) (e : Str), vs = [.ref q] ∧ QAt H q cols e ∧ Q (.bl (decide (e = ""))) H
theorem scPlain : FnScope ["question"] ["question"] (defScope sPlain) := ⟨rfl, rfl, rfl, by decide +kernel, rfl, by decide +kernel, by decide +kernel⟩
theorem str_dec (a b : Str) : decide (V.str a = V.str b) = decide (a = b) := decide_eq_decide.mpr ⟨fun h => by injection h, fun h => congrArg V.str h⟩
theorem ok_plain {f : Addr} {fd : FuncData} (F : Fun K "is_plain" "is_plain" sPlain f fd) (T : Txt K mg) : FnOk P w K mg base CX0 1 f fd ["question"] spPlain := by
  refine F.ok scPlain (fun vs H Q E h => ?_) (fun cdv A outer s H vs Q E hr h => ?_)
  · obtain ⟨q, cols, e, rfl, _⟩ := h
    rfl
  · obtain ⟨q, cols, e, rfl, ⟨c, hq, hc⟩, k⟩ := h
    refine ⟨_, pss_one (ps_ret (pe_cmpR op_eq (pe_ix ix_tup (pv 0) pe_int fun _ _ => rfl) pe_str (nomark _))), ?_⟩
    refine ⟨_, rfl, q, _, 1, _, rfl, rfl, SqT.of hq, rfl, rfl, ?_⟩
    rw [str_dec]
    exact k
/-- what k13 asks of two questions -/
def belowQ (p q : Qd) : Bool := !decide (p = q) && decide (∀ z ∈ allC p.1 p.2, z ∈ q.1)
def shareQ (p q : Qd) : Bool := decide (p = q) || (belowQ p q || belowQ q p)
def spTwo (f : Qd → Qd → Bool) : Sp := fun vs H Q _ => ∃ (q r : Addr) (c1 : List Str) (e1 : Str) (c2 : List Str) (e2 : Str), vs = [.ref q, .ref r] ∧ QAt H q c1 e1 ∧ QAt H r c2 e2 ∧ QZ c1 e1 ∧ QZ c2 e2 ∧ ∀ H', Same H H' → Q (.bl (f (c1, e1) (c2, e2))) H'
theorem QZ.fine {cols : List Str} {e : Str} (h : QZ cols e) : Qfine (cols, e) := ⟨fun c hc => menu_okS _ (h.m.sub _ hc), h.m.esub.elim (fun q => by show okS e = true; rw [q]; exact okS_empty) (fun m => menu_okS _ m), h.m.le⟩
theorem scBelow : FnScope ["one", "other"] ["one", "other"] (defScope sBelow) := ⟨rfl, rfl, rfl, by decide +kernel, rfl, by decide +kernel, by decide +kernel⟩
theorem ok_below {f : Addr} {fd : FuncData} (F : Fun K "is_below" "is_below" sBelow f fd) (T : Txt K mg) (cR : Cal P w K mg base 1 "row_of" ["question"] spRow) : FnOk P w K mg base CX0 2 f fd ["one", "other"] (spTwo belowQ) := by
  refine F.ok scBelow (fun vs H Q E h => ?_) (fun cdv A outer s H vs Q E hr h => ?_)
  · obtain ⟨q, r, c1, e1, c2, e2, rfl, _⟩ := h
    rfl
  · obtain ⟨q, r, c1, e1, c2, e2, rfl, h1, h2, Z1, Z2, k⟩ := h
    refine ⟨_, pss_one (ps_ret (pe_and (pe_cmpR (op_neD hr.units) (pv 0) (pv 1) (nomark _)) (pe_one (pe_cmpR op_eq (pe_callB cr_lenX (by rfl) T.len PySem.boot_len
      (pa_cons (pe_op op_subX (pe_callTy (cr_setX rfl) (by rfl) T.set (by decide +kernel) (pa_cons (pe_call cR.G hr rfl cR.m cR.kp cR.b .nil pass0 (pa_cons (pv 0) pa_nil)) pa_nil))
        (pe_callTy (cr_setX rfl) (by rfl) T.set (by decide +kernel) (pa_cons (pe_ix ix_tup (pv 1) pe_int fun _ _ => rfl) pa_nil))) pa_nil)) pe_int (nomark _))))), ?_⟩
    refine ⟨_, rfl, _, rfl, dq (c1, e1), dq (c2, e2), dp_q h1, dp_q h2, (dok_q Z1.fine).shaped, (dok_q Z2.fine).shaped, _, rfl, ?_⟩
    have kk := k
    unfold belowQ at kk
    rw [eqv_q]
    by_cases he : ((c1, e1) : Qd) = (c2, e2)
    · rw [decide_eq_true he]
      refine iteF ?_
      have := kk H (Same.refl _)
      rw [decide_eq_true he] at this
      exact this
    · rw [decide_eq_false he] at kk ⊢
      refine iteT ?_
      refine ⟨_, rfl, q, c1, e1, rfl, h1, Z1, fun t H1 s1 ht => ⟨t, rowC c1 e1, rfl, SqT.of ht, by have := Z1.row_le; omega, fun p n hp hn hnd => ?_⟩⟩
      have s2 := s1.trans (same_new (o := SetX P w p (fun z => decide (z ∈ rowC c1 e1)) n) hp)
      obtain ⟨c, hq2, hc2⟩ := h2.same s2
      refine ⟨_, rfl, r, _, 0, _, rfl, rfl, SqT.of hq2, rfl, c, c2, rfl, SqT.of hc2, by have := Z2.m.le; omega, fun p2 n2 hp2 hn2 hnd2 => ?_⟩
      have s3 := s2.trans (same_new (o := SetX P w p2 (fun z => decide (z ∈ c2)) n2) hp2)
      have en := hnd Z1.row_nd
      have en2 := hnd2 Z2.m.nd
      refine ⟨p, p2, _, _, n, n2, rfl, rfl, same_new hp2 _ _ upd_same, upd_same, by have := Z1.row_le; omega, fun hs => ?_, fun p3 U j hp3 hj => ?_⟩
      · rw [en, en2]
        exact nodup_len _ _ Z1.row_nd fun z hz => by simpa using hs z (by simpa using hz)
      refine ⟨p3, U, j, rfl, upd_same, rfl, ?_⟩
      have s4 := s3.trans (same_new (o := SetX P w p3 U j) hp3)
      have e5 : decide (V.int (j : Int) = V.int 0) = decide (∀ z ∈ rowC c1 e1, z ∈ c2) := by
        refine decide_eq_decide.mpr ⟨fun h => ?_, fun h => ?_⟩
        · have h0 : j = 0 := by
            injection h with h
            omega
          intro z hz
          simpa using hj.mp h0 z (by simpa using hz)
        · rw [hj.mpr fun z hz => by simpa using h z (by simpa using hz)]
          rfl
      have e6 : decide (∀ z ∈ rowC c1 e1, z ∈ c2) = decide (∀ z ∈ allC c1 e1, z ∈ c2) := decide_eq_decide.mpr ⟨fun h z hz => h z (mem_row.mpr hz), fun h z hz => h z (mem_row.mp hz)⟩
      rw [e5, e6]
      have := kk _ s4
      exact this
theorem scCan : FnScope ["one", "other"] ["one", "other"] (defScope sCan) := ⟨rfl, rfl, rfl, by decide +kernel, rfl, by decide +kernel, by decide +kernel⟩
theorem ok_can {f : Addr} {fd : FuncData} (F : Fun K "can_share" "can_share" sCan f fd) (T : Txt K mg) (cB : Cal P w K mg base 2 "is_below" ["one", "other"] (spTwo belowQ)) : FnOk P w K mg base CX0 3 f fd ["one", "other"] (spTwo shareQ) := by
  refine F.ok scCan (fun vs H Q E h => ?_) (fun cdv A outer s H vs Q E hr h => ?_)
  · obtain ⟨q, r, c1, e1, c2, e2, rfl, _⟩ := h
    rfl
  · obtain ⟨q, r, c1, e1, c2, e2, rfl, h1, h2, Z1, Z2, k⟩ := h
    refine ⟨_, pss_one (ps_ret (pe_or (pe_cmpR (op_eqD hr.units) (pv 0) (pv 1) (nomark _)) (pe_or (pe_call cB.G hr rfl cB.m cB.kp cB.b .nil pass0 (pa_cons (pv 0) (pa_cons (pv 1) pa_nil)))
      (pe_one (pe_call cB.G hr rfl cB.m cB.kp cB.b .nil pass0 (pa_cons (pv 1) (pa_cons (pv 0) pa_nil))))))), ?_⟩
    refine ⟨_, rfl, _, rfl, dq (c1, e1), dq (c2, e2), dp_q h1, dp_q h2, (dok_q Z1.fine).shaped, (dok_q Z2.fine).shaped, _, rfl, ?_⟩
    have kk := k
    unfold shareQ at kk
    rw [eqv_q]
    by_cases he : ((c1, e1) : Qd) = (c2, e2)
    · rw [decide_eq_true he] at kk ⊢
      refine iteT ?_
      exact kk H (Same.refl _)
    · rw [decide_eq_false he] at kk ⊢
      refine iteF ?_
      refine ⟨_, rfl, _, rfl, q, r, c1, e1, c2, e2, rfl, h1, h2, Z1, Z2, fun H1 s1 => ⟨_, rfl, ?_⟩⟩
      cases hb : belowQ (c1, e1) (c2, e2) with
      | true =>
        refine iteT ?_
        have := kk H1 s1
        rw [hb] at this
        exact this
      | false =>
        refine iteF ?_
        refine ⟨_, rfl, _, rfl, r, q, c2, e2, c1, e1, rfl, h2.same s1, h1.same s1, Z2, Z1, fun H2 s2 => ?_⟩
        have := kk H2 (s1.trans s2)
        rw [hb] at this
        exact this
theorem scLBelow : FnScope ["_law_one_here", "_law_other", "_law_column"] ["_law_one_here", "_law_other"] (defScope sLBelow) := ⟨rfl, rfl, rfl, by decide +kernel, rfl, by decide +kernel, by decide +kernel⟩
theorem ok_lbelow {f : Addr} {fd : FuncData} (F : Fun K "_law_below" "_law_below" sLBelow f fd) (T : Txt K mg) (cA : Cal P w K mg base 1 "_law_all" ["_law_question_here"] spAll) : FnOk P w K mg base CX0 2 f fd ["_law_one_here", "_law_other"] (spTwo belowQ) := by
  refine F.ok scLBelow (fun vs H Q E h => ?_) (fun cdv A outer s H vs Q E hr h => ?_)
  · obtain ⟨q, r, c1, e1, c2, e2, rfl, _⟩ := h
    rfl
  · obtain ⟨q, r, c1, e1, c2, e2, rfl, h1, h2, Z1, Z2, k⟩ := h
    have nd := scLBelow.nd
    refine ⟨_, pss_one (ps_ret (pe_and (pe_cmpR (op_neD hr.units) (pv 0) (pv 1) (nomark _)) (pe_one (pe_cmpR (op_eqD hr.units)
      (pe_lc (own := [("_law_column", 2)]) (g := gName 2) rfl nd (pi_list (pe_call cA.G hr rfl cA.m cA.kp cA.b .nil pass0 (pa_cons (pv 0) pa_nil))) (blkOk_by (N := ["_law_one_here", "_law_other", "_law_column"]) (sc := defScope sLBelow) (by decide +kernel))
        (fun _ _ _ _ _ => pg_name (i := 2) nd rfl (Or.inl rfl)) (fun _ _ _ _ _ => pts_one (pt_cmpR (r := rIn K true) op_notIn_seq (pv 2) (pe_ix (r := rIxT K) ix_tup (pv 1) pe_int fun _ _ => rfl) (by rfl))) (fun _ _ _ _ _ => pv 2))
      (pe_lst pa_nil) (nomark _))))), ?_⟩
    refine ⟨_, rfl, _, rfl, dq (c1, e1), dq (c2, e2), dp_q h1, dp_q h2, (dok_q Z1.fine).shaped, (dok_q Z2.fine).shaped, _, rfl, ?_⟩
    have kk := k
    unfold belowQ at kk
    rw [eqv_q]
    by_cases he : ((c1, e1) : Qd) = (c2, e2)
    · rw [decide_eq_true he]
      refine iteF ?_
      have := kk H (Same.refl _)
      rw [decide_eq_true he] at this
      exact this
    · rw [decide_eq_false he] at kk ⊢
      refine iteT ?_
      refine ⟨_, rfl, q, c1, e1, rfl, h1, Z1, fun t H1 s1 ht => ⟨t, rfl, ⟨_, SqL.of ht⟩, fun D hD => ?_⟩⟩
      have hal := Z1.all_le
      refine lc_list (K := K) (a := t) (xs := (allC c1 e1).map V.str) (fun i H' => Same H1 H' ∧ H' D = some (.lst ((((allC c1 e1).take i).filter fun z => !decide (z ∈ c2)).map V.str)))
        ⟨same_new hD, upd_same⟩ (fun i H' _ h => SqL.of (h.1 _ _ ht)) ?_ ?_
      · rintro i x H2 hi ⟨s2, hDl⟩
        obtain ⟨c, hq2, hc2⟩ := h2.same (s1.trans s2)
        rw [List.getElem?_map] at hi
        cases ez : (allC c1 e1)[i]? with
        | none => rw [ez] at hi; cases hi
        | some z =>
          rw [ez] at hi
          obtain rfl : V.str z = x := Option.some.inj hi
          have et : (allC c1 e1).take (i + 1) = (allC c1 e1).take i ++ [z] := by rw [List.take_add_one, ez]; rfl
          refine ⟨rfl, Exists.intro _ ⟨rfl, _, rfl, r, _, 0, _, rfl, rfl, SqT.of hq2, rfl, c, _, rfl, .inr (SqT.of hc2), rfl, flat_strs _, _, rfl, ?_⟩⟩
          show if (!inV (.str z) (c2.map V.str)) = true then _ else _
          rw [inV_strs]
          by_cases hm : z ∈ c2
          · rw [decide_eq_true hm]
            refine iteF ?_
            refine ⟨s2, ?_⟩
            rw [hDl, et, List.filter_append]
            simp [hm]
          · rw [decide_eq_false hm]
            refine iteT ?_
            refine ⟨_, rfl, _, hDl, small1000 ?_, fun b o hb => ?_, ?_⟩
            · have q1 := List.length_filter_le (fun z => !decide (z ∈ c2)) ((allC c1 e1).take i)
              rw [List.length_take] at q1
              rw [List.length_map]
              omega
            · rw [upd_ne (ne_of_none hb hD)]
              exact s2 _ _ hb
            · rw [upd_same, et, List.filter_append]
              simp [hm]
      · rintro H2 ⟨s2, hDl⟩
        rw [List.length_map, List.take_of_length_le (Nat.le_refl _)] at hDl
        refine ⟨by show 0 ≤ sizeLine; decide, fun p hp => ?_⟩
        have s3 := s2.trans (same_new (o := .lst []) hp)
        have hD2 := same_new (o := .lst []) hp _ _ hDl
        have okm : ∀ c ∈ (allC c1 e1).filter fun z => !decide (z ∈ c2), PyData.strOk c = true := fun c hc => menu_ok _ (Z1.menu _ (List.mem_filter.mp hc).1)
        refine ⟨.list (((allC c1 e1).filter fun z => !decide (z ∈ c2)).map PyData.str), .list (([] : List Str).map PyData.str), .lst (SqL.of hD2) (dp_strs _), .lst (SqL.of upd_same) (dp_strs []), shaped_list okm, shaped_list (fun c hc => by cases hc), ?_⟩
        rw [PyData.eqv, eqv_strs]
        have e5 : decide (((allC c1 e1).filter fun z => !decide (z ∈ c2)) = []) = decide (∀ z ∈ allC c1 e1, z ∈ c2) := by
          refine decide_eq_decide.mpr ?_
          rw [List.filter_eq_nil_iff]
          simp
        rw [e5]
        have := kk _ (s1.trans s3)
        exact this
theorem scLShare : FnScope ["_law_one_here", "_law_other"] ["_law_one_here", "_law_other"] (defScope sLShare) := ⟨rfl, rfl, rfl, by decide +kernel, rfl, by decide +kernel, by decide +kernel⟩
theorem ok_lshare {f : Addr} {fd : FuncData} (F : Fun K "_law_share" "_law_share" sLShare f fd) (T : Txt K mg) (cB : Cal P w K mg base 2 "_law_below" ["_law_one_here", "_law_other"] (spTwo belowQ)) : FnOk P w K mg base CX0 3 f fd ["_law_one_here", "_law_other"] (spTwo shareQ) := by
  refine F.ok scLShare (fun vs H Q E h => ?_) (fun cdv A outer s H vs Q E hr h => ?_)
  · obtain ⟨q, r, c1, e1, c2, e2, rfl, _⟩ := h
    rfl
  · obtain ⟨q, r, c1, e1, c2, e2, rfl, h1, h2, Z1, Z2, k⟩ := h
    refine ⟨_, pss_one (ps_ret (pe_or (pe_cmpR (op_eqD hr.units) (pv 0) (pv 1) (nomark _)) (pe_or (pe_call cB.G hr rfl cB.m cB.kp cB.b .nil pass0 (pa_cons (pv 0) (pa_cons (pv 1) pa_nil)))
      (pe_one (pe_call cB.G hr rfl cB.m cB.kp cB.b .nil pass0 (pa_cons (pv 1) (pa_cons (pv 0) pa_nil))))))), ?_⟩
    refine ⟨_, rfl, _, rfl, dq (c1, e1), dq (c2, e2), dp_q h1, dp_q h2, (dok_q Z1.fine).shaped, (dok_q Z2.fine).shaped, _, rfl, ?_⟩
    have kk := k
    unfold shareQ at kk
    rw [eqv_q]
    by_cases he : ((c1, e1) : Qd) = (c2, e2)
    · rw [decide_eq_true he] at kk ⊢
      refine iteT ?_
      exact kk H (Same.refl _)
    · rw [decide_eq_false he] at kk ⊢
      refine iteF ?_
      refine ⟨_, rfl, _, rfl, q, r, c1, e1, c2, e2, rfl, h1, h2, Z1, Z2, fun H1 s1 => ⟨_, rfl, ?_⟩⟩
      cases hb : belowQ (c1, e1) (c2, e2) with
      | true =>
        refine iteT ?_
        have := kk H1 s1
        rw [hb] at this
        exact this
      | false =>
        refine iteF ?_
        refine ⟨_, rfl, _, rfl, r, q, c2, e2, c1, e1, rfl, h2.same s1, h1.same s1, Z2, Z1, fun H2 s2 => ?_⟩
        have := kk H2 (s1.trans s2)
        rw [hb] at this
        exact this
theorem scAlike : FnScope ["_law_found", "_law_due"] ["_law_found", "_law_due"] (defScope sAlike) := ⟨rfl, rfl, rfl, by decide +kernel, rfl, by decide +kernel, by decide +kernel⟩
theorem ok_alike {f : Addr} {fd : FuncData} (F : Fun K "_law_alike" "_law_alike" sAlike f fd) (T : Txt K mg) : FnG P w K mg base 1 f fd ["_law_found", "_law_due"] (spAlikeD K) := by
  refine okG F scAlike (fun vs H Q E h => ?_) (fun cdv A outer s H vs Q E hr hg h => ?_)
  · obtain ⟨x, y, d, rfl, _⟩ := h
    rfl
  · obtain ⟨x, y, d, rfl, h1, h2, hd, k⟩ := h
    have lay := fine_lay d hd.f
    have hdp : d.depth ≤ 60 := Nat.le_trans hd.dp (by decide)
    refine ⟨_, pss_one (ps_ret (pe_and (pe_cmpR (op_eqD hr.units) (pv 0) (pv 1) (nomark _)) (pe_one (pe_cmpR op_eq (pe_callB (call_reprD hg hr.units) (by rfl) T.repr (by decide +kernel) (pa_cons (pv 0) pa_nil))
      (pe_callB (call_reprD hg hr.units) (by rfl) T.repr (by decide +kernel) (pa_cons (pv 1) pa_nil)) (nomark _))))), ?_⟩
    refine ⟨_, rfl, _, rfl, d, d, h1, h2, hd.shaped, hd.shaped, _, rfl, ?_⟩
    rw [SeqAt.eqv_refl d lay.1]
    refine iteT ?_
    refine ⟨_, rfl, x, d, rfl, h1, lay.2.1, lay.2.2, hd.len, hdp, _, rfl, y, d, rfl, h2, lay.2.1, lay.2.2, hd.len, hdp, rfl, ?_⟩
    show Q (.bl (decide (V.str d.shown = V.str d.shown))) H
    rw [decide_eq_true rfl]
    exact k
theorem dok_strsT {xs : List Str} (h : ∀ c ∈ xs, c ∈ menu) (hl : xs.length ≤ 100) : DOk (.tuple (xs.map PyData.str)) := dok_strs (fun c hc => menu_okS _ (h c hc)) hl
theorem dok_int {n : Nat} (h : n ≤ 100) : DOk (.int (n : Int)) := ⟨by show decide ((n : Int).natAbs < 1000000) = true; exact decide_eq_true (by omega), by show 0 ≤ 50; decide, by show 22 ≤ 1000000; decide⟩
theorem dok_bl (b : Bool) : DOk (.bool b) := ⟨rfl, by show 0 ≤ 50; decide, by show 5 ≤ 1000000; decide⟩
theorem dok_bl2 (a b : Bool) : DOk (.list [.bool a, .bool b]) := ⟨rfl, by cases a <;> cases b <;> decide, by cases a <;> cases b <;> decide⟩
theorem dok_bl3 (a b c : Bool) : DOk (.list [.bool a, .bool b, .bool c]) := ⟨rfl, by cases a <;> cases b <;> cases c <;> decide, by cases a <;> cases b <;> cases c <;> decide⟩
theorem share_comm (p q : Qd) : shareQ p q = shareQ q p := by
  unfold shareQ
  have : decide (p = q) = decide (q = p) := decide_eq_decide.mpr ⟨Eq.symm, Eq.symm⟩
  rw [this, Bool.or_comm (belowQ p q)]
theorem share_self (p : Qd) : shareQ p p = true := by
  unfold shareQ
  rw [decide_eq_true rfl]
  rfl
def spRight : Sp := fun vs H Q _ => ∃ (q r : Addr) (c1 : List Str) (e1 : Str) (c2 : List Str) (e2 : Str) (k : Nat), vs = [.ref q, .ref r, .int (k : Int)] ∧ k < 5 ∧ QAt H q c1 e1 ∧ QAt H r c2 e2 ∧ QZ c1 e1 ∧ QZ c2 e2 ∧ ∀ H', Same H H' → Q (.bl true) H'
theorem scRight : FnScope ["_law_one_here", "_law_other", "_law_way", "_law_due"] ["_law_one_here", "_law_other", "_law_way"] (defScope sRight) := ⟨rfl, rfl, rfl, by decide +kernel, rfl, by decide +kernel, by decide +kernel⟩
theorem ok_right {f : Addr} {fd : FuncData} (F : Fun K "_law_right" "_law_right" sRight f fd) (T : Txt K mg)
    (cC : Cal P w K mg base 2 "columns_of" ["question"] spCols) (cW : Cal P w K mg base 2 "width" ["question"] spWidth) (cP : Cal P w K mg base 1 "is_plain" ["question"] spPlain)
    (cB : Cal P w K mg base 2 "is_below" ["one", "other"] (spTwo belowQ)) (cS : Cal P w K mg base 3 "can_share" ["one", "other"] (spTwo shareQ))
    (cA : Cal P w K mg base 1 "_law_all" ["_law_question_here"] spAll) (cLB : Cal P w K mg base 2 "_law_below" ["_law_one_here", "_law_other"] (spTwo belowQ)) (cLS : Cal P w K mg base 3 "_law_share" ["_law_one_here", "_law_other"] (spTwo shareQ))
    (cL : CalG P w K mg base 1 "_law_alike" ["_law_found", "_law_due"] (spAlikeD K)) : FnG P w K mg base 4 f fd ["_law_one_here", "_law_other", "_law_way"] spRight := by
  refine okG F scRight (fun vs H Q E h => ?_) (fun cdv A outer s H vs Q E hr hg h => ?_)
  · obtain ⟨q, r, c1, e1, c2, e2, k, rfl, _⟩ := h
    rfl
  · obtain ⟨q, r, c1, e1, c2, e2, k, rfl, hk, h1, h2, Z1, Z2, kk⟩ := h
    have nd := scRight.nd
    have hr1 : Room 1 _ := hr.mono (by decide)
    have hr2 : Room 2 _ := hr.mono (by decide)
    refine ⟨_, pss_cons (ps_if (pt_cmpR op_eq (pv 2) pe_int (nomark _)) (pss_one (ps_ret (pe_callg cL.G hr1 hg rfl cL.m cL.kp cL.b (pa_cons (pe_call cC.G hr2 rfl cC.m cC.kp cC.b .nil pass0 (pa_cons (pv 0) pa_nil))
        (pa_cons (pe_callTy call_tuple_of (by rfl) T.tuple (by decide +kernel) (pa_cons (pe_call cA.G hr1 rfl cA.m cA.kp cA.b .nil pass0 (pa_cons (pv 0) pa_nil)) pa_nil)) pa_nil))))) pss_nil)
      (pss_cons (ps_if (pt_cmpR op_eq (pv 2) pe_int (nomark _)) (pss_one (ps_ret (pe_callg cL.G hr1 hg rfl cL.m cL.kp cL.b (pa_cons (pe_call cW.G hr2 rfl cW.m cW.kp cW.b .nil pass0 (pa_cons (pv 0) pa_nil))
        (pa_cons (pe_callB call_len_seq (by rfl) T.len PySem.boot_len (pa_cons (pe_call cA.G hr1 rfl cA.m cA.kp cA.b .nil pass0 (pa_cons (pv 0) pa_nil)) pa_nil)) pa_nil))))) pss_nil)
      (pss_cons (ps_if (pt_cmpR op_eq (pv 2) pe_int (nomark _)) (pss_one (ps_ret (pe_callg cL.G hr1 hg rfl cL.m cL.kp cL.b (pa_cons (pe_call cP.G hr1 rfl cP.m cP.kp cP.b .nil pass0 (pa_cons (pv 0) pa_nil))
        (pa_cons (pe_cmpR op_eq (pe_ix ix_tup (pv 0) pe_int fun _ _ => rfl) pe_str (nomark _)) pa_nil))))) pss_nil)
      (pss_cons (ps_if (pt_cmpR op_eq (pv 2) pe_int (nomark _))
        (pss_cons (ps_set (i := 3) nd rfl (Or.inl rfl) (pe_lst (pa_cons (pe_call cLB.G hr2 rfl cLB.m cLB.kp cLB.b .nil pass0 (pa_cons (pv 0) (pa_cons (pv 1) pa_nil))) (pa_cons (pe_call cLB.G hr2 rfl cLB.m cLB.kp cLB.b .nil pass0 (pa_cons (pv 1) (pa_cons (pv 0) pa_nil))) pa_nil))))
        (pss_one (ps_ret (pe_callg cL.G hr1 hg rfl cL.m cL.kp cL.b (pa_cons (pe_lst (pa_cons (pe_call cB.G hr2 rfl cB.m cB.kp cB.b .nil pass0 (pa_cons (pv 0) (pa_cons (pv 1) pa_nil))) (pa_cons (pe_call cB.G hr2 rfl cB.m cB.kp cB.b .nil pass0 (pa_cons (pv 1) (pa_cons (pv 0) pa_nil))) pa_nil)))
          (pa_cons (pv 3) pa_nil)))))) pss_nil)
      (pss_cons (ps_set (i := 3) nd rfl (Or.inl rfl) (pe_call cLS.G hr rfl cLS.m cLS.kp cLS.b .nil pass0 (pa_cons (pv 0) (pa_cons (pv 1) pa_nil))))
      (pss_one (ps_ret (pe_callg cL.G hr1 hg rfl cL.m cL.kp cL.b (pa_cons (pe_lst (pa_cons (pe_call cS.G hr rfl cS.m cS.kp cS.b .nil pass0 (pa_cons (pv 0) (pa_cons (pv 1) pa_nil))) (pa_cons (pe_call cS.G hr rfl cS.m cS.kp cS.b .nil pass0 (pa_cons (pv 1) (pa_cons (pv 0) pa_nil)))
        (pa_cons (pe_call cS.G hr rfl cS.m cS.kp cS.b .nil pass0 (pa_cons (pv 0) (pa_cons (pv 0) pa_nil))) pa_nil)))) (pa_cons (pe_lst (pa_cons (pv 3) (pa_cons (pv 3) (pa_cons pe_bl pa_nil)))) pa_nil))))))))), ?_⟩
    have hal := Z1.all_le
    have d0 : decide (V.int (k : Int) = V.int 0) = decide (k = 0) := decide_eq_decide.mpr ⟨fun h => by injection h with h; omega, fun h => by rw [h]; rfl⟩
    have d1 : decide (V.int (k : Int) = V.int 1) = decide (k = 1) := decide_eq_decide.mpr ⟨fun h => by injection h with h; omega, fun h => by rw [h]; rfl⟩
    have d2 : decide (V.int (k : Int) = V.int 2) = decide (k = 2) := decide_eq_decide.mpr ⟨fun h => by injection h with h; omega, fun h => by rw [h]; rfl⟩
    have d3 : decide (V.int (k : Int) = V.int 3) = decide (k = 3) := decide_eq_decide.mpr ⟨fun h => by injection h with h; omega, fun h => by rw [h]; rfl⟩
    refine ⟨_, rfl, rfl, _, rfl, ?_⟩
    rw [d0]
    by_cases k0 : k = 0
    · rw [decide_eq_true k0]
      refine iteT ?_
      refine ⟨_, rfl, q, c1, e1, rfl, h1, Z1, fun t H1 s1 ht => ⟨_, rfl, q, c1, e1, rfl, h1.same s1, Z1, fun p H2 s2 hp => ⟨p, _, rfl, .inl ⟨SqL.of hp, fun u hu => ?_⟩⟩⟩⟩
      exact ⟨_, _, .tuple ((allC c1 e1).map PyData.str), rfl, .tup (SqT.of (same_new hu _ _ (s2 _ _ ht))) (dp_strs _), .tup (SqT.of upd_same) (dp_strs _), dok_strsT Z1.menu (by omega), kk _ (s1.trans (s2.trans (same_new hu)))⟩
    rw [decide_eq_false k0]
    refine iteF ?_
    refine ⟨_, rfl, rfl, _, rfl, ?_⟩
    rw [d1]
    by_cases k1 : k = 1
    · rw [decide_eq_true k1]
      refine iteT ?_
      refine ⟨_, rfl, q, c1, e1, rfl, h1, Z1, fun H1 s1 => ⟨_, rfl, q, c1, e1, rfl, h1.same s1, Z1, fun p H2 s2 hp => ⟨_, _, rfl, .inl (SqL.of hp), ?_⟩⟩⟩
      rw [List.length_map]
      exact ⟨_, _, .int ((allC c1 e1).length : Int), rfl, .int _, .int _, dok_int (by omega), kk _ (s1.trans s2)⟩
    rw [decide_eq_false k1]
    refine iteF ?_
    refine ⟨_, rfl, rfl, _, rfl, ?_⟩
    rw [d2]
    by_cases k2 : k = 2
    · rw [decide_eq_true k2]
      refine iteT ?_
      obtain ⟨c, hq, hc⟩ := id h1
      refine ⟨_, rfl, q, c1, e1, rfl, h1, _, rfl, q, _, 1, _, rfl, rfl, SqT.of hq, rfl, rfl, ?_⟩
      rw [str_dec]
      exact ⟨_, _, .bool (decide (e1 = "")), rfl, .bl _, .bl _, dok_bl _, kk _ (Same.refl _)⟩
    rw [decide_eq_false k2]
    refine iteF ?_
    refine ⟨_, rfl, rfl, _, rfl, ?_⟩
    rw [d3]
    by_cases k3 : k = 3
    · rw [decide_eq_true k3]
      refine iteT ?_
      refine ⟨_, rfl, _, rfl, q, r, c1, e1, c2, e2, rfl, h1, h2, Z1, Z2, fun H1 s1 => ⟨_, rfl, _, rfl, r, q, c2, e2, c1, e1, rfl, h2.same s1, h1.same s1, Z2, Z1, fun H2 s2 => ⟨by show 2 ≤ sizeLine; decide, fun p hp => ?_⟩⟩⟩
      have s3 := s1.trans (s2.trans (same_new (o := .lst [.bl (belowQ (c1, e1) (c2, e2)), .bl (belowQ (c2, e2) (c1, e1))]) hp))
      refine ⟨_, rfl, _, rfl, q, r, c1, e1, c2, e2, rfl, h1.same s3, h2.same s3, Z1, Z2, fun H4 s4 => ⟨_, rfl, _, rfl, r, q, c2, e2, c1, e1, rfl, h2.same (s3.trans s4), h1.same (s3.trans s4), Z2, Z1, fun H5 s5 => ⟨by show 2 ≤ sizeLine; decide, fun p2 hp2 => ?_⟩⟩⟩
      have s6 := s4.trans (s5.trans (same_new (o := .lst [.bl (belowQ (c1, e1) (c2, e2)), .bl (belowQ (c2, e2) (c1, e1))]) hp2))
      exact ⟨_, rfl, _, _, .list [.bool (belowQ (c1, e1) (c2, e2)), .bool (belowQ (c2, e2) (c1, e1))], rfl, .lst (SqL.of upd_same) (.cons (.bl _) (.cons (.bl _) .nil)), .lst (SqL.of (s6 _ _ upd_same)) (.cons (.bl _) (.cons (.bl _) .nil)), dok_bl2 _ _, kk _ (s3.trans s6)⟩
    rw [decide_eq_false k3]
    refine iteF ?_
    refine ⟨_, rfl, _, rfl, q, r, c1, e1, c2, e2, rfl, h1, h2, Z1, Z2, fun H1 s1 => ?_⟩
    refine ⟨_, rfl, _, rfl, q, r, c1, e1, c2, e2, rfl, h1.same s1, h2.same s1, Z1, Z2, fun H2 s2 => ?_⟩
    have t2 := s1.trans s2
    refine ⟨_, rfl, _, rfl, r, q, c2, e2, c1, e1, rfl, h2.same t2, h1.same t2, Z2, Z1, fun H3 s3 => ?_⟩
    have t3 := t2.trans s3
    refine ⟨_, rfl, _, rfl, q, q, c1, e1, c1, e1, rfl, h1.same t3, h1.same t3, Z1, Z1, fun H4 s4 => ?_⟩
    have t4 := t3.trans s4
    rw [share_comm (c2, e2) (c1, e1), share_self]
    refine ⟨by show 3 ≤ sizeLine; decide, fun p hp => ⟨_, rfl, _, rfl, by show 3 ≤ sizeLine; decide, fun p2 hp2 => ?_⟩⟩
    exact ⟨_, _, .list [.bool (shareQ (c1, e1) (c2, e2)), .bool (shareQ (c1, e1) (c2, e2)), .bool true], rfl, .lst (SqL.of (same_new hp2 _ _ upd_same)) (.cons (.bl _) (.cons (.bl _) (.cons (.bl _) .nil))), .lst (SqL.of upd_same) (.cons (.bl _) (.cons (.bl _) (.cons (.bl _) .nil))), dok_bl3 _ _ _,
      kk _ (t4.trans ((same_new hp).trans (same_new hp2)))⟩
theorem scBag : FnScope ["_law_script", "_law_cell"] ["_law_script"] (defScope sBag) := ⟨rfl, rfl, rfl, by decide +kernel, rfl, by decide +kernel, by decide +kernel⟩
theorem ok_bag {f : Addr} {fd : FuncData} (F : Fun K "_law_bag" "_law_bag" sBag f fd) (T : Txt K mg) : FnOk P w K mg base CX0 1 f fd ["_law_script"] (spBag K) := by
  refine F.ok scBag (fun vs H Q E h => ?_) (fun cdv A outer s H vs Q E hr h => ?_)
  · obtain ⟨a, ns, rfl, _⟩ := h
    rfl
  · obtain ⟨a, ns, rfl, hS, hz, k⟩ := h
    have nd := scBag.nd
    refine ⟨_, pss_one (ps_ret (pe_lst (pa_cons pe_int (pa_cons pe_int (pa_cons pe_int (pa_cons (pe_lc (own := [("_law_cell", 1)]) (g := gName 1) (tt := tYes) rfl nd
      (pi_list (pe_slice sl_list (pv 0) po_none (po_some pe_int))) (blkOk_by (N := ["_law_script", "_law_cell"]) (sc := defScope sBag) (by decide +kernel)) (fun _ _ _ _ _ => pg_name (i := 1) nd rfl (Or.inl rfl)) (fun _ _ _ _ _ => pts_nil)
      (fun _ _ _ _ _ => pe_callB call_abs (by rfl) T.abs (by decide +kernel) (pa_cons (pv 1) pa_nil))) pa_nil)))))), ?_⟩
    refine ⟨_, rfl, _, rfl, a, _, rfl, hS, fun p hp => ⟨p, rfl, ⟨_, SqL.of upd_same⟩, fun D hD => ?_⟩⟩
    have e0 : cutV (ns.map V.int) none (some 63) = (ns.take 63).map V.int := (cut_to 63 _).trans List.map_take.symm
    have npD : p ≠ D := ne_of_none upd_same hD
    have s0 : Same H (upd H p (.lst (cutV (ns.map V.int) none (some 63)))) := same_new hp
    have nD : H D = none := s0.free hD
    refine lc_list (K := K) (a := p) (xs := (ns.take 63).map V.int) (fun i H' => Same H H' ∧ H' p = some (.lst ((ns.take 63).map V.int)) ∧ ∃ ms : List Int, H' D = some (.lst (ms.map V.int)) ∧ ms.length ≤ i ∧ ∀ n ∈ ms, 0 ≤ n)
      ⟨s0.trans (same_new hD), by rw [upd_ne npD, upd_same, e0], [], upd_same, Nat.le_refl _, by simp⟩ (fun i H' _ h => SqL.of h.2.1) ?_ ?_
    · rintro i x H' hi ⟨s1, h1, ms, h2, hl, hm⟩
      rw [List.getElem?_map] at hi
      cases e : (ns.take 63)[i]? with
      | none => rw [e] at hi; cases hi
      | some z =>
        rw [e] at hi
        obtain rfl : V.int z = x := Option.some.inj hi
        have hlt : i < 63 := by
          have := (List.getElem?_eq_some_iff.mp e).1
          rw [List.length_take] at this
          omega
        refine ⟨rfl, Exists.intro _ ⟨rfl, z, rfl, _, h2, by rw [List.length_map, sizeLine_eq]; omega, fun b o q => ?_, ?_, ms ++ [if z < 0 then -z else z], by rw [upd_same]; simp, by simp; omega, ?_⟩⟩
        · have : b ≠ D := ne_of_none q nD
          rw [upd_ne this]
          exact s1 _ _ q
        · rw [upd_ne npD]
          exact h1
        · intro n hn
          rcases List.mem_append.mp hn with hn | hn
          · exact hm n hn
          · obtain rfl := List.mem_singleton.mp hn
            split <;> omega
    · rintro H' ⟨s1, h1, ms, h2, hl, hm⟩
      refine ⟨by show 4 ≤ sizeLine; decide, fun q hq => ?_⟩
      have nDq : D ≠ q := ne_of_none h2 hq
      exact k q D _ (s1.free hq) ⟨0, 1234567891, 0, ms, upd_same, by rw [upd_ne nDq]; exact h2, nDq, by decide, by decide, by decide, hm⟩ (s1.trans (same_new hq))
theorem scTake : FnScope ["_law_bag_here", "_law_many", "_law_cell", "_law_mixed_here", "_law_drawn", "_law_begin", "_law_second"] ["_law_bag_here", "_law_many"] (defScope sTake) := ⟨rfl, rfl, rfl, by decide +kernel, rfl, by decide +kernel, by decide +kernel⟩
theorem ok_take {f : Addr} {fd : FuncData} (F : Fun K "_law_take" "_law_take" sTake f fd) (T : Txt K mg) : FnOk P w K mg base CX0 1 f fd ["_law_bag_here", "_law_many"] spTake := by
  refine F.ok scTake (fun vs H Q E h => ?_) (fun cdv A outer s H vs Q E hr h => ?_)
  · obtain ⟨b, l, n, rfl, _⟩ := h
    rfl
  · obtain ⟨b, l, n, rfl, B, n0, n1, k⟩ := h
    have nd := scTake.nd
    obtain ⟨h, m, p, ns, hb, hl, nlb, h0, m0, m1, hns⟩ := id B
    refine ⟨_, Evl.pss_cut (ps_if (pt_cmpR op_eq (pe_ix ix_list (pv 0) pe_int fun _ _ => rfl) pe_int (nomark _))
        (pss_cons (ps_set (i := 2) nd rfl (Or.inl rfl) pe_int)
        (Evl.pss_cut (ps_if (pt_cmpR op_lt (pe_ix ix_list (pv 0) pe_int fun _ _ => rfl) (pe_callB call_len_seq (by rfl) T.len PySem.boot_len (pa_cons (pe_ix ix_list (pv 0) pe_int fun _ _ => rfl) pa_nil)) (nomark _))
          (pss_one (ps_set (i := 2) nd rfl (Or.inl rfl) (pe_ix ix_list (pe_ix ix_list (pv 0) pe_int fun _ _ => rfl) (pe_ix ix_list (pv 0) pe_int fun _ _ => rfl) fun _ _ => rfl))) pss_nil)
        (pss_cons (ps_augS (pv 0) pe_int get_list pe_int ip_add set_list)
        (Evl.pss_cut (ps_if (pt_cmpR op_ge (pv 2) pe_int (nomark _)) (pss_one (ps_asg (pv 2) (pg_sub (pv 0) pe_int set_list))) pss_nil)
        (pss_cons (ps_set (i := 3) nd rfl (Or.inl rfl) (pe_op op_add (pe_op op_add (pe_op op_mul (pe_ix ix_list (pv 0) pe_int fun _ _ => rfl) pe_int)
            (pe_op op_mod (pe_callTy call_int1 (by rfl) T.int (by decide +kernel) (pa_cons (pv 2) pa_nil)) pe_int)) (pe_op op_mul pe_int (pe_ix ix_list (pv 0) pe_int fun _ _ => rfl))))
        (pss_one (ps_asg (pe_op op_mod (pe_callTy call_int1 (by rfl) T.int (by decide +kernel) (pa_cons (pv 3) pa_nil)) pe_int) (pg_sub (pv 0) pe_int set_list)))))))) pss_nil)
      (Evl.pss_cut (ps_if (pt_cmpR op_gt (pe_ix ix_list (pv 0) pe_int fun _ _ => rfl) pe_int (nomark _))
        (pss_cons (ps_set (i := 4) nd rfl (Or.inl rfl) (pe_op op_mod (pe_callTy call_int1 (by rfl) T.int (by decide +kernel) (pa_cons (pe_ix ix_list (pv 0) pe_int fun _ _ => rfl) pa_nil)) (pv 1)))
        (pss_cons (ps_asg (pe_op op_fdivN (pe_callTy call_int1 (by rfl) T.int (by decide +kernel) (pa_cons (pe_ix ix_list (pv 0) pe_int fun _ _ => rfl) pa_nil)) (pv 1)) (pg_sub (pv 0) pe_int set_list))
        (pss_one (ps_ret (pv 4))))) pss_nil)
      (pss_cons (ps_set (i := 5) nd rfl (Or.inl rfl) (pe_op op_mod (pe_callTy call_int1 (by rfl) T.int (by decide +kernel) (pa_cons (pe_op op_mul (pe_op op_add (pe_ix ix_list (pv 0) pe_int fun _ _ => rfl) pe_int) pe_int) pa_nil)) pe_int))
      (pss_cons (ps_set (i := 6) nd rfl (Or.inl rfl) (pe_op op_mod (pe_callTy call_int1 (by rfl) T.int (by decide +kernel) (pa_cons (pe_op op_mul (pe_op op_mod (pe_callTy call_int1 (by rfl) T.int (by decide +kernel) (pa_cons (pe_op op_mul (pv 5) (pv 5)) pa_nil)) pe_int) pe_int) pa_nil)) pe_int))
      (pss_one (ps_ret (pe_op op_mod (pe_callTy call_int1 (by rfl) T.int (by decide +kernel) (pa_cons (pe_op op_fdiv (pv 6) pe_int) pa_nil)) (pv 1)))))))
      , ?_⟩
    refine ⟨fun σ' H' => ∃ c2 c3, σ' = [some (.ref b), some (.int n), c2, c3, none, none, none] ∧ Bag H' b l ∧ Kp b H H', ?_, ?_⟩
    · refine ⟨_, rfl, b, _, _, _, rfl, rfl, SqL.of hb, rfl, rfl, _, rfl, ?_⟩
      refine ite2 (fun _ => ?_) (fun _ => ⟨_, _, rfl, B, Kp.refl _ _⟩)
      refine ⟨fun σ' H' => ∃ c : Int, 0 ≤ c ∧ σ' = [some (.ref b), some (.int n), some (.int c), none, none, none, none] ∧ H' = H, ?_, ?_⟩
      · refine ⟨_, rfl, b, _, _, _, rfl, rfl, SqL.of hb, rfl, _, rfl, b, _, _, _, rfl, rfl, SqL.of hb, rfl, _, _, rfl, .inl (SqL.of hl), _, _, rfl, rfl, _, rfl, ?_⟩
        refine ite2 (fun hc => ?_) (fun _ => ⟨0, Int.le_refl 0, rfl, rfl⟩)
        have hp : p < ns.length := by
          have := of_decide_eq_true hc
          rw [List.length_map] at this
          omega
        refine ⟨_, rfl, b, _, _, _, rfl, rfl, SqL.of hb, rfl, _, rfl, b, _, _, _, rfl, rfl, SqL.of hb, rfl, l, _, _, .int ns[p], rfl, rfl, SqL.of hl, atI_nat (by rw [List.getElem?_map, List.getElem?_eq_getElem hp]; rfl), ?_⟩
        exact ⟨ns[p], hns _ (List.getElem_mem hp), rfl, rfl⟩
      · rintro σ' H' ⟨c, hc, rfl, rfl⟩
        refine ⟨_, rfl, b, _, 2, _, rfl, rfl, SqL.of hb, rfl, _, _, rfl, rfl, b, _, _, 2, rfl, rfl, hb, rfl, ?_⟩
        have hl1 : (upd H' b (HO.lst [.int h, .int m, .int ((p + 1 : Nat) : Int), .ref l])) l = some (HO.lst (ns.map V.int)) := by rw [upd_ne nlb]; exact hl
        refine ⟨fun σ' H2 => ∃ h' : Int, 0 ≤ h' ∧ σ' = [some (.ref b), some (.int n), some (.int c), none, none, none, none] ∧ H2 b = some (.lst [.int h', .int m, .int ((p + 1 : Nat) : Int), .ref l]) ∧ Kp b H' H2, ?_, ?_⟩
        · refine ⟨_, rfl, _, _, rfl, rfl, _, rfl, ?_⟩
          refine ite2 (fun _ => ?_) (fun _ => ⟨h, h0, rfl, upd_same, Kp.at_ _ _ _⟩)
          refine ⟨_, rfl, _, rfl, b, _, 0, 0, rfl, rfl, upd_same, rfl, ?_⟩
          exact ⟨c, hc, rfl, upd_same, (Kp.at_ _ _ _).trans (Kp.at_ _ _ _)⟩
        · rintro σ' H2 ⟨h', h0', rfl, hb2, k2⟩
          have hl2 : H2 l = some (.lst (ns.map V.int)) := k2 _ _ hl nlb
          refine ⟨_, rfl, b, _, 1, _, rfl, rfl, SqL.of hb2, rfl, _, _, rfl, rfl, .inl ⟨by omega, by omega⟩, _, rfl, .inl ⟨_, rfl, _, _, rfl, rfl, (by show (0 : Int) < 2147483647; decide), _, _, rfl, rfl,
            _, rfl, b, _, 2, _, rfl, rfl, SqL.of hb2, rfl, _, _, rfl, rfl, .inl ⟨by decide, by decide⟩, _, _, rfl, rfl, _, rfl, .inl ⟨_, rfl, _, _, rfl, rfl, (by show (0 : Int) < 2147483647; decide), _, rfl, b, _, 1, 1, rfl, rfl, hb2, rfl, ?_⟩⟩⟩
          exact ⟨_, _, rfl, ⟨h', _, p + 1, ns, upd_same, (by rw [upd_ne nlb]; exact hl2), nlb, h0', Int.emod_nonneg _ (by decide), Int.emod_lt_of_pos _ (by decide), hns⟩, k2.trans (Kp.at_ _ _ _)⟩
    · rintro σ1 H1 ⟨c2, c3, rfl, B1, k1⟩
      clear hb hl hns h0 m0 m1
      obtain ⟨h, m, p, ns, hb, hl, nlb, h0, m0, m1, hns⟩ := id B1
      refine ⟨fun σ' H' => σ' = [some (.ref b), some (.int n), c2, c3, none, none, none] ∧ H' = H1, ?_, ?_⟩
      · refine ⟨_, rfl, b, _, 0, _, rfl, rfl, SqL.of hb, rfl, _, _, rfl, rfl, _, rfl, ?_⟩
        refine ite2 (fun _ => ?_) (fun _ => ⟨rfl, rfl⟩)
        obtain ⟨j, ej, hj⟩ := take_mod (k := h) n0
        refine ⟨_, rfl, b, _, 0, _, rfl, rfl, SqL.of hb, rfl, .inl ⟨_, rfl, _, rfl, _, _, rfl, rfl, n0, _, rfl, b, _, 0, _, rfl, rfl, SqL.of hb, rfl, .inl ⟨_, rfl, _, rfl, _, _, rfl, rfl, ⟨by omega, by omega⟩, _, rfl, b, _, 0, 0, rfl, rfl, hb, rfl, _, rfl, ?_⟩⟩⟩
        show Q (.int (h % n)) _
        rw [ej]
        refine k j _ hj ⟨_, m, p, ns, upd_same, (by rw [upd_ne nlb]; exact hl), nlb, ?_, m0, m1, hns⟩ (k1.trans (Kp.at_ _ _ _))
        show 0 ≤ h.fdiv n
        rw [Int.fdiv_eq_ediv_of_nonneg h (by omega)]
        exact Int.ediv_nonneg h0 (by omega)
      · rintro σ' H' ⟨rfl, rfl⟩
        have q1 : ∀ x : Int, 0 ≤ x % 1000000007 ∧ x % 1000000007 < 1000000007 := fun x => ⟨Int.emod_nonneg _ (by decide), Int.emod_lt_of_pos _ (by decide)⟩
        have q2 : ∀ x : Int, 0 ≤ x % 998244353 ∧ x % 998244353 < 998244353 := fun x => ⟨Int.emod_nonneg _ (by decide), Int.emod_lt_of_pos _ (by decide)⟩
        obtain ⟨u, eu⟩ : ∃ u, u = ((m + 1) * 39373) % 1000000007 := ⟨_, rfl⟩
        have hu := q1 ((m + 1) * 39373)
        rw [← eu] at hu
        obtain ⟨j, ej, hj⟩ := take_mod (k := (u * u % 998244353 * 30011 % 998244353) / 7) n0
        have hv := q2 (u * u)
        refine ⟨_, rfl, b, _, 1, _, rfl, rfl, SqL.of hb, rfl, _, _, rfl, rfl, _, _, rfl, rfl, .inl ⟨by omega, by omega⟩, .inl ⟨_, rfl, _, _, rfl, rfl, (by show (0 : Int) < 1000000007; decide), ?_⟩⟩
        show tSeq _ _ _ [some (.ref b), some (.int n), c2, c3, none, some (.int (((m + 1) * 39373) % 1000000007)), none] _
        rw [← eu]
        refine ⟨_, rfl, _, rfl, _, _, rfl, rfl, .inl ⟨by omega, by omega⟩, .inl ⟨_, rfl, _, _, rfl, rfl, (by show (0 : Int) < 998244353; decide), _, _, rfl, rfl, .inl ⟨by omega, by omega⟩, .inl ⟨_, rfl, _, _, rfl, rfl, (by show (0 : Int) < 998244353; decide), _, rfl, _, _, rfl, rfl, ⟨by decide, by decide⟩, .inl ⟨_, rfl, _, rfl, _, _, rfl, rfl, n0, ?_⟩⟩⟩⟩
        show Q (.int ((u * u % 998244353 * 30011 % 998244353) / 7 % n)) _
        rw [ej]
        exact k j _ hj B1 k1
theorem scOne : FnScope ["_law_bag_here", "_law_some"] ["_law_bag_here", "_law_some"] (defScope sOne) := ⟨rfl, rfl, rfl, by decide +kernel, rfl, by decide +kernel, by decide +kernel⟩
theorem ok_one {f : Addr} {fd : FuncData} (F : Fun K "_law_one" "_law_one" sOne f fd) (T : Txt K mg) (cT : Cal P w K mg base 1 "_law_take" ["_law_bag_here", "_law_many"] spTake) : FnOk P w K mg base CX0 2 f fd ["_law_bag_here", "_law_some"] spOne := by
  refine F.ok scOne (fun vs H Q E h => ?_) (fun cdv A outer s H vs Q E hr h => ?_)
  · obtain ⟨b, l, a, xs, rfl, _⟩ := h
    rfl
  · obtain ⟨b, l, a, xs, rfl, B, nab, ha, hne, hz, k⟩ := h
    refine ⟨_, pss_one (ps_ret (pe_ix ix_list (pv 1) (pe_call cT.G hr rfl cT.m cT.kp cT.b .nil pass0 (pa_cons (pv 0) (pa_cons (pe_callB call_len_seq (by rfl) T.len PySem.boot_len (pa_cons (pv 1) pa_nil)) pa_nil))) fun _ _ => rfl)), ?_⟩
    have hpos : 0 < xs.length := List.length_pos_iff.mpr hne
    refine ⟨_, rfl, _, rfl, _, rfl, _, _, rfl, .inl (SqL.of ha), b, l, _, rfl, B, by omega, by omega, fun j H' hj B' k' => ?_⟩
    have hj' : j < xs.length := by omega
    exact ⟨a, xs, j, xs[j], rfl, rfl, SqL.of (k' _ _ ha nab), atI_nat (List.getElem?_eq_getElem hj'), k _ _ (List.getElem_mem hj') B' k'⟩
theorem scMixed : FnScope ["_law_bag_here", "_law_things", "_law_found", "_law_thing"] ["_law_bag_here", "_law_things"] (defScope sMixed) := ⟨rfl, rfl, rfl, by decide +kernel, rfl, by decide +kernel, by decide +kernel⟩
theorem ok_mixed {f : Addr} {fd : FuncData} (F : Fun K "_law_mixed" "_law_mixed" sMixed f fd) (T : Txt K mg) (cT : Cal P w K mg base 1 "_law_take" ["_law_bag_here", "_law_many"] spTake) : FnOk P w K mg base CX0 2 f fd ["_law_bag_here", "_law_things"] spMixed := by
  refine F.ok scMixed (fun vs H Q E h => ?_) (fun cdv A outer s H vs Q E hr h => ?_)
  · obtain ⟨b, l, a, xs, rfl, _⟩ := h
    rfl
  · obtain ⟨b, l, a, xs, rfl, B, nab, ha, hz, k⟩ := h
    have nd := scMixed.nd
    refine ⟨_, pss_cons (ps_set (i := 2) nd rfl (Or.inl rfl) (pe_lst pa_nil)) (pss_cons (ps_for PassesOwn.never rfl (pi_list (pv 1)) (pg_name (i := 3) nd rfl (Or.inl rfl))
      (pss_one (ps_expr (pe_bm PySem.F.plainAttrs_list PySem.F.slot_list_insert PySem.F.type_list_insert mt_insert (pv 2)
        (pa_cons (pe_call cT.G hr rfl cT.m cT.kp cT.b .nil pass0 (pa_cons (pv 0) (pa_cons (pe_op op_add (pe_callB call_len_seq (by rfl) T.len PySem.boot_len (pa_cons (pv 2) pa_nil)) pe_int) pa_nil))) (pa_cons (pv 3) pa_nil))))))
      (pss_one (ps_ret (pv 2)))), ?_⟩
    refine ⟨by decide, fun p hp => ?_⟩
    have npb : p ≠ b := B.ne hp
    have nap : a ≠ p := ne_of_none ha hp
    refine ⟨_, rfl, a, rfl, ⟨_, SqL.of (by rw [upd_ne nap]; exact ha)⟩, for_list (K := K) (a := a) (xs := xs) (fun i σ H' => ∃ (ys : List V) (v : Option V), σ = [some (.ref b), some (.ref a), some (.ref p), v] ∧ ys.Perm (xs.take i) ∧ H' p = some (.lst ys) ∧ Bag H' b l ∧ Kp b H H')
      ⟨[], none, rfl, by simp, upd_same, B.new hp, Kp.new hp⟩ (fun i σ H' _ ⟨_, _, _, _, _, _, k'⟩ => SqL.of (k' _ _ ha nab)) ?_ ?_⟩
    · rintro i x σ H' hi ⟨ys, v, rfl, hp1, h1, B1, k1⟩
      have hil : i < xs.length := (List.getElem?_eq_some_iff.mp hi).1
      have hyl : ys.length = i := by
        rw [hp1.length_eq, List.length_take]
        omega
      refine ⟨_, rfl, .inl ⟨rfl, _, SqL.of h1⟩, _, rfl, _, rfl, _, _, rfl, .inl (SqL.of h1), _, _, rfl, rfl, b, l, _, rfl, B1, by omega, by omega, fun j H2 hj B2 k2 => ?_⟩
      refine ⟨_, rfl, p, ys, (j : Int), x, rfl, rfl, k2 _ _ h1 npb, Nat.lt_of_lt_of_le (show ys.length < 1000 by omega) (by rw [sizeLine_eq]; decide), by omega, by omega, ?_⟩
      refine ⟨ys.take j ++ [x] ++ ys.drop j, _, rfl, ?_, ?_, ?_, ?_⟩
      · have e1 : xs.take (i + 1) = xs.take i ++ [x] := by
          rw [List.take_add_one, hi]
          rfl
        rw [e1]
        have q1 : (ys.take j ++ [x] ++ ys.drop j).Perm (ys ++ [x]) := by
          have q2 : (ys.take j ++ ([x] ++ ys.drop j)).Perm (ys.take j ++ (ys.drop j ++ [x])) := List.Perm.append_left _ List.perm_append_comm
          rw [List.append_assoc]
          refine q2.trans ?_
          rw [← List.append_assoc, List.take_append_drop]
        exact q1.trans (hp1.append_right _)
      · rw [upd_same]
        simp
      · exact B2.upd npb.symm (B.nel hp)
      · intro c o hc ncb
        have : c ≠ p := ne_of_none hc hp
        rw [upd_ne this]
        exact k2 _ _ (k1 _ _ hc ncb) ncb
    · rintro σ H' ⟨ys, v, rfl, hp1, h1, B1, k1⟩
      rw [List.take_length] at hp1
      exact ⟨_, rfl, k ys p H' hp1 hp npb h1 B1 k1⟩
theorem scNames : FnScope ["_law_bag_here", "_law_many", "_law_menu"] ["_law_bag_here", "_law_many"] (defScope sNames) := ⟨rfl, rfl, rfl, by decide +kernel, rfl, by decide +kernel, by decide +kernel⟩
theorem ok_names {f : Addr} {fd : FuncData} (F : Fun K "_law_names" "_law_names" sNames f fd) (T : Txt K mg) (cM : Cal P w K mg base 2 "_law_mixed" ["_law_bag_here", "_law_things"] spMixed) : FnOk P w K mg base CX0 3 f fd ["_law_bag_here", "_law_many"] spNames := by
  refine F.ok scNames (fun vs H Q E h => ?_) (fun cdv A outer s H vs Q E hr h => ?_)
  · obtain ⟨b, l, n, rfl, _⟩ := h
    rfl
  · obtain ⟨b, l, n, rfl, B, k⟩ := h
    have nd := scNames.nd
    refine ⟨_, pss_cons (ps_set (i := 2) nd rfl (Or.inl rfl) (pe_lst (pa_cons pe_str (pa_cons pe_str (pa_cons pe_str (pa_cons pe_str (pa_cons pe_str (pa_cons pe_str (pa_cons pe_str (pa_cons pe_str (pa_cons pe_str (pa_cons pe_str (pa_cons pe_str (pa_cons pe_str pa_nil))))))))))))))
      (pss_one (ps_ret (pe_slice sl_list (pe_call cM.G hr rfl cM.m cM.kp cM.b .nil pass0 (pa_cons (pv 0) (pa_cons (pv 2) pa_nil))) po_none (po_some (pv 1))))), ?_⟩
    refine ⟨by show 12 ≤ sizeLine; decide, fun p hp => ?_⟩
    have npb : p ≠ b := B.ne hp
    refine ⟨_, rfl, _, rfl, b, l, p, menu.map V.str, rfl, B.new hp, npb, upd_same, by show 12 < 1000; decide, fun ys q H' hp1 hq nqb h1 B1 k1 => ?_⟩
    refine ⟨_, rfl, _, rfl, q, ys, rfl, SqL.of h1, fun r hr => ?_⟩
    have e0 : cutV ys none (some (n : Int)) = ys.take n := cut_to n ys
    rw [e0]
    obtain ⟨zs, rfl, hzs⟩ := perm_strs hp1
    have hsub := (List.take_sublist n zs)
    have nrH : H r = none := by
      cases e : H r with
      | none => rfl
      | some o =>
        have ner : r ≠ p := ne_of_none e hp
        by_cases erb : r = b
        · subst erb
          obtain ⟨o', e'⟩ := B1.at_
          rw [e'] at hr
          cases hr
        · have := k1 r o (by rw [upd_ne ner]; exact e) erb
          rw [this] at hr
          cases hr
    refine k (zs.take n) r _ ⟨(hzs.nodup_iff.mpr menu_nodup).sublist hsub, fun c hc => hzs.mem_iff.mp (hsub.mem hc), by rw [List.length_take, hzs.length_eq]; rfl⟩ nrH (B1.ne hr) (by rw [upd_same, List.map_take]) (B1.new hr) ((Kp.new hp).trans (k1.trans (Kp.new hr)))
theorem scQuestion : FnScope ["_law_bag_here", "_law_names_here", "_law_some", "_law_end"] ["_law_bag_here", "_law_names_here"] (defScope sQuestion) := ⟨rfl, rfl, rfl, by decide +kernel, rfl, by decide +kernel, by decide +kernel⟩
theorem ok_question {f : Addr} {fd : FuncData} (F : Fun K "_law_question" "_law_question" sQuestion f fd) (T : Txt K mg) (cT : Cal P w K mg base 1 "_law_take" ["_law_bag_here", "_law_many"] spTake) (cM : Cal P w K mg base 2 "_law_mixed" ["_law_bag_here", "_law_things"] spMixed) : FnOk P w K mg base CX0 3 f fd ["_law_bag_here", "_law_names_here"] spQuestion := by
  refine F.ok scQuestion (fun vs H Q E h => ?_) (fun cdv A outer s H vs Q E hr h => ?_)
  · obtain ⟨b, l, a, xs, rfl, _⟩ := h
    rfl
  · obtain ⟨b, l, a, xs, rfl, B, nab, ha, R, k⟩ := h
    have nd := scQuestion.nd
    have hr1 : Room 1 _ := hr.mono (by decide)
    refine ⟨_, pss_cons (ps_set (i := 2) nd rfl (Or.inl rfl) (pe_slice sl_list (pe_call cM.G hr rfl cM.m cM.kp cM.b .nil pass0 (pa_cons (pv 0) (pa_cons (pv 1) pa_nil))) po_none
        (po_some (pe_op op_add pe_int (pe_call cT.G hr1 rfl cT.m cT.kp cT.b .nil pass0 (pa_cons (pv 0) (pa_cons (pe_callB call_len_seq (by rfl) T.len PySem.boot_len (pa_cons (pv 1) pa_nil)) pa_nil)))))))
      (Evl.pss_cut (ps_set (i := 3) nd rfl (Or.inl rfl) (pe_ifExp (pt_cmpR op_eq (pe_call cT.G hr1 rfl cT.m cT.kp cT.b .nil pass0 (pa_cons (pv 0) (pa_cons pe_int pa_nil))) pe_int (nomark _))
        (pe_bm0 PySem.F.plainAttrs_list PySem.F.slot_list_pop PySem.F.type_list_pop mt_pop (pv 2)) pe_str))
      (pss_one (ps_ret (pe_tup (pa_cons (pe_callTy call_tuple_of (by rfl) T.tuple (by decide +kernel) (pa_cons (pe_callB cr_sortedST (by rfl) T.sorted (by decide +kernel) (pa_cons (pv 2) pa_nil)) pa_nil)) (pa_cons (pv 3) pa_nil)))))), ?_⟩
    have hl := R.le
    have hpos := R.pos
    refine ⟨_, rfl, _, rfl, b, l, a, _, rfl, B, nab, ha, by rw [List.length_map]; omega, fun ys0 p H1 hp0 hp hpb h1 B1 k1 => ?_⟩
    obtain ⟨ys, rfl, hy⟩ := perm_strs hp0
    have ha1 := k1 _ _ ha nab
    refine ⟨_, rfl, _, rfl, _, _, rfl, .inl (SqL.of ha1), b, l, _, rfl, B1, by rw [List.length_map]; omega, by rw [List.length_map]; omega, fun j H2 hj B2 k2 => ?_⟩
    rw [List.length_map] at hj
    refine ⟨_, _, rfl, rfl, _, rfl, p, _, rfl, SqL.of (k2 _ _ h1 hpb), fun r hr => ?_⟩
    have ec : cutV (ys.map V.str) none (some (1 + (j : Int))) = (ys.take (j + 1)).map V.str := by
      have e1 : (1 + (j : Int)) = ((j + 1 : Nat) : Int) := by omega
      rw [e1, cut_to, List.map_take]
    rw [ec]
    have hrb : r ≠ b := B2.ne hr
    have hyl := hy.length_eq
    refine ⟨fun σ' H' => ∃ (zs : List Str) (e : Str), σ' = [some (.ref b), some (.ref a), some (.ref r), some (.str e)] ∧ H' r = some (.lst (zs.map V.str)) ∧ zs.length ≤ 12 ∧ (∀ ws, ws.Perm zs → sortedS ws = true → Qok xs ws e) ∧ Bag H' b l ∧ Kp b H H', ?_, ?_⟩
    · refine ⟨_, rfl, b, l, 2, rfl, B2.new hr, by decide, by decide, fun j2 H3 hj2 B3 k3 => ?_⟩
      have kH3 : Kp b H H3 := k1.trans (k2.trans ((Kp.new hr).trans k3))
      have hr3 := k3 _ _ upd_same hrb
      refine ⟨rfl, _, rfl, ?_⟩
      refine ite2 (fun _ => ?_) (fun _ => ?_)
      · have hlt : j < ys.length := by omega
        have el : ((ys.take (j + 1)).map V.str)[((ys.take (j + 1)).map V.str).length - 1]? = some (V.str ys[j]) := by
          rw [List.length_map, List.length_take, Nat.min_eq_left (by omega), Nat.add_sub_cancel, List.getElem?_map, List.getElem?_take_of_lt (by omega), List.getElem?_eq_getElem hlt]
          rfl
        refine ⟨_, rfl, .inl ⟨rfl, _, SqL.of hr3⟩, r, _, _, rfl, rfl, hr3, el, ?_⟩
        have ed : ((ys.take (j + 1)).map V.str).dropLast = (ys.take j).map V.str := by
          rw [← List.map_dropLast, List.take_add_one, List.getElem?_eq_getElem hlt, Option.toList_some, List.dropLast_concat]
        rw [ed]
        refine ⟨ys.take j, ys[j], rfl, upd_same, by rw [List.length_take]; omega, fun ws hw hs => qok_ranged R hy (List.getElem?_eq_getElem hlt) hw hs, B3.upd hrb.symm (B2.nel hr), fun c o hc ncb => ?_⟩
        have ncr : c ≠ r := ne_of_none (k2 _ _ (k1 _ _ hc ncb) ncb) hr
        rw [upd_ne ncr]
        exact kH3 _ _ hc ncb
      · exact ⟨ys.take (j + 1), "", rfl, hr3, by rw [List.length_take]; omega, fun ws hw hs => qok_plain R hy hw hs, B3, kH3⟩
    · rintro σ' H' ⟨zs, e, rfl, h2, hz, hq, B4, k4⟩
      refine ⟨_, rfl, r, zs, rfl, .inl (SqL.of h2), by omega, fun ws p1 hw hs hp1 => ⟨p1, _, rfl, .inl ⟨SqL.of upd_same, fun p2 hp2 => ⟨_, rfl, by show 2 ≤ sizeLine; decide, fun p3 hp3 => ?_⟩⟩⟩⟩
      have s3 : Same H' _ := (same_new (o := .lst (ws.map V.str)) hp1).trans ((same_new (o := .tup (ws.map V.str)) hp2).trans (same_new (o := .tup [.ref p2, .str e]) hp3))
      exact k p3 ws e _ ⟨p2, upd_same, same_new hp3 _ _ upd_same⟩ (hq ws hw hs) (B4.same s3) (k4.trans (Kp.of s3))
theorem scBeginning : FnScope ["_law_bag_here", "_law_row", "_law_many"] ["_law_bag_here", "_law_row"] (defScope sBeginning) := ⟨rfl, rfl, rfl, by decide +kernel, rfl, by decide +kernel, by decide +kernel⟩
theorem ok_beginning {f : Addr} {fd : FuncData} (F : Fun K "_law_beginning" "_law_beginning" sBeginning f fd) (T : Txt K mg) (cT : Cal P w K mg base 1 "_law_take" ["_law_bag_here", "_law_many"] spTake) : FnOk P w K mg base CX0 2 f fd ["_law_bag_here", "_law_row"] spBeginL := by
  refine F.ok scBeginning (fun vs H Q E h => ?_) (fun cdv A outer s H vs Q E hr h => ?_)
  · obtain ⟨b, l, a, xs, rfl, _⟩ := h
    rfl
  · obtain ⟨b, l, a, xs, rfl, B, nab, ha, R, k⟩ := h
    have nd := scBeginning.nd
    refine ⟨_, pss_cons (ps_set (i := 2) nd rfl (Or.inl rfl) (pe_op op_add pe_int (pe_call cT.G hr rfl cT.m cT.kp cT.b .nil pass0 (pa_cons (pv 0) (pa_cons (pe_callB call_len_seq (by rfl) T.len PySem.boot_len (pa_cons (pv 1) pa_nil)) pa_nil)))))
      (pss_cons (ps_if (pt_cmpR op_eq (pe_call cT.G hr rfl cT.m cT.kp cT.b .nil pass0 (pa_cons (pv 0) (pa_cons pe_int pa_nil))) pe_int (nomark _))
        (pss_one (ps_ret (pe_tup (pa_cons (pe_callTy call_tuple_of (by rfl) T.tuple (by decide +kernel) (pa_cons (pe_callB cr_sortedST (by rfl) T.sorted (by decide +kernel)
          (pa_cons (pe_slice sl_list (pv 1) po_none (po_some (pe_op op_sub (pv 2) pe_int))) pa_nil)) pa_nil)) (pa_cons (pe_ix ix_list (pv 1) (pe_op op_sub (pv 2) pe_int) fun _ _ => rfl) pa_nil))))) pss_nil)
      (pss_one (ps_ret (pe_tup (pa_cons (pe_callTy call_tuple_of (by rfl) T.tuple (by decide +kernel) (pa_cons (pe_callB cr_sortedST (by rfl) T.sorted (by decide +kernel)
          (pa_cons (pe_slice sl_list (pv 1) po_none (po_some (pv 2))) pa_nil)) pa_nil)) (pa_cons pe_str pa_nil)))))), ?_⟩
    have hl := R.le
    have hpos := R.pos
    have hlen : (xs.map V.str).length = xs.length := List.length_map _
    refine ⟨_, rfl, _, rfl, _, _, rfl, .inl (SqL.of ha), b, l, _, rfl, B, by omega, by omega, fun j H1 hj B1 k1 => ⟨_, _, rfl, rfl, ?_⟩⟩
    have hj' : j < xs.length := by omega
    have ha1 := k1 _ _ ha nab
    refine ⟨_, rfl, b, l, 2, rfl, B1, by decide, by decide, fun j2 H2 hj2 B2 k2 => ⟨rfl, _, rfl, ?_⟩⟩
    have ha2 := k2 _ _ ha1 nab
    have kH2 : Kp b H H2 := k1.trans k2
    refine ite2 (fun _ => ?_) (fun _ => ?_)
    · have em : (1 + (j : Int)) - 1 = (j : Int) := by omega
      refine ⟨_, rfl, _, rfl, _, _, rfl, rfl, _, rfl, a, _, rfl, SqL.of ha2, fun r hr => ?_⟩
      have ec : cutV (xs.map V.str) none (some ((1 + (j : Int)) - 1)) = (xs.take j).map V.str := by rw [em, cut_to, List.map_take]
      show (fun (Hx : Hp) => _) (upd H2 r (.lst (cutV (xs.map V.str) none (some ((1 + (j : Int)) - 1)))))
      rw [ec]
      refine ⟨r, xs.take j, rfl, .inl (SqL.of upd_same), by rw [List.length_take]; omega, fun ws p1 hw hs hp1 => ⟨p1, _, rfl, .inl ⟨SqL.of upd_same, fun p2 hp2 => ?_⟩⟩⟩
      have s2 : Same H2 _ := (same_new (o := .lst ((xs.take j).map V.str)) hr).trans ((same_new (o := .lst (ws.map V.str)) hp1).trans (same_new (o := .tup (ws.map V.str)) hp2))
      refine ⟨_, rfl, _, rfl, _, _, rfl, rfl, a, _, _, .str xs[j], rfl, rfl, SqL.of (s2 _ _ ha2), ?_, by show 2 ≤ sizeLine; decide, fun p3 hp3 => ?_⟩
      · show atI (xs.map V.str) ((1 + (j : Int)) - 1) = _
        rw [em]
        exact atI_nat (by rw [List.getElem?_map, List.getElem?_eq_getElem hj']; rfl)
      · have s3 := s2.trans (same_new (o := .tup [.ref p2, .str xs[j]]) hp3)
        exact k p3 ws xs[j] _ ⟨p2, upd_same, same_new hp3 _ _ upd_same⟩ (qok_ranged R (List.Perm.refl _) (List.getElem?_eq_getElem hj') hw hs) (B2.same s3) (kH2.trans (Kp.of s3))
    · have em : (1 + (j : Int)) = ((j + 1 : Nat) : Int) := by omega
      have hsm : (xs.take (j + 1)).length < 64 := by rw [List.length_take]; omega
      refine ⟨_, rfl, _, rfl, _, rfl, a, _, rfl, SqL.of ha2, fun r hr => ?_⟩
      have ec : cutV (xs.map V.str) none (some (1 + (j : Int))) = (xs.take (j + 1)).map V.str := by rw [em, cut_to, List.map_take]
      show (fun (Hx : Hp) => _) (upd H2 r (.lst (cutV (xs.map V.str) none (some (1 + (j : Int))))))
      rw [ec]
      refine ⟨r, xs.take (j + 1), rfl, .inl (SqL.of upd_same), hsm, fun ws p1 hw hs hp1 => ⟨p1, _, rfl, .inl ⟨SqL.of upd_same, fun p2 hp2 => ⟨by show 2 ≤ sizeLine; decide, fun p3 hp3 => ?_⟩⟩⟩⟩
      have s3 : Same H2 _ := (same_new (o := .lst ((xs.take (j + 1)).map V.str)) hr).trans ((same_new (o := .lst (ws.map V.str)) hp1).trans ((same_new (o := .tup (ws.map V.str)) hp2).trans (same_new (o := .tup [.ref p2, .str ""]) hp3)))
      exact k p3 ws "" _ ⟨p2, upd_same, same_new hp3 _ _ upd_same⟩ (qok_plain R (List.Perm.refl _) hw hs) (B2.same s3) (kH2.trans (Kp.of s3))
abbrev nLaw : List Str := ["_law_script", "_law_bag_here", "_law_turn", "_law_names_here", "_law_row", "_law_some", "_law_way"]
theorem scLaw : FnScope nLaw ["_law_script"] (defScope sLaw) := ⟨rfl, rfl, rfl, by decide +kernel, rfl, by decide +kernel, by decide +kernel⟩
def spLaw (K : PySem.W.Frag) : Sp := fun vs H Q _ => ∃ (a : Addr) (ns : List Int), vs = [.ref a] ∧ SqL K H a (ns.map V.int) ∧ ns.length ≤ 63 ∧ ∀ H', Q (.bl true) H'
/-- questions that stand in a list -/
def Qs (H : Hp) (xs : List V) : Prop := ∀ x ∈ xs, ∃ q c e, x = V.ref q ∧ QAt H q c e ∧ QZ c e
theorem Qs.kp {H H' : Hp} {b l : Addr} {xs : List V} (B : Bag H b l) (k : Kp b H H') (h : Qs H xs) : Qs H' xs := fun x hx => by
  obtain ⟨q, c, e, rfl, h1, h2⟩ := h x hx
  exact ⟨q, c, e, rfl, h1.kp B k, h2⟩
theorem ok_law {f : Addr} {fd : FuncData} (F : Fun K "law" "law" sLaw f fd) (T : Txt K mg)
    (cB : Cal P w K mg base 1 "_law_bag" ["_law_script"] (spBag K))
    (cT : Cal P w K mg base 1 "_law_take" ["_law_bag_here", "_law_many"] spTake)
    (cO : Cal P w K mg base 2 "_law_one" ["_law_bag_here", "_law_some"] spOne)
    (cM : Cal P w K mg base 2 "_law_mixed" ["_law_bag_here", "_law_things"] spMixed)
    (cN : Cal P w K mg base 3 "_law_names" ["_law_bag_here", "_law_many"] spNames)
    (cQ : Cal P w K mg base 3 "_law_question" ["_law_bag_here", "_law_names_here"] spQuestion)
    (cG : Cal P w K mg base 2 "_law_beginning" ["_law_bag_here", "_law_row"] spBeginL)
    (cR : CalG P w K mg base 4 "_law_right" ["_law_one_here", "_law_other", "_law_way"] spRight) : FnG P w K mg base 5 f fd ["_law_script"] (spLaw K) := by
  refine okG F scLaw (fun vs H Q E h => ?_) (fun cdv A outer s H vs Q E hr hg h => ?_)
  · obtain ⟨a, ns, rfl, _⟩ := h
    rfl
  · obtain ⟨a, ns, rfl, hS, hlen, k⟩ := h
    have nd := scLaw.nd
    have hr1 : Room 1 _ := hr.mono (by decide)
    have hr2 : Room 2 _ := hr.mono (by decide)
    have hr3 : Room 3 _ := hr.mono (by decide)
    refine ⟨_, pss_cons (ps_set (i := 1) nd rfl (Or.inl rfl) (pe_call cB.G hr1 rfl cB.m cB.kp cB.b .nil pass0 (pa_cons (pv 0) pa_nil)))
      (pss_cons (ps_for PassesOwn.never rfl (pi_range1 (by rfl) T.range (pa_cons pe_int pa_nil)) (pg_name (i := 2) nd rfl (Or.inl rfl))
        (Evl.pss_cut (ps_set (i := 3) nd rfl (Or.inl rfl) (pe_call cN.G hr3 rfl cN.m cN.kp cN.b .nil pass0 (pa_cons (pv 1) (pa_cons (pe_op op_add pe_int
          (pe_call cT.G hr1 rfl cT.m cT.kp cT.b .nil pass0 (pa_cons (pv 1) (pa_cons (pe_call cO.G hr2 rfl cO.m cO.kp cO.b .nil pass0 (pa_cons (pv 1) (pa_cons (pe_lst (pa_cons pe_int (pa_cons pe_int (pa_cons pe_int pa_nil)))) pa_nil))) pa_nil)))) pa_nil))))
        (pss_cons (ps_set (i := 4) nd rfl (Or.inl rfl) (pe_call cM.G hr2 rfl cM.m cM.kp cM.b .nil pass0 (pa_cons (pv 1) (pa_cons (pv 3) pa_nil))))
        (pss_cons (ps_set (i := 5) nd rfl (Or.inl rfl) (pe_lst (pa_cons (pe_call cQ.G hr3 rfl cQ.m cQ.kp cQ.b .nil pass0 (pa_cons (pv 1) (pa_cons (pv 3) pa_nil)))
          (pa_cons (pe_call cG.G hr2 rfl cG.m cG.kp cG.b .nil pass0 (pa_cons (pv 1) (pa_cons (pv 4) pa_nil))) (pa_cons (pe_call cG.G hr2 rfl cG.m cG.kp cG.b .nil pass0 (pa_cons (pv 1) (pa_cons (pv 4) pa_nil))) pa_nil)))))
        (pss_one (ps_for PassesOwn.never rfl (pi_list (pe_call cM.G hr2 rfl cM.m cM.kp cM.b .nil pass0 (pa_cons (pv 1) (pa_cons (pe_lst (pa_cons pe_int (pa_cons pe_int (pa_cons pe_int (pa_cons pe_int (pa_cons pe_int
            (pa_cons pe_int (pa_cons pe_int (pa_cons pe_int (pa_cons pe_int (pa_cons pe_int pa_nil))))))))))) pa_nil)))) (pg_name (i := 6) nd rfl (Or.inl rfl))
          (pss_one (ps_if (pt_not (pt_val (pe_callg cR.G hr hg rfl cR.m cR.kp cR.b (pa_cons (pe_call cO.G hr2 rfl cO.m cO.kp cO.b .nil pass0 (pa_cons (pv 1) (pa_cons (pv 5) pa_nil)))
            (pa_cons (pe_call cO.G hr2 rfl cO.m cO.kp cO.b .nil pass0 (pa_cons (pv 1) (pa_cons (pv 5) pa_nil))) (pa_cons (pv 6) pa_nil)))))) (pss_one (ps_ret pe_bl)) pss_nil)))))))
      ) (pss_one (ps_ret pe_bl))), ?_⟩
    refine ⟨_, rfl, a, ns, rfl, hS, hlen, fun b l H1 hb B1 s1 => ?_⟩
    refine ⟨16, rfl, by decide, by decide, ?_⟩
    refine for_range (lo := 0) (n := 16) (fun i σ H' => Bag H' b l ∧ ∃ (v2 v3 v4 v5 v6 : Option V), σ = [some (.ref a), some (.ref b), v2, v3, v4, v5, v6])
      ⟨B1, none, none, none, none, none, rfl⟩ ?_ (fun σ H' _ => k H')
    rintro i σ H' hi ⟨B, v2, v3, v4, v5, v6, rfl⟩
    refine ⟨fun σ' H2 => ∃ (v2 : Option V) (nm : Addr) (xs : List Str), σ' = [some (.ref a), some (.ref b), v2, some (.ref nm), v4, v5, v6] ∧ Bag H2 b l ∧ nm ≠ b ∧ H2 nm = some (.lst (xs.map V.str)) ∧ Row xs, ?_, ?_⟩
    · refine ⟨_, rfl, _, rfl, _, rfl, by show 3 ≤ sizeLine; decide, fun p hp => ?_⟩
      refine ⟨b, l, p, _, rfl, B.new hp, B.ne hp, upd_same, by simp, by show 3 < 1000; decide, fun x H2 hx B2 k2 => ?_⟩
      obtain ⟨m, rfl, hm0, hm1⟩ : ∃ m : Int, x = V.int m ∧ 0 < m ∧ m ≤ 12 := by
        simp only [List.mem_cons, List.not_mem_nil, or_false] at hx
        rcases hx with rfl | rfl | rfl
        · exact ⟨5, rfl, by decide, by decide⟩
        · exact ⟨5, rfl, by decide, by decide⟩
        · exact ⟨12, rfl, by decide, by decide⟩
      refine ⟨b, l, m, rfl, B2, hm0, by omega, fun j H3 hj B3 k3 => ⟨_, _, rfl, rfl, b, l, 1 + j, rfl, B3, fun xs nm H4 hN hn0 hnb h4 B4 k4 => ?_⟩⟩
      exact ⟨_, nm, xs, rfl, B4, hnb, h4, hN.row (by omega)⟩
    rintro σ2 H2 ⟨v2, nm, xs, rfl, B2, hnb, hnm, R⟩
    have hl12 := R.le
    refine ⟨_, rfl, _, rfl, b, l, nm, _, rfl, B2, hnb, hnm, by rw [List.length_map]; omega, fun ys0 rw' H3 hp0 hr0 hrb hr3' B3 k3 => ?_⟩
    obtain ⟨ys, rfl, hp⟩ := perm_strs hp0
    have Ry : Row ys := ⟨hp.nodup_iff.mpr R.nd, fun c hc => R.sub _ (hp.mem_iff.mp hc), by rw [hp.length_eq]; exact R.pos, by rw [hp.length_eq]; exact R.le⟩
    have hnm3 := k3 _ _ hnm hnb
    refine ⟨_, rfl, _, rfl, b, l, nm, xs, rfl, B3, hnb, hnm3, R, fun q1 c1 e1 H4 hq1 ok1 B4 k4 => ?_⟩
    have hr4 := k4 _ _ hr3' hrb
    refine ⟨_, rfl, _, rfl, b, l, rw', ys, rfl, B4, hrb, hr4, Ry, fun q2 c2 e2 H5 hq2 ok2 B5 k5 => ?_⟩
    have hr5 := k5 _ _ hr4 hrb
    refine ⟨_, rfl, _, rfl, b, l, rw', ys, rfl, B5, hrb, hr5, Ry, fun q3 c3 e3 H6 hq3 ok3 B6 k6 => ⟨by show 3 ≤ sizeLine; decide, fun sm hsm => ?_⟩⟩
    have S7 := same_new (o := .lst [.ref q1, .ref q2, .ref q3]) hsm
    have hsm7 : (upd H6 sm (.lst [.ref q1, .ref q2, .ref q3])) sm = some (.lst [.ref q1, .ref q2, .ref q3]) := upd_same
    have hsb := B6.ne hsm
    have Q7 : Qs (upd H6 sm (.lst [.ref q1, .ref q2, .ref q3])) [.ref q1, .ref q2, .ref q3] := fun x hx => by
      simp only [List.mem_cons, List.not_mem_nil, or_false] at hx
      rcases hx with rfl | rfl | rfl
      · exact ⟨q1, c1, e1, rfl, ((hq1.kp B4 k5).kp B5 k6).same S7, ok1.qz R⟩
      · exact ⟨q2, c2, e2, rfl, (hq2.kp B5 k6).same S7, ok2.qz Ry⟩
      · exact ⟨q3, c3, e3, rfl, hq3.same S7, ok3.qz Ry⟩
    have B7 := B6.same S7
    generalize upd H6 sm (.lst [.ref q1, .ref q2, .ref q3]) = H7 at *
    refine ⟨_, rfl, by show 10 ≤ sizeLine; decide, fun p hp10 => ?_⟩
    have S8 := same_new (o := .lst [.int 0, .int 1, .int 2, .int 3, .int 4, .int 0, .int 1, .int 2, .int 3, .int 4]) hp10
    refine ⟨b, l, p, _, rfl, B7.same S8, B7.ne hp10, upd_same, by show 10 < 1000; decide, fun ws wp H9 hw hw0 hwb hw9 B9 k9 => ?_⟩
    have hws : ∀ x ∈ ws, ∃ n : Nat, x = V.int (n : Int) ∧ n < 5 := fun x hx => by
      have := hw.mem_iff.mp hx
      simp only [List.mem_cons, List.not_mem_nil, or_false] at this
      rcases this with rfl | rfl | rfl | rfl | rfl | rfl | rfl | rfl | rfl | rfl
      · exact ⟨0, rfl, by decide⟩
      · exact ⟨1, rfl, by decide⟩
      · exact ⟨2, rfl, by decide⟩
      · exact ⟨3, rfl, by decide⟩
      · exact ⟨4, rfl, by decide⟩
      · exact ⟨0, rfl, by decide⟩
      · exact ⟨1, rfl, by decide⟩
      · exact ⟨2, rfl, by decide⟩
      · exact ⟨3, rfl, by decide⟩
      · exact ⟨4, rfl, by decide⟩
    have hsm9 := k9 _ _ (S8 _ _ hsm7) hsb
    have Q9 : Qs H9 [.ref q1, .ref q2, .ref q3] := Qs.kp (B7.same S8) k9 fun x hx => by
      obtain ⟨q, c, e, rfl, h1, h2⟩ := Q7 x hx
      exact ⟨q, c, e, rfl, h1.same S8, h2⟩
    refine ⟨wp, rfl, ⟨_, SqL.of hw9⟩, for_list (K := K) (a := wp) (xs := ws) (fun i σ H' => (∃ v6, σ = [some (.ref a), some (.ref b), v2, some (.ref nm), some (.ref rw'), some (.ref sm), v6]) ∧ Bag H' b l ∧ H' wp = some (.lst ws) ∧ H' sm = some (.lst [.ref q1, .ref q2, .ref q3]) ∧ Qs H' [.ref q1, .ref q2, .ref q3])
      ⟨⟨_, rfl⟩, B9, hw9, hsm9, Q9⟩ (fun i σ H' _ h => SqL.of h.2.2.1) ?_ ?_⟩
    · rintro i x σ HA hx ⟨⟨v6, rfl⟩, BA, hwA, hsA, QA⟩
      obtain ⟨n, rfl, hn⟩ := hws x (List.mem_of_getElem? hx)
      refine ⟨_, rfl, _, rfl, b, l, sm, _, rfl, BA, hsb, hsA, by simp, by show 3 < 1000; decide, fun x1 HB hx1 BB kB => ?_⟩
      have hwB := kB _ _ hwA hwb
      have hsB := kB _ _ hsA hsb
      have QB := Qs.kp BA kB QA
      refine ⟨_, rfl, _, rfl, b, l, sm, _, rfl, BB, hsb, hsB, by simp, by show 3 < 1000; decide, fun x2 HC hx2 BC kC => ?_⟩
      have hwC := kC _ _ hwB hwb
      have hsC := kC _ _ hsB hsb
      have QC := Qs.kp BB kC QB
      obtain ⟨r1, d1, g1, rfl, a1, z1⟩ := QC x1 hx1
      obtain ⟨r2, d2, g2, rfl, a2, z2⟩ := QC x2 hx2
      refine ⟨_, rfl, r1, r2, d1, g1, d2, g2, n, rfl, hn, a1, a2, z1, z2, fun HD sD => ⟨_, rfl, ?_⟩⟩
      refine iteF ?_
      refine ⟨⟨_, rfl⟩, BC.same sD, sD _ _ hwC, sD _ _ hsC, fun x hx => ?_⟩
      obtain ⟨q, c, e, rfl, h1, h2⟩ := QC x hx
      exact ⟨q, c, e, rfl, h1.same sD, h2⟩
    · rintro σ HA ⟨⟨v6, rfl⟩, BA, _⟩
      exact ⟨BA, _, _, _, _, _, rfl⟩
end
theorem all_mk {l : PySem.W.OpenLaw} {w : World} {K : PySem.W.Frag} {h : Heap} {mg : Str → Option Value} {fa f1 f2 f3 f4 f5 f6 f7 f8 f9 f10 f11 f12 f13 f14 f15 f16 f17 f18 f19 : Addr} (X : K.In h) (G : h.Ns mainGlobals mg) (hfa : mg "law" = some (.ref fa))
    {od1 an1 od2 an2 od3 an3 od4 an4 od5 an5 od6 an6 od7 an7 od8 an8 od9 an9 od10 an10 od11 an11 od12 an12 od13 an13 od14 an14 od15 an15 od16 an16 od17 an17 od18 an18 od19 an19 : Option Addr} {sl1 sl2 sl3 sl4 sl5 sl6 sl7 sl8 sl9 sl10 sl11 sl12 sl13 sl14 sl15 sl16 sl17 sl18 sl19 : Array (Option Value)} {oc1 kV1 dc1 pm1 cd1 ct1 oc2 kV2 dc2 pm2 cd2 ct2 oc3 kV3 dc3 pm3 cd3 ct3 oc4 kV4 dc4 pm4 cd4 ct4 oc5 kV5 dc5 pm5 cd5 ct5 oc6 kV6 dc6 pm6 cd6 ct6 oc7 kV7 dc7 pm7 cd7 ct7 oc8 kV8 dc8 pm8 cd8 ct8 oc9 kV9 dc9 pm9 cd9 ct9 oc10 kV10 dc10 pm10 cd10 ct10 oc11 kV11 dc11 pm11 cd11 ct11 oc12 kV12 dc12 pm12 cd12 ct12 oc13 kV13 dc13 pm13 cd13 ct13 oc14 kV14 dc14 pm14 cd14 ct14 oc15 kV15 dc15 pm15 cd15 ct15 oc16 kV16 dc16 pm16 cd16 ct16 oc17 kV17 dc17 pm17 cd17 ct17 oc18 kV18 dc18 pm18 cd18 ct18 oc19 kV19 dc19 pm19 cd19 ct19 : Value}
    (a1 : PySem.W.nsIn K mainGlobals "row_of" = some (some (.ref f1))) (l1 : K.lookup f1 = some ⟨oc1, od1, .func (PySem.W.fnOf "row_of" "row_of" (defArgs sRow) (defBody sRow) (defScope sRow) .none kV1 dc1 pm1 an1 cd1 ct1), sl1⟩) (c1 : PySem.W.codeIn K cd1 "row_of" = true) (k1 : PySem.W.keepIn K (.ref f1) = true)
    (a2 : PySem.W.nsIn K mainGlobals "columns_of" = some (some (.ref f2))) (l2 : K.lookup f2 = some ⟨oc2, od2, .func (PySem.W.fnOf "columns_of" "columns_of" (defArgs sCols) (defBody sCols) (defScope sCols) .none kV2 dc2 pm2 an2 cd2 ct2), sl2⟩) (c2 : PySem.W.codeIn K cd2 "columns_of" = true) (k2 : PySem.W.keepIn K (.ref f2) = true)
    (a3 : PySem.W.nsIn K mainGlobals "width" = some (some (.ref f3))) (l3 : K.lookup f3 = some ⟨oc3, od3, .func (PySem.W.fnOf "width" "width" (defArgs sWidth) (defBody sWidth) (defScope sWidth) .none kV3 dc3 pm3 an3 cd3 ct3), sl3⟩) (c3 : PySem.W.codeIn K cd3 "width" = true) (k3 : PySem.W.keepIn K (.ref f3) = true)
    (a4 : PySem.W.nsIn K mainGlobals "is_plain" = some (some (.ref f4))) (l4 : K.lookup f4 = some ⟨oc4, od4, .func (PySem.W.fnOf "is_plain" "is_plain" (defArgs sPlain) (defBody sPlain) (defScope sPlain) .none kV4 dc4 pm4 an4 cd4 ct4), sl4⟩) (c4 : PySem.W.codeIn K cd4 "is_plain" = true) (k4 : PySem.W.keepIn K (.ref f4) = true)
    (a5 : PySem.W.nsIn K mainGlobals "is_below" = some (some (.ref f5))) (l5 : K.lookup f5 = some ⟨oc5, od5, .func (PySem.W.fnOf "is_below" "is_below" (defArgs sBelow) (defBody sBelow) (defScope sBelow) .none kV5 dc5 pm5 an5 cd5 ct5), sl5⟩) (c5 : PySem.W.codeIn K cd5 "is_below" = true) (k5 : PySem.W.keepIn K (.ref f5) = true)
    (a6 : PySem.W.nsIn K mainGlobals "can_share" = some (some (.ref f6))) (l6 : K.lookup f6 = some ⟨oc6, od6, .func (PySem.W.fnOf "can_share" "can_share" (defArgs sCan) (defBody sCan) (defScope sCan) .none kV6 dc6 pm6 an6 cd6 ct6), sl6⟩) (c6 : PySem.W.codeIn K cd6 "can_share" = true) (k6 : PySem.W.keepIn K (.ref f6) = true)
    (a7 : PySem.W.nsIn K mainGlobals "_law_bag" = some (some (.ref f7))) (l7 : K.lookup f7 = some ⟨oc7, od7, .func (PySem.W.fnOf "_law_bag" "_law_bag" (defArgs sBag) (defBody sBag) (defScope sBag) .none kV7 dc7 pm7 an7 cd7 ct7), sl7⟩) (c7 : PySem.W.codeIn K cd7 "_law_bag" = true) (k7 : PySem.W.keepIn K (.ref f7) = true)
    (a8 : PySem.W.nsIn K mainGlobals "_law_take" = some (some (.ref f8))) (l8 : K.lookup f8 = some ⟨oc8, od8, .func (PySem.W.fnOf "_law_take" "_law_take" (defArgs sTake) (defBody sTake) (defScope sTake) .none kV8 dc8 pm8 an8 cd8 ct8), sl8⟩) (c8 : PySem.W.codeIn K cd8 "_law_take" = true) (k8 : PySem.W.keepIn K (.ref f8) = true)
    (a9 : PySem.W.nsIn K mainGlobals "_law_one" = some (some (.ref f9))) (l9 : K.lookup f9 = some ⟨oc9, od9, .func (PySem.W.fnOf "_law_one" "_law_one" (defArgs sOne) (defBody sOne) (defScope sOne) .none kV9 dc9 pm9 an9 cd9 ct9), sl9⟩) (c9 : PySem.W.codeIn K cd9 "_law_one" = true) (k9 : PySem.W.keepIn K (.ref f9) = true)
    (a10 : PySem.W.nsIn K mainGlobals "_law_mixed" = some (some (.ref f10))) (l10 : K.lookup f10 = some ⟨oc10, od10, .func (PySem.W.fnOf "_law_mixed" "_law_mixed" (defArgs sMixed) (defBody sMixed) (defScope sMixed) .none kV10 dc10 pm10 an10 cd10 ct10), sl10⟩) (c10 : PySem.W.codeIn K cd10 "_law_mixed" = true) (k10 : PySem.W.keepIn K (.ref f10) = true)
    (a11 : PySem.W.nsIn K mainGlobals "_law_names" = some (some (.ref f11))) (l11 : K.lookup f11 = some ⟨oc11, od11, .func (PySem.W.fnOf "_law_names" "_law_names" (defArgs sNames) (defBody sNames) (defScope sNames) .none kV11 dc11 pm11 an11 cd11 ct11), sl11⟩) (c11 : PySem.W.codeIn K cd11 "_law_names" = true) (k11 : PySem.W.keepIn K (.ref f11) = true)
    (a12 : PySem.W.nsIn K mainGlobals "_law_question" = some (some (.ref f12))) (l12 : K.lookup f12 = some ⟨oc12, od12, .func (PySem.W.fnOf "_law_question" "_law_question" (defArgs sQuestion) (defBody sQuestion) (defScope sQuestion) .none kV12 dc12 pm12 an12 cd12 ct12), sl12⟩) (c12 : PySem.W.codeIn K cd12 "_law_question" = true) (k12 : PySem.W.keepIn K (.ref f12) = true)
    (a13 : PySem.W.nsIn K mainGlobals "_law_beginning" = some (some (.ref f13))) (l13 : K.lookup f13 = some ⟨oc13, od13, .func (PySem.W.fnOf "_law_beginning" "_law_beginning" (defArgs sBeginning) (defBody sBeginning) (defScope sBeginning) .none kV13 dc13 pm13 an13 cd13 ct13), sl13⟩) (c13 : PySem.W.codeIn K cd13 "_law_beginning" = true) (k13 : PySem.W.keepIn K (.ref f13) = true)
    (a14 : PySem.W.nsIn K mainGlobals "_law_all" = some (some (.ref f14))) (l14 : K.lookup f14 = some ⟨oc14, od14, .func (PySem.W.fnOf "_law_all" "_law_all" (defArgs sAll) (defBody sAll) (defScope sAll) .none kV14 dc14 pm14 an14 cd14 ct14), sl14⟩) (c14 : PySem.W.codeIn K cd14 "_law_all" = true) (k14 : PySem.W.keepIn K (.ref f14) = true)
    (a15 : PySem.W.nsIn K mainGlobals "_law_below" = some (some (.ref f15))) (l15 : K.lookup f15 = some ⟨oc15, od15, .func (PySem.W.fnOf "_law_below" "_law_below" (defArgs sLBelow) (defBody sLBelow) (defScope sLBelow) .none kV15 dc15 pm15 an15 cd15 ct15), sl15⟩) (c15 : PySem.W.codeIn K cd15 "_law_below" = true) (k15 : PySem.W.keepIn K (.ref f15) = true)
    (a16 : PySem.W.nsIn K mainGlobals "_law_share" = some (some (.ref f16))) (l16 : K.lookup f16 = some ⟨oc16, od16, .func (PySem.W.fnOf "_law_share" "_law_share" (defArgs sLShare) (defBody sLShare) (defScope sLShare) .none kV16 dc16 pm16 an16 cd16 ct16), sl16⟩) (c16 : PySem.W.codeIn K cd16 "_law_share" = true) (k16 : PySem.W.keepIn K (.ref f16) = true)
    (a17 : PySem.W.nsIn K mainGlobals "_law_alike" = some (some (.ref f17))) (l17 : K.lookup f17 = some ⟨oc17, od17, .func (PySem.W.fnOf "_law_alike" "_law_alike" (defArgs sAlike) (defBody sAlike) (defScope sAlike) .none kV17 dc17 pm17 an17 cd17 ct17), sl17⟩) (c17 : PySem.W.codeIn K cd17 "_law_alike" = true) (k17 : PySem.W.keepIn K (.ref f17) = true)
    (a18 : PySem.W.nsIn K mainGlobals "_law_right" = some (some (.ref f18))) (l18 : K.lookup f18 = some ⟨oc18, od18, .func (PySem.W.fnOf "_law_right" "_law_right" (defArgs sRight) (defBody sRight) (defScope sRight) .none kV18 dc18 pm18 an18 cd18 ct18), sl18⟩) (c18 : PySem.W.codeIn K cd18 "_law_right" = true) (k18 : PySem.W.keepIn K (.ref f18) = true)
    (a19 : PySem.W.nsIn K mainGlobals "law" = some (some (.ref f19))) (l19 : K.lookup f19 = some ⟨oc19, od19, .func (PySem.W.fnOf "law" "law" (defArgs sLaw) (defBody sLaw) (defScope sLaw) .none kV19 dc19 pm19 an19 cd19 ct19), sl19⟩) (c19 : PySem.W.codeIn K cd19 "law" = true) (k19 : PySem.W.keepIn K (.ref f19) = true)
    (zlen : PySem.W.nsIn K mainGlobals "len" = some none) (zint : PySem.W.nsIn K mainGlobals "int" = some none) (zabs : PySem.W.nsIn K mainGlobals "abs" = some none) (ztuple : PySem.W.nsIn K mainGlobals "tuple" = some none) (zsorted : PySem.W.nsIn K mainGlobals "sorted" = some none) (zrange : PySem.W.nsIn K mainGlobals "range" = some none) (zrepr : PySem.W.nsIn K mainGlobals "repr" = some none) (zlist : PySem.W.nsIn K mainGlobals "list" = some none) (zset : PySem.W.nsIn K mainGlobals "set" = some none) :
    ∃ fd : FuncData, (∀ (s : Shared) (v : Value), BindsTo s fd ⟨[v], []⟩ [("_law_script", v)]) ∧ ∀ base : Heap, K.In base → base.Ns mainGlobals mg → FnG l.prog w K mg base 5 fa fd ["_law_script"] (spLaw K) := by
  have e := hfa.symm.trans (PySem.W.mg_of X G a19)
  cases e
  have T : Txt K mg := ⟨PySem.W.mg_none_of X G zlen, PySem.W.mg_none_of X G zint, PySem.W.mg_none_of X G zabs, PySem.W.mg_none_of X G ztuple, PySem.W.mg_none_of X G zsorted, PySem.W.mg_none_of X G zrange, PySem.W.mg_none_of X G zrepr, PySem.W.mg_none_of X G zlist, PySem.W.mg_none_of X G zset⟩
  have F1 := fun_mk (st := sRow) l1 c1 k1
  have b1 := F1.binds (ps := ["question"]) fun _ _ _ _ _ _ us hl => match us, hl with | [_], _ => rfl
  have F2 := fun_mk (st := sCols) l2 c2 k2
  have b2 := F2.binds (ps := ["question"]) fun _ _ _ _ _ _ us hl => match us, hl with | [_], _ => rfl
  have F3 := fun_mk (st := sWidth) l3 c3 k3
  have b3 := F3.binds (ps := ["question"]) fun _ _ _ _ _ _ us hl => match us, hl with | [_], _ => rfl
  have F4 := fun_mk (st := sPlain) l4 c4 k4
  have b4 := F4.binds (ps := ["question"]) fun _ _ _ _ _ _ us hl => match us, hl with | [_], _ => rfl
  have F5 := fun_mk (st := sBelow) l5 c5 k5
  have b5 := F5.binds (ps := ["one", "other"]) fun _ _ _ _ _ _ us hl => match us, hl with | [_, _], _ => rfl
  have F6 := fun_mk (st := sCan) l6 c6 k6
  have b6 := F6.binds (ps := ["one", "other"]) fun _ _ _ _ _ _ us hl => match us, hl with | [_, _], _ => rfl
  have F7 := fun_mk (st := sBag) l7 c7 k7
  have b7 := F7.binds (ps := ["_law_script"]) fun _ _ _ _ _ _ us hl => match us, hl with | [_], _ => rfl
  have F8 := fun_mk (st := sTake) l8 c8 k8
  have b8 := F8.binds (ps := ["_law_bag_here", "_law_many"]) fun _ _ _ _ _ _ us hl => match us, hl with | [_, _], _ => rfl
  have F9 := fun_mk (st := sOne) l9 c9 k9
  have b9 := F9.binds (ps := ["_law_bag_here", "_law_some"]) fun _ _ _ _ _ _ us hl => match us, hl with | [_, _], _ => rfl
  have F10 := fun_mk (st := sMixed) l10 c10 k10
  have b10 := F10.binds (ps := ["_law_bag_here", "_law_things"]) fun _ _ _ _ _ _ us hl => match us, hl with | [_, _], _ => rfl
  have F11 := fun_mk (st := sNames) l11 c11 k11
  have b11 := F11.binds (ps := ["_law_bag_here", "_law_many"]) fun _ _ _ _ _ _ us hl => match us, hl with | [_, _], _ => rfl
  have F12 := fun_mk (st := sQuestion) l12 c12 k12
  have b12 := F12.binds (ps := ["_law_bag_here", "_law_names_here"]) fun _ _ _ _ _ _ us hl => match us, hl with | [_, _], _ => rfl
  have F13 := fun_mk (st := sBeginning) l13 c13 k13
  have b13 := F13.binds (ps := ["_law_bag_here", "_law_row"]) fun _ _ _ _ _ _ us hl => match us, hl with | [_, _], _ => rfl
  have F14 := fun_mk (st := sAll) l14 c14 k14
  have b14 := F14.binds (ps := ["_law_question_here"]) fun _ _ _ _ _ _ us hl => match us, hl with | [_], _ => rfl
  have F15 := fun_mk (st := sLBelow) l15 c15 k15
  have b15 := F15.binds (ps := ["_law_one_here", "_law_other"]) fun _ _ _ _ _ _ us hl => match us, hl with | [_, _], _ => rfl
  have F16 := fun_mk (st := sLShare) l16 c16 k16
  have b16 := F16.binds (ps := ["_law_one_here", "_law_other"]) fun _ _ _ _ _ _ us hl => match us, hl with | [_, _], _ => rfl
  have F17 := fun_mk (st := sAlike) l17 c17 k17
  have b17 := F17.binds (ps := ["_law_found", "_law_due"]) fun _ _ _ _ _ _ us hl => match us, hl with | [_, _], _ => rfl
  have F18 := fun_mk (st := sRight) l18 c18 k18
  have b18 := F18.binds (ps := ["_law_one_here", "_law_other", "_law_way"]) fun _ _ _ _ _ _ us hl => match us, hl with | [_, _, _], _ => rfl
  have F19 := fun_mk (st := sLaw) l19 c19 k19
  have b19 := F19.binds (ps := ["_law_script"]) fun _ _ _ _ _ _ us hl => match us, hl with | [_], _ => rfl
  refine ⟨PySem.W.fnOf "law" "law" (defArgs sLaw) (defBody sLaw) (defScope sLaw) .none kV19 dc19 pm19 an19 cd19 ct19, fun s v => .of_eq rfl, fun base _ _ => ?_⟩
  let c_1 : Cal l.prog w K mg base 1 "row_of" ["question"] (spRow) := ⟨_, _, ok_row F1 T, PySem.W.mg_of X G a1, k1, b1⟩
  let c_2 : Cal l.prog w K mg base 2 "columns_of" ["question"] (spCols) := ⟨_, _, ok_cols F2 T c_1, PySem.W.mg_of X G a2, k2, b2⟩
  let c_3 : Cal l.prog w K mg base 2 "width" ["question"] (spWidth) := ⟨_, _, ok_width F3 T c_1, PySem.W.mg_of X G a3, k3, b3⟩
  let c_4 : Cal l.prog w K mg base 1 "is_plain" ["question"] (spPlain) := ⟨_, _, ok_plain F4 T, PySem.W.mg_of X G a4, k4, b4⟩
  let c_5 : Cal l.prog w K mg base 2 "is_below" ["one", "other"] (spTwo belowQ) := ⟨_, _, ok_below F5 T c_1, PySem.W.mg_of X G a5, k5, b5⟩
  let c_6 : Cal l.prog w K mg base 3 "can_share" ["one", "other"] (spTwo shareQ) := ⟨_, _, ok_can F6 T c_5, PySem.W.mg_of X G a6, k6, b6⟩
  let c_7 : Cal l.prog w K mg base 1 "_law_bag" ["_law_script"] (spBag K) := ⟨_, _, ok_bag F7 T, PySem.W.mg_of X G a7, k7, b7⟩
  let c_8 : Cal l.prog w K mg base 1 "_law_take" ["_law_bag_here", "_law_many"] (spTake) := ⟨_, _, ok_take F8 T, PySem.W.mg_of X G a8, k8, b8⟩
  let c_9 : Cal l.prog w K mg base 2 "_law_one" ["_law_bag_here", "_law_some"] (spOne) := ⟨_, _, ok_one F9 T c_8, PySem.W.mg_of X G a9, k9, b9⟩
  let c_10 : Cal l.prog w K mg base 2 "_law_mixed" ["_law_bag_here", "_law_things"] (spMixed) := ⟨_, _, ok_mixed F10 T c_8, PySem.W.mg_of X G a10, k10, b10⟩
  let c_11 : Cal l.prog w K mg base 3 "_law_names" ["_law_bag_here", "_law_many"] (spNames) := ⟨_, _, ok_names F11 T c_10, PySem.W.mg_of X G a11, k11, b11⟩
  let c_12 : Cal l.prog w K mg base 3 "_law_question" ["_law_bag_here", "_law_names_here"] (spQuestion) := ⟨_, _, ok_question F12 T c_8 c_10, PySem.W.mg_of X G a12, k12, b12⟩
  let c_13 : Cal l.prog w K mg base 2 "_law_beginning" ["_law_bag_here", "_law_row"] (spBeginL) := ⟨_, _, ok_beginning F13 T c_8, PySem.W.mg_of X G a13, k13, b13⟩
  let c_14 : Cal l.prog w K mg base 1 "_law_all" ["_law_question_here"] (spAll) := ⟨_, _, ok_all F14 T, PySem.W.mg_of X G a14, k14, b14⟩
  let c_15 : Cal l.prog w K mg base 2 "_law_below" ["_law_one_here", "_law_other"] (spTwo belowQ) := ⟨_, _, ok_lbelow F15 T c_14, PySem.W.mg_of X G a15, k15, b15⟩
  let c_16 : Cal l.prog w K mg base 3 "_law_share" ["_law_one_here", "_law_other"] (spTwo shareQ) := ⟨_, _, ok_lshare F16 T c_15, PySem.W.mg_of X G a16, k16, b16⟩
  let c_17 : CalG l.prog w K mg base 1 "_law_alike" ["_law_found", "_law_due"] (spAlikeD K) := ⟨_, _, ok_alike F17 T, PySem.W.mg_of X G a17, k17, b17⟩
  let c_18 : CalG l.prog w K mg base 4 "_law_right" ["_law_one_here", "_law_other", "_law_way"] (spRight) := ⟨_, _, ok_right F18 T c_2 c_3 c_4 c_5 c_6 c_14 c_15 c_16 c_17, PySem.W.mg_of X G a18, k18, b18⟩
  exact ok_law F19 T c_7 c_8 c_9 c_10 c_11 c_12 c_13 c_18
theorem walk {l : PySem.W.OpenLaw} {q : Program} {loose : List Str} {XP : (Str → Option Value) → Heap → Prop} {YP : World → Heap → Prop} {d : DefRec} {K : Params → PySem.W.Frag} (hn : l.most = some 63) (hdf : d.params.defaults = [])
    (hY : ∀ (w : World) (h : Heap), YP w h → (K w.params).In h)
    (F : ∀ (w : World) (mg : Str → Option Value) (fa : Addr) (h : Heap), (K w.params).In h → h.Ns mainGlobals mg → mg d.name = some (.ref fa) →
      ∃ fd : FuncData, (∀ (s : Shared) (u : Value), BindsTo s fd ⟨[u], []⟩ [("_law_script", u)]) ∧ ∀ base : Heap, (K w.params).In base → base.Ns mainGlobals mg → FnG l.prog w (K w.params) mg base 5 fa fd ["_law_script"] (spLaw (K w.params))) :
    PySem.W.WalkO q loose XP YP l.row.toRowW d [] (fun f vs => PySem.call f vs) :=
  walk_g (n := 63) (k := 5) (x := "_law_script") (sp := fun w => spLaw (K w.params)) hn (by decide) hdf ⟨rfl, by decide, by decide⟩ hY F (fun _ _ a ns hl _ hS => ⟨a, ns, rfl, hS, hl, fun _ => rfl⟩)
end Qk
open PySem PySem.W PyProof.Rows
set_option maxRecDepth 100000 in
set_option maxHeartbeats 0 in
theorem PySem.Challenge.cw_narrowkeys_k13_questions_told_holds : PySem.Challenge.rw_narrowkeys_k13_questions_told.Holds := by
  w_on; o_law; k_head; (case hw => w_witness2)
  k_fill
  refine Qk.walk (l := PySem.Challenge.rw_narrowkeys_k13_questions_told) rfl rfl (fun w h Y => PySem.W.kIn_of Y) ?F
  case F =>
    intro w mg fa h KX G hmg
    refine' Qk.all_mk KX G hmg ?a1 ?l1 ?c1 ?k1 ?a2 ?l2 ?c2 ?k2 ?a3 ?l3 ?c3 ?k3 ?a4 ?l4 ?c4 ?k4 ?a5 ?l5 ?c5 ?k5 ?a6 ?l6 ?c6 ?k6 ?a7 ?l7 ?c7 ?k7 ?a8 ?l8 ?c8 ?k8 ?a9 ?l9 ?c9 ?k9 ?a10 ?l10 ?c10 ?k10 ?a11 ?l11 ?c11 ?k11 ?a12 ?l12 ?c12 ?k12 ?a13 ?l13 ?c13 ?k13 ?a14 ?l14 ?c14 ?k14 ?a15 ?l15 ?c15 ?k15 ?a16 ?l16 ?c16 ?k16 ?a17 ?l17 ?c17 ?k17 ?a18 ?l18 ?c18 ?k18 ?a19 ?l19 ?c19 ?k19 ?zlen ?zint ?zabs ?ztuple ?zsorted ?zrange ?zrepr ?zlist ?zset
    (case a1 => k_is)
    (case l1 => k_is)
    (case c1 => k_is)
    (case k1 => k_is)
    (case a2 => k_is)
    (case l2 => k_is)
    (case c2 => k_is)
    (case k2 => k_is)
    (case a3 => k_is)
    (case l3 => k_is)
    (case c3 => k_is)
    (case k3 => k_is)
    (case a4 => k_is)
    (case l4 => k_is)
    (case c4 => k_is)
    (case k4 => k_is)
    (case a5 => k_is)
    (case l5 => k_is)
    (case c5 => k_is)
    (case k5 => k_is)
    (case a6 => k_is)
    (case l6 => k_is)
    (case c6 => k_is)
    (case k6 => k_is)
    (case a7 => k_is)
    (case l7 => k_is)
    (case c7 => k_is)
    (case k7 => k_is)
    (case a8 => k_is)
    (case l8 => k_is)
    (case c8 => k_is)
    (case k8 => k_is)
    (case a9 => k_is)
    (case l9 => k_is)
    (case c9 => k_is)
    (case k9 => k_is)
    (case a10 => k_is)
    (case l10 => k_is)
    (case c10 => k_is)
    (case k10 => k_is)
    (case a11 => k_is)
    (case l11 => k_is)
    (case c11 => k_is)
    (case k11 => k_is)
    (case a12 => k_is)
    (case l12 => k_is)
    (case c12 => k_is)
    (case k12 => k_is)
    (case a13 => k_is)
    (case l13 => k_is)
    (case c13 => k_is)
    (case k13 => k_is)
    (case a14 => k_is)
    (case l14 => k_is)
    (case c14 => k_is)
    (case k14 => k_is)
    (case a15 => k_is)
    (case l15 => k_is)
    (case c15 => k_is)
    (case k15 => k_is)
    (case a16 => k_is)
    (case l16 => k_is)
    (case c16 => k_is)
    (case k16 => k_is)
    (case a17 => k_is)
    (case l17 => k_is)
    (case c17 => k_is)
    (case k17 => k_is)
    (case a18 => k_is)
    (case l18 => k_is)
    (case c18 => k_is)
    (case k18 => k_is)
    (case a19 => k_is)
    (case l19 => k_is)
    (case c19 => k_is)
    (case k19 => k_is)
    (case zlen => k_is)
    (case zint => k_is)
    (case zabs => k_is)
    (case ztuple => k_is)
    (case zsorted => k_is)
    (case zrange => k_is)
    (case zrepr => k_is)
    (case zlist => k_is)
    (case zset => k_is)
#print axioms PySem.Challenge.cw_narrowkeys_k13_questions_told_holds
