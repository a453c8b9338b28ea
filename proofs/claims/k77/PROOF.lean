import PyProof.Rows.All
import Wide.All
import OpenK.AllK
import Wide.FinOn
import HandS.ForMost
import HandS.More
import HandS.TupAny
import HandS.Star
import HandS.Evl
import PyProof.Rows.StrMeet
import HandS.Walk
import PyProof.StrLawsRepr
import HandS.Gcd
import HandS.Sort
import HandS.SortKw
import HandS.Defaults
import KE.KMathGC
import KE.DatumOrd
import HandS.Zip
import PySem.Challenge.RW_narrowkeys_k77_whole_everything_far
set_option Elab.async false
set_option linter.all false
set_option maxRecDepth 100000
set_option maxHeartbeats 4000000
namespace Qk
open PySem PySem.Spec PyProof.Rows L2

/-! rules of my own: a list's item read for an augmented store, repr of flat values, sorted of a list or a tuple of texts -/
section
variable {X : Cx}

theorem get_list : PGet X (fun o i H Q => ∃ p xs j v, o = .ref p ∧ i = .int ((j : Nat) : Int) ∧ SqL X.K H p xs ∧ xs[j]? = some v ∧ Q v H) := by
  intro pins s σ H o i ov iv Q I ro ri h
  obtain ⟨p, xs, j, v, rfl, rfl, hx, ha, q⟩ := h
  cases ro
  obtain ⟨t, rfl⟩ := ri
  obtain ⟨its, r, pl, hz⟩ := I.list hx
  obtain ⟨w, ew, rw'⟩ := r.get ha
  have hj : j < xs.length := (List.getElem?_eq_some_iff.mp ha).1
  have hn := line63
  exact wpAny_getItem_list pl.isList (by omega) (by omega) (by simpa using ew) ⟨v, H, I, rw', q⟩

/-- flat values, as repr shows them -/
def flatText : V → Option Str
  | .non => some "None"
  | .bl b => some (if b then "True" else "False")
  | .int i => if i.natAbs.log2 < 1920 then some (toString i) else none
  | _ => none
def rReprF : List V → Hp → VK → Prop := fun vs H Q => ∃ x t, vs = [x] ∧ flatText x = some t ∧ Q (.str t) H
theorem call_reprF : CallR X (.builtin "repr") rReprF := by
  intro pins s σ H xs us Q I r h
  obtain ⟨x, t, rfl, e, q⟩ := h
  obtain ⟨u, rfl, rx⟩ := vals1 r
  cases x with
  | non =>
    cases rx
    obtain rfl := Option.some.inj e
    exact PySem.P.repr_of_none ⟨.str _, H, I.tok _, ⟨_, rfl⟩, q⟩
  | bl b =>
    cases rx
    obtain rfl := Option.some.inj e
    exact PySem.P.repr_of_bool ⟨.str _, H, I.tok _, ⟨_, rfl⟩, q⟩
  | int i =>
    obtain ⟨tk, rfl⟩ := rx
    replace e : (if i.natAbs.log2 < 1920 then some (Str.ofString (toString i)) else none) = some t := e
    by_cases hz : i.natAbs.log2 < 1920
    · rw [if_pos hz] at e
      obtain rfl := Option.some.inj e
      exact PySem.P.repr_of_int hz ⟨.str _, H, I.tok _, ⟨_, rfl⟩, q⟩
    · rw [if_neg hz] at e
      cases e
  | str _ => cases e
  | byt _ => cases e
  | flt _ => cases e
  | ref _ => cases e
  | ty _ => cases e

def rSortedST (K : PySem.W.Frag) : List V → Hp → VK → Prop := fun vs H Q => ∃ (a : Addr) (ss : List Str), vs = [V.ref a] ∧ (SqL K H a (ss.map V.str) ∨ SqT K H a (ss.map V.str)) ∧ ss.length < 64 ∧
  ∀ (ys : List Str) (p : Addr), ys.Perm ss → sortedS ys = true → H p = none → Q (.ref p) (upd H p (.lst (ys.map V.str)))
theorem cr_sortedST : CallR X (.builtin "sorted") (rSortedST X.K) := by
  intro pins s σ H vs us Q I r h
  obtain ⟨a, ss, rfl, hs, h64, q⟩ := h
  rcases hs with hs | hs
  · exact cr_sortedS pins s σ H _ us Q I r ⟨a, ss, rfl, hs, h64, q⟩
  · obtain ⟨its, rv, ⟨o, ho, hc, n, hd⟩, hz⟩ := I.tuple hs
    rw [Vals.ref1 r]
    have hS : StrsAre its ss := rv.strs
    have hl : its.length = ss.length := by
      have z := rv.length
      rw [List.length_map] at z
      exact z.symm
    refine Calls.call_function_entry PyProof.Rows.kind_sorted PyProof.Rows.plain_sorted PyProof.Rows.entry_sorted (PyProof.Rows.args_sorted1 _) ?_
    unfold Builtin.«sorted»
    refine wpAny_bind (m := checkCount "sorted" 1 1 _) (wpAny_pure ?_)
    refine wpAny_bind (wpAny_collect_seq a (.inr rfl) ho hc hd (fun h' hk => ?_) (by rw [List.size_toArray, hl, sizeLine_eq]; omega))
    have e0 : its.toArray.toList = its := by simp
    rw [e0]
    have I1 : Inv X pins σ H { s with heap := h' } := I.kept (t' := s.toks) hk
    refine wpAny_bind (wpAny_newList ?_ (by rw [hl, sizeLine_eq]; omega))
    have hoL : (h'.push (seqObj "list" its.toArray 0)).get? h'.objs.size = some (seqObj "list" its.toArray 0) := Heap.get?_push_size _ rfl
    show wpAny _ _ _ _ _ { s with heap := h'.push (seqObj "list" its.toArray 0) }
    refine wpAny_bind (wpAny_holding (wpAny_call_entry PyProof.Rows.slot_list_sort ⟨_, hoL, rfl⟩ PyProof.Rows.entry_list_sort
      (list_sort_treeK strKind_oneLt (s := { s with heap := h'.push (seqObj "list" its.toArray 0) }) hoL hS.keysOf (fun v₁ v₂ rest e => keyKind_strs (by rw [← e]; exact hS)) (by rw [hl]; exact h64) fun st' hp hs => ⟨_, rfl, ?_⟩)
      (PyProof.Rows.args_list_sort _)))
    obtain ⟨ys, g1, g2, g3⟩ := sorted_out_str hS hp hs
    obtain ⟨ep, he'⟩ := PyProof.Rows.sortedHeap_at (vs := its) (out := (arrOf st').map (·.2)) hoL
    have hlen : (ys.map V.str).length ≤ sizeLine := by
      rw [List.length_map, g2.length_eq]
      exact Nat.le_trans (Nat.le_of_lt h64) (by decide)
    have hfresh : H h'.objs.size = none := I1.hok.fresh (Nat.le_refl _)
    refine wpAny_pure ⟨_, rfl, .ref h'.objs.size, upd H h'.objs.size (.lst (ys.map V.str)), I1.laid (t' := s.toks) (fun b u hu => ?_) (Nat.le_refl _)
      (show ObjOk X.prog X.w _ _ h'.objs.size (.lst (ys.map V.str)) from ⟨hlen, ((arrOf st').map (·.2)).toList, ep, vals_of_strs g1, by rw [Array.toArray_toList]; exact he'⟩), rfl, q ys _ g2 g3 hfresh⟩
    have hb : b ≠ h'.objs.size := Nat.ne_of_lt (Heap.lt_size hu)
    have hu2 : (h'.push (seqObj "list" its.toArray 0)).get? b = some u := Heap.get?_push_of_some _ hu
    rw [PyProof.Rows.sortedHeap_old hb (Heap.lt_size hu2)]
    exact hu2
end
end Qk

set_option maxRecDepth 100000
set_option maxHeartbeats 4000000
namespace Qk
open PySem PySem.Spec PyProof.Rows L2

/-! the law's bag of draws: what is known of it, and what a draw may touch -/
def Bag (H : Hp) (b l : Addr) : Prop := ∃ (h m : Int) (p : Nat) (ns : List Int), H b = some (.lst [.int h, .int m, .int (p : Int), .ref l]) ∧ H l = some (.lst (ns.map V.int)) ∧ l ≠ b ∧
  0 ≤ h ∧ 0 ≤ m ∧ m < 2147483647 ∧ ∀ n ∈ ns, 0 ≤ n
/-- all but b is kept -/
def Kp (b : Addr) (H H' : Hp) : Prop := ∀ c o, H c = some o → c ≠ b → H' c = some o
theorem Kp.refl (b : Addr) (H : Hp) : Kp b H H := fun _ _ e _ => e
theorem Kp.trans {b : Addr} {H H1 H2 : Hp} (x : Kp b H H1) (y : Kp b H1 H2) : Kp b H H2 := fun c o e n => y c o (x c o e n) n
theorem Kp.of {b : Addr} {H H' : Hp} (s : Same H H') : Kp b H H' := fun c o e _ => s c o e
theorem Kp.at_ (b : Addr) (H : Hp) (o : HO) : Kp b H (upd H b o) := fun c u e n => by rw [upd_ne n]; exact e
theorem Kp.new {b p : Addr} {H : Hp} {o : HO} (hp : H p = none) : Kp b H (L2.upd H p o) := fun c u e _ => by rw [upd_ne (ne_of_none e hp)]; exact e
theorem Bag.at_ {H : Hp} {b l : Addr} (B : Bag H b l) : ∃ o, H b = some o := by
  obtain ⟨h, m, p, ns, hb, _⟩ := B
  exact ⟨_, hb⟩
theorem Bag.same {H H' : Hp} {b l : Addr} (s : Same H H') (B : Bag H b l) : Bag H' b l := by
  obtain ⟨h, m, p, ns, hb, hl, r⟩ := B
  exact ⟨h, m, p, ns, s _ _ hb, s _ _ hl, r⟩
theorem same_new {H : Hp} {p : Addr} {o : HO} (h : H p = none) : Same H (upd H p o) := fun b x e => by
  rw [upd_ne (ne_of_none e h)]
  exact e
theorem Bag.new {H : Hp} {b l p : Addr} {o : HO} (B : Bag H b l) (h : H p = none) : Bag (upd H p o) b l := B.same (same_new h)
theorem Bag.ne {H : Hp} {b l p : Addr} (B : Bag H b l) (h : H p = none) : p ≠ b := by
  obtain ⟨o, e⟩ := B.at_
  exact (ne_of_none e h).symm
/-- the bag stands nowhere where something of another kind stands -/
theorem Bag.ne_tup {H : Hp} {b l p : Addr} {xs : List V} (B : Bag H b l) (h : H p = some (.tup xs)) : p ≠ b := by
  obtain ⟨h', m, q, ns, hb, _⟩ := B
  exact ne_of h hb (by intro z; cases z)
theorem Bag.ne_strs {H : Hp} {b l p : Addr} {xs : List Str} (B : Bag H b l) (h : H p = some (.lst (xs.map V.str))) : p ≠ b := by
  obtain ⟨h', m, q, ns, hb, _⟩ := B
  refine ne_of h hb fun z => ?_
  injection z with z
  cases xs with
  | nil => cases z
  | cons x xs =>
    rw [List.map_cons] at z
    injection z with z _
    cases z
/-- what stands beside the bag and its list may change -/
theorem Bag.off {H H' : Hp} {b l p : Addr} (B : Bag H b l) (h : ∀ c o, H c = some o → c ≠ p → H' c = some o) (nb : b ≠ p) (nl : l ≠ p) : Bag H' b l := by
  obtain ⟨h', m, q, ns, hb, hl, r⟩ := B
  exact ⟨h', m, q, ns, h _ _ hb nb, h _ _ hl nl, r⟩
theorem Bag.list {H : Hp} {b l : Addr} (B : Bag H b l) : ∃ o, H l = some o := by
  obtain ⟨h, m, p, ns, hb, hl, _⟩ := B
  exact ⟨_, hl⟩
theorem Bag.nel {H : Hp} {b l p : Addr} (B : Bag H b l) (h : H p = none) : l ≠ p := by
  obtain ⟨o, e⟩ := B.list
  exact ne_of_none e h
theorem Bag.upd {H : Hp} {b l p : Addr} {o : HO} (B : Bag H b l) (nb : b ≠ p) (nl : l ≠ p) : Bag (L2.upd H p o) b l :=
  B.off (fun c u e n => by rw [upd_ne n]; exact e) nb nl
theorem rIx {K : PySem.W.Frag} {H : Hp} {b : Addr} {xs : List V} {v : V} {Q : VK} (j : Nat) (h : H b = some (.lst xs)) (e : xs[j]? = some v) (q : Q v H) : rIxL K (.ref b) (.int (j : Int)) H Q :=
  ⟨b, xs, (j : Int), v, rfl, rfl, SqL.of h, atI_nat e, q⟩
theorem setIx {H : Hp} {b : Addr} {xs : List V} {v : V} {Q : Hp → Prop} (j : Nat) (h : H b = some (.lst xs)) (e : j < xs.length) (q : Q (upd H b (.lst (xs.set j v)))) : rSetL (.ref b) (.int (j : Int)) v H Q :=
  ⟨b, xs, (j : Int), j, rfl, rfl, h, Evl.ixN_nat e, q⟩

/-! promises of the law's own helpers -/
/-- a draw: a number below many, the bag moves on -/
def spTake : Sp := fun vs H Q _ => ∃ (b l : Addr) (n : Int), vs = [.ref b, .int n] ∧ Bag H b l ∧ 0 < n ∧ n < 1000000 ∧ ∀ (k : Nat) (H' : Hp), (k : Int) < n → Bag H' b l → Kp b H H' → Q (.int (k : Int)) H'
/-- one of a list -/
def spOne : Sp := fun vs H Q _ => ∃ (b l a : Addr) (xs : List V), vs = [.ref b, .ref a] ∧ Bag H b l ∧ a ≠ b ∧ H a = some (.lst xs) ∧ xs ≠ [] ∧ xs.length < 1000 ∧ ∀ (x : V) (H' : Hp), x ∈ xs → Bag H' b l → Kp b H H' → Q x H'
/-- a new list of the same things in some order -/
def spMixed : Sp := fun vs H Q _ => ∃ (b l a : Addr) (xs : List V), vs = [.ref b, .ref a] ∧ Bag H b l ∧ a ≠ b ∧ H a = some (.lst xs) ∧ xs.length < 1000 ∧
  ∀ (ys : List V) (p : Addr) (H' : Hp), ys.Perm xs → H p = none → p ≠ b → H' p = some (.lst ys) → Bag H' b l → Kp b H H' → Q (.ref p) H'

/-- the bag of a script -/
def spBag (K : PySem.W.Frag) : Sp := fun vs H Q _ => ∃ (a : Addr) (ns : List Int), vs = [.ref a] ∧ SqL K H a (ns.map V.int) ∧ ns.length ≤ 63 ∧ ∀ (b l : Addr) (H' : Hp), H b = none → Bag H' b l → Same H H' → Q (.ref b) H'
/-- a def that is called by its name -/
structure Cal (P : Program) (w : World) (K : PySem.W.Frag) (mg : Str → Option Value) (base : Heap) (k : Nat) (x : Str) (ps : List Str) (sp : Sp) where
  f : Addr
  fd : FuncData
  G : FnOk P w K mg base CX0 k f fd ps sp
  m : mg x = some (.ref f)
  kp : PySem.W.keepIn K (.ref f) = true
  b : Binds K fd ps []
theorem cut_to (k : Nat) (xs : List V) : cutV xs none (some (k : Int)) = xs.take k := by
  unfold cutV
  rw [HT.sIx_none, HT.sIx_nat, List.drop_zero, Nat.sub_zero]
  by_cases h : k ≤ xs.length
  · rw [Nat.min_eq_left h]
  · rw [Nat.min_eq_right (by omega), List.take_of_length_le (Nat.le_refl _), List.take_of_length_le (by omega)]
theorem take_mod {k n : Int} (hn : 0 < n) : ∃ j : Nat, k % n = (j : Int) ∧ (j : Int) < n := by
  have h1 := Int.emod_nonneg k (show n ≠ 0 by omega)
  have h2 := Int.emod_lt_of_pos k hn
  exact ⟨(k % n).toNat, by omega, by omega⟩
/-- the names that the laws draw from -/
def menu : List Str := ["a", "b", "ab", "ba", "job", "view", "pin", "quay", "stock", "golfer", "exhumed", "zzzzzzzz"]
theorem menu_nodup : menu.Nodup := by decide +kernel
theorem perm_strs {ys : List V} {xs : List Str} (h : ys.Perm (xs.map V.str)) : ∃ zs : List Str, ys = zs.map V.str ∧ zs.Perm xs := by
  have go : ∀ (ys : List V), (∀ y ∈ ys, ∃ z, y = V.str z) → ∃ zs : List Str, ys = zs.map V.str := by
    intro ys
    induction ys with
    | nil => intro _; exact ⟨[], rfl⟩
    | cons y ys ih =>
      intro h
      obtain ⟨z, rfl⟩ := h y List.mem_cons_self
      obtain ⟨zs, rfl⟩ := ih fun y hy => h y (List.mem_cons_of_mem _ hy)
      exact ⟨z :: zs, rfl⟩
  obtain ⟨zs, rfl⟩ := go ys fun y hy => by
    obtain ⟨z, _, e⟩ := List.mem_map.mp (h.mem_iff.mp hy)
    exact ⟨z, e.symm⟩
  refine ⟨zs, rfl, ?_⟩
  have unstr : ∀ l : List Str, (l.map V.str).map (fun v => match v with | .str z => z | _ => "") = l := fun l => by
    rw [List.map_map]
    exact (List.map_congr_left fun _ _ => rfl).trans (List.map_id _)
  have := h.map (fun v => match v with | .str z => z | _ => "")
  rwa [unstr, unstr] at this
/-- some of the menu's names, each once, n at most -/
structure Names (n : Nat) (xs : List Str) : Prop where
  nd : xs.Nodup
  sub : ∀ c ∈ xs, c ∈ menu
  len : xs.length = min n 12
def spNames : Sp := fun vs H Q _ => ∃ (b l : Addr) (n : Nat), vs = [.ref b, .int (n : Int)] ∧ Bag H b l ∧
  ∀ (xs : List Str) (p : Addr) (H' : Hp), Names n xs → H p = none → p ≠ b → H' p = some (.lst (xs.map V.str)) → Bag H' b l → Kp b H H' → Q (.ref p) H'
/-- a row of names -/
structure Row (xs : List Str) : Prop where
  nd : xs.Nodup
  sub : ∀ c ∈ xs, c ∈ menu
  pos : 0 < xs.length
  le : xs.length ≤ 12
theorem Names.row {n : Nat} {xs : List Str} (h : Names n xs) (hn : 0 < n) : Row xs := ⟨h.nd, h.sub, by rw [h.len]; omega, by rw [h.len]; omega⟩
/-- a question as it stands -/
def QAt (H : Hp) (q : Addr) (cols : List Str) (e : Str) : Prop := ∃ c, H q = some (.tup [.ref c, .str e]) ∧ H c = some (.tup (cols.map V.str))
theorem QAt.same {H H' : Hp} {q : Addr} {cols : List Str} {e : Str} (s : Same H H') (h : QAt H q cols e) : QAt H' q cols e := by
  obtain ⟨c, h1, h2⟩ := h
  exact ⟨c, s _ _ h1, s _ _ h2⟩
theorem QAt.kp {H H' : Hp} {q b l : Addr} {cols : List Str} {e : Str} (B : Bag H b l) (s : Kp b H H') (h : QAt H q cols e) : QAt H' q cols e := by
  obtain ⟨c, h1, h2⟩ := h
  exact ⟨c, s _ _ h1 (B.ne_tup h1), s _ _ h2 (B.ne_tup h2)⟩
structure Qok (xs cols : List Str) (e : Str) : Prop where
  nd : cols.Nodup
  srt : sortedS cols = true
  sub : ∀ c ∈ cols, c ∈ xs
  esub : e = "" ∨ e ∈ xs
  ne : e ∉ cols
  some : e = "" → cols ≠ []
  le : cols.length ≤ 12
def spQuestion : Sp := fun vs H Q _ => ∃ (b l a : Addr) (xs : List Str), vs = [.ref b, .ref a] ∧ Bag H b l ∧ a ≠ b ∧ H a = some (.lst (xs.map V.str)) ∧ Row xs ∧
  ∀ (q : Addr) (cols : List Str) (e : Str) (H' : Hp), QAt H' q cols e → Qok xs cols e → Bag H' b l → Kp b H H' → Q (.ref q) H'
def spBeginT : Sp := fun vs H Q _ => ∃ (b l a : Addr) (xs : List Str), vs = [.ref b, .ref a] ∧ Bag H b l ∧ H a = some (.tup (xs.map V.str)) ∧ Row xs ∧
  ∀ (q : Addr) (cols : List Str) (e : Str) (H' : Hp), QAt H' q cols e → Qok xs cols e → Bag H' b l → Kp b H H' → Q (.ref q) H'
def spBeginL : Sp := fun vs H Q _ => ∃ (b l a : Addr) (xs : List Str), vs = [.ref b, .ref a] ∧ Bag H b l ∧ a ≠ b ∧ H a = some (.lst (xs.map V.str)) ∧ Row xs ∧
  ∀ (q : Addr) (cols : List Str) (e : Str) (H' : Hp), QAt H' q cols e → Qok xs cols e → Bag H' b l → Kp b H H' → Q (.ref q) H'
def spIndex : Sp := fun vs H Q _ => ∃ (b l a : Addr) (xs : List Str), vs = [.ref b, .ref a] ∧ Bag H b l ∧ a ≠ b ∧ H a = some (.lst (xs.map V.str)) ∧ Row xs ∧
  ∀ (t : Addr) (ys : List Str) (H' : Hp), H' t = some (.tup (ys.map V.str)) → Row ys → (∀ c ∈ ys, c ∈ xs) → Bag H' b l → Kp b H H' → Q (.ref t) H'
theorem menu_ne : ∀ c ∈ menu, c ≠ "" := by decide +kernel
/-- out of a beginning of some order of a row -/
theorem qok_plain {xs ys zs : List Str} {k : Nat} (R : Row xs) (hp : ys.Perm xs) (hz : zs.Perm (ys.take (k + 1))) (hs : sortedS zs = true) : Qok xs zs "" := by
  have sl := List.take_sublist (k + 1) ys
  have hsub : ∀ c ∈ zs, c ∈ xs := fun c hc => hp.mem_iff.mp (sl.mem (hz.mem_iff.mp hc))
  have hl := R.le
  have hpos := R.pos
  have hyl := hp.length_eq
  have hzl := hz.length_eq
  rw [List.length_take] at hzl
  refine ⟨hz.nodup_iff.mpr ((hp.nodup_iff.mpr R.nd).sublist sl), hs, hsub, .inl rfl, fun h => menu_ne _ (R.sub _ (hsub _ h)) rfl, fun _ h => ?_, by omega⟩
  rw [h] at hzl
  simp at hzl
  omega
theorem qok_ranged {xs ys zs : List Str} {k : Nat} {e : Str} (R : Row xs) (hp : ys.Perm xs) (he : ys[k]? = some e) (hz : zs.Perm (ys.take k)) (hs : sortedS zs = true) : Qok xs zs e := by
  have sl := List.take_sublist k ys
  have hsub : ∀ c ∈ zs, c ∈ xs := fun c hc => hp.mem_iff.mp (sl.mem (hz.mem_iff.mp hc))
  have hmem : e ∈ xs := hp.mem_iff.mp (List.mem_of_getElem? he)
  have hl := R.le
  have hyl := hp.length_eq
  have hzl := hz.length_eq
  rw [List.length_take] at hzl
  have ndy := hp.nodup_iff.mpr R.nd
  refine ⟨hz.nodup_iff.mpr (ndy.sublist sl), hs, hsub, .inr hmem, fun h => ?_, fun h => absurd h (menu_ne _ (R.sub _ hmem)), by omega⟩
  have h1 := hz.mem_iff.mp h
  have hk : k < ys.length := (List.getElem?_eq_some_iff.mp he).1
  have e2 : ys = ys.take k ++ ys.drop k := (List.take_append_drop k ys).symm
  have e3 : e ∈ ys.drop k := by
    have : (ys.drop k)[0]? = some e := by rw [List.getElem?_drop]; exact he
    exact List.mem_of_getElem? this
  rw [e2] at ndy
  exact (List.nodup_append.mp ndy).2.2 _ h1 _ e3 rfl
end Qk

set_option maxRecDepth 100000
set_option maxHeartbeats 4000000
namespace Qk
open PySem PySem.Spec PyProof.Rows L2

/-! sorted lists of texts -/
def leS (a b : Str) : Prop := ltCps b.cps.toList a.cps.toList = false
theorem str_ext {a b : Str} (h : a.cps.toList = b.cps.toList) : a = b := by
  obtain ⟨x⟩ := a
  obtain ⟨y⟩ := b
  simp only at h
  congr 1
  exact Array.toList_inj.mp h
theorem leS_antisymm {a b : Str} (h1 : leS a b) (h2 : leS b a) : a = b := by
  unfold leS at h1 h2
  rw [ltCps_eq] at h1 h2
  have n1 := of_decide_eq_false h1
  have n2 := of_decide_eq_false h2
  exact str_ext (List.le_antisymm (List.not_lt.mp n1) (List.not_lt.mp n2))
theorem leS_refl (a : Str) : leS a a := by
  unfold leS
  rw [ltCps_eq]
  exact decide_eq_false (List.lt_irrefl _)
theorem leS_trans {a b c : Str} (h1 : leS a b) (h2 : leS b c) : leS a c := by
  unfold leS at *
  rw [ltCps_eq] at *
  have n1 := List.not_lt.mp (of_decide_eq_false h1)
  have n2 := List.not_lt.mp (of_decide_eq_false h2)
  exact decide_eq_false (List.not_lt.mpr (List.le_trans n1 n2))
theorem risingS_pw : ∀ (xs : List Str) (p : Str), risingS p xs = true → (p :: xs).Pairwise leS
  | [], p, _ => List.pairwise_singleton _ _
  | x :: r, p, h => by
    rw [risingS, Bool.and_eq_true] at h
    have h1 : leS p x := by
      have := h.1
      rw [Bool.not_eq_true'] at this
      exact this
    have ih := risingS_pw r x h.2
    refine List.pairwise_cons.mpr ⟨fun y hy => ?_, ih⟩
    rcases List.mem_cons.mp hy with rfl | hy
    · exact h1
    · exact leS_trans h1 ((List.pairwise_cons.mp ih).1 y hy)
theorem sortedS_pw {xs : List Str} (h : sortedS xs = true) : xs.Pairwise leS := by
  cases xs with
  | nil => exact List.Pairwise.nil
  | cons x r => exact risingS_pw r x h
theorem perm_sorted : ∀ {xs ys : List Str}, xs.Perm ys → xs.Pairwise leS → ys.Pairwise leS → xs = ys
  | [], ys, h, _, _ => (List.Perm.nil_eq h)
  | x :: xs, [], h, _, _ => absurd h.length_eq (by simp)
  | x :: xs, y :: ys, h, h1, h2 => by
    have e : x = y := by
      rcases List.mem_cons.mp (h.mem_iff.mp List.mem_cons_self) with e | m1
      · exact e
      · rcases List.mem_cons.mp (h.mem_iff.mpr List.mem_cons_self) with e | m2
        · exact e.symm
        · exact leS_antisymm ((List.pairwise_cons.mp h1).1 y m2) ((List.pairwise_cons.mp h2).1 x m1)
    subst e
    rw [perm_sorted (List.Perm.cons_inv h) (List.pairwise_cons.mp h1).2 (List.pairwise_cons.mp h2).2]
theorem sorted_unique {xs ys zs : List Str} (h1 : xs.Perm zs) (h2 : ys.Perm zs) (s1 : sortedS xs = true) (s2 : sortedS ys = true) : xs = ys :=
  perm_sorted (h1.trans h2.symm) (sortedS_pw s1) (sortedS_pw s2)

/-! == of lists and tuples of texts -/
theorem menu_ok : ∀ c ∈ menu, PyData.strOk c = true := by decide +kernel
theorem lay_strs : ∀ {xs : List Str}, (∀ c ∈ xs, PyData.strOk c = true) → PyData.canLayAll0 (xs.map PyData.str) = true
  | [], _ => rfl
  | x :: xs, h => by
    show (PyData.canLay0 (.str x) && PyData.canLayAll0 (xs.map PyData.str)) = true
    rw [lay_strs fun c hc => h c (List.mem_cons_of_mem _ hc), Bool.and_true]
    exact h x List.mem_cons_self
theorem depth_strs : ∀ (xs : List Str), PyData.depthAll (xs.map PyData.str) = 0
  | [] => rfl
  | x :: xs => by
    show max (PyData.depth (.str x)) (PyData.depthAll (xs.map PyData.str)) = 0
    rw [depth_strs xs]
    rfl
theorem eqv_strs : ∀ (xs ys : List Str), PyData.eqvAll (xs.map PyData.str) (ys.map PyData.str) = decide (xs = ys)
  | [], [] => by simp [PyData.eqvAll]
  | [], y :: ys => by simp [PyData.eqvAll]
  | x :: xs, [] => by simp [PyData.eqvAll]
  | x :: xs, y :: ys => by
    show PyData.eqvAll (PyData.str x :: xs.map PyData.str) (PyData.str y :: ys.map PyData.str) = _
    rw [PyData.eqvAll, eqv_strs xs ys, PyData.eqv]
    by_cases h1 : x = y
    · subst h1
      by_cases h2 : xs = ys
      · subst h2
        simp
      · simp [h2]
    · simp [h1]
theorem shaped_list {xs : List Str} (h : ∀ c ∈ xs, PyData.strOk c = true) : SeqAt.shaped (.list (xs.map PyData.str)) = true := by
  unfold SeqAt.shaped
  rw [Bool.and_eq_true]
  exact ⟨lay_strs h, decide_eq_true (by rw [PyData.depth, depth_strs]; decide)⟩
theorem shaped_tuple {xs : List Str} (h : ∀ c ∈ xs, PyData.strOk c = true) : SeqAt.shaped (.tuple (xs.map PyData.str)) = true := by
  unfold SeqAt.shaped
  rw [Bool.and_eq_true]
  exact ⟨lay_strs h, decide_eq_true (by rw [PyData.depth, depth_strs]; decide)⟩
theorem dp_strs {K : PySem.W.Frag} {H : Hp} : ∀ (xs : List Str), DpAll K H (xs.map V.str) (xs.map PyData.str)
  | [] => .nil
  | x :: xs => .cons (.str x) (dp_strs xs)
theorem flat_strs (xs : List Str) : (xs.map V.str).all flatV = true := by
  rw [List.all_map]
  exact List.all_eq_true.mpr fun _ _ => rfl
theorem inV_strs (c : Str) (xs : List Str) : inV (.str c) (xs.map V.str) = decide (c ∈ xs) := by
  unfold inV
  rw [List.any_map]
  by_cases h : c ∈ xs
  · rw [decide_eq_true h]
    exact List.any_eq_true.mpr ⟨c, h, by show (c == c) = true; exact beq_self_eq_true c⟩
  · rw [decide_eq_false h]
    refine List.any_eq_false.mpr fun y hy e => h ?_
    have e' : (y == c) = true := e
    rw [← eq_of_beq e']
    exact hy

theorem perm_of_sub : ∀ {xs ys : List Str}, xs.Nodup → (∀ c ∈ xs, c ∈ ys) → ys.length ≤ xs.length → xs.Perm ys
  | [], ys, _, _, h => by
    have : ys = [] := List.eq_nil_of_length_eq_zero (by simpa using h)
    rw [this]
  | x :: xs, ys, nd, hs, h => by
    have hx := hs x List.mem_cons_self
    have hp := List.perm_cons_erase hx
    obtain ⟨nx, nd'⟩ := List.nodup_cons.mp nd
    have hl := hp.length_eq
    rw [List.length_cons] at hl h
    refine ((perm_of_sub (ys := ys.erase x) nd' (fun c hc => ?_) (by omega)).cons x).trans hp.symm
    have ne : c ≠ x := fun e => nx (e ▸ hc)
    exact (List.mem_erase_of_ne ne).mpr (hs c (List.mem_cons_of_mem _ hc))

/-! the least place of a fault -/
def goodAt (ix cols : List Str) (p : Nat) : Prop := ∃ c, ix[p]? = some c ∧ c ∈ cols
instance (ix cols : List Str) (p : Nat) : Decidable (goodAt ix cols p) :=
  match h : ix[p]? with
  | some c => if hc : c ∈ cols then isTrue ⟨c, h, hc⟩ else isFalse fun ⟨d, hd, hm⟩ => hc (by rw [h] at hd; cases hd; exact hm)
  | none => isFalse fun ⟨d, hd, _⟩ => by rw [h] at hd; cases hd
def fault (ix cols : List Str) (last : Str) : Option Nat :=
  match (List.range cols.length).find? (fun p => !decide (goodAt ix cols p)) with
  | some p => some p
  | none => if last ≠ "" ∧ ix[cols.length]? ≠ some last then some cols.length else none
theorem find_none {n : Nat} {g : Nat → Bool} (h : ∀ p, p < n → g p = false) : (List.range n).find? g = none :=
  List.find?_eq_none.mpr fun p hp e => by rw [h p (List.mem_range.mp hp)] at e; cases e
theorem find_at {n i : Nat} {g : Nat → Bool} (hi : i < n) (h : ∀ p, p < i → g p = false) (hg : g i = true) : (List.range n).find? g = some i := by
  refine List.find?_range_eq_some.mpr ⟨hg, List.mem_range.mpr hi, fun j hj => ?_⟩
  rw [h j hj]
  rfl
theorem fault_at {ix cols : List Str} {last : Str} {i : Nat} (hi : i < cols.length) (h : ∀ p, p < i → goodAt ix cols p) (hg : ¬ goodAt ix cols i) : fault ix cols last = some i := by
  unfold fault
  rw [find_at hi (fun p hp => by rw [decide_eq_true (h p hp)]; rfl) (by rw [decide_eq_false hg]; rfl)]
theorem fault_end {ix cols : List Str} {last : Str} (h : ∀ p, p < cols.length → goodAt ix cols p) : fault ix cols last = if last ≠ "" ∧ ix[cols.length]? ≠ some last then some cols.length else none := by
  unfold fault
  rw [find_none fun p hp => by rw [decide_eq_true (h p hp)]; rfl]
theorem fault_le {ix cols : List Str} {last : Str} {p : Nat} (h : fault ix cols last = some p) : p ≤ cols.length := by
  unfold fault at h
  split at h
  · next q e =>
    cases h
    have := List.mem_range.mp (List.mem_of_find?_eq_some e)
    omega
  · split at h
    · cases h
      omega
    · cases h
def optV : Option Nat → V
  | none => .non
  | some n => .int (n : Int)
/-- no fault just if the beginning is made of the columns, with the last one behind -/
theorem fault_none {ix cols ws : List Str} {last : Str} (hix : ix.Nodup) (hc : cols.Nodup) (hs : sortedS cols = true) (hw : ws.Perm (ix.take cols.length)) (hws : sortedS ws = true) :
    fault ix cols last = none ↔ ws = cols ∧ (last = "" ∨ ix[cols.length]? = some last) := by
  constructor
  · intro h
    unfold fault at h
    split at h
    · cases h
    · next e =>
      have good : ∀ p, p < cols.length → goodAt ix cols p := fun p hp => by
        have := List.find?_eq_none.mp e p (List.mem_range.mpr hp)
        simpa using this
      constructor
      · have hle : cols.length ≤ ix.length := by
          rcases Nat.lt_or_ge ix.length cols.length with hlt | hge
          · obtain ⟨c, h1, _⟩ := good ix.length hlt
            rw [List.getElem?_eq_none (Nat.le_refl _)] at h1
            cases h1
          · exact hge
        have hlen : (ix.take cols.length).length = cols.length := by rw [List.length_take]; omega
        have hsub : ix.take cols.length ⊆ cols := fun c hc' => by
          obtain ⟨p, hp, e⟩ := List.mem_iff_getElem.mp hc'
          rw [hlen] at hp
          obtain ⟨d, h1, h2⟩ := good p hp
          rw [List.getElem_take] at e
          rw [List.getElem?_eq_getElem (by omega)] at h1
          cases h1
          rw [← e]
          exact h2
        have hperm : (ix.take cols.length).Perm cols := perm_of_sub (hix.sublist (List.take_sublist _ _)) (fun c hc => hsub hc) (by omega)
        exact sorted_unique hw hperm.symm hws hs
      · by_cases h1 : last = ""
        · exact .inl h1
        · by_cases h2 : ix[cols.length]? = some last
          · exact .inr h2
          · rw [if_pos ⟨h1, h2⟩] at h
            cases h
  · rintro ⟨rfl, h2⟩
    rw [fault_end fun p hp => ?_]
    · rw [if_neg]
      rintro ⟨a1, a2⟩
      rcases h2 with h2 | h2
      · exact a1 h2
      · exact a2 h2
    · have hl := hw.length_eq
      rw [List.length_take] at hl
      have hp2 : p < ix.length := by omega
      refine ⟨ix[p], List.getElem?_eq_getElem hp2, hw.mem_iff.mpr ?_⟩
      exact List.mem_iff_getElem.mpr ⟨p, by rw [List.length_take]; omega, by rw [List.getElem_take]⟩

/-! promises about serving -/
def spFault : Sp := fun vs H Q _ => ∃ (t q : Addr) (ix cols : List Str) (e : Str), vs = [.ref t, .ref q] ∧ H t = some (.tup (ix.map V.str)) ∧ QAt H q cols e ∧ cols.length ≤ 12 ∧ ∀ H', Same H H' → Q (optV (fault ix cols e)) H'
def spServ : Sp := fun vs H Q _ => ∃ (t q : Addr) (ix cols : List Str) (e : Str), vs = [.ref t, .ref q] ∧ H t = some (.tup (ix.map V.str)) ∧ QAt H q cols e ∧ cols.length ≤ 12 ∧ ∀ H', Same H H' → Q (.bl (decide (fault ix cols e = none))) H'
def spServes : Sp := fun vs H Q _ => ∃ (t q : Addr) (ix cols : List Str) (e : Str), vs = [.ref t, .ref q] ∧ H t = some (.tup (ix.map V.str)) ∧ QAt H q cols e ∧ cols.length ≤ 12 ∧ ix.length ≤ 12 ∧ ix.Nodup ∧ (∀ c ∈ ix, c ∈ menu) ∧
  cols.Nodup ∧ sortedS cols = true ∧ (∀ c ∈ cols, c ∈ menu) ∧ (e = "" ∨ e ∈ menu) ∧ ∀ H', Same H H' → Q (.bl (decide (fault ix cols e = none))) H'
/-- two flat values that are the same -/
def spAlikeF : Sp := fun vs H Q _ => ∃ (v : V) (t : Str), vs = [v, v] ∧ flatText v = some t ∧ Q (.bl true) H
theorem optV_text {o : Option Nat} (h : ∀ n, o = some n → n ≤ 12) : ∃ t, flatText (optV o) = some t := by
  cases o with
  | none => exact ⟨_, rfl⟩
  | some n =>
    have hn := h n rfl
    refine ⟨toString (n : Int), ?_⟩
    show (if (n : Int).natAbs.log2 < 1920 then some (Str.ofString (toString (n : Int))) else none) = _
    rw [if_pos]
    have : (n : Int).natAbs = n := Int.natAbs_natCast n
    rw [this]
    refine Nat.lt_of_le_of_lt (Nat.log2_le_self n) ?_
    omega
theorem scal_flat {v : V} {t : Str} (h : flatText v = some t) : scal v v = true := by
  cases v with
  | non => rfl
  | bl _ => rfl
  | int _ => rfl
  | str _ => cases h
  | byt _ => cases h
  | flt _ => cases h
  | ref _ => cases h
  | ty _ => cases h

theorem slA {K : PySem.W.Frag} {H : Hp} {a : Addr} {xs : List Str} {lo hi : Option Int} {ys : List Str} {Q : VK} (h : H a = some (.tup (xs.map V.str))) (e : cutV (xs.map V.str) lo hi = ys.map V.str)
    (k : ∀ (r : Addr) (H' : Hp), Same H H' → H' r = some (.tup (ys.map V.str)) → Q (.ref r) H') : rSlA K (.ref a) lo hi H Q := by
  refine ⟨a, _, rfl, SqT.of h, fun hw => k a H (Same.refl _) ?_, fun _ p hp => ?_⟩
  · rw [h, ← e]
    unfold cutV
    rw [hw.1, hw.2, List.drop_zero, Nat.sub_zero, List.take_length]
  · rw [e]
    exact k p _ (same_new hp) upd_same
theorem cut_one (n : Nat) (xs : List Str) : cutV (xs.map V.str) (some (n : Int)) (some ((n : Int) + 1)) = ((xs.drop n).take 1).map V.str := by
  have e1 : (n : Int) + 1 = ((n + 1 : Nat) : Int) := by omega
  unfold cutV
  rw [e1, HT.sIx_nat, HT.sIx_nat, List.length_map]
  by_cases h : n < xs.length
  · rw [Nat.min_eq_left (by omega), Nat.min_eq_left (by omega), ← List.map_drop, ← List.map_take]
    congr 2
    omega
  · have e2 : min n xs.length = xs.length := Nat.min_eq_right (by omega)
    rw [e2, List.drop_of_length_le (show (xs.map V.str).length ≤ xs.length by rw [List.length_map]; exact Nat.le_refl _), List.drop_of_length_le (show xs.length ≤ n by omega), List.take_nil, List.take_nil, List.map_nil]
theorem take_one {xs : List Str} {n : Nat} {e : Str} : (xs.drop n).take 1 = [e] ↔ xs[n]? = some e := by
  have h0 : (xs.drop n)[0]? = xs[n]? := by rw [List.getElem?_drop]; rfl
  cases hd : xs.drop n with
  | nil =>
    rw [hd] at h0
    have h1 : none = xs[n]? := h0
    rw [← h1]
    simp
  | cons y ys =>
    rw [hd] at h0
    have h1 : some y = xs[n]? := h0
    rw [← h1]
    simp

/-! what a law knows of its index and its question -/
structure QM (cols : List Str) (e : Str) : Prop where
  nd : cols.Nodup
  srt : sortedS cols = true
  sub : ∀ c ∈ cols, c ∈ menu
  esub : e = "" ∨ e ∈ menu
  le : cols.length ≤ 12
  some : e = "" → cols ≠ []
theorem Qok.qm {xs cols : List Str} {e : Str} (h : Qok xs cols e) (R : ∀ c ∈ xs, c ∈ menu) : QM cols e :=
  ⟨h.nd, h.srt, fun c hc => R _ (h.sub _ hc), h.esub.imp id (fun m => R _ m), h.le, h.some⟩
theorem Row.take {xs : List Str} (R : Row xs) (k : Nat) : Row (xs.take (k + 1)) :=
  ⟨R.nd.sublist (List.take_sublist _ _), fun c hc => R.sub _ ((List.take_sublist _ _).mem hc), by have := R.pos; rw [List.length_take]; omega, by have := R.le; rw [List.length_take]; omega⟩
/-- two places exchanged -/
def sw (x y k : Nat) : Nat := if k = y then x else if k = x then y else k
theorem sw_lt {x y k n : Nat} (hx : x < n) (hy : y < n) (hk : k < n) : sw x y k < n := by
  unfold sw
  split
  · exact hx
  · split
    · exact hy
    · exact hk
theorem sw_inj {x y j k : Nat} (h : sw x y j = sw x y k) : j = k := by
  unfold sw at h
  split at h <;> split at h <;> (try split at h) <;> (try split at h) <;> omega
def swp (ix : List Str) (x y : Nat) : List Str := (List.range ix.length).map fun k => ix.getD (sw x y k) ""
theorem swp_len (ix : List Str) (x y : Nat) : (swp ix x y).length = ix.length := by
  unfold swp
  rw [List.length_map, List.length_range]
theorem swp_get {ix : List Str} {x y k : Nat} (hx : x < ix.length) (hy : y < ix.length) (hk : k < ix.length) : (swp ix x y)[k]? = ix[sw x y k]? := by
  unfold swp
  rw [List.getElem?_map, List.getElem?_range hk]
  show some (ix.getD (sw x y k) "") = _
  rw [List.getD_eq_getElem?_getD, List.getElem?_eq_getElem (sw_lt hx hy hk)]
  rfl
theorem swp_row {ix : List Str} {x y : Nat} (R : Row ix) (hx : x < ix.length) (hy : y < ix.length) : Row (swp ix x y) := by
  refine ⟨?_, fun c hc => ?_, by rw [swp_len]; exact R.pos, by rw [swp_len]; exact R.le⟩
  · unfold swp
    refine List.pairwise_map.mpr (List.Pairwise.imp_of_mem ?_ List.nodup_range)
    intro j k hj hk hne he
    have hj := sw_lt hx hy (List.mem_range.mp hj)
    have hk := sw_lt hx hy (List.mem_range.mp hk)
    rw [List.getD_eq_getElem?_getD, List.getD_eq_getElem?_getD, List.getElem?_eq_getElem hj, List.getElem?_eq_getElem hk] at he
    have he2 : ix[sw x y j] = ix[sw x y k] := he
    have := (List.nodup_iff_pairwise_ne.mp R.nd)
    rcases Nat.lt_trichotomy (sw x y j) (sw x y k) with h | h | h
    · exact List.pairwise_iff_getElem.mp this _ _ hj hk h he2
    · exact hne (sw_inj h)
    · exact List.pairwise_iff_getElem.mp this _ _ hk hj h he2.symm
  · unfold swp at hc
    obtain ⟨k, hk, rfl⟩ := List.mem_map.mp hc
    have hk := sw_lt hx hy (List.mem_range.mp hk)
    rw [List.getD_eq_getElem?_getD, List.getElem?_eq_getElem hk]
    exact R.sub _ (List.getElem_mem hk)
end Qk

set_option maxRecDepth 100000
set_option maxHeartbeats 4000000
namespace Qk
open PySem PySem.Spec PyProof.Rows L2

/-! ### defs that may be told only where no repr is running: what stands around them has no guard -/
structure FnG (P : Program) (w : World) (K : PySem.W.Frag) (mg : Str → Option Value) (base : Heap) (k : Nat) (f : Addr) (fd : FuncData) (ps : List Str) (sp : Sp) : Prop where
  len : ∀ vs H Q E, sp vs H Q E → vs.length = ps.length
  run : ∀ (A : Around) (outer : List Env) (s : Shared) (H : Hp) (args : Args) (us : List Value) (vs : List V) (Q : VK) (E : XK), Room k A → A.guards = some [] → Env0 P w K mg base A outer s H →
    BindsTo s fd args (ps.zip us) → Vals vs us → sp vs H Q E → codeAny (model P w) A (.call (.ref f) args) (CR CX0 outer P w H s Q E) s
theorem FnG.of {P : Program} {w : World} {K : PySem.W.Frag} {mg : Str → Option Value} {base : Heap} {k : Nat} {f : Addr} {fd : FuncData} {ps : List Str} {sp : Sp} (F : FnOk P w K mg base CX0 k f fd ps sp) : FnG P w K mg base k f fd ps sp :=
  ⟨F.len, fun A o s H args us vs Q E hr _ e b v h => F.run A o s H args us vs Q E hr e b v h⟩

section
variable {P : Program} {w : World} {K : PySem.W.Frag} {mg : Str → Option Value} {base : Heap}
theorem okG {x qual : Str} {st : Stmt} {f : Addr} {fd : FuncData} {N ps : List Str} {k : Nat} {sp : Sp} (F : Fun K x qual st f fd) (S : FnScope N ps (defScope st)) (len : ∀ vs H Q E, sp vs H Q E → vs.length = ps.length)
    (body : ∀ (cdv : Value) (A : Around) (outer : List Env) (s : Shared) (H : Hp) (vs : List V) (Q : VK) (E : XK), Room k (A.deeper (envOfC qual (defScope st) s.heap.objs.size f cdv)) → A.guards = some [] → sp vs H Q E →
      ∃ t, PSs (cxOf CX0 P w K mg base N qual (defScope st) f cdv A outer s H E).nox (defBody st) t ∧ t { nx := fun _ H' => Q .non H', rt := Q } (start N vs) H) : FnG P w K mg base (k + 1) f fd ps sp := by
  obtain ⟨oc, od, kV, doc, pm, an, cdv, ct, osl, rfl, lk, hcd⟩ := F.ex
  constructor
  · exact len
  intro A outer s H args us vs Q E hr hg e0 hb rv hsp
  have hlen := len _ _ _ _ hsp
  have kept : ∀ b o, base.get? b = some o → s.heap.get? b = some o := fun b o e => (e0.bs b o e).1
  have KX : K.In s.heap := e0.mod.kin.keeps kept
  have par : ∀ y ∈ ps.zip us, (defScope st).names.lookup y.1 = some .local ∨ ((defScope st).names.lookup y.1 = some .cell ∧ ((cellsFrom (s.heap.objs.size + 1) (defScope st).names []).lookup y.1).isSome = true) := by
    rintro ⟨n, v⟩ hy
    exact (S.par n (List.of_mem_zip hy).1).imp id fun q => ⟨q, PySem.W.cellsFrom_some _ _ _ (.inl q)⟩
  refine codeAny_call_function hr.depth (KX _ _ lk) rfl S.co S.gen rfl (PySem.W.codeRec_of KX hcd) (hb _ _ _ _ ?_)
  refine wpAny_newFunctionEnv_cells S.kind par fun env he s1 xe => ?_
  subst he
  refine ⟨(e0.mod.nolimit.keeps kept).keeps xe.toInCall.keep, codeAny_func ?_⟩
  obtain ⟨t, ht, hq⟩ := body cdv A outer s H vs Q E (hr.deeper _) hg hsp
  refine wpAny_mono (ht.nox.run [] s1 (start N vs) H _ (inv_start S hr.hd e0 hlen rv xe) hq) (fun fl s' hs => ?_) fun _ _ z => z
  cases fl with
  | ret u =>
    obtain ⟨v, σ', H', J, r, q⟩ := hs
    exact ⟨v, H', J.os, J.bare, J.base, J.hok, r, q⟩
  | next =>
    obtain ⟨σ', H', J, q⟩ := hs
    exact ⟨V.non, H', J.os, J.bare, J.base, J.hok, rfl, q⟩
  | brk => exact hs.elim fun _ z => z.elim fun _ z => z.2.elim
  | cont => exact hs.elim fun _ z => z.elim fun _ z => z.2.elim
end
section
variable {X : Cx} {k : Nat} {f : Addr} {fd : FuncData} {ps : List Str} {sp : Sp} {x : Str} {p pos : Pos} {e : Expr} {es : List Expr} {t : TA}
theorem run_g {pins : List (Addr × Obj)} {σ : L2.St} {H : Hp} {s : Shared} {Q : VK} {us : List Value} {vs : List V} (F : FnG X.prog X.w X.K X.mg X.base k f fd ps sp) (hr : Room k X.A) (hg : X.A.guards = some []) (hb : Binds X.K fd ps [])
    (I : Inv X pins σ H s) (r : Vals vs us) (h : sp vs H Q E0) : wpAny (model X.prog X.w) X.A (call (.ref f) us) (EP X pins σ Q) X.xe s := by
  have hl : (us ++ ([] : List Value)).length = ps.length := by
    rw [List.append_nil, ← r.length]
    exact F.len _ _ _ _ h
  have hbd := hb s us I.kIn hl
  rw [List.append_nil] at hbd
  have c := F.run X.A X.stack s H ⟨us, []⟩ us vs Q E0 hr hg I.env0 hbd r h
  refine wpAny_call (codeAny_mono c fun r s' hq => ?_)
  cases r with
  | error e => exact False.elim hq
  | ok fl =>
    cases fl with
    | ret u => exact I.after hq
    | _ => exact False.elim hq
/-- a call by name of such a def, all arguments given -/
theorem pe_callg (F : FnG X.prog X.w X.K X.mg X.base k f fd ps sp) (hr : Room k X.A) (hg : X.A.guards = some []) (hgl : Gl X x) (hm : X.mg x = some (.ref f)) (hk : PySem.W.keepIn X.K (.ref f) = true) (hb : Binds X.K fd ps [])
    (ha : PA X (e :: es) t) (hdb : (x == ("__debug__" : Str)) = false := by decide) (he : starEach (e :: es) X.env = (false, eval e X.env) :: starEach es X.env := by rfl) (hpl : (backTo pos (starEach es X.env)).any (·.1) = false := by rfl) :
    PE X (.Call (.Name x p) (e :: es) [] pos) (fun σ H Q => t σ H fun vs H1 => sp vs H1 Q E0) := by
  constructor
  intro pins s σ H Q I h
  refine wpAny_Call_Name_kw (ld_glob I hgl hm ?_ hdb)
  refine PySem.W.callWith_K (h₀ := X.base) I.ok.mod.kin hk ?_ he hpl
  exact thn (ha.run pos pins s σ H _ I h) fun us s1 ⟨vs, H1, I1, r, q⟩ => ⟨I1.kIn, run_g F hr hg hb I1 r q⟩
/-- repr of data, where no repr is running -/
def rReprD (K : PySem.W.Frag) : List V → Hp → VK → Prop := fun vs H Q => ∃ (x : V) (d : PyData), vs = [x] ∧ Dp K H x d ∧ d.showable = true ∧ d.hasDict = false ∧ d.shown.length ≤ sizeLine ∧ d.depth ≤ 60 ∧ Q (.str d.shown) H
theorem call_reprD (hg : X.A.guards = some []) (hu : X.A.units + 64 < cLine) : CallR X (.builtin "repr") (rReprD X.K) := by
  intro pins s σ H xs us Q I r h
  obtain ⟨x, d, rfl, hd, h1, h2, h3, h4, q⟩ := h
  obtain ⟨u, rfl, rx⟩ := vals1 r
  obtain ⟨as, rd⟩ := Dp.reads I d x u hd rx
  cases hd with
  | non =>
    cases rx
    exact PySem.P.repr_of_none ⟨.str _, H, I.tok _, ⟨_, rfl⟩, q⟩
  | bl b =>
    cases rx
    exact PySem.P.repr_of_bool ⟨.str _, H, I.tok _, ⟨_, rfl⟩, q⟩
  | int i =>
    obtain ⟨tk, rfl⟩ := rx
    exact PySem.P.repr_of_int (by simpa [PyData.showable] using h1) ⟨.str _, H, I.tok _, ⟨_, rfl⟩, q⟩
  | str z =>
    obtain ⟨tk, rfl⟩ := rx
    exact PySem.P.repr_of_str ⟨.str _, H, I.tok _, ⟨_, rfl⟩, q⟩ h3
  | lst hs ha =>
    cases rx
    exact repr_of_reads' rd h1 (fun z => by rw [h2] at z; cases z) hg (by omega) (fun _ _ z => z) (fun h' u tk hk => ⟨.str _, H, I.kept hk, ⟨_, rfl⟩, q⟩) h3
  | tup hs ha =>
    cases rx
    exact repr_of_reads' rd h1 (fun z => by rw [h2] at z; cases z) hg (by omega) (fun _ _ z => z) (fun h' u tk hk => ⟨.str _, H, I.kept hk, ⟨_, rfl⟩, q⟩) h3
end
end Qk

set_option maxRecDepth 100000
set_option maxHeartbeats 4000000
namespace Qk
open PySem PySem.Spec PyProof.Rows L2

/-! ### the end of a law whose def is of that kind -/
theorem law_g {P : Program} {w : World} {K : PySem.W.Frag} {mg mb : Str → Option Value} {k : Nat} {fa a : Addr} {fd : FuncData} {x : Str} {sp : Sp} {s₁ : Shared} {vs : List Value} {ns : List Int}
    (KX : K.In s₁.heap) (hns : s₁.heap.Ns mainGlobals mg) (hb : s₁.heap.Ns builtinsNs mb) (hbb : ∀ x : Str, x ≠ "__name__" → mb x = bootBuiltins x) (hlim : s₁.heap.NoLimit) (hg : s₁.gens = #[])
    (ha : s₁.heap.get? a = some { cls := .type "list", data := .seq vs.toArray }) (hi : IntsAre vs ns) (hl : ns.length ≤ sizeLine) (hr : Room k callerA)
    (F : ∀ base : Heap, K.In base → base.Ns mainGlobals mg → FnG P w K mg base k fa fd [x] sp) (hbind : ∀ (s : Shared) (u : Value), BindsTo s fd ⟨[u], []⟩ [(x, u)])
    (hsp : ∀ H : Hp, Only H → SqL K H a (ns.map V.int) → sp [.ref a] H (fun v _ => v = .bl true) fun _ _ _ => False) :
    codeAny (model P w) callerA (.call (.ref fa) ⟨[.ref a], []⟩) (fun r s' => r = .ok (.ret (.bool true)) ∧ OldK s₁.heap s'.heap ∧ s'.os = s₁.os ∧ AllBare s'.gens) s₁ := by
  let o : Obj := { cls := .type "list", data := .seq vs.toArray }
  have rv : Vals (ns.map V.int) vs := vals_ints hi
  have lenV : vs.length = ns.length := hi.length
  -- the abstract heap: the script alone, where the top does not know it
  let H : Hp := fun b => if b = a ∧ K.lookup a = none then some (.frz o (.lst (ns.map V.int))) else none
  have Hsome : ∀ {b u}, H b = some u → b = a ∧ K.lookup a = none ∧ u = .frz o (.lst (ns.map V.int)) := fun {b u} z => by
    by_cases c : b = a ∧ K.lookup a = none
    · have z2 : some (HO.frz o (.lst (ns.map V.int))) = some u := (if_pos c).symm.trans z
      exact ⟨c.1, c.2, (Option.some.inj z2).symm⟩
    · have z2 : (none : Option HO) = some u := (if_neg c).symm.trans z
      cases z2
  have hO : Only H := fun b => by
    cases q : H b with
    | none => exact .inl rfl
    | some u => exact .inr ⟨_, _, by rw [(Hsome q).2.2]⟩
  have hS : SqL K H a (ns.map V.int) := by
    cases q : K.lookup a with
    | none => exact .inl (.inr ⟨o, if_pos ⟨rfl, q⟩⟩)
    | some u =>
      have e := KX a u q
      rw [ha] at e
      cases e
      exact .inr ⟨_, vs.toArray, _, q, rfl, rfl, rfl, by rw [List.size_toArray, lenV]; exact hl, by simpa using rv⟩
  have hok : HOk P w H s₁.heap := fun b u z => by
    obtain ⟨rfl, _, rfl⟩ := Hsome z
    exact ⟨ha, by rw [List.length_map]; exact hl, vs, _, rv, ha⟩
  have keepB : ∀ {b : Addr} {u : Obj}, s₁.heap.get? b = some u → (b = a → K.lookup a ≠ none) → (hidT s₁.heap H).get? b = some u := fun {b u} e n => hidT_get e (by
    cases q : H b with
    | none => rfl
    | some z => exact absurd (Hsome q).2.1 (n (Hsome q).1))
  have keepN : ∀ {b : Addr} {m : Str → Option Value}, s₁.heap.Ns b m → (hidT s₁.heap H).Ns b m := fun {b m} ⟨u, es, ep, e, d, r⟩ => by
    refine ⟨u, es, ep, keepB e fun eb => ?_, d, r⟩
    subst eb
    rw [ha] at e
    cases e
    cases d
  have hKb : K.In (hidT s₁.heap H) := fun b u e => keepB (KX b u e) fun eb q => by
    subst eb
    rw [q] at e
    cases e
  have hM : Mod K mg (hidT s₁.heap H) := ⟨hKb, keepN hns, ⟨mb, keepN hb, hbb⟩, let ⟨mc, h1, h2⟩ := hlim; ⟨mc, keepN h1, h2⟩⟩
  have e0 : Env0 P w K mg (hidT s₁.heap H) callerA [] s₁ H := ⟨rfl, hM, fun _ _ e => of_hidT e, Nat.le_of_eq (hidT_size _ _), trivial, fun b z => absurd (show b ∈ ([] : List Addr) from z) (by simp), hok, .of_eq hg⟩
  have run := (F _ hKb (keepN hns)).run callerA [] s₁ H ⟨[.ref a], []⟩ [.ref a] [.ref a] _ _ hr rfl e0 (hbind s₁ (.ref a)) (.cons rfl .nil) (hsp H hO hS)
  refine codeAny_mono run fun r s' h => ?_
  cases r with
  | error e => exact False.elim h
  | ok fl =>
    cases fl with
    | ret u =>
      obtain ⟨v, H', os, bare, un, hok', r', q⟩ := h
      obtain rfl : v = .bl true := q
      obtain rfl : u = Value.bool true := r'
      refine ⟨rfl, OldK.of_keep fun b u e => ?_, os, bare⟩
      cases q : H b with
      | none => exact un.keep b u e q (fun z => absurd (show b ∈ ([] : List Addr) from z) (by simp)) (by simp)
      | some z =>
        obtain ⟨rfl, _, rfl⟩ := Hsome q
        obtain ⟨e2, _⟩ := hok' b _ (un.frzs b o _ q)
        rw [ha] at e
        cases e
        exact e2
    | _ => exact False.elim h
theorem walk_g {l : PySem.W.OpenLaw} {n k : Nat} {q : Program} {loose : List Str} {XP : (Str → Option Value) → Heap → Prop} {YP : World → Heap → Prop} {d : DefRec} {K : Params → PySem.W.Frag} {sp : World → Sp} {x : Str}
    (hn : l.most = some n) (hn2 : n ≤ sizeLine) (hdf : d.params.defaults = []) (hr : Room k callerA) (hY : ∀ (w : World) (h : Heap), YP w h → (K w.params).In h)
    (F : ∀ (w : World) (mg : Str → Option Value) (fa : Addr) (h : Heap), (K w.params).In h → h.Ns mainGlobals mg → mg d.name = some (.ref fa) →
      ∃ fd : FuncData, (∀ (s : Shared) (u : Value), BindsTo s fd ⟨[u], []⟩ [(x, u)]) ∧ ∀ base : Heap, (K w.params).In base → base.Ns mainGlobals mg → FnG l.prog w (K w.params) mg base k fa fd [x] (sp w))
    (hsp : ∀ (w : World) (H : Hp) (a : Addr) (ns : List Int), ns.length ≤ n → Only H → SqL (K w.params) H a (ns.map V.int) → sp w [.ref a] H (fun v _ => v = .bl true) fun _ _ _ => False) :
    PySem.W.WalkO q loose XP YP l.row.toRowW d [] (fun f vs => PySem.call f vs) := by
  refine Att.attach_call hn hdf fun w s₀ s₁ mg mb fa o pm cd doc a vs ns G Y ho hd hcd hmg hobj hints hlen hg => ?_
  obtain ⟨fd, hb, hF⟩ := F w mg fa _ (hY w _ Y) G.T.g hmg
  exact law_g (hY w _ Y) G.T.g G.T.b G.T.builtins G.T.nolimit hg hobj hints (Nat.le_trans hlen hn2) hr hF hb fun H hO hS => hsp w H a ns hlen hO hS

/-! ### data that may be compared and shown -/
mutual
def fine : PyData → Bool
  | .none => true
  | .bool _ => true
  | .int i => decide (i.natAbs < 10 ^ 60)
  | .str x => PyData.strOk x && decide (x.cps.size ≤ 20)
  | .list xs => fineAll xs
  | .tuple xs => fineAll xs
  | .dict _ => false
def fineAll : List PyData → Bool
  | [] => true
  | x :: xs => fine x && fineAll xs
end
mutual
def cost : PyData → Nat
  | .none => 4
  | .bool _ => 5
  | .int _ => 64
  | .str _ => 210
  | .list xs => costAll xs + 3
  | .tuple xs => costAll xs + 3
  | .dict _ => 0
def costAll : List PyData → Nat
  | [] => 0
  | x :: xs => cost x + 2 + costAll xs
end
mutual
theorem fine_lay : ∀ d : PyData, fine d = true → d.canLay0 = true ∧ d.showable = true ∧ d.hasDict = false
  | .none, _ => ⟨rfl, rfl, rfl⟩
  | .bool _, _ => ⟨rfl, rfl, rfl⟩
  | .int i, h => by
    have hi : i.natAbs < 10 ^ 60 := of_decide_eq_true h
    refine ⟨rfl, ?_, rfl⟩
    show decide (i.natAbs.log2 < 1920) = true
    refine decide_eq_true ?_
    by_cases h0 : i.natAbs = 0
    · rw [h0]
      decide
    · exact Nat.lt_of_lt_of_le ((Nat.log2_lt h0).mpr (Nat.lt_of_lt_of_le hi (show 10 ^ 60 ≤ 2 ^ 200 by decide))) (by decide)
  | .str x, h => by
    have h' : (PyData.strOk x && decide (x.cps.size ≤ 20)) = true := h
    rw [Bool.and_eq_true] at h'
    exact ⟨h'.1, rfl, rfl⟩
  | .list xs, h => fine_layAll xs h
  | .tuple xs, h => fine_layAll xs h
  | .dict _, h => by cases h
theorem fine_layAll : ∀ xs : List PyData, fineAll xs = true → PyData.canLayAll0 xs = true ∧ PyData.showableAll xs = true ∧ PyData.hasDictAll xs = false
  | [], _ => ⟨rfl, rfl, rfl⟩
  | x :: xs, h => by
    have h' : (fine x && fineAll xs) = true := h
    rw [Bool.and_eq_true] at h'
    obtain ⟨a1, a2, a3⟩ := fine_lay x h'.1
    obtain ⟨b1, b2, b3⟩ := fine_layAll xs h'.2
    refine ⟨?_, ?_, ?_⟩
    · show (PyData.canLay0 x && PyData.canLayAll0 xs) = true
      rw [a1, b1]
      rfl
    · show (PyData.showable x && PyData.showableAll xs) = true
      rw [a2, b2]
      rfl
    · show (PyData.hasDict x || PyData.hasDictAll xs) = false
      rw [a3, b3]
      rfl
end
theorem listText_le (ts : List Str) : (listText ts).length ≤ piled ts + 2 := by
  cases ts with
  | nil => decide
  | cons t r =>
    have e : listText (t :: r) = textFrom 1 ("[" ++ "" ++ t) r ++ "]" := rfl
    rw [e, strLen_append, textFrom_length_pos r 1 _ (by decide), strLen_append, piled_cons]
    have e1 : (("[" : Str) ++ ("" : Str)).length = 1 := rfl
    have e2 : ((("]" : String) : Str)).length = 1 := rfl
    have e3 : (((("[" : String) : Str) ++ (("" : String) : Str)) : Str).length = 1 := rfl
    omega
theorem tupleText_le (ts : List Str) : (tupleText ts).length ≤ piled ts + 3 := by
  unfold tupleText
  rw [strLen_append, strLen_append]
  have e1 : (("(" : String) : Str).length = 1 := rfl
  have e2 : ((if (ts.length == 1) = true then ",)" else ")" : String) : Str).length ≤ 2 := by
    split
    · decide
    · decide
  cases ts with
  | nil =>
    have : (Str.join ", " ([] : List Str)).length = 0 := rfl
    omega
  | cons t r =>
    have := join_length_add (t :: r) (by simp)
    omega
mutual
theorem shown_le : ∀ d : PyData, fine d = true → d.shown.length ≤ cost d
  | .none, _ => by decide
  | .bool b, _ => by cases b <;> decide
  | .int i, h => by
    have hi : i.natAbs < 10 ^ 60 := of_decide_eq_true h
    have e := int_text_length_le10 (k := 60) (a := i) (by decide) hi
    show (Str.ofString (toString i)).length ≤ 64
    rw [PySem.ofString_length]
    omega
  | .str x, h => by
    have h' : (PyData.strOk x && decide (x.cps.size ≤ 20)) = true := h
    rw [Bool.and_eq_true] at h'
    have h2 : x.length ≤ 20 := of_decide_eq_true h'.2
    have h3 : ∀ c ∈ x.cps.toList, c < 16 ^ 8 := fun c hc => by
      have := Array.all_eq_true'.mp h'.1 c (by simpa using hc)
      have := of_decide_eq_true this
      omega
    have := PySem.StrLaws.reprText_len x h3
    show (reprText x).length ≤ 210
    omega
  | .list xs, h => by
    have := listText_le (PyData.shownAll xs)
    have h2 := shown_leAll xs h
    show (listText (PyData.shownAll xs)).length ≤ costAll xs + 3
    omega
  | .tuple xs, h => by
    have := tupleText_le (PyData.shownAll xs)
    have h2 := shown_leAll xs h
    show (tupleText (PyData.shownAll xs)).length ≤ costAll xs + 3
    omega
  | .dict _, h => by cases h
theorem shown_leAll : ∀ xs : List PyData, fineAll xs = true → piled (PyData.shownAll xs) ≤ costAll xs
  | [], _ => Nat.le_refl 0
  | x :: xs, h => by
    have h' : (fine x && fineAll xs) = true := h
    rw [Bool.and_eq_true] at h'
    have h1 := shown_le x h'.1
    have h2 := shown_leAll xs h'.2
    show piled (PyData.shown x :: PyData.shownAll xs) ≤ cost x + 2 + costAll xs
    rw [piled_cons]
    omega
end
structure DOk (d : PyData) : Prop where
  f : fine d = true
  dp : d.depth ≤ 50
  c : cost d ≤ 1000000
theorem DOk.shaped {d : PyData} (h : DOk d) : SeqAt.shaped d = true := by
  unfold SeqAt.shaped
  rw [(fine_lay d h.f).1]
  exact decide_eq_true (Nat.le_trans h.dp (by decide))
theorem DOk.len {d : PyData} (h : DOk d) : d.shown.length ≤ sizeLine := Nat.le_trans (shown_le d h.f) (Nat.le_trans h.c (by rw [sizeLine_eq]; decide))
mutual
theorem Dp.same {K : PySem.W.Frag} {H H' : Hp} (s : Same H H') : ∀ (d : PyData) (v : V), Dp K H v d → Dp K H' v d
  | .none, _, h => by cases h; exact .non
  | .bool _, _, h => by cases h; exact .bl _
  | .int _, _, h => by cases h; exact .int _
  | .str _, _, h => by cases h; exact .str _
  | .list ds, _, h => by
    cases h with
    | lst h1 h2 => exact .lst (s.seq h1) (Dp.sameAll s ds _ h2)
  | .tuple ds, _, h => by
    cases h with
    | tup h1 h2 => exact .tup (Evl.ex_t s h1) (Dp.sameAll s ds _ h2)
  | .dict _, _, h => by cases h
theorem Dp.sameAll {K : PySem.W.Frag} {H H' : Hp} (s : Same H H') : ∀ (ds : List PyData) (vs : List V), DpAll K H vs ds → DpAll K H' vs ds
  | [], _, h => by cases h; exact .nil
  | d :: ds, _, h => by
    cases h with
    | cons h1 h2 => exact .cons (Dp.same s d _ h1) (Dp.sameAll s ds _ h2)
end
/-- two data that are the same -/
def spAlikeD (K : PySem.W.Frag) : Sp := fun vs H Q _ => ∃ (x y : V) (d : PyData), vs = [x, y] ∧ Dp K H x d ∧ Dp K H y d ∧ DOk d ∧ Q (.bl true) H
theorem fine_int {i : Int} (h : i.natAbs < 10 ^ 60) : fine (.int i) = true := decide_eq_true h
/-- the names as data -/
def okS (c : Str) : Bool := PyData.strOk c && decide (c.cps.size ≤ 20)
theorem menu_okS : ∀ c ∈ menu, okS c = true := by decide +kernel
theorem fine_strs : ∀ {xs : List Str}, (∀ c ∈ xs, okS c = true) → fineAll (xs.map PyData.str) = true
  | [], _ => rfl
  | x :: xs, h => by
    show (fine (.str x) && fineAll (xs.map PyData.str)) = true
    rw [fine_strs fun c hc => h c (List.mem_cons_of_mem _ hc), Bool.and_true]
    exact h x List.mem_cons_self
theorem cost_strs : ∀ (xs : List Str), costAll (xs.map PyData.str) = 212 * xs.length
  | [] => rfl
  | x :: xs => by
    show cost (.str x) + 2 + costAll (xs.map PyData.str) = _
    rw [cost_strs xs, List.length_cons]
    show 210 + 2 + _ = _
    omega
theorem dok_strs {xs : List Str} (h : ∀ c ∈ xs, okS c = true) (hl : xs.length ≤ 100) : DOk (.tuple (xs.map PyData.str)) :=
  ⟨fine_strs h, by show PyData.depthAll _ + 1 ≤ 50; rw [depth_strs]; decide, by show costAll _ + 3 ≤ _; rw [cost_strs]; omega⟩
/-- a question as data -/
def dQ (cols : List Str) (e : Str) : PyData := .tuple [.tuple (cols.map PyData.str), .str e]
theorem dp_q {K : PySem.W.Frag} {H : Hp} {q : Addr} {cols : List Str} {e : Str} (h : QAt H q cols e) : Dp K H (.ref q) (dQ cols e) := by
  obtain ⟨c, h1, h2⟩ := h
  exact .tup (SqT.of h1) (.cons (.tup (SqT.of h2) (dp_strs _)) (.cons (.str e) .nil))
structure CalG (P : Program) (w : World) (K : PySem.W.Frag) (mg : Str → Option Value) (base : Heap) (k : Nat) (x : Str) (ps : List Str) (sp : Sp) where
  f : Addr
  fd : FuncData
  G : FnG P w K mg base k f fd ps sp
  m : mg x = some (.ref f)
  kp : PySem.W.keepIn K (.ref f) = true
  b : Binds K fd ps []
end Qk

set_option maxRecDepth 100000
set_option maxHeartbeats 4000000
namespace Qk
open PySem PySem.Spec PyProof.Rows L2

/-! rules of my own: math.comb, a walk over a range object that stands, max(xs, default=d) of ints -/
section
variable {X : Cx} {tg : Expr}
def rComb : List V → Hp → VK → Prop := fun vs H Q => ∃ a b : Int, vs = [.int a, .int b] ∧ 0 ≤ a ∧ 0 ≤ b ∧ a < 2 ^ 64 ∧ b ≤ 9000 ∧ Q (.int (PySem.W.mcComb a b)) H
theorem cr_comb : CallR X (.builtin "math.comb") rComb := by
  intro pins s σ H vs us Q I r h
  obtain ⟨a, b, rfl, h1, h2, h3, h4, q⟩ := h
  obtain ⟨t, u, rfl⟩ := Vals.int2 r
  exact PySem.W.mc_comb h1 h2 h3 (.inl h4) fun _ => ⟨.int _, H, I.tok _, ⟨_, rfl⟩, q⟩
/-- a range object that stands -/
def iRngO (te : TE) : TI := fun σ H R => te σ H fun x H1 => ∃ (a : Addr) (lo hi : Int), x = .ref a ∧ H1 a = some (.rng lo hi) ∧ (-(2 ^ 62) ≤ lo ∧ lo < 2 ^ 62 ∧ -(2 ^ 62) ≤ hi ∧ hi < 2 ^ 62) ∧ R (Itr lo (hi - lo).toNat) H1
theorem pi_rng {e : Expr} {te : TE} (he : PE X e te) : PI X tg e (iRngO te) := by
  refine ⟨fun pins s σ H R I h => ?_⟩
  refine thn (he.run pins s σ H _ I h) fun v s1 ⟨x, H1, I1, r1, q1⟩ => ?_
  obtain ⟨a, lo, hi, rfl, ha, ⟨h1, h2, h3, h4⟩, q⟩ := q1
  cases r1
  obtain ⟨t, u, w, ho⟩ := I1.hok a _ ha
  refine wpAny_pyIter_range (a := lo) (b := hi) (c := 1) (t := t) (u := u) (v := w) ho (small_one h1 h2 h3 h4) ?_
  refine ⟨s1.heap.objs.size, [s1.heap.objs.size], _, _, H1, rfl, I1.kept (t' := s1.toks) fun b o e => Heap.get?_push_of_some _ e, turn_range _ lo (hi - lo).toNat, ?_, fun b hb => ?_, q⟩
  · have e1 : lo + ((0 : Nat) : Int) * 1 = lo := by simp
    have e2 : (((hi - lo).toNat : Nat) : Int) - ((0 : Nat) : Int) = Builtin.Range.rangeSize lo hi 1 := by rw [rangeSize_one]; split <;> omega
    show IsRangeIter _ _ (lo + ((0 : Nat) : Int) * 1) ((((hi - lo).toNat : Nat) : Int) - ((0 : Nat) : Int)) 1
    rw [e1, e2]
    exact Heap.get?_push_size _ rfl
  · have e : b = s1.heap.objs.size := by simpa using hb
    subst e
    exact I1.fpOk (Nat.le_refl _) (I1.hok.fresh (Nat.le_refl _))
/-- range(a, b) as a value -/
def rRng2 : List V → Hp → VK → Prop := fun vs H Q => ∃ i j, vs = [V.int i, V.int j] ∧ ∀ p, H p = none → Q (.ref p) (upd H p (.rng i j))
theorem holdInts {h : Heap} : ∀ {ns : List Int} {its : List Value}, Vals (ns.map V.int) its → PySem.W.HoldAll h its ns
  | [], [], .nil => ⟨[], .nil⟩
  | n :: ns, _ :: its, .cons r rr => by
    obtain ⟨as, q⟩ := holdInts (ns := ns) rr
    obtain ⟨t, rfl⟩ := r
    exact ⟨_, .cons (.int n t) q⟩
theorem maxOf_int (ns : List Int) : ∀ x : Int, PySem.W.maxOf x ns ∈ x :: ns ∧ ∀ y ∈ x :: ns, y ≤ PySem.W.maxOf x ns := by
  induction ns with
  | nil =>
    intro x
    exact ⟨List.mem_singleton.mpr rfl, fun y hy => by rw [List.mem_singleton.mp hy]; exact Int.le_refl _⟩
  | cons n ns ih =>
    intro x
    have e : PySem.W.maxOf x (n :: ns) = PySem.W.maxOf (if decide (x < n) = true then n else x) ns := rfl
    rw [e]
    obtain ⟨h1, h2⟩ := ih (if decide (x < n) = true then n else x)
    by_cases hn : x < n
    · rw [if_pos (decide_eq_true hn)] at h1 h2 ⊢
      refine ⟨List.mem_cons_of_mem _ h1, fun y hy => ?_⟩
      rcases List.mem_cons.mp hy with rfl | hy
      · have := h2 n List.mem_cons_self
        omega
      · exact h2 y hy
    · rw [if_neg (by simpa using hn)] at h1 h2 ⊢
      refine ⟨?_, fun y hy => ?_⟩
      · rcases List.mem_cons.mp h1 with q | q
        · rw [q]
          exact List.mem_cons_self
        · exact List.mem_cons_of_mem _ (List.mem_cons_of_mem _ q)
      · rcases List.mem_cons.mp hy with rfl | hy
        · exact h2 _ List.mem_cons_self
        · rcases List.mem_cons.mp hy with rfl | hy
          · have := h2 x List.mem_cons_self
            omega
          · exact h2 y (List.mem_cons_of_mem _ hy)
/-- max(xs, default=d) of a list of ints -/
def rMaxDf (K : PySem.W.Frag) : List V → List V → Hp → VK → Prop := fun vs zs H Q => ∃ (a : Addr) (ns : List Int) (d : V), vs = [V.ref a] ∧ zs = [d] ∧ SqL K H a (ns.map V.int) ∧ (ns = [] → Q d H) ∧ ∀ m, m ∈ ns → (∀ y, y ∈ ns → y ≤ m) → Q (.int m) H
theorem cr_maxDf (hc : X.calm = true) (hu : X.A.units + 65 < cLine) : CallRK X (.builtin "max") ["default"] (rMaxDf X.K) := by
  intro pins s σ H vs zs us ws Q I r rz h
  obtain ⟨a, ns, d, rfl, rfl, hs, q0, q⟩ := h
  obtain ⟨its, rv, hl, _⟩ := I.list hs
  rw [Vals.ref1 r]
  obtain ⟨w, rfl, rw'⟩ := vals1 rz
  refine PySem.W.max_list_datum_default (α := Int) (vs := its.toArray) (I.ok.hd hc) hl.isList (holdInts rv) (by show X.A.units + 1 + 0 < cLine; omega) (fun e h' tk hk => ⟨d, H, I.kept hk, rw', q0 e⟩) fun y ys i v h' tk e hv hh hk => ?_
  obtain ⟨m1, m2⟩ := maxOf_int ys y
  rw [← e] at m1 m2
  obtain ⟨as, hr⟩ := hh
  cases hr with
  | int _ t => exact ⟨.int _, H, I.kept hk, ⟨_, rfl⟩, q _ m1 m2⟩
end
end Qk

set_option maxRecDepth 100000
set_option maxHeartbeats 4000000
namespace Qk
open PySem PySem.Spec PyProof.Rows L2 PySem.W

/-! rows of Pascal, counts of questions by width, the greatest of them -/
def stepZ (r : List Int) : List Int := 1 :: (List.zipWith (· + ·) r r.tail ++ [1])
def rowN : Nat → List Int
  | 0 => [1]
  | n + 1 => stepZ (rowN n)
def chkR : Nat → Nat → List Int → Bool
  | 0, _, _ => true
  | f + 1, n, r => decide (r = (List.range (n + 1)).map fun (k : Nat) => mcComb (n : Int) (k : Int)) && chkR f (n + 1) (stepZ r)
theorem chkR_ok : chkR 61 0 [1] = true := by decide +kernel
theorem chkR_at : ∀ (f n : Nat) (r : List Int) (j : Nat), r = rowN n → chkR f n r = true → j < f → rowN (n + j) = (List.range (n + j + 1)).map fun (k : Nat) => mcComb ((n + j : Nat) : Int) (k : Int)
  | 0, _, _, j, _, _, h => absurd h (Nat.not_lt_zero j)
  | f + 1, n, r, 0, e, h, _ => by
    have h' : (decide (r = (List.range (n + 1)).map fun (k : Nat) => mcComb (n : Int) (k : Int)) && chkR f (n + 1) (stepZ r)) = true := h
    rw [Bool.and_eq_true] at h'
    have := of_decide_eq_true h'.1
    rw [e] at this
    exact this
  | f + 1, n, r, j + 1, e, h, hj => by
    have h' : (decide (r = (List.range (n + 1)).map fun (k : Nat) => mcComb (n : Int) (k : Int)) && chkR f (n + 1) (stepZ r)) = true := h
    rw [Bool.and_eq_true] at h'
    have := chkR_at f (n + 1) (stepZ r) j (by rw [e]; rfl) h'.2 (by omega)
    have e1 : n + 1 + j = n + (j + 1) := by omega
    rw [e1] at this
    exact this
theorem rowN_eq {n : Nat} (h : n ≤ 60) : rowN n = (List.range (n + 1)).map fun (k : Nat) => mcComb (n : Int) (k : Int) := by
  have := chkR_at 61 0 [1] n rfl chkR_ok (by omega)
  rw [Nat.zero_add] at this
  exact this
theorem rowN_len {n : Nat} (h : n ≤ 60) : (rowN n).length = n + 1 := by
  rw [rowN_eq h, List.length_map, List.length_range]
theorem rowN_get {n k : Nat} (h : n ≤ 60) (hk : k ≤ n) : (rowN n)[k]? = some (mcComb (n : Int) (k : Int)) := by
  rw [rowN_eq h, List.getElem?_map, List.getElem?_range (by omega)]
  rfl
/-- how many questions of a width -/
def cnt (b : Bool) (n w : Int) : Int := if b = true then mcComb n w else mcComb n (w - 1) * (n - w + 1)
theorem cnt_tab : ((List.range 61).all fun n => (List.range n).all fun i => decide (0 ≤ cnt true n (i + 1)) && decide (cnt true n (i + 1) ≤ cnt false n (i + 1)) && decide (cnt false n (i + 1) < 10 ^ 30)) = true := by decide +kernel
theorem cnt_facts {n w : Nat} (h : n ≤ 60) (h1 : 1 ≤ w) (h2 : w ≤ n) : 0 ≤ cnt true n w ∧ cnt true n w ≤ cnt false n w ∧ cnt false n w < 10 ^ 30 := by
  have a := List.all_eq_true.mp (List.all_eq_true.mp cnt_tab n (List.mem_range.mpr (by omega))) (w - 1) (List.mem_range.mpr (by omega))
  simp only [Bool.and_eq_true, decide_eq_true_eq] at a
  have e : (((w - 1 : Nat) : Int) + 1) = (w : Int) := by omega
  rw [e] at a
  exact ⟨a.1.1, a.1.2, a.2⟩
theorem cnt_bd (b : Bool) {n w : Nat} (h : n ≤ 60) (h1 : 1 ≤ w) (h2 : w ≤ n) : 0 ≤ cnt b n w ∧ cnt b n w < 10 ^ 30 := by
  obtain ⟨a1, a2, a3⟩ := cnt_facts h h1 h2
  cases b with
  | true => exact ⟨a1, Int.lt_of_le_of_lt a2 a3⟩
  | false => exact ⟨Int.le_trans a1 a2, a3⟩
/-- y is the count of a width of at least l -/
def InS (b : Bool) (n l : Nat) (y : Int) : Prop := ∃ w : Nat, l ≤ w ∧ w ≤ n ∧ y = cnt b n w
def IsTop (b : Bool) (n l : Nat) (m : Int) : Prop := InS b n l m ∧ ∀ y, InS b n l y → y ≤ m
theorem IsTop.uniq {b : Bool} {n l : Nat} {m m' : Int} (h : IsTop b n l m) (h' : IsTop b n l m') : m = m' := Int.le_antisymm (h'.2 _ h.1) (h.2 _ h'.1)
/-- the counts of the widths from l on -/
def cnts (b : Bool) (n l : Nat) : List Int := (List.range (n + 1 - l)).map fun i => cnt b n ((l + i : Nat) : Int)
theorem mem_cnts {b : Bool} {n l : Nat} {y : Int} : y ∈ cnts b n l ↔ InS b n l y := by
  unfold cnts
  rw [List.mem_map]
  constructor
  · rintro ⟨i, hi, rfl⟩
    have := List.mem_range.mp hi
    exact ⟨l + i, by omega, by omega, rfl⟩
  · rintro ⟨w, h1, h2, rfl⟩
    exact ⟨w - l, List.mem_range.mpr (by omega), by rw [show l + (w - l) = w by omega]⟩
def topOf (b : Bool) (n l : Nat) : Int := maxOf (cnt b n l) (cnts b n l)
theorem topOf_top {b : Bool} {n l : Nat} (h : l ≤ n) : IsTop b n l (topOf b n l) := by
  obtain ⟨h1, h2⟩ := maxOf_int (cnts b n l) (cnt b n l)
  refine ⟨?_, fun y hy => h2 y (List.mem_cons_of_mem _ (mem_cnts.mpr hy))⟩
  rcases List.mem_cons.mp h1 with q | q
  · exact ⟨l, Nat.le_refl _, h, q⟩
  · exact mem_cnts.mp q
/-- the greatest of a list that has just these counts -/
theorem top_of {b : Bool} {n l : Nat} {ns : List Int} {m : Int} (h : l ≤ n) (hm : ∀ y, y ∈ ns ↔ InS b n l y) (h1 : m ∈ ns) (h2 : ∀ y ∈ ns, y ≤ m) : m = topOf b n l :=
  IsTop.uniq ⟨(hm m).mp h1, fun y hy => h2 y ((hm y).mpr hy)⟩ (topOf_top h)
theorem topOf_bd {b : Bool} {n l : Nat} (hn : n ≤ 60) (h1 : 1 ≤ l) (h : l ≤ n) : 0 ≤ topOf b n l ∧ topOf b n l < 10 ^ 30 := by
  obtain ⟨w, a1, a2, e⟩ := (topOf_top (b := b) h).1
  rw [e]
  exact cnt_bd b hn (by omega) a2
theorem topOf_anti {b : Bool} {n l : Nat} (h : l + 1 ≤ n) : topOf b n (l + 1) ≤ topOf b n l := by
  obtain ⟨w, a1, a2, e⟩ := (topOf_top (b := b) h).1
  exact (topOf_top (b := b) (show l ≤ n by omega)).2 _ ⟨w, by omega, a2, e⟩
theorem topOf_le {n l : Nat} (hn : n ≤ 60) (h1 : 1 ≤ l) (h : l ≤ n) : topOf true n l ≤ topOf false n l := by
  obtain ⟨w, a1, a2, e⟩ := (topOf_top (b := true) h).1
  rw [e]
  exact Int.le_trans (cnt_facts hn (by omega) a2).2.1 ((topOf_top (b := false) h).2 _ ⟨w, a1, a2, rfl⟩)
/-- levels and their numbers -/
def dueL (b : Bool) (n : Nat) : List (Int × Int) := (List.range n).map fun (i : Nat) => (((i + 1 : Nat) : Int), topOf b n (i + 1))
theorem dueL_len (b : Bool) (n : Nat) : (dueL b n).length = n := by
  unfold dueL
  rw [List.length_map, List.length_range]
theorem dueL_get {b : Bool} {n i : Nat} (h : i < n) : (dueL b n)[i]? = some (((i + 1 : Nat) : Int), topOf b n (i + 1)) := by
  unfold dueL
  rw [List.getElem?_map, List.getElem?_range h]
  rfl
def fewV (b : Bool) (n : Nat) : Int := if n = 0 then 0 else topOf b n 1
def tops (b : Bool) (n : Nat) : List Int := (dueL b n).map (·.2)
def widV (b : Bool) (n : Nat) : Int := (tops b n).sum
theorem sum_le : ∀ {f g : Nat → Int} (l : List Nat), (∀ i ∈ l, f i ≤ g i) → (l.map f).sum ≤ (l.map g).sum
  | _, _, [], _ => Int.le_refl _
  | f, g, x :: l, h => by
    rw [List.map_cons, List.map_cons, List.sum_cons, List.sum_cons]
    have h1 := h x List.mem_cons_self
    have h2 := sum_le (f := f) (g := g) l fun i hi => h i (List.mem_cons_of_mem _ hi)
    omega
theorem tops_eq (b : Bool) (n : Nat) : tops b n = (List.range n).map fun i => topOf b n (i + 1) := by
  unfold tops dueL
  rw [List.map_map]
  rfl
theorem widV_le {n : Nat} (h : n ≤ 60) : widV true n ≤ widV false n := by
  unfold widV
  rw [tops_eq, tops_eq]
  exact sum_le _ fun i hi => topOf_le h (by omega) (by have := List.mem_range.mp hi; omega)
theorem sum_bd : ∀ (ns : List Int) (B : Int), 0 ≤ B → (∀ x ∈ ns, 0 ≤ x ∧ x < B) → 0 ≤ ns.sum ∧ ns.sum ≤ ns.length * B
  | [], B, hB, _ => ⟨Int.le_refl _, by simp⟩
  | x :: ns, B, hB, h => by
    obtain ⟨a1, a2⟩ := h x List.mem_cons_self
    obtain ⟨b1, b2⟩ := sum_bd ns B hB fun y hy => h y (List.mem_cons_of_mem _ hy)
    rw [List.sum_cons, List.length_cons]
    have e : ((ns.length + 1 : Nat) : Int) * B = (ns.length : Int) * B + B := by
      rw [Int.natCast_add, Int.add_mul]
      simp
    rw [e]
    omega
theorem widV_bd (b : Bool) {n : Nat} (h : n ≤ 60) : 0 ≤ widV b n ∧ widV b n ≤ 60 * 10 ^ 30 := by
  have := sum_bd (tops b n) (10 ^ 30) (by decide) (by
    rw [tops_eq]
    intro x hx
    obtain ⟨i, hi, rfl⟩ := List.mem_map.mp hx
    have := List.mem_range.mp hi
    exact topOf_bd h (by omega) (by omega))
  have hl : (tops b n).length = n := by rw [tops_eq, List.length_map, List.length_range]
  rw [hl] at this
  refine ⟨this.1, Int.le_trans this.2 (Int.mul_le_mul_of_nonneg_right (by omega) (by decide))⟩
theorem fewV_bd (b : Bool) {n : Nat} (h : n ≤ 60) : 0 ≤ fewV b n ∧ fewV b n < 10 ^ 30 := by
  unfold fewV
  split
  · decide
  · exact topOf_bd h (by omega) (by omega)

/-! lists of pairs of ints as they stand -/
def PairAt (H : Hp) (x : V) (r : Int × Int) : Prop := ∃ t, x = .ref t ∧ H t = some (.tup [.int r.1, .int r.2])
inductive PL (H : Hp) : List V → List (Int × Int) → Prop
  | nil : PL H [] []
  | cons {x : V} {xs : List V} {r : Int × Int} {rs : List (Int × Int)} : PairAt H x r → PL H xs rs → PL H (x :: xs) (r :: rs)
theorem PairAt.same {H H' : Hp} {x : V} {r : Int × Int} (s : Same H H') (h : PairAt H x r) : PairAt H' x r := by
  obtain ⟨t, e, h⟩ := h
  exact ⟨t, e, s _ _ h⟩
theorem PL.same {H H' : Hp} {xs : List V} {rs : List (Int × Int)} (s : Same H H') (h : PL H xs rs) : PL H' xs rs := by
  induction h with
  | nil => exact .nil
  | cons a _ ih => exact .cons (a.same s) ih
theorem PL.len {H : Hp} {xs : List V} {rs : List (Int × Int)} (h : PL H xs rs) : xs.length = rs.length := by
  induction h with
  | nil => rfl
  | cons _ _ ih => rw [List.length_cons, List.length_cons, ih]
theorem PL.snoc {H : Hp} {xs : List V} {rs : List (Int × Int)} {x : V} {r : Int × Int} (h : PL H xs rs) (hx : PairAt H x r) : PL H (xs ++ [x]) (rs ++ [r]) := by
  induction h with
  | nil => exact .cons hx .nil
  | cons a _ ih => exact .cons a ih
theorem PL.get {H : Hp} {xs : List V} {rs : List (Int × Int)} (h : PL H xs rs) : ∀ {i : Nat} {x : V}, xs[i]? = some x → ∃ r, rs[i]? = some r ∧ PairAt H x r := by
  induction h with
  | nil =>
    intro i x e
    cases e
  | cons a _ ih =>
    intro i x e
    cases i with
    | zero =>
      obtain rfl := Option.some.inj e
      exact ⟨_, rfl, a⟩
    | succ i => exact ih (i := i) e
theorem PL.getR {H : Hp} {xs : List V} {rs : List (Int × Int)} (h : PL H xs rs) {i : Nat} {r : Int × Int} (e : rs[i]? = some r) : ∃ x, xs[i]? = some x ∧ PairAt H x r := by
  have hl : i < xs.length := by
    rw [h.len]
    exact (List.getElem?_eq_some_iff.mp e).1
  obtain ⟨r', e', p⟩ := h.get (List.getElem?_eq_getElem hl)
  rw [e] at e'
  obtain rfl := Option.some.inj e'
  exact ⟨_, List.getElem?_eq_getElem hl, p⟩
def dP (r : Int × Int) : PyData := .tuple [.int r.1, .int r.2]
theorem PL.dp {K : PySem.W.Frag} {H : Hp} {xs : List V} {rs : List (Int × Int)} (h : PL H xs rs) : DpAll K H xs (rs.map dP) := by
  induction h with
  | nil => exact .nil
  | cons a _ ih =>
    obtain ⟨t, rfl, a⟩ := a
    exact .cons (.tup (SqT.of a) (.cons (.int _) (.cons (.int _) .nil))) ih
theorem fine_pairs : ∀ {rs : List (Int × Int)}, (∀ r ∈ rs, r.1.natAbs < 10 ^ 60 ∧ r.2.natAbs < 10 ^ 60) → fineAll (rs.map dP) = true
  | [], _ => rfl
  | r :: rs, h => by
    obtain ⟨a, b⟩ := h r List.mem_cons_self
    show (fine (dP r) && fineAll (rs.map dP)) = true
    rw [fine_pairs fun x hx => h x (List.mem_cons_of_mem _ hx), Bool.and_true]
    show (fine (.int r.1) && (fine (.int r.2) && true)) = true
    rw [fine_int a, fine_int b]
    rfl
theorem cost_pairs : ∀ (rs : List (Int × Int)), costAll (rs.map dP) = 137 * rs.length
  | [] => rfl
  | r :: rs => by
    show cost (dP r) + 2 + costAll (rs.map dP) = _
    rw [cost_pairs rs, List.length_cons]
    show (64 + 2 + (64 + 2 + 0) + 3) + 2 + _ = _
    omega
theorem depth_pairs : ∀ (rs : List (Int × Int)), PyData.depthAll (rs.map dP) ≤ 1
  | [] => by decide
  | r :: rs => by
    show max (PyData.depth (dP r)) (PyData.depthAll (rs.map dP)) ≤ 1
    have := depth_pairs rs
    have e : PyData.depth (dP r) = 1 := rfl
    omega
theorem dok_pairs {rs : List (Int × Int)} (h : ∀ r ∈ rs, r.1.natAbs < 10 ^ 60 ∧ r.2.natAbs < 10 ^ 60) (hl : rs.length ≤ 1000) : DOk (.list (rs.map dP)) :=
  ⟨fine_pairs h, by show PyData.depthAll _ + 1 ≤ 50; have := depth_pairs rs; omega, by show costAll _ + 3 ≤ _; rw [cost_pairs]; omega⟩
theorem dok_bigint {i : Int} (h : i.natAbs < 10 ^ 60) : DOk (.int i) := ⟨fine_int h, by show 0 ≤ 50; decide, by show 64 ≤ 1000000; decide⟩
theorem due_ok (b : Bool) {n : Nat} (h : n ≤ 60) : ∀ r ∈ dueL b n, r.1.natAbs < 10 ^ 60 ∧ r.2.natAbs < 10 ^ 60 := by
  intro r hr
  unfold dueL at hr
  obtain ⟨i, hi, rfl⟩ := List.mem_map.mp hr
  have hi := List.mem_range.mp hi
  obtain ⟨a1, a2⟩ := topOf_bd (b := b) h (show 1 ≤ i + 1 by omega) (show i + 1 ≤ n by omega)
  refine ⟨Nat.lt_of_le_of_lt (show ((i + 1 : Nat) : Int).natAbs ≤ 61 by omega) (by decide), ?_⟩
  show (topOf b n (i + 1)).natAbs < 10 ^ 60
  have : (topOf b n (i + 1)).natAbs < 10 ^ 30 := by omega
  exact Nat.lt_trans this (by decide)
end Qk

set_option maxRecDepth 100000
set_option maxHeartbeats 4000000
namespace Qk
open PySem PySem.Spec PyProof.Rows L2
def top (i : Nat) : Stmt := PySem.Challenge.pw_narrowkeys_k77_whole_everything_far.main.body.getD i (.Pass ⟨0, 0, 0, 0⟩)
abbrev sSteps : Stmt := top 2
abbrev sMow : Stmt := top 4
abbrev sLevels : Stmt := top 5
abbrev sFewest : Stmt := top 6
abbrev sWidth : Stmt := top 7
abbrev sBag : Stmt := top 9
abbrev sTake : Stmt := top 10
abbrev sAlike : Stmt := top 11
abbrev sSizes : Stmt := top 12
abbrev sDue : Stmt := top 13
abbrev sLaw : Stmt := top 14
structure Txt (K : PySem.W.Frag) (mg : Str → Option Value) : Prop where
  len : mg "len" = none
  int : mg "int" = none
  abs : mg "abs" = none
  range : mg "range" = none
  repr : mg "repr" = none
  max : mg "max" = none
  sum : mg "sum" = none
  zip : mg "zip" = none
  comb : mg "comb" = some (.builtin "math.comb")
section
variable {P : Program} {w : World} {K : PySem.W.Frag} {mg : Str → Option Value} {base : Heap}
/-- a def with one keyword that may be left out: plain, False -/
structure CalK (P : Program) (w : World) (K : PySem.W.Frag) (mg : Str → Option Value) (base : Heap) (k : Nat) (x : Str) (sp : Sp) where
  f : Addr
  fd : FuncData
  ds : List Value
  G : FnOk P w K mg base CX0 k f fd ["many", "plain"] sp
  m : mg x = some (.ref f)
  kp : PySem.W.keepIn K (.ref f) = true
  kb : KBn K fd ["many", "plain"] 1 ["plain"] (fun us ws => us ++ ws) (fun vs zs => vs ++ zs)
  dv : Vals [.bl false] ds
  b : Binds K fd ["many", "plain"] ds
/-- the scope of the list comprehension that a return gives -/
def lcScope (d : Scope) : Stmt → Scope
  | .Return (some (.ListComp _ _ sc _)) _ => sc
  | _ => d
/-- a block's scope within a def's: what the def holds in cells is a cell of the block -/
def relS (sc out : Scope) : Scope := { sc with names := sc.names.map fun (n, k) => if (k == NameKind.free && out.kind == .function && out.names.lookup n == some .cell) then (n, NameKind.cell) else (n, k) }
def spMow : Sp := fun vs H Q _ => ∃ (n : Nat) (v : Int) (b : Bool), vs = [.int (n : Int), .int v, .bl b] ∧ n ≤ 60 ∧ 1 ≤ v ∧ v ≤ n ∧ Q (.int (cnt b n v)) H
theorem scMow : FnScope ["many", "wide", "plain"] ["many", "wide", "plain"] (defScope sMow) := ⟨rfl, rfl, rfl, by decide +kernel, rfl, by decide +kernel, by decide +kernel⟩
theorem ok_mow {f : Addr} {fd : FuncData} (F : Fun K "most_of_width" "most_of_width" sMow f fd) (T : Txt K mg) : FnOk P w K mg base CX0 1 f fd ["many", "wide", "plain"] spMow := by
  refine F.ok scMow (fun vs H Q E h => ?_) (fun cdv A outer s H vs Q E hr h => ?_)
  · obtain ⟨n, v, b, rfl, _⟩ := h
    rfl
  · obtain ⟨n, v, b, rfl, hn, h1, h2, k⟩ := h
    have nd := scMow.nd
    refine ⟨_, pss_cons (ps_if (pt_val (pv 2)) (pss_one (ps_ret (pe_callBfun cr_comb (by rfl) T.comb (pa_cons (pv 0) (pa_cons (pv 1) pa_nil))))) pss_nil)
      (pss_one (ps_ret (pe_op op_mul (pe_callBfun cr_comb (by rfl) T.comb (pa_cons (pv 0) (pa_cons (pe_op op_sub (pv 1) pe_int) pa_nil))) (pe_op op_add (pe_op op_sub (pv 0) (pv 1)) pe_int)))), ?_⟩
    refine ⟨_, rfl, b, rfl, ?_⟩
    cases b with
    | true =>
      refine iteT ?_
      exact ⟨_, rfl, _, rfl, (n : Int), v, rfl, by omega, by omega, by omega, by omega, k⟩
    | false =>
      refine iteF ?_
      exact ⟨_, rfl, _, rfl, _, _, rfl, rfl, (n : Int), v - 1, rfl, by omega, by omega, by omega, by omega, _, rfl, _, rfl, _, _, rfl, rfl, _, _, rfl, rfl, _, _, rfl, rfl, .inr ⟨by omega, by omega⟩, k⟩
theorem PL.updL {H : Hp} {D : Addr} {ys : List V} {o : HO} {xs : List V} {rs : List (Int × Int)} (hD : H D = some (.lst ys)) (h : PL H xs rs) : PL (upd H D o) xs rs := by
  induction h with
  | nil => exact .nil
  | cons a _ ih =>
    obtain ⟨t, rfl, a⟩ := a
    refine .cons ⟨t, rfl, ?_⟩ ih
    rw [upd_ne (ne_of a hD (by intro z; cases z))]
    exact a
def spLevels : Sp := fun vs H Q _ => ∃ (n : Nat) (b : Bool), vs = [.int (n : Int), .bl b] ∧ n ≤ 60 ∧ ∀ (p : Addr) (H' : Hp) (xs : List V), Same H H' → H p = none → H' p = some (.lst xs) → PL H' xs (dueL b n) → Q (.ref p) H'
abbrev nLev : List Str := ["many", "plain", "widths", "level", "wide"]
theorem scLevels : FnScope nLev ["many", "plain"] (defScope sLevels) := ⟨rfl, rfl, rfl, by decide +kernel, rfl, by decide +kernel, by decide +kernel⟩
abbrev scOuter : Scope := relS (lcScope (defScope sLevels) ((defBody sLevels).getD 1 (.Pass ⟨0, 0, 0, 0⟩))) (defScope sLevels)
theorem ok_levels {f : Addr} {fd : FuncData} (F : Fun K "levels_for" "levels_for" sLevels f fd) (T : Txt K mg) (cW : Cal P w K mg base 1 "most_of_width" ["many", "wide", "plain"] spMow) : FnOk P w K mg base CX0 2 f fd ["many", "plain"] spLevels := by
  refine F.ok scLevels (fun vs H Q E h => ?_) (fun cdv A outer s H vs Q E hr h => ?_)
  · obtain ⟨n, b, rfl, _⟩ := h
    rfl
  · obtain ⟨n, b, rfl, hn, k⟩ := h
    have nd := scLevels.nd
    refine ⟨_, pss_cons (ps_set (i := 2) nd rfl (Or.inr rfl) (pe_callTy cr_range2 (by rfl) T.range (by decide +kernel) (pa_cons pe_int (pa_cons (pe_op op_add (pv 0) pe_int) pa_nil))))
      (pss_one (ps_ret (pe_lc (own := [("level", 3)]) (g := gName 3) (tt := tYes) rfl nd (pi_rng (pv 2)) (blkOk_by (N := nLev) (sc := defScope sLevels) (by decide +kernel)) (fun _ _ _ _ _ => pg_name (i := 3) nd rfl (by first | exact Or.inl rfl | exact Or.inr rfl)) (fun _ _ _ _ _ => pts_nil)
        (fun _ _ _ _ _ => pe_tup (pa_cons (pv 3) (pa_cons (pe_callB (id := "max") (r := rMax K) (cr_max rfl) (by rfl) T.max (by decide +kernel) (pa_cons
          (pe_lc (own := [("wide", 4)]) (g := gName 4) rfl nd (pi_rng (pv 2)) (blkOk_by (N := nLev) (sc := scOuter) (by decide +kernel)) (fun _ _ _ _ _ => pg_name (i := 4) nd rfl (by first | exact Or.inl rfl | exact Or.inr rfl))
            (fun _ _ _ _ _ => pts_one (pt_cmpR op_ge (pv 4) (pv 3) (nomark _))) (fun _ _ _ _ _ => pe_call cW.G hr rfl cW.m cW.kp cW.b .nil pass0 (pa_cons (pv 0) (pa_cons (pv 4) (pa_cons (pv 1) pa_nil))))) pa_nil)) pa_nil)))))), ?_⟩
    refine ⟨_, rfl, _, _, rfl, rfl, _, _, rfl, fun p hp => ?_⟩
    have e0 : ((n : Int) + 1 - 1).toNat = n := by omega
    refine ⟨_, rfl, p, 1, (n : Int) + 1, rfl, upd_same, ⟨by omega, by omega, by omega, by omega⟩, fun D hD => ?_⟩
    rw [e0]
    have s1 : Same H _ := same_new (o := .rng 1 ((n : Int) + 1)) hp
    have hp1 : (upd H p (.rng 1 ((n : Int) + 1))) p = some (.rng 1 ((n : Int) + 1)) := upd_same
    generalize upd H p (.rng 1 ((n : Int) + 1)) = H1 at hD s1 hp1 ⊢
    refine lc_range (lo := 1) (n := n) (fun i H' => ∃ xs : List V, Same H1 H' ∧ H' D = some (.lst xs) ∧ PL H' xs ((dueL b n).take i)) ⟨[], same_new hD, upd_same, .nil⟩ ?_ ?_
    · rintro i H2 hi ⟨xs, s2, hDl, hP⟩
      have hp2 := s2 _ _ hp1
      refine ⟨rfl, Exists.intro _ ⟨rfl, _, rfl, p, 1, (n : Int) + 1, rfl, hp2, ⟨by omega, by omega, by omega, by omega⟩, fun D2 hD2 => ?_⟩⟩
      rw [e0]
      refine lc_range (lo := 1) (n := n) (fun j H' => ∃ ns : List Int, Same H2 H' ∧ H' D2 = some (.lst (ns.map V.int)) ∧ ns.length ≤ j ∧ ∀ y, y ∈ ns ↔ ∃ a : Nat, i ≤ a ∧ a < j ∧ y = cnt b n ((a + 1 : Nat) : Int)) ⟨[], same_new hD2, upd_same, Nat.le_refl _, fun y => ⟨fun h => (nomatch h), fun ⟨a, _, h, _⟩ => absurd h (Nat.not_lt_zero a)⟩⟩ ?_ ?_
      · rintro j H3 hj ⟨ns, s3, hD3, hl, hm⟩
        refine ⟨rfl, Exists.intro _ ⟨rfl, _, rfl, _, _, rfl, rfl, _, rfl, ?_⟩⟩
        refine ite2 (fun hc => ?_) (fun hc => ?_)
        · have hij : i ≤ j := by
            have := of_decide_eq_true hc
            omega
          refine ⟨_, rfl, _, rfl, _, rfl, n, 1 + (j : Int), b, rfl, hn, by omega, by omega, _, hD3, small1000 (by rw [List.length_map]; omega), ns ++ [cnt b n (1 + (j : Int))], fun c o hc => ?_, ?_, ?_, fun y => ?_⟩
          · rw [upd_ne (ne_of_none hc hD2)]
            exact s3 _ _ hc
          · rw [upd_same, List.map_append]
            rfl
          · rw [List.length_append]
            simp
            omega
          · have ec : (1 : Int) + (j : Int) = ((j + 1 : Nat) : Int) := by omega
            rw [List.mem_append, hm, List.mem_singleton, ec]
            constructor
            · rintro (⟨a, h1, h2, h3⟩ | h3)
              · exact ⟨a, h1, by omega, h3⟩
              · exact ⟨j, hij, by omega, h3⟩
            · rintro ⟨a, h1, h2, h3⟩
              by_cases ha : a = j
              · subst ha
                exact .inr h3
              · exact .inl ⟨a, h1, by omega, h3⟩
        · have hij : ¬ i ≤ j := by
            intro h
            exact hc (decide_eq_true (by omega))
          refine ⟨ns, s3, hD3, by omega, fun y => ?_⟩
          rw [hm]
          constructor
          · rintro ⟨a, h1, h2, h3⟩
            exact ⟨a, h1, by omega, h3⟩
          · rintro ⟨a, h1, h2, h3⟩
            exact ⟨a, h1, by omega, h3⟩
      · rintro H3 ⟨ns, s3, hD3, hl, hm⟩
        have hm' : ∀ y, y ∈ ns ↔ InS b n (i + 1) y := fun y => by
          rw [hm]
          constructor
          · rintro ⟨a, h1, h2, h3⟩
            exact ⟨a + 1, by omega, by omega, h3⟩
          · rintro ⟨a, h1, h2, h3⟩
            exact ⟨a - 1, by omega, by omega, by rw [show a - 1 + 1 = a by omega]; exact h3⟩
        have hpos : 0 < ns.length := List.length_pos_of_mem ((hm' _).mpr (topOf_top (b := b) (show i + 1 ≤ n by omega)).1)
        refine ⟨D2, ns, rfl, SqL.of hD3, hpos, fun m h1 h2 => ?_⟩
        have em := top_of (show i + 1 ≤ n by omega) hm' h1 h2
        subst em
        refine ⟨by show 2 ≤ sizeLine; decide, fun t ht => ?_⟩
        have hD3' := s3 _ _ hDl
        have nDt : D ≠ t := ne_of_none hD3' ht
        refine ⟨xs, by rw [upd_ne nDt]; exact hD3', small1000 (by rw [hP.len, List.length_take]; omega), xs ++ [.ref t], fun c o hc => ?_, upd_same, ?_⟩
        · rw [upd_ne (ne_of_none hc hD)]
          exact same_new ht _ _ (s3 _ _ (s2 _ _ hc))
        · have et : (dueL b n).take (i + 1) = (dueL b n).take i ++ [((((i + 1 : Nat)) : Int), topOf b n (i + 1))] := by
            rw [List.take_add_one, dueL_get hi]
            rfl
          rw [et]
          refine PL.updL (ys := xs) (by rw [upd_ne nDt]; exact hD3') ((hP.same (s3.trans (same_new ht))).snoc ⟨t, rfl, ?_⟩)
          rw [upd_same]
          show some (HO.tup [V.int (1 + (i : Int)), V.int (topOf b n (i + 1))]) = some (.tup [.int ((i + 1 : Nat) : Int), .int (topOf b n (i + 1))])
          rw [show (1 : Int) + (i : Int) = ((i + 1 : Nat) : Int) by omega]
    · rintro H2 ⟨xs, s2, hDl, hP⟩
      rw [List.take_of_length_le (by rw [dueL_len]; exact Nat.le_refl _)] at hP
      exact k D H2 xs (s1.trans s2) (s1.free hD) hDl hP
def spFew : Sp := fun vs H Q _ => ∃ (n : Nat) (b : Bool), vs = [.int (n : Int), .bl b] ∧ n ≤ 60 ∧ ∀ (H' : Hp), Same H H' → Q (.int (fewV b n)) H'
abbrev nFew : List Str := ["many", "plain", "_", "number"]
theorem scFewest : FnScope nFew ["many", "plain"] (defScope sFewest) := ⟨rfl, rfl, rfl, by decide +kernel, rfl, by decide +kernel, by decide +kernel⟩
theorem mem_tops {b : Bool} {n : Nat} {y : Int} : y ∈ tops b n ↔ ∃ i, i < n ∧ y = topOf b n (i + 1) := by
  rw [tops_eq, List.mem_map]
  constructor
  · rintro ⟨i, hi, rfl⟩
    exact ⟨i, List.mem_range.mp hi, rfl⟩
  · rintro ⟨i, hi, rfl⟩
    exact ⟨i, List.mem_range.mpr hi, rfl⟩
theorem topOf_first {b : Bool} {n i : Nat} (h : i < n) : topOf b n (i + 1) ≤ topOf b n 1 := by
  obtain ⟨v, a1, a2, e⟩ := (topOf_top (b := b) (show i + 1 ≤ n by omega)).1
  exact (topOf_top (b := b) (show 1 ≤ n by omega)).2 _ ⟨v, by omega, a2, e⟩
theorem ok_fewest {f : Addr} {fd : FuncData} (F : Fun K "fewest_for" "fewest_for" sFewest f fd) (T : Txt K mg) (cL : CalK P w K mg base 2 "levels_for" spLevels) : FnOk P w K mg base CX0 3 f fd ["many", "plain"] spFew := by
  refine F.ok scFewest (fun vs H Q E h => ?_) (fun cdv A outer s H vs Q E hr h => ?_)
  · obtain ⟨n, b, rfl, _⟩ := h
    rfl
  · obtain ⟨n, b, rfl, hn, k⟩ := h
    have nd := scFewest.nd
    have hu65 : A.units + 3 + 65 < cLine := by
      have := hr.un
      have e : (A.deeper (envOfC "fewest_for" (defScope sFewest) s.heap.objs.size f cdv)).units = A.units + 3 := rfl
      omega
    refine ⟨_, pss_one (ps_ret (pe_callBK (id := "max") (ks := ["default"]) (r := rMaxDf K) (cr_maxDf rfl hu65) (by rfl) T.max (by decide +kernel) (pa_cons
      (pe_lc (own := [("_", 2), ("number", 3)]) (g := gTup K 2 (gCons (gName 2) (gCons (gName 3) gNil))) (tt := tYes) rfl nd (pi_list (pe_callN cL.G hr rfl cL.m cL.kp cL.kb pass0 (pa_cons (pv 0) pa_nil) (pk_cons (pv 1) pk_nil)))
        (blkOk_by (N := nFew) (sc := defScope sFewest) (by decide +kernel)) (fun _ _ _ _ _ => pg_tup (by rfl) (pgs_cons (pg_name (i := 2) nd rfl (by first | exact Or.inl rfl | exact Or.inr rfl)) (pgs_cons (pg_name (i := 3) nd rfl (by first | exact Or.inl rfl | exact Or.inr rfl)) pgs_nil)))
        (fun _ _ _ _ _ => pts_nil) (fun _ _ _ _ _ => pv 3)) pa_nil) (pk_cons pe_int pk_nil))), ?_⟩
    refine ⟨_, rfl, _, rfl, rfl, rfl, n, b, rfl, hn, fun p H1 xs s1 hp0 hp hP => ⟨p, rfl, ⟨_, SqL.of hp⟩, fun D hD => ?_⟩⟩
    refine lc_list (K := K) (a := p) (xs := xs) (fun i H' => Same H1 H' ∧ H' D = some (.lst (((tops b n).take i).map V.int))) ⟨same_new hD, upd_same⟩ (fun i H' _ h => SqL.of (h.1 _ _ hp)) ?_ ?_
    · rintro i x H2 hi ⟨s2, hDl⟩
      obtain ⟨r, er, t, rfl, ht⟩ := hP.get hi
      have hl : i < n := by
        have := (List.getElem?_eq_some_iff.mp hi).1
        rw [hP.len, dueL_len] at this
        exact this
      have et : (tops b n).take (i + 1) = (tops b n).take i ++ [r.2] := by
        rw [List.take_add_one]
        unfold tops
        rw [List.getElem?_map, er]
        rfl
      refine ⟨t, _, rfl, SqT.of (s2 _ _ ht), rfl, _, _, rfl, _, _, rfl, rfl, rfl, ?_⟩
      refine ⟨_, rfl, _, hDl, small1000 (by rw [List.length_map, List.length_take]; omega), fun c o hc => ?_, ?_⟩
      · rw [upd_ne (ne_of_none hc hD)]
        exact s2 _ _ hc
      · rw [upd_same, et, List.map_append]
        rfl
    · rintro H2 ⟨s2, hDl⟩
      have hlen : (tops b n).length = xs.length := by
        rw [hP.len]
        unfold tops
        rw [List.length_map]
      rw [← hlen, List.take_length] at hDl
      refine ⟨D, tops b n, .int 0, rfl, rfl, SqL.of hDl, fun e => ?_, fun m h1 h2 => ?_⟩
      · have kk := k H2 (s1.trans s2)
        unfold fewV at kk
        have : n = 0 := by
          have : (tops b n).length = 0 := by rw [e]; rfl
          rw [hlen, hP.len, dueL_len] at this
          exact this
        rw [if_pos this] at kk
        exact kk
      · have kk := k H2 (s1.trans s2)
        unfold fewV at kk
        obtain ⟨i, hi, e⟩ := mem_tops.mp h1
        rw [if_neg (by omega)] at kk
        have e1 : m = topOf b n 1 := by
          refine Int.le_antisymm ?_ (h2 _ (mem_tops.mpr ⟨0, by omega, rfl⟩))
          rw [e]
          exact topOf_first hi
        rw [e1]
        exact kk
/-- the levels 1 to n -/
def levN (n : Nat) : List Int := (List.range n).map fun (i : Nat) => ((i + 1 : Nat) : Int)
theorem levN_len (n : Nat) : (levN n).length = n := by
  unfold levN
  rw [List.length_map, List.length_range]
theorem levN_get {n i : Nat} (h : i < n) : (levN n)[i]? = some ((i + 1 : Nat) : Int) := by
  unfold levN
  rw [List.getElem?_map, List.getElem?_range h]
  rfl
theorem ahead_get {n i : Nat} (h : i ≤ n) : ((0 : Int) :: levN n)[i]? = some (i : Int) := by
  cases i with
  | zero => rfl
  | succ i =>
    rw [List.getElem?_cons_succ]
    exact levN_get h
def spSum : Sp := fun vs H Q _ => ∃ (a c : Addr) (n : Nat) (ts : List Int), vs = [.ref a, .ref c] ∧ n ≤ 60 ∧ H a = some (.lst ((levN n).map V.int)) ∧ H c = some (.lst (ts.map V.int)) ∧ ts.length = n ∧ ∀ (H' : Hp), Same H H' → Q (.int ts.sum) H'
abbrev nSum : List Str := ["levels", "many", "steps", "level", "ahead", "step", "times"]
theorem scSum : FnScope nSum ["levels", "many"] (defScope sSteps) := ⟨rfl, rfl, rfl, by decide +kernel, rfl, by decide +kernel, by decide +kernel⟩
theorem ok_sum {f : Addr} {fd : FuncData} (F : Fun K "sum_of_steps" "sum_of_steps" sSteps f fd) (T : Txt K mg) : FnOk P w K mg base CX0 1 f fd ["levels", "many"] spSum := by
  refine F.ok scSum (fun vs H Q E h => ?_) (fun cdv A outer s H vs Q E hr h => ?_)
  · obtain ⟨a, c, n, ts, rfl, _⟩ := h
    rfl
  · obtain ⟨a, c, n, ts, rfl, hn, ha, hc, hl, k⟩ := h
    have nd := scSum.nd
    refine ⟨_, pss_cons (ps_setLc (i := 2) (own := [("level", 3), ("ahead", 4)]) (g := gTup K 2 (gCons (gName 3) (gCons (gName 4) gNil))) (tt := tYes) rfl nd rfl (by rfl) (sw_true rfl (by rfl) rfl (by decide)) (RZ.pi_zipA (by rfl) T.zip (pa_cons (pv 0) (pa_cons (pe_lst (pa_cons pe_int (StX.pa_star (pv 0) pa_nil))) pa_nil)))
        (blkOk_by (N := nSum) (sc := defScope sSteps) (by decide +kernel)) (fun _ _ _ _ _ => pg_tup (by rfl) (pgs_cons (pg_name (i := 3) nd rfl (by first | exact Or.inl rfl | exact Or.inr rfl)) (pgs_cons (pg_name (i := 4) nd rfl (by first | exact Or.inl rfl | exact Or.inr rfl)) pgs_nil)))
        (fun _ _ _ _ _ => pts_nil) (fun _ _ _ _ _ => pe_op op_sub (pv 3) (pv 4)))
      (pss_one (ps_ret (pe_callB (cr_sum rfl) (by rfl) T.sum (by decide +kernel) (pa_cons (pe_lc (own := [("step", 5), ("times", 6)]) (g := gTup K 2 (gCons (gName 5) (gCons (gName 6) gNil))) (tt := tYes) rfl nd (RZ.pi_zipA (by rfl) T.zip (pa_cons (pv 2) (pa_cons (pv 1) pa_nil)))
        (blkOk_by (N := nSum) (sc := defScope sSteps) (by decide +kernel)) (fun _ _ _ _ _ => pg_tup (by rfl) (pgs_cons (pg_name (i := 5) nd rfl (by first | exact Or.inl rfl | exact Or.inr rfl)) (pgs_cons (pg_name (i := 6) nd rfl (by first | exact Or.inl rfl | exact Or.inr rfl)) pgs_nil)))
        (fun _ _ _ _ _ => pts_nil) (fun _ _ _ _ _ => pe_op op_mul (pv 5) (pv 6))) pa_nil)))), ?_⟩
    refine ⟨_, rfl, _, rfl, a, _, rfl, .inr (SqL.of ha), ?_, fun d hd => ?_⟩
    · show (V.int 0 :: ((levN n).map V.int ++ [])).length ≤ sizeLine
      rw [sizeLine_eq]
      simp [levN_len]
      omega
    have e1 : (V.int 0 :: ((levN n).map V.int ++ [])) = ((0 : Int) :: levN n).map V.int := by rw [List.append_nil]; rfl
    show (fun (Hx : Hp) => _) (upd H d (.lst (V.int 0 :: ((levN n).map V.int ++ []))))
    rw [e1]
    have s1 : Same H _ := same_new (o := .lst (((0 : Int) :: levN n).map V.int)) hd
    have hd1 : (upd H d (.lst (((0 : Int) :: levN n).map V.int))) d = some (.lst (((0 : Int) :: levN n).map V.int)) := upd_same
    generalize upd H d (.lst (((0 : Int) :: levN n).map V.int)) = H1 at s1 hd1 ⊢
    refine ⟨a, d, _, _, rfl, .inl ⟨SqL.of (s1 _ _ ha), SqL.of hd1, fun D hD => ?_⟩⟩
    refine lc_it (walk_zip (n := n) (xs := (levN n).map V.int) (ys := ((0 : Int) :: levN n).map V.int) (by rw [List.length_map, List.length_map, List.length_cons, levN_len]; omega))
      (fun i H' => Same H1 H' ∧ H' D = some (.lst ((List.replicate i (1 : Int)).map V.int))) ⟨same_new hD, upd_same⟩ (fun i H' _ h => ⟨SqL.of (h.1 _ _ (s1 _ _ ha)), SqL.of (h.1 _ _ hd1)⟩) ?_ ?_
    · rintro i x H2 H3 hi ⟨s2, hDl⟩ ⟨t, u, v, rfl, ht, rfl, hx, hy⟩
      replace hx : ((levN n).map V.int)[i]? = some u := hx
      replace hy : (((0 : Int) :: levN n).map V.int)[i]? = some v := hy
      rw [List.getElem?_map, levN_get hi] at hx
      rw [List.getElem?_map, ahead_get (by omega)] at hy
      obtain rfl := Option.some.inj hx
      obtain rfl := Option.some.inj hy
      have nDt : D ≠ t := ne_of_none hDl ht
      refine ⟨t, _, rfl, SqT.of upd_same, rfl, _, _, rfl, _, _, rfl, rfl, rfl, ?_⟩
      refine ⟨_, rfl, _, rfl, _, _, rfl, rfl, _, by rw [upd_ne nDt]; exact hDl, small1000 (by simp; omega), fun c o hc => ?_, ?_⟩
      · rw [upd_ne (ne_of_none hc hD)]
        exact same_new ht _ _ (s2 _ _ hc)
      · rw [upd_same, List.replicate_succ', List.map_append]
        show some (HO.lst (_ ++ [V.int (((i + 1 : Nat) : Int) - (i : Int))])) = some (.lst (_ ++ [V.int 1]))
        rw [show (((i + 1 : Nat) : Int) - (i : Int)) = 1 by omega]
    · rintro H2 ⟨s2, hDl⟩
      have s12 := s1.trans s2
      refine ⟨_, rfl, _, rfl, D, c, _, _, rfl, .inl ⟨SqL.of hDl, SqL.of (s12 _ _ hc), fun D2 hD2 => ?_⟩⟩
      refine lc_it (walk_zip (n := n) (xs := (List.replicate n (1 : Int)).map V.int) (ys := ts.map V.int) (by rw [List.length_map, List.length_map, List.length_replicate, hl]; omega))
        (fun i H' => Same H2 H' ∧ H' D2 = some (.lst ((ts.take i).map V.int))) ⟨same_new hD2, upd_same⟩ (fun i H' _ h => ⟨SqL.of (h.1 _ _ hDl), SqL.of (h.1 _ _ (s12 _ _ hc))⟩) ?_ ?_
      · rintro i x H3 H4 hi ⟨s3, hDl3⟩ ⟨t, u, v, rfl, ht, rfl, hx, hy⟩
        replace hx : ((List.replicate n (1 : Int)).map V.int)[i]? = some u := hx
        replace hy : (ts.map V.int)[i]? = some v := hy
        rw [List.getElem?_map, List.getElem?_replicate, if_pos hi] at hx
        rw [List.getElem?_map] at hy
        obtain ⟨z, hz, rfl⟩ := Option.map_eq_some_iff.mp hy
        obtain rfl := Option.some.inj hx
        have nDt : D2 ≠ t := ne_of_none hDl3 ht
        refine ⟨t, _, rfl, SqT.of upd_same, rfl, _, _, rfl, _, _, rfl, rfl, rfl, ?_⟩
        refine ⟨_, rfl, _, rfl, _, _, rfl, rfl, .inl ⟨by decide, by decide⟩, _, by rw [upd_ne nDt]; exact hDl3, small1000 (by rw [List.length_map, List.length_take]; omega), fun c o hc => ?_, ?_⟩
        · rw [upd_ne (ne_of_none hc hD2)]
          exact same_new ht _ _ (s3 _ _ hc)
        · rw [upd_same, List.take_add_one, hz, List.map_append]
          show some (HO.lst (_ ++ [V.int (1 * z)])) = some (.lst (_ ++ [V.int z]))
          rw [Int.one_mul]
      · rintro H3 ⟨s3, hDl3⟩
        rw [List.take_of_length_le (by omega)] at hDl3
        exact ⟨D2, ts, rfl, SqL.of hDl3, k H3 (s12.trans s3)⟩
def spWid : Sp := fun vs H Q _ => ∃ (n : Nat) (b : Bool), vs = [.int (n : Int), .bl b] ∧ n ≤ 60 ∧ ∀ (H' : Hp), Same H H' → Q (.int (widV b n)) H'
abbrev nWid : List Str := ["many", "plain", "rows", "level", "_", "number"]
theorem scWidth : FnScope nWid ["many", "plain"] (defScope sWidth) := ⟨rfl, rfl, rfl, by decide +kernel, rfl, by decide +kernel, by decide +kernel⟩
theorem ok_width {f : Addr} {fd : FuncData} (F : Fun K "width_for" "width_for" sWidth f fd) (T : Txt K mg) (cL : CalK P w K mg base 2 "levels_for" spLevels) (cS : Cal P w K mg base 1 "sum_of_steps" ["levels", "many"] spSum) : FnOk P w K mg base CX0 3 f fd ["many", "plain"] spWid := by
  refine F.ok scWidth (fun vs H Q E h => ?_) (fun cdv A outer s H vs Q E hr h => ?_)
  · obtain ⟨n, b, rfl, _⟩ := h
    rfl
  · obtain ⟨n, b, rfl, hn, k⟩ := h
    have nd := scWidth.nd
    have hr1 : Room 1 _ := hr.mono (by decide)
    refine ⟨_, pss_cons (ps_set (i := 2) nd rfl (Or.inl rfl) (pe_callN cL.G hr rfl cL.m cL.kp cL.kb pass0 (pa_cons (pv 0) pa_nil) (pk_cons (pv 1) pk_nil)))
      (pss_one (ps_ret (pe_call cS.G hr1 rfl cS.m cS.kp cS.b .nil pass0 (pa_cons
        (pe_lc (own := [("level", 3), ("_", 4)]) (g := gTup K 2 (gCons (gName 3) (gCons (gName 4) gNil))) (tt := tYes) rfl nd (pi_list (pv 2))
          (blkOk_by (N := nWid) (sc := defScope sWidth) (by decide +kernel)) (fun _ _ _ _ _ => pg_tup (by rfl) (pgs_cons (pg_name (i := 3) nd rfl (by first | exact Or.inl rfl | exact Or.inr rfl)) (pgs_cons (pg_name (i := 4) nd rfl (by first | exact Or.inl rfl | exact Or.inr rfl)) pgs_nil)))
          (fun _ _ _ _ _ => pts_nil) (fun _ _ _ _ _ => pv 3)) (pa_cons
        (pe_lc (own := [("_", 4), ("number", 5)]) (g := gTup K 2 (gCons (gName 4) (gCons (gName 5) gNil))) (tt := tYes) rfl nd (pi_list (pv 2))
          (blkOk_by (N := nWid) (sc := defScope sWidth) (by decide +kernel)) (fun _ _ _ _ _ => pg_tup (by rfl) (pgs_cons (pg_name (i := 4) nd rfl (by first | exact Or.inl rfl | exact Or.inr rfl)) (pgs_cons (pg_name (i := 5) nd rfl (by first | exact Or.inl rfl | exact Or.inr rfl)) pgs_nil)))
          (fun _ _ _ _ _ => pts_nil) (fun _ _ _ _ _ => pv 5)) pa_nil))))), ?_⟩
    refine ⟨_, rfl, _, rfl, rfl, rfl, n, b, rfl, hn, fun p H1 xs s1 hp0 hp hP => ?_⟩
    refine ⟨_, rfl, p, rfl, ⟨_, SqL.of hp⟩, fun D hD => ?_⟩
    have lt : ∀ {i : Nat} {x : V}, xs[i]? = some x → i < n := fun {i x} hi => by
      have := (List.getElem?_eq_some_iff.mp hi).1
      rw [hP.len, dueL_len] at this
      exact this
    have hxl : xs.length = n := by rw [hP.len, dueL_len]
    refine lc_list (K := K) (a := p) (xs := xs) (fun i H' => Same H1 H' ∧ H' D = some (.lst (((levN n).take i).map V.int))) ⟨same_new hD, upd_same⟩ (fun i H' _ h => SqL.of (h.1 _ _ hp)) ?_ ?_
    · rintro i x H2 hi ⟨s2, hDl⟩
      have hl := lt hi
      obtain ⟨r, er, t, rfl, ht⟩ := hP.get hi
      rw [dueL_get hl] at er
      obtain rfl := Option.some.inj er
      refine ⟨t, _, rfl, SqT.of (s2 _ _ ht), rfl, _, _, rfl, _, _, rfl, rfl, rfl, ?_⟩
      refine ⟨_, rfl, _, hDl, small1000 (by rw [List.length_map, List.length_take]; omega), fun c o hc => ?_, ?_⟩
      · rw [upd_ne (ne_of_none hc hD)]
        exact s2 _ _ hc
      · rw [upd_same, List.take_add_one, levN_get hl, List.map_append]
        rfl
    · rintro H2 ⟨s2, hDl⟩
      rw [hxl, List.take_of_length_le (by rw [levN_len]; exact Nat.le_refl _)] at hDl
      have hp2 := s2 _ _ hp
      refine ⟨_, rfl, p, rfl, ⟨_, SqL.of hp2⟩, fun D2 hD2 => ?_⟩
      refine lc_list (K := K) (a := p) (xs := xs) (fun i H' => Same H2 H' ∧ H' D2 = some (.lst (((tops b n).take i).map V.int))) ⟨same_new hD2, upd_same⟩ (fun i H' _ h => SqL.of (h.1 _ _ hp2)) ?_ ?_
      · rintro i x H3 hi ⟨s3, hDl3⟩
        have hl := lt hi
        obtain ⟨r, er, t, rfl, ht⟩ := hP.get hi
        have et : (tops b n).take (i + 1) = (tops b n).take i ++ [r.2] := by
          rw [List.take_add_one]
          unfold tops
          rw [List.getElem?_map, er]
          rfl
        refine ⟨t, _, rfl, SqT.of (s3 _ _ (s2 _ _ ht)), rfl, _, _, rfl, _, _, rfl, rfl, rfl, ?_⟩
        refine ⟨_, rfl, _, hDl3, small1000 (by rw [List.length_map, List.length_take]; omega), fun c o hc => ?_, ?_⟩
        · rw [upd_ne (ne_of_none hc hD2)]
          exact s3 _ _ hc
        · rw [upd_same, et, List.map_append]
          rfl
      · rintro H3 ⟨s3, hDl3⟩
        have hlen : (tops b n).length = n := by
          unfold tops
          rw [List.length_map, dueL_len]
        rw [hxl, List.take_of_length_le (by rw [hlen]; exact Nat.le_refl _)] at hDl3
        exact ⟨D, D2, n, tops b n, rfl, hn, s3 _ _ hDl, hDl3, hlen, fun H4 s4 => k H4 (s1.trans (s2.trans (s3.trans s4)))⟩
theorem scBag : FnScope ["_law_script", "_law_cell"] ["_law_script"] (defScope sBag) := ⟨rfl, rfl, rfl, by decide +kernel, rfl, by decide +kernel, by decide +kernel⟩
theorem ok_bag {f : Addr} {fd : FuncData} (F : Fun K "_law_bag" "_law_bag" sBag f fd) (T : Txt K mg) : FnOk P w K mg base CX0 1 f fd ["_law_script"] (spBag K) := by
  refine F.ok scBag (fun vs H Q E h => ?_) (fun cdv A outer s H vs Q E hr h => ?_)
  · obtain ⟨a, ns, rfl, _⟩ := h
    rfl
  · obtain ⟨a, ns, rfl, hS, hz, k⟩ := h
    have nd := scBag.nd
    refine ⟨_, pss_one (ps_ret (pe_lst (pa_cons pe_int (pa_cons pe_int (pa_cons pe_int (pa_cons (pe_lc (own := [("_law_cell", 1)]) (g := gName 1) (tt := tYes) rfl nd
      (pi_list (pe_slice sl_list (pv 0) po_none (po_some pe_int))) (blkOk_by (N := ["_law_script", "_law_cell"]) (sc := defScope sBag) (by decide +kernel)) (fun _ _ _ _ _ => pg_name (i := 1) nd rfl (Or.inl rfl)) (fun _ _ _ _ _ => pts_nil)
      (fun _ _ _ _ _ => pe_callB call_abs (by rfl) T.abs (by decide +kernel) (pa_cons (pv 1) pa_nil))) pa_nil)))))), ?_⟩
    refine ⟨_, rfl, _, rfl, a, _, rfl, hS, fun p hp => ⟨p, rfl, ⟨_, SqL.of upd_same⟩, fun D hD => ?_⟩⟩
    have e0 : cutV (ns.map V.int) none (some 63) = (ns.take 63).map V.int := (cut_to 63 _).trans List.map_take.symm
    have npD : p ≠ D := ne_of_none upd_same hD
    have s0 : Same H (upd H p (.lst (cutV (ns.map V.int) none (some 63)))) := same_new hp
    have nD : H D = none := s0.free hD
    refine lc_list (K := K) (a := p) (xs := (ns.take 63).map V.int) (fun i H' => Same H H' ∧ H' p = some (.lst ((ns.take 63).map V.int)) ∧ ∃ ms : List Int, H' D = some (.lst (ms.map V.int)) ∧ ms.length ≤ i ∧ ∀ n ∈ ms, 0 ≤ n)
      ⟨s0.trans (same_new hD), by rw [upd_ne npD, upd_same, e0], [], upd_same, Nat.le_refl _, by simp⟩ (fun i H' _ h => SqL.of h.2.1) ?_ ?_
    · rintro i x H' hi ⟨s1, h1, ms, h2, hl, hm⟩
      rw [List.getElem?_map] at hi
      cases e : (ns.take 63)[i]? with
      | none => rw [e] at hi; cases hi
      | some z =>
        rw [e] at hi
        obtain rfl : V.int z = x := Option.some.inj hi
        have hlt : i < 63 := by
          have := (List.getElem?_eq_some_iff.mp e).1
          rw [List.length_take] at this
          omega
        refine ⟨rfl, Exists.intro _ ⟨rfl, z, rfl, _, h2, by rw [List.length_map, sizeLine_eq]; omega, fun b o q => ?_, ?_, ms ++ [if z < 0 then -z else z], by rw [upd_same]; simp, by simp; omega, ?_⟩⟩
        · have : b ≠ D := ne_of_none q nD
          rw [upd_ne this]
          exact s1 _ _ q
        · rw [upd_ne npD]
          exact h1
        · intro n hn
          rcases List.mem_append.mp hn with hn | hn
          · exact hm n hn
          · obtain rfl := List.mem_singleton.mp hn
            split <;> omega
    · rintro H' ⟨s1, h1, ms, h2, hl, hm⟩
      refine ⟨by show 4 ≤ sizeLine; decide, fun q hq => ?_⟩
      have nDq : D ≠ q := ne_of_none h2 hq
      exact k q D _ (s1.free hq) ⟨0, 1234567891, 0, ms, upd_same, by rw [upd_ne nDq]; exact h2, nDq, by decide, by decide, by decide, hm⟩ (s1.trans (same_new hq))
theorem scTake : FnScope ["_law_bag_here", "_law_upto", "_law_cell", "_law_mixed", "_law_drawn", "_law_begin", "_law_second"] ["_law_bag_here", "_law_upto"] (defScope sTake) := ⟨rfl, rfl, rfl, by decide +kernel, rfl, by decide +kernel, by decide +kernel⟩
theorem ok_take {f : Addr} {fd : FuncData} (F : Fun K "_law_take" "_law_take" sTake f fd) (T : Txt K mg) : FnOk P w K mg base CX0 1 f fd ["_law_bag_here", "_law_upto"] spTake := by
  refine F.ok scTake (fun vs H Q E h => ?_) (fun cdv A outer s H vs Q E hr h => ?_)
  · obtain ⟨b, l, n, rfl, _⟩ := h
    rfl
  · obtain ⟨b, l, n, rfl, B, n0, n1, k⟩ := h
    have nd := scTake.nd
    obtain ⟨h, m, p, ns, hb, hl, nlb, h0, m0, m1, hns⟩ := id B
    refine ⟨_, Evl.pss_cut (ps_if (pt_cmpR op_eq (pe_ix ix_list (pv 0) pe_int fun _ _ => rfl) pe_int (nomark _))
        (pss_cons (ps_set (i := 2) nd rfl (Or.inl rfl) pe_int)
        (Evl.pss_cut (ps_if (pt_cmpR op_lt (pe_ix ix_list (pv 0) pe_int fun _ _ => rfl) (pe_callB call_len_seq (by rfl) T.len PySem.boot_len (pa_cons (pe_ix ix_list (pv 0) pe_int fun _ _ => rfl) pa_nil)) (nomark _))
          (pss_one (ps_set (i := 2) nd rfl (Or.inl rfl) (pe_ix ix_list (pe_ix ix_list (pv 0) pe_int fun _ _ => rfl) (pe_ix ix_list (pv 0) pe_int fun _ _ => rfl) fun _ _ => rfl))) pss_nil)
        (pss_cons (ps_augS (pv 0) pe_int get_list pe_int ip_add set_list)
        (Evl.pss_cut (ps_if (pt_cmpR op_ge (pv 2) pe_int (nomark _)) (pss_one (ps_asg (pv 2) (pg_sub (pv 0) pe_int set_list))) pss_nil)
        (pss_cons (ps_set (i := 3) nd rfl (Or.inl rfl) (pe_op op_add (pe_op op_add (pe_op op_mul (pe_ix ix_list (pv 0) pe_int fun _ _ => rfl) pe_int)
            (pe_op op_mod (pe_callTy call_int1 (by rfl) T.int (by decide +kernel) (pa_cons (pv 2) pa_nil)) pe_int)) (pe_op op_mul pe_int (pe_ix ix_list (pv 0) pe_int fun _ _ => rfl))))
        (pss_one (ps_asg (pe_op op_mod (pe_callTy call_int1 (by rfl) T.int (by decide +kernel) (pa_cons (pv 3) pa_nil)) pe_int) (pg_sub (pv 0) pe_int set_list)))))))) pss_nil)
      (Evl.pss_cut (ps_if (pt_cmpR op_gt (pe_ix ix_list (pv 0) pe_int fun _ _ => rfl) pe_int (nomark _))
        (pss_cons (ps_set (i := 4) nd rfl (Or.inl rfl) (pe_op op_mod (pe_callTy call_int1 (by rfl) T.int (by decide +kernel) (pa_cons (pe_ix ix_list (pv 0) pe_int fun _ _ => rfl) pa_nil)) (pv 1)))
        (pss_cons (ps_asg (pe_op op_fdivN (pe_callTy call_int1 (by rfl) T.int (by decide +kernel) (pa_cons (pe_ix ix_list (pv 0) pe_int fun _ _ => rfl) pa_nil)) (pv 1)) (pg_sub (pv 0) pe_int set_list))
        (pss_one (ps_ret (pv 4))))) pss_nil)
      (pss_cons (ps_set (i := 5) nd rfl (Or.inl rfl) (pe_op op_mod (pe_callTy call_int1 (by rfl) T.int (by decide +kernel) (pa_cons (pe_op op_mul (pe_op op_add (pe_ix ix_list (pv 0) pe_int fun _ _ => rfl) pe_int) pe_int) pa_nil)) pe_int))
      (pss_cons (ps_set (i := 6) nd rfl (Or.inl rfl) (pe_op op_mod (pe_callTy call_int1 (by rfl) T.int (by decide +kernel) (pa_cons (pe_op op_mul (pe_op op_mod (pe_callTy call_int1 (by rfl) T.int (by decide +kernel) (pa_cons (pe_op op_mul (pv 5) (pv 5)) pa_nil)) pe_int) pe_int) pa_nil)) pe_int))
      (pss_one (ps_ret (pe_op op_mod (pe_callTy call_int1 (by rfl) T.int (by decide +kernel) (pa_cons (pe_op op_fdiv (pv 6) pe_int) pa_nil)) (pv 1)))))))
      , ?_⟩
    refine ⟨fun σ' H' => ∃ c2 c3, σ' = [some (.ref b), some (.int n), c2, c3, none, none, none] ∧ Bag H' b l ∧ Kp b H H', ?_, ?_⟩
    · refine ⟨_, rfl, b, _, _, _, rfl, rfl, SqL.of hb, rfl, rfl, _, rfl, ?_⟩
      refine ite2 (fun _ => ?_) (fun _ => ⟨_, _, rfl, B, Kp.refl _ _⟩)
      refine ⟨fun σ' H' => ∃ c : Int, 0 ≤ c ∧ σ' = [some (.ref b), some (.int n), some (.int c), none, none, none, none] ∧ H' = H, ?_, ?_⟩
      · refine ⟨_, rfl, b, _, _, _, rfl, rfl, SqL.of hb, rfl, _, rfl, b, _, _, _, rfl, rfl, SqL.of hb, rfl, _, _, rfl, .inl (SqL.of hl), _, _, rfl, rfl, _, rfl, ?_⟩
        refine ite2 (fun hc => ?_) (fun _ => ⟨0, Int.le_refl 0, rfl, rfl⟩)
        have hp : p < ns.length := by
          have := of_decide_eq_true hc
          rw [List.length_map] at this
          omega
        refine ⟨_, rfl, b, _, _, _, rfl, rfl, SqL.of hb, rfl, _, rfl, b, _, _, _, rfl, rfl, SqL.of hb, rfl, l, _, _, .int ns[p], rfl, rfl, SqL.of hl, atI_nat (by rw [List.getElem?_map, List.getElem?_eq_getElem hp]; rfl), ?_⟩
        exact ⟨ns[p], hns _ (List.getElem_mem hp), rfl, rfl⟩
      · rintro σ' H' ⟨c, hc, rfl, rfl⟩
        refine ⟨_, rfl, b, _, 2, _, rfl, rfl, SqL.of hb, rfl, _, _, rfl, rfl, b, _, _, 2, rfl, rfl, hb, rfl, ?_⟩
        have hl1 : (upd H' b (HO.lst [.int h, .int m, .int ((p + 1 : Nat) : Int), .ref l])) l = some (HO.lst (ns.map V.int)) := by rw [upd_ne nlb]; exact hl
        refine ⟨fun σ' H2 => ∃ h' : Int, 0 ≤ h' ∧ σ' = [some (.ref b), some (.int n), some (.int c), none, none, none, none] ∧ H2 b = some (.lst [.int h', .int m, .int ((p + 1 : Nat) : Int), .ref l]) ∧ Kp b H' H2, ?_, ?_⟩
        · refine ⟨_, rfl, _, _, rfl, rfl, _, rfl, ?_⟩
          refine ite2 (fun _ => ?_) (fun _ => ⟨h, h0, rfl, upd_same, Kp.at_ _ _ _⟩)
          refine ⟨_, rfl, _, rfl, b, _, 0, 0, rfl, rfl, upd_same, rfl, ?_⟩
          exact ⟨c, hc, rfl, upd_same, (Kp.at_ _ _ _).trans (Kp.at_ _ _ _)⟩
        · rintro σ' H2 ⟨h', h0', rfl, hb2, k2⟩
          have hl2 : H2 l = some (.lst (ns.map V.int)) := k2 _ _ hl nlb
          refine ⟨_, rfl, b, _, 1, _, rfl, rfl, SqL.of hb2, rfl, _, _, rfl, rfl, .inl ⟨by omega, by omega⟩, _, rfl, .inl ⟨_, rfl, _, _, rfl, rfl, (by show (0 : Int) < 2147483647; decide), _, _, rfl, rfl,
            _, rfl, b, _, 2, _, rfl, rfl, SqL.of hb2, rfl, _, _, rfl, rfl, .inl ⟨by decide, by decide⟩, _, _, rfl, rfl, _, rfl, .inl ⟨_, rfl, _, _, rfl, rfl, (by show (0 : Int) < 2147483647; decide), _, rfl, b, _, 1, 1, rfl, rfl, hb2, rfl, ?_⟩⟩⟩
          exact ⟨_, _, rfl, ⟨h', _, p + 1, ns, upd_same, (by rw [upd_ne nlb]; exact hl2), nlb, h0', Int.emod_nonneg _ (by decide), Int.emod_lt_of_pos _ (by decide), hns⟩, k2.trans (Kp.at_ _ _ _)⟩
    · rintro σ1 H1 ⟨c2, c3, rfl, B1, k1⟩
      clear hb hl hns h0 m0 m1
      obtain ⟨h, m, p, ns, hb, hl, nlb, h0, m0, m1, hns⟩ := id B1
      refine ⟨fun σ' H' => σ' = [some (.ref b), some (.int n), c2, c3, none, none, none] ∧ H' = H1, ?_, ?_⟩
      · refine ⟨_, rfl, b, _, 0, _, rfl, rfl, SqL.of hb, rfl, _, _, rfl, rfl, _, rfl, ?_⟩
        refine ite2 (fun _ => ?_) (fun _ => ⟨rfl, rfl⟩)
        obtain ⟨j, ej, hj⟩ := take_mod (k := h) n0
        refine ⟨_, rfl, b, _, 0, _, rfl, rfl, SqL.of hb, rfl, .inl ⟨_, rfl, _, rfl, _, _, rfl, rfl, n0, _, rfl, b, _, 0, _, rfl, rfl, SqL.of hb, rfl, .inl ⟨_, rfl, _, rfl, _, _, rfl, rfl, ⟨by omega, by omega⟩, _, rfl, b, _, 0, 0, rfl, rfl, hb, rfl, _, rfl, ?_⟩⟩⟩
        show Q (.int (h % n)) _
        rw [ej]
        refine k j _ hj ⟨_, m, p, ns, upd_same, (by rw [upd_ne nlb]; exact hl), nlb, ?_, m0, m1, hns⟩ (k1.trans (Kp.at_ _ _ _))
        show 0 ≤ h.fdiv n
        rw [Int.fdiv_eq_ediv_of_nonneg h (by omega)]
        exact Int.ediv_nonneg h0 (by omega)
      · rintro σ' H' ⟨rfl, rfl⟩
        have q1 : ∀ x : Int, 0 ≤ x % 1000000007 ∧ x % 1000000007 < 1000000007 := fun x => ⟨Int.emod_nonneg _ (by decide), Int.emod_lt_of_pos _ (by decide)⟩
        have q2 : ∀ x : Int, 0 ≤ x % 998244353 ∧ x % 998244353 < 998244353 := fun x => ⟨Int.emod_nonneg _ (by decide), Int.emod_lt_of_pos _ (by decide)⟩
        obtain ⟨u, eu⟩ : ∃ u, u = ((m + 1) * 39373) % 1000000007 := ⟨_, rfl⟩
        have hu := q1 ((m + 1) * 39373)
        rw [← eu] at hu
        obtain ⟨j, ej, hj⟩ := take_mod (k := (u * u % 998244353 * 30011 % 998244353) / 7) n0
        have hv := q2 (u * u)
        refine ⟨_, rfl, b, _, 1, _, rfl, rfl, SqL.of hb, rfl, _, _, rfl, rfl, _, _, rfl, rfl, .inl ⟨by omega, by omega⟩, .inl ⟨_, rfl, _, _, rfl, rfl, (by show (0 : Int) < 1000000007; decide), ?_⟩⟩
        show tSeq _ _ _ [some (.ref b), some (.int n), c2, c3, none, some (.int (((m + 1) * 39373) % 1000000007)), none] _
        rw [← eu]
        refine ⟨_, rfl, _, rfl, _, _, rfl, rfl, .inl ⟨by omega, by omega⟩, .inl ⟨_, rfl, _, _, rfl, rfl, (by show (0 : Int) < 998244353; decide), _, _, rfl, rfl, .inl ⟨by omega, by omega⟩, .inl ⟨_, rfl, _, _, rfl, rfl, (by show (0 : Int) < 998244353; decide), _, rfl, _, _, rfl, rfl, ⟨by decide, by decide⟩, .inl ⟨_, rfl, _, rfl, _, _, rfl, rfl, n0, ?_⟩⟩⟩⟩
        show Q (.int ((u * u % 998244353 * 30011 % 998244353) / 7 % n)) _
        rw [ej]
        exact k j _ hj B1 k1
theorem scAlike : FnScope ["_law_found", "_law_due_here"] ["_law_found", "_law_due_here"] (defScope sAlike) := ⟨rfl, rfl, rfl, by decide +kernel, rfl, by decide +kernel, by decide +kernel⟩
theorem ok_alike {f : Addr} {fd : FuncData} (F : Fun K "_law_alike" "_law_alike" sAlike f fd) (T : Txt K mg) : FnG P w K mg base 1 f fd ["_law_found", "_law_due_here"] (spAlikeD K) := by
  refine okG F scAlike (fun vs H Q E h => ?_) (fun cdv A outer s H vs Q E hr hg h => ?_)
  · obtain ⟨x, y, d, rfl, _⟩ := h
    rfl
  · obtain ⟨x, y, d, rfl, h1, h2, hd, k⟩ := h
    have lay := fine_lay d hd.f
    have hdp : d.depth ≤ 60 := Nat.le_trans hd.dp (by decide)
    refine ⟨_, pss_one (ps_ret (pe_and (pe_cmpR (op_eqD hr.units) (pv 0) (pv 1) (nomark _)) (pe_one (pe_cmpR op_eq (pe_callB (call_reprD hg hr.units) (by rfl) T.repr (by decide +kernel) (pa_cons (pv 0) pa_nil))
      (pe_callB (call_reprD hg hr.units) (by rfl) T.repr (by decide +kernel) (pa_cons (pv 1) pa_nil)) (nomark _))))), ?_⟩
    refine ⟨_, rfl, _, rfl, d, d, h1, h2, hd.shaped, hd.shaped, _, rfl, ?_⟩
    rw [SeqAt.eqv_refl d lay.1]
    refine iteT ?_
    refine ⟨_, rfl, x, d, rfl, h1, lay.2.1, lay.2.2, hd.len, hdp, _, rfl, y, d, rfl, h2, lay.2.1, lay.2.2, hd.len, hdp, rfl, ?_⟩
    show Q (.bl (decide (V.str d.shown = V.str d.shown))) H
    rw [decide_eq_true rfl]
    exact k
def spSizes : Sp := fun vs H Q _ => ∃ (n : Nat), vs = [.int (n : Int)] ∧ n ≤ 60 ∧ ∀ (p : Addr) (H' : Hp), Same H H' → H' p = some (.lst ((rowN n).map V.int)) → Q (.ref p) H'
abbrev nSizes : List Str := ["_law_many", "_law_row", "_law_k", "_law_j"]
theorem scSizes : FnScope nSizes ["_law_many"] (defScope sSizes) := ⟨rfl, rfl, rfl, by decide +kernel, rfl, by decide +kernel, by decide +kernel⟩
theorem zip_get {r : List Int} {j : Nat} (h : j + 1 < r.length) : (List.zipWith (· + ·) r r.tail)[j]? = some (r[j]'(by omega) + r[j + 1]) := by
  rw [List.getElem?_zipWith, List.getElem?_eq_getElem (show j < r.length by omega), List.getElem?_tail, List.getElem?_eq_getElem h]
theorem ok_sizes {f : Addr} {fd : FuncData} (F : Fun K "_law_sizes" "_law_sizes" sSizes f fd) (T : Txt K mg) : FnOk P w K mg base CX0 1 f fd ["_law_many"] spSizes := by
  refine F.ok scSizes (fun vs H Q E h => ?_) (fun cdv A outer s H vs Q E hr h => ?_)
  · obtain ⟨n, rfl, _⟩ := h
    rfl
  · obtain ⟨n, rfl, hn, k⟩ := h
    have nd := scSizes.nd
    refine ⟨_, pss_cons (ps_set (i := 1) nd rfl (Or.inr rfl) (pe_lst (pa_cons pe_int pa_nil)))
      (pss_cons (ps_for PassesOwn.never rfl (pi_range1 (by rfl) T.range (pa_cons (pv 0) pa_nil)) (pg_name (i := 2) nd rfl (Or.inl rfl))
        (pss_one (ps_set (i := 1) nd rfl (Or.inr rfl) (pe_op op_cat (pe_op op_cat (pe_lst (pa_cons pe_int pa_nil))
          (pe_lc (own := [("_law_j", 3)]) (g := gName 3) (tt := tYes) rfl nd (pi_range1 (by rfl) T.range (pa_cons (pe_op op_sub (pe_callB call_len_seq (by rfl) T.len PySem.boot_len (pa_cons (pv 1) pa_nil)) pe_int) pa_nil))
            (blkOk_by (N := nSizes) (sc := defScope sSizes) (by decide +kernel)) (fun _ _ _ _ _ => pg_name (i := 3) nd rfl (by first | exact Or.inl rfl | exact Or.inr rfl)) (fun _ _ _ _ _ => pts_nil)
            (fun _ _ _ _ _ => pe_op op_add (pe_ix (r := rIxL K) ix_list (pv 1) (pv 3) fun _ _ => rfl) (pe_ix (r := rIxL K) ix_list (pv 1) (pe_op op_add (pv 3) pe_int) fun _ _ => rfl)))) (pe_lst (pa_cons pe_int pa_nil))))))
      (pss_one (ps_ret (pv 1)))), ?_⟩
    refine ⟨by decide, fun p hp => ?_⟩
    refine ⟨_, rfl, (n : Int), rfl, by omega, by omega, ?_⟩
    rw [show ((n : Int)).toNat = n by omega]
    refine for_range (lo := 0) (n := n) (fun i σ H' => ∃ (p : Addr) (v : Option V), σ = [some (.int (n : Int)), some (.ref p), v, none] ∧ Same H H' ∧ H' p = some (.lst ((rowN i).map V.int))) ⟨p, none, rfl, same_new hp, upd_same⟩ ?_ ?_
    · rintro i σ H1 hi ⟨p, v, rfl, s1, hp1⟩
      have hrl : (rowN i).length = i + 1 := rowN_len (by omega)
      refine ⟨by decide, fun a ha => ?_⟩
      have s2 : Same H1 _ := same_new (o := .lst [.int 1]) ha
      refine ⟨_, rfl, _, _, rfl, .inl (SqL.of (s2 _ _ hp1)), _, _, rfl, rfl, (i : Int), ?_, by omega, by omega, fun D hD => ?_⟩
      · rw [List.length_map, hrl]
        show [V.int (((i + 1 : Nat) : Int) - 1)] = _
        rw [show (((i + 1 : Nat) : Int) - 1) = (i : Int) by omega]
      rw [show ((i : Int)).toNat = i by omega]
      have ha2 : (upd H1 a (.lst [.int 1])) a = some (.lst [.int 1]) := upd_same
      generalize upd H1 a (.lst [.int 1]) = H2 at s2 hD ha2 ⊢
      have hzl : (List.zipWith (· + ·) (rowN i) (rowN i).tail).length = i := by
        rw [List.length_zipWith, List.length_tail, hrl]
        omega
      refine lc_range (lo := 0) (n := i) (fun j H' => Same H2 H' ∧ H' D = some (.lst (((List.zipWith (· + ·) (rowN i) (rowN i).tail).take j).map V.int))) ⟨same_new hD, upd_same⟩ ?_ ?_
      · rintro j H3 hj ⟨s3, hDl⟩
        have e0 : (0 : Int) + (j : Int) = (j : Int) := Int.zero_add _
        rw [e0]
        have hp3 := s3 _ _ (s2 _ _ hp1)
        have g1 : (rowN i)[j]? = some ((rowN i)[j]'(by omega)) := List.getElem?_eq_getElem _
        have g2 : (rowN i)[j + 1]? = some ((rowN i)[j + 1]'(by omega)) := List.getElem?_eq_getElem _
        refine ⟨rfl, Exists.intro _ ⟨rfl, _, rfl, p, _, (j : Int), .int ((rowN i)[j]'(by omega)), rfl, rfl, SqL.of hp3, atI_nat (by rw [List.getElem?_map, g1]; rfl),
          _, rfl, _, rfl, _, _, rfl, rfl, p, _, ((j + 1 : Nat) : Int), .int ((rowN i)[j + 1]'(by omega)), rfl, rfl, SqL.of hp3, atI_nat (by rw [List.getElem?_map, g2]; rfl), _, _, rfl, rfl,
          _, hDl, small1000 (by rw [List.length_map, List.length_take]; omega), fun c o hc => ?_, ?_⟩⟩
        · rw [upd_ne (ne_of_none hc hD)]
          exact s3 _ _ hc
        · rw [upd_same, List.take_add_one, zip_get (by omega), List.map_append]
          rfl
      · rintro H3 ⟨s3, hDl⟩
        rw [List.take_of_length_le (by omega)] at hDl
        refine ⟨_, _, _, _, rfl, rfl, s3 _ _ ha2, hDl, ?_, fun b hb => ?_⟩
        · rw [List.length_map, hzl, sizeLine_eq]
          show 1 + i ≤ _
          omega
        refine ⟨by decide, fun c hc => ?_⟩
        have nbc : b ≠ c := ne_of_none upd_same hc
        refine ⟨_, _, _, _, rfl, rfl, by rw [upd_ne nbc]; exact upd_same, upd_same, ?_, fun d hd => ?_⟩
        · rw [List.length_append, List.length_map, hzl, sizeLine_eq]
          show 1 + i + 1 ≤ _
          omega
        refine ⟨d, _, rfl, s1.trans (s2.trans (s3.trans ((same_new hb).trans ((same_new hc).trans (same_new hd))))), ?_⟩
        rw [upd_same]
        show some (HO.lst ([V.int 1] ++ (List.zipWith (· + ·) (rowN i) (rowN i).tail).map V.int ++ [V.int 1])) = some (.lst ((stepZ (rowN i)).map V.int))
        unfold stepZ
        rw [List.map_cons, List.map_append]
        rfl
    · rintro σ H1 ⟨p, v, rfl, s1, hp1⟩
      exact ⟨_, rfl, k p H1 s1 hp1⟩
def spDue : Sp := fun vs H Q _ => ∃ (n : Nat) (b : Bool), vs = [.int (n : Int), .bl b] ∧ n ≤ 60 ∧ ∀ (p : Addr) (H' : Hp) (xs : List V), Same H H' → H' p = some (.lst xs) → PL H' xs (dueL b n) → Q (.ref p) H'
abbrev nDue : List Str := ["_law_many", "_law_bare", "_law_sizes_here", "_law_found", "_law_level", "_law_some", "_law_k"]
theorem scDue : FnScope nDue ["_law_many", "_law_bare"] (defScope sDue) := ⟨rfl, rfl, rfl, by decide +kernel, rfl, by decide +kernel, by decide +kernel⟩
theorem ok_due {f : Addr} {fd : FuncData} (F : Fun K "_law_due" "_law_due" sDue f fd) (T : Txt K mg) (cZ : Cal P w K mg base 1 "_law_sizes" ["_law_many"] spSizes) : FnOk P w K mg base CX0 2 f fd ["_law_many", "_law_bare"] spDue := by
  refine F.ok scDue (fun vs H Q E h => ?_) (fun cdv A outer s H vs Q E hr h => ?_)
  · obtain ⟨n, b, rfl, _⟩ := h
    rfl
  · obtain ⟨n, b, rfl, hn, k⟩ := h
    have nd := scDue.nd
    refine ⟨_, pss_cons (ps_asg (pe_tup (pa_cons (pe_call cZ.G hr rfl cZ.m cZ.kp cZ.b .nil pass0 (pa_cons (pv 0) pa_nil)) (pa_cons (pe_lst pa_nil) pa_nil)))
        (pg_tup (by rfl) (pgs_cons (pg_name (i := 2) nd rfl (by first | exact Or.inl rfl | exact Or.inr rfl)) (pgs_cons (pg_name (i := 3) nd rfl (by first | exact Or.inl rfl | exact Or.inr rfl)) pgs_nil))))
      (pss_cons (ps_for PassesOwn.never rfl (pi_range2 (by rfl) T.range (pa_cons pe_int (pa_cons (pe_op op_add (pv 0) pe_int) pa_nil))) (pg_name (i := 4) nd rfl (by first | exact Or.inl rfl | exact Or.inr rfl))
        (pss_cons (ps_setLc (i := 5) (own := [("_law_k", 6)]) (g := gName 6) (tt := tYes) rfl nd rfl (by rfl) (sw_true rfl (by rfl) rfl (by decide)) (pi_range2 (by rfl) T.range (pa_cons (pv 4) (pa_cons (pe_op op_add (pv 0) pe_int) pa_nil)))
            (blkOk_by (N := nDue) (sc := defScope sDue) (by decide +kernel)) (fun _ _ _ _ _ => pg_name (i := 6) nd rfl (by first | exact Or.inl rfl | exact Or.inr rfl)) (fun _ _ _ _ _ => pts_nil)
            (fun _ _ _ _ _ => pe_ix (r := rIxL K) ix_list (pv 2) (pv 6) fun _ _ => rfl))
        (Evl.pss_cut (ps_if (pt_not (pt_val (pv 1)))
          (pss_one (ps_setLc (i := 5) (own := [("_law_k", 6)]) (g := gName 6) (tt := tYes) rfl nd rfl (by rfl) (sw_true rfl (by rfl) rfl (by decide)) (pi_range2 (by rfl) T.range (pa_cons (pe_op op_sub (pv 4) pe_int) (pa_cons (pv 0) pa_nil)))
            (blkOk_by (N := nDue) (sc := defScope sDue) (by decide +kernel)) (fun _ _ _ _ _ => pg_name (i := 6) nd rfl (by first | exact Or.inl rfl | exact Or.inr rfl)) (fun _ _ _ _ _ => pts_nil)
            (fun _ _ _ _ _ => pe_op op_mul (pe_ix (r := rIxL K) ix_list (pv 2) (pv 6) fun _ _ => rfl) (pe_op op_sub (pv 0) (pv 6))))) pss_nil)
        (pss_one (ps_expr (pe_bm PySem.F.plainAttrs_list PySem.F.slot_list_append PySem.F.type_list_append mt_append (pv 3) (pa_cons (pe_tup (pa_cons (pv 4) (pa_cons (pe_callB (cr_max rfl) (by rfl) T.max (by decide +kernel) (pa_cons (pv 5) pa_nil)) pa_nil))) pa_nil)))))))
      (pss_one (ps_ret (pv 3)))), ?_⟩
    refine ⟨_, rfl, n, rfl, hn, fun z H1 s1 hz => ⟨by decide, fun u hu => ⟨by show 2 ≤ sizeLine; decide, fun t ht => ?_⟩⟩⟩
    have nut : u ≠ t := ne_of_none upd_same ht
    have s2 : Same H1 _ := (same_new (o := .lst []) hu).trans (same_new (o := .tup [.ref z, .ref u]) ht)
    refine ⟨t, _, rfl, SqT.of upd_same, rfl, _, _, rfl, _, _, rfl, rfl, ?_⟩
    have hu2 : (upd (upd H1 u (.lst [])) t (.tup [.ref z, .ref u])) u = some (.lst []) := by rw [upd_ne nut]; exact upd_same
    generalize upd (upd H1 u (.lst [])) t (.tup [.ref z, .ref u]) = H2 at s2 hu2 ⊢
    have hz2 := s2 _ _ hz
    have hnu : H u = none := s1.free hu
    refine ⟨_, rfl, _, _, rfl, rfl, 1, (n : Int) + 1, rfl, ⟨by omega, by omega, by omega, by omega⟩, ?_⟩
    rw [show ((n : Int) + 1 - 1).toNat = n by omega]
    have hzl : (rowN n).length = n + 1 := rowN_len hn
    refine for_range (lo := 1) (n := n) (fun i σ H' => ∃ (v4 v5 : Option V) (xs : List V), σ = [some (.int (n : Int)), some (.bl b), some (.ref z), some (.ref u), v4, v5, none] ∧ (∀ c o, H2 c = some o → c ≠ u → H' c = some o) ∧ H' u = some (.lst xs) ∧ PL H' xs ((dueL b n).take i))
      ⟨none, none, [], rfl, fun c o hc _ => hc, hu2, .nil⟩ ?_ ?_
    · rintro i σ H3 hi ⟨v4, v5, xs, rfl, k3, hu3, hP⟩
      have nzu : z ≠ u := ne_of_none hz hu
      have hz3 := k3 _ _ hz2 nzu
      refine ⟨_, rfl, _, rfl, _, _, rfl, rfl, 1 + (i : Int), (n : Int) + 1, rfl, ⟨by omega, by omega, by omega, by omega⟩, fun D hD => ?_⟩
      rw [show ((n : Int) + 1 - (1 + (i : Int))).toNat = n - i by omega]
      refine lc_range (lo := 1 + (i : Int)) (n := n - i) (fun j H' => Same H3 H' ∧ H' D = some (.lst (((List.range j).map fun (a : Nat) => PySem.W.mcComb (n : Int) ((i + 1 + a : Nat) : Int)).map V.int))) ⟨same_new hD, upd_same⟩ ?_ ?_
      · rintro j H4 hj ⟨s4, hDl⟩
        have ej : (1 : Int) + (i : Int) + (j : Int) = ((i + 1 + j : Nat) : Int) := by omega
        rw [ej]
        refine ⟨rfl, Exists.intro _ ⟨rfl, _, rfl, z, _, ((i + 1 + j : Nat) : Int), .int (PySem.W.mcComb (n : Int) ((i + 1 + j : Nat) : Int)), rfl, rfl, SqL.of (s4 _ _ hz3), atI_nat (by rw [List.getElem?_map, rowN_get hn (by omega)]; rfl),
          _, hDl, small1000 (by simp; omega), fun c o hc => ?_, ?_⟩⟩
        · rw [upd_ne (ne_of_none hc hD)]
          exact s4 _ _ hc
        · rw [upd_same, List.range_succ, List.map_append, List.map_append]
          rfl
      · rintro H4 ⟨s4, hDl⟩
        refine ⟨fun σ' H' => ∃ (D : Addr) (ns : List Int), σ' = [some (.int (n : Int)), some (.bl b), some (.ref z), some (.ref u), some (.int (1 + (i : Int))), some (.ref D), none] ∧ Same H3 H' ∧ H' D = some (.lst (ns.map V.int)) ∧ ∀ y, y ∈ ns ↔ InS b n (i + 1) y, ?_, ?_⟩
        · refine ⟨_, rfl, b, rfl, ?_⟩
          cases b with
          | true =>
            refine iteF ?_
            refine ⟨D, _, rfl, s4, hDl, fun y => ?_⟩
            rw [List.mem_map]
            constructor
            · rintro ⟨a, ha, rfl⟩
              have := List.mem_range.mp ha
              exact ⟨i + 1 + a, by omega, by omega, rfl⟩
            · rintro ⟨v, h1, h2, rfl⟩
              exact ⟨v - (i + 1), List.mem_range.mpr (by omega), by rw [show i + 1 + (v - (i + 1)) = v by omega]; rfl⟩
          | false =>
            refine iteT ?_
            refine ⟨_, rfl, _, _, rfl, rfl, _, rfl, (i : Int), (n : Int), ?_, ⟨by omega, by omega, by omega, by omega⟩, fun D2 hD2 => ?_⟩
            · show [V.int (1 + (i : Int) - 1), V.int (n : Int)] = _
              rw [show (1 : Int) + (i : Int) - 1 = (i : Int) by omega]
            rw [show ((n : Int) - (i : Int)).toNat = n - i by omega]
            refine lc_range (lo := (i : Int)) (n := n - i) (fun j H' => Same H4 H' ∧ H' D2 = some (.lst (((List.range j).map fun (a : Nat) => PySem.W.mcComb (n : Int) ((i + a : Nat) : Int) * ((n : Int) - ((i + a : Nat) : Int))).map V.int))) ⟨same_new hD2, upd_same⟩ ?_ ?_
            · rintro j H5 hj ⟨s5, hDl5⟩
              have ej : (i : Int) + (j : Int) = ((i + j : Nat) : Int) := by omega
              rw [ej]
              refine ⟨rfl, Exists.intro _ ⟨rfl, _, rfl, z, _, ((i + j : Nat) : Int), .int (PySem.W.mcComb (n : Int) ((i + j : Nat) : Int)), rfl, rfl, SqL.of (s5 _ _ (s4 _ _ hz3)), atI_nat (by rw [List.getElem?_map, rowN_get hn (by omega)]; rfl),
                _, rfl, _, rfl, _, _, rfl, rfl, _, _, rfl, rfl, .inr ⟨by omega, by omega⟩,
                _, hDl5, small1000 (by simp; omega), fun c o hc => ?_, ?_⟩⟩
              · rw [upd_ne (ne_of_none hc hD2)]
                exact s5 _ _ hc
              · rw [upd_same, List.range_succ, List.map_append, List.map_append]
                rfl
            · rintro H5 ⟨s5, hDl5⟩
              refine ⟨D2, _, rfl, s4.trans s5, hDl5, fun y => ?_⟩
              have ec : ∀ a : Nat, PySem.W.mcComb (n : Int) (a : Int) * ((n : Int) - (a : Int)) = cnt false n ((a + 1 : Nat) : Int) := fun a => by
                show _ = PySem.W.mcComb (n : Int) (((a + 1 : Nat) : Int) - 1) * ((n : Int) - ((a + 1 : Nat) : Int) + 1)
                rw [show (((a + 1 : Nat) : Int) - 1) = (a : Int) by omega, show ((n : Int) - ((a + 1 : Nat) : Int) + 1) = (n : Int) - (a : Int) by omega]
              rw [List.mem_map]
              constructor
              · rintro ⟨a, ha, rfl⟩
                have := List.mem_range.mp ha
                exact ⟨i + a + 1, by omega, by omega, ec _⟩
              · rintro ⟨v, h1, h2, rfl⟩
                exact ⟨v - (i + 1), List.mem_range.mpr (by omega), by rw [show i + (v - (i + 1)) = v - 1 by omega, ec, show v - 1 + 1 = v by omega]⟩
        · rintro σ' H5 ⟨D3, ns, rfl, s5, hD3, hm⟩
          have hu5 := s5 _ _ hu3
          have hpos : 0 < ns.length := List.length_pos_of_mem ((hm _).mpr (topOf_top (b := b) (show i + 1 ≤ n by omega)).1)
          refine ⟨_, rfl, .inl ⟨rfl, _, SqL.of hu5⟩, _, rfl, _, rfl, D3, ns, rfl, SqL.of hD3, hpos, fun m h1 h2 => ?_⟩
          have em := top_of (show i + 1 ≤ n by omega) hm h1 h2
          subst em
          refine ⟨by show 2 ≤ sizeLine; decide, fun t2 ht2 => ?_⟩
          have nut2 : u ≠ t2 := ne_of_none hu5 ht2
          have hu6 : (upd H5 t2 (.tup [.int (1 + (i : Int)), .int (topOf b n (i + 1))])) u = some (.lst xs) := by rw [upd_ne nut2]; exact hu5
          refine ⟨u, _, _, rfl, rfl, hu6, small1000 (by rw [hP.len, List.length_take]; omega), ?_⟩
          refine ⟨_, _, xs ++ [.ref t2], rfl, fun c o hc hcu => ?_, upd_same, ?_⟩
          · rw [upd_ne hcu]
            exact same_new ht2 _ _ (s5 _ _ (k3 _ _ hc hcu))
          · have et : (dueL b n).take (i + 1) = (dueL b n).take i ++ [((((i + 1 : Nat)) : Int), topOf b n (i + 1))] := by
              rw [List.take_add_one, dueL_get hi]
              rfl
            rw [et]
            refine PL.updL hu6 ((hP.same (s5.trans (same_new ht2))).snoc ⟨t2, rfl, ?_⟩)
            rw [upd_same]
            show some (HO.tup [V.int (1 + (i : Int)), V.int (topOf b n (i + 1))]) = some (.tup [.int ((i + 1 : Nat) : Int), .int (topOf b n (i + 1))])
            rw [show (1 : Int) + (i : Int) = ((i + 1 : Nat) : Int) by omega]
    · rintro σ H3 ⟨v4, v5, xs, rfl, k3, hu3, hP⟩
      rw [List.take_of_length_le (by rw [dueL_len]; exact Nat.le_refl _)] at hP
      exact ⟨_, rfl, k u H3 xs (fun c o hc => k3 _ _ (s2 _ _ (s1 _ _ hc)) (ne_of_none hc hnu)) hu3 hP⟩
abbrev nLaw : List Str := ["_law_script", "_law_bag_here", "_law_many", "_law_bare", "_law_due_here", "_law_again", "_law_found", "_law_k", "_law_level", "_law_size"]
theorem scLaw : FnScope nLaw ["_law_script"] (defScope sLaw) := ⟨rfl, rfl, rfl, by decide +kernel, rfl, by decide +kernel, by decide +kernel⟩
def spLaw (K : PySem.W.Frag) : Sp := fun vs H Q _ => ∃ (a : Addr) (ns : List Int), vs = [.ref a] ∧ SqL K H a (ns.map V.int) ∧ ns.length ≤ 63 ∧ ∀ H', Q (.bl true) H'
theorem eqv_pairs_nil {rs : List (Int × Int)} : PyData.eqv (.list (rs.map dP)) (.list []) = decide (rs = []) := by
  cases rs with
  | nil => rw [List.map_nil, PyData.eqv, PyData.eqvAll]; rfl
  | cons r rs =>
    rw [List.map_cons, PyData.eqv, PyData.eqvAll]
    · simp
    all_goals simp
theorem dok_nil : DOk (.list []) := ⟨rfl, by decide, by decide⟩
theorem shapedL {d : PyData} (h : DOk d) : SeqAt.shaped d = true := h.shaped
theorem ok_law {f : Addr} {fd : FuncData} (F : Fun K "law" "law" sLaw f fd) (T : Txt K mg)
    (cB : Cal P w K mg base 1 "_law_bag" ["_law_script"] (spBag K))
    (cT : Cal P w K mg base 1 "_law_take" ["_law_bag_here", "_law_upto"] spTake)
    (cA : CalG P w K mg base 1 "_law_alike" ["_law_found", "_law_due_here"] (spAlikeD K))
    (cD : Cal P w K mg base 2 "_law_due" ["_law_many", "_law_bare"] spDue)
    (cL : CalK P w K mg base 2 "levels_for" spLevels) (cF : CalK P w K mg base 3 "fewest_for" spFew) (cW : CalK P w K mg base 3 "width_for" spWid) : FnG P w K mg base 4 f fd ["_law_script"] (spLaw K) := by
  refine okG F scLaw (fun vs H Q E h => ?_) (fun cdv A outer s H vs Q E hr hg h => ?_)
  · obtain ⟨a, ns, rfl, _⟩ := h
    rfl
  · obtain ⟨a, ns, rfl, hS, hlen, k⟩ := h
    have nd := scLaw.nd
    have hr1 : Room 1 _ := hr.mono (by decide)
    have hr2 : Room 2 _ := hr.mono (by decide)
    refine ⟨_, pss_cons (ps_set (i := 1) nd rfl (by first | exact Or.inl rfl | exact Or.inr rfl) (pe_call cB.G hr1 rfl cB.m cB.kp cB.b .nil pass0 (pa_cons (pv 0) pa_nil)))
      (pss_cons (ps_for PassesOwn.never rfl (pi_list (pe_op op_cat (pe_lst (pa_cons pe_int (pa_cons pe_int (pa_cons pe_int (pa_cons pe_int (pa_cons pe_int pa_nil))))))
          (pe_lc (own := [("_law_k", 7)]) (g := gName 7) (tt := tYes) rfl nd (pi_range1 (by rfl) T.range (pa_cons pe_int pa_nil)) (blkOk_by (N := nLaw) (sc := defScope sLaw) (by decide +kernel)) (fun _ _ _ _ _ => pg_name (i := 7) nd rfl (by first | exact Or.inl rfl | exact Or.inr rfl)) (fun _ _ _ _ _ => pts_nil)
            (fun _ _ _ _ _ => pe_call cT.G hr1 rfl cT.m cT.kp cT.b .nil pass0 (pa_cons (pv 1) (pa_cons pe_int pa_nil)))))) (pg_name (i := 2) nd rfl (Or.inl rfl))
        (pss_cons (ps_for PassesOwn.never rfl (pi_tup (pe_tup (pa_cons pe_bl (pa_cons pe_bl pa_nil)))) (pg_name (i := 3) nd rfl (Or.inl rfl))
          (pss_cons (ps_set (i := 4) nd rfl (by first | exact Or.inl rfl | exact Or.inr rfl) (pe_call cD.G hr2 rfl cD.m cD.kp cD.b .nil pass0 (pa_cons (pv 2) (pa_cons (pv 3) pa_nil))))
          (pss_cons (ps_for PassesOwn.never rfl (pi_range1 (by rfl) T.range (pa_cons pe_int pa_nil)) (pg_name (i := 5) nd rfl (Or.inl rfl))
            (pss_cons (ps_set (i := 6) nd rfl (Or.inl rfl) (pe_callN cL.G hr2 rfl cL.m cL.kp cL.kb pass0 (pa_cons (pv 2) pa_nil) (pk_cons (pv 3) pk_nil)))
            (pss_cons (ps_if (pt_not (pt_val (pe_callg cA.G hr1 hg rfl cA.m cA.kp cA.b (pa_cons (pv 6) (pa_cons (pv 4) pa_nil))))) (pss_one (ps_ret pe_bl)) pss_nil)
            (pss_one (ps_expr (pe_bm PySem.F.plainAttrs_list PySem.F.slot_list_append PySem.F.type_list_append mt_append (pv 6) (pa_cons pe_non pa_nil)))))))
          (Evl.pss_cut (ps_if (pt_not (pt_val (pe_callg cA.G hr1 hg rfl cA.m cA.kp cA.b (pa_cons (pe_callN cF.G hr rfl cF.m cF.kp cF.kb pass0 (pa_cons (pv 2) pa_nil) (pk_cons (pv 3) pk_nil))
              (pa_cons (pe_ifExp (pt_cmpR (op_neD hr.units) (pv 4) (pe_lst pa_nil) (nomark _)) (pe_ix ix_tup (pe_ix ix_list (pv 4) pe_int fun _ _ => rfl) pe_int fun _ _ => rfl) pe_int) pa_nil))))) (pss_one (ps_ret pe_bl)) pss_nil)
          (pss_cons (ps_if (pt_not (pt_val (pe_callg cA.G hr1 hg rfl cA.m cA.kp cA.b (pa_cons (pe_callN cW.G hr rfl cW.m cW.kp cW.kb pass0 (pa_cons (pv 2) pa_nil) (pk_cons (pv 3) pk_nil))
              (pa_cons (pe_callB (cr_sum rfl) (by rfl) T.sum (by decide +kernel) (pa_cons (pe_lc (own := [("_law_level", 8), ("_law_size", 9)]) (g := gTup K 2 (gCons (gName 8) (gCons (gName 9) gNil))) (tt := tYes) rfl nd (pi_list (pv 4))
                (blkOk_by (N := nLaw) (sc := defScope sLaw) (by decide +kernel)) (fun _ _ _ _ _ => pg_tup (by rfl) (pgs_cons (pg_name (i := 8) nd rfl (by first | exact Or.inl rfl | exact Or.inr rfl)) (pgs_cons (pg_name (i := 9) nd rfl (by first | exact Or.inl rfl | exact Or.inr rfl)) pgs_nil)))
                (fun _ _ _ _ _ => pts_nil) (fun _ _ _ _ _ => pv 9)) pa_nil)) pa_nil))))) (pss_one (ps_ret pe_bl)) pss_nil)
          (pss_one (ps_if (pt_cmpR (op_neD hr.units) (pe_lc (own := [("_law_k", 7)]) (g := gName 7) rfl nd (pi_range2 (by rfl) T.range (pa_cons pe_int (pa_cons (pe_callB call_len_seq (by rfl) T.len PySem.boot_len (pa_cons (pv 4) pa_nil)) pa_nil)))
              (blkOk_by (N := nLaw) (sc := defScope sLaw) (by decide +kernel)) (fun _ _ _ _ _ => pg_name (i := 7) nd rfl (by first | exact Or.inl rfl | exact Or.inr rfl))
              (fun _ _ _ _ _ => pts_one (pt_cmpR op_gt (pe_ix (r := rIxT K) ix_tup (pe_ix (r := rIxL K) ix_list (pv 4) (pv 7) fun _ _ => rfl) pe_int fun _ _ => rfl) (pe_ix (r := rIxT K) ix_tup (pe_ix (r := rIxL K) ix_list (pv 4) (pe_op op_sub (pv 7) pe_int) fun _ _ => rfl) pe_int fun _ _ => rfl) (nomark _)))
              (fun _ _ _ _ _ => pv 7)) (pe_lst pa_nil) (nomark _)) (pss_one (ps_ret pe_bl)) pss_nil)))))))
        (pss_cons (ps_if (PW.pt (pw_or (pt_cmpR (op_neD hr.units) (pe_call cL.G hr2 rfl cL.m cL.kp cL.b cL.dv pass0 (pa_cons (pv 2) pa_nil)) (pe_callN cL.G hr2 rfl cL.m cL.kp cL.kb pass0 (pa_cons (pv 2) pa_nil) (pk_cons pe_bl pk_nil)) (nomark _))
            (pw_or1 (pt_cmpR op_ne (pe_call cF.G hr rfl cF.m cF.kp cF.b cF.dv pass0 (pa_cons (pv 2) pa_nil)) (pe_callN cF.G hr rfl cF.m cF.kp cF.kb pass0 (pa_cons (pv 2) pa_nil) (pk_cons pe_bl pk_nil)) (nomark _))))) (pss_one (ps_ret pe_bl)) pss_nil)
        (pss_one (ps_if (PW.pt (pw_or (pt_cmpR op_ne (pe_call cW.G hr rfl cW.m cW.kp cW.b cW.dv pass0 (pa_cons (pv 2) pa_nil)) (pe_callN cW.G hr rfl cW.m cW.kp cW.kb pass0 (pa_cons (pv 2) pa_nil) (pk_cons pe_bl pk_nil)) (nomark _))
            (pw_or1 (pt_cmpR op_gt (pe_callN cW.G hr rfl cW.m cW.kp cW.kb pass0 (pa_cons (pv 2) pa_nil) (pk_cons pe_bl pk_nil)) (pe_call cW.G hr rfl cW.m cW.kp cW.b cW.dv pass0 (pa_cons (pv 2) pa_nil)) (nomark _))))) (pss_one (ps_ret pe_bl)) pss_nil)))))
      (pss_one (ps_ret pe_bl))), ?_⟩
    refine ⟨_, rfl, a, ns, rfl, hS, hlen, fun b l H1 hb B1 s1 => ?_⟩
    refine ⟨by show 5 ≤ sizeLine; decide, fun p hp => ?_⟩
    have npb : p ≠ b := B1.ne hp
    have B2 := B1.new (o := .lst [.int 0, .int 1, .int 2, .int 59, .int 60]) hp
    have hp2 : (upd H1 p (.lst [.int 0, .int 1, .int 2, .int 59, .int 60])) p = some (.lst [.int 0, .int 1, .int 2, .int 59, .int 60]) := upd_same
    generalize upd H1 p (.lst [.int 0, .int 1, .int 2, .int 59, .int 60]) = H2 at B2 hp2 ⊢
    refine ⟨6, rfl, by decide, by decide, fun D hD => ?_⟩
    have nDb : D ≠ b := B2.ne hD
    have npD : p ≠ D := ne_of_none hp2 hD
    refine lc_range (lo := 0) (n := 6) (fun i H' => Bag H' b l ∧ H' p = some (.lst [.int 0, .int 1, .int 2, .int 59, .int 60]) ∧ ∃ ms : List Nat, H' D = some (.lst (ms.map fun (m : Nat) => V.int (m : Int))) ∧ ms.length = i ∧ ∀ m ∈ ms, m ≤ 60)
      ⟨B2.new hD, by rw [upd_ne npD]; exact hp2, [], upd_same, rfl, fun m hm => (nomatch hm)⟩ ?_ ?_
    · rintro i H3 hi ⟨B3, hp3, ms, hDl, hl, hm⟩
      refine ⟨rfl, Exists.intro _ ⟨rfl, b, l, 61, rfl, B3, by decide, by decide, fun j H4 hj B4 k4 => ⟨_, k4 _ _ hDl nDb, small1000 (by rw [List.length_map]; omega), ?_, ?_, ms ++ [j], ?_, by rw [List.length_append, hl]; rfl, ?_⟩⟩⟩
      · exact B4.upd nDb.symm (B2.nel hD)
      · rw [upd_ne npD]
        exact k4 _ _ hp3 npb
      · rw [upd_same, List.map_append]
        rfl
      · intro m hm'
        rcases List.mem_append.mp hm' with q | q
        · exact hm m q
        · rw [List.mem_singleton.mp q]
          omega
    rintro H3 ⟨B3, hp3, ms, hDl, hl, hm⟩
    refine ⟨_, _, _, _, rfl, rfl, hp3, hDl, ?_, fun L hL => ?_⟩
    · rw [List.length_map, hl]
      decide
    have hL2 : (upd H3 L (.lst ([.int 0, .int 1, .int 2, .int 59, .int 60] ++ ms.map fun (m : Nat) => V.int (m : Int)))) L = some (.lst (([0, 1, 2, 59, 60] ++ ms).map fun (m : Nat) => V.int (m : Int))) := by
      rw [upd_same, List.map_append]
      rfl
    have all60 : ∀ m ∈ ([0, 1, 2, 59, 60] ++ ms : List Nat), m ≤ 60 := fun m h => by
      rcases List.mem_append.mp h with q | q
      · simp only [List.mem_cons, List.not_mem_nil, or_false] at q
        omega
      · exact hm m q
    generalize upd H3 L (.lst ([.int 0, .int 1, .int 2, .int 59, .int 60] ++ ms.map fun (m : Nat) => V.int (m : Int))) = H4 at hL2 ⊢
    generalize ([0, 1, 2, 59, 60] ++ ms : List Nat) = items at hL2 all60
    refine ⟨L, rfl, ⟨_, SqL.of hL2⟩, for_list (K := K) (a := L) (xs := items.map fun (m : Nat) => V.int (m : Int)) (fun i σ H' => (∃ v2 v3 v4 v5 v6, σ = [some (.ref a), some (.ref b), v2, v3, v4, v5, v6, none, none, none]) ∧ H' L = some (.lst (items.map fun (m : Nat) => V.int (m : Int))))
      ⟨⟨none, none, none, none, none, rfl⟩, hL2⟩ (fun i σ H' _ h => SqL.of h.2) ?_ ?_⟩
    · rintro i x σ H5 hi ⟨⟨v2, v3, v4, v5, v6, rfl⟩, hL5⟩
      rw [List.getElem?_map] at hi
      obtain ⟨n, en, rfl⟩ := Option.map_eq_some_iff.mp hi
      have hn : n ≤ 60 := all60 n (List.mem_of_getElem? en)
      refine ⟨by show 2 ≤ sizeLine; decide, fun tt htt => ⟨tt, rfl, ⟨_, SqT.of upd_same⟩, ?_⟩⟩
      have nLt : L ≠ tt := ne_of_none hL5 htt
      have hL6 : (upd H5 tt (.tup [.bl false, .bl true])) L = some (.lst (items.map fun (m : Nat) => V.int (m : Int))) := by rw [upd_ne nLt]; exact hL5
      have ht6 : (upd H5 tt (.tup [.bl false, .bl true])) tt = some (.tup [.bl false, .bl true]) := upd_same
      generalize upd H5 tt (.tup [.bl false, .bl true]) = H6 at hL6 ht6 ⊢
      refine for_tup (K := K) (a := tt) (xs := [.bl false, .bl true]) (fun i σ H' => (∃ v3 v4 v5 v6, σ = [some (.ref a), some (.ref b), some (.int (n : Int)), v3, v4, v5, v6, none, none, none]) ∧ Same H6 H') ⟨⟨_, _, _, _, rfl⟩, Same.refl _⟩ (fun i σ H' _ h => SqT.of (h.2 _ _ ht6)) ?_ ?_
      · rintro i2 x2 σ H7 hi2 ⟨⟨v3, v4, v5, v6, rfl⟩, s7⟩
        obtain ⟨c, rfl⟩ : ∃ c : Bool, x2 = .bl c := by
          rcases i2 with _ | _ | i2
          · exact ⟨false, (Option.some.inj hi2).symm⟩
          · exact ⟨true, (Option.some.inj hi2).symm⟩
          · cases hi2
        refine ⟨_, rfl, _, rfl, n, c, rfl, hn, fun dd H8 xs s8 hd8 hP8 => ?_⟩
        have du := due_ok c hn
        have dok := dok_pairs du (by rw [dueL_len]; omega)
        have hxl : xs.length = n := by rw [hP8.len, dueL_len]
        refine ⟨2, rfl, by decide, by decide, ?_⟩
        refine for_range (lo := 0) (n := 2) (fun i σ H' => (∃ v5 v6, σ = [some (.ref a), some (.ref b), some (.int (n : Int)), some (.bl c), some (.ref dd), v5, v6, none, none, none]) ∧ Same H8 H') ⟨⟨_, _, rfl⟩, Same.refl _⟩ ?_ ?_
        · rintro i3 σ H9 hi3 ⟨⟨v5, v6, rfl⟩, s9⟩
          refine ⟨_, rfl, _, rfl, rfl, rfl, n, c, rfl, hn, fun q H10 ys s10 hq0 hq hPq => ?_⟩
          have s910 := s9.trans s10
          refine ⟨_, rfl, _, rfl, _, _, .list ((dueL c n).map dP), rfl, .lst (SqL.of hq) hPq.dp, .lst (SqL.of (s910 _ _ hd8)) (hP8.same s910).dp, dok, _, rfl, ?_⟩
          refine iteF ?_
          refine ⟨_, rfl, .inl ⟨rfl, _, SqL.of hq⟩, q, _, _, rfl, rfl, hq, small1000 (by rw [hPq.len, dueL_len]; omega), ?_⟩
          exact ⟨⟨_, _, rfl⟩, fun z o hz => by rw [upd_ne (ne_of_none hz (s9.free hq0))]; exact s910 _ _ hz⟩
        · rintro σ H9 ⟨⟨v5, v6, rfl⟩, s9⟩
          refine ⟨fun σ' H' => σ' = [some (.ref a), some (.ref b), some (.int (n : Int)), some (.bl c), some (.ref dd), v5, v6, none, none, none] ∧ Same H8 H', ?_, ?_⟩
          · refine ⟨_, rfl, _, rfl, rfl, rfl, n, c, rfl, hn, fun H10 s10 => ?_⟩
            have s90 := s9.trans s10
            have hd10 := s90 _ _ hd8
            have hP10 := hP8.same s90
            have okf : DOk (.int (fewV c n)) := dok_bigint (by
              have := fewV_bd c hn
              have h2 : (fewV c n).natAbs < 10 ^ 30 := by omega
              exact Nat.lt_trans h2 (by decide))
            refine ⟨_, rfl, by decide, fun e he => ?_⟩
            have se := same_new (o := .lst []) he
            refine ⟨.list ((dueL c n).map dP), .list [], .lst (SqL.of (se _ _ hd10)) (hP10.same se).dp, .lst (SqL.of upd_same) .nil, dok.shaped, dok_nil.shaped, _, rfl, ?_⟩
            show if (!PyData.eqv (.list ((dueL c n).map dP)) (.list [])) = true then _ else _
            rw [eqv_pairs_nil]
            have sA := s90.trans se
            generalize upd H10 e (.lst []) = H11 at se sA ⊢
            have hd11 := sA _ _ hd8
            have hP11 := hP8.same sA
            refine ite2 (fun hc => ?_) (fun hc => ?_)
            · have hne : dueL c n ≠ [] := by simpa using hc
              have hpos : 0 < n := by
                rcases Nat.eq_zero_or_pos n with h | h
                · exact absurd (List.eq_nil_of_length_eq_zero (by rw [dueL_len]; exact h)) hne
                · exact h
              obtain ⟨y, ey, t, rfl, ht⟩ := hP11.getR (dueL_get (b := c) (n := n) (i := 0) hpos)
              refine ⟨_, rfl, dd, _, 0, _, rfl, rfl, SqL.of hd11, atI_nat (j := 0) ey, t, _, 1, _, rfl, rfl, SqT.of ht, rfl, ?_⟩
              have ef : fewV c n = topOf c n (0 + 1) := by
                unfold fewV
                rw [if_neg (by omega)]
              rw [← ef]
              exact ⟨_, _, .int (fewV c n), rfl, .int _, .int _, okf, _, rfl, iteF ⟨rfl, sA⟩⟩
            · have hnil : dueL c n = [] := by simpa using hc
              have h0 : n = 0 := by rw [← dueL_len c n, hnil]; rfl
              have ef : fewV c n = 0 := by
                unfold fewV
                rw [if_pos h0]
              rw [ef]
              exact ⟨_, _, .int 0, rfl, .int _, .int _, dok_bigint (by decide), _, rfl, iteF ⟨rfl, sA⟩⟩
          rintro σ H10 ⟨rfl, s10⟩
          have okw : DOk (.int (widV c n)) := dok_bigint (by
            have := widV_bd c hn
            have h2 : (widV c n).natAbs ≤ 60 * 10 ^ 30 := by omega
            exact Nat.lt_of_le_of_lt h2 (by decide))
          refine ⟨_, rfl, _, rfl, rfl, rfl, n, c, rfl, hn, fun H11 s11 => ?_⟩
          have sB := s10.trans s11
          have hd11 := sB _ _ hd8
          have hP11 := hP8.same sB
          refine ⟨_, rfl, dd, rfl, ⟨_, SqL.of hd11⟩, fun D2 hD2 => ?_⟩
          refine lc_list (K := K) (a := dd) (xs := xs) (fun i H' => Same H11 H' ∧ H' D2 = some (.lst (((tops c n).take i).map V.int))) ⟨same_new hD2, upd_same⟩ (fun i H' _ h => SqL.of (h.1 _ _ hd11)) ?_ ?_
          · rintro i4 x4 H12 hi4 ⟨s12, hDl2⟩
            have hl4 : i4 < n := by
              have := (List.getElem?_eq_some_iff.mp hi4).1
              omega
            obtain ⟨r, er, t, rfl, ht⟩ := hP11.get hi4
            have et : (tops c n).take (i4 + 1) = (tops c n).take i4 ++ [r.2] := by
              rw [List.take_add_one]
              unfold tops
              rw [List.getElem?_map, er]
              rfl
            refine ⟨t, _, rfl, SqT.of (s12 _ _ ht), rfl, _, _, rfl, _, _, rfl, rfl, rfl, ?_⟩
            refine ⟨_, rfl, _, hDl2, small1000 (by rw [List.length_map, List.length_take]; omega), fun z o hz => ?_, ?_⟩
            · rw [upd_ne (ne_of_none hz hD2)]
              exact s12 _ _ hz
            · rw [upd_same, et, List.map_append]
              rfl
          rintro H12 ⟨s12, hDl2⟩
          have hlen : (tops c n).length = n := by
            unfold tops
            rw [List.length_map, dueL_len]
          rw [hxl, List.take_of_length_le (by rw [hlen]; exact Nat.le_refl _)] at hDl2
          refine ⟨D2, tops c n, rfl, SqL.of hDl2, ?_⟩
          refine ⟨_, _, .int (widV c n), rfl, .int _, .int _, okw, _, rfl, ?_⟩
          refine iteF ?_
          -- the numbers never grow
          have sC := sB.trans s12
          have hd12 := sC _ _ hd8
          have hP12 := hP8.same sC
          refine ⟨_, rfl, _, _, rfl, .inl (SqL.of hd12), 1, (n : Int), by rw [hxl], ⟨by omega, by omega, by omega, by omega⟩, fun D3 hD3 => ?_⟩
          rw [show ((n : Int) - 1).toNat = n - 1 by omega]
          refine lc_range (lo := 1) (n := n - 1) (fun i H' => Same H12 H' ∧ H' D3 = some (.lst [])) ⟨same_new hD3, upd_same⟩ ?_ ?_
          · rintro i5 H13 hi5 ⟨s13, hDl3⟩
            have ej : (1 : Int) + (i5 : Int) = ((i5 + 1 : Nat) : Int) := by omega
            rw [ej]
            have hd13 := s13 _ _ hd12
            have hP13 := hP12.same s13
            obtain ⟨y1, ey1, t1, rfl, ht1⟩ := hP13.getR (dueL_get (b := c) (n := n) (i := i5 + 1) (by omega))
            obtain ⟨y2, ey2, t2, rfl, ht2⟩ := hP13.getR (dueL_get (b := c) (n := n) (i := i5) (by omega))
            refine ⟨rfl, Exists.intro _ ⟨rfl, _, rfl, dd, _, ((i5 + 1 : Nat) : Int), _, rfl, rfl, SqL.of hd13, atI_nat ey1, t1, _, 1, _, rfl, rfl, SqT.of ht1, rfl,
              _, rfl, _, rfl, _, _, rfl, rfl, dd, _, (i5 : Int), _, rfl, ?_, SqL.of hd13, atI_nat ey2, t2, _, 1, _, rfl, rfl, SqT.of ht2, rfl, _, _, rfl, rfl, _, rfl, ?_⟩⟩
            · show V.int (((i5 + 1 : Nat) : Int) - 1) = V.int (i5 : Int)
              rw [show (((i5 + 1 : Nat) : Int) - 1) = (i5 : Int) by omega]
            · have hle : topOf c n (i5 + 1 + 1) ≤ topOf c n (i5 + 1) := topOf_anti (by omega)
              rw [decide_eq_false (show ¬ topOf c n (i5 + 1 + 1) > topOf c n (i5 + 1) by omega)]
              refine iteF ?_
              exact ⟨s13, hDl3⟩
          · rintro H13 ⟨s13, hDl3⟩
            refine ⟨by decide, fun e he => ?_⟩
            have se := same_new (o := .lst []) he
            refine ⟨.list [], .list [], .lst (SqL.of (se _ _ hDl3)) .nil, .lst (SqL.of upd_same) .nil, dok_nil.shaped, dok_nil.shaped, _, rfl, ?_⟩
            show if (!PyData.eqv (.list []) (.list [])) = true then _ else _
            rw [SeqAt.eqv_refl (.list []) (fine_lay _ dok_nil.f).1]
            refine iteF ?_
            exact ⟨⟨_, _, _, _, rfl⟩, s7.trans (s8.trans (sC.trans (s13.trans se)))⟩
      · rintro σ H7 ⟨⟨v3, v4, v5, v6, rfl⟩, s7⟩
        have dokF := dok_pairs (due_ok false hn) (by rw [dueL_len]; omega)
        refine ⟨_, rfl, n, false, rfl, hn, fun p1 H8 xs1 s8 hp10 hp1 hP1 => ?_⟩
        refine ⟨_, rfl, rfl, rfl, n, false, rfl, hn, fun p2 H9 xs2 s9 hp20 hp2' hP2 => ?_⟩
        refine ⟨.list ((dueL false n).map dP), .list ((dueL false n).map dP), .lst (SqL.of (s9 _ _ hp1)) (hP1.same s9).dp, .lst (SqL.of hp2') hP2.dp, dokF.shaped, dokF.shaped, _, rfl, ?_⟩
        show if (!PyData.eqv (.list ((dueL false n).map dP)) (.list ((dueL false n).map dP))) = true then _ else _
        rw [SeqAt.eqv_refl (.list ((dueL false n).map dP)) (fine_lay _ dokF.f).1]
        refine iteF ?_
        refine ⟨_, rfl, n, false, rfl, hn, fun H10 s10 => ?_⟩
        refine ⟨_, rfl, rfl, rfl, n, false, rfl, hn, fun H11 s11 => ⟨rfl, _, rfl, ?_⟩⟩
        show if (!decide (V.int (fewV false n) = V.int (fewV false n))) = true then _ else _
        rw [decide_eq_true rfl]
        refine iteF ?_
        refine ⟨_, rfl, n, false, rfl, hn, fun H12 s12 => ?_⟩
        refine ⟨_, rfl, rfl, rfl, n, false, rfl, hn, fun H13 s13 => ⟨rfl, _, rfl, ?_⟩⟩
        show if (!decide (V.int (widV false n) = V.int (widV false n))) = true then _ else _
        rw [decide_eq_true rfl]
        refine iteF ?_
        refine ⟨_, rfl, rfl, rfl, n, true, rfl, hn, fun H14 s14 => ⟨_, rfl, n, false, rfl, hn, fun H15 s15 => ⟨_, _, rfl, rfl, _, rfl, ?_⟩⟩⟩
        rw [decide_eq_false (show ¬ widV true n > widV false n by have := widV_le hn; omega)]
        refine iteF ?_
        have sAll := s7.trans (s8.trans (s9.trans (s10.trans (s11.trans (s12.trans (s13.trans (s14.trans s15)))))))
        exact ⟨⟨_, _, _, _, _, rfl⟩, sAll _ _ hL6⟩
    · rintro σ H5 _
      exact k H5
end
theorem all_mk {l : PySem.W.OpenLaw} {w : World} {K : PySem.W.Frag} {h : Heap} {mg : Str → Option Value} {fa f1 f2 f3 f4 f5 f6 f7 f8 f9 f10 f11 D3 D4 D5 : Addr} (X : K.In h) (G : h.Ns mainGlobals mg) (hfa : mg "law" = some (.ref fa))
    {od1 an1 od2 an2 od3 an3 od4 an4 od5 an5 od6 an6 od7 an7 od8 an8 od9 an9 od10 an10 od11 an11 : Option Addr} {sl1 sl2 sl3 sl4 sl5 sl6 sl7 sl8 sl9 sl10 sl11 : Array (Option Value)} {oc1 kV1 dc1 pm1 cd1 ct1 oc2 kV2 dc2 pm2 cd2 ct2 oc3 dc3 pm3 cd3 ct3 oc4 dc4 pm4 cd4 ct4 oc5 dc5 pm5 cd5 ct5 oc6 kV6 dc6 pm6 cd6 ct6 oc7 kV7 dc7 pm7 cd7 ct7 oc8 kV8 dc8 pm8 cd8 ct8 oc9 kV9 dc9 pm9 cd9 ct9 oc10 kV10 dc10 pm10 cd10 ct10 oc11 kV11 dc11 pm11 cd11 ct11 : Value}
    (a1 : PySem.W.nsIn K mainGlobals "sum_of_steps" = some (some (.ref f1))) (l1 : K.lookup f1 = some ⟨oc1, od1, .func (PySem.W.fnOf "sum_of_steps" "sum_of_steps" (defArgs sSteps) (defBody sSteps) (defScope sSteps) .none kV1 dc1 pm1 an1 cd1 ct1), sl1⟩) (c1 : PySem.W.codeIn K cd1 "sum_of_steps" = true) (k1 : PySem.W.keepIn K (.ref f1) = true)
    (a2 : PySem.W.nsIn K mainGlobals "most_of_width" = some (some (.ref f2))) (l2 : K.lookup f2 = some ⟨oc2, od2, .func (PySem.W.fnOf "most_of_width" "most_of_width" (defArgs sMow) (defBody sMow) (defScope sMow) .none kV2 dc2 pm2 an2 cd2 ct2), sl2⟩) (c2 : PySem.W.codeIn K cd2 "most_of_width" = true) (k2 : PySem.W.keepIn K (.ref f2) = true)
    (a3 : PySem.W.nsIn K mainGlobals "levels_for" = some (some (.ref f3))) (l3 : K.lookup f3 = some ⟨oc3, od3, .func (PySem.W.fnOf "levels_for" "levels_for" (defArgs sLevels) (defBody sLevels) (defScope sLevels) .none (.ref D3) dc3 pm3 an3 cd3 ct3), sl3⟩) (c3 : PySem.W.codeIn K cd3 "levels_for" = true) (d3 : PySem.W.nsIn K D3 "plain" = some (some (.bool false))) (k3 : PySem.W.keepIn K (.ref f3) = true)
    (a4 : PySem.W.nsIn K mainGlobals "fewest_for" = some (some (.ref f4))) (l4 : K.lookup f4 = some ⟨oc4, od4, .func (PySem.W.fnOf "fewest_for" "fewest_for" (defArgs sFewest) (defBody sFewest) (defScope sFewest) .none (.ref D4) dc4 pm4 an4 cd4 ct4), sl4⟩) (c4 : PySem.W.codeIn K cd4 "fewest_for" = true) (d4 : PySem.W.nsIn K D4 "plain" = some (some (.bool false))) (k4 : PySem.W.keepIn K (.ref f4) = true)
    (a5 : PySem.W.nsIn K mainGlobals "width_for" = some (some (.ref f5))) (l5 : K.lookup f5 = some ⟨oc5, od5, .func (PySem.W.fnOf "width_for" "width_for" (defArgs sWidth) (defBody sWidth) (defScope sWidth) .none (.ref D5) dc5 pm5 an5 cd5 ct5), sl5⟩) (c5 : PySem.W.codeIn K cd5 "width_for" = true) (d5 : PySem.W.nsIn K D5 "plain" = some (some (.bool false))) (k5 : PySem.W.keepIn K (.ref f5) = true)
    (a6 : PySem.W.nsIn K mainGlobals "_law_bag" = some (some (.ref f6))) (l6 : K.lookup f6 = some ⟨oc6, od6, .func (PySem.W.fnOf "_law_bag" "_law_bag" (defArgs sBag) (defBody sBag) (defScope sBag) .none kV6 dc6 pm6 an6 cd6 ct6), sl6⟩) (c6 : PySem.W.codeIn K cd6 "_law_bag" = true) (k6 : PySem.W.keepIn K (.ref f6) = true)
    (a7 : PySem.W.nsIn K mainGlobals "_law_take" = some (some (.ref f7))) (l7 : K.lookup f7 = some ⟨oc7, od7, .func (PySem.W.fnOf "_law_take" "_law_take" (defArgs sTake) (defBody sTake) (defScope sTake) .none kV7 dc7 pm7 an7 cd7 ct7), sl7⟩) (c7 : PySem.W.codeIn K cd7 "_law_take" = true) (k7 : PySem.W.keepIn K (.ref f7) = true)
    (a8 : PySem.W.nsIn K mainGlobals "_law_alike" = some (some (.ref f8))) (l8 : K.lookup f8 = some ⟨oc8, od8, .func (PySem.W.fnOf "_law_alike" "_law_alike" (defArgs sAlike) (defBody sAlike) (defScope sAlike) .none kV8 dc8 pm8 an8 cd8 ct8), sl8⟩) (c8 : PySem.W.codeIn K cd8 "_law_alike" = true) (k8 : PySem.W.keepIn K (.ref f8) = true)
    (a9 : PySem.W.nsIn K mainGlobals "_law_sizes" = some (some (.ref f9))) (l9 : K.lookup f9 = some ⟨oc9, od9, .func (PySem.W.fnOf "_law_sizes" "_law_sizes" (defArgs sSizes) (defBody sSizes) (defScope sSizes) .none kV9 dc9 pm9 an9 cd9 ct9), sl9⟩) (c9 : PySem.W.codeIn K cd9 "_law_sizes" = true) (k9 : PySem.W.keepIn K (.ref f9) = true)
    (a10 : PySem.W.nsIn K mainGlobals "_law_due" = some (some (.ref f10))) (l10 : K.lookup f10 = some ⟨oc10, od10, .func (PySem.W.fnOf "_law_due" "_law_due" (defArgs sDue) (defBody sDue) (defScope sDue) .none kV10 dc10 pm10 an10 cd10 ct10), sl10⟩) (c10 : PySem.W.codeIn K cd10 "_law_due" = true) (k10 : PySem.W.keepIn K (.ref f10) = true)
    (a11 : PySem.W.nsIn K mainGlobals "law" = some (some (.ref f11))) (l11 : K.lookup f11 = some ⟨oc11, od11, .func (PySem.W.fnOf "law" "law" (defArgs sLaw) (defBody sLaw) (defScope sLaw) .none kV11 dc11 pm11 an11 cd11 ct11), sl11⟩) (c11 : PySem.W.codeIn K cd11 "law" = true) (k11 : PySem.W.keepIn K (.ref f11) = true)
    (aComb : PySem.W.nsIn K mainGlobals "comb" = some (some (.builtin "math.comb")))
    (zlen : PySem.W.nsIn K mainGlobals "len" = some none) (zint : PySem.W.nsIn K mainGlobals "int" = some none) (zabs : PySem.W.nsIn K mainGlobals "abs" = some none) (zrange : PySem.W.nsIn K mainGlobals "range" = some none) (zrepr : PySem.W.nsIn K mainGlobals "repr" = some none) (zmax : PySem.W.nsIn K mainGlobals "max" = some none) (zsum : PySem.W.nsIn K mainGlobals "sum" = some none) (zzip : PySem.W.nsIn K mainGlobals "zip" = some none) :
    ∃ fd : FuncData, (∀ (s : Shared) (v : Value), BindsTo s fd ⟨[v], []⟩ [("_law_script", v)]) ∧ ∀ base : Heap, K.In base → base.Ns mainGlobals mg → FnG l.prog w K mg base 4 fa fd ["_law_script"] (spLaw K) := by
  have e := hfa.symm.trans (PySem.W.mg_of X G a11)
  cases e
  have T : Txt K mg := ⟨PySem.W.mg_none_of X G zlen, PySem.W.mg_none_of X G zint, PySem.W.mg_none_of X G zabs, PySem.W.mg_none_of X G zrange, PySem.W.mg_none_of X G zrepr, PySem.W.mg_none_of X G zmax, PySem.W.mg_none_of X G zsum, PySem.W.mg_none_of X G zzip, PySem.W.mg_of X G aComb⟩
  have F1 := fun_mk (st := sSteps) l1 c1 k1
  have b1 := F1.binds (ps := ["levels", "many"]) fun _ _ _ _ _ _ us hl => match us, hl with | [_, _], _ => rfl
  have F2 := fun_mk (st := sMow) l2 c2 k2
  have b2 := F2.binds (ps := ["many", "wide", "plain"]) fun _ _ _ _ _ _ us hl => match us, hl with | [_, _, _], _ => rfl
  have F3 := fun_mk (st := sLevels) l3 c3 k3
  have B3 : FunD K "levels_for" "levels_for" (defArgs sLevels) (defBody sLevels) (defScope sLevels) [] [("plain", V.bl false)] f3 _ := ⟨⟨_, _, _, _, _, _, _, _, _, _, rfl, l3, c3, .inl ⟨rfl, rfl⟩, .inr ⟨D3, rfl, fun q hq => by rw [List.mem_singleton.mp hq]; exact ⟨_, d3, rfl⟩⟩⟩, k3⟩
  obtain ⟨ds3, dv3, b3⟩ := B3.binds0 (ps := ["many", "plain"]) 1 (by simp) rfl (fun D doc pm an cdv ct us ks h1 h2 => match us, h1, ks, h2 with | [_], _, [_], _ => ⟨_, _, _, _, _, _, rfl, rfl, rfl⟩)
  have kb3 : KBn K _ ["many", "plain"] 1 ["plain"] (fun us ws => us ++ ws) (fun vs zs => vs ++ zs) := ⟨fun s us ws _ h1 h2 => match us, h1, ws, h2 with | [_], _, [_], _ => .of_eq (fd := PySem.W.fnOf "levels_for" "levels_for" (defArgs sLevels) (defBody sLevels) (defScope sLevels) .none (.ref D3) dc3 pm3 an3 cd3 ct3) rfl, fun r1 r2 => r1.append r2⟩
  have F4 := fun_mk (st := sFewest) l4 c4 k4
  have B4 : FunD K "fewest_for" "fewest_for" (defArgs sFewest) (defBody sFewest) (defScope sFewest) [] [("plain", V.bl false)] f4 _ := ⟨⟨_, _, _, _, _, _, _, _, _, _, rfl, l4, c4, .inl ⟨rfl, rfl⟩, .inr ⟨D4, rfl, fun q hq => by rw [List.mem_singleton.mp hq]; exact ⟨_, d4, rfl⟩⟩⟩, k4⟩
  obtain ⟨ds4, dv4, b4⟩ := B4.binds0 (ps := ["many", "plain"]) 1 (by simp) rfl (fun D doc pm an cdv ct us ks h1 h2 => match us, h1, ks, h2 with | [_], _, [_], _ => ⟨_, _, _, _, _, _, rfl, rfl, rfl⟩)
  have kb4 : KBn K _ ["many", "plain"] 1 ["plain"] (fun us ws => us ++ ws) (fun vs zs => vs ++ zs) := ⟨fun s us ws _ h1 h2 => match us, h1, ws, h2 with | [_], _, [_], _ => .of_eq (fd := PySem.W.fnOf "fewest_for" "fewest_for" (defArgs sFewest) (defBody sFewest) (defScope sFewest) .none (.ref D4) dc4 pm4 an4 cd4 ct4) rfl, fun r1 r2 => r1.append r2⟩
  have F5 := fun_mk (st := sWidth) l5 c5 k5
  have B5 : FunD K "width_for" "width_for" (defArgs sWidth) (defBody sWidth) (defScope sWidth) [] [("plain", V.bl false)] f5 _ := ⟨⟨_, _, _, _, _, _, _, _, _, _, rfl, l5, c5, .inl ⟨rfl, rfl⟩, .inr ⟨D5, rfl, fun q hq => by rw [List.mem_singleton.mp hq]; exact ⟨_, d5, rfl⟩⟩⟩, k5⟩
  obtain ⟨ds5, dv5, b5⟩ := B5.binds0 (ps := ["many", "plain"]) 1 (by simp) rfl (fun D doc pm an cdv ct us ks h1 h2 => match us, h1, ks, h2 with | [_], _, [_], _ => ⟨_, _, _, _, _, _, rfl, rfl, rfl⟩)
  have kb5 : KBn K _ ["many", "plain"] 1 ["plain"] (fun us ws => us ++ ws) (fun vs zs => vs ++ zs) := ⟨fun s us ws _ h1 h2 => match us, h1, ws, h2 with | [_], _, [_], _ => .of_eq (fd := PySem.W.fnOf "width_for" "width_for" (defArgs sWidth) (defBody sWidth) (defScope sWidth) .none (.ref D5) dc5 pm5 an5 cd5 ct5) rfl, fun r1 r2 => r1.append r2⟩
  have F6 := fun_mk (st := sBag) l6 c6 k6
  have b6 := F6.binds (ps := ["_law_script"]) fun _ _ _ _ _ _ us hl => match us, hl with | [_], _ => rfl
  have F7 := fun_mk (st := sTake) l7 c7 k7
  have b7 := F7.binds (ps := ["_law_bag_here", "_law_upto"]) fun _ _ _ _ _ _ us hl => match us, hl with | [_, _], _ => rfl
  have F8 := fun_mk (st := sAlike) l8 c8 k8
  have b8 := F8.binds (ps := ["_law_found", "_law_due_here"]) fun _ _ _ _ _ _ us hl => match us, hl with | [_, _], _ => rfl
  have F9 := fun_mk (st := sSizes) l9 c9 k9
  have b9 := F9.binds (ps := ["_law_many"]) fun _ _ _ _ _ _ us hl => match us, hl with | [_], _ => rfl
  have F10 := fun_mk (st := sDue) l10 c10 k10
  have b10 := F10.binds (ps := ["_law_many", "_law_bare"]) fun _ _ _ _ _ _ us hl => match us, hl with | [_, _], _ => rfl
  have F11 := fun_mk (st := sLaw) l11 c11 k11
  have b11 := F11.binds (ps := ["_law_script"]) fun _ _ _ _ _ _ us hl => match us, hl with | [_], _ => rfl
  refine ⟨PySem.W.fnOf "law" "law" (defArgs sLaw) (defBody sLaw) (defScope sLaw) .none kV11 dc11 pm11 an11 cd11 ct11, fun s v => .of_eq rfl, fun base _ _ => ?_⟩
  let c_1 : Cal l.prog w K mg base 1 "sum_of_steps" ["levels", "many"] (spSum) := ⟨_, _, ok_sum F1 T, PySem.W.mg_of X G a1, k1, b1⟩
  let c_2 : Cal l.prog w K mg base 1 "most_of_width" ["many", "wide", "plain"] (spMow) := ⟨_, _, ok_mow F2 T, PySem.W.mg_of X G a2, k2, b2⟩
  let c_3 : CalK l.prog w K mg base 2 "levels_for" (spLevels) := ⟨_, _, ds3, ok_levels F3 T c_2, PySem.W.mg_of X G a3, k3, kb3, dv3, b3⟩
  let c_4 : CalK l.prog w K mg base 3 "fewest_for" (spFew) := ⟨_, _, ds4, ok_fewest F4 T c_3, PySem.W.mg_of X G a4, k4, kb4, dv4, b4⟩
  let c_5 : CalK l.prog w K mg base 3 "width_for" (spWid) := ⟨_, _, ds5, ok_width F5 T c_3 c_1, PySem.W.mg_of X G a5, k5, kb5, dv5, b5⟩
  let c_6 : Cal l.prog w K mg base 1 "_law_bag" ["_law_script"] (spBag K) := ⟨_, _, ok_bag F6 T, PySem.W.mg_of X G a6, k6, b6⟩
  let c_7 : Cal l.prog w K mg base 1 "_law_take" ["_law_bag_here", "_law_upto"] (spTake) := ⟨_, _, ok_take F7 T, PySem.W.mg_of X G a7, k7, b7⟩
  let c_8 : CalG l.prog w K mg base 1 "_law_alike" ["_law_found", "_law_due_here"] (spAlikeD K) := ⟨_, _, ok_alike F8 T, PySem.W.mg_of X G a8, k8, b8⟩
  let c_9 : Cal l.prog w K mg base 1 "_law_sizes" ["_law_many"] (spSizes) := ⟨_, _, ok_sizes F9 T, PySem.W.mg_of X G a9, k9, b9⟩
  let c_10 : Cal l.prog w K mg base 2 "_law_due" ["_law_many", "_law_bare"] (spDue) := ⟨_, _, ok_due F10 T c_9, PySem.W.mg_of X G a10, k10, b10⟩
  exact ok_law F11 T c_6 c_7 c_8 c_10 c_3 c_4 c_5
theorem walk {l : PySem.W.OpenLaw} {q : Program} {loose : List Str} {XP : (Str → Option Value) → Heap → Prop} {YP : World → Heap → Prop} {d : DefRec} {K : Params → PySem.W.Frag} (hn : l.most = some 63) (hdf : d.params.defaults = [])
    (hY : ∀ (w : World) (h : Heap), YP w h → (K w.params).In h)
    (F : ∀ (w : World) (mg : Str → Option Value) (fa : Addr) (h : Heap), (K w.params).In h → h.Ns mainGlobals mg → mg d.name = some (.ref fa) →
      ∃ fd : FuncData, (∀ (s : Shared) (u : Value), BindsTo s fd ⟨[u], []⟩ [("_law_script", u)]) ∧ ∀ base : Heap, (K w.params).In base → base.Ns mainGlobals mg → FnG l.prog w (K w.params) mg base 4 fa fd ["_law_script"] (spLaw (K w.params))) :
    PySem.W.WalkO q loose XP YP l.row.toRowW d [] (fun f vs => PySem.call f vs) :=
  walk_g (n := 63) (k := 4) (x := "_law_script") (sp := fun w => spLaw (K w.params)) hn (by decide) hdf ⟨rfl, by decide, by decide⟩ hY F (fun _ _ a ns hl _ hS => ⟨a, ns, rfl, hS, hl, fun _ => rfl⟩)
end Qk
open PySem PySem.W PyProof.Rows
set_option maxRecDepth 100000 in
set_option maxHeartbeats 0 in
theorem PySem.Challenge.cw_narrowkeys_k77_whole_everything_far_holds : PySem.Challenge.rw_narrowkeys_k77_whole_everything_far.Holds := by
  w_on; o_law; k_head; (case hw => w_witness2)
  k_fill
  refine Qk.walk (l := PySem.Challenge.rw_narrowkeys_k77_whole_everything_far) rfl rfl (fun w h Y => PySem.W.kIn_of Y) ?F
  case F =>
    intro w mg fa h KX G hmg
    refine' Qk.all_mk KX G hmg ?a1 ?l1 ?c1 ?k1 ?a2 ?l2 ?c2 ?k2 ?a3 ?l3 ?c3 ?d3 ?k3 ?a4 ?l4 ?c4 ?d4 ?k4 ?a5 ?l5 ?c5 ?d5 ?k5 ?a6 ?l6 ?c6 ?k6 ?a7 ?l7 ?c7 ?k7 ?a8 ?l8 ?c8 ?k8 ?a9 ?l9 ?c9 ?k9 ?a10 ?l10 ?c10 ?k10 ?a11 ?l11 ?c11 ?k11 ?aComb ?zlen ?zint ?zabs ?zrange ?zrepr ?zmax ?zsum ?zzip
    (case a1 => k_is)
    (case l1 => k_is)
    (case c1 => k_is)
    (case k1 => k_is)
    (case a2 => k_is)
    (case l2 => k_is)
    (case c2 => k_is)
    (case k2 => k_is)
    (case a3 => k_is)
    (case l3 => k_is)
    (case c3 => k_is)
    (case d3 => k_is)
    (case k3 => k_is)
    (case a4 => k_is)
    (case l4 => k_is)
    (case c4 => k_is)
    (case d4 => k_is)
    (case k4 => k_is)
    (case a5 => k_is)
    (case l5 => k_is)
    (case c5 => k_is)
    (case d5 => k_is)
    (case k5 => k_is)
    (case a6 => k_is)
    (case l6 => k_is)
    (case c6 => k_is)
    (case k6 => k_is)
    (case a7 => k_is)
    (case l7 => k_is)
    (case c7 => k_is)
    (case k7 => k_is)
    (case a8 => k_is)
    (case l8 => k_is)
    (case c8 => k_is)
    (case k8 => k_is)
    (case a9 => k_is)
    (case l9 => k_is)
    (case c9 => k_is)
    (case k9 => k_is)
    (case a10 => k_is)
    (case l10 => k_is)
    (case c10 => k_is)
    (case k10 => k_is)
    (case a11 => k_is)
    (case l11 => k_is)
    (case c11 => k_is)
    (case k11 => k_is)
    (case aComb => k_is)
    (case zlen => k_is)
    (case zint => k_is)
    (case zabs => k_is)
    (case zrange => k_is)
    (case zrepr => k_is)
    (case zmax => k_is)
    (case zsum => k_is)
    (case zzip => k_is)
#print axioms PySem.Challenge.cw_narrowkeys_k77_whole_everything_far_holds
