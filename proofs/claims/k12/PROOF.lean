import PyProof.Rows.All
import Wide.All
import OpenK.AllK
import Wide.FinOn
import HandS.ForMost
import HandS.More
import HandS.TupAny
import HandS.Star
import HandS.Evl
import PyProof.Rows.StrMeet
import HandS.Walk
import PyProof.StrLawsRepr
import HandS.SortRule
import HandS.Deep
import KE.GoesEnum
import KE.GoesMore
import HandS.ExcInit
import HandS.ExcIs
import HandS.ExcField
import HandS.ExcValue
import HandS.IsInst
import KE.KExcIs
import KE.KExcInit
import KE.KExcMake
import HandS.TupSets
import HandS.SetKeys
import HandS.Strs
import HandS.StrMore
import HandS.Exc
import HandS.ExcOwn
import HandS.WordsExc
import PyProof.NeKinds
import HandS.Defaults
import PySem.Challenge.RW_narrowkeys_k12_asking
set_option Elab.async false
set_option linter.all false
set_option maxRecDepth 100000
set_option maxHeartbeats 4000000
namespace Qk
open PySem PySem.Spec PyProof.Rows L2

/-! rules of my own: a list's item read for an augmented store, repr of flat values, sorted of a list or a tuple of texts -/
section
variable {X : Cx}

theorem get_list : PGet X (fun o i H Q => ∃ p xs j v, o = .ref p ∧ i = .int ((j : Nat) : Int) ∧ SqL X.K H p xs ∧ xs[j]? = some v ∧ Q v H) := by
  intro pins s σ H o i ov iv Q I ro ri h
  obtain ⟨p, xs, j, v, rfl, rfl, hx, ha, q⟩ := h
  cases ro
  obtain ⟨t, rfl⟩ := ri
  obtain ⟨its, r, pl, hz⟩ := I.list hx
  obtain ⟨w, ew, rw'⟩ := r.get ha
  have hj : j < xs.length := (List.getElem?_eq_some_iff.mp ha).1
  have hn := line63
  exact wpAny_getItem_list pl.isList (by omega) (by omega) (by simpa using ew) ⟨v, H, I, rw', q⟩

/-- flat values, as repr shows them -/
def flatText : V → Option Str
  | .non => some "None"
  | .bl b => some (if b then "True" else "False")
  | .int i => if i.natAbs.log2 < 1920 then some (toString i) else none
  | _ => none
def rReprF : List V → Hp → VK → Prop := fun vs H Q => ∃ x t, vs = [x] ∧ flatText x = some t ∧ Q (.str t) H
theorem call_reprF : CallR X (.builtin "repr") rReprF := by
  intro pins s σ H xs us Q I r h
  obtain ⟨x, t, rfl, e, q⟩ := h
  obtain ⟨u, rfl, rx⟩ := vals1 r
  cases x with
  | non =>
    cases rx
    obtain rfl := Option.some.inj e
    exact PySem.P.repr_of_none ⟨.str _, H, I.tok _, ⟨_, rfl⟩, q⟩
  | bl b =>
    cases rx
    obtain rfl := Option.some.inj e
    exact PySem.P.repr_of_bool ⟨.str _, H, I.tok _, ⟨_, rfl⟩, q⟩
  | int i =>
    obtain ⟨tk, rfl⟩ := rx
    replace e : (if i.natAbs.log2 < 1920 then some (Str.ofString (toString i)) else none) = some t := e
    by_cases hz : i.natAbs.log2 < 1920
    · rw [if_pos hz] at e
      obtain rfl := Option.some.inj e
      exact PySem.P.repr_of_int hz ⟨.str _, H, I.tok _, ⟨_, rfl⟩, q⟩
    · rw [if_neg hz] at e
      cases e
  | str _ => cases e
  | byt _ => cases e
  | flt _ => cases e
  | ref _ => cases e
  | ty _ => cases e

def rSortedST (K : PySem.W.Frag) : List V → Hp → VK → Prop := fun vs H Q => ∃ (a : Addr) (ss : List Str), vs = [V.ref a] ∧ (SqL K H a (ss.map V.str) ∨ SqT K H a (ss.map V.str)) ∧ ss.length < 64 ∧
  ∀ (ys : List Str) (p : Addr), ys.Perm ss → sortedS ys = true → H p = none → Q (.ref p) (upd H p (.lst (ys.map V.str)))
theorem cr_sortedST : CallR X (.builtin "sorted") (rSortedST X.K) := by
  intro pins s σ H vs us Q I r h
  obtain ⟨a, ss, rfl, hs, h64, q⟩ := h
  rcases hs with hs | hs
  · exact cr_sortedS pins s σ H _ us Q I r ⟨a, ss, rfl, hs, h64, q⟩
  · obtain ⟨its, rv, ⟨o, ho, hc, n, hd⟩, hz⟩ := I.tuple hs
    rw [Vals.ref1 r]
    have hS : StrsAre its ss := rv.strs
    have hl : its.length = ss.length := by
      have z := rv.length
      rw [List.length_map] at z
      exact z.symm
    refine Calls.call_function_entry PyProof.Rows.kind_sorted PyProof.Rows.plain_sorted PyProof.Rows.entry_sorted (PyProof.Rows.args_sorted1 _) ?_
    unfold Builtin.«sorted»
    refine wpAny_bind (m := checkCount "sorted" 1 1 _) (wpAny_pure ?_)
    refine wpAny_bind (wpAny_collect_seq a (.inr rfl) ho hc hd (fun h' hk => ?_) (by rw [List.size_toArray, hl, sizeLine_eq]; omega))
    have e0 : its.toArray.toList = its := by simp
    rw [e0]
    have I1 : Inv X pins σ H { s with heap := h' } := I.kept (t' := s.toks) hk
    refine wpAny_bind (wpAny_newList ?_ (by rw [hl, sizeLine_eq]; omega))
    have hoL : (h'.push (seqObj "list" its.toArray 0)).get? h'.objs.size = some (seqObj "list" its.toArray 0) := Heap.get?_push_size _ rfl
    show wpAny _ _ _ _ _ { s with heap := h'.push (seqObj "list" its.toArray 0) }
    refine wpAny_bind (wpAny_holding (wpAny_call_entry PyProof.Rows.slot_list_sort ⟨_, hoL, rfl⟩ PyProof.Rows.entry_list_sort
      (list_sort_treeK strKind_oneLt (s := { s with heap := h'.push (seqObj "list" its.toArray 0) }) hoL hS.keysOf (fun v₁ v₂ rest e => keyKind_strs (by rw [← e]; exact hS)) (by rw [hl]; exact h64) fun st' hp hs => ⟨_, rfl, ?_⟩)
      (PyProof.Rows.args_list_sort _)))
    obtain ⟨ys, g1, g2, g3⟩ := sorted_out_str hS hp hs
    obtain ⟨ep, he'⟩ := PyProof.Rows.sortedHeap_at (vs := its) (out := (arrOf st').map (·.2)) hoL
    have hlen : (ys.map V.str).length ≤ sizeLine := by
      rw [List.length_map, g2.length_eq]
      exact Nat.le_trans (Nat.le_of_lt h64) (by decide)
    have hfresh : H h'.objs.size = none := I1.hok.fresh (Nat.le_refl _)
    refine wpAny_pure ⟨_, rfl, .ref h'.objs.size, upd H h'.objs.size (.lst (ys.map V.str)), I1.laid (t' := s.toks) (fun b u hu => ?_) (Nat.le_refl _)
      (show ObjOk X.prog X.w _ _ h'.objs.size (.lst (ys.map V.str)) from ⟨hlen, ((arrOf st').map (·.2)).toList, ep, vals_of_strs g1, by rw [Array.toArray_toList]; exact he'⟩), rfl, q ys _ g2 g3 hfresh⟩
    have hb : b ≠ h'.objs.size := Nat.ne_of_lt (Heap.lt_size hu)
    have hu2 : (h'.push (seqObj "list" its.toArray 0)).get? b = some u := Heap.get?_push_of_some _ hu
    rw [PyProof.Rows.sortedHeap_old hb (Heap.lt_size hu2)]
    exact hu2
end
end Qk

set_option maxRecDepth 100000
set_option maxHeartbeats 4000000
namespace Qk
open PySem PySem.Spec PyProof.Rows L2

/-! the law's bag of draws: what is known of it, and what a draw may touch -/
def Bag (H : Hp) (b l : Addr) : Prop := ∃ (h m : Int) (p : Nat) (ns : List Int), H b = some (.lst [.int h, .int m, .int (p : Int), .ref l]) ∧ H l = some (.lst (ns.map V.int)) ∧ l ≠ b ∧
  0 ≤ h ∧ 0 ≤ m ∧ m < 2147483647 ∧ ∀ n ∈ ns, 0 ≤ n
/-- all but b is kept -/
def Kp (b : Addr) (H H' : Hp) : Prop := ∀ c o, H c = some o → c ≠ b → H' c = some o
theorem Kp.refl (b : Addr) (H : Hp) : Kp b H H := fun _ _ e _ => e
theorem Kp.trans {b : Addr} {H H1 H2 : Hp} (x : Kp b H H1) (y : Kp b H1 H2) : Kp b H H2 := fun c o e n => y c o (x c o e n) n
theorem Kp.of {b : Addr} {H H' : Hp} (s : Same H H') : Kp b H H' := fun c o e _ => s c o e
theorem Kp.at_ (b : Addr) (H : Hp) (o : HO) : Kp b H (upd H b o) := fun c u e n => by rw [upd_ne n]; exact e
theorem Kp.new {b p : Addr} {H : Hp} {o : HO} (hp : H p = none) : Kp b H (L2.upd H p o) := fun c u e _ => by rw [upd_ne (ne_of_none e hp)]; exact e
theorem Bag.at_ {H : Hp} {b l : Addr} (B : Bag H b l) : ∃ o, H b = some o := by
  obtain ⟨h, m, p, ns, hb, _⟩ := B
  exact ⟨_, hb⟩
theorem Bag.same {H H' : Hp} {b l : Addr} (s : Same H H') (B : Bag H b l) : Bag H' b l := by
  obtain ⟨h, m, p, ns, hb, hl, r⟩ := B
  exact ⟨h, m, p, ns, s _ _ hb, s _ _ hl, r⟩
theorem same_new {H : Hp} {p : Addr} {o : HO} (h : H p = none) : Same H (upd H p o) := fun b x e => by
  rw [upd_ne (ne_of_none e h)]
  exact e
theorem Bag.new {H : Hp} {b l p : Addr} {o : HO} (B : Bag H b l) (h : H p = none) : Bag (upd H p o) b l := B.same (same_new h)
theorem Bag.ne {H : Hp} {b l p : Addr} (B : Bag H b l) (h : H p = none) : p ≠ b := by
  obtain ⟨o, e⟩ := B.at_
  exact (ne_of_none e h).symm
/-- the bag stands nowhere where something of another kind stands -/
theorem Bag.ne_tup {H : Hp} {b l p : Addr} {xs : List V} (B : Bag H b l) (h : H p = some (.tup xs)) : p ≠ b := by
  obtain ⟨h', m, q, ns, hb, _⟩ := B
  exact ne_of h hb (by intro z; cases z)
theorem Bag.ne_strs {H : Hp} {b l p : Addr} {xs : List Str} (B : Bag H b l) (h : H p = some (.lst (xs.map V.str))) : p ≠ b := by
  obtain ⟨h', m, q, ns, hb, _⟩ := B
  refine ne_of h hb fun z => ?_
  injection z with z
  cases xs with
  | nil => cases z
  | cons x xs =>
    rw [List.map_cons] at z
    injection z with z _
    cases z
/-- what stands beside the bag and its list may change -/
theorem Bag.off {H H' : Hp} {b l p : Addr} (B : Bag H b l) (h : ∀ c o, H c = some o → c ≠ p → H' c = some o) (nb : b ≠ p) (nl : l ≠ p) : Bag H' b l := by
  obtain ⟨h', m, q, ns, hb, hl, r⟩ := B
  exact ⟨h', m, q, ns, h _ _ hb nb, h _ _ hl nl, r⟩
theorem Bag.list {H : Hp} {b l : Addr} (B : Bag H b l) : ∃ o, H l = some o := by
  obtain ⟨h, m, p, ns, hb, hl, _⟩ := B
  exact ⟨_, hl⟩
theorem Bag.nel {H : Hp} {b l p : Addr} (B : Bag H b l) (h : H p = none) : l ≠ p := by
  obtain ⟨o, e⟩ := B.list
  exact ne_of_none e h
theorem Bag.upd {H : Hp} {b l p : Addr} {o : HO} (B : Bag H b l) (nb : b ≠ p) (nl : l ≠ p) : Bag (L2.upd H p o) b l :=
  B.off (fun c u e n => by rw [upd_ne n]; exact e) nb nl
theorem rIx {K : PySem.W.Frag} {H : Hp} {b : Addr} {xs : List V} {v : V} {Q : VK} (j : Nat) (h : H b = some (.lst xs)) (e : xs[j]? = some v) (q : Q v H) : rIxL K (.ref b) (.int (j : Int)) H Q :=
  ⟨b, xs, (j : Int), v, rfl, rfl, SqL.of h, atI_nat e, q⟩
theorem setIx {H : Hp} {b : Addr} {xs : List V} {v : V} {Q : Hp → Prop} (j : Nat) (h : H b = some (.lst xs)) (e : j < xs.length) (q : Q (upd H b (.lst (xs.set j v)))) : rSetL (.ref b) (.int (j : Int)) v H Q :=
  ⟨b, xs, (j : Int), j, rfl, rfl, h, Evl.ixN_nat e, q⟩

/-! promises of the law's own helpers -/
/-- a draw: a number below many, the bag moves on -/
def spTake : Sp := fun vs H Q _ => ∃ (b l : Addr) (n : Int), vs = [.ref b, .int n] ∧ Bag H b l ∧ 0 < n ∧ n < 1000000 ∧ ∀ (k : Nat) (H' : Hp), (k : Int) < n → Bag H' b l → Kp b H H' → Q (.int (k : Int)) H'
/-- one of a list -/
def spOne : Sp := fun vs H Q _ => ∃ (b l a : Addr) (xs : List V), vs = [.ref b, .ref a] ∧ Bag H b l ∧ a ≠ b ∧ H a = some (.lst xs) ∧ xs ≠ [] ∧ xs.length < 1000 ∧ ∀ (x : V) (H' : Hp), x ∈ xs → Bag H' b l → Kp b H H' → Q x H'
/-- a new list of the same things in some order -/
def spMixed : Sp := fun vs H Q _ => ∃ (b l a : Addr) (xs : List V), vs = [.ref b, .ref a] ∧ Bag H b l ∧ a ≠ b ∧ H a = some (.lst xs) ∧ xs.length < 1000 ∧
  ∀ (ys : List V) (p : Addr) (H' : Hp), ys.Perm xs → H p = none → p ≠ b → H' p = some (.lst ys) → Bag H' b l → Kp b H H' → Q (.ref p) H'

/-- the bag of a script -/
def spBag (K : PySem.W.Frag) : Sp := fun vs H Q _ => ∃ (a : Addr) (ns : List Int), vs = [.ref a] ∧ SqL K H a (ns.map V.int) ∧ ns.length ≤ 63 ∧ ∀ (b l : Addr) (H' : Hp), H b = none → Bag H' b l → Same H H' → Q (.ref b) H'
/-- a def that is called by its name -/
structure Cal (P : Program) (w : World) (K : PySem.W.Frag) (mg : Str → Option Value) (base : Heap) (k : Nat) (x : Str) (ps : List Str) (sp : Sp) where
  f : Addr
  fd : FuncData
  G : FnOk P w K mg base CX0 k f fd ps sp
  m : mg x = some (.ref f)
  kp : PySem.W.keepIn K (.ref f) = true
  b : Binds K fd ps []
theorem cut_to (k : Nat) (xs : List V) : cutV xs none (some (k : Int)) = xs.take k := by
  unfold cutV
  rw [HT.sIx_none, HT.sIx_nat, List.drop_zero, Nat.sub_zero]
  by_cases h : k ≤ xs.length
  · rw [Nat.min_eq_left h]
  · rw [Nat.min_eq_right (by omega), List.take_of_length_le (Nat.le_refl _), List.take_of_length_le (by omega)]
theorem take_mod {k n : Int} (hn : 0 < n) : ∃ j : Nat, k % n = (j : Int) ∧ (j : Int) < n := by
  have h1 := Int.emod_nonneg k (show n ≠ 0 by omega)
  have h2 := Int.emod_lt_of_pos k hn
  exact ⟨(k % n).toNat, by omega, by omega⟩
/-- the names that the laws draw from -/
def menu0 : List Str := ["a", "b", "ab", "ba", "job", "view", "pin", "quay", "stock", "golfer", "exhumed", "zzzzzzzz"]
/-- .. and others of other laws -/
def menu : List Str := menu0 ++ (["aa", "z", "power", "status", "ask", "quicklyx", "fghmndct", "q", "c", "d", "e", "f", "g", "h", "i", "j", "k", "l", "m"] : List Str)
theorem menu0_nodup : menu0.Nodup := by decide +kernel
theorem menu0_sub : ∀ c ∈ menu0, c ∈ menu := fun c h => List.mem_append_left _ h
theorem perm_strs {ys : List V} {xs : List Str} (h : ys.Perm (xs.map V.str)) : ∃ zs : List Str, ys = zs.map V.str ∧ zs.Perm xs := by
  have go : ∀ (ys : List V), (∀ y ∈ ys, ∃ z, y = V.str z) → ∃ zs : List Str, ys = zs.map V.str := by
    intro ys
    induction ys with
    | nil => intro _; exact ⟨[], rfl⟩
    | cons y ys ih =>
      intro h
      obtain ⟨z, rfl⟩ := h y List.mem_cons_self
      obtain ⟨zs, rfl⟩ := ih fun y hy => h y (List.mem_cons_of_mem _ hy)
      exact ⟨z :: zs, rfl⟩
  obtain ⟨zs, rfl⟩ := go ys fun y hy => by
    obtain ⟨z, _, e⟩ := List.mem_map.mp (h.mem_iff.mp hy)
    exact ⟨z, e.symm⟩
  refine ⟨zs, rfl, ?_⟩
  have unstr : ∀ l : List Str, (l.map V.str).map (fun v => match v with | .str z => z | _ => "") = l := fun l => by
    rw [List.map_map]
    exact (List.map_congr_left fun _ _ => rfl).trans (List.map_id _)
  have := h.map (fun v => match v with | .str z => z | _ => "")
  rwa [unstr, unstr] at this
/-- some of the menu's names, each once, n at most -/
structure Names (n : Nat) (xs : List Str) : Prop where
  nd : xs.Nodup
  sub : ∀ c ∈ xs, c ∈ menu
  len : xs.length = min n 12
def spNames : Sp := fun vs H Q _ => ∃ (b l : Addr) (n : Nat), vs = [.ref b, .int (n : Int)] ∧ Bag H b l ∧
  ∀ (xs : List Str) (p : Addr) (H' : Hp), Names n xs → H p = none → p ≠ b → H' p = some (.lst (xs.map V.str)) → Bag H' b l → Kp b H H' → Q (.ref p) H'
/-- a row of names -/
structure Row (xs : List Str) : Prop where
  nd : xs.Nodup
  sub : ∀ c ∈ xs, c ∈ menu
  pos : 0 < xs.length
  le : xs.length ≤ 12
theorem Names.row {n : Nat} {xs : List Str} (h : Names n xs) (hn : 0 < n) : Row xs := ⟨h.nd, h.sub, by rw [h.len]; omega, by rw [h.len]; omega⟩
/-- a question as it stands -/
def QAt (H : Hp) (q : Addr) (cols : List Str) (e : Str) : Prop := ∃ c, H q = some (.tup [.ref c, .str e]) ∧ H c = some (.tup (cols.map V.str))
theorem QAt.same {H H' : Hp} {q : Addr} {cols : List Str} {e : Str} (s : Same H H') (h : QAt H q cols e) : QAt H' q cols e := by
  obtain ⟨c, h1, h2⟩ := h
  exact ⟨c, s _ _ h1, s _ _ h2⟩
theorem QAt.kp {H H' : Hp} {q b l : Addr} {cols : List Str} {e : Str} (B : Bag H b l) (s : Kp b H H') (h : QAt H q cols e) : QAt H' q cols e := by
  obtain ⟨c, h1, h2⟩ := h
  exact ⟨c, s _ _ h1 (B.ne_tup h1), s _ _ h2 (B.ne_tup h2)⟩
structure Qok (xs cols : List Str) (e : Str) : Prop where
  nd : cols.Nodup
  srt : sortedS cols = true
  sub : ∀ c ∈ cols, c ∈ xs
  esub : e = "" ∨ e ∈ xs
  ne : e ∉ cols
  some : e = "" → cols ≠ []
  le : cols.length ≤ 12
def spQuestion : Sp := fun vs H Q _ => ∃ (b l a : Addr) (xs : List Str), vs = [.ref b, .ref a] ∧ Bag H b l ∧ a ≠ b ∧ H a = some (.lst (xs.map V.str)) ∧ Row xs ∧
  ∀ (q : Addr) (cols : List Str) (e : Str) (H' : Hp), QAt H' q cols e → Qok xs cols e → Bag H' b l → Kp b H H' → Q (.ref q) H'
def spBeginT : Sp := fun vs H Q _ => ∃ (b l a : Addr) (xs : List Str), vs = [.ref b, .ref a] ∧ Bag H b l ∧ H a = some (.tup (xs.map V.str)) ∧ Row xs ∧
  ∀ (q : Addr) (cols : List Str) (e : Str) (H' : Hp), QAt H' q cols e → Qok xs cols e → Bag H' b l → Kp b H H' → Q (.ref q) H'
def spBeginL : Sp := fun vs H Q _ => ∃ (b l a : Addr) (xs : List Str), vs = [.ref b, .ref a] ∧ Bag H b l ∧ a ≠ b ∧ H a = some (.lst (xs.map V.str)) ∧ Row xs ∧
  ∀ (q : Addr) (cols : List Str) (e : Str) (H' : Hp), QAt H' q cols e → Qok xs cols e → Bag H' b l → Kp b H H' → Q (.ref q) H'
def spIndex : Sp := fun vs H Q _ => ∃ (b l a : Addr) (xs : List Str), vs = [.ref b, .ref a] ∧ Bag H b l ∧ a ≠ b ∧ H a = some (.lst (xs.map V.str)) ∧ Row xs ∧
  ∀ (t : Addr) (ys : List Str) (H' : Hp), H' t = some (.tup (ys.map V.str)) → Row ys → (∀ c ∈ ys, c ∈ xs) → Bag H' b l → Kp b H H' → Q (.ref t) H'
theorem menu_ne : ∀ c ∈ menu, c ≠ "" := by decide +kernel
/-- out of a beginning of some order of a row -/
theorem qok_plain {xs ys zs : List Str} {k : Nat} (R : Row xs) (hp : ys.Perm xs) (hz : zs.Perm (ys.take (k + 1))) (hs : sortedS zs = true) : Qok xs zs "" := by
  have sl := List.take_sublist (k + 1) ys
  have hsub : ∀ c ∈ zs, c ∈ xs := fun c hc => hp.mem_iff.mp (sl.mem (hz.mem_iff.mp hc))
  have hl := R.le
  have hpos := R.pos
  have hyl := hp.length_eq
  have hzl := hz.length_eq
  rw [List.length_take] at hzl
  refine ⟨hz.nodup_iff.mpr ((hp.nodup_iff.mpr R.nd).sublist sl), hs, hsub, .inl rfl, fun h => menu_ne _ (R.sub _ (hsub _ h)) rfl, fun _ h => ?_, by omega⟩
  rw [h] at hzl
  simp at hzl
  omega
theorem qok_ranged {xs ys zs : List Str} {k : Nat} {e : Str} (R : Row xs) (hp : ys.Perm xs) (he : ys[k]? = some e) (hz : zs.Perm (ys.take k)) (hs : sortedS zs = true) : Qok xs zs e := by
  have sl := List.take_sublist k ys
  have hsub : ∀ c ∈ zs, c ∈ xs := fun c hc => hp.mem_iff.mp (sl.mem (hz.mem_iff.mp hc))
  have hmem : e ∈ xs := hp.mem_iff.mp (List.mem_of_getElem? he)
  have hl := R.le
  have hyl := hp.length_eq
  have hzl := hz.length_eq
  rw [List.length_take] at hzl
  have ndy := hp.nodup_iff.mpr R.nd
  refine ⟨hz.nodup_iff.mpr (ndy.sublist sl), hs, hsub, .inr hmem, fun h => ?_, fun h => absurd h (menu_ne _ (R.sub _ hmem)), by omega⟩
  have h1 := hz.mem_iff.mp h
  have hk : k < ys.length := (List.getElem?_eq_some_iff.mp he).1
  have e2 : ys = ys.take k ++ ys.drop k := (List.take_append_drop k ys).symm
  have e3 : e ∈ ys.drop k := by
    have : (ys.drop k)[0]? = some e := by rw [List.getElem?_drop]; exact he
    exact List.mem_of_getElem? this
  rw [e2] at ndy
  exact (List.nodup_append.mp ndy).2.2 _ h1 _ e3 rfl
end Qk

set_option maxRecDepth 100000
set_option maxHeartbeats 4000000
namespace Qk
open PySem PySem.Spec PyProof.Rows L2

/-! sorted lists of texts -/
def leS (a b : Str) : Prop := ltCps b.cps.toList a.cps.toList = false
theorem str_ext {a b : Str} (h : a.cps.toList = b.cps.toList) : a = b := by
  obtain ⟨x⟩ := a
  obtain ⟨y⟩ := b
  simp only at h
  congr 1
  exact Array.toList_inj.mp h
theorem leS_antisymm {a b : Str} (h1 : leS a b) (h2 : leS b a) : a = b := by
  unfold leS at h1 h2
  rw [ltCps_eq] at h1 h2
  have n1 := of_decide_eq_false h1
  have n2 := of_decide_eq_false h2
  exact str_ext (List.le_antisymm (List.not_lt.mp n1) (List.not_lt.mp n2))
theorem leS_refl (a : Str) : leS a a := by
  unfold leS
  rw [ltCps_eq]
  exact decide_eq_false (List.lt_irrefl _)
theorem leS_trans {a b c : Str} (h1 : leS a b) (h2 : leS b c) : leS a c := by
  unfold leS at *
  rw [ltCps_eq] at *
  have n1 := List.not_lt.mp (of_decide_eq_false h1)
  have n2 := List.not_lt.mp (of_decide_eq_false h2)
  exact decide_eq_false (List.not_lt.mpr (List.le_trans n1 n2))
theorem risingS_pw : ∀ (xs : List Str) (p : Str), risingS p xs = true → (p :: xs).Pairwise leS
  | [], p, _ => List.pairwise_singleton _ _
  | x :: r, p, h => by
    rw [risingS, Bool.and_eq_true] at h
    have h1 : leS p x := by
      have := h.1
      rw [Bool.not_eq_true'] at this
      exact this
    have ih := risingS_pw r x h.2
    refine List.pairwise_cons.mpr ⟨fun y hy => ?_, ih⟩
    rcases List.mem_cons.mp hy with rfl | hy
    · exact h1
    · exact leS_trans h1 ((List.pairwise_cons.mp ih).1 y hy)
theorem sortedS_pw {xs : List Str} (h : sortedS xs = true) : xs.Pairwise leS := by
  cases xs with
  | nil => exact List.Pairwise.nil
  | cons x r => exact risingS_pw r x h
theorem perm_sorted : ∀ {xs ys : List Str}, xs.Perm ys → xs.Pairwise leS → ys.Pairwise leS → xs = ys
  | [], ys, h, _, _ => (List.Perm.nil_eq h)
  | x :: xs, [], h, _, _ => absurd h.length_eq (by simp)
  | x :: xs, y :: ys, h, h1, h2 => by
    have e : x = y := by
      rcases List.mem_cons.mp (h.mem_iff.mp List.mem_cons_self) with e | m1
      · exact e
      · rcases List.mem_cons.mp (h.mem_iff.mpr List.mem_cons_self) with e | m2
        · exact e.symm
        · exact leS_antisymm ((List.pairwise_cons.mp h1).1 y m2) ((List.pairwise_cons.mp h2).1 x m1)
    subst e
    rw [perm_sorted (List.Perm.cons_inv h) (List.pairwise_cons.mp h1).2 (List.pairwise_cons.mp h2).2]
theorem sorted_unique {xs ys zs : List Str} (h1 : xs.Perm zs) (h2 : ys.Perm zs) (s1 : sortedS xs = true) (s2 : sortedS ys = true) : xs = ys :=
  perm_sorted (h1.trans h2.symm) (sortedS_pw s1) (sortedS_pw s2)

/-! == of lists and tuples of texts -/
theorem menu_ok : ∀ c ∈ menu, PyData.strOk c = true := by decide +kernel
theorem lay_strs : ∀ {xs : List Str}, (∀ c ∈ xs, PyData.strOk c = true) → PyData.canLayAll0 (xs.map PyData.str) = true
  | [], _ => rfl
  | x :: xs, h => by
    show (PyData.canLay0 (.str x) && PyData.canLayAll0 (xs.map PyData.str)) = true
    rw [lay_strs fun c hc => h c (List.mem_cons_of_mem _ hc), Bool.and_true]
    exact h x List.mem_cons_self
theorem depth_strs : ∀ (xs : List Str), PyData.depthAll (xs.map PyData.str) = 0
  | [] => rfl
  | x :: xs => by
    show max (PyData.depth (.str x)) (PyData.depthAll (xs.map PyData.str)) = 0
    rw [depth_strs xs]
    rfl
theorem eqv_strs : ∀ (xs ys : List Str), PyData.eqvAll (xs.map PyData.str) (ys.map PyData.str) = decide (xs = ys)
  | [], [] => by simp [PyData.eqvAll]
  | [], y :: ys => by simp [PyData.eqvAll]
  | x :: xs, [] => by simp [PyData.eqvAll]
  | x :: xs, y :: ys => by
    show PyData.eqvAll (PyData.str x :: xs.map PyData.str) (PyData.str y :: ys.map PyData.str) = _
    rw [PyData.eqvAll, eqv_strs xs ys, PyData.eqv]
    by_cases h1 : x = y
    · subst h1
      by_cases h2 : xs = ys
      · subst h2
        simp
      · simp [h2]
    · simp [h1]
theorem shaped_list {xs : List Str} (h : ∀ c ∈ xs, PyData.strOk c = true) : SeqAt.shaped (.list (xs.map PyData.str)) = true := by
  unfold SeqAt.shaped
  rw [Bool.and_eq_true]
  exact ⟨lay_strs h, decide_eq_true (by rw [PyData.depth, depth_strs]; decide)⟩
theorem shaped_tuple {xs : List Str} (h : ∀ c ∈ xs, PyData.strOk c = true) : SeqAt.shaped (.tuple (xs.map PyData.str)) = true := by
  unfold SeqAt.shaped
  rw [Bool.and_eq_true]
  exact ⟨lay_strs h, decide_eq_true (by rw [PyData.depth, depth_strs]; decide)⟩
theorem dp_strs {K : PySem.W.Frag} {H : Hp} : ∀ (xs : List Str), DpAll K H (xs.map V.str) (xs.map PyData.str)
  | [] => .nil
  | x :: xs => .cons (.str x) (dp_strs xs)
theorem flat_strs (xs : List Str) : (xs.map V.str).all flatV = true := by
  rw [List.all_map]
  exact List.all_eq_true.mpr fun _ _ => rfl
theorem inV_strs (c : Str) (xs : List Str) : inV (.str c) (xs.map V.str) = decide (c ∈ xs) := by
  unfold inV
  rw [List.any_map]
  by_cases h : c ∈ xs
  · rw [decide_eq_true h]
    exact List.any_eq_true.mpr ⟨c, h, by show (c == c) = true; exact beq_self_eq_true c⟩
  · rw [decide_eq_false h]
    refine List.any_eq_false.mpr fun y hy e => h ?_
    have e' : (y == c) = true := e
    rw [← eq_of_beq e']
    exact hy

theorem perm_of_sub : ∀ {xs ys : List Str}, xs.Nodup → (∀ c ∈ xs, c ∈ ys) → ys.length ≤ xs.length → xs.Perm ys
  | [], ys, _, _, h => by
    have : ys = [] := List.eq_nil_of_length_eq_zero (by simpa using h)
    rw [this]
  | x :: xs, ys, nd, hs, h => by
    have hx := hs x List.mem_cons_self
    have hp := List.perm_cons_erase hx
    obtain ⟨nx, nd'⟩ := List.nodup_cons.mp nd
    have hl := hp.length_eq
    rw [List.length_cons] at hl h
    refine ((perm_of_sub (ys := ys.erase x) nd' (fun c hc => ?_) (by omega)).cons x).trans hp.symm
    have ne : c ≠ x := fun e => nx (e ▸ hc)
    exact (List.mem_erase_of_ne ne).mpr (hs c (List.mem_cons_of_mem _ hc))

/-! the least place of a fault -/
def goodAt (ix cols : List Str) (p : Nat) : Prop := ∃ c, ix[p]? = some c ∧ c ∈ cols
instance (ix cols : List Str) (p : Nat) : Decidable (goodAt ix cols p) :=
  match h : ix[p]? with
  | some c => if hc : c ∈ cols then isTrue ⟨c, h, hc⟩ else isFalse fun ⟨d, hd, hm⟩ => hc (by rw [h] at hd; cases hd; exact hm)
  | none => isFalse fun ⟨d, hd, _⟩ => by rw [h] at hd; cases hd
def fault (ix cols : List Str) (last : Str) : Option Nat :=
  match (List.range cols.length).find? (fun p => !decide (goodAt ix cols p)) with
  | some p => some p
  | none => if last ≠ "" ∧ ix[cols.length]? ≠ some last then some cols.length else none
theorem find_none {n : Nat} {g : Nat → Bool} (h : ∀ p, p < n → g p = false) : (List.range n).find? g = none :=
  List.find?_eq_none.mpr fun p hp e => by rw [h p (List.mem_range.mp hp)] at e; cases e
theorem find_at {n i : Nat} {g : Nat → Bool} (hi : i < n) (h : ∀ p, p < i → g p = false) (hg : g i = true) : (List.range n).find? g = some i := by
  refine List.find?_range_eq_some.mpr ⟨hg, List.mem_range.mpr hi, fun j hj => ?_⟩
  rw [h j hj]
  rfl
theorem fault_at {ix cols : List Str} {last : Str} {i : Nat} (hi : i < cols.length) (h : ∀ p, p < i → goodAt ix cols p) (hg : ¬ goodAt ix cols i) : fault ix cols last = some i := by
  unfold fault
  rw [find_at hi (fun p hp => by rw [decide_eq_true (h p hp)]; rfl) (by rw [decide_eq_false hg]; rfl)]
theorem fault_end {ix cols : List Str} {last : Str} (h : ∀ p, p < cols.length → goodAt ix cols p) : fault ix cols last = if last ≠ "" ∧ ix[cols.length]? ≠ some last then some cols.length else none := by
  unfold fault
  rw [find_none fun p hp => by rw [decide_eq_true (h p hp)]; rfl]
theorem fault_le {ix cols : List Str} {last : Str} {p : Nat} (h : fault ix cols last = some p) : p ≤ cols.length := by
  unfold fault at h
  split at h
  · next q e =>
    cases h
    have := List.mem_range.mp (List.mem_of_find?_eq_some e)
    omega
  · split at h
    · cases h
      omega
    · cases h
def optV : Option Nat → V
  | none => .non
  | some n => .int (n : Int)
/-- no fault just if the beginning is made of the columns, with the last one behind -/
theorem fault_none {ix cols ws : List Str} {last : Str} (hix : ix.Nodup) (hc : cols.Nodup) (hs : sortedS cols = true) (hw : ws.Perm (ix.take cols.length)) (hws : sortedS ws = true) :
    fault ix cols last = none ↔ ws = cols ∧ (last = "" ∨ ix[cols.length]? = some last) := by
  constructor
  · intro h
    unfold fault at h
    split at h
    · cases h
    · next e =>
      have good : ∀ p, p < cols.length → goodAt ix cols p := fun p hp => by
        have := List.find?_eq_none.mp e p (List.mem_range.mpr hp)
        simpa using this
      constructor
      · have hle : cols.length ≤ ix.length := by
          rcases Nat.lt_or_ge ix.length cols.length with hlt | hge
          · obtain ⟨c, h1, _⟩ := good ix.length hlt
            rw [List.getElem?_eq_none (Nat.le_refl _)] at h1
            cases h1
          · exact hge
        have hlen : (ix.take cols.length).length = cols.length := by rw [List.length_take]; omega
        have hsub : ix.take cols.length ⊆ cols := fun c hc' => by
          obtain ⟨p, hp, e⟩ := List.mem_iff_getElem.mp hc'
          rw [hlen] at hp
          obtain ⟨d, h1, h2⟩ := good p hp
          rw [List.getElem_take] at e
          rw [List.getElem?_eq_getElem (by omega)] at h1
          cases h1
          rw [← e]
          exact h2
        have hperm : (ix.take cols.length).Perm cols := perm_of_sub (hix.sublist (List.take_sublist _ _)) (fun c hc => hsub hc) (by omega)
        exact sorted_unique hw hperm.symm hws hs
      · by_cases h1 : last = ""
        · exact .inl h1
        · by_cases h2 : ix[cols.length]? = some last
          · exact .inr h2
          · rw [if_pos ⟨h1, h2⟩] at h
            cases h
  · rintro ⟨rfl, h2⟩
    rw [fault_end fun p hp => ?_]
    · rw [if_neg]
      rintro ⟨a1, a2⟩
      rcases h2 with h2 | h2
      · exact a1 h2
      · exact a2 h2
    · have hl := hw.length_eq
      rw [List.length_take] at hl
      have hp2 : p < ix.length := by omega
      refine ⟨ix[p], List.getElem?_eq_getElem hp2, hw.mem_iff.mpr ?_⟩
      exact List.mem_iff_getElem.mpr ⟨p, by rw [List.length_take]; omega, by rw [List.getElem_take]⟩

/-! promises about serving -/
def spFault : Sp := fun vs H Q _ => ∃ (t q : Addr) (ix cols : List Str) (e : Str), vs = [.ref t, .ref q] ∧ H t = some (.tup (ix.map V.str)) ∧ QAt H q cols e ∧ cols.length ≤ 12 ∧ ∀ H', Same H H' → Q (optV (fault ix cols e)) H'
def spServ : Sp := fun vs H Q _ => ∃ (t q : Addr) (ix cols : List Str) (e : Str), vs = [.ref t, .ref q] ∧ H t = some (.tup (ix.map V.str)) ∧ QAt H q cols e ∧ cols.length ≤ 12 ∧ ∀ H', Same H H' → Q (.bl (decide (fault ix cols e = none))) H'
def spServes : Sp := fun vs H Q _ => ∃ (t q : Addr) (ix cols : List Str) (e : Str), vs = [.ref t, .ref q] ∧ H t = some (.tup (ix.map V.str)) ∧ QAt H q cols e ∧ cols.length ≤ 12 ∧ ix.length ≤ 12 ∧ ix.Nodup ∧ (∀ c ∈ ix, c ∈ menu) ∧
  cols.Nodup ∧ sortedS cols = true ∧ (∀ c ∈ cols, c ∈ menu) ∧ (e = "" ∨ e ∈ menu) ∧ ∀ H', Same H H' → Q (.bl (decide (fault ix cols e = none))) H'
/-- two flat values that are the same -/
def spAlikeF : Sp := fun vs H Q _ => ∃ (v : V) (t : Str), vs = [v, v] ∧ flatText v = some t ∧ Q (.bl true) H
theorem optV_text {o : Option Nat} (h : ∀ n, o = some n → n ≤ 12) : ∃ t, flatText (optV o) = some t := by
  cases o with
  | none => exact ⟨_, rfl⟩
  | some n =>
    have hn := h n rfl
    refine ⟨toString (n : Int), ?_⟩
    show (if (n : Int).natAbs.log2 < 1920 then some (Str.ofString (toString (n : Int))) else none) = _
    rw [if_pos]
    have : (n : Int).natAbs = n := Int.natAbs_natCast n
    rw [this]
    refine Nat.lt_of_le_of_lt (Nat.log2_le_self n) ?_
    omega
theorem scal_flat {v : V} {t : Str} (h : flatText v = some t) : scal v v = true := by
  cases v with
  | non => rfl
  | bl _ => rfl
  | int _ => rfl
  | str _ => cases h
  | byt _ => cases h
  | flt _ => cases h
  | ref _ => cases h
  | ty _ => cases h

theorem slA {K : PySem.W.Frag} {H : Hp} {a : Addr} {xs : List Str} {lo hi : Option Int} {ys : List Str} {Q : VK} (h : H a = some (.tup (xs.map V.str))) (e : cutV (xs.map V.str) lo hi = ys.map V.str)
    (k : ∀ (r : Addr) (H' : Hp), Same H H' → H' r = some (.tup (ys.map V.str)) → Q (.ref r) H') : rSlA K (.ref a) lo hi H Q := by
  refine ⟨a, _, rfl, SqT.of h, fun hw => k a H (Same.refl _) ?_, fun _ p hp => ?_⟩
  · rw [h, ← e]
    unfold cutV
    rw [hw.1, hw.2, List.drop_zero, Nat.sub_zero, List.take_length]
  · rw [e]
    exact k p _ (same_new hp) upd_same
theorem cut_one (n : Nat) (xs : List Str) : cutV (xs.map V.str) (some (n : Int)) (some ((n : Int) + 1)) = ((xs.drop n).take 1).map V.str := by
  have e1 : (n : Int) + 1 = ((n + 1 : Nat) : Int) := by omega
  unfold cutV
  rw [e1, HT.sIx_nat, HT.sIx_nat, List.length_map]
  by_cases h : n < xs.length
  · rw [Nat.min_eq_left (by omega), Nat.min_eq_left (by omega), ← List.map_drop, ← List.map_take]
    congr 2
    omega
  · have e2 : min n xs.length = xs.length := Nat.min_eq_right (by omega)
    rw [e2, List.drop_of_length_le (show (xs.map V.str).length ≤ xs.length by rw [List.length_map]; exact Nat.le_refl _), List.drop_of_length_le (show xs.length ≤ n by omega), List.take_nil, List.take_nil, List.map_nil]
theorem take_one {xs : List Str} {n : Nat} {e : Str} : (xs.drop n).take 1 = [e] ↔ xs[n]? = some e := by
  have h0 : (xs.drop n)[0]? = xs[n]? := by rw [List.getElem?_drop]; rfl
  cases hd : xs.drop n with
  | nil =>
    rw [hd] at h0
    have h1 : none = xs[n]? := h0
    rw [← h1]
    simp
  | cons y ys =>
    rw [hd] at h0
    have h1 : some y = xs[n]? := h0
    rw [← h1]
    simp

/-! what a law knows of its index and its question -/
structure QM (cols : List Str) (e : Str) : Prop where
  nd : cols.Nodup
  srt : sortedS cols = true
  sub : ∀ c ∈ cols, c ∈ menu
  esub : e = "" ∨ e ∈ menu
  le : cols.length ≤ 12
  some : e = "" → cols ≠ []
theorem Qok.qm {xs cols : List Str} {e : Str} (h : Qok xs cols e) (R : ∀ c ∈ xs, c ∈ menu) : QM cols e :=
  ⟨h.nd, h.srt, fun c hc => R _ (h.sub _ hc), h.esub.imp id (fun m => R _ m), h.le, h.some⟩
theorem Row.take {xs : List Str} (R : Row xs) (k : Nat) : Row (xs.take (k + 1)) :=
  ⟨R.nd.sublist (List.take_sublist _ _), fun c hc => R.sub _ ((List.take_sublist _ _).mem hc), by have := R.pos; rw [List.length_take]; omega, by have := R.le; rw [List.length_take]; omega⟩
/-- two places exchanged -/
def sw (x y k : Nat) : Nat := if k = y then x else if k = x then y else k
theorem sw_lt {x y k n : Nat} (hx : x < n) (hy : y < n) (hk : k < n) : sw x y k < n := by
  unfold sw
  split
  · exact hx
  · split
    · exact hy
    · exact hk
theorem sw_inj {x y j k : Nat} (h : sw x y j = sw x y k) : j = k := by
  unfold sw at h
  split at h <;> split at h <;> (try split at h) <;> (try split at h) <;> omega
def swp (ix : List Str) (x y : Nat) : List Str := (List.range ix.length).map fun k => ix.getD (sw x y k) ""
theorem swp_len (ix : List Str) (x y : Nat) : (swp ix x y).length = ix.length := by
  unfold swp
  rw [List.length_map, List.length_range]
theorem swp_get {ix : List Str} {x y k : Nat} (hx : x < ix.length) (hy : y < ix.length) (hk : k < ix.length) : (swp ix x y)[k]? = ix[sw x y k]? := by
  unfold swp
  rw [List.getElem?_map, List.getElem?_range hk]
  show some (ix.getD (sw x y k) "") = _
  rw [List.getD_eq_getElem?_getD, List.getElem?_eq_getElem (sw_lt hx hy hk)]
  rfl
theorem swp_row {ix : List Str} {x y : Nat} (R : Row ix) (hx : x < ix.length) (hy : y < ix.length) : Row (swp ix x y) := by
  refine ⟨?_, fun c hc => ?_, by rw [swp_len]; exact R.pos, by rw [swp_len]; exact R.le⟩
  · unfold swp
    refine List.pairwise_map.mpr (List.Pairwise.imp_of_mem ?_ List.nodup_range)
    intro j k hj hk hne he
    have hj := sw_lt hx hy (List.mem_range.mp hj)
    have hk := sw_lt hx hy (List.mem_range.mp hk)
    rw [List.getD_eq_getElem?_getD, List.getD_eq_getElem?_getD, List.getElem?_eq_getElem hj, List.getElem?_eq_getElem hk] at he
    have he2 : ix[sw x y j] = ix[sw x y k] := he
    have := (List.nodup_iff_pairwise_ne.mp R.nd)
    rcases Nat.lt_trichotomy (sw x y j) (sw x y k) with h | h | h
    · exact List.pairwise_iff_getElem.mp this _ _ hj hk h he2
    · exact hne (sw_inj h)
    · exact List.pairwise_iff_getElem.mp this _ _ hk hj h he2.symm
  · unfold swp at hc
    obtain ⟨k, hk, rfl⟩ := List.mem_map.mp hc
    have hk := sw_lt hx hy (List.mem_range.mp hk)
    rw [List.getD_eq_getElem?_getD, List.getElem?_eq_getElem hk]
    exact R.sub _ (List.getElem_mem hk)
end Qk

set_option maxRecDepth 100000
set_option maxHeartbeats 4000000
namespace Qk
open PySem PySem.Spec PyProof.Rows L2

/-! ### defs that may be told only where no repr is running: what stands around them has no guard -/
structure FnG (P : Program) (w : World) (K : PySem.W.Frag) (mg : Str → Option Value) (base : Heap) (k : Nat) (f : Addr) (fd : FuncData) (ps : List Str) (sp : Sp) : Prop where
  len : ∀ vs H Q E, sp vs H Q E → vs.length = ps.length
  run : ∀ (A : Around) (outer : List Env) (s : Shared) (H : Hp) (args : Args) (us : List Value) (vs : List V) (Q : VK) (E : XK), Room k A → A.guards = some [] → Env0 P w K mg base A outer s H →
    BindsTo s fd args (ps.zip us) → Vals vs us → sp vs H Q E → codeAny (model P w) A (.call (.ref f) args) (CR CX0 outer P w H s Q E) s
theorem FnG.of {P : Program} {w : World} {K : PySem.W.Frag} {mg : Str → Option Value} {base : Heap} {k : Nat} {f : Addr} {fd : FuncData} {ps : List Str} {sp : Sp} (F : FnOk P w K mg base CX0 k f fd ps sp) : FnG P w K mg base k f fd ps sp :=
  ⟨F.len, fun A o s H args us vs Q E hr _ e b v h => F.run A o s H args us vs Q E hr e b v h⟩

section
variable {P : Program} {w : World} {K : PySem.W.Frag} {mg : Str → Option Value} {base : Heap}
theorem okG {x qual : Str} {st : Stmt} {f : Addr} {fd : FuncData} {N ps : List Str} {k : Nat} {sp : Sp} (F : Fun K x qual st f fd) (S : FnScope N ps (defScope st)) (len : ∀ vs H Q E, sp vs H Q E → vs.length = ps.length)
    (body : ∀ (cdv : Value) (A : Around) (outer : List Env) (s : Shared) (H : Hp) (vs : List V) (Q : VK) (E : XK), Room k (A.deeper (envOfC qual (defScope st) s.heap.objs.size f cdv)) → A.guards = some [] → sp vs H Q E →
      ∃ t, PSs (cxOf CX0 P w K mg base N qual (defScope st) f cdv A outer s H E).nox (defBody st) t ∧ t { nx := fun _ H' => Q .non H', rt := Q } (start N vs) H) : FnG P w K mg base (k + 1) f fd ps sp := by
  obtain ⟨oc, od, kV, doc, pm, an, cdv, ct, osl, rfl, lk, hcd⟩ := F.ex
  constructor
  · exact len
  intro A outer s H args us vs Q E hr hg e0 hb rv hsp
  have hlen := len _ _ _ _ hsp
  have kept : ∀ b o, base.get? b = some o → s.heap.get? b = some o := fun b o e => (e0.bs b o e).1
  have KX : K.In s.heap := e0.mod.kin.keeps kept
  have par : ∀ y ∈ ps.zip us, (defScope st).names.lookup y.1 = some .local ∨ ((defScope st).names.lookup y.1 = some .cell ∧ ((cellsFrom (s.heap.objs.size + 1) (defScope st).names []).lookup y.1).isSome = true) := by
    rintro ⟨n, v⟩ hy
    exact (S.par n (List.of_mem_zip hy).1).imp id fun q => ⟨q, PySem.W.cellsFrom_some _ _ _ (.inl q)⟩
  refine codeAny_call_function hr.depth (KX _ _ lk) rfl S.co S.gen rfl (PySem.W.codeRec_of KX hcd) (hb _ _ _ _ ?_)
  refine wpAny_newFunctionEnv_cells S.kind par fun env he s1 xe => ?_
  subst he
  refine ⟨(e0.mod.nolimit.keeps kept).keeps xe.toInCall.keep, codeAny_func ?_⟩
  obtain ⟨t, ht, hq⟩ := body cdv A outer s H vs Q E (hr.deeper _) hg hsp
  refine wpAny_mono (ht.nox.run [] s1 (start N vs) H _ (inv_start S hr.hd e0 hlen rv xe) hq) (fun fl s' hs => ?_) fun _ _ z => z
  cases fl with
  | ret u =>
    obtain ⟨v, σ', H', J, r, q⟩ := hs
    exact ⟨v, H', J.os, J.bare, J.base, J.hok, r, q⟩
  | next =>
    obtain ⟨σ', H', J, q⟩ := hs
    exact ⟨V.non, H', J.os, J.bare, J.base, J.hok, rfl, q⟩
  | brk => exact hs.elim fun _ z => z.elim fun _ z => z.2.elim
  | cont => exact hs.elim fun _ z => z.elim fun _ z => z.2.elim
end
section
variable {X : Cx} {k : Nat} {f : Addr} {fd : FuncData} {ps : List Str} {sp : Sp} {x : Str} {p pos : Pos} {e : Expr} {es : List Expr} {t : TA}
theorem run_g {pins : List (Addr × Obj)} {σ : L2.St} {H : Hp} {s : Shared} {Q : VK} {us : List Value} {vs : List V} (F : FnG X.prog X.w X.K X.mg X.base k f fd ps sp) (hr : Room k X.A) (hg : X.A.guards = some []) (hb : Binds X.K fd ps [])
    (I : Inv X pins σ H s) (r : Vals vs us) (h : sp vs H Q E0) : wpAny (model X.prog X.w) X.A (call (.ref f) us) (EP X pins σ Q) X.xe s := by
  have hl : (us ++ ([] : List Value)).length = ps.length := by
    rw [List.append_nil, ← r.length]
    exact F.len _ _ _ _ h
  have hbd := hb s us I.kIn hl
  rw [List.append_nil] at hbd
  have c := F.run X.A X.stack s H ⟨us, []⟩ us vs Q E0 hr hg I.env0 hbd r h
  refine wpAny_call (codeAny_mono c fun r s' hq => ?_)
  cases r with
  | error e => exact False.elim hq
  | ok fl =>
    cases fl with
    | ret u => exact I.after hq
    | _ => exact False.elim hq
/-- a call by name of such a def, all arguments given -/
theorem pe_callg (F : FnG X.prog X.w X.K X.mg X.base k f fd ps sp) (hr : Room k X.A) (hg : X.A.guards = some []) (hgl : Gl X x) (hm : X.mg x = some (.ref f)) (hk : PySem.W.keepIn X.K (.ref f) = true) (hb : Binds X.K fd ps [])
    (ha : PA X (e :: es) t) (hdb : (x == ("__debug__" : Str)) = false := by decide) (he : starEach (e :: es) X.env = (false, eval e X.env) :: starEach es X.env := by rfl) (hpl : (backTo pos (starEach es X.env)).any (·.1) = false := by rfl) :
    PE X (.Call (.Name x p) (e :: es) [] pos) (fun σ H Q => t σ H fun vs H1 => sp vs H1 Q E0) := by
  constructor
  intro pins s σ H Q I h
  refine wpAny_Call_Name_kw (ld_glob I hgl hm ?_ hdb)
  refine PySem.W.callWith_K (h₀ := X.base) I.ok.mod.kin hk ?_ he hpl
  exact thn (ha.run pos pins s σ H _ I h) fun us s1 ⟨vs, H1, I1, r, q⟩ => ⟨I1.kIn, run_g F hr hg hb I1 r q⟩
/-- repr of data, where no repr is running -/
def rReprD (K : PySem.W.Frag) : List V → Hp → VK → Prop := fun vs H Q => ∃ (x : V) (d : PyData), vs = [x] ∧ Dp K H x d ∧ d.showable = true ∧ d.hasDict = false ∧ d.shown.length ≤ sizeLine ∧ d.depth ≤ 60 ∧ Q (.str d.shown) H
theorem call_reprD (hg : X.A.guards = some []) (hu : X.A.units + 64 < cLine) : CallR X (.builtin "repr") (rReprD X.K) := by
  intro pins s σ H xs us Q I r h
  obtain ⟨x, d, rfl, hd, h1, h2, h3, h4, q⟩ := h
  obtain ⟨u, rfl, rx⟩ := vals1 r
  obtain ⟨as, rd⟩ := Dp.reads I d x u hd rx
  cases hd with
  | non =>
    cases rx
    exact PySem.P.repr_of_none ⟨.str _, H, I.tok _, ⟨_, rfl⟩, q⟩
  | bl b =>
    cases rx
    exact PySem.P.repr_of_bool ⟨.str _, H, I.tok _, ⟨_, rfl⟩, q⟩
  | int i =>
    obtain ⟨tk, rfl⟩ := rx
    exact PySem.P.repr_of_int (by simpa [PyData.showable] using h1) ⟨.str _, H, I.tok _, ⟨_, rfl⟩, q⟩
  | str z =>
    obtain ⟨tk, rfl⟩ := rx
    exact PySem.P.repr_of_str ⟨.str _, H, I.tok _, ⟨_, rfl⟩, q⟩ h3
  | lst hs ha =>
    cases rx
    exact repr_of_reads' rd h1 (fun z => by rw [h2] at z; cases z) hg (by omega) (fun _ _ z => z) (fun h' u tk hk => ⟨.str _, H, I.kept hk, ⟨_, rfl⟩, q⟩) h3
  | tup hs ha =>
    cases rx
    exact repr_of_reads' rd h1 (fun z => by rw [h2] at z; cases z) hg (by omega) (fun _ _ z => z) (fun h' u tk hk => ⟨.str _, H, I.kept hk, ⟨_, rfl⟩, q⟩) h3
end
end Qk

set_option maxRecDepth 100000
set_option maxHeartbeats 4000000
namespace Qk
open PySem PySem.Spec PyProof.Rows L2

/-! ### the end of a law whose def is of that kind -/
theorem law_g {P : Program} {w : World} {K : PySem.W.Frag} {mg mb : Str → Option Value} {k : Nat} {fa a : Addr} {fd : FuncData} {x : Str} {sp : Sp} {s₁ : Shared} {vs : List Value} {ns : List Int}
    (KX : K.In s₁.heap) (hns : s₁.heap.Ns mainGlobals mg) (hb : s₁.heap.Ns builtinsNs mb) (hbb : ∀ x : Str, x ≠ "__name__" → mb x = bootBuiltins x) (hlim : s₁.heap.NoLimit) (hg : s₁.gens = #[])
    (ha : s₁.heap.get? a = some { cls := .type "list", data := .seq vs.toArray }) (hi : IntsAre vs ns) (hl : ns.length ≤ sizeLine) (hr : Room k callerA)
    (F : ∀ base : Heap, K.In base → base.Ns mainGlobals mg → FnG P w K mg base k fa fd [x] sp) (hbind : ∀ (s : Shared) (u : Value), BindsTo s fd ⟨[u], []⟩ [(x, u)])
    (hsp : ∀ H : Hp, Only H → SqL K H a (ns.map V.int) → sp [.ref a] H (fun v _ => v = .bl true) fun _ _ _ => False) :
    codeAny (model P w) callerA (.call (.ref fa) ⟨[.ref a], []⟩) (fun r s' => r = .ok (.ret (.bool true)) ∧ OldK s₁.heap s'.heap ∧ s'.os = s₁.os ∧ AllBare s'.gens) s₁ := by
  let o : Obj := { cls := .type "list", data := .seq vs.toArray }
  have rv : Vals (ns.map V.int) vs := vals_ints hi
  have lenV : vs.length = ns.length := hi.length
  -- the abstract heap: the script alone, where the top does not know it
  let H : Hp := fun b => if b = a ∧ K.lookup a = none then some (.frz o (.lst (ns.map V.int))) else none
  have Hsome : ∀ {b u}, H b = some u → b = a ∧ K.lookup a = none ∧ u = .frz o (.lst (ns.map V.int)) := fun {b u} z => by
    by_cases c : b = a ∧ K.lookup a = none
    · have z2 : some (HO.frz o (.lst (ns.map V.int))) = some u := (if_pos c).symm.trans z
      exact ⟨c.1, c.2, (Option.some.inj z2).symm⟩
    · have z2 : (none : Option HO) = some u := (if_neg c).symm.trans z
      cases z2
  have hO : Only H := fun b => by
    cases q : H b with
    | none => exact .inl rfl
    | some u => exact .inr ⟨_, _, by rw [(Hsome q).2.2]⟩
  have hS : SqL K H a (ns.map V.int) := by
    cases q : K.lookup a with
    | none => exact .inl (.inr ⟨o, if_pos ⟨rfl, q⟩⟩)
    | some u =>
      have e := KX a u q
      rw [ha] at e
      cases e
      exact .inr ⟨_, vs.toArray, _, q, rfl, rfl, rfl, by rw [List.size_toArray, lenV]; exact hl, by simpa using rv⟩
  have hok : HOk P w H s₁.heap := fun b u z => by
    obtain ⟨rfl, _, rfl⟩ := Hsome z
    exact ⟨ha, by rw [List.length_map]; exact hl, vs, _, rv, ha⟩
  have keepB : ∀ {b : Addr} {u : Obj}, s₁.heap.get? b = some u → (b = a → K.lookup a ≠ none) → (hidT s₁.heap H).get? b = some u := fun {b u} e n => hidT_get e (by
    cases q : H b with
    | none => rfl
    | some z => exact absurd (Hsome q).2.1 (n (Hsome q).1))
  have keepN : ∀ {b : Addr} {m : Str → Option Value}, s₁.heap.Ns b m → (hidT s₁.heap H).Ns b m := fun {b m} ⟨u, es, ep, e, d, r⟩ => by
    refine ⟨u, es, ep, keepB e fun eb => ?_, d, r⟩
    subst eb
    rw [ha] at e
    cases e
    cases d
  have hKb : K.In (hidT s₁.heap H) := fun b u e => keepB (KX b u e) fun eb q => by
    subst eb
    rw [q] at e
    cases e
  have hM : Mod K mg (hidT s₁.heap H) := ⟨hKb, keepN hns, ⟨mb, keepN hb, hbb⟩, let ⟨mc, h1, h2⟩ := hlim; ⟨mc, keepN h1, h2⟩⟩
  have e0 : Env0 P w K mg (hidT s₁.heap H) callerA [] s₁ H := ⟨rfl, hM, fun _ _ e => of_hidT e, Nat.le_of_eq (hidT_size _ _), trivial, fun b z => absurd (show b ∈ ([] : List Addr) from z) (by simp), hok, .of_eq hg⟩
  have run := (F _ hKb (keepN hns)).run callerA [] s₁ H ⟨[.ref a], []⟩ [.ref a] [.ref a] _ _ hr rfl e0 (hbind s₁ (.ref a)) (.cons rfl .nil) (hsp H hO hS)
  refine codeAny_mono run fun r s' h => ?_
  cases r with
  | error e => exact False.elim h
  | ok fl =>
    cases fl with
    | ret u =>
      obtain ⟨v, H', os, bare, un, hok', r', q⟩ := h
      obtain rfl : v = .bl true := q
      obtain rfl : u = Value.bool true := r'
      refine ⟨rfl, OldK.of_keep fun b u e => ?_, os, bare⟩
      cases q : H b with
      | none => exact un.keep b u e q (fun z => absurd (show b ∈ ([] : List Addr) from z) (by simp)) (by simp)
      | some z =>
        obtain ⟨rfl, _, rfl⟩ := Hsome q
        obtain ⟨e2, _⟩ := hok' b _ (un.frzs b o _ q)
        rw [ha] at e
        cases e
        exact e2
    | _ => exact False.elim h
theorem walk_g {l : PySem.W.OpenLaw} {n k : Nat} {q : Program} {loose : List Str} {XP : (Str → Option Value) → Heap → Prop} {YP : World → Heap → Prop} {d : DefRec} {K : Params → PySem.W.Frag} {sp : World → Sp} {x : Str}
    (hn : l.most = some n) (hn2 : n ≤ sizeLine) (hdf : d.params.defaults = []) (hr : Room k callerA) (hY : ∀ (w : World) (h : Heap), YP w h → (K w.params).In h)
    (F : ∀ (w : World) (mg : Str → Option Value) (fa : Addr) (h : Heap), (K w.params).In h → h.Ns mainGlobals mg → mg d.name = some (.ref fa) →
      ∃ fd : FuncData, (∀ (s : Shared) (u : Value), BindsTo s fd ⟨[u], []⟩ [(x, u)]) ∧ ∀ base : Heap, (K w.params).In base → base.Ns mainGlobals mg → FnG l.prog w (K w.params) mg base k fa fd [x] (sp w))
    (hsp : ∀ (w : World) (H : Hp) (a : Addr) (ns : List Int), ns.length ≤ n → Only H → SqL (K w.params) H a (ns.map V.int) → sp w [.ref a] H (fun v _ => v = .bl true) fun _ _ _ => False) :
    PySem.W.WalkO q loose XP YP l.row.toRowW d [] (fun f vs => PySem.call f vs) := by
  refine Att.attach_call hn hdf fun w s₀ s₁ mg mb fa o pm cd doc a vs ns G Y ho hd hcd hmg hobj hints hlen hg => ?_
  obtain ⟨fd, hb, hF⟩ := F w mg fa _ (hY w _ Y) G.T.g hmg
  exact law_g (hY w _ Y) G.T.g G.T.b G.T.builtins G.T.nolimit hg hobj hints (Nat.le_trans hlen hn2) hr hF hb fun H hO hS => hsp w H a ns hlen hO hS

/-! ### data that may be compared and shown -/
mutual
def fine : PyData → Bool
  | .none => true
  | .bool _ => true
  | .int i => decide (i.natAbs < 10 ^ 60)
  | .str x => PyData.strOk x && decide (x.cps.size ≤ 20)
  | .list xs => fineAll xs
  | .tuple xs => fineAll xs
  | .dict _ => false
def fineAll : List PyData → Bool
  | [] => true
  | x :: xs => fine x && fineAll xs
end
mutual
def cost : PyData → Nat
  | .none => 4
  | .bool _ => 5
  | .int _ => 64
  | .str _ => 210
  | .list xs => costAll xs + 3
  | .tuple xs => costAll xs + 3
  | .dict _ => 0
def costAll : List PyData → Nat
  | [] => 0
  | x :: xs => cost x + 2 + costAll xs
end
mutual
theorem fine_lay : ∀ d : PyData, fine d = true → d.canLay0 = true ∧ d.showable = true ∧ d.hasDict = false
  | .none, _ => ⟨rfl, rfl, rfl⟩
  | .bool _, _ => ⟨rfl, rfl, rfl⟩
  | .int i, h => by
    have hi : i.natAbs < 10 ^ 60 := of_decide_eq_true h
    refine ⟨rfl, ?_, rfl⟩
    show decide (i.natAbs.log2 < 1920) = true
    refine decide_eq_true ?_
    by_cases h0 : i.natAbs = 0
    · rw [h0]
      decide
    · exact Nat.lt_of_lt_of_le ((Nat.log2_lt h0).mpr (Nat.lt_of_lt_of_le hi (show 10 ^ 60 ≤ 2 ^ 200 by decide))) (by decide)
  | .str x, h => by
    have h' : (PyData.strOk x && decide (x.cps.size ≤ 20)) = true := h
    rw [Bool.and_eq_true] at h'
    exact ⟨h'.1, rfl, rfl⟩
  | .list xs, h => fine_layAll xs h
  | .tuple xs, h => fine_layAll xs h
  | .dict _, h => by cases h
theorem fine_layAll : ∀ xs : List PyData, fineAll xs = true → PyData.canLayAll0 xs = true ∧ PyData.showableAll xs = true ∧ PyData.hasDictAll xs = false
  | [], _ => ⟨rfl, rfl, rfl⟩
  | x :: xs, h => by
    have h' : (fine x && fineAll xs) = true := h
    rw [Bool.and_eq_true] at h'
    obtain ⟨a1, a2, a3⟩ := fine_lay x h'.1
    obtain ⟨b1, b2, b3⟩ := fine_layAll xs h'.2
    refine ⟨?_, ?_, ?_⟩
    · show (PyData.canLay0 x && PyData.canLayAll0 xs) = true
      rw [a1, b1]
      rfl
    · show (PyData.showable x && PyData.showableAll xs) = true
      rw [a2, b2]
      rfl
    · show (PyData.hasDict x || PyData.hasDictAll xs) = false
      rw [a3, b3]
      rfl
end
theorem listText_le (ts : List Str) : (listText ts).length ≤ piled ts + 2 := by
  cases ts with
  | nil => decide
  | cons t r =>
    have e : listText (t :: r) = textFrom 1 ("[" ++ "" ++ t) r ++ "]" := rfl
    rw [e, strLen_append, textFrom_length_pos r 1 _ (by decide), strLen_append, piled_cons]
    have e1 : (("[" : Str) ++ ("" : Str)).length = 1 := rfl
    have e2 : ((("]" : String) : Str)).length = 1 := rfl
    have e3 : (((("[" : String) : Str) ++ (("" : String) : Str)) : Str).length = 1 := rfl
    omega
theorem tupleText_le (ts : List Str) : (tupleText ts).length ≤ piled ts + 3 := by
  unfold tupleText
  rw [strLen_append, strLen_append]
  have e1 : (("(" : String) : Str).length = 1 := rfl
  have e2 : ((if (ts.length == 1) = true then ",)" else ")" : String) : Str).length ≤ 2 := by
    split
    · decide
    · decide
  cases ts with
  | nil =>
    have : (Str.join ", " ([] : List Str)).length = 0 := rfl
    omega
  | cons t r =>
    have := join_length_add (t :: r) (by simp)
    omega
mutual
theorem shown_le : ∀ d : PyData, fine d = true → d.shown.length ≤ cost d
  | .none, _ => by decide
  | .bool b, _ => by cases b <;> decide
  | .int i, h => by
    have hi : i.natAbs < 10 ^ 60 := of_decide_eq_true h
    have e := int_text_length_le10 (k := 60) (a := i) (by decide) hi
    show (Str.ofString (toString i)).length ≤ 64
    rw [PySem.ofString_length]
    omega
  | .str x, h => by
    have h' : (PyData.strOk x && decide (x.cps.size ≤ 20)) = true := h
    rw [Bool.and_eq_true] at h'
    have h2 : x.length ≤ 20 := of_decide_eq_true h'.2
    have h3 : ∀ c ∈ x.cps.toList, c < 16 ^ 8 := fun c hc => by
      have := Array.all_eq_true'.mp h'.1 c (by simpa using hc)
      have := of_decide_eq_true this
      omega
    have := PySem.StrLaws.reprText_len x h3
    show (reprText x).length ≤ 210
    omega
  | .list xs, h => by
    have := listText_le (PyData.shownAll xs)
    have h2 := shown_leAll xs h
    show (listText (PyData.shownAll xs)).length ≤ costAll xs + 3
    omega
  | .tuple xs, h => by
    have := tupleText_le (PyData.shownAll xs)
    have h2 := shown_leAll xs h
    show (tupleText (PyData.shownAll xs)).length ≤ costAll xs + 3
    omega
  | .dict _, h => by cases h
theorem shown_leAll : ∀ xs : List PyData, fineAll xs = true → piled (PyData.shownAll xs) ≤ costAll xs
  | [], _ => Nat.le_refl 0
  | x :: xs, h => by
    have h' : (fine x && fineAll xs) = true := h
    rw [Bool.and_eq_true] at h'
    have h1 := shown_le x h'.1
    have h2 := shown_leAll xs h'.2
    show piled (PyData.shown x :: PyData.shownAll xs) ≤ cost x + 2 + costAll xs
    rw [piled_cons]
    omega
end
structure DOk (d : PyData) : Prop where
  f : fine d = true
  dp : d.depth ≤ 50
  c : cost d ≤ 1000000
theorem DOk.shaped {d : PyData} (h : DOk d) : SeqAt.shaped d = true := by
  unfold SeqAt.shaped
  rw [(fine_lay d h.f).1]
  exact decide_eq_true (Nat.le_trans h.dp (by decide))
theorem DOk.len {d : PyData} (h : DOk d) : d.shown.length ≤ sizeLine := Nat.le_trans (shown_le d h.f) (Nat.le_trans h.c (by rw [sizeLine_eq]; decide))
mutual
theorem Dp.same {K : PySem.W.Frag} {H H' : Hp} (s : Same H H') : ∀ (d : PyData) (v : V), Dp K H v d → Dp K H' v d
  | .none, _, h => by cases h; exact .non
  | .bool _, _, h => by cases h; exact .bl _
  | .int _, _, h => by cases h; exact .int _
  | .str _, _, h => by cases h; exact .str _
  | .list ds, _, h => by
    cases h with
    | lst h1 h2 => exact .lst (s.seq h1) (Dp.sameAll s ds _ h2)
  | .tuple ds, _, h => by
    cases h with
    | tup h1 h2 => exact .tup (Evl.ex_t s h1) (Dp.sameAll s ds _ h2)
  | .dict _, _, h => by cases h
theorem Dp.sameAll {K : PySem.W.Frag} {H H' : Hp} (s : Same H H') : ∀ (ds : List PyData) (vs : List V), DpAll K H vs ds → DpAll K H' vs ds
  | [], _, h => by cases h; exact .nil
  | d :: ds, _, h => by
    cases h with
    | cons h1 h2 => exact .cons (Dp.same s d _ h1) (Dp.sameAll s ds _ h2)
end
/-- two data that are the same -/
def spAlikeD (K : PySem.W.Frag) : Sp := fun vs H Q _ => ∃ (x y : V) (d : PyData), vs = [x, y] ∧ Dp K H x d ∧ Dp K H y d ∧ DOk d ∧ Q (.bl true) H
theorem fine_int {i : Int} (h : i.natAbs < 10 ^ 60) : fine (.int i) = true := decide_eq_true h
/-- the names as data -/
def okS (c : Str) : Bool := PyData.strOk c && decide (c.cps.size ≤ 20)
theorem menu_okS : ∀ c ∈ menu, okS c = true := by decide +kernel
theorem fine_strs : ∀ {xs : List Str}, (∀ c ∈ xs, okS c = true) → fineAll (xs.map PyData.str) = true
  | [], _ => rfl
  | x :: xs, h => by
    show (fine (.str x) && fineAll (xs.map PyData.str)) = true
    rw [fine_strs fun c hc => h c (List.mem_cons_of_mem _ hc), Bool.and_true]
    exact h x List.mem_cons_self
theorem cost_strs : ∀ (xs : List Str), costAll (xs.map PyData.str) = 212 * xs.length
  | [] => rfl
  | x :: xs => by
    show cost (.str x) + 2 + costAll (xs.map PyData.str) = _
    rw [cost_strs xs, List.length_cons]
    show 210 + 2 + _ = _
    omega
theorem dok_strs {xs : List Str} (h : ∀ c ∈ xs, okS c = true) (hl : xs.length ≤ 100) : DOk (.tuple (xs.map PyData.str)) :=
  ⟨fine_strs h, by show PyData.depthAll _ + 1 ≤ 50; rw [depth_strs]; decide, by show costAll _ + 3 ≤ _; rw [cost_strs]; omega⟩
/-- a question as data -/
def dQ (cols : List Str) (e : Str) : PyData := .tuple [.tuple (cols.map PyData.str), .str e]
theorem dp_q {K : PySem.W.Frag} {H : Hp} {q : Addr} {cols : List Str} {e : Str} (h : QAt H q cols e) : Dp K H (.ref q) (dQ cols e) := by
  obtain ⟨c, h1, h2⟩ := h
  exact .tup (SqT.of h1) (.cons (.tup (SqT.of h2) (dp_strs _)) (.cons (.str e) .nil))
structure CalG (P : Program) (w : World) (K : PySem.W.Frag) (mg : Str → Option Value) (base : Heap) (k : Nat) (x : Str) (ps : List Str) (sp : Sp) where
  f : Addr
  fd : FuncData
  G : FnG P w K mg base k f fd ps sp
  m : mg x = some (.ref f)
  kp : PySem.W.keepIn K (.ref f) = true
  b : Binds K fd ps []
end Qk

set_option maxRecDepth 100000
set_option maxHeartbeats 4000000
namespace Qk
open PySem PySem.Spec PyProof.Rows L2

/-! ### the order of texts, of tuples of texts, of questions -/
def ltS (a b : Str) : Bool := decide (a.cps.toList < b.cps.toList)
def lexS : List Str → List Str → Bool
  | [], [] => false
  | [], _ :: _ => true
  | _ :: _, [] => false
  | x :: xs, y :: ys => if x = y then lexS xs ys else ltS x y
theorem ltS_irrefl (a : Str) : ltS a a = false := decide_eq_false (List.lt_irrefl _)
theorem ltS_tri {a b : Str} (h : a ≠ b) : ltS a b = true ∨ ltS b a = true := by
  unfold ltS
  by_cases h1 : a.cps.toList < b.cps.toList
  · exact .inl (decide_eq_true h1)
  · by_cases h2 : b.cps.toList < a.cps.toList
    · exact .inr (decide_eq_true h2)
    · exact absurd (str_ext (List.le_antisymm (List.not_lt.mp h2) (List.not_lt.mp h1))) h
theorem ltS_trans {a b c : Str} (h1 : ltS a b = true) (h2 : ltS b c = true) : ltS a c = true := by
  unfold ltS at *
  exact decide_eq_true (List.lt_trans (of_decide_eq_true h1) (of_decide_eq_true h2))
theorem ltS_asym {a b : Str} (h1 : ltS a b = true) : ltS b a = false := by
  cases h2 : ltS b a with
  | false => rfl
  | true =>
    have := ltS_trans h1 h2
    rw [ltS_irrefl] at this
    cases this
theorem lexS_irrefl : ∀ a : List Str, lexS a a = false
  | [] => rfl
  | x :: xs => by
    rw [lexS, if_pos rfl]
    exact lexS_irrefl xs
theorem lexS_tri : ∀ {a b : List Str}, a ≠ b → lexS a b = true ∨ lexS b a = true
  | [], [], h => absurd rfl h
  | [], _ :: _, _ => .inl rfl
  | _ :: _, [], _ => .inr rfl
  | x :: xs, y :: ys, h => by
    rw [lexS, lexS]
    by_cases e : x = y
    · subst e
      rw [if_pos rfl, if_pos rfl]
      exact lexS_tri fun z => h (by rw [z])
    · rw [if_neg e, if_neg (Ne.symm e)]
      exact ltS_tri e
theorem lexS_trans : ∀ {a b c : List Str}, lexS a b = true → lexS b c = true → lexS a c = true
  | [], [], _, h, _ => by cases h
  | [], _ :: _, [], _, h => by cases h
  | [], _ :: _, _ :: _, _, _ => rfl
  | _ :: _, [], _, h, _ => by cases h
  | _ :: _, _ :: _, [], _, h => by cases h
  | x :: xs, y :: ys, z :: zs, h1, h2 => by
    rw [lexS] at h1 h2 ⊢
    by_cases e1 : x = y
    · subst e1
      rw [if_pos rfl] at h1
      by_cases e2 : x = z
      · rw [if_pos e2] at h2 ⊢
        exact lexS_trans h1 h2
      · rw [if_neg e2] at h2 ⊢
        exact h2
    · rw [if_neg e1] at h1
      by_cases e2 : y = z
      · subst e2
        rw [if_neg e1]
        exact h1
      · rw [if_neg e2] at h2
        have h3 := ltS_trans h1 h2
        have e3 : x ≠ z := fun e => by
          subst e
          rw [ltS_asym h1] at h2
          cases h2
        rw [if_neg e3]
        exact h3
theorem lexS_asym {a b : List Str} (h1 : lexS a b = true) : lexS b a = false := by
  cases h2 : lexS b a with
  | false => rfl
  | true =>
    have := lexS_trans h1 h2
    rw [lexS_irrefl] at this
    cases this
abbrev Qd := List Str × Str
def ltQ (p q : Qd) : Bool := if p.1 = q.1 then ltS p.2 q.2 else lexS p.1 q.1
theorem ltQ_irrefl (p : Qd) : ltQ p p = false := by
  unfold ltQ
  rw [if_pos rfl]
  exact ltS_irrefl _
theorem ltQ_tri {p q : Qd} (h : p ≠ q) : ltQ p q = true ∨ ltQ q p = true := by
  unfold ltQ
  by_cases e : p.1 = q.1
  · rw [if_pos e, if_pos e.symm]
    exact ltS_tri fun z => h (Prod.ext e z)
  · rw [if_neg e, if_neg (Ne.symm e)]
    exact lexS_tri e
theorem ltQ_trans {p q r : Qd} (h1 : ltQ p q = true) (h2 : ltQ q r = true) : ltQ p r = true := by
  unfold ltQ at *
  by_cases e1 : p.1 = q.1
  · rw [if_pos e1] at h1
    by_cases e2 : q.1 = r.1
    · rw [if_pos e2] at h2
      rw [if_pos (e1.trans e2)]
      exact ltS_trans h1 h2
    · rw [if_neg e2] at h2
      rw [if_neg (e1 ▸ e2), e1]
      exact h2
  · rw [if_neg e1] at h1
    by_cases e2 : q.1 = r.1
    · rw [if_pos e2] at h2
      rw [if_neg (e2 ▸ e1), ← e2]
      exact h1
    · rw [if_neg e2] at h2
      have h3 := lexS_trans h1 h2
      have e3 : p.1 ≠ r.1 := fun e => by
        rw [e] at h1
        rw [lexS_asym h1] at h2
        cases h2
      rw [if_neg e3]
      exact h3
theorem ltQ_asym {p q : Qd} (h1 : ltQ p q = true) : ltQ q p = false := by
  cases h2 : ltQ q p with
  | false => rfl
  | true =>
    have := ltQ_trans h1 h2
    rw [ltQ_irrefl] at this
    cases this
theorem swo_q {α : Type} (k : α → Qd) : SrtO.Swo fun x y => ltQ (k x) (k y) := by
  refine ⟨fun x y h => ltQ_asym h, fun x y z h1 h2 => ?_⟩
  -- not y < x, not z < y: not z < x
  cases h3 : ltQ (k z) (k x) with
  | false => rfl
  | true =>
    by_cases e : k x = k y
    · rw [e] at h3
      have : ltQ (k z) (k y) = false := h2
      rw [this] at h3
      cases h3
    · rcases ltQ_tri e with h | h
      · have h4 : ltQ (k z) (k y) = true := ltQ_trans h3 h
        rw [h2] at h4
        cases h4
      · have : ltQ (k y) (k x) = false := h1
        rw [this] at h
        cases h
theorem perm_ltQ : ∀ {xs ys : List Qd}, xs.Perm ys → xs.Pairwise (fun a b => ltQ b a = false) → ys.Pairwise (fun a b => ltQ b a = false) → xs = ys
  | [], ys, h, _, _ => List.Perm.nil_eq h
  | x :: xs, [], h, _, _ => absurd h.length_eq (by simp)
  | x :: xs, y :: ys, h, h1, h2 => by
    have e : x = y := by
      rcases List.mem_cons.mp (h.mem_iff.mp List.mem_cons_self) with e | m1
      · exact e
      · rcases List.mem_cons.mp (h.mem_iff.mpr List.mem_cons_self) with e | m2
        · exact e.symm
        · have a1 := (List.pairwise_cons.mp h1).1 y m2
          have a2 := (List.pairwise_cons.mp h2).1 x m1
          by_cases e : x = y
          · exact e
          · rcases ltQ_tri e with h | h
            · rw [a2] at h; cases h
            · rw [a1] at h; cases h
    subst e
    rw [perm_ltQ (List.Perm.cons_inv h) (List.pairwise_cons.mp h1).2 (List.pairwise_cons.mp h2).2]

/-! ### t < u of tuples of texts -/
section
open PySem.SeqAt
open PySem.AutoSeq1 (wpAny_loadPart')
open PySem.MeetsSeq PySem.MeetsSeq2 PySem.MeetsSeq3
theorem eqAt_str (A : Around) (s : Shared) (a : Str) (t : Tok) (c : Str) (u : Tok) : ∃ e, SeqAt.EqAt A s (.str a t) (.str c u) e ∧ (e = true ↔ a = c) :=
  ⟨(a == c), SeqAt.EqAt.str_str a t c u, by simp⟩
theorem rcLt_str (A : Around) (s : Shared) (a : Str) (t : Tok) (c : Str) (u : Tok) (prog : Program) (w : World) (E : Value → Shared → Prop) (Q : Value → Shared → Prop) (h : Q (.bool (ltS a c)) s) :
    wpAny (model prog w) A (richCompare .Lt (.str a t) (.str c u)) Q E s := by
  have z : wpAny (model prog w) A (compareOp .Lt (.str a t) (.str c u)) Q E s := PySem.P.lt_str h
  exact z
theorem tuple_lt_texts (l b : Addr) (us vs : Array Value) (n m : Nat) (d1 d2 : Option Addr) (sl1 sl2 : Array (Option Value)) (xs ys : List Str) (hx : StrsAre us.toList xs) (hy : StrsAre vs.toList ys) :
    Meets (Builtin.«tuple.__lt__» ⟨[.ref l, .ref b], []⟩)
      (fun _ R s => s.heap.get? l = some { cls := .type "tuple", dict := d1, data := .seq us n, slots := sl1 } ∧ s.heap.get? b = some { cls := .type "tuple", dict := d2, data := .seq vs m, slots := sl2 } ∧
        R (.ok (.ret (.bool (lexS xs ys)))) s) :=
  .of_wp fun prog w A R s h => by
    obtain ⟨hp, g, d, tk, os⟩ := s; obtain ⟨hl, hb, h⟩ := h
    have f2 := AutoSeq1.sub_tuple_tuple
    have z1 : us.size = xs.length := by rw [← hx.length]; simp
    have z2 : vs.size = ys.length := by rw [← hy.length]; simp
    wp_walk using wpAny_loadPart' hl, wpAny_loadPart' hb, wpAny_forIn_list _ (fun rest b s' => b.1 = none ∧ s' = ⟨hp, g, d, tk, os⟩ ∧ ∃ (as bs : List Value) (x' y' : List Str), rest = as.zip bs ∧
      StrsAre as x' ∧ StrsAre bs y' ∧ x'.length + vs.size = y'.length + us.size ∧ R (.ok (.ret (.bool (lexS x' y')))) ⟨hp, g, d, tk, os⟩) _
    case turn =>
      rintro ⟨u, v⟩ rest b s' ⟨hb', rfl, as, bs, x', y', hz, ha, hc, hlen, hR⟩
      cases ha with
      | nil => rw [List.zip_nil_left] at hz; cases hz
      | cons a t ha' =>
        cases hc with
        | nil => rw [List.zip_nil_right] at hz; cases hz
        | cons c t2 hc' =>
          rw [List.zip_cons_cons] at hz
          injection hz with e1 hrest
          injection e1 with eu ev
          subst eu ev
          rw [lexS] at hR
          simp only [List.length_cons] at hlen
          obtain ⟨e, he, hiff⟩ := eqAt_str A.in1 ⟨hp, g, d, tk, os⟩ a t c t2
          refine wpAny_bind (he prog w _ _ ?_)
          cases e with
          | true =>
            rw [if_pos (hiff.mp rfl)] at hR
            wp_walk
            exact ⟨rfl, rfl, _, _, _, _, hrest, ha', hc', by omega, hR⟩
          | false =>
            rw [if_neg (fun q => absurd (hiff.mpr q) Bool.false_ne_true)] at hR
            have hri := rcLt_str A.in1 ⟨hp, g, d, tk, os⟩ a t c t2 prog w
            wp_walk using hri
            exact ⟨_, rfl, by simpa using hR⟩
    case fin =>
      rintro ⟨b1, b2⟩ s' ⟨hb', rfl, as, bs, x', y', hz, ha, hc, hlen, hR⟩
      simp only at hb'
      subst hb'
      have hv : lexS x' y' = decide (us.size < vs.size) := by
        cases ha with
        | nil =>
          cases hc with
          | nil =>
            simp only [List.length_nil] at hlen
            exact (decide_eq_false (by omega)).symm
          | cons c u hw =>
            simp only [List.length_nil, List.length_cons] at hlen
            exact (decide_eq_true (by omega)).symm
        | cons a t hv =>
          cases hc with
          | nil =>
            simp only [List.length_nil, List.length_cons] at hlen
            exact (decide_eq_false (by omega)).symm
          | cons c u hw =>
            rw [List.zip_cons_cons] at hz
            cases hz
      rw [hv] at hR
      wp_walk
      exact ⟨_, rfl, by simpa [Builtin.Tuple.tupleCompareSizes] using hR⟩
    case h =>
      exact ⟨rfl, rfl, us.toList, vs.toList, xs, ys, rfl, hx, hy, by omega, h⟩
theorem lt_tupTexts {prog : Program} {w : World} {A : Around} {E : Value → Shared → Prop} {s : Shared} {l b : Addr} {us vs : Array Value} {xs ys : List Str} {Q : Value → Shared → Prop} (hl : IsTup s.heap l us) (hb : IsTup s.heap b vs)
    (hx : StrsAre us.toList xs) (hy : StrsAre vs.toList ys) (hu : A.units < cLine) (h : Q (.bool (lexS xs ys)) s) : wpAny (model prog w) A (compareOp .Lt (.ref l) (.ref b)) Q E s := by
  obtain ⟨⟨c1, d1, e1, sl1⟩, ho, hc, n, hd⟩ := id hl
  obtain ⟨⟨c2, d2, e2, sl2⟩, ho2, hc2, m, hd2⟩ := id hb
  simp only at hc hd hc2 hd2
  subst hc hd hc2 hd2
  exact richCompare_meets_room (op := .Lt) ⟨_, ho, rfl⟩ ⟨_, ho2, rfl⟩ PySem.F.slot_tuple_lt PySem.F.entry_tuple_lt (PySem.F.args_tuple_lt_2 _ _) (tuple_lt_texts l b us vs n m d1 d2 sl1 sl2 xs ys hx hy)
    ⟨ho, ho2, show Value.bool (lexS xs ys) ≠ Value.notImplemented ∧ Q (.bool (lexS xs ys)) s from ⟨(fun x => nomatch x), h⟩⟩ hu
end
/-! ### sorted of questions -/
/-- v is a question in the heap -/
def IsQ (h : Heap) (v : Value) (q : Qd) : Prop := ∃ (a c : Addr) (o oc : Obj) (t : Tok) (us : List Value) (n m : Nat), v = .ref a ∧ h.get? a = some o ∧ o.cls = .type "tuple" ∧ o.data = .seq #[.ref c, .str q.2 t] n ∧
  h.get? c = some oc ∧ oc.cls = .type "tuple" ∧ oc.data = .seq us.toArray m ∧ StrsAre us q.1
theorem IsQ.keeps {h h' : Heap} {v : Value} {q : Qd} (x : IsQ h v q) (k : ∀ b o, h.get? b = some o → o.cls = .type "tuple" → h'.get? b = some o) : IsQ h' v q := by
  obtain ⟨a, c, o, oc, t, us, n, m, e, ho, hc, hd, hoc, hcc, hdc, hs⟩ := x
  exact ⟨a, c, o, oc, t, us, n, m, e, k _ _ ho hc, hc, hd, k _ _ hoc hcc, hcc, hdc, hs⟩
section
variable {prog : Program} {w : World} {A : Around} {E : Value → Shared → Prop} {s : Shared}
theorem reads_strs {h : Heap} : ∀ {us : List Value} {xs : List Str}, StrsAre us xs → ∃ as, ReadsAll h us (xs.map PyData.str) as
  | _, _, .nil => ⟨_, ReadsAll.nil⟩
  | _, _, .cons x t r => by
    obtain ⟨as, q⟩ := reads_strs (h := h) r
    exact ⟨_, ReadsAll.cons (Reads.str x t) q⟩
theorem q_cmp {vs : List Value} {k : Value → Qd} (hu : A.units + 64 < cLine) (hm : ∀ v ∈ vs, ∀ c ∈ (k v).1, PyData.strOk c = true) (hp : ∀ v ∈ vs, IsQ s.heap v (k v)) : SrtO.Cmp prog w A s (tuples' false) (fun p => p.1 ∈ vs) (SrtO.lt2 fun v u => ltQ (k v) (k u)) := by
  intro p q hm1 hm2
  have h1 := hp _ hm1
  have h2 := hp _ hm2
  have m1 := hm _ hm1
  have m2 := hm _ hm2
  show wpAny (model prog w) A (keyLt' (tuples' false) p.1 q.1) (fun r s' => s' = s ∧ r = ltQ (k p.1) (k q.1)) (fun _ _ => False) s
  generalize k p.1 = x at h1 m1 ⊢
  generalize k q.1 = y at h2 m2 ⊢
  obtain ⟨xc, xe⟩ := x
  obtain ⟨yc, ye⟩ := y
  obtain ⟨a, c, o, oc, t, us, n, m, e, ho, hc, hd, hoc, hcc, hdc, hs⟩ := h1
  obtain ⟨a', c', o', oc', t', us', n', m', e', ho', hc', hd', hoc', hcc', hdc', hs'⟩ := h2
  rw [e, e']
  refine PySem.W.kat_lt ho hd ho' hd' ?_
  show PySem.W.KatLex prog w A false (decide (2 < 2)) _ [(.ref c, .ref c'), (.str xe t, .str ye t')] 0 s
  obtain ⟨as, r1⟩ := reads_strs (h := s.heap) hs
  obtain ⟨bs, r2⟩ := reads_strs (h := s.heap) hs'
  have rd1 : Reads s.heap (.ref c) (.tuple (xc.map PyData.str)) as := Reads.tuple hoc hcc hdc (by simpa using r1)
  have rd2 : Reads s.heap (.ref c') (.tuple (yc.map PyData.str)) bs := Reads.tuple hoc' hcc' hdc' (by simpa using r2)
  have l1 : (PyData.tuple (xc.map PyData.str)).canLay0 = true := lay_strs m1
  have l2 : (PyData.tuple (yc.map PyData.str)).canLay0 = true := lay_strs m2
  refine PySem.W.kat_cons (SeqAt.eqBoolOverData prog w A _ s _ _ _ _ as bs _ rd1 rd2 l1 l2 ?_ ?_)
  · have : (PyData.tuple (xc.map PyData.str)).depth = 1 := by
      show PyData.depthAll _ + 1 = 1
      rw [depth_strs]
    omega
  rw [PyData.eqv, eqv_strs]
  by_cases ex : xc = yc
  · rw [decide_eq_true ex]
    refine PySem.W.kat_yes (PySem.W.kat_cons (SeqAt.EqAt.str_str xe t ye t' prog w _ _ ?_))
    by_cases ey : xe = ye
    · have e3 : ltQ (xc, xe) (yc, ye) = false := by rw [ex, ey]; exact ltQ_irrefl _
      have e4 : (xe == ye) = true := beq_iff_eq.mpr ey
      rw [e4]
      exact PySem.W.kat_yes (PySem.W.kat_nil ⟨rfl, e3.symm⟩)
    · have e3 : ltQ (xc, xe) (yc, ye) = ltS xe ye := if_pos ex
      have e4 : (xe == ye) = false := beq_eq_false_iff_ne.mpr ey
      rw [e4]
      refine PySem.W.kat_no (PySem.W.kat_one _ _ (rcLt_str A s xe t ye t' prog w _ _ ?_))
      exact (show s = s ∧ ltS xe ye = ltQ (xc, xe) (yc, ye) from ⟨rfl, e3.symm⟩)
  · rw [decide_eq_false ex]
    have e3 : ltQ (xc, xe) (yc, ye) = lexS xc yc := if_neg ex
    refine PySem.W.kat_no (PySem.W.kat_one _ _ (lt_tupTexts (us := us.toArray) (vs := us'.toArray) ⟨oc, hoc, hcc, m, hdc⟩ ⟨oc', hoc', hcc', m', hdc'⟩ (by simpa using hs) (by simpa using hs') (by omega) ?_))
    exact (show s = s ∧ lexS xc yc = ltQ (xc, xe) (yc, ye) from ⟨rfl, e3.symm⟩)
theorem q_firsts {h : Heap} : ∀ {vs : List Value} {k : Value → Qd}, (∀ v ∈ vs, IsQ h v (k v)) → ∃ fs : List Value, PySem.W.KatTups h vs fs ∧ fs.length = vs.length ∧ ∀ f ∈ fs, ∃ c oc, f = Value.ref c ∧ h.get? c = some oc ∧ oc.cls = .type "tuple"
  | [], _, _ => ⟨[], PySem.W.KatTups.nil, rfl, fun _ hm => by simp at hm⟩
  | v :: vs, k, hp => by
    obtain ⟨fs, h1, h2, h3⟩ := q_firsts (vs := vs) (k := k) fun v' hm => hp v' (List.mem_cons_of_mem _ hm)
    obtain ⟨a, c, o, oc, t, us, n, m, e, ho, hc, hd, hoc, hcc, hdc, hs⟩ := hp v List.mem_cons_self
    subst e
    refine ⟨.ref c :: fs, PySem.W.KatTups.cons ho hc hd rfl h1, by rw [List.length_cons, List.length_cons, h2], fun f hm => ?_⟩
    rcases List.mem_cons.mp hm with rfl | hm
    · exact ⟨c, oc, rfl, hoc, hcc⟩
    · exact h3 f hm
theorem q_sortable {a : Addr} {vs : List Value} {k : Value → Qd} (hu : A.units + 64 < cLine) (h0 : 0 < vs.length) (hm : ∀ v ∈ vs, ∀ c ∈ (k v).1, PyData.strOk c = true) (hp : ∀ v ∈ vs, IsQ s.heap v (k v)) (ha : ∀ o, s.heap.get? a = some o → o.cls ≠ .type "tuple") :
    SrtO.SortableO prog w A s a vs fun v u => ltQ (k v) (k u) := by
  intro h' keep
  have hp' : ∀ v ∈ vs, IsQ h' v (k v) := fun v hm => (hp v hm).keeps fun b o e c => keep b o (fun z => by subst z; exact ha o e c) e
  obtain ⟨fs, h1, h2, h3⟩ := q_firsts hp'
  refine ⟨tuples' false, fun Q E hq => ?_, q_cmp hu hm hp'⟩
  refine PySem.W.kat_kind (T := .type "tuple") h1 (by omega) (fun f hf => ?_) (by rfl) ?_
  · obtain ⟨c, oc, rfl, hoc, hcc⟩ := h3 f hf
    rw [← hcc]
    exact (PySem.W.Looks.ld hoc).andThen PySem.W.Looks.now
  · have e : (Value.type "tuple" != Value.type "tuple") = false := by first | decide +kernel | rfl | decide
    rw [e]
    exact hq
end
section
variable {X : Cx}
/-- sorted(xs) of questions: a new list of the same ones, rising -/
def rSortedQ (K : PySem.W.Frag) : List V → Hp → VK → Prop := fun vs H Q => ∃ (a : Addr) (xs : List V) (k : V → Qd), vs = [V.ref a] ∧ SqL K H a xs ∧ (∀ x ∈ xs, ∃ t, x = V.ref t ∧ QAt H t (k x).1 (k x).2 ∧ ∀ c ∈ (k x).1, PyData.strOk c = true) ∧
  ∀ ys p, ys.Perm xs → (ys.map k).Pairwise (fun a b => ltQ b a = false) → H p = none → Q (.ref p) (upd H p (.lst ys))
theorem cr_sortedQ (hu : X.A.units + 80 < cLine) : CallR X (.builtin "sorted") (rSortedQ X.K) := by
  intro pins s σ H vs us Q I r h
  obtain ⟨a, xs, k, rfl, hs, hx, q⟩ := h
  obtain ⟨its, rv, hl, hz⟩ := I.list hs
  obtain ⟨u, rfl, ru⟩ := vals1 r
  obtain rfl : u = Value.ref a := ru
  obtain ⟨e1, e2⟩ := refs_back rv fun x m => by
    obtain ⟨t, e, _⟩ := hx x m
    exact ⟨t, e⟩
  have isq : ∀ v ∈ its, IsQ s.heap v (k (backV v)) ∧ ∀ c ∈ (k (backV v)).1, PyData.strOk c = true := fun v hv => by
    obtain ⟨t, rfl⟩ := e2 v hv
    have hmem : V.ref t ∈ xs := by rw [e1]; exact List.mem_map.mpr ⟨_, hv, rfl⟩
    obtain ⟨t', e, ⟨c, g1, g2⟩, g3⟩ := hx _ hmem
    cases e
    obtain ⟨_, i1, r1, o, ho, hc, n, hd⟩ := I.hok _ _ g1
    obtain ⟨_, i2, r2, oc, hoc, hcc, m, hdc⟩ := I.hok _ _ g2
    obtain ⟨u1, u2, rfl, ra, rb⟩ := vals2 r1
    obtain rfl : u1 = Value.ref c := ra
    obtain ⟨tk, rfl⟩ := rb
    exact ⟨⟨t, c, o, oc, tk, i2, n, m, rfl, ho, hc, hd, hoc, hcc, hdc, r2.strs⟩, g3⟩
  refine SrtO.sorted_ord (swo_q fun u => k (backV u)) hl.isList (by rw [← rv.length]; exact hz) (fun h2 h₁ b hb kk => ?_) fun out h1 h2 => ?_
  · refine q_sortable (s := { s with heap := h₁ }) (by show X.A.units + 1 + 1 + 64 < cLine; omega) (by omega) (fun v hv => (isq v hv).2) (fun v hv => (isq v hv).1.keeps fun c o e _ => (kk c o e).2) fun o e => ?_
    have e' : some o = some (seqObj "list" its.toArray 0) := e.symm.trans hb
    cases e'
    intro c
    exact absurd (Value.type.inj c) (by decide)
  · have h3 : ∀ u ∈ out, ∃ a, u = Value.ref a := fun u hu => e2 u (h2.perm.mem_iff.mp hu)
    obtain ⟨n, hn⟩ := sortedAll_at s.heap its out.toArray
    have hperm : (out.map backV).Perm xs := by
      rw [e1]
      exact h2.perm.map backV
    have hsrt : ((out.map backV).map k).Pairwise (fun a b => ltQ b a = false) := by
      rw [List.map_map]
      exact List.pairwise_map.mpr h1
    refine ⟨.ref (s.heap.objs.size + 1), upd H (s.heap.objs.size + 1) (.lst (out.map backV)), I.laid (t' := s.toks) (fun b o e => sortedAll_old e) (Nat.le_succ _) ⟨?_, out, n, vals_back h3, hn⟩, rfl, q _ _ hperm hsrt (I.hok.fresh (Nat.le_succ _))⟩
    rw [hperm.length_eq]
    exact hz
end
end Qk

set_option maxRecDepth 100000
set_option maxHeartbeats 4000000
namespace Qk
open PySem PySem.Spec PyProof.Rows L2 PySem.W

/-! ### enumerate of a tuple -/
set_option maxHeartbeats 1000000 in
theorem meets_enum1 {v : Value} {o : Obj} {H : Heap → Prop} (B : Begins v o H) :
    Meets (Builtin.«enumerate.__new__» ⟨[.type "enumerate", v], []⟩) (fun _ R s => H s.heap ∧
      R (.ok (.ret (.ref (s.heap.push o).objs.size))) { s with heap := (s.heap.push o).push { cls := .type "enumerate", data := .fields #[.none, .bool false, .ref s.heap.objs.size, rawInt 0, .none, .none] } }) :=
  .of_wp fun prog w A R s h => by
    obtain ⟨hp, g, d, tk, os⟩ := s
    obtain ⟨h1, h⟩ := h
    have hsub := sub_enumerate
    have q1 : ∀ {A' : Around} {E : Value → Shared → Prop} {Q : Value → Shared → Prop}, Q (.ref hp.objs.size) ⟨hp.push o, g, d, tk, os⟩ → wpAny (model prog w) A' (pyIter v) Q E ⟨hp, g, d, tk, os⟩ :=
      fun q => B.iter prog w _ _ ⟨hp, g, d, tk, os⟩ _ h1 q
    wp_walk using q1
    refine wpAny_stack_any fun st => wpAny_pure ?_
    split
    · rename_i c _ _ _ _ _
      cases (c == Value.type "enumerate")
      · wp_walk using q1
        exact ⟨_, rfl, h⟩
      · wp_walk using q1
        exact ⟨_, rfl, h⟩
    · wp_walk using q1
      exact ⟨_, rfl, h⟩
theorem call_enum1 {prog : Program} {w : World} {A : Around} {E : Value → Shared → Prop} {s : Shared} {v : Value} {o : Obj} {H : Heap → Prop} {Q : Value → Shared → Prop} (B : Begins v o H) (h1 : H s.heap)
    (h : ∀ h', IsEnum h' (s.heap.objs.size + 1) s.heap.objs.size 0 .none → h'.get? s.heap.objs.size = some o → (∀ b o, s.heap.get? b = some o → h'.get? b = some o) → Q (.ref (s.heap.objs.size + 1)) { s with heap := h' }) :
    wpAny (model prog w) A (call (.type "enumerate") [v]) Q E s := by
  refine callType_new F.called_enumerate (by decide) (F.typeCall_enumerate_1 _) (F.newCall_enumerate_1 _) (fun obj => F.args_object_init_2 obj _) F.entry_enumerate_new (meets_enum1 B) ⟨h1, ?_⟩
  have hz : (s.heap.push o).objs.size = s.heap.objs.size + 1 := Heap.size_push ..
  show _ ∧ _
  rw [hz]
  have he : IsEnum ((s.heap.push o).push { cls := .type "enumerate", data := .fields #[.none, .bool false, .ref s.heap.objs.size, rawInt 0, .none, .none] }) (s.heap.objs.size + 1) s.heap.objs.size 0 .none := by
    have q := Heap.get?_push_size (s.heap.push o) (o := { cls := .type "enumerate", data := .fields #[.none, .bool false, .ref s.heap.objs.size, rawInt 0, .none, .none] }) rfl
    rw [hz] at q
    exact q
  exact ⟨⟨_, he, rfl⟩, h _ he (Heap.get?_push_of_some _ (Heap.get?_push_size _ B.free)) fun b u x => Heap.get?_push_of_some _ (Heap.get?_push_of_some _ x)⟩
/-- the tuple at a, each item in a new pair -/
def IteT (K : PySem.W.Frag) (a : Addr) : It :=
  ⟨fun i H => ∃ (xs : List V) (x : V), SqT K H a xs ∧ xs[i]? = some x, fun i H v H' => ∃ T x, v = .ref T ∧ H T = none ∧ H' = upd H T (.tup [.int (i : Nat), x]) ∧ ∀ xs, SqT K H a xs → xs[i]? = some x, fun i H => ∃ xs : List V, SqT K H a xs ∧ xs.length = i⟩
theorem turn_enumT {P : Program} {w : World} {K : PySem.W.Frag} {elts : List Expr} {kk : Nat} {tpos : Pos} (a e it : Addr) :
    Turn P w K (.Tuple elts kk tpos) (IteT K a) [e, it] e (fun i h => (∃ old, IsEnum h e it ((i : Nat) : Int) old) ∧ h.IsTupleIter it a i ∧ e ≠ it ∧ a ≠ it ∧ a ≠ e) where
  mem := by simp
  obj := fun i h st b hb => by
    obtain ⟨⟨old, he⟩, ⟨o, ho, hc, hd⟩, _⟩ := st
    have e' : b = e ∨ b = it := by simpa using hb
    rcases e' with z | z
    · rw [z]; exact ⟨_, he, fun v q => nomatch q⟩
    · rw [z]; exact ⟨o, ho, fun v q => by rw [hd] at q; cases q⟩
  keep := fun i h h' st k => let ⟨⟨old, he⟩, hi, hne⟩ := st; ⟨⟨old, k e (by simp) _ he⟩, hi.at fun o q => k it (by simp) o q, hne⟩
  item := by
    intro X hP hw hK hc i pins s σ H E I hf st hg
    subst hP hw hK
    obtain ⟨⟨old, he⟩, hit, hne, hai, hae⟩ := st
    obtain ⟨xs, x, hq, hx⟩ := hg
    obtain ⟨its, rv, p, hz⟩ := I.tuple hq
    obtain ⟨u, hu, ru⟩ := rv.get hx
    have hel : e < s.heap.objs.size := Heap.lt_size he
    have hil : it < s.heap.objs.size := by obtain ⟨_, q, _⟩ := hit; exact Heap.lt_size q
    have hT0 : s.heap.IsTuple a its.toArray := p
    have hlt : i < its.toArray.size := by
      have := (List.getElem?_eq_some_iff.mp hu).1
      simpa using this
    refine wpAny_pyNext_enum_itemD (Draws.tuple (A := X.A.in1) (I.ok.hd hc) it a hai its.toArray) he ⟨hit, hT0⟩ hlt hne (by simp [Ne.symm hae, hne]) fun y h' tk hy ho hst hT hsz hk => ?_
    have hyu : y = u := by
      have h1 : its.toArray[i]? = some y := hy
      rw [List.getElem?_toArray, hu] at h1
      exact (Option.some.inj h1).symm
    subst hyu
    obtain ⟨hit', _⟩ := hst
    refine ⟨_, rfl, wpAny_letOwnedTupleGo_enum (s := { s with heap := h', toks := tk + 1 }) ho fun h'' he' sb => ?_⟩
    have hT2 : h''.get? s.heap.objs.size = some { cls := .type "tuple", data := .seq #[.int i tk, y] } := (sb.2 _ (Nat.ne_of_gt hel)).trans hT
    have new : ObjOk X.prog X.w (upd H s.heap.objs.size (.tup [.int (i : Nat), x])) h'' s.heap.objs.size (.tup [.int (i : Nat), x]) :=
      ⟨by show 2 ≤ sizeLine; decide, [.int i tk, y], .cons ⟨_, rfl⟩ (.cons ru .nil), ⟨_, hT2, rfl, _, rfl⟩⟩
    have I1 : Inv X pins σ (upd H s.heap.objs.size (.tup [.int (i : Nat), x])) { s with heap := h'', toks := tk + 1 } :=
      I.turnedNew (ch := [e, it]) (fun b ob hb q => (sb.2 b (fun z => hb (by simp [z]))).trans (hk b ob (fun z => hb (by simp [z])) (fun z => hb (by simp [z])) q)) hf (Nat.le_refl _) new
    refine ⟨.ref s.heap.objs.size, _, I1, rfl, ⟨_, x, rfl, I.hok.fresh (Nat.le_refl _), rfl, fun ys hy => by rw [I.tuple_inj hy hq]; exact hx⟩, ⟨⟨y, ?_⟩, hit'.at fun o q => (sb.2 it (Ne.symm hne)).trans q, hne, hai, hae⟩, fun b hb => ?_⟩
    · have e1 : ((i + 1 : Nat) : Int) = (i : Int) + 1 := by omega
      rw [e1]; exact he'
    · have hb' : b < s.heap.objs.size := by
        have e' : b = e ∨ b = it := by simpa using hb
        rcases e' with z | z
        · rw [z]; exact hel
        · rw [z]; exact hil
      rw [upd_ne (Nat.ne_of_lt hb')]
      exact (hf b hb).1
  done := by
    intro X hP hw hK hc i pins s σ H E I hf st hg
    subst hP hw hK
    obtain ⟨⟨old, he⟩, hit, hne, hai, hae⟩ := st
    obtain ⟨xs, hq, hx⟩ := hg
    obtain ⟨its, rv, p, hz⟩ := I.tuple hq
    obtain ⟨f0, f1, f2, f3, f4, f5⟩ := hf it (by simp)
    have hT0 : s.heap.IsTuple a its.toArray := p
    have hi : i = its.toArray.size := by
      rw [List.size_toArray, ← rv.length]
      exact hx.symm
    subst hi
    exact wpAny_pyNext_enum_endD (Draws.tuple (A := X.A.in1) (I.ok.hd hc) it a hai its.toArray) he ⟨hit, hT0⟩ fun h' eb => ⟨rfl, I.turned (t' := s.toks) (fun b o hb q => eb b o hb q) f0 f1 f3 f4 f5⟩
  self := fun A i s Q E st h => let ⟨⟨_, he⟩, _⟩ := st; wpAny_pyIter_enum he h
def iEnumT (K : PySem.W.Frag) (ta : TA) : TI := fun σ H R => ta σ H fun vs H1 => ∃ a xs, vs = [.ref a] ∧ SqT K H1 a xs ∧ R (IteT K a) H1
theorem pi_enumT {X : Cx} {e : Expr} {ta : TA} {p pos tpos : Pos} {elts : List Expr} {kk : Nat} (hg : Gl X "enumerate") (hm : X.mg "enumerate" = none) (ha : PA X [e] ta) (hs : starEach [e] X.env = [(false, eval e X.env)] := by rfl) :
    PI X (.Tuple elts kk tpos) (.Call (.Name "enumerate" p) [e] [] pos) (iEnumT X.K ta) := by
  refine ⟨fun pins s σ H R I h => ?_⟩
  refine Call_ (ld_blt I hg hm boot_enumerate (PyProof.Rows.callWith_type1 (thn (ha.run pos pins s σ H _ I h) fun us s1 ⟨vs, H1, I1, r1, q1⟩ => ?_) hs rfl))
  obtain ⟨a, xs, ex, hq, q⟩ := q1
  subst ex
  cases r1 with
  | cons r rr =>
    cases rr
    cases r
    obtain ⟨its, rv, p', hz⟩ := I1.tuple hq
    have al : a < s1.heap.objs.size := p'.lt
    refine call_enum1 (begins_tuple a its.toArray) p' fun h' he hit hk => wpAny_pyIter_enum he ?_
    have I2 : Inv X pins σ H1 { s1 with heap := h' } := I1.kept (t' := s1.toks) hk
    refine ⟨s1.heap.objs.size + 1, [s1.heap.objs.size + 1, s1.heap.objs.size], _, _, H1, rfl, I2, turn_enumT a (s1.heap.objs.size + 1) s1.heap.objs.size, ⟨⟨.none, he⟩, ⟨_, hit, rfl, rfl⟩, Nat.succ_ne_self _, Nat.ne_of_lt al, Nat.ne_of_lt (Nat.lt_succ_of_lt al)⟩, fun b hb => ?_, q⟩
    have e' : b = s1.heap.objs.size + 1 ∨ b = s1.heap.objs.size := by simpa using hb
    have hle : s1.heap.objs.size ≤ b := by
      rcases e' with z | z
      · rw [z]; exact Nat.le_add_right _ _
      · rw [z]; exact Nat.le_refl _
    exact I1.fpOk hle (I1.hok.fresh hle)
/-- for i, x in enumerate(t): a word of the turn, the slots, the heap -/
theorem for_enumT {K : PySem.W.Frag} {a : Addr} {xs : List V} {g : TG} {tb : TS} {D : Ends} {σ : L2.St} {H : Hp} (Pv : Nat → L2.St → Hp → Prop) (h0 : Pv 0 σ H) (hl : ∀ i σ H, i ≤ xs.length → Pv i σ H → SqT K H a xs)
    (hs : ∀ i x σ H, xs[i]? = some x → Pv i σ H → ∀ T, H T = none → g (.ref T) σ (upd H T (.tup [.int (i : Nat), x])) fun σ2 H2 => tb { D with nx := Pv (i + 1), ct := Pv (i + 1), bk := D.nx } σ2 H2) (hd : ∀ σ H, Pv xs.length σ H → D.nx σ H) :
    ∃ W : Nat → Nat → L2.St → Hp → Prop, (∃ m, W 0 m σ H) ∧ ∀ i m σ H, W i m σ H →
      ((IteT K a).stop i H ∧ D.nx σ H) ∨ ((IteT K a).go i H ∧ ∃ N : L2.St → Hp → Prop, (∀ σ' H', N σ' H' → ∃ m', m' < m ∧ W (i + 1) m' σ' H') ∧ ∀ x H', (IteT K a).yld i H x H' → g x σ H' fun σ2 H2 => tb { D with nx := N, ct := N, bk := D.nx } σ2 H2) := by
  refine ⟨fun i m σ H => m = xs.length - i ∧ i ≤ xs.length ∧ Pv i σ H, ⟨xs.length, by simp, Nat.zero_le _, h0⟩, ?_⟩
  rintro i m σ H ⟨rfl, hi, p⟩
  have q := hl i σ H hi p
  rcases Nat.lt_or_ge i xs.length with hlt | hge
  · have hx : xs[i]? = some xs[i] := List.getElem?_eq_getElem hlt
    refine .inr ⟨⟨xs, xs[i], q, hx⟩, Pv (i + 1), fun σ' H' p' => ⟨xs.length - (i + 1), by omega, rfl, hlt, p'⟩, fun x H' y => ?_⟩
    obtain ⟨T, z, rfl, hT, rfl, hz⟩ := y
    have e := hz xs q
    exact hs i z σ H e p T hT
  · have e : i = xs.length := by omega
    subst e
    exact .inl ⟨⟨xs, q, rfl⟩, hd σ H p⟩
end Qk

set_option maxRecDepth 100000
set_option maxHeartbeats 4000000
namespace Qk
open PySem PySem.Spec PyProof.Rows L2

/-! the sorted list of some texts -/
instance (a b : Str) : Decidable (leS a b) := by unfold leS; infer_instance
def srt (xs : List Str) : List Str := xs.mergeSort (fun a b => decide (leS a b))
theorem leS_total (a b : Str) : leS a b ∨ leS b a := by
  unfold leS
  rw [ltCps_eq, ltCps_eq]
  by_cases h : b.cps.toList < a.cps.toList
  · right
    refine decide_eq_false fun h2 => List.lt_irrefl _ (List.lt_trans h h2)
  · left
    exact decide_eq_false h
theorem srt_perm (xs : List Str) : (srt xs).Perm xs := List.mergeSort_perm _ _
theorem srt_pw (xs : List Str) : (srt xs).Pairwise leS := by
  have h := List.pairwise_mergeSort (le := fun a b => decide (leS a b)) (fun a b c h1 h2 => decide_eq_true (leS_trans (of_decide_eq_true h1) (of_decide_eq_true h2)))
    (fun a b => by
      rcases leS_total a b with h | h
      · simp [h]
      · simp [h]) xs
  exact h.imp fun h => of_decide_eq_true h
theorem srt_eq {ws xs : List Str} (h : ws.Perm xs) (hs : sortedS ws = true) : ws = srt xs := perm_sorted (h.trans (srt_perm xs).symm) (sortedS_pw hs) (srt_pw xs)
theorem srt_len (xs : List Str) : (srt xs).length = xs.length := (srt_perm xs).length_eq

/-! all questions that an index serves, as the index is walked -/
def qPair (ix : List Str) (j : Nat) : List Qd := [(srt (ix.take j), ix.getD j ""), (srt (ix.take (j + 1)), "")]
def allQ (ix : List Str) (n : Nat) : List Qd := (List.range n).flatMap (qPair ix)
theorem allQ_zero (ix : List Str) : allQ ix 0 = [] := rfl
theorem allQ_succ (ix : List Str) (n : Nat) : allQ ix (n + 1) = allQ ix n ++ qPair ix n := by
  unfold allQ
  rw [List.range_succ, List.flatMap_append]
  simp
theorem allQ_len (ix : List Str) : ∀ n, (allQ ix n).length = 2 * n
  | 0 => rfl
  | n + 1 => by
    rw [allQ_succ, List.length_append, allQ_len ix n]
    show 2 * n + 2 = _
    omega
theorem mem_allQ {ix : List Str} {n : Nat} {q : Qd} : q ∈ allQ ix n ↔ ∃ j, j < n ∧ (q = (srt (ix.take j), ix.getD j "") ∨ q = ((srt (ix.take (j + 1)), ("" : Str)) : Qd)) := by
  unfold allQ
  rw [List.mem_flatMap]
  constructor
  · rintro ⟨j, hj, h⟩
    refine ⟨j, List.mem_range.mp hj, ?_⟩
    simpa [qPair] using h
  · rintro ⟨j, hj, h⟩
    refine ⟨j, List.mem_range.mpr hj, ?_⟩
    simpa [qPair] using h
/-- a question is among them just if the index serves it -/
theorem allQ_serves {ix cols : List Str} {e : Str} (R : Row ix) (hc : cols.Nodup) (hs : sortedS cols = true) (hne : e = "" → cols ≠ []) : (cols, e) ∈ allQ ix ix.length ↔ fault ix cols e = none := by
  have hp := srt_perm (ix.take cols.length)
  have key : fault ix cols e = none ↔ srt (ix.take cols.length) = cols ∧ (e = "" ∨ ix[cols.length]? = some e) := by
    constructor
    · intro h
      have good := h
      unfold fault at good
      -- through the sorted list itself
      have e1 : ∃ ws : List Str, ws.Perm (ix.take cols.length) ∧ sortedS ws = true := by
        refine ⟨srt (ix.take cols.length), hp, sortedS_of_pairwise _ (srt_pw _)⟩
      obtain ⟨ws, w1, w2⟩ := e1
      have := (fault_none (last := e) R.nd hc hs w1 w2).mp h
      rw [← srt_eq w1 w2]
      exact this
    · rintro ⟨h1, h2⟩
      exact (fault_none (last := e) R.nd hc hs hp (sortedS_of_pairwise _ (srt_pw _))).mpr ⟨h1, h2⟩
  rw [mem_allQ, key]
  have getD_at : ∀ j, j < ix.length → ix[j]? = some (ix.getD j "") := fun j hj => by
    rw [List.getD_eq_getElem?_getD, List.getElem?_eq_getElem hj]
    rfl
  constructor
  · rintro ⟨j, hj, h | h⟩
    · injection h with h1 h2
      have hl : cols.length = j := by rw [h1, srt_len, List.length_take]; omega
      rw [hl]
      exact ⟨h1.symm, .inr (by rw [h2]; exact getD_at j hj)⟩
    · injection h with h1 h2
      have hl : cols.length = j + 1 := by rw [h1, srt_len, List.length_take]; omega
      rw [hl]
      exact ⟨h1.symm, .inl h2⟩
  · rintro ⟨h1, h2⟩
    have hl : cols.length ≤ ix.length := by
      have := congrArg List.length h1
      rw [srt_len, List.length_take] at this
      omega
    by_cases he : e = ""
    · have hpos : cols.length ≠ 0 := fun z => hne he (List.eq_nil_of_length_eq_zero z)
      refine ⟨cols.length - 1, by omega, .inr ?_⟩
      have e1 : cols.length - 1 + 1 = cols.length := by omega
      rw [e1, h1, he]
    · have h3 := h2.resolve_left he
      have hlt : cols.length < ix.length := (List.getElem?_eq_some_iff.mp h3).1
      refine ⟨cols.length, hlt, .inl ?_⟩
      rw [h1]
      have := getD_at _ hlt
      rw [h3] at this
      rw [← Option.some.inj this]

/-! lists of questions as they stand -/
def QL (H : Hp) (xs : List V) (qs : List Qd) : Prop := Paired (fun (x : V) (q : Qd) => ∃ t, x = .ref t ∧ QAt H t q.1 q.2) xs qs
theorem QL.len {H : Hp} {xs : List V} {qs : List Qd} (h : QL H xs qs) : xs.length = qs.length := Paired.length h
theorem QL.same {H H' : Hp} {xs : List V} {qs : List Qd} (s : Same H H') (h : QL H xs qs) : QL H' xs qs := Paired.mapP h fun x q ⟨t, e, z⟩ => ⟨t, e, z.same s⟩
theorem QL.kp {H H' : Hp} {b l : Addr} {xs : List V} {qs : List Qd} (B : Bag H b l) (s : Kp b H H') (h : QL H xs qs) : QL H' xs qs := Paired.mapP h fun x q ⟨t, e, z⟩ => ⟨t, e, z.kp B s⟩
theorem paired_app {α β : Type} {F : α → β → Prop} : ∀ {xs xs' : List α} {ys ys' : List β}, Paired F xs ys → Paired F xs' ys' → Paired F (xs ++ xs') (ys ++ ys')
  | _, _, _, _, .nil, h => h
  | _, _, _, _, .cons r t, h => .cons r (paired_app t h)
theorem QAt.uniq {H : Hp} {t : Addr} {c1 c2 : List Str} {e1 e2 : Str} (h1 : QAt H t c1 e1) (h2 : QAt H t c2 e2) : (c1, e1) = (c2, e2) := by
  obtain ⟨a, x1, x2⟩ := h1
  obtain ⟨b, y1, y2⟩ := h2
  rw [x1] at y1
  injection y1 with y1
  injection y1 with y1
  injection y1 with y1 y3
  injection y3 with y3 _
  injection y1 with y1
  injection y3 with y3
  subst y1
  rw [x2] at y2
  injection y2 with y2
  injection y2 with y2
  have : c1 = c2 := by
    have inj : ∀ {l m : List Str}, l.map V.str = m.map V.str → l = m := fun {l m} h => by
      induction l generalizing m with
      | nil => cases m with
        | nil => rfl
        | cons _ _ => cases h
      | cons x l ih => cases m with
        | nil => cases h
        | cons y m =>
          rw [List.map_cons, List.map_cons] at h
          injection h with h h'
          injection h with h
          rw [h, ih h']
    exact inj y2
  rw [this, y3]
open Classical in
noncomputable def keyQ (H : Hp) (x : V) : Qd := if h : ∃ q : Qd, ∃ t, x = .ref t ∧ QAt H t q.1 q.2 then h.choose else ([], "")
theorem keyQ_at {H : Hp} {t : Addr} {q : Qd} (h : QAt H t q.1 q.2) : keyQ H (.ref t) = q := by
  have ex : ∃ q : Qd, ∃ t', V.ref t = .ref t' ∧ QAt H t' q.1 q.2 := ⟨q, t, rfl, h⟩
  unfold keyQ
  rw [dif_pos ex]
  obtain ⟨t', e, z⟩ := ex.choose_spec
  injection e with e
  subst e
  exact z.uniq h
theorem QL.keys {H : Hp} : ∀ {xs : List V} {qs : List Qd}, QL H xs qs → xs.map (keyQ H) = qs
  | _, _, .nil => rfl
  | _, _, .cons ⟨t, e, z⟩ r => by
    subst e
    rw [List.map_cons, keyQ_at z, QL.keys r]
theorem QL.of_keys {H : Hp} : ∀ {xs : List V}, (∀ x ∈ xs, ∃ (t : Addr) (q : Qd), x = V.ref t ∧ QAt H t q.1 q.2) → QL H xs (xs.map (keyQ H))
  | [], _ => .nil
  | x :: xs, h => by
    obtain ⟨t, q, e, z⟩ := h x List.mem_cons_self
    subst e
    rw [List.map_cons, keyQ_at z]
    exact .cons ⟨t, rfl, z⟩ (QL.of_keys fun y hy => h y (List.mem_cons_of_mem _ hy))
theorem QL.mem {H : Hp} : ∀ {xs : List V} {qs : List Qd}, QL H xs qs → ∀ x ∈ xs, ∃ (t : Addr) (q : Qd), x = V.ref t ∧ QAt H t q.1 q.2 ∧ q ∈ qs
  | _, _, .nil, x, hx => by cases hx
  | _, _, .cons ⟨t, e, z⟩ r, x, hx => by
    rcases List.mem_cons.mp hx with rfl | hx
    · exact ⟨t, _, e, z, List.mem_cons_self⟩
    · obtain ⟨t', q', a, b, c⟩ := QL.mem r x hx
      exact ⟨t', q', a, b, List.mem_cons_of_mem _ c⟩
/-- no question stands behind a greater one -/
def rising (qs : List Qd) : Prop := qs.Pairwise (fun a b => ltQ b a = false)
def rSortedQL (K : PySem.W.Frag) : List V → Hp → VK → Prop := fun vs H Q => ∃ (a : Addr) (xs : List V) (qs : List Qd), vs = [V.ref a] ∧ SqL K H a xs ∧ QL H xs qs ∧ (∀ q ∈ qs, ∀ c ∈ q.1, PyData.strOk c = true) ∧
  ∀ (ys : List V) (rs : List Qd) (p : Addr), QL H ys rs → rs.Perm qs → rising rs → H p = none → Q (.ref p) (upd H p (.lst ys))
theorem cr_sortedQL {X : Cx} (hu : X.A.units + 80 < cLine) : CallR X (.builtin "sorted") (rSortedQL X.K) := by
  intro pins s σ H vs us Q I r h
  obtain ⟨a, xs, qs, rfl, hs, hq, hok, q⟩ := h
  refine cr_sortedQ hu pins s σ H _ us Q I r ⟨a, xs, keyQ H, rfl, hs, fun x hx => ?_, fun ys p hp hr hn => ?_⟩
  · obtain ⟨t, z, e, at_, hm⟩ := hq.mem x hx
    subst e
    rw [keyQ_at at_]
    exact ⟨t, rfl, at_, hok z hm⟩
  · refine q ys (ys.map (keyQ H)) p (QL.of_keys fun y hy => ?_) ?_ hr hn
    · obtain ⟨t, z, e, at_, _⟩ := hq.mem y (hp.mem_iff.mp hy)
      exact ⟨t, z, e, at_⟩
    · rw [← hq.keys]
      exact hp.map _
/-! .. as data -/
def dq (q : Qd) : PyData := dQ q.1 q.2
theorem QL.dp {K : PySem.W.Frag} {H : Hp} : ∀ {xs : List V} {qs : List Qd}, QL H xs qs → DpAll K H xs (qs.map dq)
  | _, _, .nil => .nil
  | _, _, .cons ⟨t, e, z⟩ r => by
    subst e
    exact .cons (dp_q z) (QL.dp r)
structure Qfine (q : Qd) : Prop where
  c : ∀ c ∈ q.1, okS c = true
  e : okS q.2 = true
  l : q.1.length ≤ 12
theorem okS_empty : okS "" = true := by decide +kernel
theorem fine_q {q : Qd} (h : Qfine q) : fine (dq q) = true := by
  show (fine (.tuple (q.1.map PyData.str)) && (fine (.str q.2) && true)) = true
  rw [Bool.and_true, Bool.and_eq_true]
  exact ⟨fine_strs h.c, h.e⟩
theorem cost_q {q : Qd} (h : Qfine q) : cost (dq q) ≤ 3000 := by
  have hl := h.l
  show costAll (q.1.map PyData.str) + 3 + 2 + (210 + 2 + 0) + 3 ≤ 3000
  rw [cost_strs]
  omega
theorem depth_q (q : Qd) : (dq q).depth = 2 := by
  show max (PyData.depthAll (q.1.map PyData.str) + 1) (max 0 0) + 1 = 2
  rw [depth_strs]
  rfl
theorem fine_qs : ∀ {qs : List Qd}, (∀ q ∈ qs, Qfine q) → fineAll (qs.map dq) = true
  | [], _ => rfl
  | q :: qs, h => by
    show (fine (dq q) && fineAll (qs.map dq)) = true
    rw [fine_qs fun q hq => h q (List.mem_cons_of_mem _ hq), Bool.and_true]
    exact fine_q (h q List.mem_cons_self)
theorem cost_qs : ∀ {qs : List Qd}, (∀ q ∈ qs, Qfine q) → costAll (qs.map dq) ≤ 3002 * qs.length
  | [], _ => Nat.le_refl 0
  | q :: qs, h => by
    have h1 := cost_q (h q List.mem_cons_self)
    have h2 := cost_qs fun q hq => h q (List.mem_cons_of_mem _ hq)
    show cost (dq q) + 2 + costAll (qs.map dq) ≤ _
    rw [List.length_cons]
    omega
theorem depth_qs : ∀ (qs : List Qd), PyData.depthAll (qs.map dq) ≤ 2
  | [] => Nat.zero_le _
  | q :: qs => by
    show max (dq q).depth (PyData.depthAll (qs.map dq)) ≤ 2
    rw [depth_q]
    exact Nat.max_le.mpr ⟨Nat.le_refl 2, depth_qs qs⟩
theorem dok_q {q : Qd} (h : Qfine q) : DOk (dq q) := ⟨fine_q h, by rw [depth_q]; decide, Nat.le_trans (cost_q h) (by decide)⟩
theorem dok_qs {qs : List Qd} (h : ∀ q ∈ qs, Qfine q) (hl : qs.length ≤ 100) : DOk (.list (qs.map dq)) :=
  ⟨fine_qs h, by show PyData.depthAll _ + 1 ≤ 50; have := depth_qs qs; omega, by show costAll _ + 3 ≤ _; have := cost_qs h; omega⟩
theorem eqv_q (p q : Qd) : PyData.eqv (dq p) (dq q) = decide (p = q) := by
  show PyData.eqv (.tuple [.tuple (p.1.map PyData.str), .str p.2]) (.tuple [.tuple (q.1.map PyData.str), .str q.2]) = _
  have e0 : PyData.eqv (.tuple (p.1.map PyData.str)) (.tuple (q.1.map PyData.str)) = decide (p.1 = q.1) := by rw [PyData.eqv, eqv_strs]
  rw [PyData.eqv, PyData.eqvAll, PyData.eqvAll, PyData.eqvAll, e0, PyData.eqv, Bool.and_true]
  by_cases h1 : p.1 = q.1
  · by_cases h2 : p.2 = q.2
    · rw [decide_eq_true h1, decide_eq_true (Prod.ext h1 h2), h2, beq_self_eq_true]
      rfl
    · rw [decide_eq_true h1, decide_eq_false (fun e => h2 (by rw [e]))]
      rw [beq_eq_false_iff_ne.mpr h2]
      rfl
  · rw [decide_eq_false h1, decide_eq_false (fun e => h1 (by rw [e]))]
    rfl
theorem any_q (q : Qd) (qs : List Qd) : ((qs.map dq).any fun z => PyData.eqv z (dq q)) = decide (q ∈ qs) := by
  rw [List.any_map]
  by_cases h : q ∈ qs
  · rw [decide_eq_true h]
    exact List.any_eq_true.mpr ⟨q, h, by show PyData.eqv (dq q) (dq q) = true; rw [eqv_q]; exact decide_eq_true rfl⟩
  · rw [decide_eq_false h]
    refine List.any_eq_false.mpr fun y hy e => h ?_
    have e' : PyData.eqv (dq y) (dq q) = true := e
    rw [eqv_q] at e'
    rw [← of_decide_eq_true e']
    exact hy
theorem allQ_fine {ix : List Str} (R : Row ix) {n : Nat} (hn : n ≤ ix.length) : ∀ q ∈ allQ ix n, Qfine q := by
  intro q hq
  obtain ⟨j, hj, h | h⟩ := mem_allQ.mp hq
  · subst h
    refine ⟨fun c hc => menu_okS _ (R.sub _ ((List.take_sublist _ _).mem ((srt_perm _).mem_iff.mp hc))), ?_, by show (srt _).length ≤ 12; rw [srt_len, List.length_take]; have := R.le; omega⟩
    show okS (ix.getD j "") = true
    rw [List.getD_eq_getElem?_getD, List.getElem?_eq_getElem (show j < ix.length by omega)]
    exact menu_okS _ (R.sub _ (List.getElem_mem _))
  · subst h
    exact ⟨fun c hc => menu_okS _ (R.sub _ ((List.take_sublist _ _).mem ((srt_perm _).mem_iff.mp hc))), okS_empty, by show (srt _).length ≤ 12; rw [srt_len, List.length_take]; have := R.le; omega⟩
theorem okS_strOk {c : Str} (h : okS c = true) : PyData.strOk c = true := by
  unfold okS at h
  rw [Bool.and_eq_true] at h
  exact h.1
theorem QM.fine {cols : List Str} {e : Str} (h : QM cols e) : Qfine (cols, e) :=
  ⟨fun c hc => menu_okS _ (h.sub c hc), by rcases h.esub with z | z
                                           · show okS e = true
                                             rw [z]
                                             exact okS_empty
                                           · exact menu_okS _ z, h.le⟩
/-! promises -/
def spQof : Sp := fun vs H Q _ => ∃ (t : Addr) (ix : List Str), vs = [.ref t] ∧ H t = some (.tup (ix.map V.str)) ∧ Row ix ∧
  ∀ (ys : List V) (rs : List Qd) (p : Addr) (H' : Hp), Same H H' → H p = none → H' p = some (.lst ys) → QL H' ys rs → rs.Perm (allQ ix ix.length) → rising rs → Q (.ref p) H'
def spServedBy : Sp := fun vs H Q _ => ∃ (t : Addr) (ix : List Str), vs = [.ref t] ∧ H t = some (.tup (ix.map V.str)) ∧ Row ix ∧
  ∀ (ys : List V) (p : Addr) (H' : Hp), Same H H' → H p = none → H' p = some (.lst ys) → QL H' ys (allQ ix ix.length) → Q (.ref p) H'
theorem rising_uniq {xs ys zs : List Qd} (h1 : xs.Perm zs) (h2 : ys.Perm zs) (r1 : rising xs) (r2 : rising ys) : xs = ys := perm_ltQ (h1.trans h2.symm) r1 r2
end Qk

set_option maxRecDepth 100000
set_option maxHeartbeats 4000000
namespace Qk
open PySem PySem.Spec PyProof.Rows L2

/-! ### own errors as values: made, asked for their class, their fields read -/
/-- an error of the class at C stands at a -/
def Er (H : Hp) (a C : Addr) : Prop := H a = some (exo a C none) ∨ ∃ d fs, H a = some (exo a C (some d)) ∧ H d = some (exd d fs)
theorem Er.same {H H' : Hp} {a C : Addr} (s : Same H H') (h : Er H a C) : Er H' a C := by
  rcases h with h | ⟨d, fs, h, hd⟩
  · exact .inl (s _ _ h)
  · exact .inr ⟨d, fs, s _ _ h, s _ _ hd⟩
/-- what the written part says of such a class -/
structure ErC (K : PySem.W.Frag) (C : Addr) : Prop where
  o : OexC K C
  x : XfC K C
  ha : PySem.W.findIn K (.ref C) "__class__" = some (some (.builtin "object.__class__"))
  hn : PySem.W.specialIn K (.builtin "object.__class__") "__get__" = some (some (.builtin "getset_descriptor.__get__"))
  ht : PySem.W.takesIn K (.builtin "object.__class__") = some true
  hm : PySem.W.mroIn K C (.type "object") = some true
section
variable {X : Cx} {pins : List (Addr × Obj)} {σ : L2.St} {H : Hp} {s : Shared}
theorem er_inst {a C : Addr} (I : Inv X pins σ H s) (h : Er H a C) : ∃ ox od, PySem.W.InstAt s.heap a ox C od := by
  rcases h with h | ⟨d, fs, h, hd⟩
  · obtain ⟨t1, e⟩ := exo_at I.hok h
    exact ⟨_, none, e, rfl, rfl, trivial⟩
  · obtain ⟨t1, e⟩ := exo_at I.hok h
    obtain ⟨mA, ⟨o, es, ep, ho, r⟩, _⟩ := exd_at I.hok hd
    exact ⟨_, some o, e, rfl, rfl, ho⟩
end
/-- isinstance(e, c), e such an error -/
def rIsEr (K : PySem.W.Frag) : List V → Hp → VK → Prop := fun xs H Q => ∃ (a C : Addr) (c : V) (u : Value) (b : Bool), xs = [.ref a, c] ∧ ClsV c u ∧ Er H a C ∧ ErC K C ∧ PySem.W.kitOne K (.ref C) u = some b ∧ Q (.bl b) H
theorem call_isEr {X : Cx} : CallR X (.builtin "isinstance") (rIsEr X.K) := by
  intro pins s σ H xs us Q I r h
  obtain ⟨a, C, c, u, b, rfl, k, he, T, e, q⟩ := h
  obtain ⟨u1, u2, rfl, r1, r2⟩ := vals2 r
  have e2 := k.eq r2
  subst e2
  cases (show u1 = Value.ref a from r1)
  obtain ⟨ox, od, J⟩ := er_inst I he
  obtain ⟨cd, hc, _⟩ := PySem.W.any_some T.x.hdC
  exact PySem.W.kia_one (PySem.W.kitx_exc (by rw [hc]; rfl) T.x.ga T.x.gg T.x.exC T.ha T.hn T.ht T.hm) I.kIn J e (fun z => nomatch z) fun tk => ⟨.bl b, H, I.tok tk, rfl, q⟩
/-- e.f, a field of such an error -/
def tXfl (K : PySem.W.Frag) (n : Str) (te : TE) : TE := fun σ H Q => te σ H fun x H1 => ∃ (a C d : Addr) (fs : List (Str × V)) (v : V), x = .ref a ∧ XfC K C ∧ PySem.W.findIn K (.ref C) n = some none ∧ H1 a = some (exo a C (some d)) ∧
  H1 d = some (exd d fs) ∧ fs.lookup n = some v ∧ Q v H1
theorem pe_xfl {X : Cx} {e : Expr} {te : TE} {pos : Pos} {n : Str} (he : PE X e te) (hb : attributeBase e n X.env (eval e X.env) = eval e X.env := by rfl) : PE X (.Attribute e n pos) (tXfl X.K n te) := by
  refine ⟨fun pins s σ H Q I h => ?_⟩
  refine attr_of hb (thn (he.run pins s σ H _ I h) fun u s1 hh => ?_)
  obtain ⟨x, H1, I1, rx, a, C, d, fs, v, ex, T, hno, ea, ed, l, q⟩ := hh
  subst ex
  obtain rfl : u = Value.ref a := rx
  obtain ⟨t1, ho1⟩ := exo_at I1.hok ea
  obtain ⟨mA, hns, hr⟩ := exd_at I1.hok ed
  obtain ⟨od, ho, hl⟩ := lookIn_ns hns
  obtain ⟨u, hu, ru⟩ := RelO.some_of (v := v) (o := mA n) (by rw [← l]; exact hr n)
  have J : PySem.W.InstAt s1.heap a _ C (some od) := ⟨ho1, rfl, rfl, ho⟩
  exact PySem.HandSPX.exc_get I1.kIn J T.ga T.gg T.exC (PySem.W.findObj_own T.hdC hno rfl (by rw [hl, hu])) (handed_of ru) ⟨v, H1, I1.tok _, ru, q⟩
/-- C(e, ..), C's own __init__ keeping sp: the error is told as a value -/
theorem pe_oex {X : Cx} {e : Expr} {es : List Expr} {ta : TA} {p pos : Pos} {x : Str} {C fI : Addr} {k : Nat} {fd : FuncData} {ps : List Str} {sp : Sp} (T : OexC X.K C) (iC : PySem.W.findIn X.K (.ref C) "__init__" = some (some (.ref fI))) (tI : PySem.W.typeIn X.K (.ref fI) = some (.type "function"))
    (F1 : FnOk X.prog X.w X.K X.mg X.base CX0 k fI fd ps sp) (hr : Room (k + 1) X.A) (hb : Binds X.K fd ps []) (hg : Gl X x) (hm : X.mg x = some (.ref C)) (ha : PA X (e :: es) ta)
    {Kw : List V → Hp → VK → Prop} (hw : ∀ vs H1 (Q : VK), Kw vs H1 Q → vs.length ≤ 1000 ∧ ∀ a, H1 a = none → sp (.ref a :: (vs ++ [])) (upd H1 a (exo a C none)) (fun v H2 => v = .non ∧ Q (.ref a) H2) E0)
    (hdb : (x == ("__debug__" : Str)) = false := by decide) (he : starEach (e :: es) X.env = (false, eval e X.env) :: starEach es X.env := by rfl) (hpl : (backTo pos (starEach es X.env)).any (·.1) = false := by rfl) :
    PE X (.Call (.Name x p) (e :: es) [] pos) (fun σ H Q => ta σ H fun vs H1 => Kw vs H1 Q) := by
  refine ⟨fun pins s σ H Q I h => ?_⟩
  obtain ⟨nm, q, N, bs, bm, sn, sub, ab, col, dd, k0, k1, k2, k3, k5, hC, hbm⟩ := T.cls
  refine wpAny_Call_Name_kw (ld_glob I hg hm ?_ hdb)
  refine PySem.W.callWith_K (h₀ := X.base) I.ok.mod.kin T.kC (thn (ha.run pos pins s σ H _ I h) fun us s1 ⟨vs, H1, I1, r1, q0⟩ => ⟨I1.kIn, ?_⟩) he hpl
  obtain ⟨hz, q1⟩ := hw vs H1 Q q0
  show wpAny _ _ (call (.ref C) us) _ _ _
  obtain ⟨hp, g, dr, tk, os⟩ := s1
  have hsz : hp.objs.size ≤ hp.objs.size + 1 := Nat.le_succ _
  have hn : H1 (hp.objs.size + 1) = none := I1.hok.fresh hsz
  have hq := q1 (hp.objs.size + 1) hn
  have kk : ∀ b o, hp.get? b = some o → ((hp.push (PySem.W.kdv_tup us)).push (PySem.HandSPX.excO C hp.objs.size)).get? b = some o := fun b o e => Heap.get?_push_of_some _ (Heap.get?_push_of_some _ e)
  have hget : ((hp.push (PySem.W.kdv_tup us)).push (PySem.HandSPX.excO C hp.objs.size)).get? (hp.objs.size + 1) = some (PySem.HandSPX.excO C hp.objs.size) := by heap_get
  have I2 : Inv X pins σ (upd H1 (hp.objs.size + 1) (exo (hp.objs.size + 1) C none)) ⟨(hp.push (PySem.W.kdv_tup us)).push (PySem.HandSPX.excO C hp.objs.size), g, dr, tk, os⟩ :=
    I1.laid (t' := tk) (a := hp.objs.size + 1) (o := exo (hp.objs.size + 1) C none) (h' := (hp.push (PySem.W.kdv_tup us)).push (PySem.HandSPX.excO C hp.objs.size)) kk hsz (exo_ok hget)
  have r2 : Vals (V.ref (hp.objs.size + 1) :: (vs ++ [])) (Value.ref (hp.objs.size + 1) :: (us ++ [])) := .cons rfl (r1.append .nil)
  have hl : (Value.ref (hp.objs.size + 1) :: us ++ []).length = ps.length := by
    have e := r2.length
    rw [F1.len _ _ _ _ hq] at e
    exact e.symm
  have hus : us.length ≤ sizeLine := by
    rw [← Paired.length r1, sizeLine_eq]
    omega
  have hbb : BindsTo ⟨(hp.push (PySem.W.kdv_tup us)).push (PySem.HandSPX.excO C hp.objs.size), g, dr, tk, os⟩ fd ⟨Value.ref (hp.objs.size + 1) :: us, []⟩ (ps.zip (Value.ref (hp.objs.size + 1) :: (us ++ []))) :=
    hb _ (Value.ref (hp.objs.size + 1) :: us) I2.kIn hl
  refine wpAny_call (PySem.HandSPX.call_own F.excBase_ValueError (fun Y => PySem.HandSPX.refsVE_contains Y bm hbm) (I1.kIn _ _ hC) (PySem.W.looks_findIn I1.kIn iC) (fun self => PySem.W.bind_fn I1.kIn self tI) hus
    (codeAny_mono (F1.run _ X.stack _ _ ⟨Value.ref (hp.objs.size + 1) :: us, []⟩ (Value.ref (hp.objs.size + 1) :: (us ++ [])) _ _ E0 (hr.make C us []) (I2.env0.make C us []) hbb r2 hq) fun r s' hq' => ?_))
  cases r with
  | error er => exact False.elim hq'
  | ok fl =>
    cases fl with
    | ret u =>
      obtain ⟨v, H2, J, rv, ev, q2⟩ := I2.after hq'
      subst ev
      exact ⟨rv, .ref (hp.objs.size + 1), H2, J, rfl, q2⟩
    | next => exact False.elim hq'
    | brk => exact False.elim hq'
    | cont => exact False.elim hq'
/-- C(), an own class without own __init__ -/
theorem pe_exc0 {X : Cx} {C : Addr} {bmB : List Value} {B newId initId : String} {x : Str} {p pos : Pos} (F : ExcBaseFacts B newId initId bmB) (hi : PySem.W.findIn X.K (.ref C) "__init__" = some (some (.builtin initId))) (q : PySem.W.excInitIn X.K C bmB newId = true)
    (gC : X.mg x = some (.ref C)) (kC : PySem.W.keepIn X.K (.ref C) = true) (hg : Gl X x) (hdb : (x == ("__debug__" : Str)) = false := by decide) :
    PE X (.Call (.Name x p) [] [] pos) (fun σ H Q => ∀ a H2, H a = none → Same H H2 → H2 a = some (exo a C none) → Q (.ref a) H2) := by
  refine ⟨fun pins s σ H Q I h => ?_⟩
  refine wpAny_Call_Name_kw (ld_glob I hg gC ?_ hdb)
  refine PySem.W.callWith_K0 I.kIn kC ?_
  show wpAny _ _ (call (.ref C) []) _ _ _
  obtain ⟨nm, N', qn, bs, bm, hdct, sn, sub, ab, col, dd, k0, k1, k2, k3, k5, hC, hT⟩ := PySem.W.excInit_of I.kIn q
  have hi' : PySem.W.Looks (model X.prog X.w) s.heap (typeLookup (.ref C) "__init__") (some (.builtin initId)) := PySem.W.looks_findIn I.kIn hi
  obtain ⟨hh, g, d, tk, os⟩ := s
  refine PySem.W.call_B F hT hC hi' (Nat.zero_le _) fun h' k he ht => ?_
  have hp : hh.get? (hh.objs.size + 1) = none := Heap.get?_none_of_le (Nat.le_add_right _ _)
  have hn : H (hh.objs.size + 1) = none := I.hok.fresh (Nat.le_add_right _ _)
  exact ⟨.ref _, upd H _ (exo _ C none), I.laidN (t' := tk) k hp hn (exo_ok he), rfl, h _ _ hn (same_new hn) upd_same⟩
end Qk

set_option maxRecDepth 100000
set_option maxHeartbeats 4000000
namespace Qk
open PySem PySem.Spec PyProof.Rows L2

/-! ### repr of lists of data, dicts among them: no list of them is sys.modules -/
mutual
inductive D1 (H : Hp) : V → PyData → Prop
  | non : D1 H .non .none
  | bl (b : Bool) : D1 H (.bl b) (.bool b)
  | int (i : Int) : D1 H (.int i) (.int i)
  | str (x : Str) : D1 H (.str x) (.str x)
  | lst {a : Addr} {xs : List V} {ds : List PyData} : H a = some (.lst xs) → a ≠ sysModules → D1A H xs ds → D1 H (.ref a) (.list ds)
  | tup {a : Addr} {xs : List V} {ds : List PyData} : H a = some (.tup xs) → D1A H xs ds → D1 H (.ref a) (.tuple ds)
inductive D1A (H : Hp) : List V → List PyData → Prop
  | nil : D1A H [] []
  | cons {v : V} {vs : List V} {d : PyData} {ds : List PyData} : D1 H v d → D1A H vs ds → D1A H (v :: vs) (d :: ds)
end
def kD : Key → PyData
  | .inl i => .int i
  | .inr x => .str x
inductive D2K (H : Hp) : List (Key × V) → List (PyData × PyData) → Prop
  | nil : D2K H [] []
  | cons {k : Key} {v : V} {d : PyData} {kvs : List (Key × V)} {D : List (PyData × PyData)} : D1 H v d → D2K H kvs D → D2K H ((k, v) :: kvs) ((kD k, d) :: D)
def D2 (H : Hp) (v : V) (d : PyData) : Prop := D1 H v d ∨ ∃ a kvs D, v = .ref a ∧ H a = some (.dK kvs) ∧ D2K H kvs D ∧ d = .dict D
section
variable {X : Cx} {pins : List (Addr × Obj)} {σ : L2.St} {H : Hp} {s : Shared}
mutual
theorem D1.reads (I : Inv X pins σ H s) : ∀ (d : PyData) (v : V) (u : Value), D1 H v d → RelV v u → ∃ as, Reads s.heap u d as ∧ sysModules ∉ as
  | .none, _, _, h, r => by
    cases h
    cases r
    exact ⟨_, Reads.none, by simp⟩
  | .bool b, _, _, h, r => by
    cases h
    cases r
    exact ⟨_, Reads.bool b, by simp⟩
  | .int i, _, _, h, r => by
    cases h
    obtain ⟨t, rfl⟩ := r
    exact ⟨_, Reads.int i t, by simp⟩
  | .str x, _, _, h, r => by
    cases h
    obtain ⟨t, rfl⟩ := r
    exact ⟨_, Reads.str x t, by simp⟩
  | .list ds, _, _, h, r => by
    cases h with
    | lst hs hn ha =>
      cases r
      obtain ⟨its, rv, ⟨o, n, ho, hc, _, hd⟩, _⟩ := I.list (SqL.of hs)
      obtain ⟨as, hr, ns⟩ := D1.readsAll I ds _ its ha rv
      refine ⟨_, Reads.list ho hc hd hr, fun z => ?_⟩
      rcases List.mem_cons.mp z with e | e
      · exact hn e.symm
      · exact ns e
  | .tuple ds, _, _, h, r => by
    cases h with
    | tup hs ha =>
      cases r
      obtain ⟨its, rv, ⟨o, ho, hc, n, hd⟩, _⟩ := I.tuple (SqT.of hs)
      obtain ⟨as, hr, ns⟩ := D1.readsAll I ds _ its ha rv
      exact ⟨_, Reads.tuple ho hc hd hr, ns⟩
  | .dict _, _, _, h, _ => by cases h
theorem D1.readsAll (I : Inv X pins σ H s) : ∀ (ds : List PyData) (vs : List V) (us : List Value), D1A H vs ds → Vals vs us → ∃ as, ReadsAll s.heap us ds as ∧ sysModules ∉ as
  | [], _, _, h, r => by
    cases h
    cases r
    exact ⟨_, ReadsAll.nil, by simp⟩
  | d :: ds, _, _, h, r => by
    cases h with
    | cons h1 h2 =>
      cases r with
      | cons r1 r2 =>
        obtain ⟨as, q1, n1⟩ := D1.reads I d _ _ h1 r1
        obtain ⟨bs, q2, n2⟩ := D1.readsAll I ds _ _ h2 r2
        refine ⟨_, ReadsAll.cons q1 q2, fun z => ?_⟩
        rcases List.mem_append.mp z with e | e
        · exact n1 e
        · exact n2 e
end
theorem D2K.reads (I : Inv X pins σ H s) {kvs : List (Key × V)} {D : List (PyData × PyData)} (h : D2K H kvs D) : ∀ (vs : List (Key × Value)) (es : List DictEntry), KV kvs vs → Pairs (mixKind X.prog X.w) es vs →
    ∃ as bs, ReadsAll s.heap (es.map (·.key)) (D.map (·.1)) as ∧ ReadsAll s.heap (es.map (·.val)) (D.map (·.2)) bs ∧ sysModules ∉ as ∧ sysModules ∉ bs := by
  induction h with
  | nil =>
    intro vs es r p
    cases r
    cases p
    exact ⟨_, _, ReadsAll.nil, ReadsAll.nil, by simp, by simp⟩
  | @cons k v d kvs D h1 h2 ih =>
    intro vs es r p
    cases r with
    | @cons _ q _ vs' r1 r2 =>
      cases p with
      | @cons e _ es' _ p1 p2 p3 =>
        obtain ⟨as, bs, q1, q2, n1, n2⟩ := ih _ _ r2 p3
        obtain ⟨cs, q3, n3⟩ := D1.reads I d v e.val h1 (by rw [p2]; exact r1.2)
        have hk : ∃ ds, Reads s.heap e.key (kD k) ds ∧ sysModules ∉ ds := by
          have e1 : k = q.1 := r1.1
          rw [← e1] at p1
          rcases keyIs_shape (show keyIs k e.key = true from p1) with ⟨i, t, rfl, e2⟩ | ⟨x, t, rfl, e2⟩
          · rw [e2]
            exact ⟨_, Reads.int i t, by simp⟩
          · rw [e2]
            exact ⟨_, Reads.str x t, by simp⟩
        obtain ⟨ds, q4, n4⟩ := hk
        refine ⟨_, _, ReadsAll.cons q4 q1, ReadsAll.cons q3 q2, fun z => ?_, fun z => ?_⟩
        · rcases List.mem_append.mp z with e | e
          · exact n4 e
          · exact n1 e
        · rcases List.mem_append.mp z with e | e
          · exact n3 e
          · exact n2 e
theorem D2.reads (I : Inv X pins σ H s) {v : V} {d : PyData} {u : Value} (h : D2 H v d) (r : RelV v u) : ∃ as, Reads s.heap u d as ∧ sysModules ∉ as := by
  rcases h with h | ⟨a, kvs, D, rfl, ha, hk, rfl⟩
  · exact D1.reads I d v u h r
  · cases r
    obtain ⟨z, hd, vs, rel, ⟨o, es, ep, h1, h2, h3, h4, h5, h6⟩⟩ := dk_of I.hok ha
    obtain ⟨as, bs, q1, q2, n1, n2⟩ := hk.reads I vs es.toList rel h5
    refine ⟨_, Reads.dict h1 h2.1 h3 q1 q2, fun z => ?_⟩
    rcases List.mem_append.mp z with e | e
    · rcases List.mem_cons.mp e with e | e
      · rw [← e] at hd
        simp at hd
      · exact n1 e
    · exact n2 e
theorem D2.readsRep (I : Inv X pins σ H s) {v : V} {d : PyData} (h : D2 H v d) : ∀ (n : Nat) (us : List Value), Vals (List.replicate n v) us → ∃ as, ReadsAll s.heap us (List.replicate n d) as ∧ sysModules ∉ as
  | 0, us, r => by
    cases r
    exact ⟨_, ReadsAll.nil, by simp⟩
  | n + 1, us, r => by
    rw [List.replicate_succ] at r
    cases r with
    | cons r1 r2 =>
      obtain ⟨as, q1, n1⟩ := h.reads I r1
      obtain ⟨bs, q2, n2⟩ := D2.readsRep I h n _ r2
      refine ⟨_, ReadsAll.cons q1 q2, fun z => ?_⟩
      rcases List.mem_append.mp z with e | e
      · exact n1 e
      · exact n2 e
end
/-- what can be shown eleven times -/
def shD (d : PyData) : Bool := (PyData.list (List.replicate 11 d)).showable && decide ((PyData.list (List.replicate 11 d)).shown.length ≤ 10000) && decide ((PyData.list (List.replicate 11 d)).depth ≤ 60)
/-- repr of eleven times the same -/
def rRepr11 : List V → Hp → VK → Prop := fun vs H Q => ∃ (p : Addr) (v : V) (d : PyData), vs = [.ref p] ∧ H p = some (.lst (List.replicate 11 v)) ∧ p ≠ sysModules ∧ D2 H v d ∧ shD d = true ∧ Q (.str (PyData.list (List.replicate 11 d)).shown) H
section
variable {X : Cx}
theorem call_repr11 (hg : X.A.guards = some []) (hu : X.A.units + 64 < cLine) : CallR X (.builtin "repr") rRepr11 := by
  intro pins s σ H xs us Q I r h
  obtain ⟨p, v, d, rfl, hp, hn, hd, hs, q⟩ := h
  obtain ⟨u, rfl, rx⟩ := vals1 r
  cases rx
  unfold shD at hs
  simp only [Bool.and_eq_true, decide_eq_true_eq] at hs
  obtain ⟨⟨h1, h3⟩, h4⟩ := hs
  obtain ⟨its, rv, ⟨o, n, ho, hc, _, hdd⟩, _⟩ := I.list (SqL.of hp)
  obtain ⟨as, hr, ns⟩ := hd.readsRep I 11 its rv
  refine repr_of_reads' (Reads.list ho hc hdd hr) h1 (fun _ z => ?_) hg (by omega) (fun _ _ z => z) (fun h' u tk hk => ⟨.str _, H, I.kept hk, ⟨_, rfl⟩, q⟩) (by rw [sizeLine_eq]; omega)
  rcases List.mem_cons.mp z with e | e
  · exact hn e.symm
  · exact ns e
/-! new lists, told apart from sys.modules -/
def tLstN (t : TA) : TE := fun σ H Q => t σ H fun xs H1 => xs.length ≤ sizeLine ∧ ∀ p, H1 p = none → p ≠ sysModules → Q (.ref p) (upd H1 p (.lst xs))
theorem pe_lstN {es : List Expr} {t : TA} {pos : Pos} (h : PA X es t) : PE X (.List es pos) (tLstN t) := by
  refine ⟨fun pins s σ H Q I hq => ?_⟩
  refine wpAny_List_spliced (thn (h.run pos pins s σ H _ I hq) fun us s1 ⟨xs, H1, I1, r, z, q⟩ => ⟨by rw [← r.length]; exact z, ?_⟩)
  have hf : H1 s1.heap.objs.size = none := I1.hok.fresh (Nat.le_refl _)
  refine ⟨.ref s1.heap.objs.size, upd H1 s1.heap.objs.size (.lst xs), I1.laid (t' := s1.toks) (fun b u e => Heap.get?_push_of_some _ e) (Nat.le_refl _) ?_, rfl, q _ hf (Nat.ne_of_gt I1.big)⟩
  exact ⟨z, us, 0, r, Heap.get?_push_size _ rfl⟩
def rCatN : R2 := fun x y H Q => ∃ l b xs zs, x = .ref l ∧ y = .ref b ∧ H l = some (.lst xs) ∧ H b = some (.lst zs) ∧ xs.length + zs.length ≤ sizeLine ∧ ∀ p, H p = none → p ≠ sysModules → Q (.ref p) (upd H p (.lst (xs ++ zs)))
theorem op_catN : OpR X (binaryOp .Add) rCatN := by
  intro pins s σ H x y v u Q I rx ry h
  obtain ⟨l, b, xs, zs, rfl, rfl, hH, hB, hz, q⟩ := h
  cases rx
  cases ry
  obtain ⟨z, its, n, r, hl, e⟩ := I.lstM hH
  obtain ⟨z2, its2, n2, r2, hl2, e2⟩ := I.lstM hB
  refine PySem.P.add_list e e2 ?_ (by rw [List.size_toArray, List.size_toArray]; omega)
  have ea : its.toArray ++ its2.toArray = (its ++ its2).toArray := by simp
  rw [ea]
  exact ⟨.ref _, _, I.lnew (t' := s.toks) (r.append r2) (by rw [List.length_append]; omega), rfl, q _ I.fresh (Nat.ne_of_gt I.big)⟩
def rRepN : R2 := fun x y H Q => ∃ l k xs, x = .ref l ∧ y = .int k ∧ H l = some (.lst xs) ∧ -(2 ^ 63) ≤ k ∧ k < 2 ^ 63 ∧ xs.length * k.toNat ≤ sizeLine ∧
  ∀ p, H p = none → p ≠ sysModules → Q (.ref p) (upd H p (.lst (List.replicate k.toNat xs).flatten))
theorem op_repN : OpR X (binaryOp .Mult) rRepN := by
  intro pins s σ H x y v u Q I rx ry h
  obtain ⟨l, k, xs, rfl, rfl, hH, h1, h2, hz, q⟩ := h
  cases rx
  obtain ⟨t, rfl⟩ := ry
  obtain ⟨z, its, n, r, hl, e⟩ := I.lstM hH
  have hlen : its.toArray.size * k.toNat ≤ sizeLine := by rw [List.size_toArray, ← hl]; exact hz
  have hcap : ¬ its.toArray.size * k.toNat > (2 ^ 63 - 1) / 8 := by
    have : (sizeLine : Nat) ≤ (2 ^ 63 - 1) / 8 := by decide
    omega
  have hfit : ¬ (!Builtin.List.listFitsIndex k) = true := by
    rw [fitsIndex_both h1 h2]
    exact Bool.false_ne_true
  have hlong : ¬ Builtin.List.listTooLong (its.toArray.size * k.toNat) = true := by
    rw [notLongL hlen]
    exact Bool.false_ne_true
  have hnew : List.foldl (fun x1 x2 => x1 ++ x2) #[] (List.replicate (if its.toArray.isEmpty = true then 0 else k.toNat) its.toArray) = (List.replicate k.toNat its).flatten.toArray := by
    have f0 : ∀ m : Nat, List.foldl (fun x1 x2 => x1 ++ x2) #[] (List.replicate m its.toArray) = (List.replicate m its).flatten.toArray := fun m => by
      have := foldl_rep its m []
      rw [List.nil_append] at this
      exact this
    rw [f0]
    cases its with
    | nil => simp
    | cons a r' => rw [if_neg (by simp)]
  refine wpAny_binaryOp_repeat_ref (T := "list") (U := "int") (by decide) ⟨_, e, rfl⟩ (fun s' => typeIs_int s' k t) noFill_list_mul F.fills_int_mul F.slot_int_rmul repeat_list F.slot_int_index.lookup
    (call_meets F.slot_int_rmul (typeIs_int s k t) F.entry_int_rmul (F.args_int_rmul_2 _ _) (int___rmul___int_list k t l its.toArray n)
      ⟨e, rfl, ⟨_, e, rfl⟩, call_meets F.slot_list_mul ⟨_, e, rfl⟩ F.entry_list_mul (F.args_list_mul_2 _ _) (AutoListH.list___mul___list_int_3 l its.toArray n k t hfit hcap hlong) ⟨e, ?_⟩⟩)
  rw [hnew]
  exact ⟨.ref _, _, I.lnew (t' := s.toks) (r.rep k.toNat) (by rw [PyProof.Rows.lm_len_rep_flat, Nat.mul_comm]; exact hz), rfl, q _ I.fresh (Nat.ne_of_gt I.big)⟩
end
end Qk

set_option maxRecDepth 100000
set_option maxHeartbeats 4000000
namespace Qk
open PySem PySem.Spec PyProof.Rows L2

/-! ### what the written part says of an error class, as a test -/
def oexB (K : PySem.W.Frag) (C : Addr) : Bool := match K.lookup C with
  | some ⟨.type "type", _, .cls cd, sl⟩ => (match cd.mro, sl.toList with
    | .ref C' :: bm, [_, _, _, _, some (.builtin n), _] => C' == C && n == "ValueError.__new__" && !cd.hasDel && cd.hasDict && PySem.HandSPX.refsVE bm
    | _, _ => false)
  | _ => false
def ercB (K : PySem.W.Frag) (C : Addr) : Bool := oexB K C && decide (PySem.W.findIn K (.ref C) "__setattr__" = some (some (.builtin "object.__setattr__"))) && decide (PySem.W.typeIn K (.ref C) = some (.type "type")) && PySem.W.keepIn K (.ref C) && xfB K C &&
  decide (PySem.W.findIn K (.ref C) "__class__" = some (some (.builtin "object.__class__"))) && decide (PySem.W.specialIn K (.builtin "object.__class__") "__get__" = some (some (.builtin "getset_descriptor.__get__"))) &&
  decide (PySem.W.takesIn K (.builtin "object.__class__") = some true) && decide (PySem.W.mroIn K C (.type "object") = some true)
theorem oexB_ok {K : PySem.W.Frag} {C : Addr} (q : oexB K C = true) : ∃ nm q N bs bm sn sub ab col dd k0 k1 k2 k3 k5, K.lookup C = some (excClassObj nm q C N bs bm true sn sub ab col dd k0 k1 k2 k3 k5 "ValueError.__new__") ∧ PySem.HandSPX.refsVE bm = true := by
  unfold oexB at q
  split at q
  · rename_i dd cd sl ho
    split at q
    · rename_i C' bm k0 k1 k2 k3 n k5 hm hs
      simp only [Bool.and_eq_true, beq_iff_eq, Bool.not_eq_true'] at q
      obtain ⟨⟨⟨⟨rfl, rfl⟩, hdel⟩, hd⟩, ht⟩ := q
      obtain ⟨nm, bs, mro, ns, qn, hd', sn, sub, ab, col, del⟩ := cd
      dsimp only at hm hdel hd
      subst hm hdel hd
      have hsl : sl = #[k0, k1, k2, k3, some (.builtin "ValueError.__new__"), k5] := by
        obtain ⟨l⟩ := sl
        simp only at hs
        rw [hs]
      subst hsl
      exact ⟨nm, qn, ns, bs, bm, sn, sub, ab, col, dd, k0, k1, k2, k3, k5, ho, ht⟩
    · cases q
  · cases q
theorem ercB_ok {K : PySem.W.Frag} {C : Addr} (q : ercB K C = true) : ErC K C := by
  unfold ercB at q
  simp only [Bool.and_eq_true, decide_eq_true_eq] at q
  obtain ⟨⟨⟨⟨⟨⟨⟨⟨h1, h2⟩, h3⟩, h4⟩, h5⟩, h6⟩, h7⟩, h8⟩, h9⟩ := q
  exact ⟨⟨oexB_ok h1, h2, (xfB_ok h5).exC, h3, h4⟩, xfB_ok h5, h6, h7, h8, h9⟩

/-! ### the sixteen classes, in the law's order -/
def nmE (i : Nat) : Str := ([("Wrong" : Str), "Apart", "TooMany", "NoQuestion", "NoNumber", "Unserved", "NoOrder", "NoColumn", "Full", "Refused", "NoEntry", "Unfit", "NoText", "NoDeed", "Nothing", "NoCommand"] : List Str).getD i ""
def fdE (i : Nat) : Str := ([("place" : Str), "pair", "limit", "question", "number", "question", "pair", "column", "limit", "deed", "many"] : List Str).getD i ""
def csB (K : PySem.W.Frag) (cs : List Addr) (ck : Addr) : Bool :=
  (List.range 16).all fun i => ercB K (cs.getD i 0) && (decide (11 ≤ i) || decide (PySem.W.findIn K (.ref (cs.getD i 0)) (fdE i) = some none)) && (decide (i < 11) || (PySem.W.excInitIn K (cs.getD i 0) [.type "ValueError", .type "Exception", .type "BaseException", .type "object"] "ValueError.__new__" && decide (PySem.W.findIn K (.ref (cs.getD i 0)) "__init__" = some (some (.builtin "ValueError.__init__"))))) &&
    decide (PySem.W.kitOne K (.ref (cs.getD i 0)) (.ref ck) = some true) && decide (PySem.W.kitOne K (.ref (cs.getD i 0)) (.type "ValueError") = some true) &&
    (List.range 16).all fun j => decide (PySem.W.kitOne K (.ref (cs.getD i 0)) (.ref (cs.getD j 0)) = some (decide (i = j)))
structure Tab (K : PySem.W.Frag) (mg : Str → Option Value) where
  cs : Nat → Addr
  ck : Addr
  T : ∀ i, i < 16 → ErC K (cs i)
  no : ∀ i, i < 11 → PySem.W.findIn K (.ref (cs i)) (fdE i) = some none
  un : ∀ i, i < 16 → 11 ≤ i → PySem.W.excInitIn K (cs i) [.type "ValueError", .type "Exception", .type "BaseException", .type "object"] "ValueError.__new__" = true ∧ PySem.W.findIn K (.ref (cs i)) "__init__" = some (some (.builtin "ValueError.__init__"))
  kk : ∀ i, i < 16 → PySem.W.kitOne K (.ref (cs i)) (.ref ck) = some true
  kv : ∀ i, i < 16 → PySem.W.kitOne K (.ref (cs i)) (.type "ValueError") = some true
  kit : ∀ i j, i < 16 → j < 16 → PySem.W.kitOne K (.ref (cs i)) (.ref (cs j)) = some (decide (i = j))
  m : ∀ i, i < 16 → mg (nmE i) = some (.ref (cs i))
  mkE : mg "KeysError" = some (.ref ck)
theorem csB_ok {K : PySem.W.Frag} {cs : List Addr} {ck : Addr} (q : csB K cs ck = true) : ∀ i, i < 16 → (((((ercB K (cs.getD i 0) = true ∧ (11 ≤ i ∨ PySem.W.findIn K (.ref (cs.getD i 0)) (fdE i) = some none)) ∧ (i < 11 ∨ PySem.W.excInitIn K (cs.getD i 0) [.type "ValueError", .type "Exception", .type "BaseException", .type "object"] "ValueError.__new__" = true ∧ PySem.W.findIn K (.ref (cs.getD i 0)) "__init__" = some (some (.builtin "ValueError.__init__")))) ∧
    PySem.W.kitOne K (.ref (cs.getD i 0)) (.ref ck) = some true) ∧ PySem.W.kitOne K (.ref (cs.getD i 0)) (.type "ValueError") = some true) ∧ ∀ j, j < 16 → PySem.W.kitOne K (.ref (cs.getD i 0)) (.ref (cs.getD j 0)) = some (decide (i = j))) := by
  unfold csB at q
  rw [List.all_eq_true] at q
  have key := fun i (hi : i < 16) => q i (List.mem_range.mpr hi)
  simp only [Bool.and_eq_true, Bool.or_eq_true, decide_eq_true_eq, List.all_eq_true, List.mem_range] at key
  exact key
def tab_of {K : PySem.W.Frag} {mg : Str → Option Value} {cs : List Addr} {ck : Addr} (q : csB K cs ck = true) (m : ∀ i, i < 16 → mg (nmE i) = some (.ref (cs.getD i 0))) (mk : mg "KeysError" = some (.ref ck)) : Tab K mg := by
  have key := csB_ok q
  exact ⟨fun i => cs.getD i 0, ck, fun i hi => ercB_ok (key i hi).1.1.1.1.1, fun i hi => (key i (by omega)).1.1.1.1.2.resolve_left (by omega), fun i hi h11 => (key i hi).1.1.1.2.resolve_left (by omega),
    fun i hi => (key i hi).1.1.2, fun i hi => (key i hi).1.2, fun i j hi hj => (key i hi).2 j hj, m, mk⟩
/-- self.f = x -/
def spInit (K : PySem.W.Frag) (f : Str) : Sp := fun vs H Q _ => ∃ (a C : Addr) (x : V), vs = [.ref a, x] ∧ OexC K C ∧ PySem.W.findIn K (.ref C) f = some none ∧ H a = some (exo a C none) ∧
  ∀ d, H d = none → d ≠ a → Q .non (upd (upd H d (exd d [(f, x)])) a (exo a C (some d)))
/-- an error with its one field -/
def ErF (H : Hp) (a C : Addr) (f : Str) (x : V) : Prop := ∃ d, H a = some (exo a C (some d)) ∧ H d = some (exd d [(f, x)])
theorem ErF.same {H H' : Hp} {a C : Addr} {f : Str} {x : V} (s : Same H H') (h : ErF H a C f x) : ErF H' a C f x := by
  obtain ⟨d, h1, h2⟩ := h
  exact ⟨d, s _ _ h1, s _ _ h2⟩
theorem ErF.er {H : Hp} {a C : Addr} {f : Str} {x : V} (h : ErF H a C f x) : Er H a C := by
  obtain ⟨d, h1, h2⟩ := h
  exact .inr ⟨d, _, h1, h2⟩
structure ICls (P : Program) (w : World) (K : PySem.W.Frag) (mg : Str → Option Value) (base : Heap) (C : Addr) (f : Str) where
  fI : Addr
  fd : FuncData
  iC : PySem.W.findIn K (.ref C) "__init__" = some (some (.ref fI))
  tI : PySem.W.typeIn K (.ref fI) = some (.type "function")
  F : FnOk P w K mg base CX0 1 fI fd ["self", f] (spInit K f)
  b : Binds K fd ["self", f] []
def tMkF (C : Addr) (f : Str) (ta : TA) : TE := fun σ H Q => ta σ H fun vs H1 => ∃ x, vs = [x] ∧ ∀ a H2, H1 a = none → Same H1 H2 → ErF H2 a C f x → Q (.ref a) H2
theorem pe_mkF {X : Cx} {e : Expr} {es : List Expr} {ta : TA} {p pos : Pos} {x : Str} {C : Addr} {f : Str} (T : ErC X.K C) (no : PySem.W.findIn X.K (.ref C) f = some none) (c : ICls X.prog X.w X.K X.mg X.base C f) (hr : Room 2 X.A) (hg : Gl X x) (hm : X.mg x = some (.ref C)) (ha : PA X (e :: es) ta)
    (hdb : (x == ("__debug__" : Str)) = false := by decide) (he : starEach (e :: es) X.env = (false, eval e X.env) :: starEach es X.env := by rfl) (hpl : (backTo pos (starEach es X.env)).any (·.1) = false := by rfl) :
    PE X (.Call (.Name x p) (e :: es) [] pos) (tMkF C f ta) := by
  refine pe_oex T.o c.iC c.tI c.F hr c.b hg hm ha (Kw := fun vs H1 Q => ∃ x, vs = [x] ∧ ∀ a H2, H1 a = none → Same H1 H2 → ErF H2 a C f x → Q (.ref a) H2) (fun vs H1 Q h => ?_) hdb he hpl
  obtain ⟨x, rfl, q⟩ := h
  refine ⟨by show 1 ≤ 1000; decide, fun a ha => ⟨a, C, x, rfl, T.o, no, upd_same, fun d hd hda => ⟨rfl, q a _ ha (fun c o hc => ?_) ⟨d, upd_same, by rw [upd_ne hda]; exact upd_same⟩⟩⟩⟩
  have hca : c ≠ a := ne_of_none hc ha
  rw [upd_ne hda.symm.symm] at hd
  rw [upd_ne hca, upd_ne (ne_of_none hc hd), upd_ne hca]
  exact hc
/-- for i, x in enumerate(xs): a word of the turn, the slots, the heap -/
theorem for_enumL {K : PySem.W.Frag} {a : Addr} {xs : List V} {g : TG} {tb : TS} {D : Ends} {σ : L2.St} {H : Hp} (Pv : Nat → L2.St → Hp → Prop) (h0 : Pv 0 σ H) (hl : ∀ i σ H, i ≤ xs.length → Pv i σ H → SqL K H a xs)
    (hs : ∀ i x σ H, xs[i]? = some x → Pv i σ H → ∀ T, H T = none → g (.ref T) σ (upd H T (.tup [.int (i : Nat), x])) fun σ2 H2 => tb { D with nx := Pv (i + 1), ct := Pv (i + 1), bk := D.nx } σ2 H2) (hd : ∀ σ H, Pv xs.length σ H → D.nx σ H) :
    ∃ W : Nat → Nat → L2.St → Hp → Prop, (∃ m, W 0 m σ H) ∧ ∀ i m σ H, W i m σ H →
      ((Ite K a).stop i H ∧ D.nx σ H) ∨ ((Ite K a).go i H ∧ ∃ N : L2.St → Hp → Prop, (∀ σ' H', N σ' H' → ∃ m', m' < m ∧ W (i + 1) m' σ' H') ∧ ∀ x H', (Ite K a).yld i H x H' → g x σ H' fun σ2 H2 => tb { D with nx := N, ct := N, bk := D.nx } σ2 H2) := by
  refine ⟨fun i m σ H => m = xs.length - i ∧ i ≤ xs.length ∧ Pv i σ H, ⟨xs.length, by simp, Nat.zero_le _, h0⟩, ?_⟩
  rintro i m σ H ⟨rfl, hi, p⟩
  have q := hl i σ H hi p
  rcases Nat.lt_or_ge i xs.length with hlt | hge
  · have hx : xs[i]? = some xs[i] := List.getElem?_eq_getElem hlt
    refine .inr ⟨⟨xs, xs[i], q, hx⟩, Pv (i + 1), fun σ' H' p' => ⟨xs.length - (i + 1), by omega, rfl, hlt, p'⟩, fun x H' y => ?_⟩
    obtain ⟨T, z, rfl, hT, rfl, hz⟩ := y
    have e := hz xs q
    exact hs i z σ H e p T hT
  · have e : i = xs.length := by omega
    subst e
    exact .inl ⟨⟨xs, q, Nat.le_refl _⟩, hd σ H p⟩
/-! ### data kept, their types -/
mutual
theorem D1.same {H H' : Hp} (s : Same H H') : ∀ (d : PyData) (v : V), D1 H v d → D1 H' v d
  | .none, _, h => by
    cases h
    exact .non
  | .bool b, _, h => by
    cases h
    exact .bl b
  | .int i, _, h => by
    cases h
    exact .int i
  | .str x, _, h => by
    cases h
    exact .str x
  | .list ds, _, h => by
    cases h with
    | lst a b c => exact .lst (s _ _ a) b (D1.sameAll s ds _ c)
  | .tuple ds, _, h => by
    cases h with
    | tup a c => exact .tup (s _ _ a) (D1.sameAll s ds _ c)
  | .dict _, _, h => by cases h
theorem D1.sameAll {H H' : Hp} (s : Same H H') : ∀ (ds : List PyData) (vs : List V), D1A H vs ds → D1A H' vs ds
  | [], _, h => by
    cases h
    exact .nil
  | d :: ds, _, h => by
    cases h with
    | cons a b => exact .cons (D1.same s d _ a) (D1.sameAll s ds _ b)
end
def tyD : PyData → String
  | .none => "NoneType"
  | .bool _ => "bool"
  | .int _ => "int"
  | .str _ => "str"
  | .list _ => "list"
  | .tuple _ => "tuple"
  | .dict _ => "dict"
def isL : PyData → Bool
  | .list _ | .dict _ => true
  | _ => false
theorem D1.ty {K : PySem.W.Frag} {H : Hp} {v : V} {d : PyData} (h : D1 H v d) : TyX K H v (.type (tyD d)) := by
  cases h with
  | non => exact .base .non
  | bl b => exact .base (.bl b)
  | int i => exact .base (.int i)
  | str x => exact .base (.str x)
  | lst a b c => exact .base (.lst a)
  | tup a c => exact .base (.tup a)
theorem kl_of {d : PyData} (h : isL d = false) : kitB (tyD d) "list" = some false ∧ kitB (tyD d) "dict" = some false := by
  cases d with
  | none => exact ⟨by decide +kernel, by decide +kernel⟩
  | bool b => exact ⟨by show kitB "bool" "list" = _; decide +kernel, by show kitB "bool" "dict" = _; decide +kernel⟩
  | int b => exact ⟨by show kitB "int" "list" = _; decide +kernel, by show kitB "int" "dict" = _; decide +kernel⟩
  | str b => exact ⟨by show kitB "str" "list" = _; decide +kernel, by show kitB "str" "dict" = _; decide +kernel⟩
  | list b => cases h
  | tuple b => exact ⟨by show kitB "tuple" "list" = _; decide +kernel, by show kitB "tuple" "dict" = _; decide +kernel⟩
  | dict b => cases h
theorem ErF.off {H : Hp} {a b C : Addr} {f : Str} {x : V} {o u : HO} (h : ErF H a C f x) (hb : H b = some o) (ho : ∀ φ, o ≠ .ext φ) : ErF (L2.upd H b u) a C f x := by
  obtain ⟨d, h1, h2⟩ := h
  refine ⟨d, ?_, ?_⟩
  · rw [upd_ne (ne_of h1 hb fun z => ho _ z.symm)]
    exact h1
  · rw [upd_ne (ne_of h2 hb fun z => ho _ z.symm)]
    exact h2
theorem D2K.same {H H' : Hp} (s : Same H H') {kvs : List (Key × V)} {D : List (PyData × PyData)} (h : D2K H kvs D) : D2K H' kvs D := by
  induction h with
  | nil => exact .nil
  | cons h1 _ ih => exact .cons (D1.same s _ _ h1) ih
theorem D2.same {H H' : Hp} (s : Same H H') {v : V} {d : PyData} (h : D2 H v d) : D2 H' v d := by
  rcases h with h | ⟨a, kvs, D, rfl, ha, hk, rfl⟩
  · exact .inl (D1.same s _ _ h)
  · exact .inr ⟨a, kvs, D, rfl, s _ _ ha, hk.same s, rfl⟩
end Qk

set_option maxRecDepth 100000
set_option maxHeartbeats 4000000
namespace Qk
open PySem PySem.Spec PyProof.Rows L2

/-! ### a set's table laid anew: small tables have room for what is laid -/
def MaskS (m : Nat) : Prop := m = 7 ∨ m = 15 ∨ m = 31
theorem lcg_all15 : ((List.range 16).all fun j => (List.range 16).any fun b => lcgN 15 b == j) = true := by decide +kernel
theorem lcgS_all {m : Nat} (hm : MaskS m) {j : Nat} (hj : j ≤ m) : ∃ b, b ≤ m ∧ lcgN m b = j := by
  have key : ∀ n : Nat, ((List.range (n + 1)).all fun j => (List.range (n + 1)).any fun b => lcgN n b == j) = true → ∀ j, j ≤ n → ∃ b, b ≤ n ∧ lcgN n b = j := by
    intro n h j hj
    have h1 := List.all_eq_true.mp h j (List.mem_range.mpr (Nat.lt_succ_of_le hj))
    obtain ⟨b, hb, e⟩ := List.any_eq_true.mp h1
    exact ⟨b, Nat.le_of_lt_succ (List.mem_range.mp hb), beq_iff_eq.mp e⟩
  rcases hm with e | e | e
  · subst e; exact key 7 lcg_all7 j hj
  · subst e; exact key 15 lcg_all15 j hj
  · subst e; exact key 31 lcg_all31 j hj
theorem lcgS_round {m : Nat} (hm : MaskS m) : lcgN m (m + 1) = 0 := by
  rcases hm with e | e | e
  · subst e; decide +kernel
  · subst e; decide +kernel
  · subst e; decide +kernel
theorem lcgS_mod {m : Nat} (hm : MaskS m) : ∀ k, lcgN m (m + 1 + k) = lcgN m k
  | 0 => lcgS_round hm
  | k + 1 => by
    show (lcgN m (m + 1 + k) * 5 + 1) % (m + 1) = (lcgN m k * 5 + 1) % (m + 1)
    rw [lcgS_mod hm k]
theorem lcgSI_all {m : Nat} (hm : MaskS m) {i j : Nat} (hi : i ≤ m) (hj : j ≤ m) : ∃ k, k ≤ m ∧ lcgI m i k = j := by
  obtain ⟨a, ha, ea⟩ := lcgS_all hm hi
  obtain ⟨b, hb, eb⟩ := lcgS_all hm hj
  rw [← ea]
  rcases Nat.lt_or_ge b a with c | c
  · refine ⟨b + (m + 1) - a, by omega, ?_⟩
    rw [lcgN_add]
    have e : a + (b + (m + 1) - a) = m + 1 + b := by omega
    rw [e, lcgS_mod hm, eb]
  · refine ⟨b - a, by omega, ?_⟩
    rw [lcgN_add]
    have e : a + (b - a) = b := by omega
    rw [e, eb]
theorem runS_meets {m : Nat} (hm : MaskS m) (h : Int) {j : Nat} (hj : j ≤ m) : ∃ n, n ≤ m + 12 ∧ runI m (SetTable.bits h) n = j := by
  obtain ⟨k, hk, e⟩ := lcgSI_all hm (runI_le m (SetTable.bits h) 12) hj
  exact ⟨12 + k, by omega, by rw [runI_tail (bits_lt h)]; exact e⟩
/-- the search for a free slot -/
theorem free_go (owner : Array (Option Nat)) (m b : Nat) : ∀ f n, (∃ n', n ≤ n' ∧ n' < n + f ∧ (owner.getD (runI m b n') (some 0)).isNone = true) →
    ∃ j, SetTable.layClean.free m owner f (runI m b n) (b / 32 ^ n) = some j ∧ (owner.getD j (some 0)).isNone = true
  | 0, n, ⟨n', h1, h2, _⟩ => absurd h2 (by omega)
  | f + 1, n, ⟨n', h1, h2, h3⟩ => by
    unfold SetTable.layClean.free
    split
    · rename_i k hk
      exact ⟨_, rfl, by simpa using List.find?_some hk⟩
    · rename_i hk
      have hr := runEnd_bd (runI_le m b n)
      have h0 : ¬ (owner.getD (runI m b n) (some 0)).isNone = true := by
        have := List.find?_eq_none.mp hk 0 (List.mem_range.mpr (by omega))
        simpa using this
      have hne : n' ≠ n := fun e => h0 (by rw [← e]; exact h3)
      have ih := free_go owner m b f (n + 1) ⟨n', by omega, by omega, h3⟩
      have e1 : SetTable.leap m (runI m b n) (b / 32 ^ n) = (runI m b (n + 1), b / 32 ^ (n + 1)) := by
        show ((runI m b n * 5 + 1 + b / 32 ^ n / 32) % (m + 1), b / 32 ^ n / 32) = _
        rw [pow_div]
        rfl
      rw [e1]
      exact ih
theorem free_at {m : Nat} (hm : MaskS m) {owner : Array (Option Nat)} (hz : owner.size = m + 1) {j : Nat} (hj : owner.toList[j]? = some none) (h : Int) :
    ∃ j', SetTable.layClean.free m owner (SetTable.turns m) (SetTable.bits h % (m + 1)) (SetTable.bits h) = some j' ∧ owner.toList[j']? = some none := by
  have hjl : j < owner.size := by
    have := (List.getElem?_eq_some_iff.mp hj).1
    rwa [Array.length_toList] at this
  obtain ⟨n, hn, e⟩ := runS_meets hm h (j := j) (by omega)
  have hg : ∀ i, (owner.getD i (some 0)).isNone = true ↔ owner.toList[i]? = some none := fun i => by
    rw [Array.getElem?_toList]
    unfold Array.getD
    by_cases hi : i < owner.size
    · rw [dif_pos hi, Array.getElem?_eq_getElem hi]
      show (owner[i]).isNone = true ↔ some owner[i] = some none
      cases owner[i] <;> simp
    · rw [dif_neg hi, Array.getElem?_eq_none (by omega)]
      simp
  obtain ⟨j', q1, q2⟩ := free_go owner m (SetTable.bits h) (SetTable.turns m) 0 ⟨n, Nat.zero_le _, by unfold SetTable.turns; omega, by rw [e]; exact (hg j).mpr hj⟩
  refine ⟨j', ?_, (hg j').mp q2⟩
  rw [← q1]
  show SetTable.layClean.free m owner (SetTable.turns m) (SetTable.bits h % (m + 1)) (SetTable.bits h) = SetTable.layClean.free m owner (SetTable.turns m) (SetTable.bits h % (m + 1)) (SetTable.bits h / 32 ^ 0)
  rw [Nat.pow_zero, Nat.div_one]
theorem set_perm {k : Nat} : ∀ (l : List (Option Nat)) (j : Nat), l[j]? = some none → ((l.set j (some k)).filterMap id).Perm (k :: l.filterMap id)
  | [], j, h => by simp at h
  | x :: l, 0, h => by
    have e : x = none := by simpa using h
    subst e
    simp
  | x :: l, j + 1, h => by
    have ih := set_perm (k := k) l j (by simpa using h)
    rw [List.set_cons_succ]
    cases x with
    | none => simpa using ih
    | some y =>
      show (y :: (l.set j (some k)).filterMap id).Perm (k :: y :: l.filterMap id)
      exact (ih.cons y).trans (List.Perm.swap _ _ _)
theorem full_len : ∀ l : List (Option Nat), (∀ j : Nat, l[j]? ≠ some none) → (l.filterMap id).length = l.length
  | [], _ => rfl
  | x :: l, h => by
    have ih := full_len l fun j => by simpa using h (j + 1)
    cases x with
    | none => exact absurd rfl (h 0)
    | some y => simpa using ih
/-- so far laid -/
def Lay (m k : Nat) (a : Option (Array (Option Nat) × Nat)) : Prop := ∃ owner, a = some (owner, k) ∧ owner.size = m + 1 ∧ (owner.toList.filterMap id).Perm (List.range k)
def layStep (m : Nat) (acc : Option (Array (Option Nat) × Nat)) (h : Int) : Option (Array (Option Nat) × Nat) := do
  let (owner, k) ← acc
  let j ← SetTable.layClean.free m owner (SetTable.turns m) (SetTable.bits h % (m + 1)) (SetTable.bits h)
  pure (owner.setIfInBounds j (some k), k + 1)
theorem lay_step {m k : Nat} (hm : MaskS m) (hk : k ≤ m) {a : Option (Array (Option Nat) × Nat)} (L : Lay m k a) (h : Int) : Lay m (k + 1) (layStep m a h) := by
  obtain ⟨owner, rfl, hz, hp⟩ := L
  obtain ⟨j, hj⟩ : ∃ j : Nat, owner.toList[j]? = some none := by
    rcases Classical.em (∃ j : Nat, owner.toList[j]? = some none) with c | c
    · exact c
    · exfalso
      have e := full_len owner.toList fun j hj => c ⟨j, hj⟩
      rw [hp.length_eq, List.length_range, Array.length_toList, hz] at e
      omega
  obtain ⟨j', q1, q2⟩ := free_at hm hz hj h
  refine ⟨owner.setIfInBounds j' (some k), ?_, by simp [hz], ?_⟩
  · unfold layStep
    show (SetTable.layClean.free m owner (SetTable.turns m) (SetTable.bits h % (m + 1)) (SetTable.bits h) >>= fun j => pure (owner.setIfInBounds j (some k), k + 1)) = _
    rw [q1]
    rfl
  · rw [Array.toList_setIfInBounds, List.range_succ]
    exact (set_perm _ _ q2).trans ((hp.cons k).trans (List.perm_append_singleton k _).symm)
theorem lay_all {m : Nat} (hm : MaskS m) : ∀ (hs : List Int) (k : Nat) (a : Option (Array (Option Nat) × Nat)), k + hs.length ≤ m + 1 → Lay m k a → Lay m (k + hs.length) (hs.foldl (layStep m) a)
  | [], k, a, _, L => L
  | h :: hs, k, a, hl, L => by
    rw [List.length_cons] at hl
    have := lay_all hm hs (k + 1) (layStep m a h) (by omega) (lay_step hm (by omega) L h)
    rw [List.length_cons, List.foldl_cons]
    have e : k + (hs.length + 1) = k + 1 + hs.length := by omega
    rw [e]
    exact this
theorem range_getD (owner : Array (Option Nat)) : (List.range owner.size).map (fun j => owner.getD j none) = owner.toList := by
  refine List.ext_getElem? fun i => ?_
  by_cases hi : i < owner.size
  · rw [List.getElem?_map, List.getElem?_range hi, List.getElem?_eq_getElem (by rw [Array.length_toList]; exact hi)]
    show some (owner.getD i none) = some owner.toList[i]
    unfold Array.getD
    rw [dif_pos hi]
    rfl
  · rw [List.getElem?_eq_none (by rw [List.length_map, List.length_range]; omega), List.getElem?_eq_none (by rw [Array.length_toList]; omega)]
theorem fm_congr {α β : Type} {f g : α → Option β} : ∀ (l : List α), (∀ x ∈ l, f x = g x) → l.filterMap f = l.filterMap g
  | [], _ => rfl
  | x :: l, h => by
    rw [List.filterMap_cons, List.filterMap_cons, h x List.mem_cons_self, fm_congr l fun y hy => h y (List.mem_cons_of_mem _ hy)]
/-- a table is laid, and all that is laid stands in it -/
theorem laid_ok {m : Nat} (hm : MaskS m) (hs : Array Int) (hl : hs.size ≤ m + 1) (finger moves : Nat) (led plain : Bool) :
    ∃ t order, SetTable.laid m finger moves led plain hs = some (t, order) ∧ t.mask = m ∧ t.dummies = #[] ∧ t.place.size = hs.size ∧ t.led = led ∧ t.plain = plain ∧ order.toList.Perm (List.range hs.size) := by
  have L0 : Lay m 0 (some (Array.replicate (m + 1) none, 0)) := ⟨_, rfl, by simp, by
    have : ∀ n : Nat, (List.replicate n (none : Option Nat)).filterMap id = [] := fun n => by
      induction n with
      | zero => rfl
      | succ n ih => simpa [List.replicate_succ] using ih
    rw [Array.toList_replicate, this]
    simp⟩
  obtain ⟨owner, e, hz, hp⟩ := lay_all hm hs.toList 0 _ (by rw [Array.length_toList]; omega) L0
  rw [Nat.zero_add, Array.length_toList] at e hp
  have e2 : SetTable.layClean m hs = some owner := by
    unfold SetTable.layClean
    rw [← Array.foldl_toList]
    have : (List.foldl (layStep m) (some (Array.replicate (m + 1) none, 0)) hs.toList).map (·.1) = some owner := by rw [e]; rfl
    exact this
  have hlive : ((List.range (m + 1)).filterMap fun j => (owner.getD j none).map (j, ·)).map (·.2) = owner.toList.filterMap id := by
    rw [← range_getD owner, hz, List.map_filterMap, List.filterMap_map]
    refine fm_congr _ fun j _ => ?_
    show ((owner.getD j none).map (j, ·)).map (·.2) = id (owner.getD j none)
    cases owner.getD j none <;> rfl
  unfold SetTable.laid
  rw [e2]
  refine ⟨_, _, rfl, rfl, rfl, ?_, rfl, rfl, ?_⟩
  · show ((((List.range (m + 1)).filterMap fun j => (owner.getD j none).map (j, ·)).map (·.1)).toArray).size = hs.size
    rw [List.size_toArray, List.length_map, ← List.length_map (f := (·.2)), hlive, hp.length_eq, List.length_range]
  · show (((List.range (m + 1)).filterMap fun j => (owner.getD j none).map (j, ·)).map (·.2)).toArray.toList.Perm _
    rw [List.toList_toArray, hlive]
    exact hp
end Qk

set_option maxRecDepth 100000
set_option maxHeartbeats 4000000
namespace Qk
open PySem PySem.Spec PyProof.Rows L2

/-! ### the difference of two sets of texts -/
/-- the set at a holds just the texts of S -/
def TSet (P : Program) (w : World) (h : Heap) (a : Addr) (S : Str → Bool) (n : Nat) : Prop := h.SetOf (strKind P w) a S n
section
variable {P : Program} {w : World} {A : Around} {E : Value → Shared → Prop} {s : Shared} {a o r : Addr} {S T R : Str → Bool} {n m k : Nat}
theorem text_of {v : Value} {z : Str} (h : (strKind P w).is z v = true) : ∃ t, v = .str z t := by
  cases v with
  | str y t =>
    have e : (y == z) = true := h
    rw [beq_iff_eq.mp e]
    exact ⟨t, rfl⟩
  | _ => cases h
theorem quiet_texts (h1 : TSet P w s.heap a S n) (h2 : TSet P w s.heap o T m) (h3 : TSet P w s.heap r R k) {Q : Bool → Shared → Prop} (h : Q true s) : wpAny (model P w) A (setsQuiet [a, o, r]) Q E s := by
  have one : ∀ {b : Addr} {U : Str → Bool} {j : Nat}, TSet P w s.heap b U j → ∀ {Q : Array (Int × Value) → Shared → Prop}, (∀ es : Array (Int × Value), (∀ e ∈ es.toList, ∃ z t, e.2 = Value.str z t) → Q es s) → wpAny (model P w) A (setEntries b) Q E s := by
    intro b U j hb Q q
    obtain ⟨o, es, ep, t, ho, hex, hd, hel, hmem, hlt, hf, hn⟩ := hb
    refine wpAny_setEntries_of ho hd hf (q es fun e he => ?_)
    obtain ⟨⟨z, hz, _⟩, _⟩ := hel e he
    obtain ⟨t, e2⟩ := text_of hz
    exact ⟨z, t, e2⟩
  have any1 : ∀ c ∈ [a, o, r], ∀ {Q : Array (Int × Value) → Shared → Prop}, (∀ es : Array (Int × Value), (∀ e ∈ es.toList, ∃ z t, e.2 = Value.str z t) → Q es s) → wpAny (model P w) A (setEntries c) Q E s := by
    intro c hc
    simp only [List.mem_cons, List.not_mem_nil, or_false] at hc
    rcases hc with rfl | rfl | rfl
    · exact one h1
    · exact one h2
    · exact one h3
  unfold setsQuiet
  refine wpAny_bind (wpAny_forIn_list _ (fun rest b s' => b = (none, ()) ∧ s' = s ∧ ∀ c ∈ rest, c ∈ [a, o, r]) _ ?_ ?_ _ _ ⟨rfl, rfl, fun _ h => h⟩)
  · rintro c rest b s' ⟨rfl, rfl, hc⟩
    refine wpAny_bind (any1 c (hc c List.mem_cons_self) fun es hes => ?_)
    refine wpAny_bind (wpAny_forIn_array' _ (fun rest b s'' => b = (none, ()) ∧ s'' = s' ∧ ∀ e ∈ rest, ∃ z t, e.2 = Value.str z t) _ ?_ ?_ _ _ ⟨rfl, rfl, hes⟩)
    · rintro ⟨u, v⟩ rest2 b s'' ⟨rfl, rfl, he⟩
      obtain ⟨z, t, e2⟩ := he _ List.mem_cons_self
      dsimp only at e2
      subst e2
      exact wpAny_pure ⟨rfl, rfl, fun e h => he e (List.mem_cons_of_mem _ h)⟩
    · rintro b s'' ⟨rfl, rfl, _⟩
      exact wpAny_pure ⟨rfl, rfl, fun c h => hc c (List.mem_cons_of_mem _ h)⟩
  · rintro b s' ⟨rfl, rfl, _⟩
    exact wpAny_pure h
theorem quiet_texts2 (h1 : TSet P w s.heap a S n) (h3 : TSet P w s.heap r R k) {Q : Bool → Shared → Prop} (h : Q true s) : wpAny (model P w) A (setsQuiet [a, r]) Q E s := by
  have one : ∀ {b : Addr} {U : Str → Bool} {j : Nat}, TSet P w s.heap b U j → ∀ {Q : Array (Int × Value) → Shared → Prop}, (∀ es : Array (Int × Value), (∀ e ∈ es.toList, ∃ z t, e.2 = Value.str z t) → Q es s) → wpAny (model P w) A (setEntries b) Q E s := by
    intro b U j hb Q q
    obtain ⟨o, es, ep, t, ho, hex, hd, hel, hmem, hlt, hf, hn⟩ := hb
    refine wpAny_setEntries_of ho hd hf (q es fun e he => ?_)
    obtain ⟨⟨z, hz, _⟩, _⟩ := hel e he
    obtain ⟨t, e2⟩ := text_of hz
    exact ⟨z, t, e2⟩
  have any1 : ∀ c ∈ [a, r], ∀ {Q : Array (Int × Value) → Shared → Prop}, (∀ es : Array (Int × Value), (∀ e ∈ es.toList, ∃ z t, e.2 = Value.str z t) → Q es s) → wpAny (model P w) A (setEntries c) Q E s := by
    intro c hc
    simp only [List.mem_cons, List.not_mem_nil, or_false] at hc
    rcases hc with rfl | rfl
    · exact one h1
    · exact one h3
  unfold setsQuiet
  refine wpAny_bind (wpAny_forIn_list _ (fun rest b s' => b = (none, ()) ∧ s' = s ∧ ∀ c ∈ rest, c ∈ [a, r]) _ ?_ ?_ _ _ ⟨rfl, rfl, fun _ h => h⟩)
  · rintro c rest b s' ⟨rfl, rfl, hc⟩
    refine wpAny_bind (any1 c (hc c List.mem_cons_self) fun es hes => ?_)
    refine wpAny_bind (wpAny_forIn_array' _ (fun rest b s'' => b = (none, ()) ∧ s'' = s' ∧ ∀ e ∈ rest, ∃ z t, e.2 = Value.str z t) _ ?_ ?_ _ _ ⟨rfl, rfl, hes⟩)
    · rintro ⟨u, v⟩ rest2 b s'' ⟨rfl, rfl, he⟩
      obtain ⟨z, t, e2⟩ := he _ List.mem_cons_self
      dsimp only at e2
      subst e2
      exact wpAny_pure ⟨rfl, rfl, fun e h => he e (List.mem_cons_of_mem _ h)⟩
    · rintro b s'' ⟨rfl, rfl, _⟩
      exact wpAny_pure ⟨rfl, rfl, fun c h => hc c (List.mem_cons_of_mem _ h)⟩
  · rintro b s' ⟨rfl, rfl, _⟩
    exact wpAny_pure h
/-- what a walk over the set at a gives: all of it, in some order -/
def Walked (P : Program) (w : World) (S : Str → Bool) (l : List (Int × Value)) : Prop := (∀ e ∈ l, ∃ z t, e.2 = Value.str z t ∧ e.1 = (strKind P w).hash z ∧ S z = true) ∧ (∀ z, S z = true → ∃ e ∈ l, (strKind P w).is z e.2 = true) ∧ l.length < scanBound
theorem walked_of {es : Array (Int × Value)} {l : List (Int × Value)} (hel : ElemsOf (strKind P w) es.toList) (hmem : ∀ z, S z = true ↔ ∃ e ∈ es.toList, (strKind P w).is z e.2 = true) (hlt : es.size < scanBound) (p : l.Perm es.toList) : Walked P w S l := by
  refine ⟨fun e he => ?_, fun z hz => ?_, by rw [p.length_eq, Array.length_toList]; exact hlt⟩
  · have he' := p.mem_iff.mp he
    obtain ⟨⟨z, hz, hh⟩, _⟩ := hel e he'
    obtain ⟨t, e2⟩ := text_of hz
    exact ⟨z, t, e2, hh, (hmem z).mpr ⟨e, he', hz⟩⟩
  · obtain ⟨e, he, hz⟩ := (hmem z).mp hz
    exact ⟨e, p.mem_iff.mpr he, hz⟩
/-- the walk of setWalkUnseen, another set being filled -/
theorem walk_unseen (h1 : TSet P w s.heap a S n) (h2 : TSet P w s.heap o T m) (h3 : TSet P w s.heap r R k) {Q : Array (Int × Value) → Shared → Prop}
    (h : ∀ (arr : Array (Int × Value)) (h' : Heap) (d : Drawn), Walked P w S arr.toList → Heap.SameBut r s.heap h' → TSet P w h' r R k → Q arr { s with heap := h', drawn := d }) :
    wpAny (model P w) A (setWalkUnseen a [o, r] (some r)) Q E s := by
  obtain ⟨oa, es, ep, t, ho, hex, hd, hel, hmem, hlt, hf, hn⟩ := id h1
  have e0 : s = { s with heap := s.heap, drawn := s.drawn } := by cases s; rfl
  unfold setWalkUnseen
  refine wpAny_bind (wpAny_setState_of ho hd hf ?_)
  dsimp only
  refine wpAny_bind (wpAny_byText ?_)
  by_cases c : (w.params.followText "set-order" || (t.led && t.plain) || decide (es.size ≤ 1)) = true
  · rw [if_pos c]
    unfold setWalk
    refine wpAny_bind (wpAny_setState_of ho hd hf ?_)
    dsimp only
    refine wpAny_bind (wpAny_byText ?_)
    by_cases hbt : w.params.followText "set-order" = true
    · refine wp_if_pos hbt ?_
      refine wpAny_bind (wpAny_askSetting (wpAny_pure ?_))
      exact h _ s.heap s.drawn (walked_of hel hmem hlt (pick_perm _ es)) (Heap.SameBut.refl r s.heap) h3
    · refine wp_if_neg hbt ?_
      by_cases hdr : (!t.plain && decide (es.size > 1)) = true
      · refine wp_if_pos hdr ?_
        refine wpAny_bind (drawOrder_at _ _ _ _ (by rw [Array.length_toList]; exact Nat.le_refl _) fun ys d hy => ?_)
        exact wpAny_pure (h _ s.heap d (walked_of hel hmem hlt hy) (Heap.SameBut.refl r s.heap) h3)
      · refine wp_if_neg hdr ?_
        have hled : ¬ (!t.led && decide (es.size > 1)) = true := by
          intro z
          simp only [Bool.and_eq_true, Bool.not_eq_true', decide_eq_true_eq] at z
          simp only [Bool.or_eq_true, Bool.and_eq_true, decide_eq_true_eq] at c
          rcases c with (c | c) | c
          · exact hbt c
          · rw [c.1] at z
            cases z.1
          · omega
        refine wpAny_bind (wpAny_of_eq (a := ()) ?_ ?_)
        · show (if (!t.led && decide (es.size > 1)) = true then unsupported "set:maker-not-led" else pure ()) = pure ()
          rw [if_neg hled]
        · exact wpAny_pure (h _ s.heap s.drawn (walked_of hel hmem hlt (List.Perm.refl _)) (Heap.SameBut.refl r s.heap) h3)
  · rw [if_neg c]
    refine wpAny_bind (quiet_texts h1 h2 h3 ?_)
    refine wp_if_neg (by simp) ?_
    refine wpAny_bind (wpAny_rule ?_)
    obtain ⟨orr, er, epr, tr, hor, hexr, hdr, helr, hmemr, hltr, hfr, hnr⟩ := id h3
    refine wpAny_bind (wpAny_setState_of hor hdr hfr ?_)
    dsimp only
    by_cases c2 : (tr.led && !t.led || tr.plain && !t.plain) = true
    · refine wp_if_pos c2 ?_
      refine wpAny_bind (wpAny_storeSet_of hor hdr ?_ (fits_of_scanBound hltr))
      obtain ⟨_, hS⟩ := SetOf_store (knd := strKind P w) (t' := { tr with led := tr.led && t.led, plain := tr.plain && t.plain }) hor hexr hdr helr hmemr hltr (by cases tr; exact hfr)
      rw [hnr] at hS
      exact wpAny_pure (h es _ s.drawn (walked_of hel hmem hlt (List.Perm.refl _)) (Heap.SameBut.update s.heap r _) hS)
    · refine wp_if_neg c2 ?_
      exact wpAny_pure (h es s.heap s.drawn (walked_of hel hmem hlt (List.Perm.refl _)) (Heap.SameBut.refl r s.heap) h3)
theorem sub_set_self : isSubtype (.type "set") (.type "set") = pure true := by rw [isSubtype_type]; kernel_rfl
theorem any_set (h1 : TSet P w s.heap a S n) {Q : Bool → Shared → Prop} (h : Q true s) : wpAny (model P w) A (Builtin.Frozenset.isAnySet (.ref a)) Q E s := by
  unfold Builtin.Frozenset.isAnySet orM
  refine wpAny_bind (wpAny_isInstance (T := "set") h1.typeIs sub_set_self ?_)
  exact wpAny_pure h
theorem size_of (h1 : TSet P w s.heap a S n) {Q : Nat → Shared → Prop} (h : Q n s) : wpAny (model P w) A (Builtin.Frozenset.sizeOf a) Q E s := by
  obtain ⟨oa, es, ep, t, ho, hex, hd, hel, hmem, hlt, hf, hn⟩ := h1
  unfold Builtin.Frozenset.sizeOf
  refine wpAny_bind (wpAny_setEntries_of ho hd hf (wpAny_pure ?_))
  rw [hn]
  exact h
theorem base_of (h1 : TSet P w s.heap a S n) {Q : Value → Shared → Prop} (h : Q (.type "set") s) : wpAny (model P w) A (Builtin.Frozenset.baseOf a) Q E s := by
  unfold Builtin.Frozenset.baseOf
  refine wpAny_bind (wpAny_isInstance (T := "set") h1.typeIs sub_set_self ?_)
  exact wpAny_pure h
theorem epoch_of (h1 : TSet P w s.heap a S n) {Q : Nat → Shared → Prop} (h : ∀ ep, (∀ s' : Shared, (∀ u, s.heap.get? a = some u → s'.heap.get? a = some u) → ∀ {A : Around} {E : Value → Shared → Prop} {Q' : Unit → Shared → Prop} (id' : String), Q' () s' → wpAny (model P w) A (Builtin.Frozenset.unchanged id' a ep) Q' E s') → Q ep s) : wpAny (model P w) A (setEpoch a) Q E s := by
  obtain ⟨oa, es, ep, t, ho, hex, hd, hel, hmem, hlt, hf, hn⟩ := h1
  refine wpAny_setEpoch_of ho hd hf (h ep fun s' k A E Q' id' q => ?_)
  unfold Builtin.Frozenset.unchanged
  refine wpAny_bind (wpAny_setEpoch_of (k _ ho) hd hf ?_)
  refine wp_if_neg (by simp) (wpAny_pure q)
theorem TSet.keep {h h' : Heap} {a : Addr} {S : Str → Bool} {n : Nat} (x : TSet P w h a S n) (k : ∀ u, h.get? a = some u → h'.get? a = some u) : TSet P w h' a S n := by
  obtain ⟨oa, es, ep, t, ho, r⟩ := x
  exact ⟨oa, es, ep, t, k _ ho, r⟩
theorem TSet.lt {h : Heap} {a : Addr} {S : Str → Bool} {n : Nat} (x : TSet P w h a S n) : a < h.objs.size := by
  obtain ⟨oa, es, ep, t, ho, r⟩ := x
  exact Heap.lt_size ho
/-- where the first set is not much larger -/
theorem diff_near {id' : String} (h1 : TSet P w s.heap a S n) (h2 : TSet P w s.heap o T m) (hnm : ¬ n / 4 > m) {Q : Value → Shared → Prop}
    (h : ∀ (p : Addr) (j : Nat) (h' : Heap) (d : Drawn) (t : Nat), s.heap.get? p = none → (∀ b u, s.heap.get? b = some u → h'.get? b = some u) → TSet P w h' p (fun z => S z && !T z) j → Q (.ref p) { s with heap := h', drawn := d, toks := t }) :
    wpAny (model P w) A (Builtin.Frozenset.difference id' a (.ref o)) Q E s := by
  unfold Builtin.Frozenset.difference
  dsimp only
  refine wpAny_bind (any_set h2 ?_)
  refine wp_if_neg (by simp) ?_
  refine wpAny_bind (m := Builtin.Frozenset.addrOf (.ref o)) (wpAny_pure ?_)
  refine wp_if_neg (by simp) ?_
  refine wp_if_pos rfl ?_
  refine wpAny_bind (size_of h2 ?_)
  refine wpAny_bind (size_of h1 ?_)
  refine wp_if_neg hnm ?_
  refine wpAny_bind (base_of h1 ?_)
  refine wpAny_bind (wpAny_newSet_of (knd := strKind P w) fun led h3 => ?_)
  have hlt1 := h1.lt
  have hlt2 := h2.lt
  have hnew : s.heap.get? s.heap.objs.size = none := Heap.get?_none_of_le (Nat.le_refl _)
  generalize hr : s.heap.objs.size = r at *
  refine wpAny_bind (m := Builtin.Frozenset.addrOf (.ref r)) (wpAny_pure ?_)
  have kp : ∀ b u, s.heap.get? b = some u → (s.heap.push { cls := .type "set", dict := none, data := .set #[] 0 (.fresh 0 0 led) }).get? b = some u := fun b u e => Heap.get?_push_of_some _ e
  generalize s.heap.push { cls := .type "set", dict := none, data := .set #[] 0 (.fresh 0 0 led) } = hp at *
  have g1 : TSet P w hp a S n := h1.keep fun u e => kp _ _ e
  have g2 : TSet P w hp o T m := h2.keep fun u e => kp _ _ e
  refine wpAny_bind (epoch_of (s := { s with heap := hp }) g1 fun ep unch => ?_)
  refine wpAny_bind (wpAny_holding ?_)
  refine wpAny_bind ?_
  refine wp_if_pos rfl ?_
  refine walk_unseen (s := { s with heap := hp }) g1 g2 h3 fun arr h' d wk sb g3 => ?_
  have nra : a ≠ r := Nat.ne_of_lt hlt1
  have nro : o ≠ r := Nat.ne_of_lt hlt2
  refine wpAny_bind (wpAny_forIn_array' _ (fun rest b s' => (∀ e ∈ rest, ∃ z t, e.2 = Value.str z t ∧ e.1 = (strKind P w).hash z ∧ S z = true) ∧ ∃ (hh : Heap) (tk : Nat) (R : Str → Bool) (j : Nat), s' = { s with heap := hh, drawn := d, toks := tk } ∧
      (∀ b u, b ≠ r → hp.get? b = some u → hh.get? b = some u) ∧ TSet P w hh r R j ∧ j + rest.length ≤ arr.toList.length ∧ (∀ z, R z = true → S z = true ∧ T z = false) ∧ (∀ z, S z = true → T z = false → R z = true ∨ ∃ e ∈ rest, (strKind P w).is z e.2 = true)) _ ?_ ?_ _ _ ?_)
  · rintro ⟨hv, x⟩ rest b s' ⟨he, hh, tk, R, j, rfl, kp', gR, hj, r1, r2⟩
    obtain ⟨z, t, e2, e1, hz⟩ := he _ List.mem_cons_self
    dsimp only at e2 e1
    subst e2 e1
    have he' : ∀ e ∈ rest, ∃ z t, e.2 = Value.str z t ∧ e.1 = (strKind P w).hash z ∧ S z = true := fun e h => he e (List.mem_cons_of_mem _ h)
    rw [List.length_cons] at hj
    have u1 := @unch { s with heap := hh, drawn := d, toks := tk } (fun u e => kp' _ _ nra e)
    have g2' : TSet P w hh o T m := g2.keep fun u e => kp' _ _ nro e
    refine wpAny_bind (wpAny_holding ?_)
    refine wp_if_pos rfl ?_
    refine wpAny_bind (wpAny_setFind_of (knd := strKind P w) (k := z) (s := { s with heap := hh, drawn := d, toks := tk }) (strKind_is _ _ _ _) rfl g2' fun q hq => ?_)
    refine wpAny_bind (wpAny_pure ?_)
    rw [hq]
    by_cases ht : T z = true
    · refine wp_if_neg (by rw [ht]; simp) ?_
      refine wpAny_pure (wpAny_bind (u1 _ (wpAny_pure ⟨he', hh, tk, R, j, rfl, kp', gR, by omega, r1, fun y hy ty => ?_⟩)))
      rcases r2 y hy ty with c | ⟨e, hm, c⟩
      · exact .inl c
      · rcases List.mem_cons.mp hm with rfl | hm
        · exfalso
          have : y = z := by
            have e3 : (z == y) = true := c
            exact (beq_iff_eq.mp e3).symm
          rw [this, ht] at ty
          cases ty
        · exact .inr ⟨e, hm, c⟩
    · have tf : T z = false := by simpa using ht
      refine wp_if_pos (by rw [tf]; rfl) ?_
      refine wpAny_bind (wpAny_setAddHashed_of (knd := strKind P w) (k := z) (s := { s with heap := hh, drawn := d, toks := tk }) (strKind_is _ _ _ _) rfl gR (by have := wk.2.2; omega) fun h2 sb2 gR2 => ?_)
      have kp2 : ∀ b u, b ≠ r → hp.get? b = some u → h2.get? b = some u := fun b u nb e => (sb2.2 b nb).trans (kp' b u nb e)
      have u2 := @unch { s with heap := h2, drawn := d, toks := tk } (fun u e => kp2 _ _ nra e)
      refine wpAny_pure (wpAny_bind (u2 _ (wpAny_pure ⟨he', h2, tk, _, _, rfl, kp2, gR2, by split <;> omega, fun y hy => ?_, fun y hy ty => ?_⟩)))
      · simp only [Bool.or_eq_true, decide_eq_true_eq] at hy
        rcases hy with hy | rfl
        · exact r1 y hy
        · exact ⟨hz, tf⟩
      · rcases r2 y hy ty with c | ⟨e, hm, c⟩
        · exact .inl (by rw [c]; rfl)
        · rcases List.mem_cons.mp hm with rfl | hm
          · refine .inl ?_
            have e3 : (z == y) = true := c
            rw [decide_eq_true (beq_iff_eq.mp e3).symm, Bool.or_true]
          · exact .inr ⟨e, hm, c⟩
  · rintro b s' ⟨_, hh, tk, R, j, rfl, kp', gR, _, r1, r2⟩
    refine wpAny_pure (wpAny_pure (h r j hh d tk hnew (fun b u e => kp' b u ?_ (kp b u e)) (SetOf_congr gR (fun z => ?_) rfl)))
    · intro eb
      rw [eb, hnew] at e
      cases e
    · cases c1 : R z with
      | true =>
        obtain ⟨q1, q2⟩ := r1 z c1
        rw [q1, q2]
        rfl
      | false =>
        cases c2 : S z with
        | false => rfl
        | true =>
          cases c3 : T z with
          | true => rfl
          | false =>
            rcases r2 z c2 c3 with q | ⟨e, hm, _⟩
            · rw [q] at c1
              cases c1
            · cases hm
  · refine ⟨wk.1, h', s.toks, fun _ => false, 0, rfl, fun b u nb e => (sb.2 b nb).trans e, g3, by omega, fun z hz => (Bool.false_ne_true hz).elim, fun z hz _ => .inr (wk.2.1 z hz)⟩
end
end Qk

set_option maxRecDepth 100000
set_option maxHeartbeats 4000000
namespace Qk
open PySem PySem.Spec PyProof.Rows L2

/-! ### the difference of two sets of texts, by a copy -/
/-- a set of texts with its table's mask, and few dummies -/
def TM (P : Program) (w : World) (h : Heap) (a : Addr) (S : Str → Bool) (n M c : Nat) : Prop :=
  ∃ o es ep t, h.get? a = some o ∧ o.ExactSet ∧ o.data = .set es ep t ∧ ElemsOf (strKind P w) es.toList ∧ (∀ z, S z = true ↔ ∃ e ∈ es.toList, (strKind P w).is z e.2 = true) ∧ es.size < scanBound ∧ t.fits es.size = true ∧ es.size = n ∧ t.mask = M ∧ t.dummies.size ≤ c
theorem TM.t {P : Program} {w : World} {h : Heap} {a : Addr} {S : Str → Bool} {n M c : Nat} (x : TM P w h a S n M c) : TSet P w h a S n := by
  obtain ⟨o, es, ep, t, h1, h2, h3, h4, h5, h6, h7, h8, _⟩ := x
  exact ⟨o, es, ep, t, h1, h2, h3, h4, h5, h6, h7, h8⟩
theorem range_get (es : Array (Int × Value)) : (List.range es.size).filterMap (fun i => es[i]?) = es.toList := by
  have e1 : (List.range es.size).filterMap (fun i => es[i]?) = ((List.range es.size).map fun i => es[i]?).filterMap id := by rw [List.filterMap_map]; rfl
  have e2 : ((List.range es.size).map fun i => es[i]?) = es.toList.map some := by
    refine List.ext_getElem? fun i => ?_
    by_cases hi : i < es.size
    · rw [List.getElem?_map, List.getElem?_range hi, List.getElem?_map, Array.getElem?_toList, Array.getElem?_eq_getElem hi]
      show some es[i]? = some (some es[i])
      rw [Array.getElem?_eq_getElem hi]
    · rw [List.getElem?_eq_none (by rw [List.length_map, List.length_range]; omega), List.getElem?_eq_none (by rw [List.length_map, Array.length_toList]; omega)]
  rw [e1, e2, List.filterMap_map]
  exact (fm_congr (g := some) _ fun x _ => rfl).trans (List.filterMap_some ..)
theorem order_perm {es : Array (Int × Value)} {order : Array Nat} (hp : order.toList.Perm (List.range es.size)) : (order.filterMap (es[·]?)).toList.Perm es.toList := by
  rw [Array.toList_filterMap]
  exact (hp.filterMap _).trans (by rw [range_get])
section
variable {P : Program} {w : World} {A : Around} {E : Value → Shared → Prop} {s : Shared} {a o r : Addr} {S T R : Str → Bool} {n m k : Nat}
theorem size_tab : ∀ n, n < 13 → 5 ≤ n → MaskS (SetTable.sizeAbove ((0 + n) * 2) - 1) ∧ (8 ≤ n → SetTable.sizeAbove ((0 + n) * 2) - 1 = 31) ∧ ¬ SetTable.sizeAbove ((0 + n) * 2) > sizeLine := by
  intro n hn h5
  have key : ∀ n ∈ List.range 13, 5 ≤ n → (SetTable.sizeAbove ((0 + n) * 2) - 1 = 7 ∨ SetTable.sizeAbove ((0 + n) * 2) - 1 = 15 ∨ SetTable.sizeAbove ((0 + n) * 2) - 1 = 31) ∧ (8 ≤ n → SetTable.sizeAbove ((0 + n) * 2) - 1 = 31) ∧ ¬ SetTable.sizeAbove ((0 + n) * 2) > sizeLine := by decide +kernel
  exact key n (List.mem_range.mpr hn) h5
theorem room_at {led : Bool} (h4 : 4 ≤ n) (h12 : n ≤ 12) (hr : s.heap.get? r = some { cls := .type "set", dict := none, data := .set #[] 0 (.fresh 0 0 led) }) {Q : Unit → Shared → Prop}
    (h : ∀ (h' : Heap) (M ep : Nat) (t : SetTable), MaskS M → (8 ≤ n → M = 31) → Heap.SameBut r s.heap h' → h'.get? r = some { cls := .type "set", dict := none, data := .set #[] ep t } → t.mask = M → t.place = #[] → t.dummies = #[] → Q () { s with heap := h' }) :
    wpAny (model P w) A (setRoomFor r n) Q E s := by
  have hf0 : (SetTable.fresh 0 0 led).fits (#[] : Array (Int × Value)).size = true := by cases led <;> rfl
  unfold setRoomFor
  refine wpAny_bind (wpAny_setState_of hr rfl hf0 ?_)
  dsimp only
  have e0 : (SetTable.fresh 0 0 led).roomFor n = if (0 + n) * 5 ≥ 7 * 3 then some ((0 + n) * 2) else none := rfl
  rw [e0]
  by_cases h5 : n = 4
  · subst h5
    rw [if_neg (by decide)]
    exact wpAny_pure (h s.heap 7 0 _ (.inl rfl) (by omega) (Heap.SameBut.refl r s.heap) hr rfl rfl rfl)
  · rw [if_pos (by omega)]
    dsimp only
    obtain ⟨m1, m2, m3⟩ := size_tab n (by omega) (by omega)
    rw [setRelay_eq]
    refine wpAny_bind (wpAny_setState_of hr rfl hf0 ?_)
    dsimp only
    refine wp_if_neg m3 ?_
    obtain ⟨t, order, e1, e2, e3, e4, e5, e6, e7⟩ := laid_ok m1 ((#[] : Array (Int × Value)).map (·.1)) (by simp) (SetTable.fresh 0 0 led).finger ((SetTable.fresh 0 0 led).movedTo (SetTable.sizeAbove ((0 + n) * 2) - 1)) (SetTable.fresh 0 0 led).led (SetTable.fresh 0 0 led).plain
    have e8 : (SetTable.fresh 0 0 led).relaid ((#[] : Array (Int × Value)).map (·.1)) ((0 + n) * 2) = some (t, order) := e1
    have hes : order.filterMap ((#[] : Array (Int × Value))[·]?) = #[] := by
      have p := order_perm (es := (#[] : Array (Int × Value))) (order := order) (by simpa using e7)
      have := p.length_eq
      exact Array.eq_empty_of_size_eq_zero (by simpa using this)
    rw [e8]
    dsimp only
    rw [hes]
    refine wpAny_bind ?_
    refine wp_if_neg (by simp) (wpAny_pure ?_)
    have hfit : t.fits (#[] : Array (Int × Value)).size = true := by
      unfold SetTable.fits SetTable.fill
      rw [e3, e4]
      simp
    refine wpAny_storeSet_of hr rfl ?_
    obtain ⟨hg, _⟩ := SetOf_store (knd := strKind P w) (S' := fun _ => false) (es' := #[]) (t' := t) hr ⟨rfl, rfl, rfl⟩ rfl (fun e he => by simp at he) (fun z => by simp) (by decide) hfit
    exact h _ _ _ t m1 m2 (Heap.SameBut.update s.heap r _) hg e2 (Array.eq_empty_of_size_eq_zero (by rw [e4]; simp)) e3
theorem merge_at {led : Bool} (h1 : TSet P w s.heap a S n) (h4 : 4 ≤ n) (h12 : n ≤ 12) (hr : s.heap.get? r = some { cls := .type "set", dict := none, data := .set #[] 0 (.fresh 0 0 led) }) (nra : r ≠ a) {Q : Unit → Shared → Prop}
    (h : ∀ (h' : Heap) (M : Nat), MaskS M → (8 ≤ n → M = 31) → Heap.SameBut r s.heap h' → TM P w h' r S n M 0 → Q () { s with heap := h' }) : wpAny (model P w) A (setMerge r a) Q E s := by
  obtain ⟨oa, es, ep, t, ho, hex, hd, hel, hmem, hlt, hf, hn⟩ := id h1
  unfold setMerge
  refine wp_if_neg (by simpa using nra) ?_
  refine wpAny_bind (wpAny_setState_of ho hd hf ?_)
  dsimp only
  refine wp_if_neg (by rw [Array.isEmpty_iff_size_eq_zero]; omega) ?_
  have kp0 : ∀ h' : Heap, Heap.SameBut r s.heap h' → h'.get? a = some oa := fun h' sb => (sb.2 a nra.symm).trans ho
  refine wpAny_bind (room_at (n := es.size) (by omega) (by omega) hr fun h' M ep' ts hM hM8 sb hr' t1 t2 t3 => ?_)
  have hfs : ts.fits (#[] : Array (Int × Value)).size = true := by
    unfold SetTable.fits SetTable.fill
    rw [t2, t3]
    simp
  refine wpAny_bind (wpAny_setState_of (s := { s with heap := h' }) hr' rfl hfs ?_)
  dsimp only
  have hroad : ts.road t = if (ts.mask == t.mask && t.dummies.isEmpty) = true then .slotForSlot else .clean := by
    unfold SetTable.road SetTable.fill
    rw [t2, t3]
    rfl
  by_cases c : (ts.mask == t.mask && t.dummies.isEmpty) = true
  · rw [hroad, if_pos c]
    dsimp only
    obtain ⟨c1, c2⟩ := Bool.and_eq_true_iff.mp c
    refine wpAny_storeSet_of (s := { s with heap := h' }) hr' rfl ?_ (fits_of_scanBound hlt)
    have hft : ({ t with finger := ts.finger, led := ts.led && t.led, moves := ts.moves, plain := ts.plain && t.plain } : SetTable).fits es.size = true := by cases t; exact hf
    obtain ⟨hg, hS⟩ := SetOf_store (knd := strKind P w) (S' := S) (es' := es) (t' := { t with finger := ts.finger, led := ts.led && t.led, moves := ts.moves, plain := ts.plain && t.plain }) hr' ⟨rfl, rfl, rfl⟩ rfl hel hmem hlt hft
    refine h _ M hM (fun q => hM8 (by omega)) (sb.trans (Heap.SameBut.update h' r _)) ⟨_, es, _, _, hg, ⟨rfl, rfl, rfl⟩, rfl, hel, hmem, hlt, hft, hn, (beq_iff_eq.mp c1).symm.trans t1, ?_⟩
    rw [Array.isEmpty_iff_size_eq_zero] at c2
    exact Nat.le_of_eq c2
  · rw [hroad, if_neg c]
    dsimp only
    rw [t1]
    obtain ⟨tn, order, e1, e2, e3, e4, e5, e6, e7⟩ := laid_ok hM (es.map (·.1)) (by rw [Array.size_map]; rcases hM with z | z | z <;> omega) ts.finger ts.moves (ts.led && t.led) (ts.plain && t.plain)
    rw [e1]
    rw [Array.size_map] at e4 e7
    have hp := order_perm e7
    have hsz : (order.filterMap (es[·]?)).size = es.size := by
      have := hp.length_eq
      rwa [Array.length_toList, Array.length_toList] at this
    refine wpAny_bind ?_
    show wpAny _ _ (if ((order.filterMap (es[·]?)).size != es.size) = true then (unsupported "internal:set-table-lost-an-element" >>= fun _ => pure (order.filterMap (es[·]?), tn)) else pure (order.filterMap (es[·]?), tn)) _ _ _
    refine wp_if_neg (by rw [hsz]; simp) (wpAny_pure ?_)
    dsimp only
    have hel' : ElemsOf (strKind P w) (order.filterMap (es[·]?)).toList := hel.perm hp
    have hmem' : ∀ z, S z = true ↔ ∃ e ∈ (order.filterMap (es[·]?)).toList, (strKind P w).is z e.2 = true := fun z => (hmem z).trans ⟨fun ⟨e, he, q⟩ => ⟨e, hp.mem_iff.mpr he, q⟩, fun ⟨e, he, q⟩ => ⟨e, hp.mem_iff.mp he, q⟩⟩
    have hft : tn.fits (order.filterMap (es[·]?)).size = true := by
      unfold SetTable.fits SetTable.fill
      rw [e2, e3, e4, hsz]
      simp
      rcases hM with z | z | z <;> omega
    refine wpAny_storeSet_of (s := { s with heap := h' }) hr' rfl ?_ (fits_of_scanBound (by rw [hsz]; exact hlt))
    obtain ⟨hg, hS⟩ := SetOf_store (knd := strKind P w) (S' := S) (es' := order.filterMap (es[·]?)) (t' := tn) hr' ⟨rfl, rfl, rfl⟩ rfl hel' hmem' (by rw [hsz]; exact hlt) hft
    exact h _ M hM (fun q => hM8 (by omega)) (sb.trans (Heap.SameBut.update h' r _)) ⟨_, _, _, tn, hg, ⟨rfl, rfl, rfl⟩, rfl, hel', hmem', by rw [hsz]; exact hlt, hft, hsz.trans hn, e2, by rw [e3]; exact Nat.le_refl _⟩
theorem new_set {Q : Value → Shared → Prop} (h : ∀ led : Bool, Q (.ref s.heap.objs.size) { s with heap := s.heap.push { cls := .type "set", dict := none, data := .set #[] 0 (.fresh 0 0 led) } }) : wpAny (model P w) A (newSet (.type "set")) Q E s :=
  wpAny_newSet_of (knd := strKind P w) fun led _ => h led
/-- the walk over a set that is not the changed one -/
theorem walk_seen (h1 : TSet P w s.heap a S n) (h3 : TSet P w s.heap r R k) {Q : Array (Int × Value) → Shared → Prop}
    (h : ∀ (arr : Array (Int × Value)) (d : Drawn), Walked P w S arr.toList → arr.size = n → Q arr { s with drawn := d }) :
    wpAny (model P w) A (setWalkUnseen a [r] none) Q E s := by
  obtain ⟨oa, es, ep, t, ho, hex, hd, hel, hmem, hlt, hf, hn⟩ := id h1
  unfold setWalkUnseen
  refine wpAny_bind (wpAny_setState_of ho hd hf ?_)
  dsimp only
  refine wpAny_bind (wpAny_byText ?_)
  by_cases c : (w.params.followText "set-order" || (t.led && t.plain) || decide (es.size ≤ 1)) = true
  · rw [if_pos c]
    unfold setWalk
    refine wpAny_bind (wpAny_setState_of ho hd hf ?_)
    dsimp only
    refine wpAny_bind (wpAny_byText ?_)
    by_cases hbt : w.params.followText "set-order" = true
    · refine wp_if_pos hbt ?_
      refine wpAny_bind (wpAny_askSetting (wpAny_pure ?_))
      exact h _ s.drawn (walked_of hel hmem hlt (pick_perm _ es)) (by rw [← Array.length_toList, (pick_perm _ es).length_eq, Array.length_toList]; exact hn)
    · refine wp_if_neg hbt ?_
      by_cases hdr : (!t.plain && decide (es.size > 1)) = true
      · refine wp_if_pos hdr ?_
        refine wpAny_bind (drawOrder_at _ _ _ _ (by rw [Array.length_toList]; exact Nat.le_refl _) fun ys d hy => ?_)
        exact wpAny_pure (h _ d (walked_of hel hmem hlt hy) (by rw [List.size_toArray, hy.length_eq, Array.length_toList]; exact hn))
      · refine wp_if_neg hdr ?_
        have hled : ¬ (!t.led && decide (es.size > 1)) = true := by
          intro z
          simp only [Bool.and_eq_true, Bool.not_eq_true', decide_eq_true_eq] at z
          simp only [Bool.or_eq_true, Bool.and_eq_true, decide_eq_true_eq] at c
          rcases c with (c | c) | c
          · exact hbt c
          · rw [c.1] at z
            cases z.1
          · omega
        refine wpAny_bind (wpAny_of_eq (a := ()) ?_ ?_)
        · show (if (!t.led && decide (es.size > 1)) = true then unsupported "set:maker-not-led" else pure ()) = pure ()
          rw [if_neg hled]
        · exact wpAny_pure (h _ s.drawn (walked_of hel hmem hlt (List.Perm.refl _)) hn)
  · rw [if_neg c]
    refine wpAny_bind (quiet_texts2 h1 h3 ?_)
    refine wp_if_neg (by simp) ?_
    refine wpAny_bind (wpAny_rule ?_)
    exact wpAny_pure (h es s.drawn (walked_of hel hmem hlt (List.Perm.refl _)) hn)
theorem erase_list {α : Type} (xs : Array α) (j : Nat) : (SetTable.eraseAt xs j).toList = xs.toList.take j ++ xs.toList.drop (j + 1) := by
  unfold SetTable.eraseAt
  rw [Array.toList_append, Array.toList_extract, Array.toList_extract]
  simp [List.extract_eq_drop_take, List.take_of_length_le]
theorem erase_size {α : Type} (xs : Array α) {j : Nat} (h : j < xs.size) : (SetTable.eraseAt xs j).size + 1 = xs.size := by
  rw [← Array.length_toList, erase_list, List.length_append, List.length_take, List.length_drop, Array.length_toList]
  omega
theorem insert_size {α : Type} (xs : Array α) (j : Nat) (x : α) (h : j ≤ xs.size) : (SetTable.insertAt xs j x).size = xs.size + 1 := by
  unfold SetTable.insertAt
  simp
  omega
theorem below_le (xs : Array Nat) (j : Nat) : SetTable.below xs j ≤ xs.size := by
  have go : ∀ f lo hi, lo ≤ hi → hi ≤ xs.size → SetTable.below.go xs j f lo hi ≤ xs.size := by
    intro f
    induction f with
    | zero =>
      intro lo hi h1 h2
      unfold SetTable.below.go
      omega
    | succ f ih =>
      intro lo hi h1 h2
      unfold SetTable.below.go
      split
      · dsimp only
        split
        · exact ih _ _ (by omega) h2
        · exact ih _ _ (by omega) (by omega)
      · omega
  exact go _ _ _ (Nat.zero_le _) (Nat.le_refl _)
/-- one more is taken out, perhaps -/
theorem discard_at {M c : Nat} {z : Str} {t : Tok} (h1 : TM P w s.heap r R k M c) {Q : Bool → Shared → Prop}
    (h : ∀ (b : Bool) (h' : Heap) (R' : Str → Bool) (k' : Nat), Heap.SameBut r s.heap h' → TM P w h' r R' k' M (c + 1) → k ≤ k' + 1 → Q b { s with heap := h' }) :
    wpAny (model P w) A (setDiscardHashed r (.str z t) ((strKind P w).hash z)) Q E s := by
  obtain ⟨o, es, ep, tb, ho, hex, hd, hel, hmem, hlt, hf, hn, hM, hc⟩ := id h1
  unfold setDiscardHashed setFind setFindIn
  refine wpAny_bind (wpAny_bind (wpAny_setState_of ho hd hf ?_))
  dsimp only
  rw [byScan_of (knd := strKind P w) rfl hlt hel]
  simp only [↓reduceIte]
  refine wpAny_bind (wpAny_rule ?_)
  refine wpAny_bind (wpAny_setScan_of (knd := strKind P w) (k := z) (strKind_is _ _ _ _) ho hd hf hel ?_)
  cases hr : List.findIdx? (fun e => (strKind P w).is z e.2) es.toList with
  | none =>
    dsimp only
    refine wpAny_pure (wpAny_pure ?_)
    exact h false s.heap R k (Heap.SameBut.refl r s.heap) ⟨o, es, ep, tb, ho, hex, hd, hel, hmem, hlt, hf, hn, hM, Nat.le_succ_of_le hc⟩ (Nat.le_succ _)
  | some j =>
    dsimp only
    obtain ⟨hj, _, _⟩ := List.findIdx?_eq_some_iff_getElem.mp hr
    rw [Array.length_toList] at hj
    rw [Nat.zero_add]
    refine wpAny_pure ?_
    dsimp only
    refine wpAny_bind (wpAny_setState_of ho hd hf ?_)
    dsimp only
    have hsz := erase_size es hj
    obtain ⟨p1, p2⟩ : tb.place.size = es.size ∧ tb.fill ≤ tb.mask := by
      simp only [SetTable.fits, Bool.and_eq_true, beq_iff_eq, decide_eq_true_eq] at hf
      exact hf
    have hjp : j < tb.place.size := by omega
    have hdrop : tb.drop j = { tb with place := SetTable.eraseAt tb.place j, dummies := SetTable.insertAt tb.dummies (SetTable.below tb.dummies tb.place[j]) tb.place[j] } := by
      unfold SetTable.drop
      rw [Array.getElem?_eq_getElem hjp]
    have hdz : (tb.drop j).dummies.size = tb.dummies.size + 1 := by
      rw [hdrop]
      exact insert_size _ _ _ (below_le _ _)
    have hpz : (tb.drop j).place.size + 1 = tb.place.size := by
      rw [hdrop]
      exact erase_size _ hjp
    have hmz : (tb.drop j).mask = tb.mask := by rw [hdrop]
    have hfit : (tb.drop j).fits (SetTable.eraseAt es j).size = true := by
      unfold SetTable.fits SetTable.fill
      unfold SetTable.fill at p2
      simp only [Bool.and_eq_true, beq_iff_eq, decide_eq_true_eq]
      rw [hmz]
      omega
    have hlt' : (SetTable.eraseAt es j).size < scanBound := by omega
    have hel' : ElemsOf (strKind P w) (SetTable.eraseAt es j).toList := fun e he => by
      rw [erase_list] at he
      refine hel e ?_
      rcases List.mem_append.mp he with q | q
      · exact List.mem_of_mem_take q
      · exact List.mem_of_mem_drop q
    refine wpAny_bind (wpAny_storeSet_of ho hd ?_ (fits_of_scanBound hlt'))
    refine wpAny_bind (wpAny_point (wpAny_pure ?_))
    have hmem' : ∀ y, (SetTable.eraseAt es j).toList.any (fun e => (strKind P w).is y e.2) = true ↔ ∃ e ∈ (SetTable.eraseAt es j).toList, (strKind P w).is y e.2 = true := fun y => by rw [List.any_eq_true]
    obtain ⟨hg, _⟩ := SetOf_store (knd := strKind P w) (S' := fun y => (SetTable.eraseAt es j).toList.any fun e => (strKind P w).is y e.2) (t' := tb.drop j) ho hex hd hel' hmem' hlt' hfit
    exact h true _ _ (SetTable.eraseAt es j).size (Heap.SameBut.update s.heap r _) ⟨_, _, _, _, hg, hex, rfl, hel', hmem', hlt', hfit, rfl, hmz.trans hM, by omega⟩ (by omega)
/-- all of another set are taken out of the set at r -/
theorem update_at {M : Nat} {id' : String} (h1 : TM P w s.heap r R k M 0) (h2 : TSet P w s.heap o T m) (nro : o ≠ r) (hmk : ¬ m / 8 > k) (hM : m ≤ M / 4) {Q : Unit → Shared → Prop}
    (h : ∀ (h' : Heap) (R' : Str → Bool) (k' : Nat) (d : Drawn) (t : Nat), Heap.SameBut r s.heap h' → TSet P w h' r R' k' → k ≤ k' + m → Q () { s with heap := h', drawn := d, toks := t }) :
    wpAny (model P w) A (Builtin.Frozenset.differenceUpdate id' r (.ref o)) Q E s := by
  unfold Builtin.Frozenset.differenceUpdate
  refine wp_if_neg (by simpa using nro) ?_
  refine wpAny_bind (any_set h2 ?_)
  dsimp only
  refine wp_if_pos rfl ?_
  refine wpAny_bind (m := Builtin.Frozenset.addrOf (.ref o)) (wpAny_pure ?_)
  refine wpAny_bind (size_of h2 ?_)
  refine wpAny_bind (size_of h1.t ?_)
  refine wp_if_neg hmk ?_
  refine wpAny_bind (epoch_of h2 fun ep unch => ?_)
  refine wpAny_bind (wpAny_holding ?_)
  refine wpAny_bind (walk_seen h2 h1.t fun arr d wk hsz => ?_)
  refine wpAny_bind (wpAny_forIn_array' _ (fun rest b s' => (∀ e ∈ rest, ∃ z t, e.2 = Value.str z t ∧ e.1 = (strKind P w).hash z ∧ T z = true) ∧ ∃ (hh : Heap) (tk : Nat) (R' : Str → Bool) (k' c : Nat), s' = { s with heap := hh, drawn := d, toks := tk } ∧
      Heap.SameBut r s.heap hh ∧ TM P w hh r R' k' M c ∧ c + rest.length ≤ m ∧ k ≤ k' + c) _ ?_ ?_ _ _ ?_)
  · rintro ⟨hv, x⟩ rest b s' ⟨he, hh, tk, R', k', c, rfl, sb, gR, hc, hk⟩
    obtain ⟨z, t, e2, e1, hz⟩ := he _ List.mem_cons_self
    dsimp only at e2 e1
    subst e2 e1
    rw [List.length_cons] at hc
    refine wpAny_bind (wpAny_holding ?_)
    refine discard_at (s := { s with heap := hh, drawn := d, toks := tk }) gR fun b2 h' R2 k2 sb2 g2 hk2 => ?_
    have sb3 := sb.trans sb2
    have u1 := @unch { s with heap := h', drawn := d, toks := tk } (fun u e => (sb3.2 o nro).trans e)
    exact wpAny_bind (u1 _ (wpAny_pure ⟨fun e h => he e (List.mem_cons_of_mem _ h), h', tk, R2, k2, c + 1, rfl, sb3, g2, by omega, by omega⟩))
  · rintro b s' ⟨_, hh, tk, R', k', c, rfl, sb, gR, hc, hk⟩
    refine wpAny_pure ?_
    obtain ⟨o', es, ep', tb, ho, hex, hd, hel, hmem, hlt, hf, hn, hMm, hcc⟩ := id gR
    unfold setTidy
    refine wpAny_bind (wpAny_setState_of (s := { s with heap := hh, drawn := d, toks := tk }) ho hd hf ?_)
    dsimp only
    rw [List.length_nil] at hc
    refine wp_if_neg ?_ (wpAny_pure (h hh R' k' d tk sb gR.t (by omega)))
    unfold SetTable.tooManyDummies
    rw [hMm]
    simp
    omega
  · refine ⟨wk.1, s.heap, s.toks, R, k, 0, rfl, Heap.SameBut.refl r s.heap, h1, ?_, Nat.le_add_right _ _⟩
    rw [Array.length_toList, hsz]
    omega
/-- where the first set is much larger -/
theorem diff_far {id' : String} (h1 : TSet P w s.heap a S n) (h2 : TSet P w s.heap o T m) (hnm : n / 4 > m) (h12 : n ≤ 12) {Q : Value → Shared → Prop}
    (h : ∀ (p : Addr) (R : Str → Bool) (j : Nat) (h' : Heap) (d : Drawn) (t : Nat), s.heap.get? p = none → (∀ b u, s.heap.get? b = some u → h'.get? b = some u) → TSet P w h' p R j → n ≤ j + m → Q (.ref p) { s with heap := h', drawn := d, toks := t }) :
    wpAny (model P w) A (Builtin.Frozenset.difference id' a (.ref o)) Q E s := by
  unfold Builtin.Frozenset.difference
  dsimp only
  refine wpAny_bind (any_set h2 ?_)
  refine wp_if_neg (by simp) ?_
  refine wpAny_bind (m := Builtin.Frozenset.addrOf (.ref o)) (wpAny_pure ?_)
  refine wp_if_neg (by simp) ?_
  refine wp_if_pos rfl ?_
  refine wpAny_bind (size_of h2 ?_)
  refine wpAny_bind (size_of h1 ?_)
  refine wp_if_pos hnm ?_
  refine wpAny_bind (wpAny_rule ?_)
  unfold Builtin.Frozenset.copyOf
  refine wpAny_bind (wpAny_bind (base_of h1 ?_))
  refine wpAny_bind (new_set fun led => ?_)
  have hlt1 := h1.lt
  have hlt2 := h2.lt
  have hnew : s.heap.get? s.heap.objs.size = none := Heap.get?_none_of_le (Nat.le_refl _)
  have hget : (s.heap.push { cls := .type "set", dict := none, data := .set #[] 0 (.fresh 0 0 led) }).get? s.heap.objs.size = some { cls := .type "set", dict := none, data := .set #[] 0 (.fresh 0 0 led) } := Heap.get?_push_size _ rfl
  generalize hr : s.heap.objs.size = r at *
  refine wpAny_bind (m := Builtin.Frozenset.addrOf (.ref r)) (wpAny_pure ?_)
  have kp : ∀ b u, s.heap.get? b = some u → (s.heap.push { cls := .type "set", dict := none, data := .set #[] 0 (.fresh 0 0 led) }).get? b = some u := fun b u e => Heap.get?_push_of_some _ e
  generalize s.heap.push { cls := .type "set", dict := none, data := .set #[] 0 (.fresh 0 0 led) } = hp at *
  have g1 : TSet P w hp a S n := h1.keep fun u e => kp _ _ e
  have g2 : TSet P w hp o T m := h2.keep fun u e => kp _ _ e
  have nra : r ≠ a := (Nat.ne_of_lt hlt1).symm
  have nro : o ≠ r := Nat.ne_of_lt hlt2
  refine wpAny_bind (merge_at (s := { s with heap := hp }) g1 (by omega) h12 hget nra fun h' M hM hM8 sb gM => ?_)
  refine wpAny_pure ?_
  refine wpAny_bind (m := Builtin.Frozenset.addrOf (.ref r)) (wpAny_pure ?_)
  have g2' : TSet P w h' o T m := g2.keep fun u e => (sb.2 o nro).trans e
  have hmM : m ≤ M / 4 := by
    rcases hM with z | z | z
    · by_cases q : 8 ≤ n
      · rw [hM8 q]
        omega
      · omega
    · omega
    · omega
  refine wpAny_bind (wpAny_holding (update_at (s := { s with heap := h' }) gM g2' nro (by omega) hmM fun h2 R' k' d t sb2 gR hk => ?_))
  refine wpAny_pure (h r R' k' h2 d t hnew (fun b u e => ?_) gR hk)
  have nb : b ≠ r := fun z => by
    rw [z, hnew] at e
    cases e
  exact (sb2.2 b nb).trans ((sb.2 b nb).trans (kp b u e))
end
end Qk

set_option maxRecDepth 100000
set_option maxHeartbeats 4000000
namespace Qk
open PySem PySem.Spec PyProof.Rows L2
/-! ### sets of texts over the layer -/
def SetX (P : Program) (w : World) (a : Addr) (S : Str → Bool) (n : Nat) : HO := .ext fun h => TSet P w h a S n
theorem setX_new {P : Program} {w : World} {H : Hp} {h : Heap} {a : Addr} {S : Str → Bool} {n : Nat} (R : TSet P w h a S n) : ObjOk P w H h a (SetX P w a S n) := by
  have ⟨o, _, _, _, ho, _⟩ := R
  exact ⟨R, ⟨o, ho⟩, fun h1 h2 p k => TSet.keep p fun u e => k u e⟩
theorem entry_set_sub : entryFor table "set.__sub__" = some Builtin.«frozenset.__sub__» :=
  entryFor_alias (id' := "frozenset.__sub__") (by kernel_rfl) rfl (by decide +kernel) (by kernel_rfl)
section
variable {P : Program} {w : World} {A : Around} {E : Value → Shared → Prop} {s : Shared} {a o : Addr} {S T : Str → Bool} {n m : Nat}
theorem sub_call (h1 : TSet P w s.heap a S n) (h2 : TSet P w s.heap o T m) {Q : Value → Shared → Prop} (h : ∀ {A : Around} {E : Value → Shared → Prop} (id' : String), wpAny (model P w) A (Builtin.Frozenset.difference id' a (.ref o)) Q E s) :
    wpAny (model P w) A (call (.builtin "set.__sub__") [.ref a, .ref o]) Q E s := by
  refine wpAny_call_entry PySem.F.slot_set_sub h1.typeIs entry_set_sub ?_ (PySem.F.args_set_sub_2 _ _)
  unfold Builtin.«frozenset.__sub__»
  show wpAny (model P w) A.in1 (do
    let (self, other) ← Builtin.Frozenset.slot1 "__sub__" ⟨[.ref a, .ref o], []⟩
    let (l, r) := if false then (other, self) else (self, other)
    if !(← (Builtin.Frozenset.isAnySet l <&&> Builtin.Frozenset.isAnySet r)) then
      rule s!"frozenset.{"__sub__"}.declined"
      return ← ret .notImplemented
    ret (← Builtin.Frozenset.difference s!"frozenset.{"__sub__"}" (← Builtin.Frozenset.addrOf l) r)) _ _ _
  refine wpAny_bind (wpAny_of_eq (a := ((Value.ref a : Value), (Value.ref o : Value))) (by first | rfl | (simp only [Builtin.Frozenset.slot1, slotArgs]; rfl)) ?_)
  dsimp only
  refine wpAny_bind ?_
  unfold andM
  refine wpAny_bind (any_set h1 ?_)
  refine any_set h2 ?_
  refine wp_if_neg (by simp) ?_
  refine wpAny_bind (m := Builtin.Frozenset.addrOf (.ref a)) (wpAny_pure ?_)
  refine wpAny_bind (wpAny_mono (h _) (fun v s' hv => ?_) fun _ _ z => z)
  exact wpAny_pure ⟨_, rfl, hv⟩
end
/-- one - other, sets of texts -/
def rSub (P : Program) (w : World) : R2 := fun x y H Q => ∃ (a b : Addr) (S T : Str → Bool) (n m : Nat), x = .ref a ∧ y = .ref b ∧ H a = some (SetX P w a S n) ∧ H b = some (SetX P w b T m) ∧ n ≤ 12 ∧ ((∀ z, S z = true → T z = true) → n ≤ m) ∧
  ∀ (p : Addr) (U : Str → Bool) (j : Nat), H p = none → (j = 0 ↔ ∀ z, S z = true → T z = true) → Q (.ref p) (upd H p (SetX P w p U j))
section
variable {X : Cx}
theorem op_subX : OpR X (binaryOp .Sub) (rSub X.prog X.w) := by
  intro pins s σ H x y v u Q I rx ry h
  obtain ⟨a, b, S, T, n, m, rfl, rfl, ha, hb, h12, hc, q⟩ := h
  cases rx
  cases ry
  have h1 : TSet X.prog X.w s.heap a S n := (I.hok a _ ha).1
  have h2 : TSet X.prog X.w s.heap b T m := (I.hok b _ hb).1
  refine wpAny_binaryOp_same (T := "set") h1.typeIs h2.typeIs PySem.F.fills_set_sub PySem.F.slot_set_sub (sub_call h1 h2 fun id' => ?_)
  have fin : ∀ (p : Addr) (U : Str → Bool) (j : Nat) (h' : Heap) (d : Drawn) (t : Nat), s.heap.get? p = none → (∀ b u, s.heap.get? b = some u → h'.get? b = some u) → TSet X.prog X.w h' p U j → (j = 0 ↔ ∀ z, S z = true → T z = true) →
      Value.ref p ≠ .notImplemented ∧ EP X pins σ Q (.ref p) { s with heap := h', drawn := d, toks := t } := fun p U j h' d t hp k g e => by
    have hn : H p = none := I.hok.gone hp
    have J : Inv X pins σ (upd H p (SetX X.prog X.w p U j)) { s with heap := h', toks := t } := I.laidN k hp hn (setX_new g)
    exact ⟨(by intro z; cases z), .ref p, _, ⟨J.ok, J.os, J.bare, J.base, J.loc, J.cell, J.free, J.freeC, J.pin, J.hok, J.len⟩, rfl, q p U j hn e⟩
  by_cases c : n / 4 > m
  · refine diff_far h1 h2 c h12 fun p U j h' d t hp k g hj => fin p U j h' d t hp k g ⟨fun z => ?_, fun z => ?_⟩
    · omega
    · have := hc z
      omega
  · refine diff_near h1 h2 c fun p j h' d t hp k g => fin p _ j h' d t hp k g ?_
    obtain ⟨o, es, ep, tb, g1, g2, g3, g4, g5, g6, g7, g8⟩ := g
    constructor
    · intro z y hy
      cases hT : T y with
      | true => rfl
      | false =>
        obtain ⟨e, he, _⟩ := (g5 y).mp (by show (S y && !T y) = true; rw [hy, hT]; rfl)
        have := List.length_pos_of_mem he
        rw [Array.length_toList] at this
        omega
    · intro z
      rcases Nat.eq_zero_or_pos j with r | r
      · exact r
      · exfalso
        have hl : 0 < es.toList.length := by rw [Array.length_toList]; omega
        obtain ⟨⟨y, hy, _⟩, _⟩ := g4 _ (List.getElem_mem hl)
        have : (S y && !T y) = true := (g5 y).mpr ⟨_, List.getElem_mem hl, hy⟩
        rw [Bool.and_eq_true] at this
        rw [z y this.1] at this
        cases this.2
end
end Qk

set_option maxRecDepth 100000
set_option maxHeartbeats 4000000
namespace Qk
open PySem PySem.Spec PyProof.Rows L2
/-! ### set(xs) of a tuple of texts, len of it -/
section
variable {P : Program} {w : World} {A : Around} {R : Result → Shared → Prop} {I : Addr} {fp wr : List Addr} {G : Array GenState → Array GenState → Prop} {n : Nat} {Pv : Nat → Value → Prop} {St : Nat → Shared → Prop}
/-- what stands after i turns -/
def Fill (P : Program) (w : World) (xs : List Str) (S : Addr) (i : Nat) (h : Heap) : Prop := ∃ j, TSet P w h S (fun z => decide (z ∈ xs.take i)) j ∧ j ≤ i ∧ (xs.Nodup → j = i) ∧ (j = i → (xs.take i).Nodup)
theorem fill_loop (W : WalksS P w A.in1 I fp wr G n Pv St) (S : Addr) (hSf : S ∉ fp) (xs : List Str) (hsz : xs.length = n) (hn1 : n ≤ 1000) (hval : ∀ i v, Pv i v → ∃ t, v = .str (xs.getD i Str.empty) t) :
    ∀ (k i : Nat) (s : Shared), n - i = k → i ≤ n → St i s → Fill P w xs S i s.heap → (∀ s', Moved (S :: wr) G s s' → Fill P w xs S n s'.heap → R (.ok (.ret .none)) s') →
      codeAny (model P w) A (.builtin "set.update.loop" ⟨[.ref S, .ref I], []⟩) R s := by
  have hSw : S ∉ wr := fun h => hSf (W.sub _ h)
  have hsub : ∀ b ∈ wr, b ∈ S :: wr := fun b hb => List.mem_cons_of_mem _ hb
  have same : ∀ {s s' : Shared} {i : Nat}, Moved wr G s s' → Fill P w xs S i s.heap → Fill P w xs S i s'.heap := fun hm ⟨j, g, q⟩ => ⟨j, g.keep fun u e => hm.heap S _ hSw e, q⟩
  intro k
  induction k with
  | zero =>
    intro i s hk hi hst hS hR
    obtain rfl : i = n := by omega
    refine codeAny_builtin PyProof.Rows.F.entry_set_update_loop ?_
    rw [Around.under_plainId PyProof.Rows.F.plain_set_update_loop _]
    exact wpAny_bind (m := pyNext (.ref I)) (W.done s _ _ hst fun s' hm => wpAny_pure (hR s' (hm.mono hsub) (same hm hS)))
  | succ k ih =>
    intro i s hk hi hst hS hR
    have hlt : i < n := by omega
    refine codeAny_builtin PyProof.Rows.F.entry_set_update_loop ?_
    rw [Around.under_plainId PyProof.Rows.F.plain_set_update_loop _]
    refine wpAny_bind (m := pyNext (.ref I)) (W.item i s _ _ hlt hst fun v s' hP hst' hm => ?_)
    obtain ⟨t, rfl⟩ := hval i v hP
    obtain ⟨j, g, hj, hnd, hdn⟩ := same hm hS
    show wpAny _ A.in1 (holding [Value.str (xs.getD i Str.empty) t] (setAdd S (.str (xs.getD i Str.empty) t)) >>= _) _ _ s'
    refine wpAny_bind (wpAny_holding ?_)
    unfold setAdd
    refine wpAny_holding (wpAny_bind ((strKind P w).pyHash (k := xs.getD i Str.empty) (strKind_is _ _ _ _) ?_))
    refine wpAny_setAddHashed_of (knd := strKind P w) (s := { s' with toks := s'.toks + 1 }) (strKind_is _ _ _ _) rfl g (by unfold scanBound; omega) fun h' hsb g2 => ?_
    have hx : xs[i]? = some (xs.getD i Str.empty) := by
      rw [List.getD_eq_getElem?_getD, List.getElem?_eq_getElem (by omega)]
      rfl
    have ht : xs.take (i + 1) = xs.take i ++ [xs.getD i Str.empty] := by rw [List.take_add_one, hx]; rfl
    have g3 : Fill P w xs S (i + 1) h' := by
      refine ⟨_, SetOf_congr g2 (fun z => ?_) rfl, by split <;> omega, fun nd => ?_, fun e => ?_⟩
      · rw [ht]
        simp [Bool.decide_or]
      · have hni : xs.getD i Str.empty ∉ xs.take i := by
          have nd2 : (xs.take (i + 1)).Nodup := nd.sublist (List.take_sublist _ _)
          rw [ht] at nd2
          exact fun z => (List.nodup_append.mp nd2).2.2 _ z _ (List.mem_singleton.mpr rfl) rfl
        rw [if_neg (by simpa using hni), hnd nd]
      · split at e
        · omega
        · rename_i hni
          rw [ht, List.nodup_append]
          refine ⟨hdn (by omega), by simp, fun a ha b hb => ?_⟩
          rw [List.mem_singleton.mp hb]
          rintro rfl
          exact hni (by simpa using ha)
    refine wpAny_pure ⟨plainId_quiet PyProof.Rows.F.plain_set_update_loop _, ih (i + 1) _ (by omega) hlt (W.frame _ s' _ _ hst' (Nat.le_succ _) fun b hb o e => ?_) g3 fun s'' hm'' hS'' => ?_⟩
    · rw [hsb.2 b (fun h : b = S => hSf (by rw [← h]; exact hb))]
      exact e
    · refine hR s'' (Moved.trans W.gtrans ((hm.mono hsub).then_heap (Nat.le_succ _) fun b o hb e => ?_) hm'') hS''
      rw [hsb.2 b (fun h : b = S => hb (by rw [h]; exact List.mem_cons_self))]
      exact e
end
section
variable {P : Program} {w : World} {A : Around} {E : Value → Shared → Prop} {s : Shared}
set_option maxHeartbeats 3200000 in
theorem set_tuple {l : Addr} {items : Array Value} {xs : List Str} {Q : Value → Shared → Prop} (hh : A.handled = none) (hl : s.heap.IsTuple l items) (hi : PyProof.Rows.StrsAre items.toList xs) (hn1 : xs.length ≤ 1000)
    (h : ∀ (h' : Heap) (tk : Nat), Fill P w xs s.heap.objs.size items.size h' → (∀ b o, s.heap.get? b = some o → h'.get? b = some o) → Q (.ref s.heap.objs.size) { s with heap := h', toks := tk }) :
    wpAny (model P w) A (call (.type "set") [.ref l]) Q E s := by
  obtain ⟨c, tl, hmro⟩ := PySem.F.called_set.mro
  have hmade := PySem.F.called_set.made
  have hsub := PySem.F.called_set.sub
  refine wpAny_call (codeAny_of_tree ?_)
  show wpAny _ _ (callAny (.type "set") _) _ _ _
  refine wpAny_pure ⟨Code.quiet_builtin _ (by decide +kernel), codeAny_builtin PySem.F.entry_type_call ?_⟩
  rw [Around.under_plain (weight_type_call_type "set" [.ref l] []) rfl]
  have q1 := PySem.F.called_set.notType
  have q2 := PySem.F.called_set.canCreate
  have q3 := PySem.F.typeCall_set_1 (.ref l)
  repeat (any_goals (first | assumption | wp_step))
  obtain ⟨N, hN⟩ : ∃ N, N = s.heap.objs.size := ⟨_, rfl⟩
  refine codeAny_mono (code_set_new_1 (.ref l) (E := E) (Q₁ := fun v s₁ => ∃ led : Bool, v = .ref s.heap.objs.size ∧ s₁ = { s with heap := s.heap.push { cls := .type "set", dict := none, data := .set #[] 0 (.fresh 0 0 led) } }) fun led => ⟨led, rfl, rfl⟩) fun r s₁ hr => ?_
  cases r with
  | error e => exact hr
  | ok fl =>
    cases fl with
    | ret v =>
      obtain ⟨led, rfl, rfl⟩ := hr
      have hS : (s.heap.push { cls := .type "set", dict := none, data := .set #[] 0 (.fresh 0 0 led) }).get? s.heap.objs.size = some { cls := .type "set", dict := none, data := .set #[] 0 (.fresh 0 0 led) } := Heap.get?_push_size _ rfl
      have hT : Shared.TypeIs { s with heap := s.heap.push { cls := .type "set", dict := none, data := .set #[] 0 (.fresh 0 0 led) } } (.ref s.heap.objs.size) "set" := ⟨_, hS, rfl⟩
      have q4 := PySem.F.called_set.init.lookup
      have q5 := PySem.F.called_set.init.bind (.ref s.heap.objs.size)
      repeat (any_goals (first | assumption | wp_step))
      refine codeAny_mono (codeAny_call_builtin (R := wants (fun r s₂ => r = .none ∧ ∃ h' tk, s₂ = { s with heap := h', toks := tk } ∧ Fill P w xs s.heap.objs.size items.size h' ∧ (∀ b o, s.heap.get? b = some o → h'.get? b = some o)) E)
        PySem.F.called_set.init.plain PySem.F.entry_set_init (check_set_init_1 hT ?_)) fun r₂ s₂ hr₂ => ?_
      · have hlS : l < s.heap.objs.size := by
          obtain ⟨ol, hol, _⟩ := hl
          exact Heap.lt_size hol
        have hl1 : (s.heap.push { cls := .type "set", dict := none, data := .set #[] 0 (.fresh 0 0 led) }).IsTuple l items := hl.push _
        obtain ⟨ol, hol, hcl, nl, hdl⟩ := hl1
        obtain ⟨ocls, odict, odata, oslots⟩ := ol
        simp only at hcl hdl
        subst hcl; subst hdl
        have hol' := hol
        have q6 := PySem.F.sub_tuple_set
        have q7 := PySem.F.sub_tuple_frozenset
        have q8 : (Value.type "tuple" == Value.type "dict") = false := by decide
        have hl1 : (s.heap.push { cls := .type "set", dict := none, data := .set #[] 0 (.fresh 0 0 led) }).IsTuple l items := ⟨_, hol, rfl, nl, rfl⟩
        unfold Builtin.«set.__init__» noKeywords Builtin.Frozenset.updateFrom
        generalize hPI : pyIter = PI
        wp_walk
        subst hPI
        refine wpAny_pyIter_tuple hl1 ?_
        refine wpAny_bind (wpAny_runValue ?_)
        have hh3 : A.in1.in1.in1.handled = none := by simp [hh]
        have hps : (s.heap.push { cls := .type "set", dict := none, data := .set #[] 0 (.fresh 0 0 led) }).objs.size = s.heap.objs.size + 1 := Heap.size_push _ _
        have hneI : l ≠ (s.heap.push { cls := .type "set", dict := none, data := .set #[] 0 (.fresh 0 0 led) }).objs.size := by
          rw [hps]
          exact Nat.ne_of_lt (Nat.lt_succ_of_lt hlS)
        have hSf : s.heap.objs.size ∉ [(s.heap.push { cls := .type "set", dict := none, data := .set #[] 0 (.fresh 0 0 led) }).objs.size, l] := by
          rw [hps]
          simp only [List.mem_cons, List.not_mem_nil, or_false, not_or]
          exact ⟨Nat.ne_of_lt (Nat.lt_succ_self _), Nat.ne_of_gt hlS⟩
        have hsz : xs.length = items.size := by rw [← StrsAre.len_eq hi, Array.length_toList]
        have hval : ∀ (i : Nat) (v : Value), items[i]? = some v → ∃ t, v = .str (xs.getD i Str.empty) t := fun i v hv => SS.strs_at hi i v (by rw [Array.getElem?_toList]; exact hv)
        refine fill_loop ((Walks.tuple hh3 _ l hneI items).toS) s.heap.objs.size hSf xs hsz (by rw [← hsz]; exact hn1) hval (items.size - 0) 0 _ (by omega) (Nat.zero_le _)
          ⟨⟨_, Heap.get?_push_size _ rfl, rfl, rfl⟩, (hl1.push _)⟩ ?hS0 ?hR
        case hS0 =>
          have hget : ((s.heap.push { cls := .type "set", dict := none, data := .set #[] 0 (.fresh 0 0 led) }).push { cls := .type "tuple_iterator", data := .fields #[.ref l, .int 0 0] }).get? s.heap.objs.size
              = some { cls := .type "set", dict := none, data := .set #[] 0 (.fresh 0 0 led) } := Heap.get?_push_of_some _ hS
          exact ⟨0, SetOf_congr ((setObjOf_fresh (knd := strKind P w) led).setOf hget (by unfold scanBound; omega)) (fun z => by simp) rfl, Nat.le_refl _, fun _ => rfl, fun _ => by simp⟩
        case hR =>
          intro s' hm hF
          obtain ⟨h', g', d', tk', os'⟩ := s'
          have eg : g' = s.gens := hm.gens
          have ed : d' = s.drawn := hm.drawn
          have eo : os' = s.os := hm.os
          subst eg; subst ed; subst eo
          show wpAny _ _ _ _ _ _
          refine wpAny_pure ?_
          show wpAny _ _ (ret Value.none) _ _ _
          refine wpAny_pure ⟨rfl, h', tk', rfl, hF, fun b o e => ?_⟩
          have hb := Heap.lt_size e
          refine hm.heap b o ?_ (Heap.get?_push_of_some _ (Heap.get?_push_of_some _ e))
          rw [hps]
          simp only [List.mem_cons, List.mem_singleton, List.not_mem_nil, or_false, not_or]
          exact ⟨Nat.ne_of_lt hb, Nat.ne_of_lt (Nat.lt_succ_of_lt hb)⟩
      · cases r₂ with
        | error e => exact hr₂
        | ok fl₂ =>
          cases fl₂ with
          | ret r =>
            obtain ⟨rfl, h', tk, rfl, hF, hk'⟩ := hr₂
            repeat (any_goals (first | assumption | wp_step))
            exact h _ _ hF hk'
          | _ => exact hr₂.elim
    | _ => exact hr.elim
end
/-- set(xs), xs a tuple of texts -/
def rSetX (K : PySem.W.Frag) (P : Program) (w : World) : List V → Hp → VK → Prop := fun vs H Q => ∃ (l : Addr) (xs : List Str), vs = [.ref l] ∧ SqT K H l (xs.map V.str) ∧ xs.length ≤ 1000 ∧
  ∀ (p : Addr) (n : Nat), H p = none → n ≤ xs.length → (xs.Nodup → n = xs.length) → Q (.ref p) (upd H p (SetX P w p (fun z => decide (z ∈ xs)) n))
def rLenX (P : Program) (w : World) : List V → Hp → VK → Prop := fun vs H Q => ∃ (a : Addr) (S : Str → Bool) (n : Nat), vs = [.ref a] ∧ H a = some (SetX P w a S n) ∧ Q (.int (n : Int)) H
section
variable {X : Cx}
theorem set_any (hc : X.calm = true) {pins : List (Addr × Obj)} {σ : L2.St} {H : Hp} {s : Shared} {l : Addr} {xs : List Str} {Q : VK} (I : Inv X pins σ H s) (hq : SqT X.K H l (xs.map V.str)) (hz : xs.length ≤ 1000)
    (q : ∀ (p : Addr) (n : Nat), H p = none → n ≤ xs.length → (n = xs.length ↔ xs.Nodup) → Q (.ref p) (upd H p (SetX X.prog X.w p (fun z => decide (z ∈ xs)) n))) :
    wpAny (model X.prog X.w) X.A (call (.type "set") [.ref l]) (EP X pins σ Q) X.xe s := by
  obtain ⟨its, rv, pl, _⟩ := I.tuple hq
  have hlen : its.toArray.size = xs.length := by rw [List.size_toArray, ← rv.length, List.length_map]
  refine set_tuple (I.ok.hd hc) pl (by simpa using strsAre_of rv) hz fun h' tk ⟨j, g, hj, hnd, hdn⟩ hk => ?_
  rw [hlen] at g hj hnd hdn
  rw [List.take_of_length_le (Nat.le_refl _)] at g hdn
  have hn : H s.heap.objs.size = none := I.hok.fresh (Nat.le_refl _)
  exact ⟨.ref _, _, I.laidN hk (Heap.get?_none_of_le (Nat.le_refl _)) hn (setX_new g), rfl, q _ j hn hj ⟨hdn, hnd⟩⟩
theorem cr_setX (hc : X.calm = true) : CallR X (.type "set") (rSetX X.K X.prog X.w) := by
  intro pins s σ H vs us Q I r h
  obtain ⟨l, xs, rfl, hq, hz, q⟩ := h
  obtain ⟨u, rfl, rx⟩ := vals1 r
  cases rx
  exact set_any hc I hq hz fun p n hp hn e => q p n hp hn e.mpr
/-- set(xs), xs a tuple of texts: as many as there are just if each stands once -/
def rSetY (K : PySem.W.Frag) (P : Program) (w : World) : List V → Hp → VK → Prop := fun vs H Q => ∃ (l : Addr) (xs : List Str), vs = [.ref l] ∧ SqT K H l (xs.map V.str) ∧ xs.length ≤ 1000 ∧
  ∀ (p : Addr) (n : Nat), H p = none → n ≤ xs.length → (n = xs.length ↔ xs.Nodup) → Q (.ref p) (upd H p (SetX P w p (fun z => decide (z ∈ xs)) n))
theorem cr_setY (hc : X.calm = true) : CallR X (.type "set") (rSetY X.K X.prog X.w) := by
  intro pins s σ H vs us Q I r h
  obtain ⟨l, xs, rfl, hq, hz, q⟩ := h
  obtain ⟨u, rfl, rx⟩ := vals1 r
  cases rx
  exact set_any hc I hq hz q
theorem cr_lenX : CallR X (.builtin "len") (rLenX X.prog X.w) := by
  intro pins s σ H vs us Q I r h
  obtain ⟨a, S, n, rfl, ha, q⟩ := h
  obtain ⟨u, rfl, rx⟩ := vals1 r
  cases rx
  have g : TSet X.prog X.w s.heap a S n := (I.hok a _ ha).1
  obtain ⟨o, es, ep, t, ho, hex, hd, _, _, hlt, hf, hn⟩ := g
  refine call_len_set ho hex hd hf (by unfold scanBound at hlt; omega) ⟨.int n, H, I.tok _, ⟨_, by rw [hn]⟩, q⟩
end
end Qk

set_option maxRecDepth 100000
set_option maxHeartbeats 4000000
namespace Qk
open PySem PySem.Spec PyProof.Rows L2

/-! columns as texts: one to eight letters a to z -/
/-- a column, as a text -/
def colS (z : Str) : Bool := (decide (1 ≤ z.cps.size) && decide (z.cps.size ≤ 8)) && z.cps.toList.all fun c => decide (97 ≤ c) && decide (c ≤ 122)
/-- any value, as the functions of words see it -/
def spText (K : PySem.W.Frag) (f : Str → Bool) : Sp := fun vs H Q _ => ∃ x, vs = [x] ∧ ((∃ z, x = .str z ∧ z.cps.size ≤ 1000 ∧ PyData.strOk z = true ∧ ∀ H', Same H H' → Q (.bl (f z)) H') ∨ ∃ t : String, TyX K H x (.type t) ∧ kitB t "str" = some false ∧ Q (.bl false) H)
theorem lex1 (c d : Nat) : decide (([d] : List Nat) < [c]) = decide (d < c) := by
  refine decide_eq_decide.mpr ⟨fun h => ?_, fun h => ?_⟩
  · rcases List.cons_lt_cons_iff.mp h with q | ⟨_, q⟩
    · exact q
    · exact absurd q (List.lt_irrefl _)
  · exact List.cons_lt_cons_iff.mpr (.inl h)
theorem menu_col : ∀ c ∈ menu, colS c = true := by decide +kernel
theorem ascii_tab : ((List.range 128).all fun c => (Unicode.isAlpha c == (decide (65 ≤ c) && decide (c ≤ 90) || decide (97 ≤ c) && decide (c ≤ 122))) && (Unicode.isLower c == (decide (97 ≤ c) && decide (c ≤ 122))) &&
    ((Unicode.isUpper c || Unicode.isTitle c) == (decide (65 ≤ c) && decide (c ≤ 90)))) = true := by decide +kernel
theorem ascii_facts {c : Nat} (h : c < 128) : Unicode.isAlpha c = (decide (65 ≤ c) && decide (c ≤ 90) || decide (97 ≤ c) && decide (c ≤ 122)) ∧ Unicode.isLower c = (decide (97 ≤ c) && decide (c ≤ 122)) ∧
    (Unicode.isUpper c || Unicode.isTitle c) = (decide (65 ≤ c) && decide (c ≤ 90)) := by
  have := List.all_eq_true.mp ascii_tab c (List.mem_range.mpr h)
  simp only [Bool.and_eq_true, beq_iff_eq] at this
  exact ⟨this.1.1, this.1.2, this.2⟩
/-- s.isascii() and s.isalpha() and s.islower(): all signs are a to z, and there is one -/
theorem low_iff (z : Str) (h : 1 ≤ z.cps.size) : (Txt.isascii z && (Txt.isalpha z && Txt.islower z)) = z.cps.toList.all fun c => decide (97 ≤ c) && decide (c ≤ 122) := by
  have e1 : Txt.isascii z = z.cps.toList.all fun c => decide (c < 128) := by
    show z.cps.all (· < 128) = _
    rw [← Array.all_toList]
  have e2 : Txt.isalpha z = z.cps.toList.all Unicode.isAlpha := by
    show (decide (z.length > 0) && z.cps.all Unicode.isAlpha) = _
    rw [decide_eq_true (show z.length > 0 from h), Bool.true_and, ← Array.all_toList]
  have e3 : Txt.islower z = (z.cps.toList.any Unicode.isLower && !z.cps.toList.any fun c => Unicode.isUpper c || Unicode.isTitle c) := by
    show (z.cps.any Unicode.isLower && !z.cps.any fun c => Unicode.isUpper c || Unicode.isTitle c) = _
    rw [← Array.any_toList, ← Array.any_toList]
  rw [e1, e2, e3]
  have hl : z.cps.toList ≠ [] := by
    intro q
    have : z.cps.toList.length = 0 := by rw [q]; rfl
    rw [Array.length_toList] at this
    omega
  generalize z.cps.toList = l at hl
  rw [Bool.eq_iff_iff]
  simp only [Bool.and_eq_true, List.all_eq_true, List.any_eq_true, Bool.not_eq_true', List.any_eq_false, decide_eq_true_eq]
  constructor
  · rintro ⟨ha, hb, ⟨d, hd, hdl⟩, hc⟩ c hcm
    obtain ⟨f1, f2, f3⟩ := ascii_facts (ha c hcm)
    have h1 := hb c hcm
    have h2 := hc c hcm
    rw [f3] at h2
    rw [f1] at h1
    simp only [Bool.or_eq_true, Bool.and_eq_true, decide_eq_true_eq] at h1 h2
    rcases h1 with h1 | h1
    · exact absurd h1 h2
    · exact h1
  · intro ha
    have lt : ∀ c ∈ l, c < 128 := fun c hc => by
      have := ha c hc
      omega
    refine ⟨lt, fun c hc => ?_, ?_, fun c hc => ?_⟩
    · rw [(ascii_facts (lt c hc)).1]
      have := ha c hc
      simp only [Bool.or_eq_true, Bool.and_eq_true, decide_eq_true_eq]
      exact .inr this
    · obtain ⟨c, hc⟩ := List.exists_mem_of_ne_nil l hl
      refine ⟨c, hc, ?_⟩
      rw [(ascii_facts (lt c hc)).2.1]
      have := ha c hc
      simp only [Bool.and_eq_true, decide_eq_true_eq]
      exact this
    · rw [(ascii_facts (lt c hc)).2.2]
      have := ha c hc
      simp only [Bool.and_eq_true, decide_eq_true_eq]
      omega
end Qk

set_option maxRecDepth 100000
set_option maxHeartbeats 4000000
namespace Qk
open PySem PySem.Spec PyProof.Rows L2

/-! questions as the laws have them: their columns, what is below what -/
/-- all columns of a question, ascending -/
def allC (cols : List Str) (e : Str) : List Str := if e = "" then cols else srt (cols ++ [e])
theorem srt_self {xs : List Str} (h : sortedS xs = true) : srt xs = xs := (srt_eq (List.Perm.refl _) h).symm
theorem mem_all {cols : List Str} {e z : Str} (h : z ∈ allC cols e) : z ∈ cols ∨ (z = e ∧ e ≠ "") := by
  unfold allC at h
  split at h
  · exact .inl h
  · rename_i ne
    have := (srt_perm _).mem_iff.mp h
    rcases List.mem_append.mp this with q | q
    · exact .inl q
    · exact .inr ⟨List.mem_singleton.mp q, ne⟩
theorem all_len {cols : List Str} {e : Str} : (allC cols e).length ≤ cols.length + 1 := by
  unfold allC
  split
  · omega
  · rw [srt_len, List.length_append]
    simp
/-- a question as k13 has it -/
structure QZ (cols : List Str) (e : Str) : Prop where
  m : QM cols e
  ne : e ∉ cols
  le : cols.length + (if e = "" then 0 else 1) ≤ 12
theorem QZ.all_nd {cols : List Str} {e : Str} (h : QZ cols e) : (allC cols e).Nodup := by
  unfold allC
  split
  · exact h.m.nd
  · refine (srt_perm _).nodup_iff.mpr ?_
    rw [List.nodup_append]
    exact ⟨h.m.nd, by simp, fun a ha b hb => by rw [List.mem_singleton.mp hb]; exact fun q => h.ne (q ▸ ha)⟩
theorem QZ.all_le {cols : List Str} {e : Str} (h : QZ cols e) : (allC cols e).length ≤ 12 := by
  have := h.le
  unfold allC
  split
  · rename_i q
    rw [if_pos q] at this
    omega
  · rename_i q
    rw [if_neg q] at this
    rw [srt_len, List.length_append]
    simpa using this
theorem QZ.menu {cols : List Str} {e : Str} (h : QZ cols e) : ∀ z ∈ allC cols e, z ∈ menu := fun z hz => by
  rcases mem_all hz with q | ⟨rfl, ne⟩
  · exact h.m.sub _ q
  · exact h.m.esub.resolve_left ne
theorem nodup_len : ∀ (l D : List Str), l.Nodup → (∀ x ∈ l, x ∈ D) → l.length ≤ D.length
  | [], _, _, _ => Nat.zero_le _
  | x :: l, D, hn, hs => by
    obtain ⟨h1, h2⟩ := List.nodup_cons.mp hn
    have hx : x ∈ D := hs x List.mem_cons_self
    have ih := nodup_len l (D.erase x) h2 fun y hy => (List.mem_erase_of_ne (by rintro rfl; exact h1 hy)).2 (hs y (List.mem_cons_of_mem _ hy))
    have e := List.length_erase_of_mem hx
    have hp : 0 < D.length := List.length_pos_of_mem hx
    rw [List.length_cons]
    omega
theorem Qok.qz {xs cols : List Str} {e : Str} (h : Qok xs cols e) (R : Row xs) : QZ cols e := by
  refine ⟨h.qm R.sub, h.ne, ?_⟩
  have hsub : ∀ z ∈ (if e = "" then cols else cols ++ [e]), z ∈ xs := fun z hz => by
    split at hz
    · exact h.sub _ hz
    · rename_i ne
      rcases List.mem_append.mp hz with q | q
      · exact h.sub _ q
      · rw [List.mem_singleton.mp q]
        exact h.esub.resolve_left ne
  have hnd : (if e = "" then cols else cols ++ [e]).Nodup := by
    split
    · exact h.nd
    · rw [List.nodup_append]
      exact ⟨h.nd, by simp, fun a ha b hb => by rw [List.mem_singleton.mp hb]; exact fun q => h.ne (q ▸ ha)⟩
  have hle := nodup_len _ _ hnd hsub
  have := R.le
  split
  · rename_i q
    rw [if_pos q] at hle
    omega
  · rename_i q
    rw [if_neg q, List.length_append] at hle
    simp at hle
    omega
/-- the columns of a question as they stand -/
def rowC (cols : List Str) (e : Str) : List Str := if e = "" then cols else cols ++ [e]
theorem mem_row {cols : List Str} {e z : Str} : z ∈ rowC cols e ↔ z ∈ allC cols e := by
  unfold rowC allC
  split
  · exact Iff.rfl
  · exact (srt_perm _).mem_iff.symm
theorem row_len {cols : List Str} {e : Str} : (rowC cols e).length = (allC cols e).length := by
  unfold rowC allC
  split
  · rfl
  · rw [srt_len]
theorem QZ.row_le {cols : List Str} {e : Str} (h : QZ cols e) : (rowC cols e).length ≤ 12 := by
  rw [row_len]
  exact h.all_le
theorem QZ.row_nd {cols : List Str} {e : Str} (h : QZ cols e) : (rowC cols e).Nodup := by
  have := h.all_nd
  unfold rowC
  unfold allC at this
  split
  · rename_i q
    rw [if_pos q] at this
    exact this
  · rename_i q
    rw [if_neg q] at this
    exact (srt_perm _).nodup_iff.mp this
def spRow : Sp := fun vs H Q _ => ∃ (q : Addr) (cols : List Str) (e : Str), vs = [.ref q] ∧ QAt H q cols e ∧ QZ cols e ∧ ∀ (t : Addr) (H' : Hp), Same H H' → H' t = some (.tup ((rowC cols e).map V.str)) → Q (.ref t) H'
def spCols : Sp := fun vs H Q _ => ∃ (q : Addr) (cols : List Str) (e : Str), vs = [.ref q] ∧ QAt H q cols e ∧ QZ cols e ∧ ∀ (t : Addr) (H' : Hp), Same H H' → H' t = some (.tup ((allC cols e).map V.str)) → Q (.ref t) H'
def spAll : Sp := fun vs H Q _ => ∃ (q : Addr) (cols : List Str) (e : Str), vs = [.ref q] ∧ QAt H q cols e ∧ QZ cols e ∧ ∀ (t : Addr) (H' : Hp), Same H H' → H' t = some (.lst ((allC cols e).map V.str)) → Q (.ref t) H'
def spWidth : Sp := fun vs H Q _ => ∃ (q : Addr) (cols : List Str) (e : Str), vs = [.ref q] ∧ QAt H q cols e ∧ QZ cols e ∧ ∀ (H' : Hp), Same H H' → Q (.int ((allC cols e).length : Int)) H'
def spPlain : Sp := fun vs H Q _ => ∃ (q : Addr) (cols : List Str) (e : Str), vs = [.ref q] ∧ QAt H q cols e ∧ Q (.bl (decide (e = ""))) H
theorem str_dec (a b : Str) : decide (V.str a = V.str b) = decide (a = b) := decide_eq_decide.mpr ⟨fun h => by injection h, fun h => congrArg V.str h⟩
/-- what k13 asks of two questions -/
def belowQ (p q : Qd) : Bool := !decide (p = q) && decide (∀ z ∈ allC p.1 p.2, z ∈ q.1)
def shareQ (p q : Qd) : Bool := decide (p = q) || (belowQ p q || belowQ q p)
def spTwo (f : Qd → Qd → Bool) : Sp := fun vs H Q _ => ∃ (q r : Addr) (c1 : List Str) (e1 : Str) (c2 : List Str) (e2 : Str), vs = [.ref q, .ref r] ∧ QAt H q c1 e1 ∧ QAt H r c2 e2 ∧ QZ c1 e1 ∧ QZ c2 e2 ∧ ∀ H', Same H H' → Q (.bl (f (c1, e1) (c2, e2))) H'
theorem QZ.fine {cols : List Str} {e : Str} (h : QZ cols e) : Qfine (cols, e) := ⟨fun c hc => menu_okS _ (h.m.sub _ hc), h.m.esub.elim (fun q => by show okS e = true; rw [q]; exact okS_empty) (fun m => menu_okS _ m), h.m.le⟩
def QZs (qs : List Qd) : Prop := ∀ q ∈ qs, QZ q.1 q.2
theorem QZ.strOk {cols : List Str} {e : Str} (h : QZ cols e) : ∀ c ∈ cols, PyData.strOk c = true := fun c hc => menu_ok _ (h.m.sub _ hc)
end Qk

set_option maxRecDepth 100000
set_option maxHeartbeats 4000000
/-! try with several clauses whose first one, as n, takes whatever the body raises: the others are never asked -/
namespace Qk
open PySem PySem.Spec PyProof.Rows L2
def wAsF (K : PySem.W.Frag) (c : Value) (i : Nat) (ts : Addr → Value → Option Addr → TS) (D : Ends) : WX := fun cls d σ H => PySem.W.exmOne K cls c = some true ∧
  ∀ a, H a = none → ts a cls d { nx := fun σ' H' => D.nx (σ'.set i none) H', rt := D.rt, bk := fun σ' H' => D.bk (σ'.set i none) H', ct := fun σ' H' => D.ct (σ'.set i none) H' } (σ.set i (some (.ref a))) H
section
variable {X : Cx} {x n : Str} {c : Value} {i : Nat} {body suite : List Stmt} {b₀ : Stmt} {np pos pos' : Pos} {hds : List ExceptHandler} {tb : WX → TS} {ts : Addr → Value → Option Addr → TS}
theorem ps_try_asF (hs : X.stack = X.env :: X.outer) (hf : X.env.frame = some X.env.locals) (hN : X.N.Nodup) (hi : X.N[i]? = some n) (hln : X.env.kindOf n = some .local) (hc : L2.Names X x c)
    (hb : ∀ (W : WX) (pn : List (Addr × Obj)) (xe : Value → Shared → Prop), Takes (X.tr pn xe) W → PassesOwn (model X.prog X.w) X.A X.env xe → PSs (X.tr pn xe) body (tb W))
    (hsu : ∀ (a : Addr) (oe : Obj) (cls : Value) (d : Option Addr) (pn : List (Addr × Obj)), Zc cls d oe → (∃ vs, oe.data = .fields vs) → PSs (X.suite a ((a, oe) :: pn)) (b₀ :: suite) (ts a cls d)) :
    PS X (.Try body (.ExceptHandler (some (.Name x np)) (some n) (b₀ :: suite) pos' :: hds) [] [] pos) (fun D σ H => tb (wAsF X.K c i ts D) D σ H) := by
  refine ⟨fun pins s σ H D I h => ?_⟩
  have ok := I.ok
  have hfr : X.A.frames = some (X.env :: X.outer) := by rw [ok.frames, hs]
  have hloc : Loc X.env.scope n := .inl hln
  refine wpAny_Try_except ?_
  refine wpAny_mono ((hb (wAsF X.K c i ts D) (X.pn ++ pins) (fun e s₁ => wpAny (model X.prog X.w) X.A (noteFrame e X.env) (fun _ s₂ => wpAny (model X.prog X.w) X.A (setFlight e none) (fun _ s₃ =>
    wpAny (model X.prog X.w) X.A (handleBy e X.env (.ExceptHandler (some (.Name x np)) (some n) (b₀ :: suite) pos' :: hds)) (SP X pins D) X.xe s₃) X.xe s₂) X.xe s₁) (fun u s' xx => ?_) PassesOwn.looking).run [] s σ H D (I.toTry _) h) (fun f s1 hsp => ?_) (fun e s1 he => he)
  · obtain ⟨a, B, sI, pins', σ', H', cls, d, rfl, J', nb, up, sky, na, os, ag, hb1, hyes⟩ := xx
    have J : Inv X pins σ' H' sI := J'.ofTry ok
    have sky' : Sky B (X.env :: X.outer) a (Zc cls d) X.env.locals s'.heap := by rw [← hs]; exact sky
    show wpAny (model X.prog X.w) X.A (noteFrame (.ref a) X.env) _ _ _
    refine Sky.land Zc.steady hfr hf sky' fun h3 fl3 up3 => ?_
    have J3 : Inv X pins σ' H' { s' with heap := h3 } := J.landed nb fl3.1 (up.trans up3) os ag
    obtain ⟨oe3, vs3, he3, hz3, hd3⟩ := fl3.there
    have notFr : ∀ {h : Heap} {o : Obj} {vs : Array Value}, h.FunFrames B (X.env :: X.outer) → h.get? a = some o → o.data = .fields vs → a ∉ frs (X.env :: X.outer) := fun {h o vs} ff e dd hm => by
      obtain ⟨_, o', e', hnf⟩ := ff.mem hm
      rw [e] at e'
      cases e'
      exact hnf _ dd
    have nfr := notFr fl3.2.2.1 he3 hd3
    have nL : a ≠ X.env.locals := fun z => nfr (List.mem_filterMap.mpr ⟨X.env, List.mem_cons_self, by rw [hf, z]⟩)
    have nF : a ∉ X.fs := fun hm => by
      obtain ⟨e, he, q⟩ := List.mem_filterMap.mp hm
      exact nfr (List.mem_filterMap.mpr ⟨e, List.mem_cons_of_mem _ he, q⟩)
    have S3 := J3.suite he3 hd3 na nL nF
    refine wpAny_handleBy_cons (codeAny_handlers_test ?_) (by intro q; cases q)
    have LT : PySem.W.Looks (model X.prog X.w) h3 (typeOf (.ref a)) cls := fun A Q E s k q => wpAny_typeOf_ref (k _ _ he3) (by rw [hz3.1]; exact q)
    have LM := PySem.W.exm_one (M := model X.prog X.w) (J3.kIn) LT hb1
    have test : ∀ {Q : Value → Shared → Prop} {E : Value → Shared → Prop}, Q c { s' with heap := h3 } → wpAny (model X.prog X.w) (X.A.mark (some (.ref a))) (eval (.Name x np) X.env) Q E { s' with heap := h3 } := fun {Q E} q => by
      obtain ⟨hg, hdbg, hm | ⟨hm, hv, hnn⟩⟩ := hc
      · exact ld_glob (X := X.suite a ((a, oe3) :: (X.pn ++ pins))) S3 hg hm q hdbg
      · exact ld_blt (X := X.suite a ((a, oe3) :: (X.pn ++ pins))) S3 hg hm hv q hnn hdbg
    refine test (LM.here ?_)
    refine codeAny_handlers_suite_as ?_
    refine HandSPX.lands_againZ fl3 fun h4 fl4 up4 => ?_
    have J4 : Inv X pins σ' H' { s' with heap := h4 } := J.landed nb fl4.1 ((up.trans up3).trans up4) os ag
    obtain ⟨oe4, vs4, he4, hz4, hd4⟩ := fl4.there
    have S4 := J4.suite he4 hd4 na nL nF
    refine store_ok (X := X.suite a ((a, oe4) :: (X.pn ++ pins))) (v := .ref a) S4 hN hi hloc rfl (fun s5 S5 => ?_) (.inr hln)
    refine wpAny_mono ((hsu a oe4 cls d (X.pn ++ pins) hz4 ⟨_, hd4⟩).run [] s5 _ H' _ S5 (hyes a na)) (fun f s6 hsp => ?_) (fun _ _ z => False.elim z)
    have end_ : ∀ {σ6 : L2.St} {H6 : Hp} {Q : Shared → Prop}, Inv (X.suite a ((a, oe4) :: (X.pn ++ pins))) [] σ6 H6 s6 → (∀ s7, Inv X pins (σ6.set i none) H6 s7 → Q s7) →
        wpAny (model X.prog X.w) X.A (do bindName X.env n .none; unbindBehindTheSuite X.env n pos') (fun _ s7 => Q s7) X.xe s6 := fun {σ6 H6 Q} S6 hq => gone_ok (S6.unsuite ok) hN hi hln hq
    cases f with
    | next =>
      obtain ⟨σ6, H6, S6, q6⟩ := hsp
      exact end_ S6 fun s7 J7 => ⟨_, _, J7, q6⟩
    | brk =>
      obtain ⟨σ6, H6, S6, q6⟩ := hsp
      exact end_ S6 fun s7 J7 => ⟨_, _, J7, q6⟩
    | cont =>
      obtain ⟨σ6, H6, S6, q6⟩ := hsp
      exact end_ S6 fun s7 J7 => ⟨_, _, J7, q6⟩
    | ret u =>
      obtain ⟨v6, σ6, H6, S6, r6, q6⟩ := hsp
      exact end_ S6 fun s7 J7 => ⟨_, _, _, J7, r6, q6⟩
  · cases f with
    | next =>
      obtain ⟨σ', H', J', q⟩ := hsp
      exact wpAny_execs_nil ⟨σ', H', J'.ofTry ok, q⟩
    | brk =>
      obtain ⟨σ', H', J', q⟩ := hsp
      exact ⟨σ', H', J'.ofTry ok, q⟩
    | cont =>
      obtain ⟨σ', H', J', q⟩ := hsp
      exact ⟨σ', H', J'.ofTry ok, q⟩
    | ret u =>
      obtain ⟨v, σ', H', J', r, q⟩ := hsp
      exact ⟨v, σ', H', J'.ofTry ok, r, q⟩
end
end Qk

set_option maxRecDepth 100000
set_option maxHeartbeats 4000000
namespace Qk
open PySem PySem.Spec PyProof.Rows L2
/-! set(xs), xs a list of texts; xs != [], xs a list of any things -/
section
variable {P : Program} {w : World} {A : Around} {E : Value → Shared → Prop} {s : Shared}
set_option maxHeartbeats 3200000 in
theorem set_listT {l : Addr} {items : Array Value} {xs : List Str} {Q : Value → Shared → Prop} (hh : A.handled = none) (hl : s.heap.IsList l items) (hi : PyProof.Rows.StrsAre items.toList xs) (hn1 : xs.length ≤ 1000)
    (h : ∀ (h' : Heap) (tk : Nat), Fill P w xs s.heap.objs.size items.size h' → (∀ b o, s.heap.get? b = some o → h'.get? b = some o) → Q (.ref s.heap.objs.size) { s with heap := h', toks := tk }) :
    wpAny (model P w) A (call (.type "set") [.ref l]) Q E s := by
  obtain ⟨c, tl, hmro⟩ := PySem.F.called_set.mro
  have hmade := PySem.F.called_set.made
  have hsub := PySem.F.called_set.sub
  refine wpAny_call (codeAny_of_tree ?_)
  show wpAny _ _ (callAny (.type "set") _) _ _ _
  refine wpAny_pure ⟨Code.quiet_builtin _ (by decide +kernel), codeAny_builtin PySem.F.entry_type_call ?_⟩
  rw [Around.under_plain (weight_type_call_type "set" [.ref l] []) rfl]
  have q1 := PySem.F.called_set.notType
  have q2 := PySem.F.called_set.canCreate
  have q3 := PySem.F.typeCall_set_1 (.ref l)
  repeat (any_goals (first | assumption | wp_step))
  obtain ⟨N, hN⟩ : ∃ N, N = s.heap.objs.size := ⟨_, rfl⟩
  refine codeAny_mono (code_set_new_1 (.ref l) (E := E) (Q₁ := fun v s₁ => ∃ led : Bool, v = .ref s.heap.objs.size ∧ s₁ = { s with heap := s.heap.push { cls := .type "set", dict := none, data := .set #[] 0 (.fresh 0 0 led) } }) fun led => ⟨led, rfl, rfl⟩) fun r s₁ hr => ?_
  cases r with
  | error e => exact hr
  | ok fl =>
    cases fl with
    | ret v =>
      obtain ⟨led, rfl, rfl⟩ := hr
      have hS : (s.heap.push { cls := .type "set", dict := none, data := .set #[] 0 (.fresh 0 0 led) }).get? s.heap.objs.size = some { cls := .type "set", dict := none, data := .set #[] 0 (.fresh 0 0 led) } := Heap.get?_push_size _ rfl
      have hT : Shared.TypeIs { s with heap := s.heap.push { cls := .type "set", dict := none, data := .set #[] 0 (.fresh 0 0 led) } } (.ref s.heap.objs.size) "set" := ⟨_, hS, rfl⟩
      have q4 := PySem.F.called_set.init.lookup
      have q5 := PySem.F.called_set.init.bind (.ref s.heap.objs.size)
      repeat (any_goals (first | assumption | wp_step))
      refine codeAny_mono (codeAny_call_builtin (R := wants (fun r s₂ => r = .none ∧ ∃ h' tk, s₂ = { s with heap := h', toks := tk } ∧ Fill P w xs s.heap.objs.size items.size h' ∧ (∀ b o, s.heap.get? b = some o → h'.get? b = some o)) E)
        PySem.F.called_set.init.plain PySem.F.entry_set_init (check_set_init_1 hT ?_)) fun r₂ s₂ hr₂ => ?_
      · have hlS : l < s.heap.objs.size := by
          obtain ⟨ol, hol, _⟩ := hl
          exact Heap.lt_size hol
        have hl1 : (s.heap.push { cls := .type "set", dict := none, data := .set #[] 0 (.fresh 0 0 led) }).IsList l items := hl.push _
        obtain ⟨ol, hol, hcl, nl, hdl⟩ := hl1
        obtain ⟨ocls, odict, odata, oslots⟩ := ol
        simp only at hcl hdl
        subst hcl; subst hdl
        have hol' := hol
        have q6 := PySem.F.sub_list_set
        have q7 := PySem.F.sub_list_frozenset
        have q8 : (Value.type "list" == Value.type "dict") = false := by decide
        have hl1 : (s.heap.push { cls := .type "set", dict := none, data := .set #[] 0 (.fresh 0 0 led) }).IsList l items := ⟨_, hol, rfl, nl, rfl⟩
        unfold Builtin.«set.__init__» noKeywords Builtin.Frozenset.updateFrom
        generalize hPI : pyIter = PI
        wp_walk
        subst hPI
        refine wpAny_pyIter_list hl1 ?_
        refine wpAny_bind (wpAny_runValue ?_)
        have hh3 : A.in1.in1.in1.handled = none := by simp [hh]
        have hps : (s.heap.push { cls := .type "set", dict := none, data := .set #[] 0 (.fresh 0 0 led) }).objs.size = s.heap.objs.size + 1 := Heap.size_push _ _
        have hneI : l ≠ (s.heap.push { cls := .type "set", dict := none, data := .set #[] 0 (.fresh 0 0 led) }).objs.size := by
          rw [hps]
          exact Nat.ne_of_lt (Nat.lt_succ_of_lt hlS)
        have hSf : s.heap.objs.size ∉ [(s.heap.push { cls := .type "set", dict := none, data := .set #[] 0 (.fresh 0 0 led) }).objs.size, l] := by
          rw [hps]
          simp only [List.mem_cons, List.not_mem_nil, or_false, not_or]
          exact ⟨Nat.ne_of_lt (Nat.lt_succ_self _), Nat.ne_of_gt hlS⟩
        have hsz : xs.length = items.size := by rw [← StrsAre.len_eq hi, Array.length_toList]
        have hval : ∀ (i : Nat) (v : Value), items[i]? = some v → ∃ t, v = .str (xs.getD i Str.empty) t := fun i v hv => SS.strs_at hi i v (by rw [Array.getElem?_toList]; exact hv)
        refine fill_loop ((Walks.list hh3 _ l hneI items).toS) s.heap.objs.size hSf xs hsz (by rw [← hsz]; exact hn1) hval (items.size - 0) 0 _ (by omega) (Nat.zero_le _)
          ⟨⟨_, Heap.get?_push_size _ rfl, rfl, rfl⟩, (hl1.push _)⟩ ?hS0 ?hR
        case hS0 =>
          have hget : ((s.heap.push { cls := .type "set", dict := none, data := .set #[] 0 (.fresh 0 0 led) }).push { cls := .type "list_iterator", data := .fields #[.ref l, .int 0 0] }).get? s.heap.objs.size
              = some { cls := .type "set", dict := none, data := .set #[] 0 (.fresh 0 0 led) } := Heap.get?_push_of_some _ hS
          exact ⟨0, SetOf_congr ((setObjOf_fresh (knd := strKind P w) led).setOf hget (by unfold scanBound; omega)) (fun z => by simp) rfl, Nat.le_refl _, fun _ => rfl, fun _ => by simp⟩
        case hR =>
          intro s' hm hF
          obtain ⟨h', g', d', tk', os'⟩ := s'
          have eg : g' = s.gens := hm.gens
          have ed : d' = s.drawn := hm.drawn
          have eo : os' = s.os := hm.os
          subst eg; subst ed; subst eo
          show wpAny _ _ _ _ _ _
          refine wpAny_pure ?_
          show wpAny _ _ (ret Value.none) _ _ _
          refine wpAny_pure ⟨rfl, h', tk', rfl, hF, fun b o e => ?_⟩
          have hb := Heap.lt_size e
          refine hm.heap b o ?_ (Heap.get?_push_of_some _ (Heap.get?_push_of_some _ e))
          rw [hps]
          simp only [List.mem_cons, List.mem_singleton, List.not_mem_nil, or_false, not_or]
          exact ⟨Nat.ne_of_lt hb, Nat.ne_of_lt (Nat.lt_succ_of_lt hb)⟩
      · cases r₂ with
        | error e => exact hr₂
        | ok fl₂ =>
          cases fl₂ with
          | ret r =>
            obtain ⟨rfl, h', tk, rfl, hF, hk'⟩ := hr₂
            repeat (any_goals (first | assumption | wp_step))
            exact h _ _ hF hk'
          | _ => exact hr₂.elim
    | _ => exact hr.elim
end
section
variable {X : Cx}
/-- set(xs), xs a list of texts -/
def rSetL (K : PySem.W.Frag) (P : Program) (w : World) : List V → Hp → VK → Prop := fun vs H Q => ∃ (l : Addr) (xs : List Str), vs = [.ref l] ∧ SqL K H l (xs.map V.str) ∧ xs.length ≤ 1000 ∧
  ∀ (p : Addr) (n : Nat), H p = none → n ≤ xs.length → (n = xs.length ↔ xs.Nodup) → Q (.ref p) (upd H p (SetX P w p (fun z => decide (z ∈ xs)) n))
theorem cr_setL (hc : X.calm = true) : CallR X (.type "set") (rSetL X.K X.prog X.w) := by
  intro pins s σ H vs us Q I r h
  obtain ⟨l, xs, rfl, hq, hz, q⟩ := h
  obtain ⟨u, rfl, rx⟩ := vals1 r
  cases rx
  obtain ⟨its, rv, pl, _⟩ := I.list hq
  have hlen : its.toArray.size = xs.length := by rw [List.size_toArray, ← rv.length, List.length_map]
  refine set_listT (I.ok.hd hc) pl.isList (by simpa using strsAre_of rv) hz fun h' tk ⟨j, g, hj, hnd, hdn⟩ hk => ?_
  rw [hlen] at g hj hnd hdn
  rw [List.take_of_length_le (Nat.le_refl _)] at g hdn
  have hn : H s.heap.objs.size = none := I.hok.fresh (Nat.le_refl _)
  exact ⟨.ref _, _, I.laidN hk (Heap.get?_none_of_le (Nat.le_refl _)) hn (setX_new g), rfl, q _ j hn hj ⟨hdn, hnd⟩⟩
/-- xs != [], whatever xs holds -/
def rNeNil (K : PySem.W.Frag) : R2 := fun x y H Q => ∃ (a b : Addr) (xs : List V), x = .ref a ∧ y = .ref b ∧ SqL K H a xs ∧ SqL K H b [] ∧ Q (.bl (!decide (xs = []))) H
theorem op_neNil (hu : X.A.units + 64 < cLine) : OpR X (compareOp .NotEq) (rNeNil X.K) := by
  intro pins s σ H x y v u Q I rx ry h
  obtain ⟨a, b, xs, rfl, rfl, ha, hb, q⟩ := h
  cases rx
  cases ry
  by_cases hx : xs = []
  · subst hx
    exact op_neD hu pins s σ H (.ref a) (.ref b) (.ref a) (.ref b) Q I rfl rfl ⟨.list [], .list [], .lst ha .nil, .lst hb .nil, rfl, rfl, q⟩
  · obtain ⟨its, rv, pl, _⟩ := I.list ha
    obtain ⟨jts, rv2, pl2, _⟩ := I.list hb
    have l1 : its.length = xs.length := rv.length.symm
    have l2 : jts.length = 0 := rv2.length.symm
    have ne : xs.length ≠ 0 := fun e => hx (List.eq_nil_of_length_eq_zero e)
    rw [decide_eq_false hx] at q
    refine PySem.SeqAt.RcNeAt.lists_lengths pl.isList pl2.isList (by simp [l1, l2, ne]) (by omega) X.prog X.w X.xe _ ⟨.bl true, H, I, rfl, q⟩
end
end Qk

set_option maxRecDepth 100000
set_option maxHeartbeats 4000000
namespace Qk
open PySem PySem.Spec PyProof.Rows L2
def top (i : Nat) : Stmt := PySem.Challenge.pw_narrowkeys_k12_asking.main.body.getD i (.Pass ⟨0, 0, 0, 0⟩)
abbrev sInit : Stmt := inClass (top 2) 0
abbrev sIsCol : Stmt := top 5
abbrev sDiff : Stmt := top 6
abbrev sIsEmpty : Stmt := top 7
abbrev sIsLast : Stmt := top 8
abbrev sAsking : Stmt := top 10
abbrev sBag : Stmt := top 12
abbrev sTake : Stmt := top 13
abbrev sOne : Stmt := top 14
abbrev sMixed : Stmt := top 15
abbrev sNames : Stmt := top 16
abbrev sAlike : Stmt := top 17
abbrev sIsName : Stmt := top 18
abbrev sMade : Stmt := top 19
abbrev sShort : Stmt := top 20
abbrev sHeard : Stmt := top 21
abbrev sDue : Stmt := top 22
abbrev sLaw : Stmt := top 23
structure Txt (K : PySem.W.Frag) (mg : Str → Option Value) : Prop where
  len : mg "len" = none
  int : mg "int" = none
  abs : mg "abs" = none
  tuple : mg "tuple" = none
  sorted : mg "sorted" = none
  range : mg "range" = none
  repr : mg "repr" = none
  list : mg "list" = none
  set : mg "set" = none
  isinstance : mg "isinstance" = none
  str : mg "str" = none
  all : mg "all" = none
  longest : ∃ t, mg "LONGEST_COLUMN" = some (.int 8 t)
/-- the error Wrong -/
structure TxE (K : PySem.W.Frag) (mg : Str → Option Value) (C : Addr) : Prop where
  er : ErC K C
  no : PySem.W.findIn K (.ref C) "place" = some none
  m : mg "Wrong" = some (.ref C)
  te : PySem.W.exmOne K (.ref C) (.ref C) = some true
section
variable {P : Program} {w : World} {K : PySem.W.Frag} {mg : Str → Option Value} {base : Heap}
theorem scBag : FnScope ["_law_script", "_law_cell"] ["_law_script"] (defScope sBag) := ⟨rfl, rfl, rfl, by decide +kernel, rfl, by decide +kernel, by decide +kernel⟩
theorem ok_bag {f : Addr} {fd : FuncData} (F : Fun K "_law_bag" "_law_bag" sBag f fd) (T : Txt K mg) : FnOk P w K mg base CX0 1 f fd ["_law_script"] (spBag K) := by
  refine F.ok scBag (fun vs H Q E h => ?_) (fun cdv A outer s H vs Q E hr h => ?_)
  · obtain ⟨a, ns, rfl, _⟩ := h
    rfl
  · obtain ⟨a, ns, rfl, hS, hz, k⟩ := h
    have nd := scBag.nd
    refine ⟨_, pss_one (ps_ret (pe_lst (pa_cons pe_int (pa_cons pe_int (pa_cons pe_int (pa_cons (pe_lc (own := [("_law_cell", 1)]) (g := gName 1) (tt := tYes) rfl nd
      (pi_list (pe_slice sl_list (pv 0) po_none (po_some pe_int))) (blkOk_by (N := ["_law_script", "_law_cell"]) (sc := defScope sBag) (by decide +kernel)) (fun _ _ _ _ _ => pg_name (i := 1) nd rfl (Or.inl rfl)) (fun _ _ _ _ _ => pts_nil)
      (fun _ _ _ _ _ => pe_callB call_abs (by rfl) T.abs (by decide +kernel) (pa_cons (pv 1) pa_nil))) pa_nil)))))), ?_⟩
    refine ⟨_, rfl, _, rfl, a, _, rfl, hS, fun p hp => ⟨p, rfl, ⟨_, SqL.of upd_same⟩, fun D hD => ?_⟩⟩
    have e0 : cutV (ns.map V.int) none (some 63) = (ns.take 63).map V.int := (cut_to 63 _).trans List.map_take.symm
    have npD : p ≠ D := ne_of_none upd_same hD
    have s0 : Same H (upd H p (.lst (cutV (ns.map V.int) none (some 63)))) := same_new hp
    have nD : H D = none := s0.free hD
    refine lc_list (K := K) (a := p) (xs := (ns.take 63).map V.int) (fun i H' => Same H H' ∧ H' p = some (.lst ((ns.take 63).map V.int)) ∧ ∃ ms : List Int, H' D = some (.lst (ms.map V.int)) ∧ ms.length ≤ i ∧ ∀ n ∈ ms, 0 ≤ n)
      ⟨s0.trans (same_new hD), by rw [upd_ne npD, upd_same, e0], [], upd_same, Nat.le_refl _, by simp⟩ (fun i H' _ h => SqL.of h.2.1) ?_ ?_
    · rintro i x H' hi ⟨s1, h1, ms, h2, hl, hm⟩
      rw [List.getElem?_map] at hi
      cases e : (ns.take 63)[i]? with
      | none => rw [e] at hi; cases hi
      | some z =>
        rw [e] at hi
        obtain rfl : V.int z = x := Option.some.inj hi
        have hlt : i < 63 := by
          have := (List.getElem?_eq_some_iff.mp e).1
          rw [List.length_take] at this
          omega
        refine ⟨rfl, Exists.intro _ ⟨rfl, z, rfl, _, h2, by rw [List.length_map, sizeLine_eq]; omega, fun b o q => ?_, ?_, ms ++ [if z < 0 then -z else z], by rw [upd_same]; simp, by simp; omega, ?_⟩⟩
        · have : b ≠ D := ne_of_none q nD
          rw [upd_ne this]
          exact s1 _ _ q
        · rw [upd_ne npD]
          exact h1
        · intro n hn
          rcases List.mem_append.mp hn with hn | hn
          · exact hm n hn
          · obtain rfl := List.mem_singleton.mp hn
            split <;> omega
    · rintro H' ⟨s1, h1, ms, h2, hl, hm⟩
      refine ⟨by show 4 ≤ sizeLine; decide, fun q hq => ?_⟩
      have nDq : D ≠ q := ne_of_none h2 hq
      exact k q D _ (s1.free hq) ⟨0, 1234567891, 0, ms, upd_same, by rw [upd_ne nDq]; exact h2, nDq, by decide, by decide, by decide, hm⟩ (s1.trans (same_new hq))
theorem scTake : FnScope ["_law_bag_here", "_law_many", "_law_cell", "_law_mixed_here", "_law_drawn", "_law_begin", "_law_second"] ["_law_bag_here", "_law_many"] (defScope sTake) := ⟨rfl, rfl, rfl, by decide +kernel, rfl, by decide +kernel, by decide +kernel⟩
theorem ok_take {f : Addr} {fd : FuncData} (F : Fun K "_law_take" "_law_take" sTake f fd) (T : Txt K mg) : FnOk P w K mg base CX0 1 f fd ["_law_bag_here", "_law_many"] spTake := by
  refine F.ok scTake (fun vs H Q E h => ?_) (fun cdv A outer s H vs Q E hr h => ?_)
  · obtain ⟨b, l, n, rfl, _⟩ := h
    rfl
  · obtain ⟨b, l, n, rfl, B, n0, n1, k⟩ := h
    have nd := scTake.nd
    obtain ⟨h, m, p, ns, hb, hl, nlb, h0, m0, m1, hns⟩ := id B
    refine ⟨_, Evl.pss_cut (ps_if (pt_cmpR op_eq (pe_ix ix_list (pv 0) pe_int fun _ _ => rfl) pe_int (nomark _))
        (pss_cons (ps_set (i := 2) nd rfl (Or.inl rfl) pe_int)
        (Evl.pss_cut (ps_if (pt_cmpR op_lt (pe_ix ix_list (pv 0) pe_int fun _ _ => rfl) (pe_callB call_len_seq (by rfl) T.len PySem.boot_len (pa_cons (pe_ix ix_list (pv 0) pe_int fun _ _ => rfl) pa_nil)) (nomark _))
          (pss_one (ps_set (i := 2) nd rfl (Or.inl rfl) (pe_ix ix_list (pe_ix ix_list (pv 0) pe_int fun _ _ => rfl) (pe_ix ix_list (pv 0) pe_int fun _ _ => rfl) fun _ _ => rfl))) pss_nil)
        (pss_cons (ps_augS (pv 0) pe_int get_list pe_int ip_add set_list)
        (Evl.pss_cut (ps_if (pt_cmpR op_ge (pv 2) pe_int (nomark _)) (pss_one (ps_asg (pv 2) (pg_sub (pv 0) pe_int set_list))) pss_nil)
        (pss_cons (ps_set (i := 3) nd rfl (Or.inl rfl) (pe_op op_add (pe_op op_add (pe_op op_mul (pe_ix ix_list (pv 0) pe_int fun _ _ => rfl) pe_int)
            (pe_op op_mod (pe_callTy call_int1 (by rfl) T.int (by decide +kernel) (pa_cons (pv 2) pa_nil)) pe_int)) (pe_op op_mul pe_int (pe_ix ix_list (pv 0) pe_int fun _ _ => rfl))))
        (pss_one (ps_asg (pe_op op_mod (pe_callTy call_int1 (by rfl) T.int (by decide +kernel) (pa_cons (pv 3) pa_nil)) pe_int) (pg_sub (pv 0) pe_int set_list)))))))) pss_nil)
      (Evl.pss_cut (ps_if (pt_cmpR op_gt (pe_ix ix_list (pv 0) pe_int fun _ _ => rfl) pe_int (nomark _))
        (pss_cons (ps_set (i := 4) nd rfl (Or.inl rfl) (pe_op op_mod (pe_callTy call_int1 (by rfl) T.int (by decide +kernel) (pa_cons (pe_ix ix_list (pv 0) pe_int fun _ _ => rfl) pa_nil)) (pv 1)))
        (pss_cons (ps_asg (pe_op op_fdivN (pe_callTy call_int1 (by rfl) T.int (by decide +kernel) (pa_cons (pe_ix ix_list (pv 0) pe_int fun _ _ => rfl) pa_nil)) (pv 1)) (pg_sub (pv 0) pe_int set_list))
        (pss_one (ps_ret (pv 4))))) pss_nil)
      (pss_cons (ps_set (i := 5) nd rfl (Or.inl rfl) (pe_op op_mod (pe_callTy call_int1 (by rfl) T.int (by decide +kernel) (pa_cons (pe_op op_mul (pe_op op_add (pe_ix ix_list (pv 0) pe_int fun _ _ => rfl) pe_int) pe_int) pa_nil)) pe_int))
      (pss_cons (ps_set (i := 6) nd rfl (Or.inl rfl) (pe_op op_mod (pe_callTy call_int1 (by rfl) T.int (by decide +kernel) (pa_cons (pe_op op_mul (pe_op op_mod (pe_callTy call_int1 (by rfl) T.int (by decide +kernel) (pa_cons (pe_op op_mul (pv 5) (pv 5)) pa_nil)) pe_int) pe_int) pa_nil)) pe_int))
      (pss_one (ps_ret (pe_op op_mod (pe_callTy call_int1 (by rfl) T.int (by decide +kernel) (pa_cons (pe_op op_fdiv (pv 6) pe_int) pa_nil)) (pv 1)))))))
      , ?_⟩
    refine ⟨fun σ' H' => ∃ c2 c3, σ' = [some (.ref b), some (.int n), c2, c3, none, none, none] ∧ Bag H' b l ∧ Kp b H H', ?_, ?_⟩
    · refine ⟨_, rfl, b, _, _, _, rfl, rfl, SqL.of hb, rfl, rfl, _, rfl, ?_⟩
      refine ite2 (fun _ => ?_) (fun _ => ⟨_, _, rfl, B, Kp.refl _ _⟩)
      refine ⟨fun σ' H' => ∃ c : Int, 0 ≤ c ∧ σ' = [some (.ref b), some (.int n), some (.int c), none, none, none, none] ∧ H' = H, ?_, ?_⟩
      · refine ⟨_, rfl, b, _, _, _, rfl, rfl, SqL.of hb, rfl, _, rfl, b, _, _, _, rfl, rfl, SqL.of hb, rfl, _, _, rfl, .inl (SqL.of hl), _, _, rfl, rfl, _, rfl, ?_⟩
        refine ite2 (fun hc => ?_) (fun _ => ⟨0, Int.le_refl 0, rfl, rfl⟩)
        have hp : p < ns.length := by
          have := of_decide_eq_true hc
          rw [List.length_map] at this
          omega
        refine ⟨_, rfl, b, _, _, _, rfl, rfl, SqL.of hb, rfl, _, rfl, b, _, _, _, rfl, rfl, SqL.of hb, rfl, l, _, _, .int ns[p], rfl, rfl, SqL.of hl, atI_nat (by rw [List.getElem?_map, List.getElem?_eq_getElem hp]; rfl), ?_⟩
        exact ⟨ns[p], hns _ (List.getElem_mem hp), rfl, rfl⟩
      · rintro σ' H' ⟨c, hc, rfl, rfl⟩
        refine ⟨_, rfl, b, _, 2, _, rfl, rfl, SqL.of hb, rfl, _, _, rfl, rfl, b, _, _, 2, rfl, rfl, hb, rfl, ?_⟩
        have hl1 : (upd H' b (HO.lst [.int h, .int m, .int ((p + 1 : Nat) : Int), .ref l])) l = some (HO.lst (ns.map V.int)) := by rw [upd_ne nlb]; exact hl
        refine ⟨fun σ' H2 => ∃ h' : Int, 0 ≤ h' ∧ σ' = [some (.ref b), some (.int n), some (.int c), none, none, none, none] ∧ H2 b = some (.lst [.int h', .int m, .int ((p + 1 : Nat) : Int), .ref l]) ∧ Kp b H' H2, ?_, ?_⟩
        · refine ⟨_, rfl, _, _, rfl, rfl, _, rfl, ?_⟩
          refine ite2 (fun _ => ?_) (fun _ => ⟨h, h0, rfl, upd_same, Kp.at_ _ _ _⟩)
          refine ⟨_, rfl, _, rfl, b, _, 0, 0, rfl, rfl, upd_same, rfl, ?_⟩
          exact ⟨c, hc, rfl, upd_same, (Kp.at_ _ _ _).trans (Kp.at_ _ _ _)⟩
        · rintro σ' H2 ⟨h', h0', rfl, hb2, k2⟩
          have hl2 : H2 l = some (.lst (ns.map V.int)) := k2 _ _ hl nlb
          refine ⟨_, rfl, b, _, 1, _, rfl, rfl, SqL.of hb2, rfl, _, _, rfl, rfl, .inl ⟨by omega, by omega⟩, _, rfl, .inl ⟨_, rfl, _, _, rfl, rfl, (by show (0 : Int) < 2147483647; decide), _, _, rfl, rfl,
            _, rfl, b, _, 2, _, rfl, rfl, SqL.of hb2, rfl, _, _, rfl, rfl, .inl ⟨by decide, by decide⟩, _, _, rfl, rfl, _, rfl, .inl ⟨_, rfl, _, _, rfl, rfl, (by show (0 : Int) < 2147483647; decide), _, rfl, b, _, 1, 1, rfl, rfl, hb2, rfl, ?_⟩⟩⟩
          exact ⟨_, _, rfl, ⟨h', _, p + 1, ns, upd_same, (by rw [upd_ne nlb]; exact hl2), nlb, h0', Int.emod_nonneg _ (by decide), Int.emod_lt_of_pos _ (by decide), hns⟩, k2.trans (Kp.at_ _ _ _)⟩
    · rintro σ1 H1 ⟨c2, c3, rfl, B1, k1⟩
      clear hb hl hns h0 m0 m1
      obtain ⟨h, m, p, ns, hb, hl, nlb, h0, m0, m1, hns⟩ := id B1
      refine ⟨fun σ' H' => σ' = [some (.ref b), some (.int n), c2, c3, none, none, none] ∧ H' = H1, ?_, ?_⟩
      · refine ⟨_, rfl, b, _, 0, _, rfl, rfl, SqL.of hb, rfl, _, _, rfl, rfl, _, rfl, ?_⟩
        refine ite2 (fun _ => ?_) (fun _ => ⟨rfl, rfl⟩)
        obtain ⟨j, ej, hj⟩ := take_mod (k := h) n0
        refine ⟨_, rfl, b, _, 0, _, rfl, rfl, SqL.of hb, rfl, .inl ⟨_, rfl, _, rfl, _, _, rfl, rfl, n0, _, rfl, b, _, 0, _, rfl, rfl, SqL.of hb, rfl, .inl ⟨_, rfl, _, rfl, _, _, rfl, rfl, ⟨by omega, by omega⟩, _, rfl, b, _, 0, 0, rfl, rfl, hb, rfl, _, rfl, ?_⟩⟩⟩
        show Q (.int (h % n)) _
        rw [ej]
        refine k j _ hj ⟨_, m, p, ns, upd_same, (by rw [upd_ne nlb]; exact hl), nlb, ?_, m0, m1, hns⟩ (k1.trans (Kp.at_ _ _ _))
        show 0 ≤ h.fdiv n
        rw [Int.fdiv_eq_ediv_of_nonneg h (by omega)]
        exact Int.ediv_nonneg h0 (by omega)
      · rintro σ' H' ⟨rfl, rfl⟩
        have q1 : ∀ x : Int, 0 ≤ x % 1000000007 ∧ x % 1000000007 < 1000000007 := fun x => ⟨Int.emod_nonneg _ (by decide), Int.emod_lt_of_pos _ (by decide)⟩
        have q2 : ∀ x : Int, 0 ≤ x % 998244353 ∧ x % 998244353 < 998244353 := fun x => ⟨Int.emod_nonneg _ (by decide), Int.emod_lt_of_pos _ (by decide)⟩
        obtain ⟨u, eu⟩ : ∃ u, u = ((m + 1) * 39373) % 1000000007 := ⟨_, rfl⟩
        have hu := q1 ((m + 1) * 39373)
        rw [← eu] at hu
        obtain ⟨j, ej, hj⟩ := take_mod (k := (u * u % 998244353 * 30011 % 998244353) / 7) n0
        have hv := q2 (u * u)
        refine ⟨_, rfl, b, _, 1, _, rfl, rfl, SqL.of hb, rfl, _, _, rfl, rfl, _, _, rfl, rfl, .inl ⟨by omega, by omega⟩, .inl ⟨_, rfl, _, _, rfl, rfl, (by show (0 : Int) < 1000000007; decide), ?_⟩⟩
        show tSeq _ _ _ [some (.ref b), some (.int n), c2, c3, none, some (.int (((m + 1) * 39373) % 1000000007)), none] _
        rw [← eu]
        refine ⟨_, rfl, _, rfl, _, _, rfl, rfl, .inl ⟨by omega, by omega⟩, .inl ⟨_, rfl, _, _, rfl, rfl, (by show (0 : Int) < 998244353; decide), _, _, rfl, rfl, .inl ⟨by omega, by omega⟩, .inl ⟨_, rfl, _, _, rfl, rfl, (by show (0 : Int) < 998244353; decide), _, rfl, _, _, rfl, rfl, ⟨by decide, by decide⟩, .inl ⟨_, rfl, _, rfl, _, _, rfl, rfl, n0, ?_⟩⟩⟩⟩
        show Q (.int ((u * u % 998244353 * 30011 % 998244353) / 7 % n)) _
        rw [ej]
        exact k j _ hj B1 k1
theorem scOne : FnScope ["_law_bag_here", "_law_some"] ["_law_bag_here", "_law_some"] (defScope sOne) := ⟨rfl, rfl, rfl, by decide +kernel, rfl, by decide +kernel, by decide +kernel⟩
theorem ok_one {f : Addr} {fd : FuncData} (F : Fun K "_law_one" "_law_one" sOne f fd) (T : Txt K mg) (cT : Cal P w K mg base 1 "_law_take" ["_law_bag_here", "_law_many"] spTake) : FnOk P w K mg base CX0 2 f fd ["_law_bag_here", "_law_some"] spOne := by
  refine F.ok scOne (fun vs H Q E h => ?_) (fun cdv A outer s H vs Q E hr h => ?_)
  · obtain ⟨b, l, a, xs, rfl, _⟩ := h
    rfl
  · obtain ⟨b, l, a, xs, rfl, B, nab, ha, hne, hz, k⟩ := h
    refine ⟨_, pss_one (ps_ret (pe_ix ix_list (pv 1) (pe_call cT.G hr rfl cT.m cT.kp cT.b .nil pass0 (pa_cons (pv 0) (pa_cons (pe_callB call_len_seq (by rfl) T.len PySem.boot_len (pa_cons (pv 1) pa_nil)) pa_nil))) fun _ _ => rfl)), ?_⟩
    have hpos : 0 < xs.length := List.length_pos_iff.mpr hne
    refine ⟨_, rfl, _, rfl, _, rfl, _, _, rfl, .inl (SqL.of ha), b, l, _, rfl, B, by omega, by omega, fun j H' hj B' k' => ?_⟩
    have hj' : j < xs.length := by omega
    exact ⟨a, xs, j, xs[j], rfl, rfl, SqL.of (k' _ _ ha nab), atI_nat (List.getElem?_eq_getElem hj'), k _ _ (List.getElem_mem hj') B' k'⟩
theorem scMixed : FnScope ["_law_bag_here", "_law_things", "_law_found", "_law_thing"] ["_law_bag_here", "_law_things"] (defScope sMixed) := ⟨rfl, rfl, rfl, by decide +kernel, rfl, by decide +kernel, by decide +kernel⟩
theorem ok_mixed {f : Addr} {fd : FuncData} (F : Fun K "_law_mixed" "_law_mixed" sMixed f fd) (T : Txt K mg) (cT : Cal P w K mg base 1 "_law_take" ["_law_bag_here", "_law_many"] spTake) : FnOk P w K mg base CX0 2 f fd ["_law_bag_here", "_law_things"] spMixed := by
  refine F.ok scMixed (fun vs H Q E h => ?_) (fun cdv A outer s H vs Q E hr h => ?_)
  · obtain ⟨b, l, a, xs, rfl, _⟩ := h
    rfl
  · obtain ⟨b, l, a, xs, rfl, B, nab, ha, hz, k⟩ := h
    have nd := scMixed.nd
    refine ⟨_, pss_cons (ps_set (i := 2) nd rfl (Or.inl rfl) (pe_lst pa_nil)) (pss_cons (ps_for PassesOwn.never rfl (pi_list (pv 1)) (pg_name (i := 3) nd rfl (Or.inl rfl))
      (pss_one (ps_expr (pe_bm PySem.F.plainAttrs_list PySem.F.slot_list_insert PySem.F.type_list_insert mt_insert (pv 2)
        (pa_cons (pe_call cT.G hr rfl cT.m cT.kp cT.b .nil pass0 (pa_cons (pv 0) (pa_cons (pe_op op_add (pe_callB call_len_seq (by rfl) T.len PySem.boot_len (pa_cons (pv 2) pa_nil)) pe_int) pa_nil))) (pa_cons (pv 3) pa_nil))))))
      (pss_one (ps_ret (pv 2)))), ?_⟩
    refine ⟨by decide, fun p hp => ?_⟩
    have npb : p ≠ b := B.ne hp
    have nap : a ≠ p := ne_of_none ha hp
    refine ⟨_, rfl, a, rfl, ⟨_, SqL.of (by rw [upd_ne nap]; exact ha)⟩, for_list (K := K) (a := a) (xs := xs) (fun i σ H' => ∃ (ys : List V) (v : Option V), σ = [some (.ref b), some (.ref a), some (.ref p), v] ∧ ys.Perm (xs.take i) ∧ H' p = some (.lst ys) ∧ Bag H' b l ∧ Kp b H H')
      ⟨[], none, rfl, by simp, upd_same, B.new hp, Kp.new hp⟩ (fun i σ H' _ ⟨_, _, _, _, _, _, k'⟩ => SqL.of (k' _ _ ha nab)) ?_ ?_⟩
    · rintro i x σ H' hi ⟨ys, v, rfl, hp1, h1, B1, k1⟩
      have hil : i < xs.length := (List.getElem?_eq_some_iff.mp hi).1
      have hyl : ys.length = i := by
        rw [hp1.length_eq, List.length_take]
        omega
      refine ⟨_, rfl, .inl ⟨rfl, _, SqL.of h1⟩, _, rfl, _, rfl, _, _, rfl, .inl (SqL.of h1), _, _, rfl, rfl, b, l, _, rfl, B1, by omega, by omega, fun j H2 hj B2 k2 => ?_⟩
      refine ⟨_, rfl, p, ys, (j : Int), x, rfl, rfl, k2 _ _ h1 npb, Nat.lt_of_lt_of_le (show ys.length < 1000 by omega) (by rw [sizeLine_eq]; decide), by omega, by omega, ?_⟩
      refine ⟨ys.take j ++ [x] ++ ys.drop j, _, rfl, ?_, ?_, ?_, ?_⟩
      · have e1 : xs.take (i + 1) = xs.take i ++ [x] := by
          rw [List.take_add_one, hi]
          rfl
        rw [e1]
        have q1 : (ys.take j ++ [x] ++ ys.drop j).Perm (ys ++ [x]) := by
          have q2 : (ys.take j ++ ([x] ++ ys.drop j)).Perm (ys.take j ++ (ys.drop j ++ [x])) := List.Perm.append_left _ List.perm_append_comm
          rw [List.append_assoc]
          refine q2.trans ?_
          rw [← List.append_assoc, List.take_append_drop]
        exact q1.trans (hp1.append_right _)
      · rw [upd_same]
        simp
      · exact B2.upd npb.symm (B.nel hp)
      · intro c o hc ncb
        have : c ≠ p := ne_of_none hc hp
        rw [upd_ne this]
        exact k2 _ _ (k1 _ _ hc ncb) ncb
    · rintro σ H' ⟨ys, v, rfl, hp1, h1, B1, k1⟩
      rw [List.take_length] at hp1
      exact ⟨_, rfl, k ys p H' hp1 hp npb h1 B1 k1⟩
theorem scNames : FnScope ["_law_bag_here", "_law_many", "_law_menu"] ["_law_bag_here", "_law_many"] (defScope sNames) := ⟨rfl, rfl, rfl, by decide +kernel, rfl, by decide +kernel, by decide +kernel⟩
theorem ok_names {f : Addr} {fd : FuncData} (F : Fun K "_law_names" "_law_names" sNames f fd) (T : Txt K mg) (cM : Cal P w K mg base 2 "_law_mixed" ["_law_bag_here", "_law_things"] spMixed) : FnOk P w K mg base CX0 3 f fd ["_law_bag_here", "_law_many"] spNames := by
  refine F.ok scNames (fun vs H Q E h => ?_) (fun cdv A outer s H vs Q E hr h => ?_)
  · obtain ⟨b, l, n, rfl, _⟩ := h
    rfl
  · obtain ⟨b, l, n, rfl, B, k⟩ := h
    have nd := scNames.nd
    refine ⟨_, pss_cons (ps_set (i := 2) nd rfl (Or.inl rfl) (pe_lst (pa_cons pe_str (pa_cons pe_str (pa_cons pe_str (pa_cons pe_str (pa_cons pe_str (pa_cons pe_str (pa_cons pe_str (pa_cons pe_str (pa_cons pe_str (pa_cons pe_str (pa_cons pe_str (pa_cons pe_str pa_nil))))))))))))))
      (pss_one (ps_ret (pe_slice sl_list (pe_call cM.G hr rfl cM.m cM.kp cM.b .nil pass0 (pa_cons (pv 0) (pa_cons (pv 2) pa_nil))) po_none (po_some (pv 1))))), ?_⟩
    refine ⟨by show 12 ≤ sizeLine; decide, fun p hp => ?_⟩
    have npb : p ≠ b := B.ne hp
    refine ⟨_, rfl, _, rfl, b, l, p, menu0.map V.str, rfl, B.new hp, npb, upd_same, by show 12 < 1000; decide, fun ys q H' hp1 hq nqb h1 B1 k1 => ?_⟩
    refine ⟨_, rfl, _, rfl, q, ys, rfl, SqL.of h1, fun r hr => ?_⟩
    have e0 : cutV ys none (some (n : Int)) = ys.take n := cut_to n ys
    rw [e0]
    obtain ⟨zs, rfl, hzs⟩ := perm_strs hp1
    have hsub := (List.take_sublist n zs)
    have nrH : H r = none := by
      cases e : H r with
      | none => rfl
      | some o =>
        have ner : r ≠ p := ne_of_none e hp
        by_cases erb : r = b
        · subst erb
          obtain ⟨o', e'⟩ := B1.at_
          rw [e'] at hr
          cases hr
        · have := k1 r o (by rw [upd_ne ner]; exact e) erb
          rw [this] at hr
          cases hr
    refine k (zs.take n) r _ ⟨(hzs.nodup_iff.mpr menu0_nodup).sublist hsub, fun c hc => menu0_sub _ (hzs.mem_iff.mp (hsub.mem hc)), by rw [List.length_take, hzs.length_eq]; rfl⟩ nrH (B1.ne hr) (by rw [upd_same, List.map_take]) (B1.new hr) ((Kp.new hp).trans (k1.trans (Kp.new hr)))
theorem scIsCol : FnScope ["thing"] ["thing"] (defScope sIsCol) := ⟨rfl, rfl, rfl, by decide +kernel, rfl, by decide +kernel, by decide +kernel⟩
theorem ok_iscol {f : Addr} {fd : FuncData} (F : Fun K "is_column" "is_column" sIsCol f fd) (T : Txt K mg) : FnOk P w K mg base CX0 1 f fd ["thing"] (spText K colS) := by
  refine F.ok scIsCol (fun vs H Q E h => ?_) (fun cdv A outer s H vs Q E hr h => ?_)
  · obtain ⟨x, rfl, _⟩ := h
    rfl
  · obtain ⟨x, rfl, h⟩ := h
    have nd := scIsCol.nd
    obtain ⟨tl, hl⟩ := T.longest
    refine ⟨_, pss_cons (ps_if (PW.pt (pw_or (pt_not (pt_val (pe_callB call_isi (by rfl) T.isinstance (by decide +kernel) (pa_cons (pv 0) (pa_cons (pe_bltn (v := .ty "str") (by rfl) T.str (by decide +kernel) rfl) pa_nil)))))
        (pw_or1 (pt_not (pt_chain op_le op_le pe_int (pe_callB call_len_str (by rfl) T.len PySem.boot_len (pa_cons (pv 0) pa_nil)) (pe_glob (v := .int 8) rfl hl ⟨tl, rfl⟩)))))) (pss_one (ps_ret pe_bl)) pss_nil)
      (pss_one (ps_ret (pe_and (pe_m0 PySem.F.slot_str_isascii PySem.F.type_str_isascii mt_isascii (pv 0)) (pe_and (pe_m0 PySem.F.slot_str_isalpha PySem.F.type_str_isalpha mt_isalpha (pv 0))
        (pe_one (pe_m0 PySem.F.slot_str_islower PySem.F.type_str_islower mt_islower (pv 0))))))), ?_⟩
    rcases h with ⟨z, rfl, hz, hok, k⟩ | ⟨t, ty, hk, k⟩
    · refine ⟨_, rfl, _, _, .type "str", .type "str", true, rfl, .ty "str", .base (.str z), kit_ty (by decide +kernel), _, rfl, ?_⟩
      refine iteF ?_
      have hlen : z.length = z.cps.size := rfl
      have kk := k H (Same.refl _)
      unfold colS at kk
      refine ⟨_, rfl, z, rfl, by rw [hlen, sizeLine_eq]; omega, 1, _, rfl, rfl, _, rfl, ?_⟩
      rw [hlen]
      by_cases c1 : 1 ≤ z.cps.size
      · have d1 : decide ((1 : Int) ≤ (z.cps.size : Int)) = true := decide_eq_true (by omega)
        rw [d1]
        refine iteT ?_
        refine ⟨_, 8, rfl, rfl, _, rfl, ?_⟩
        by_cases c2 : z.cps.size ≤ 8
        · have d2 : decide ((z.cps.size : Int) ≤ 8) = true := decide_eq_true (by omega)
          rw [d2]
          refine iteF ?_
          rw [decide_eq_true c1, decide_eq_true c2, ← low_iff z c1, Bool.true_and, Bool.true_and] at kk
          refine ⟨_, rfl, ⟨_, rfl⟩, z, rfl, rfl, True.intro, _, rfl, ?_⟩
          cases h1 : Txt.isascii z with
          | false =>
            rw [h1, Bool.false_and] at kk
            refine iteF ?_
            exact kk
          | true =>
            rw [h1, Bool.true_and] at kk
            refine iteT ?_
            refine ⟨_, rfl, ⟨_, rfl⟩, z, rfl, rfl, True.intro, _, rfl, ?_⟩
            cases h2 : Txt.isalpha z with
            | false =>
              rw [h2, Bool.false_and] at kk
              refine iteF ?_
              exact kk
            | true =>
              rw [h2, Bool.true_and] at kk
              refine iteT ?_
              exact ⟨_, rfl, ⟨_, rfl⟩, z, rfl, rfl, True.intro, kk⟩
        · have d2 : decide ((z.cps.size : Int) ≤ 8) = false := decide_eq_false (by omega)
          rw [d2]
          refine iteT ?_
          rw [decide_eq_false c2, Bool.and_false, Bool.false_and] at kk
          exact kk
      · have d1 : decide ((1 : Int) ≤ (z.cps.size : Int)) = false := decide_eq_false (by omega)
        rw [d1]
        refine iteF ?_
        refine ⟨_, rfl, ?_⟩
        refine iteT ?_
        rw [decide_eq_false c1, Bool.false_and, Bool.false_and] at kk
        exact kk
    · refine ⟨_, rfl, _, _, .type t, .type "str", false, rfl, .ty "str", ty, kit_ty hk, _, rfl, ?_⟩
      refine iteT ?_
      exact k
theorem scIsEmpty : FnScope ["thing"] ["thing"] (defScope sIsEmpty) := ⟨rfl, rfl, rfl, by decide +kernel, rfl, by decide +kernel, by decide +kernel⟩
theorem ok_isempty {f : Addr} {fd : FuncData} (F : Fun K "is_empty" "is_empty" sIsEmpty f fd) (T : Txt K mg) : FnOk P w K mg base CX0 1 f fd ["thing"] (spText K fun z => decide (z = "")) := by
  refine F.ok scIsEmpty (fun vs H Q E h => ?_) (fun cdv A outer s H vs Q E hr h => ?_)
  · obtain ⟨x, rfl, _⟩ := h
    rfl
  · obtain ⟨x, rfl, h⟩ := h
    refine ⟨_, pss_one (ps_ret (pe_and (pe_callB call_isi (by rfl) T.isinstance (by decide +kernel) (pa_cons (pv 0) (pa_cons (pe_bltn (v := .ty "str") (by rfl) T.str (by decide +kernel) rfl) pa_nil))) (pe_one (pe_cmpR op_eq (pv 0) pe_str (nomark _))))), ?_⟩
    rcases h with ⟨z, rfl, hz, hok, k⟩ | ⟨t, ty, hk, k⟩
    · refine ⟨_, rfl, _, _, .type "str", .type "str", true, rfl, .ty "str", .base (.str z), kit_ty (by decide +kernel), _, rfl, ?_⟩
      refine iteT ?_
      refine ⟨_, rfl, rfl, ?_⟩
      have e1 : decide (V.str z = V.str "") = decide (z = "") := decide_eq_decide.mpr ⟨fun h => by injection h, fun h => congrArg V.str h⟩
      rw [e1]
      exact k H (Same.refl _)
    · refine ⟨_, rfl, _, _, .type t, .type "str", false, rfl, .ty "str", ty, kit_ty hk, _, rfl, ?_⟩
      refine iteF ?_
      exact k
theorem scIsName : FnScope ["_law_thing", "_law_letter"] ["_law_thing"] (defScope sIsName) := ⟨rfl, rfl, rfl, by decide +kernel, rfl, by decide +kernel, by decide +kernel⟩
theorem abc_mem (c : Nat) : decide (c ∈ ("abcdefghijklmnopqrstuvwxyz" : Str).cps.toList) = (decide (97 ≤ c) && decide (c ≤ 122)) := by
  have e : ("abcdefghijklmnopqrstuvwxyz" : Str).cps.toList = (List.range 26).map (· + 97) := by decide +kernel
  rw [e, Bool.eq_iff_iff]
  simp only [decide_eq_true_eq, List.mem_map, List.mem_range, Bool.and_eq_true]
  constructor
  · rintro ⟨a, h1, h2⟩
    omega
  · intro h
    exact ⟨c - 97, by omega, by omega⟩
theorem ok_isname {f : Addr} {fd : FuncData} (F : Fun K "_law_is_name" "_law_is_name" sIsName f fd) (T : Txt K mg) : FnOk P w K mg base CX0 1 f fd ["_law_thing"] (spText K colS) := by
  refine F.ok scIsName (fun vs H Q E h => ?_) (fun cdv A outer s H vs Q E hr h => ?_)
  · obtain ⟨x, rfl, _⟩ := h
    rfl
  · obtain ⟨x, rfl, h⟩ := h
    have nd := scIsName.nd
    refine ⟨_, pss_cons (ps_if (PW.pt (pw_or (pt_not (pt_val (pe_callB call_isi (by rfl) T.isinstance (by decide +kernel) (pa_cons (pv 0) (pa_cons (pe_bltn (v := .ty "str") (by rfl) T.str (by decide +kernel) rfl) pa_nil)))))
        (pw_or1 (pt_not (pt_chain op_lt op_lt pe_int (pe_callB call_len_str (by rfl) T.len PySem.boot_len (pa_cons (pv 0) pa_nil)) pe_int))))) (pss_one (ps_ret pe_bl)) pss_nil)
      (pss_one (ps_ret (pe_cmpR (op_eqD hr.units) (pe_lc (own := [("_law_letter", 1)]) (g := gName 1) rfl nd (pi_str (pv 0)) (blkOk_by (N := ["_law_thing", "_law_letter"]) (sc := defScope sIsName) (by decide +kernel))
        (fun _ _ _ _ _ => pg_name (i := 1) nd rfl (Or.inl rfl)) (fun _ _ _ _ _ => pts_one (pt_cmpR op_notIn_sign (pv 1) pe_str (by rfl))) (fun _ _ _ _ _ => pv 1)) (pe_lst pa_nil) (nomark _)))), ?_⟩
    rcases h with ⟨z, rfl, hz, hok, k⟩ | ⟨t, ty, hk, k⟩
    · refine ⟨_, rfl, _, _, .type "str", .type "str", true, rfl, .ty "str", .base (.str z), kit_ty (by decide +kernel), _, rfl, ?_⟩
      refine iteF ?_
      have hlen : z.length = z.cps.size := rfl
      have kk := k
      unfold colS at kk
      refine ⟨_, rfl, z, rfl, by rw [hlen, sizeLine_eq]; omega, 0, _, rfl, rfl, _, rfl, ?_⟩
      rw [hlen]
      by_cases c1 : 1 ≤ z.cps.size
      · have d1 : decide ((0 : Int) < (z.cps.size : Int)) = true := decide_eq_true (by omega)
        rw [d1]
        refine iteT ?_
        refine ⟨_, 9, rfl, rfl, _, rfl, ?_⟩
        by_cases c2 : z.cps.size ≤ 8
        · have d2 : decide ((z.cps.size : Int) < 9) = true := decide_eq_true (by omega)
          rw [d2]
          refine iteF ?_
          rw [decide_eq_true c1, decide_eq_true c2] at kk
          refine ⟨_, rfl, z, rfl, fun D hD => ?_⟩
          have ltr : ∀ (l : List Nat), (l.map fun c => (⟨#[c]⟩ : Str)).map V.str = l.map fun c => V.str ⟨#[c]⟩ := fun l => by rw [List.map_map]; rfl
          refine lc_it (walk_str (z := z)) (fun i H' => Same H H' ∧ H' D = some (.lst (((((z.cps.toList.take i).filter fun c => !(decide (97 ≤ c) && decide (c ≤ 122))).map fun c => (⟨#[c]⟩ : Str))).map V.str))) ⟨same_new hD, upd_same⟩ (fun _ _ _ _ => True.intro) ?_ ?_
          · rintro i x H1 H2 hi ⟨s1, hDl⟩ ⟨rfl, c, hc, rfl⟩
            have et : z.cps.toList.take (i + 1) = z.cps.toList.take i ++ [c] := by rw [List.take_add_one, Array.getElem?_toList, hc]; rfl
            refine ⟨rfl, ?_⟩
            refine ⟨_, rfl, c, _, rfl, rfl, _, rfl, ?_⟩
            rw [abc_mem]
            by_cases q : (decide (97 ≤ c) && decide (c ≤ 122)) = true
            · rw [q]
              refine iteF ?_
              refine ⟨s1, ?_⟩
              have e7 : ([c].filter fun c => !(decide (97 ≤ c) && decide (c ≤ 122))) = [] := by
                rw [List.filter_cons, List.filter_nil, q]
                rfl
              rw [hDl, et, List.filter_append, e7, List.append_nil]
            · have qf : (decide (97 ≤ c) && decide (c ≤ 122)) = false := by simpa using q
              rw [qf]
              refine iteT ?_
              refine ⟨_, rfl, _, hDl, small1000 ?_, fun b' o ho => ?_, ?_⟩
              · have := List.length_filter_le (fun c => !(decide (97 ≤ c) && decide (c ≤ 122))) (z.cps.toList.take i)
                rw [List.length_take] at this
                rw [List.length_map, List.length_map]
                omega
              · rw [upd_ne (ne_of_none ho hD)]
                exact s1 _ _ ho
              · have e7 : ([c].filter fun c => !(decide (97 ≤ c) && decide (c ≤ 122))) = [c] := by
                  rw [List.filter_cons, List.filter_nil, qf]
                  rfl
                rw [upd_same, et, List.filter_append, e7, List.map_append, List.map_append]
                rfl
          · rintro H1 ⟨s1, hDl⟩
            rw [List.take_of_length_le (by rw [Array.length_toList]; exact Nat.le_refl _)] at hDl
            refine ⟨by show 0 ≤ sizeLine; decide, fun p hp => ?_⟩
            have oks : ∀ y ∈ ((z.cps.toList.filter fun c => !(decide (97 ≤ c) && decide (c ≤ 122))).map fun c => (⟨#[c]⟩ : Str)), PyData.strOk y = true := fun y hy => by
              obtain ⟨c, hc, rfl⟩ := List.mem_map.mp hy
              have hc2 := (List.mem_filter.mp hc).1
              unfold PyData.strOk at hok ⊢
              rw [← Array.all_toList, List.all_eq_true] at hok
              simpa using hok c hc2
            refine ⟨.list (((z.cps.toList.filter fun c => !(decide (97 ≤ c) && decide (c ≤ 122))).map fun c => (⟨#[c]⟩ : Str)).map PyData.str), .list (([] : List Str).map PyData.str), .lst (SqL.of (same_new hp _ _ hDl)) (dp_strs _), .lst (SqL.of upd_same) (dp_strs []), shaped_list oks, shaped_list (fun c hc => by cases hc), ?_⟩
            rw [PyData.eqv, eqv_strs]
            have e5 : decide (((z.cps.toList.filter fun c => !(decide (97 ≤ c) && decide (c ≤ 122))).map fun c => (⟨#[c]⟩ : Str)) = []) = z.cps.toList.all fun c => decide (97 ≤ c) && decide (c ≤ 122) := by
              rw [Bool.eq_iff_iff, decide_eq_true_eq, List.map_eq_nil_iff, List.filter_eq_nil_iff, List.all_eq_true]
              exact ⟨fun h c hc => by simpa using h c hc, fun h c hc => by simpa using h c hc⟩
            rw [e5]
            have := kk _ (s1.trans (same_new (o := .lst []) hp))
            exact this
        · have d2 : decide ((z.cps.size : Int) < 9) = false := decide_eq_false (by omega)
          rw [d2]
          refine iteT ?_
          have := kk H (Same.refl _)
          rw [decide_eq_false c2, Bool.and_false, Bool.false_and] at this
          exact this
      · have d1 : decide ((0 : Int) < (z.cps.size : Int)) = false := decide_eq_false (by omega)
        rw [d1]
        refine iteF ?_
        refine ⟨_, rfl, ?_⟩
        refine iteT ?_
        have := kk H (Same.refl _)
        rw [decide_eq_false c1, Bool.false_and, Bool.false_and] at this
        exact this
    · refine ⟨_, rfl, _, _, .type t, .type "str", false, rfl, .ty "str", ty, kit_ty hk, _, rfl, ?_⟩
      refine iteT ?_
      exact k
/-- any value: a text, or of another kind -/
def VAny (K : PySem.W.Frag) (H : Hp) (x : V) : Prop := (∃ z, x = .str z ∧ z.cps.size ≤ 1000 ∧ PyData.strOk z = true) ∨ ((∀ z, x ≠ .str z) ∧ ∃ t : String, TyX K H x (.type t) ∧ kitB t "str" = some false)
def colV : V → Bool
  | .str z => colS z
  | _ => false
theorem colV_not {x : V} (h : ∀ z, x ≠ .str z) : colV x = false := by
  cases x with
  | str z => exact absurd rfl (h z)
  | _ => rfl
theorem colV_str {x : V} (h : colV x = true) : ∃ z, x = .str z ∧ colS z = true := by
  cases x with
  | str z => exact ⟨z, rfl, h⟩
  | _ => cases h
/-- columns, each once -/
def diffB (xs : List V) : Bool := xs.all colV && decide xs.Nodup
def spDiff (K : PySem.W.Frag) : Sp := fun vs H Q _ => ∃ (t : Addr) (xs : List V), vs = [.ref t] ∧ H t = some (.tup xs) ∧ xs.length ≤ 1000 ∧ (∀ H', Same H H' → ∀ x ∈ xs, VAny K H' x) ∧ ∀ H', Same H H' → Q (.bl (diffB xs)) H'
theorem texts_of : ∀ {xs : List V}, xs.all colV = true → ∃ zs : List Str, xs = zs.map V.str
  | [], _ => ⟨[], rfl⟩
  | x :: xs, h => by
    rw [List.all_cons, Bool.and_eq_true] at h
    obtain ⟨z, rfl, _⟩ := colV_str h.1
    obtain ⟨zs, rfl⟩ := texts_of h.2
    exact ⟨z :: zs, rfl⟩
theorem nodup_strs (zs : List Str) : (zs.map V.str).Nodup ↔ zs.Nodup := by
  constructor
  · intro h
    exact List.Pairwise.of_map V.str (fun a b hne e => hne (congrArg V.str e)) h
  · intro h
    exact List.Pairwise.map V.str (fun a b hne e => hne (by injection e)) h
theorem scDiff : FnScope ["things", "thing"] ["things"] (defScope sDiff) := ⟨rfl, rfl, rfl, by decide +kernel, rfl, by decide +kernel, by decide +kernel⟩
theorem ok_diff {f : Addr} {fd : FuncData} (F : Fun K "are_different_columns" "are_different_columns" sDiff f fd) (T : Txt K mg) (cC : Cal P w K mg base 1 "is_column" ["thing"] (spText K colS)) : FnOk P w K mg base CX0 2 f fd ["things"] (spDiff K) := by
  refine F.ok scDiff (fun vs H Q E h => ?_) (fun cdv A outer s H vs Q E hr h => ?_)
  · obtain ⟨t, xs, rfl, _⟩ := h
    rfl
  · obtain ⟨t, xs, rfl, ht, hl, hv, k⟩ := h
    have nd := scDiff.nd
    refine ⟨_, pss_one (ps_ret (pe_and (pe_callB (cr_all rfl) (by rfl) T.all (by decide +kernel) (pa_cons (pe_lc (own := [("thing", 1)]) (g := gName 1) (tt := tYes) rfl nd (pi_tup (pv 0))
        (blkOk_by (N := ["things", "thing"]) (sc := defScope sDiff) (by decide +kernel)) (fun _ _ _ _ _ => pg_name (i := 1) nd rfl (Or.inl rfl)) (fun _ _ _ _ _ => pts_nil)
        (fun _ _ _ _ _ => pe_call cC.G hr rfl cC.m cC.kp cC.b .nil pass0 (pa_cons (pv 1) pa_nil))) pa_nil))
      (pe_one (pe_cmpR op_eq (pe_callB cr_lenX (by rfl) T.len PySem.boot_len (pa_cons (pe_callTy (cr_setY rfl) (by rfl) T.set (by decide +kernel) (pa_cons (pv 0) pa_nil)) pa_nil))
        (pe_callB call_len_seq (by rfl) T.len PySem.boot_len (pa_cons (pv 0) pa_nil)) (nomark _))))), ?_⟩
    refine ⟨_, rfl, t, rfl, ⟨_, SqT.of ht⟩, fun D hD => ?_⟩
    have kk := k
    unfold diffB at kk
    refine lc_tup (K := K) (a := t) (xs := xs) (fun i H' => Same H H' ∧ H' D = some (.lst (((xs.take i).map colV).map V.bl))) ⟨same_new hD, upd_same⟩ (fun i H' _ h => SqT.of (h.1 _ _ ht)) ?_ ?_
    · rintro i x H1 hx ⟨s1, hDl⟩
      have et : xs.take (i + 1) = xs.take i ++ [x] := by rw [List.take_add_one, hx]; rfl
      have hil : i < xs.length := (List.getElem?_eq_some_iff.mp hx).1
      have fin : ∀ (b : Bool) (H2 : Hp), b = colV x → Same H1 H2 → ∃ acc, H2 D = some (.lst acc) ∧ acc.length < sizeLine ∧ Same H (upd H2 D (.lst (acc ++ [V.bl b]))) ∧ (upd H2 D (.lst (acc ++ [V.bl b]))) D = some (.lst (((xs.take (i + 1)).map colV).map V.bl)) := fun b H2 hb s2 => by
        refine ⟨_, s2 _ _ hDl, small1000 ?_, fun b' o ho => ?_, ?_⟩
        · rw [List.length_map, List.length_map, List.length_take]
          omega
        · rw [upd_ne (ne_of_none ho hD)]
          exact s2 _ _ (s1 _ _ ho)
        · rw [upd_same, et, hb]
          simp
      refine ⟨rfl, Exists.intro _ ⟨rfl, x, rfl, ?_⟩⟩
      rcases hv H1 s1 x (List.mem_of_getElem? hx) with ⟨z, rfl, hz, hok⟩ | ⟨hne, tt, ty, hk⟩
      · exact .inl ⟨z, rfl, hz, hok, fun H2 s2 => fin _ H2 rfl s2⟩
      · exact .inr ⟨tt, ty, hk, fin _ H1 (colV_not hne).symm (Same.refl _)⟩
    · rintro H1 ⟨s1, hDl⟩
      rw [List.take_of_length_le (Nat.le_refl _)] at hDl
      refine ⟨D, xs.map colV, rfl, SqL.of hDl, _, rfl, ?_⟩
      have eall : (xs.map colV).all id = xs.all colV := by rw [List.all_map]; rfl
      rw [eall]
      cases ha : xs.all colV with
      | false =>
        refine iteF ?_
        have := kk H1 s1
        rw [ha] at this
        exact this
      | true =>
        refine iteT ?_
        obtain ⟨zs, rfl⟩ := texts_of ha
        rw [List.length_map] at hl
        refine ⟨_, rfl, t, zs, rfl, SqT.of (s1 _ _ ht), hl, fun p n hp hn e => ⟨p, _, n, rfl, upd_same, ?_⟩⟩
        have s2 := s1.trans (same_new (o := SetX P w p (fun z => decide (z ∈ zs)) n) hp)
        refine ⟨_, rfl, t, _, rfl, .inr (SqT.of (s2 _ _ ht)), rfl, ?_⟩
        have e5 : decide (V.int (n : Int) = V.int ((zs.map V.str).length : Int)) = decide (zs.map V.str).Nodup := by
          refine decide_eq_decide.mpr ((Iff.trans ⟨fun h => ?_, fun h => ?_⟩ e).trans (nodup_strs zs).symm)
          · rw [List.length_map] at h
            injection h with h
            omega
          · rw [List.length_map, h]
        rw [e5]
        have := kk _ s2
        rw [ha] at this
        exact this
def lastB (x : V) (zs : List Str) : Bool := match x with
  | .str z => decide (z = "") || (colS z && !decide (z ∈ zs))
  | _ => false
def spLast (K : PySem.W.Frag) : Sp := fun vs H Q _ => ∃ (x : V) (t : Addr) (zs : List Str), vs = [x, .ref t] ∧ H t = some (.tup (zs.map V.str)) ∧ (∀ H', Same H H' → VAny K H' x) ∧ ∀ H', Same H H' → Q (.bl (lastB x zs)) H'
theorem lastB_not {x : V} {zs : List Str} (h : ∀ z, x ≠ .str z) : lastB x zs = false := by
  cases x with
  | str z => exact absurd rfl (h z)
  | _ => rfl
theorem scIsLast : FnScope ["thing", "columns"] ["thing", "columns"] (defScope sIsLast) := ⟨rfl, rfl, rfl, by decide +kernel, rfl, by decide +kernel, by decide +kernel⟩
theorem ok_islast {f : Addr} {fd : FuncData} (F : Fun K "is_last" "is_last" sIsLast f fd) (T : Txt K mg) (cC : Cal P w K mg base 1 "is_column" ["thing"] (spText K colS)) (cE : Cal P w K mg base 1 "is_empty" ["thing"] (spText K fun z => decide (z = ""))) :
    FnOk P w K mg base CX0 2 f fd ["thing", "columns"] (spLast K) := by
  refine F.ok scIsLast (fun vs H Q E h => ?_) (fun cdv A outer s H vs Q E hr h => ?_)
  · obtain ⟨x, t, zs, rfl, _⟩ := h
    rfl
  · obtain ⟨x, t, zs, rfl, ht, hv, k⟩ := h
    refine ⟨_, pss_one (ps_ret (pe_or (pe_call cE.G hr rfl cE.m cE.kp cE.b .nil pass0 (pa_cons (pv 0) pa_nil)) (pe_one (pe_and (pe_call cC.G hr rfl cC.m cC.kp cC.b .nil pass0 (pa_cons (pv 0) pa_nil))
      (pe_one (pe_cmpR op_notIn_seq (pv 0) (pv 1) (by rfl))))))), ?_⟩
    refine ⟨_, rfl, x, rfl, ?_⟩
    rcases hv H (Same.refl _) with ⟨z, rfl, hz, hok⟩ | ⟨hne, tt, ty, hk⟩
    · refine .inl ⟨z, rfl, hz, hok, fun H1 s1 => ⟨_, rfl, ?_⟩⟩
      have kk : ∀ H', Same H H' → Q (.bl (decide (z = "") || (colS z && !decide (z ∈ zs)))) H' := k
      show if decide (z = "") = true then _ else _
      by_cases he : z = ""
      · rw [decide_eq_true he] at kk ⊢
        refine iteT ?_
        exact kk H1 s1
      · rw [decide_eq_false he] at kk ⊢
        refine iteF ?_
        refine ⟨_, rfl, _, rfl, .inl ⟨z, rfl, hz, hok, fun H2 s2 => ⟨_, rfl, ?_⟩⟩⟩
        have s3 := s1.trans s2
        cases hc : colS z with
        | false =>
          refine iteF ?_
          have := kk H2 s3
          rw [hc] at this
          exact this
        | true =>
          refine iteT ?_
          refine ⟨_, rfl, _, rfl, t, _, rfl, .inr (SqT.of (s3 _ _ ht)), rfl, flat_strs _, ?_⟩
          have := kk H2 s3
          rw [hc] at this
          show Q (.bl (!inV (.str z) (zs.map V.str))) H2
          rw [inV_strs]
          exact this
    · refine .inr ⟨tt, ty, hk, _, rfl, ?_⟩
      refine iteF ?_
      refine ⟨_, rfl, x, rfl, .inr ⟨tt, ty, hk, _, rfl, ?_⟩⟩
      refine iteF ?_
      have := k H (Same.refl _)
      rw [lastB_not hne] at this
      exact this
theorem scAlike : FnScope ["_law_found", "_law_due_here"] ["_law_found", "_law_due_here"] (defScope sAlike) := ⟨rfl, rfl, rfl, by decide +kernel, rfl, by decide +kernel, by decide +kernel⟩
theorem ok_alike {f : Addr} {fd : FuncData} (F : Fun K "_law_alike" "_law_alike" sAlike f fd) (T : Txt K mg) : FnG P w K mg base 1 f fd ["_law_found", "_law_due_here"] (spAlikeD K) := by
  refine okG F scAlike (fun vs H Q E h => ?_) (fun cdv A outer s H vs Q E hr hg h => ?_)
  · obtain ⟨x, y, d, rfl, _⟩ := h
    rfl
  · obtain ⟨x, y, d, rfl, h1, h2, hd, k⟩ := h
    have lay := fine_lay d hd.f
    have hdp : d.depth ≤ 60 := Nat.le_trans hd.dp (by decide)
    refine ⟨_, pss_one (ps_ret (pe_and (pe_cmpR (op_eqD hr.units) (pv 0) (pv 1) (nomark _)) (pe_one (pe_cmpR op_eq (pe_callB (call_reprD hg hr.units) (by rfl) T.repr (by decide +kernel) (pa_cons (pv 0) pa_nil))
      (pe_callB (call_reprD hg hr.units) (by rfl) T.repr (by decide +kernel) (pa_cons (pv 1) pa_nil)) (nomark _))))), ?_⟩
    refine ⟨_, rfl, _, rfl, d, d, h1, h2, hd.shaped, hd.shaped, _, rfl, ?_⟩
    rw [SeqAt.eqv_refl d lay.1]
    refine iteT ?_
    refine ⟨_, rfl, x, d, rfl, h1, lay.2.1, lay.2.2, hd.len, hdp, _, rfl, y, d, rfl, h2, lay.2.1, lay.2.2, hd.len, hdp, rfl, ?_⟩
    show Q (.bl (decide (V.str d.shown = V.str d.shown))) H
    rw [decide_eq_true rfl]
    exact k
/-- self.f = x -/
def spInitE (K : PySem.W.Frag) (f : Str) : Sp := fun vs H Q _ => ∃ (a C : Addr) (x : V), vs = [.ref a, x] ∧ OexC K C ∧ PySem.W.findIn K (.ref C) f = some none ∧ H a = some (exo a C none) ∧
  ∀ d, H d = none → d ≠ a → Q .non (upd (upd H d (exd d [(f, x)])) a (exo a C (some d)))
theorem scInit : FnScope ["self", "place"] ["self", "place"] (defScope sInit) := ⟨rfl, rfl, rfl, by decide +kernel, rfl, by decide +kernel, by decide +kernel⟩
theorem ok_init {f : Addr} {fd : FuncData} (F : Fun K "__init__" "Wrong.__init__" sInit f fd) : FnOk P w K mg base CX0 1 f fd ["self", "place"] (spInitE K "place") := by
  refine F.ok scInit (fun vs H Q E h => ?_) (fun cdv A outer s H vs Q E hr h => ?_)
  · obtain ⟨a, C, x, rfl, _⟩ := h
    rfl
  · obtain ⟨a, C, x, rfl, T, no, ha, q⟩ := h
    exact ⟨_, pss_one (ps_ost (pv 0) (pv 1)), _, rfl, _, rfl, a, C, rfl, T, no, .inl ⟨ha, fun d hd hda => q d hd hda⟩⟩
theorem mk_read {C : Addr} {x : V} {H1 : Hp} {R : XK} (TE : TxE K mg C) (h : ∀ d, H1 d = none → R (.ref C) (some d) (upd H1 d (.xd [("place", x)]))) : ∀ a, H1 a = none → spInitE K "place" (.ref a :: ([x] ++ [])) (upd H1 a (exo a C none))
    (fun v H2 => v = .non ∧ ∃ (d : Addr) (fs : List (Str × V)), H2 a = some (exo a C (some d)) ∧ H2 d = some (exd d fs) ∧ H1 d = none ∧ R (.ref C) (some d) (upd (del H2 a) d (.xd fs))) (fun _ _ _ => False) := fun e he => by
  refine ⟨e, C, x, rfl, TE.er.o, TE.no, upd_same, fun d hd hda => ⟨rfl, d, [("place", x)], upd_same, by rw [upd_ne hda]; exact upd_same, ?_, ?_⟩⟩
  · rw [upd_ne hda] at hd
    exact hd
  · rw [upd_ne hda] at hd
    have eH : upd (del (upd (upd (upd H1 e (exo e C none)) d (exd d [("place", x)])) e (exo e C (some d))) e) d (.xd [("place", x)]) = upd H1 d (.xd [("place", x)]) := by
      funext b
      by_cases hbd : b = d
      · rw [hbd, upd_same, upd_same]
      · rw [upd_ne hbd, upd_ne hbd]
        by_cases hbe : b = e
        · rw [hbe, del_same, he]
        · rw [del_ne hbe, upd_ne hbe, upd_ne hbd, upd_ne hbe]
    rw [eH]
    exact h d hd
def strsOf : List V → List Str
  | [] => []
  | .str z :: r => z :: strsOf r
  | _ :: r => strsOf r
theorem strsOf_map : ∀ zs : List Str, strsOf (zs.map V.str) = zs
  | [] => rfl
  | z :: r => by
    show z :: strsOf (r.map V.str) = _
    rw [strsOf_map r]
/-- what asking does: None: it makes a question; else the place of what is wrong -/
def askD (xs : List V) (e : V) : Option Nat := if diffB xs = false ∨ (xs = [] ∧ e = .str "") then some 0 else if lastB e (strsOf xs) = false then some 1 else none
def AskP (K : PySem.W.Frag) (C : Addr) (xs : List V) (e : V) (H : Hp) (Q : VK) (E : XK) : Prop := xs.length ≤ 20 ∧ (∀ H', Same H H' → ∀ x ∈ xs, VAny K H' x) ∧ (∀ H', Same H H' → VAny K H' e) ∧
  (∀ (n : Nat) (H' : Hp) (d : Addr), Same H H' → H' d = none → askD xs e = some n → E (.ref C) (some d) (upd H' d (.xd [("place", .int (n : Int))]))) ∧
  (∀ (H' : Hp) (t c : Addr) (zs : List Str) (z : Str), Same H H' → askD xs e = none → xs = zs.map V.str → e = .str z → H' c = some (.tup ((srt zs).map V.str)) → H' t = some (.tup [.ref c, .str z]) → Q (.ref t) H')
theorem AskP.same {C : Addr} {xs : List V} {e : V} {H H2 : Hp} {Q : VK} {E : XK} (s : Same H H2) (h : AskP K C xs e H Q E) : AskP K C xs e H2 Q E := by
  obtain ⟨h1, h2, h3, h4, h5⟩ := h
  exact ⟨h1, fun H' s' => h2 H' (s.trans s'), fun H' s' => h3 H' (s.trans s'), fun n H' d s' => h4 n H' d (s.trans s'), fun H' t c zs z s' => h5 H' t c zs z (s.trans s')⟩
theorem scAsking : FnScope ["last", "columns"] ["last", "columns"] (defScope sAsking) := ⟨rfl, rfl, rfl, by decide +kernel, rfl, by decide +kernel, by decide +kernel⟩
theorem ask_body {f C fI : Addr} {fdI : FuncData} {cdv : Value} {A : Around} {outer : List Env} {s : Shared} {H : Hp} {xs : List V} {e : V} {p : Addr} {Q : VK} {E : XK} (T : Txt K mg) (TE : TxE K mg C) (iC : PySem.W.findIn K (.ref C) "__init__" = some (some (.ref fI))) (tI : PySem.W.typeIn K (.ref fI) = some (.type "function"))
    (FI : FnOk P w K mg base CX0 1 fI fdI ["self", "place"] (spInitE K "place")) (bI : Binds K fdI ["self", "place"] [])
    (cD : Cal P w K mg base 2 "are_different_columns" ["things"] (spDiff K)) (cE : Cal P w K mg base 1 "is_empty" ["thing"] (spText K fun z => decide (z = ""))) (cL : Cal P w K mg base 2 "is_last" ["thing", "columns"] (spLast K))
    (hr : Room 2 (A.deeper (envOfC "asking" (defScope sAsking) s.heap.objs.size f cdv))) (hp : H p = some (.tup xs)) (h : AskP K C xs e H Q E) :
    ∃ t, PSs (cxOf (L2.CX P w) P w K mg base ["last", "columns"] "asking" (defScope sAsking) f cdv A outer s H E) (defBody sAsking) t ∧ t { nx := fun _ H' => Q .non H', rt := Q } (start ["last", "columns"] [e, .ref p]) H := by
  obtain ⟨hl, hv, hve, hE, hQ⟩ := h
  have nd := scAsking.nd
  have hr1 : Room 1 _ := hr.mono (by decide)
  refine ⟨_, Evl.pss_cut (ps_if (PW.pt (pw_or (pt_not (pt_val (pe_call cD.G hr rfl cD.m cD.kp cD.b .nil pass0 (pa_cons (pv 1) pa_nil))))
        (pw_or1 (PW.pt (pw_and (pt_cmpR (op_eqD hr.units) (pv 1) (pe_tup pa_nil) (nomark _)) (pw_and1 (pt_val (pe_call cE.G hr1 rfl cE.m cE.kp cE.b .nil pass0 (pa_cons (pv 0) pa_nil)))))))))
      (pss_one (ps_raise rfl (takes_of rfl rfl rfl rfl) (pmk_oex TE.er.o iC tI FI hr bI .nil pass0 rfl TE.m (pa_cons pe_int pa_nil)))) pss_nil)
    (pss_cons (ps_if (pt_not (pt_val (pe_call cL.G hr rfl cL.m cL.kp cL.b .nil pass0 (pa_cons (pv 0) (pa_cons (pv 1) pa_nil)))))
      (pss_one (ps_raise rfl (takes_of rfl rfl rfl rfl) (pmk_oex TE.er.o iC tI FI hr bI .nil pass0 rfl TE.m (pa_cons pe_int pa_nil)))) pss_nil)
    (pss_one (ps_ret (pe_tup (pa_cons (pe_callTy call_tuple_of (by rfl) T.tuple (by decide +kernel) (pa_cons (pe_callB cr_sortedST (by rfl) T.sorted (by decide +kernel) (pa_cons (pv 1) pa_nil)) pa_nil)) (pa_cons (pv 0) pa_nil)))))), ?_⟩
  refine ⟨fun σ' H' => σ' = [some e, some (.ref p)] ∧ Same H H' ∧ diffB xs = true ∧ ¬(xs = [] ∧ e = .str ""), ?_, ?_⟩
  · refine ⟨_, rfl, p, xs, rfl, hp, by omega, hv, fun H1 s1 => ⟨_, rfl, ?_⟩⟩
    cases hd : diffB xs with
    | false =>
      refine iteT ?_
      exact ⟨by show 1 ≤ 1000; decide, mk_read TE fun d hdn => hE 0 H1 d s1 hdn (by unfold askD; rw [if_pos (.inl hd)])⟩
    | true =>
      refine iteF ?_
      have hd2 := hd
      unfold diffB at hd2
      rw [Bool.and_eq_true] at hd2
      obtain ⟨zs, rfl⟩ := texts_of hd2.1
      have zok : ∀ c ∈ zs, PyData.strOk c = true := fun c hc => by
        rcases hv H (Same.refl _) (.str c) (List.mem_map_of_mem hc) with ⟨z, e1, _, h3⟩ | ⟨h1, _⟩
        · cases e1
          exact h3
        · exact absurd rfl (h1 c)
      refine ⟨_, rfl, by decide, fun e0 he0 => ?_⟩
      have s2 := s1.trans (same_new (o := .tup []) he0)
      refine ⟨.tuple (zs.map PyData.str), .tuple (([] : List Str).map PyData.str), .tup (SqT.of (s2 _ _ hp)) (dp_strs zs), .tup (SqT.of upd_same) (dp_strs []), shaped_tuple zok, shaped_tuple (fun c h => (nomatch h)), _, rfl, ?_⟩
      show if PyData.eqv (.tuple (zs.map PyData.str)) (.tuple (([] : List Str).map PyData.str)) = true then _ else _
      rw [PyData.eqv, eqv_strs]
      by_cases hn : zs = []
      · rw [decide_eq_true hn]
        refine iteT ?_
        refine ⟨_, rfl, e, rfl, ?_⟩
        rcases hve _ s2 with ⟨z, rfl, hz, hok⟩ | ⟨hne, tt, ty, hk⟩
        · refine .inl ⟨z, rfl, hz, hok, fun H3 s3 => ⟨_, rfl, ?_⟩⟩
          show if decide (z = "") = true then _ else _
          by_cases hz0 : z = ""
          · rw [decide_eq_true hz0]
            refine iteT ?_
            exact ⟨by show 1 ≤ 1000; decide, mk_read TE fun d hdn => hE 0 H3 d (s2.trans s3) hdn (by unfold askD; rw [if_pos (.inr ⟨by rw [hn]; rfl, by rw [hz0]⟩)])⟩
          · rw [decide_eq_false hz0]
            refine iteF ?_
            exact ⟨rfl, s2.trans s3, rfl, fun h => hz0 (by injection h.2)⟩
        · refine .inr ⟨tt, ty, hk, _, rfl, ?_⟩
          refine iteF ?_
          exact ⟨rfl, s2, rfl, fun h => hne _ h.2⟩
      · rw [decide_eq_false hn]
        refine iteF ?_
        exact ⟨rfl, s2, rfl, fun h => hn (List.map_eq_nil_iff.mp h.1)⟩
  · rintro σ' H1 ⟨rfl, s1, hd, hne⟩
    have hd2 := hd
    unfold diffB at hd2
    rw [Bool.and_eq_true] at hd2
    obtain ⟨zs, rfl⟩ := texts_of hd2.1
    have n0 : ¬ (diffB (zs.map V.str) = false ∨ (zs.map V.str = [] ∧ e = .str "")) := fun h => h.elim (fun h => by rw [hd] at h; cases h) hne
    refine ⟨_, rfl, _, rfl, e, p, zs, rfl, s1 _ _ hp, fun H' s' => hve H' (s1.trans s'), fun H2 s2 => ⟨_, rfl, ?_⟩⟩
    have s12 := s1.trans s2
    cases hlb : lastB e zs with
    | false =>
      refine iteT ?_
      exact ⟨by show 1 ≤ 1000; decide, mk_read TE fun d hdn => hE 1 H2 d s12 hdn (by unfold askD; rw [if_neg n0, strsOf_map, if_pos hlb])⟩
    | true =>
      refine iteF ?_
      rw [List.length_map] at hl
      have ea : askD (zs.map V.str) e = none := by
        unfold askD
        rw [if_neg n0, strsOf_map, hlb]
        rfl
      obtain ⟨z, rfl⟩ : ∃ z, e = .str z := by
        cases e with
        | str z => exact ⟨z, rfl⟩
        | _ => cases hlb
      refine ⟨_, rfl, p, zs, rfl, .inr (SqT.of (s12 _ _ hp)), by omega, fun ws q hw hs hq => ⟨q, _, rfl, .inl ⟨SqL.of upd_same, fun c hc => ⟨_, rfl, by show 2 ≤ sizeLine; decide, fun t ht => ?_⟩⟩⟩⟩
      have s3 := same_new (o := .lst (ws.map V.str)) hq
      have s4 := same_new (o := .tup (ws.map V.str)) hc
      have s5 := same_new (o := .tup [.ref c, .str z]) ht
      have ew : ws = srt zs := srt_eq hw hs
      refine hQ _ t c zs z (s12.trans (s3.trans (s4.trans s5))) ea rfl rfl ?_ upd_same
      rw [← ew]
      exact s5 _ _ upd_same
/-! ### how asking's arguments are bound -/
theorem bind_kw (kV doc pm cdv ct e : Value) (an : Option Addr) : ∀ us : List Value, bindArgs (PySem.W.fnOf "asking" "asking" (defArgs sAsking) (defBody sAsking) (defScope sAsking) .none kV doc pm an cdv ct) ⟨us, [("last", e)]⟩ = (newTuple us >>= fun t => pure [(("last" : Str), e), (("columns" : Str), t)])
  | [] => by rfl
  | _ :: _ => by rfl
theorem bind_kd (D : Addr) (doc pm cdv ct v : Value) (an : Option Addr) (us : List Value) : ∃ (β γ : Type) (k1 : Option Value → Sem β) (k2 : β → Sem γ) (k3 : γ → Sem (List (Str × Value))) (a : β),
    bindArgs (PySem.W.fnOf "asking" "asking" (defArgs sAsking) (defBody sAsking) (defScope sAsking) .none (.ref D) doc pm an cdv ct) ⟨us, []⟩ = ((nsGet D "last" >>= k1) >>= k2) >>= k3 ∧ k1 (some v) = pure a ∧ (k2 a >>= k3) = (newTuple us >>= fun t => pure [(("last" : Str), v), (("columns" : Str), t)]) := by
  cases us with
  | nil => exact ⟨_, _, _, _, _, _, rfl, rfl, rfl⟩
  | cons a r => exact ⟨_, _, _, _, _, _, rfl, rfl, rfl⟩
theorem iteFb {b : Bool} {P Q : Prop} (hb : b = false) (h : Q) : if b = true then P else Q := by
  subst hb
  exact iteF h
theorem iteTb {b : Bool} {P Q : Prop} (hb : b = true) (h : P) : if b = true then P else Q := by
  subst hb
  exact iteT h
/-- a call of asking -/
structure AskR (P : Program) (w : World) (K : PySem.W.Frag) (mg : Str → Option Value) (base : Heap) (C f : Addr) : Prop where
  kw : ∀ (A : Around) (outer : List Env) (s : Shared) (H : Hp) (us : List Value) (eu : Value) (vs : List V) (e : V) (Q : VK) (E : XK), Room 3 A → Env0 P w K mg base A outer s H → Vals vs us → RelV e eu → AskP K C vs e H Q E →
    codeAny (model P w) A (.call (.ref f) ⟨us, [("last", eu)]⟩) (CR (L2.CX P w) outer P w H s Q E) s
  kd : ∀ (A : Around) (outer : List Env) (s : Shared) (H : Hp) (us : List Value) (vs : List V) (Q : VK) (E : XK), Room 3 A → Env0 P w K mg base A outer s H → Vals vs us → AskP K C vs (.str "") H Q E →
    codeAny (model P w) A (.call (.ref f) ⟨us, []⟩) (CR (L2.CX P w) outer P w H s Q E) s
  m : mg "asking" = some (.ref f)
  kp : PySem.W.keepIn K (.ref f) = true
theorem bnd_ask {CX : CXT} (hCX : StX.CXUp CX) {fd : FuncData} {args : Args} {A : Around} {outer : List Env} {s : Shared} {H : Hp} {us : List Value} {eu : Value} {vs : List V} {e : V} {E : XK} (e0 : Env0 P w K mg base A outer s H) (r : Vals vs us) (re : RelV e eu) (hl : vs.length ≤ 20)
    (hb : ∀ (A' : Around) (Ex : Value → Shared → Prop) (Q : List (Str × Value) → Shared → Prop), wpAny (model P w) A' ((newTuple us >>= fun t => pure [(("last" : Str), eu), (("columns" : Str), t)]) : Sem (List (Str × Value))) Q Ex s → wpAny (model P w) A' (bindArgs fd args) Q Ex s) :
    StX.Bnd CX P w K mg base fd args ["last", "columns"] A outer s H E (fun ys H2 => ∃ p, H p = none ∧ ys = [e, .ref p] ∧ H2 = upd H p (.tup vs)) := fun A' Ex Q' h => by
  have hn : H s.heap.objs.size = none := e0.hok.fresh (Nat.le_refl _)
  have hz : vs.length ≤ sizeLine := by rw [sizeLine_eq]; omega
  have hl2 : us.length ≤ sizeLine := by rw [← r.length]; exact hz
  refine hb _ _ _ (wpAny_bind (wpAny_newTuple (wpAny_pure ?_) hl2))
  have new : ObjOk P w (upd H s.heap.objs.size (.tup vs)) (s.heap.push ({ cls := .type "tuple", data := .seq us.toArray } : Obj)) s.heap.objs.size (.tup vs) := ⟨hz, us, r, ⟨_, Heap.get?_push_size _ rfl, rfl, _, rfl⟩⟩
  have un := StX.un_laid (fs := frs outer) (s := s) (o := ({ cls := .type "tuple", data := .seq us.toArray } : Obj)) (u := .tup vs) hn
  exact h _ _ [e, V.ref s.heap.objs.size] [eu, Value.ref s.heap.objs.size] (StX.env0_laid e0 new) un rfl (fun e s' => hCX outer s H _ _ E e s' un (fun b o q => Heap.get?_push_of_some _ q) rfl) (.cons re (.cons rfl .nil)) rfl ⟨_, hn, rfl, rfl⟩
theorem ask_run {f C fI D : Addr} {fdI : FuncData} {oc doc pm cdv ct : Value} {od an : Option Addr} {osl : Array (Option Value)} {tk : Tok} (T : Txt K mg) (TE : TxE K mg C)
    (lk : K.lookup f = some ⟨oc, od, .func (PySem.W.fnOf "asking" "asking" (defArgs sAsking) (defBody sAsking) (defScope sAsking) .none (.ref D) doc pm an cdv ct), osl⟩) (hcd : PySem.W.codeIn K cdv "asking" = true)
    (hD : PySem.W.nsIn K D "last" = some (some (.str "" tk))) (m : mg "asking" = some (.ref f)) (kp : PySem.W.keepIn K (.ref f) = true)
    (iC : PySem.W.findIn K (.ref C) "__init__" = some (some (.ref fI))) (tI : PySem.W.typeIn K (.ref fI) = some (.type "function"))
    (FI : FnOk P w K mg base CX0 1 fI fdI ["self", "place"] (spInitE K "place")) (bI : Binds K fdI ["self", "place"] [])
    (cD : Cal P w K mg base 2 "are_different_columns" ["things"] (spDiff K)) (cE : Cal P w K mg base 1 "is_empty" ["thing"] (spText K fun z => decide (z = ""))) (cL : Cal P w K mg base 2 "is_last" ["thing", "columns"] (spLast K)) : AskR P w K mg base C f := by
  refine ⟨fun A outer s H us eu vs e Q E hr e0 r re h => ?_, fun A outer s H us vs Q E hr e0 r h => ?_, m, kp⟩
  · refine StX.run_bnd lk hcd scAsking hr e0 (bnd_ask StX.cxUp e0 r re h.1 fun A' Ex Q' h => ?_) fun s2 H2 ys ⟨p, hp, ex, eH⟩ hr' => ?_
    · rw [bind_kw]
      exact h
    · subst ex eH
      exact ask_body T TE iC tI FI bI cD cE cL hr' upd_same (h.same (same_new hp))
  · refine StX.run_bnd lk hcd scAsking hr e0 (bnd_ask (eu := .str "" tk) (e := .str "") StX.cxUp e0 r ⟨tk, rfl⟩ h.1 fun A' Ex Q' h => ?_) fun s2 H2 ys ⟨p, hp, ex, eH⟩ hr' => ?_
    · obtain ⟨β, γ, k1, k2, k3, a, e1, e2, e3⟩ := bind_kd D doc pm cdv ct (.str "" tk) an us
      have KX : K.In s.heap := e0.mod.kin.keeps fun b o e => (e0.bs b o e).1
      have l1 : PySem.W.Looks (model P w) s.heap (nsGet D "last" >>= k1) a := (PySem.W.looks_nsIn KX hD).andThen (PySem.W.Looks.of_pure e2)
      rw [e1, bind_assoc]
      refine wpAny_bind (l1.here ?_)
      rw [e3]
      exact h
    · subst ex eH
      exact ask_body T TE iC tI FI bI cD cE cL hr' upd_same (h.same (same_new hp))
def tAsk (K : PySem.W.Frag) (C : Addr) (E : L2.St → XK) (t tk : TA) : TE := fun σ H Q => t σ H fun vs H1 => tk σ H1 fun zs H2 => ∃ e, zs = [e] ∧ AskP K C vs e H2 Q (E σ)
def tAskD (K : PySem.W.Frag) (C : Addr) (E : L2.St → XK) (t : TA) : TE := fun σ H Q => t σ H fun vs H1 => AskP K C vs (.str "") H1 Q (E σ)
section
variable {X : Cx} {C f : Addr} {E : L2.St → XK} {p pos : Pos} {e : Expr} {es : List Expr} {kws : List Keyword} {t tk : TA}
theorem run_askK {pins : List (Addr × Obj)} {σ : L2.St} {H : Hp} {s : Shared} {Q : VK} {us : List Value} {eu : Value} {vs : List V} {ev : V} (R : AskR X.prog X.w X.K X.mg X.base C f) (hr : Room 3 X.A) (hx : PassesAt (L2.CX X.prog X.w) X σ (E σ))
    (I : Inv X pins σ H s) (r : Vals vs us) (re : RelV ev eu) (h : AskP X.K C vs ev H Q (E σ)) : wpAny (model X.prog X.w) X.A (call (.ref f) us [("last", eu)]) (EP X pins σ Q) X.xe s := by
  refine wpAny_call (codeAny_mono (R.kw X.A X.stack s H us eu vs ev Q (E σ) hr I.env0 r re h) fun r s' hq => ?_)
  cases r with
  | error e => exact hx pins H s e s' I hq
  | ok fl =>
    cases fl with
    | ret u => exact I.after hq
    | next => exact False.elim hq
    | brk => exact False.elim hq
    | cont => exact False.elim hq
theorem run_askD {pins : List (Addr × Obj)} {σ : L2.St} {H : Hp} {s : Shared} {Q : VK} {us : List Value} {vs : List V} (R : AskR X.prog X.w X.K X.mg X.base C f) (hr : Room 3 X.A) (hx : PassesAt (L2.CX X.prog X.w) X σ (E σ))
    (I : Inv X pins σ H s) (r : Vals vs us) (h : AskP X.K C vs (.str "") H Q (E σ)) : wpAny (model X.prog X.w) X.A (call (.ref f) us) (EP X pins σ Q) X.xe s := by
  refine wpAny_call (codeAny_mono (R.kd X.A X.stack s H us vs Q (E σ) hr I.env0 r h) fun r s' hq => ?_)
  cases r with
  | error e => exact hx pins H s e s' I hq
  | ok fl =>
    cases fl with
    | ret u => exact I.after hq
    | next => exact False.elim hq
    | brk => exact False.elim hq
    | cont => exact False.elim hq
/-- asking(e, .., last=k) -/
theorem pe_askK (R : AskR X.prog X.w X.K X.mg X.base C f) (hr : Room 3 X.A) (hg : Gl X "asking") (hx : ∀ σ, PassesAt (L2.CX X.prog X.w) X σ (E σ)) (ha : PA X (e :: es) t) (hkw : PK X kws tk)
    (hall : (backToKw pos (keywordEach kws X.env)).all (·.1.isSome) = true := by rfl) (hks : (backToKw pos (keywordEach kws X.env)).filterMap (·.1) = [("last" : Str)] := by rfl) (he : starEach (e :: es) X.env = (false, eval e X.env) :: starEach es X.env := by rfl)
    (hpl : ((backTo pos (starEach (e :: es) X.env)).any (·.1) || (backToKw pos (keywordEach kws X.env)).any (·.1.isNone)) = false := by rfl) : PE X (.Call (.Name "asking" p) (e :: es) kws pos) (tAsk X.K C E t tk) := by
  refine ⟨fun pins s σ H Q I h => ?_⟩
  refine wpAny_Call_Name_kw (ld_glob I hg R.m ?_ (by decide))
  refine PySem.W.callWith_KW (h₀ := X.base) I.ok.mod.kin R.kp hall (thn (ha.run pos pins s σ H _ I h) fun us s1 ⟨vs, H1, I1, r, q⟩ => ?_) hpl he
  refine thn (hkw.run pos pins s1 σ H1 _ I1 q) fun ws s2 ⟨zs, H2, I2, rz, ev, l1, q2⟩ => ⟨I2.kIn, ?_⟩
  rw [hks]
  subst l1
  obtain ⟨eu, rfl, re⟩ := rz.one
  exact run_askK R hr (hx σ) I2 r re q2
/-- asking(last=k) -/
theorem pe_askK0 (R : AskR X.prog X.w X.K X.mg X.base C f) (hr : Room 3 X.A) (hg : Gl X "asking") (hx : ∀ σ, PassesAt (L2.CX X.prog X.w) X σ (E σ)) (hkw : PK X kws tk)
    (hall : (backToKw pos (keywordEach kws X.env)).all (·.1.isSome) = true := by rfl) (hks : (backToKw pos (keywordEach kws X.env)).filterMap (·.1) = [("last" : Str)] := by rfl)
    (hpl : ((backTo pos (starEach [] X.env)).any (·.1) || (backToKw pos (keywordEach kws X.env)).any (·.1.isNone)) = false := by rfl) : PE X (.Call (.Name "asking" p) [] kws pos) (tAsk X.K C E tNil tk) := by
  refine ⟨fun pins s σ H Q I h => ?_⟩
  refine wpAny_Call_Name_kw (ld_glob I hg R.m ?_ (by decide))
  refine PySem.W.callWith_KW0 (h₀ := X.base) I.ok.mod.kin R.kp hall ?_ hpl
  refine thn (hkw.run pos pins s σ H _ I h) fun ws s2 ⟨zs, H2, I2, rz, ev, l1, q2⟩ => ⟨I2.kIn, ?_⟩
  rw [hks]
  subst l1
  obtain ⟨eu, rfl, re⟩ := rz.one
  exact run_askK R hr (hx σ) I2 .nil re q2
/-- asking(e, ..) -/
theorem pe_askD (R : AskR X.prog X.w X.K X.mg X.base C f) (hr : Room 3 X.A) (hg : Gl X "asking") (hx : ∀ σ, PassesAt (L2.CX X.prog X.w) X σ (E σ)) (ha : PA X (e :: es) t)
    (he : starEach (e :: es) X.env = (false, eval e X.env) :: starEach es X.env := by rfl) (hpl : (backTo pos (starEach es X.env)).any (·.1) = false := by rfl) : PE X (.Call (.Name "asking" p) (e :: es) [] pos) (tAskD X.K C E t) := by
  refine ⟨fun pins s σ H Q I h => ?_⟩
  refine wpAny_Call_Name_kw (ld_glob I hg R.m ?_ (by decide))
  refine PySem.W.callWith_K (h₀ := X.base) I.ok.mod.kin R.kp (thn (ha.run pos pins s σ H _ I h) fun us s1 ⟨vs, H1, I1, r, q⟩ => ⟨I1.kIn, ?_⟩) he hpl
  exact run_askD R hr (hx σ) I1 r q
/-- asking() -/
theorem pe_askD0 (R : AskR X.prog X.w X.K X.mg X.base C f) (hr : Room 3 X.A) (hg : Gl X "asking") (hx : ∀ σ, PassesAt (L2.CX X.prog X.w) X σ (E σ)) : PE X (.Call (.Name "asking" p) [] [] pos) (tAskD X.K C E tNil) := by
  refine ⟨fun pins s σ H Q I h => ?_⟩
  refine wpAny_Call_Name_kw (ld_glob I hg R.m ?_ (by decide))
  exact PySem.W.callWith_K0 I.kIn R.kp (run_askD (us := []) R hr (hx σ) I .nil h)
end
def askLen (xs : List V) : Prop := xs.length = 0 ∨ xs.length = 1 ∨ xs.length = 2 ∨ xs.length = 3 ∨ xs.length = 4 ∨ xs.length = 5 ∨ xs.length = 8 ∨ xs.length = 12
def spMade (C : Addr) (K : PySem.W.Frag) : Sp := fun vs H Q E => ∃ (a : Addr) (xs : List V) (e : V), vs = [.ref a, e] ∧ H a = some (.lst xs) ∧ askLen xs ∧ AskP K C xs e H Q E
theorem scMade : FnScope ["_law_some", "_law_end"] ["_law_some", "_law_end"] (defScope sMade) := ⟨rfl, rfl, rfl, by decide +kernel, rfl, by decide +kernel, by decide +kernel⟩
theorem ok_made {f C g : Addr} {fd : FuncData} (F : Fun K "_law_made" "_law_made" sMade f fd) (T : Txt K mg) (R : AskR P w K mg base C g) : FnOk P w K mg base (L2.CX P w) 4 f fd ["_law_some", "_law_end"] (spMade C K) := by
  refine F.okX scMade (fun vs H Q E h => ?_) (fun cdv A outer s H vs Q E hr h => ?_)
  · obtain ⟨a, xs, e, rfl, _⟩ := h
    rfl
  · obtain ⟨a, xs, e, rfl, ha, hn, h⟩ := h
    refine ⟨_, pss_cons (ps_if (pt_cmpR op_eq (pe_callB call_len_seq (by rfl) T.len PySem.boot_len (pa_cons (pv 0) pa_nil)) pe_int (nomark _)) (pss_one (ps_ret (pe_askK0 R hr rfl (fun σ => passAt (takes_of rfl rfl rfl rfl) σ) (pk_cons (pv 1) pk_nil)))) pss_nil)
      (pss_cons (ps_if (pt_cmpR op_eq (pe_callB call_len_seq (by rfl) T.len PySem.boot_len (pa_cons (pv 0) pa_nil)) pe_int (nomark _)) (pss_one (ps_ret (pe_askK R hr rfl (fun σ => passAt (takes_of rfl rfl rfl rfl) σ) (pa_cons (pe_ix ix_list (pv 0) pe_int fun _ _ => rfl) pa_nil) (pk_cons (pv 1) pk_nil)))) pss_nil)
      (pss_cons (ps_if (pt_cmpR op_eq (pe_callB call_len_seq (by rfl) T.len PySem.boot_len (pa_cons (pv 0) pa_nil)) pe_int (nomark _)) (pss_one (ps_ret (pe_askK R hr rfl (fun σ => passAt (takes_of rfl rfl rfl rfl) σ) (pa_cons (pe_ix ix_list (pv 0) pe_int fun _ _ => rfl) (pa_cons (pe_ix ix_list (pv 0) pe_int fun _ _ => rfl) pa_nil)) (pk_cons (pv 1) pk_nil)))) pss_nil)
      (pss_cons (ps_if (pt_cmpR op_eq (pe_callB call_len_seq (by rfl) T.len PySem.boot_len (pa_cons (pv 0) pa_nil)) pe_int (nomark _)) (pss_one (ps_ret (pe_askK R hr rfl (fun σ => passAt (takes_of rfl rfl rfl rfl) σ) (pa_cons (pe_ix ix_list (pv 0) pe_int fun _ _ => rfl) (pa_cons (pe_ix ix_list (pv 0) pe_int fun _ _ => rfl) (pa_cons (pe_ix ix_list (pv 0) pe_int fun _ _ => rfl) pa_nil))) (pk_cons (pv 1) pk_nil)))) pss_nil)
      (pss_cons (ps_if (pt_cmpR op_eq (pe_callB call_len_seq (by rfl) T.len PySem.boot_len (pa_cons (pv 0) pa_nil)) pe_int (nomark _)) (pss_one (ps_ret (pe_askK R hr rfl (fun σ => passAt (takes_of rfl rfl rfl rfl) σ) (pa_cons (pe_ix ix_list (pv 0) pe_int fun _ _ => rfl) (pa_cons (pe_ix ix_list (pv 0) pe_int fun _ _ => rfl) (pa_cons (pe_ix ix_list (pv 0) pe_int fun _ _ => rfl) (pa_cons (pe_ix ix_list (pv 0) pe_int fun _ _ => rfl) pa_nil)))) (pk_cons (pv 1) pk_nil)))) pss_nil)
      (pss_cons (ps_if (pt_cmpR op_eq (pe_callB call_len_seq (by rfl) T.len PySem.boot_len (pa_cons (pv 0) pa_nil)) pe_int (nomark _)) (pss_one (ps_ret (pe_askK R hr rfl (fun σ => passAt (takes_of rfl rfl rfl rfl) σ) (pa_cons (pe_ix ix_list (pv 0) pe_int fun _ _ => rfl) (pa_cons (pe_ix ix_list (pv 0) pe_int fun _ _ => rfl) (pa_cons (pe_ix ix_list (pv 0) pe_int fun _ _ => rfl) (pa_cons (pe_ix ix_list (pv 0) pe_int fun _ _ => rfl) (pa_cons (pe_ix ix_list (pv 0) pe_int fun _ _ => rfl) pa_nil))))) (pk_cons (pv 1) pk_nil)))) pss_nil)
      (pss_cons (ps_if (pt_cmpR op_eq (pe_callB call_len_seq (by rfl) T.len PySem.boot_len (pa_cons (pv 0) pa_nil)) pe_int (nomark _)) (pss_one (ps_ret (pe_askK R hr rfl (fun σ => passAt (takes_of rfl rfl rfl rfl) σ) (pa_cons (pe_ix ix_list (pv 0) pe_int fun _ _ => rfl) (pa_cons (pe_ix ix_list (pv 0) pe_int fun _ _ => rfl) (pa_cons (pe_ix ix_list (pv 0) pe_int fun _ _ => rfl) (pa_cons (pe_ix ix_list (pv 0) pe_int fun _ _ => rfl) (pa_cons (pe_ix ix_list (pv 0) pe_int fun _ _ => rfl) (pa_cons (pe_ix ix_list (pv 0) pe_int fun _ _ => rfl) (pa_cons (pe_ix ix_list (pv 0) pe_int fun _ _ => rfl) (pa_cons (pe_ix ix_list (pv 0) pe_int fun _ _ => rfl) pa_nil)))))))) (pk_cons (pv 1) pk_nil)))) pss_nil)
      (pss_one (ps_ret (pe_askK R hr rfl (fun σ => passAt (takes_of rfl rfl rfl rfl) σ) (pa_cons (pe_ix ix_list (pv 0) pe_int fun _ _ => rfl) (pa_cons (pe_ix ix_list (pv 0) pe_int fun _ _ => rfl) (pa_cons (pe_ix ix_list (pv 0) pe_int fun _ _ => rfl) (pa_cons (pe_ix ix_list (pv 0) pe_int fun _ _ => rfl) (pa_cons (pe_ix ix_list (pv 0) pe_int fun _ _ => rfl) (pa_cons (pe_ix ix_list (pv 0) pe_int fun _ _ => rfl) (pa_cons (pe_ix ix_list (pv 0) pe_int fun _ _ => rfl) (pa_cons (pe_ix ix_list (pv 0) pe_int fun _ _ => rfl) (pa_cons (pe_ix ix_list (pv 0) pe_int fun _ _ => rfl) (pa_cons (pe_ix ix_list (pv 0) pe_int fun _ _ => rfl) (pa_cons (pe_ix ix_list (pv 0) pe_int fun _ _ => rfl) (pa_cons (pe_ix ix_list (pv 0) pe_int fun _ _ => rfl) pa_nil)))))))))))) (pk_cons (pv 1) pk_nil)))))))))), ?_⟩
    rcases hn with hn | hn | hn | hn | hn | hn | hn | hn
    · obtain rfl : xs = [] := List.eq_nil_of_length_eq_zero hn
      refine ⟨_, rfl, a, _, rfl, .inl (SqL.of ha), rfl, _, rfl, ?_⟩
      refine iteTb (by rfl) ?_
      exact ⟨_, rfl, e, rfl, h⟩
    · obtain ⟨x0, rfl⟩ : ∃ x0, xs = [x0] := match xs, hn with | [x0], _ => ⟨_, rfl⟩
      refine ⟨_, rfl, a, _, rfl, .inl (SqL.of ha), rfl, _, rfl, ?_⟩
      refine iteFb (by rfl) ?_
      refine ⟨_, rfl, a, _, rfl, .inl (SqL.of ha), rfl, _, rfl, ?_⟩
      refine iteTb (by rfl) ?_
      exact ⟨_, rfl, a, _, 0, _, rfl, rfl, SqL.of ha, (by exact atI_nat (j := 0) rfl), _, rfl, e, rfl, h⟩
    · obtain ⟨x0, x1, rfl⟩ : ∃ x0 x1, xs = [x0, x1] := match xs, hn with | [x0, x1], _ => ⟨_, _, rfl⟩
      refine ⟨_, rfl, a, _, rfl, .inl (SqL.of ha), rfl, _, rfl, ?_⟩
      refine iteFb (by rfl) ?_
      refine ⟨_, rfl, a, _, rfl, .inl (SqL.of ha), rfl, _, rfl, ?_⟩
      refine iteFb (by rfl) ?_
      refine ⟨_, rfl, a, _, rfl, .inl (SqL.of ha), rfl, _, rfl, ?_⟩
      refine iteTb (by rfl) ?_
      exact ⟨_, rfl, a, _, 0, _, rfl, rfl, SqL.of ha, (by exact atI_nat (j := 0) rfl), _, rfl, a, _, 1, _, rfl, rfl, SqL.of ha, (by exact atI_nat (j := 1) rfl), _, rfl, e, rfl, h⟩
    · obtain ⟨x0, x1, x2, rfl⟩ : ∃ x0 x1 x2, xs = [x0, x1, x2] := match xs, hn with | [x0, x1, x2], _ => ⟨_, _, _, rfl⟩
      refine ⟨_, rfl, a, _, rfl, .inl (SqL.of ha), rfl, _, rfl, ?_⟩
      refine iteFb (by rfl) ?_
      refine ⟨_, rfl, a, _, rfl, .inl (SqL.of ha), rfl, _, rfl, ?_⟩
      refine iteFb (by rfl) ?_
      refine ⟨_, rfl, a, _, rfl, .inl (SqL.of ha), rfl, _, rfl, ?_⟩
      refine iteFb (by rfl) ?_
      refine ⟨_, rfl, a, _, rfl, .inl (SqL.of ha), rfl, _, rfl, ?_⟩
      refine iteTb (by rfl) ?_
      exact ⟨_, rfl, a, _, 0, _, rfl, rfl, SqL.of ha, (by exact atI_nat (j := 0) rfl), _, rfl, a, _, 1, _, rfl, rfl, SqL.of ha, (by exact atI_nat (j := 1) rfl), _, rfl, a, _, 2, _, rfl, rfl, SqL.of ha, (by exact atI_nat (j := 2) rfl), _, rfl, e, rfl, h⟩
    · obtain ⟨x0, x1, x2, x3, rfl⟩ : ∃ x0 x1 x2 x3, xs = [x0, x1, x2, x3] := match xs, hn with | [x0, x1, x2, x3], _ => ⟨_, _, _, _, rfl⟩
      refine ⟨_, rfl, a, _, rfl, .inl (SqL.of ha), rfl, _, rfl, ?_⟩
      refine iteFb (by rfl) ?_
      refine ⟨_, rfl, a, _, rfl, .inl (SqL.of ha), rfl, _, rfl, ?_⟩
      refine iteFb (by rfl) ?_
      refine ⟨_, rfl, a, _, rfl, .inl (SqL.of ha), rfl, _, rfl, ?_⟩
      refine iteFb (by rfl) ?_
      refine ⟨_, rfl, a, _, rfl, .inl (SqL.of ha), rfl, _, rfl, ?_⟩
      refine iteFb (by rfl) ?_
      refine ⟨_, rfl, a, _, rfl, .inl (SqL.of ha), rfl, _, rfl, ?_⟩
      refine iteTb (by rfl) ?_
      exact ⟨_, rfl, a, _, 0, _, rfl, rfl, SqL.of ha, (by exact atI_nat (j := 0) rfl), _, rfl, a, _, 1, _, rfl, rfl, SqL.of ha, (by exact atI_nat (j := 1) rfl), _, rfl, a, _, 2, _, rfl, rfl, SqL.of ha, (by exact atI_nat (j := 2) rfl), _, rfl, a, _, 3, _, rfl, rfl, SqL.of ha, (by exact atI_nat (j := 3) rfl), _, rfl, e, rfl, h⟩
    · obtain ⟨x0, x1, x2, x3, x4, rfl⟩ : ∃ x0 x1 x2 x3 x4, xs = [x0, x1, x2, x3, x4] := match xs, hn with | [x0, x1, x2, x3, x4], _ => ⟨_, _, _, _, _, rfl⟩
      refine ⟨_, rfl, a, _, rfl, .inl (SqL.of ha), rfl, _, rfl, ?_⟩
      refine iteFb (by rfl) ?_
      refine ⟨_, rfl, a, _, rfl, .inl (SqL.of ha), rfl, _, rfl, ?_⟩
      refine iteFb (by rfl) ?_
      refine ⟨_, rfl, a, _, rfl, .inl (SqL.of ha), rfl, _, rfl, ?_⟩
      refine iteFb (by rfl) ?_
      refine ⟨_, rfl, a, _, rfl, .inl (SqL.of ha), rfl, _, rfl, ?_⟩
      refine iteFb (by rfl) ?_
      refine ⟨_, rfl, a, _, rfl, .inl (SqL.of ha), rfl, _, rfl, ?_⟩
      refine iteFb (by rfl) ?_
      refine ⟨_, rfl, a, _, rfl, .inl (SqL.of ha), rfl, _, rfl, ?_⟩
      refine iteTb (by rfl) ?_
      exact ⟨_, rfl, a, _, 0, _, rfl, rfl, SqL.of ha, (by exact atI_nat (j := 0) rfl), _, rfl, a, _, 1, _, rfl, rfl, SqL.of ha, (by exact atI_nat (j := 1) rfl), _, rfl, a, _, 2, _, rfl, rfl, SqL.of ha, (by exact atI_nat (j := 2) rfl), _, rfl, a, _, 3, _, rfl, rfl, SqL.of ha, (by exact atI_nat (j := 3) rfl), _, rfl, a, _, 4, _, rfl, rfl, SqL.of ha, (by exact atI_nat (j := 4) rfl), _, rfl, e, rfl, h⟩
    · obtain ⟨x0, x1, x2, x3, x4, x5, x6, x7, rfl⟩ : ∃ x0 x1 x2 x3 x4 x5 x6 x7, xs = [x0, x1, x2, x3, x4, x5, x6, x7] := match xs, hn with | [x0, x1, x2, x3, x4, x5, x6, x7], _ => ⟨_, _, _, _, _, _, _, _, rfl⟩
      refine ⟨_, rfl, a, _, rfl, .inl (SqL.of ha), rfl, _, rfl, ?_⟩
      refine iteFb (by rfl) ?_
      refine ⟨_, rfl, a, _, rfl, .inl (SqL.of ha), rfl, _, rfl, ?_⟩
      refine iteFb (by rfl) ?_
      refine ⟨_, rfl, a, _, rfl, .inl (SqL.of ha), rfl, _, rfl, ?_⟩
      refine iteFb (by rfl) ?_
      refine ⟨_, rfl, a, _, rfl, .inl (SqL.of ha), rfl, _, rfl, ?_⟩
      refine iteFb (by rfl) ?_
      refine ⟨_, rfl, a, _, rfl, .inl (SqL.of ha), rfl, _, rfl, ?_⟩
      refine iteFb (by rfl) ?_
      refine ⟨_, rfl, a, _, rfl, .inl (SqL.of ha), rfl, _, rfl, ?_⟩
      refine iteFb (by rfl) ?_
      refine ⟨_, rfl, a, _, rfl, .inl (SqL.of ha), rfl, _, rfl, ?_⟩
      refine iteTb (by rfl) ?_
      exact ⟨_, rfl, a, _, 0, _, rfl, rfl, SqL.of ha, (by exact atI_nat (j := 0) rfl), _, rfl, a, _, 1, _, rfl, rfl, SqL.of ha, (by exact atI_nat (j := 1) rfl), _, rfl, a, _, 2, _, rfl, rfl, SqL.of ha, (by exact atI_nat (j := 2) rfl), _, rfl, a, _, 3, _, rfl, rfl, SqL.of ha, (by exact atI_nat (j := 3) rfl), _, rfl, a, _, 4, _, rfl, rfl, SqL.of ha, (by exact atI_nat (j := 4) rfl), _, rfl, a, _, 5, _, rfl, rfl, SqL.of ha, (by exact atI_nat (j := 5) rfl), _, rfl, a, _, 6, _, rfl, rfl, SqL.of ha, (by exact atI_nat (j := 6) rfl), _, rfl, a, _, 7, _, rfl, rfl, SqL.of ha, (by exact atI_nat (j := 7) rfl), _, rfl, e, rfl, h⟩
    · obtain ⟨x0, x1, x2, x3, x4, x5, x6, x7, x8, x9, x10, x11, rfl⟩ : ∃ x0 x1 x2 x3 x4 x5 x6 x7 x8 x9 x10 x11, xs = [x0, x1, x2, x3, x4, x5, x6, x7, x8, x9, x10, x11] := match xs, hn with | [x0, x1, x2, x3, x4, x5, x6, x7, x8, x9, x10, x11], _ => ⟨_, _, _, _, _, _, _, _, _, _, _, _, rfl⟩
      refine ⟨_, rfl, a, _, rfl, .inl (SqL.of ha), rfl, _, rfl, ?_⟩
      refine iteFb (by rfl) ?_
      refine ⟨_, rfl, a, _, rfl, .inl (SqL.of ha), rfl, _, rfl, ?_⟩
      refine iteFb (by rfl) ?_
      refine ⟨_, rfl, a, _, rfl, .inl (SqL.of ha), rfl, _, rfl, ?_⟩
      refine iteFb (by rfl) ?_
      refine ⟨_, rfl, a, _, rfl, .inl (SqL.of ha), rfl, _, rfl, ?_⟩
      refine iteFb (by rfl) ?_
      refine ⟨_, rfl, a, _, rfl, .inl (SqL.of ha), rfl, _, rfl, ?_⟩
      refine iteFb (by rfl) ?_
      refine ⟨_, rfl, a, _, rfl, .inl (SqL.of ha), rfl, _, rfl, ?_⟩
      refine iteFb (by rfl) ?_
      refine ⟨_, rfl, a, _, rfl, .inl (SqL.of ha), rfl, _, rfl, ?_⟩
      refine iteFb (by rfl) ?_
      exact ⟨_, rfl, a, _, 0, _, rfl, rfl, SqL.of ha, (by exact atI_nat (j := 0) rfl), _, rfl, a, _, 1, _, rfl, rfl, SqL.of ha, (by exact atI_nat (j := 1) rfl), _, rfl, a, _, 2, _, rfl, rfl, SqL.of ha, (by exact atI_nat (j := 2) rfl), _, rfl, a, _, 3, _, rfl, rfl, SqL.of ha, (by exact atI_nat (j := 3) rfl), _, rfl, a, _, 4, _, rfl, rfl, SqL.of ha, (by exact atI_nat (j := 4) rfl), _, rfl, a, _, 5, _, rfl, rfl, SqL.of ha, (by exact atI_nat (j := 5) rfl), _, rfl, a, _, 6, _, rfl, rfl, SqL.of ha, (by exact atI_nat (j := 6) rfl), _, rfl, a, _, 7, _, rfl, rfl, SqL.of ha, (by exact atI_nat (j := 7) rfl), _, rfl, a, _, 8, _, rfl, rfl, SqL.of ha, (by exact atI_nat (j := 8) rfl), _, rfl, a, _, 9, _, rfl, rfl, SqL.of ha, (by exact atI_nat (j := 9) rfl), _, rfl, a, _, 10, _, rfl, rfl, SqL.of ha, (by exact atI_nat (j := 10) rfl), _, rfl, a, _, 11, _, rfl, rfl, SqL.of ha, (by exact atI_nat (j := 11) rfl), _, rfl, e, rfl, h⟩
def spShort (C : Addr) (K : PySem.W.Frag) : Sp := fun vs H Q E => ∃ (a : Addr) (xs : List V), vs = [.ref a] ∧ H a = some (.lst xs) ∧ askLen xs ∧ AskP K C xs (.str "") H Q E
theorem scShort : FnScope ["_law_some"] ["_law_some"] (defScope sShort) := ⟨rfl, rfl, rfl, by decide +kernel, rfl, by decide +kernel, by decide +kernel⟩
theorem ok_short {f C g : Addr} {fd : FuncData} (F : Fun K "_law_short" "_law_short" sShort f fd) (T : Txt K mg) (R : AskR P w K mg base C g) : FnOk P w K mg base (L2.CX P w) 4 f fd ["_law_some"] (spShort C K) := by
  refine F.okX scShort (fun vs H Q E h => ?_) (fun cdv A outer s H vs Q E hr h => ?_)
  · obtain ⟨a, xs, rfl, _⟩ := h
    rfl
  · obtain ⟨a, xs, rfl, ha, hn, h⟩ := h
    refine ⟨_, pss_cons (ps_if (pt_cmpR op_eq (pe_callB call_len_seq (by rfl) T.len PySem.boot_len (pa_cons (pv 0) pa_nil)) pe_int (nomark _)) (pss_one (ps_ret (pe_askD0 R hr rfl (fun σ => passAt (takes_of rfl rfl rfl rfl) σ)))) pss_nil)
      (pss_cons (ps_if (pt_cmpR op_eq (pe_callB call_len_seq (by rfl) T.len PySem.boot_len (pa_cons (pv 0) pa_nil)) pe_int (nomark _)) (pss_one (ps_ret (pe_askD R hr rfl (fun σ => passAt (takes_of rfl rfl rfl rfl) σ) (pa_cons (pe_ix ix_list (pv 0) pe_int fun _ _ => rfl) pa_nil)))) pss_nil)
      (pss_cons (ps_if (pt_cmpR op_eq (pe_callB call_len_seq (by rfl) T.len PySem.boot_len (pa_cons (pv 0) pa_nil)) pe_int (nomark _)) (pss_one (ps_ret (pe_askD R hr rfl (fun σ => passAt (takes_of rfl rfl rfl rfl) σ) (pa_cons (pe_ix ix_list (pv 0) pe_int fun _ _ => rfl) (pa_cons (pe_ix ix_list (pv 0) pe_int fun _ _ => rfl) pa_nil))))) pss_nil)
      (pss_cons (ps_if (pt_cmpR op_eq (pe_callB call_len_seq (by rfl) T.len PySem.boot_len (pa_cons (pv 0) pa_nil)) pe_int (nomark _)) (pss_one (ps_ret (pe_askD R hr rfl (fun σ => passAt (takes_of rfl rfl rfl rfl) σ) (pa_cons (pe_ix ix_list (pv 0) pe_int fun _ _ => rfl) (pa_cons (pe_ix ix_list (pv 0) pe_int fun _ _ => rfl) (pa_cons (pe_ix ix_list (pv 0) pe_int fun _ _ => rfl) pa_nil)))))) pss_nil)
      (pss_cons (ps_if (pt_cmpR op_eq (pe_callB call_len_seq (by rfl) T.len PySem.boot_len (pa_cons (pv 0) pa_nil)) pe_int (nomark _)) (pss_one (ps_ret (pe_askD R hr rfl (fun σ => passAt (takes_of rfl rfl rfl rfl) σ) (pa_cons (pe_ix ix_list (pv 0) pe_int fun _ _ => rfl) (pa_cons (pe_ix ix_list (pv 0) pe_int fun _ _ => rfl) (pa_cons (pe_ix ix_list (pv 0) pe_int fun _ _ => rfl) (pa_cons (pe_ix ix_list (pv 0) pe_int fun _ _ => rfl) pa_nil))))))) pss_nil)
      (pss_cons (ps_if (pt_cmpR op_eq (pe_callB call_len_seq (by rfl) T.len PySem.boot_len (pa_cons (pv 0) pa_nil)) pe_int (nomark _)) (pss_one (ps_ret (pe_askD R hr rfl (fun σ => passAt (takes_of rfl rfl rfl rfl) σ) (pa_cons (pe_ix ix_list (pv 0) pe_int fun _ _ => rfl) (pa_cons (pe_ix ix_list (pv 0) pe_int fun _ _ => rfl) (pa_cons (pe_ix ix_list (pv 0) pe_int fun _ _ => rfl) (pa_cons (pe_ix ix_list (pv 0) pe_int fun _ _ => rfl) (pa_cons (pe_ix ix_list (pv 0) pe_int fun _ _ => rfl) pa_nil)))))))) pss_nil)
      (pss_cons (ps_if (pt_cmpR op_eq (pe_callB call_len_seq (by rfl) T.len PySem.boot_len (pa_cons (pv 0) pa_nil)) pe_int (nomark _)) (pss_one (ps_ret (pe_askD R hr rfl (fun σ => passAt (takes_of rfl rfl rfl rfl) σ) (pa_cons (pe_ix ix_list (pv 0) pe_int fun _ _ => rfl) (pa_cons (pe_ix ix_list (pv 0) pe_int fun _ _ => rfl) (pa_cons (pe_ix ix_list (pv 0) pe_int fun _ _ => rfl) (pa_cons (pe_ix ix_list (pv 0) pe_int fun _ _ => rfl) (pa_cons (pe_ix ix_list (pv 0) pe_int fun _ _ => rfl) (pa_cons (pe_ix ix_list (pv 0) pe_int fun _ _ => rfl) (pa_cons (pe_ix ix_list (pv 0) pe_int fun _ _ => rfl) (pa_cons (pe_ix ix_list (pv 0) pe_int fun _ _ => rfl) pa_nil))))))))))) pss_nil)
      (pss_one (ps_ret (pe_askD R hr rfl (fun σ => passAt (takes_of rfl rfl rfl rfl) σ) (pa_cons (pe_ix ix_list (pv 0) pe_int fun _ _ => rfl) (pa_cons (pe_ix ix_list (pv 0) pe_int fun _ _ => rfl) (pa_cons (pe_ix ix_list (pv 0) pe_int fun _ _ => rfl) (pa_cons (pe_ix ix_list (pv 0) pe_int fun _ _ => rfl) (pa_cons (pe_ix ix_list (pv 0) pe_int fun _ _ => rfl) (pa_cons (pe_ix ix_list (pv 0) pe_int fun _ _ => rfl) (pa_cons (pe_ix ix_list (pv 0) pe_int fun _ _ => rfl) (pa_cons (pe_ix ix_list (pv 0) pe_int fun _ _ => rfl) (pa_cons (pe_ix ix_list (pv 0) pe_int fun _ _ => rfl) (pa_cons (pe_ix ix_list (pv 0) pe_int fun _ _ => rfl) (pa_cons (pe_ix ix_list (pv 0) pe_int fun _ _ => rfl) (pa_cons (pe_ix ix_list (pv 0) pe_int fun _ _ => rfl) pa_nil))))))))))))))))))))), ?_⟩
    rcases hn with hn | hn | hn | hn | hn | hn | hn | hn
    · obtain rfl : xs = [] := List.eq_nil_of_length_eq_zero hn
      refine ⟨_, rfl, a, _, rfl, .inl (SqL.of ha), rfl, _, rfl, ?_⟩
      refine iteTb (by rfl) ?_
      exact h
    · obtain ⟨x0, rfl⟩ : ∃ x0, xs = [x0] := match xs, hn with | [x0], _ => ⟨_, rfl⟩
      refine ⟨_, rfl, a, _, rfl, .inl (SqL.of ha), rfl, _, rfl, ?_⟩
      refine iteFb (by rfl) ?_
      refine ⟨_, rfl, a, _, rfl, .inl (SqL.of ha), rfl, _, rfl, ?_⟩
      refine iteTb (by rfl) ?_
      exact ⟨_, rfl, a, _, 0, _, rfl, rfl, SqL.of ha, (by exact atI_nat (j := 0) rfl), h⟩
    · obtain ⟨x0, x1, rfl⟩ : ∃ x0 x1, xs = [x0, x1] := match xs, hn with | [x0, x1], _ => ⟨_, _, rfl⟩
      refine ⟨_, rfl, a, _, rfl, .inl (SqL.of ha), rfl, _, rfl, ?_⟩
      refine iteFb (by rfl) ?_
      refine ⟨_, rfl, a, _, rfl, .inl (SqL.of ha), rfl, _, rfl, ?_⟩
      refine iteFb (by rfl) ?_
      refine ⟨_, rfl, a, _, rfl, .inl (SqL.of ha), rfl, _, rfl, ?_⟩
      refine iteTb (by rfl) ?_
      exact ⟨_, rfl, a, _, 0, _, rfl, rfl, SqL.of ha, (by exact atI_nat (j := 0) rfl), _, rfl, a, _, 1, _, rfl, rfl, SqL.of ha, (by exact atI_nat (j := 1) rfl), h⟩
    · obtain ⟨x0, x1, x2, rfl⟩ : ∃ x0 x1 x2, xs = [x0, x1, x2] := match xs, hn with | [x0, x1, x2], _ => ⟨_, _, _, rfl⟩
      refine ⟨_, rfl, a, _, rfl, .inl (SqL.of ha), rfl, _, rfl, ?_⟩
      refine iteFb (by rfl) ?_
      refine ⟨_, rfl, a, _, rfl, .inl (SqL.of ha), rfl, _, rfl, ?_⟩
      refine iteFb (by rfl) ?_
      refine ⟨_, rfl, a, _, rfl, .inl (SqL.of ha), rfl, _, rfl, ?_⟩
      refine iteFb (by rfl) ?_
      refine ⟨_, rfl, a, _, rfl, .inl (SqL.of ha), rfl, _, rfl, ?_⟩
      refine iteTb (by rfl) ?_
      exact ⟨_, rfl, a, _, 0, _, rfl, rfl, SqL.of ha, (by exact atI_nat (j := 0) rfl), _, rfl, a, _, 1, _, rfl, rfl, SqL.of ha, (by exact atI_nat (j := 1) rfl), _, rfl, a, _, 2, _, rfl, rfl, SqL.of ha, (by exact atI_nat (j := 2) rfl), h⟩
    · obtain ⟨x0, x1, x2, x3, rfl⟩ : ∃ x0 x1 x2 x3, xs = [x0, x1, x2, x3] := match xs, hn with | [x0, x1, x2, x3], _ => ⟨_, _, _, _, rfl⟩
      refine ⟨_, rfl, a, _, rfl, .inl (SqL.of ha), rfl, _, rfl, ?_⟩
      refine iteFb (by rfl) ?_
      refine ⟨_, rfl, a, _, rfl, .inl (SqL.of ha), rfl, _, rfl, ?_⟩
      refine iteFb (by rfl) ?_
      refine ⟨_, rfl, a, _, rfl, .inl (SqL.of ha), rfl, _, rfl, ?_⟩
      refine iteFb (by rfl) ?_
      refine ⟨_, rfl, a, _, rfl, .inl (SqL.of ha), rfl, _, rfl, ?_⟩
      refine iteFb (by rfl) ?_
      refine ⟨_, rfl, a, _, rfl, .inl (SqL.of ha), rfl, _, rfl, ?_⟩
      refine iteTb (by rfl) ?_
      exact ⟨_, rfl, a, _, 0, _, rfl, rfl, SqL.of ha, (by exact atI_nat (j := 0) rfl), _, rfl, a, _, 1, _, rfl, rfl, SqL.of ha, (by exact atI_nat (j := 1) rfl), _, rfl, a, _, 2, _, rfl, rfl, SqL.of ha, (by exact atI_nat (j := 2) rfl), _, rfl, a, _, 3, _, rfl, rfl, SqL.of ha, (by exact atI_nat (j := 3) rfl), h⟩
    · obtain ⟨x0, x1, x2, x3, x4, rfl⟩ : ∃ x0 x1 x2 x3 x4, xs = [x0, x1, x2, x3, x4] := match xs, hn with | [x0, x1, x2, x3, x4], _ => ⟨_, _, _, _, _, rfl⟩
      refine ⟨_, rfl, a, _, rfl, .inl (SqL.of ha), rfl, _, rfl, ?_⟩
      refine iteFb (by rfl) ?_
      refine ⟨_, rfl, a, _, rfl, .inl (SqL.of ha), rfl, _, rfl, ?_⟩
      refine iteFb (by rfl) ?_
      refine ⟨_, rfl, a, _, rfl, .inl (SqL.of ha), rfl, _, rfl, ?_⟩
      refine iteFb (by rfl) ?_
      refine ⟨_, rfl, a, _, rfl, .inl (SqL.of ha), rfl, _, rfl, ?_⟩
      refine iteFb (by rfl) ?_
      refine ⟨_, rfl, a, _, rfl, .inl (SqL.of ha), rfl, _, rfl, ?_⟩
      refine iteFb (by rfl) ?_
      refine ⟨_, rfl, a, _, rfl, .inl (SqL.of ha), rfl, _, rfl, ?_⟩
      refine iteTb (by rfl) ?_
      exact ⟨_, rfl, a, _, 0, _, rfl, rfl, SqL.of ha, (by exact atI_nat (j := 0) rfl), _, rfl, a, _, 1, _, rfl, rfl, SqL.of ha, (by exact atI_nat (j := 1) rfl), _, rfl, a, _, 2, _, rfl, rfl, SqL.of ha, (by exact atI_nat (j := 2) rfl), _, rfl, a, _, 3, _, rfl, rfl, SqL.of ha, (by exact atI_nat (j := 3) rfl), _, rfl, a, _, 4, _, rfl, rfl, SqL.of ha, (by exact atI_nat (j := 4) rfl), h⟩
    · obtain ⟨x0, x1, x2, x3, x4, x5, x6, x7, rfl⟩ : ∃ x0 x1 x2 x3 x4 x5 x6 x7, xs = [x0, x1, x2, x3, x4, x5, x6, x7] := match xs, hn with | [x0, x1, x2, x3, x4, x5, x6, x7], _ => ⟨_, _, _, _, _, _, _, _, rfl⟩
      refine ⟨_, rfl, a, _, rfl, .inl (SqL.of ha), rfl, _, rfl, ?_⟩
      refine iteFb (by rfl) ?_
      refine ⟨_, rfl, a, _, rfl, .inl (SqL.of ha), rfl, _, rfl, ?_⟩
      refine iteFb (by rfl) ?_
      refine ⟨_, rfl, a, _, rfl, .inl (SqL.of ha), rfl, _, rfl, ?_⟩
      refine iteFb (by rfl) ?_
      refine ⟨_, rfl, a, _, rfl, .inl (SqL.of ha), rfl, _, rfl, ?_⟩
      refine iteFb (by rfl) ?_
      refine ⟨_, rfl, a, _, rfl, .inl (SqL.of ha), rfl, _, rfl, ?_⟩
      refine iteFb (by rfl) ?_
      refine ⟨_, rfl, a, _, rfl, .inl (SqL.of ha), rfl, _, rfl, ?_⟩
      refine iteFb (by rfl) ?_
      refine ⟨_, rfl, a, _, rfl, .inl (SqL.of ha), rfl, _, rfl, ?_⟩
      refine iteTb (by rfl) ?_
      exact ⟨_, rfl, a, _, 0, _, rfl, rfl, SqL.of ha, (by exact atI_nat (j := 0) rfl), _, rfl, a, _, 1, _, rfl, rfl, SqL.of ha, (by exact atI_nat (j := 1) rfl), _, rfl, a, _, 2, _, rfl, rfl, SqL.of ha, (by exact atI_nat (j := 2) rfl), _, rfl, a, _, 3, _, rfl, rfl, SqL.of ha, (by exact atI_nat (j := 3) rfl), _, rfl, a, _, 4, _, rfl, rfl, SqL.of ha, (by exact atI_nat (j := 4) rfl), _, rfl, a, _, 5, _, rfl, rfl, SqL.of ha, (by exact atI_nat (j := 5) rfl), _, rfl, a, _, 6, _, rfl, rfl, SqL.of ha, (by exact atI_nat (j := 6) rfl), _, rfl, a, _, 7, _, rfl, rfl, SqL.of ha, (by exact atI_nat (j := 7) rfl), h⟩
    · obtain ⟨x0, x1, x2, x3, x4, x5, x6, x7, x8, x9, x10, x11, rfl⟩ : ∃ x0 x1 x2 x3 x4 x5 x6 x7 x8 x9 x10 x11, xs = [x0, x1, x2, x3, x4, x5, x6, x7, x8, x9, x10, x11] := match xs, hn with | [x0, x1, x2, x3, x4, x5, x6, x7, x8, x9, x10, x11], _ => ⟨_, _, _, _, _, _, _, _, _, _, _, _, rfl⟩
      refine ⟨_, rfl, a, _, rfl, .inl (SqL.of ha), rfl, _, rfl, ?_⟩
      refine iteFb (by rfl) ?_
      refine ⟨_, rfl, a, _, rfl, .inl (SqL.of ha), rfl, _, rfl, ?_⟩
      refine iteFb (by rfl) ?_
      refine ⟨_, rfl, a, _, rfl, .inl (SqL.of ha), rfl, _, rfl, ?_⟩
      refine iteFb (by rfl) ?_
      refine ⟨_, rfl, a, _, rfl, .inl (SqL.of ha), rfl, _, rfl, ?_⟩
      refine iteFb (by rfl) ?_
      refine ⟨_, rfl, a, _, rfl, .inl (SqL.of ha), rfl, _, rfl, ?_⟩
      refine iteFb (by rfl) ?_
      refine ⟨_, rfl, a, _, rfl, .inl (SqL.of ha), rfl, _, rfl, ?_⟩
      refine iteFb (by rfl) ?_
      refine ⟨_, rfl, a, _, rfl, .inl (SqL.of ha), rfl, _, rfl, ?_⟩
      refine iteFb (by rfl) ?_
      exact ⟨_, rfl, a, _, 0, _, rfl, rfl, SqL.of ha, (by exact atI_nat (j := 0) rfl), _, rfl, a, _, 1, _, rfl, rfl, SqL.of ha, (by exact atI_nat (j := 1) rfl), _, rfl, a, _, 2, _, rfl, rfl, SqL.of ha, (by exact atI_nat (j := 2) rfl), _, rfl, a, _, 3, _, rfl, rfl, SqL.of ha, (by exact atI_nat (j := 3) rfl), _, rfl, a, _, 4, _, rfl, rfl, SqL.of ha, (by exact atI_nat (j := 4) rfl), _, rfl, a, _, 5, _, rfl, rfl, SqL.of ha, (by exact atI_nat (j := 5) rfl), _, rfl, a, _, 6, _, rfl, rfl, SqL.of ha, (by exact atI_nat (j := 6) rfl), _, rfl, a, _, 7, _, rfl, rfl, SqL.of ha, (by exact atI_nat (j := 7) rfl), _, rfl, a, _, 8, _, rfl, rfl, SqL.of ha, (by exact atI_nat (j := 8) rfl), _, rfl, a, _, 9, _, rfl, rfl, SqL.of ha, (by exact atI_nat (j := 9) rfl), _, rfl, a, _, 10, _, rfl, rfl, SqL.of ha, (by exact atI_nat (j := 10) rfl), _, rfl, a, _, 11, _, rfl, rfl, SqL.of ha, (by exact atI_nat (j := 11) rfl), h⟩
def HeardW (H : Hp) (v : V) (xs : List V) (e : V) : Prop := (∃ (n : Nat) (t : Addr), askD xs e = some n ∧ v = .ref t ∧ H t = some (.tup [.str "wrong", .int (n : Int)])) ∨
  (∃ (t q c : Addr) (zs : List Str) (z : Str), askD xs e = none ∧ xs = zs.map V.str ∧ e = .str z ∧ v = .ref t ∧ H t = some (.tup [.str "made", .ref q]) ∧ H q = some (.tup [.ref c, .str z]) ∧ H c = some (.tup ((srt zs).map V.str)))
/-- what asking is told: values of any kind -/
structure AskV (K : PySem.W.Frag) (xs : List V) (e : V) (H : Hp) : Prop where
  n : askLen xs
  v : ∀ H', Same H H' → ∀ x ∈ xs, VAny K H' x
  e : ∀ H', Same H H' → VAny K H' e
theorem askLen.le {xs : List V} (h : askLen xs) : xs.length ≤ 20 := by
  unfold askLen at h
  omega
theorem AskV.same {xs : List V} {e : V} {H H' : Hp} (s : Same H H') (h : AskV K xs e H) : AskV K xs e H' := ⟨h.n, fun H2 s2 => h.v H2 (s.trans s2), fun H2 s2 => h.e H2 (s.trans s2)⟩
def spHeard (K : PySem.W.Frag) : Sp := fun vs H Q _ => ∃ (a : Addr) (xs : List V) (e : V) (b : Bool), vs = [.ref a, e, .bl b] ∧ H a = some (.lst xs) ∧ AskV K xs e H ∧ (b = true → e = .str "") ∧ ∀ (H' : Hp) (v : V), Same H H' → HeardW H' v xs e → Q v H'
abbrev nHeard : List Str := ["_law_some", "_law_end", "_law_short_here", "e"]
theorem scHeard : FnScope nHeard ["_law_some", "_law_end", "_law_short_here"] (defScope sHeard) := ⟨rfl, rfl, rfl, by decide +kernel, rfl, by decide +kernel, by decide +kernel⟩
structure CalX (P : Program) (w : World) (K : PySem.W.Frag) (mg : Str → Option Value) (base : Heap) (k : Nat) (x : Str) (ps : List Str) (sp : Sp) where
  f : Addr
  fd : FuncData
  G : FnOk P w K mg base (L2.CX P w) k f fd ps sp
  m : mg x = some (.ref f)
  kp : PySem.W.keepIn K (.ref f) = true
  b : Binds K fd ps []
theorem ok_heard {f C : Addr} {fd : FuncData} (F : Fun K "_law_heard" "_law_heard" sHeard f fd) (T : Txt K mg) (TE : TxE K mg C) (cM : CalX P w K mg base 4 "_law_made" ["_law_some", "_law_end"] (spMade C K)) (cS : CalX P w K mg base 4 "_law_short" ["_law_some"] (spShort C K)) :
    FnOk P w K mg base CX0 5 f fd ["_law_some", "_law_end", "_law_short_here"] (spHeard K) := by
  refine F.ok scHeard (fun vs H Q E h => ?_) (fun cdv A outer s H vs Q E hr h => ?_)
  · obtain ⟨a, xs, e, b, rfl, _⟩ := h
    rfl
  · obtain ⟨a, xs, e, b, rfl, ha, hv, hb, k⟩ := h
    have nd := scHeard.nd
    refine ⟨_, pss_one (ps_try_asF (i := 3) (c := .ref C) (tb := fun W => tRet (tTup (tCons (tC (.str "made")) (tCons (tIf (tB (tVar 2)) (tCallS (spShort C K) (WE W) (tCons (tVar 0) tNil)) (tCallS (spMade C K) (WE W) (tCons (tVar 0) (tCons (tVar 1) tNil)))) tNil)))) (ts := fun a cls d => tRet (tTup (tCons (tC (.str "wrong")) (tCons (tXf a cls d C "place" (tVar 3)) tNil))))
      rfl rfl nd rfl rfl ⟨rfl, by decide, .inl TE.m⟩
      (fun W pn xe tk _ => pss_one (ps_ret (pe_tup (pa_cons pe_str (pa_cons (pe_ifExp (pt_val (pv 2)) (pe_callS cS.G hr rfl cS.m cS.kp cS.b (fun σ => passAt tk σ) (pa_cons (pv 0) pa_nil)) (pe_callS cM.G hr rfl cM.m cM.kp cM.b (fun σ => passAt tk σ) (pa_cons (pv 0) (pa_cons (pv 1) pa_nil)))) pa_nil)))))
      (fun a oe cls d pn hz hf => pss_one (ps_ret (pe_tup (pa_cons pe_str (pa_cons (pe_xf TE.er.x TE.no hz hf (pv 3)) pa_nil)))))), ?_⟩
    have hE : ∀ (n : Nat) (H1 : Hp) (d : Addr), Same H H1 → H1 d = none → askD xs e = some n → ∀ (e0 : Addr) (t : Addr), (upd H1 d (.xd [("place", V.int (n : Int))])) t = none → Q (.ref t) (upd (upd H1 d (.xd [("place", V.int (n : Int))])) t (.tup [.str "wrong", .int (n : Int)])) := fun n H1 d s1 hd ha' e0 t ht =>
      k _ _ (s1.trans ((same_new hd).trans (same_new ht))) (.inl ⟨n, t, ha', rfl, upd_same⟩)
    have hQ : ∀ (H1 : Hp) (q c : Addr) (zs : List Str) (z : Str), Same H H1 → askD xs e = none → xs = zs.map V.str → e = .str z → H1 c = some (.tup ((srt zs).map V.str)) → H1 q = some (.tup [.ref c, .str z]) → ∀ t, H1 t = none → Q (.ref t) (upd H1 t (.tup [.str "made", .ref q])) := fun H1 q c zs z s1 h1 h2 h3 h4 h5 t ht =>
      k _ _ (s1.trans (same_new ht)) (.inr ⟨t, q, c, zs, z, h1, h2, h3, rfl, upd_same, same_new ht _ _ h5, same_new ht _ _ h4⟩)
    refine ⟨_, rfl, _, rfl, ?_⟩
    cases b with
    | true =>
      refine iteT ?_
      obtain rfl : e = .str "" := hb rfl
      refine ⟨_, rfl, a, xs, rfl, ha, hv.n, hv.n.le, hv.v, hv.e, fun n H1 d s1 hd ha' => ⟨TE.te, fun e0 he0 => ⟨_, rfl, rfl, rfl, d, _, .int n, rfl, upd_same, rfl, by show 2 ≤ sizeLine; decide, fun t ht => hE n H1 d s1 hd ha' e0 t ht⟩⟩,
        fun H1 q c zs z s1 h1 h2 h3 h4 h5 => ⟨by show 2 ≤ sizeLine; decide, fun t ht => hQ H1 q c zs z s1 h1 h2 h3 h4 h5 t ht⟩⟩
    | false =>
      refine iteF ?_
      refine ⟨_, rfl, _, rfl, a, xs, e, rfl, ha, hv.n, hv.n.le, hv.v, hv.e, fun n H1 d s1 hd ha' => ⟨TE.te, fun e0 he0 => ⟨_, rfl, rfl, rfl, d, _, .int n, rfl, upd_same, rfl, by show 2 ≤ sizeLine; decide, fun t ht => hE n H1 d s1 hd ha' e0 t ht⟩⟩,
        fun H1 q c zs z s1 h1 h2 h3 h4 h5 => ⟨by show 2 ≤ sizeLine; decide, fun t ht => hQ H1 q c zs z s1 h1 h2 h3 h4 h5 t ht⟩⟩
theorem HeardW.same {H H' : Hp} {v : V} {xs : List V} {e : V} (s : Same H H') (h : HeardW H v xs e) : HeardW H' v xs e := by
  rcases h with ⟨n, t, h1, h2, h3⟩ | ⟨t, q, c, zs, z, h1, h2, h3, h4, h5, h6, h7⟩
  · exact .inl ⟨n, t, h1, h2, s _ _ h3⟩
  · exact .inr ⟨t, q, c, zs, z, h1, h2, h3, h4, s _ _ h5, s _ _ h6, s _ _ h7⟩
def spDue (K : PySem.W.Frag) : Sp := fun vs H Q _ => ∃ (a : Addr) (xs : List V) (e : V), vs = [.ref a, e] ∧ H a = some (.lst xs) ∧ AskV K xs e H ∧ ∀ (H' : Hp) (v : V), Same H H' → HeardW H' v xs e → Q v H'
abbrev nDue : List Str := ["_law_some", "_law_end", "_law_part"]
theorem scDue : FnScope nDue ["_law_some", "_law_end"] (defScope sDue) := ⟨rfl, rfl, rfl, by decide +kernel, rfl, by decide +kernel, by decide +kernel⟩
theorem filt_all {xs : List V} : (xs.filter fun x => !colV x) = [] ↔ xs.all colV = true := by
  rw [List.filter_eq_nil_iff, List.all_eq_true]
  exact ⟨fun h x hx => by simpa using h x hx, fun h x hx => by simp [h x hx]⟩
theorem ok_due {f : Addr} {fd : FuncData} (F : Fun K "_law_due" "_law_due" sDue f fd) (T : Txt K mg) (cN : Cal P w K mg base 1 "_law_is_name" ["_law_thing"] (spText K colS)) : FnOk P w K mg base CX0 2 f fd ["_law_some", "_law_end"] (spDue K) := by
  refine F.ok scDue (fun vs H Q E h => ?_) (fun cdv A outer s H vs Q E hr h => ?_)
  · obtain ⟨a, xs, e, rfl, _⟩ := h
    rfl
  · obtain ⟨a, xs, e, rfl, ha, hv, k⟩ := h
    have nd := scDue.nd
    refine ⟨_, Evl.pss_cut (ps_if (PW.pt (pw_or (pt_cmpR (op_neNil hr.units) (pe_lc (own := [("_law_part", 2)]) (g := gName 2) rfl nd (pi_list (pv 0)) (blkOk_by (N := nDue) (sc := defScope sDue) (by decide +kernel)) (fun _ _ _ _ _ => pg_name (i := 2) nd rfl (by first | exact Or.inl rfl | exact Or.inr rfl))
            (fun _ _ _ _ _ => pts_one (pt_not (pt_val (pe_call cN.G hr rfl cN.m cN.kp cN.b .nil pass0 (pa_cons (pv 2) pa_nil))))) (fun _ _ _ _ _ => pv 2)) (pe_lst pa_nil) (nomark _))
          (pw_or1 (pt_cmpR op_lt (pe_callB cr_lenX (by rfl) T.len PySem.boot_len (pa_cons (pe_callTy (cr_setL rfl) (by rfl) T.set (by decide +kernel) (pa_cons (pv 0) pa_nil)) pa_nil)) (pe_callB call_len_seq (by rfl) T.len PySem.boot_len (pa_cons (pv 0) pa_nil)) (nomark _)))))
        (pss_one (ps_ret (pe_tup (pa_cons pe_str (pa_cons pe_int pa_nil))))) pss_nil)
      (Evl.pss_cut (ps_if (PW.pt (pw_and (pt_cmpR (op_eqD hr.units) (pv 0) (pe_lst pa_nil) (nomark _)) (pw_and (pt_val (pe_callB call_isi (by rfl) T.isinstance (by decide +kernel) (pa_cons (pv 1) (pa_cons (pe_bltn (v := .ty "str") (by rfl) T.str (by decide +kernel) rfl) pa_nil)))) (pw_and1 (pt_cmpR op_eq (pv 1) pe_str (nomark _))))))
        (pss_one (ps_ret (pe_tup (pa_cons pe_str (pa_cons pe_int pa_nil))))) pss_nil)
      (Evl.pss_cut (ps_if (PW.pt (pw_or (pt_not (pt_val (pe_callB call_isi (by rfl) T.isinstance (by decide +kernel) (pa_cons (pv 1) (pa_cons (pe_bltn (v := .ty "str") (by rfl) T.str (by decide +kernel) rfl) pa_nil)))))
          (pw_or1 (PW.pt (pw_and (pt_cmpR op_ne (pv 1) pe_str (nomark _)) (pw_and1 (PW.pt (pw_or (pt_not (pt_val (pe_call cN.G hr rfl cN.m cN.kp cN.b .nil pass0 (pa_cons (pv 1) pa_nil)))) (pw_or1 (pt_cmpR op_in_seq (pv 1) (pv 0) (by rfl)))))))))))
        (pss_one (ps_ret (pe_tup (pa_cons pe_str (pa_cons pe_int pa_nil))))) pss_nil)
      (pss_one (ps_ret (pe_tup (pa_cons pe_str (pa_cons (pe_tup (pa_cons (pe_callTy call_tuple_of (by rfl) T.tuple (by decide +kernel) (pa_cons (pe_callB cr_sortedST (by rfl) T.sorted (by decide +kernel) (pa_cons (pv 0) pa_nil)) pa_nil)) (pa_cons (pv 1) pa_nil))) pa_nil))))))), ?_⟩
    have hle := hv.n.le
    refine ⟨fun σ' H' => σ' = [some (.ref a), some e, none] ∧ Same H H' ∧ diffB xs = true, ?_, ?_⟩
    · refine ⟨_, rfl, a, rfl, ⟨_, SqL.of ha⟩, fun D hD => ?_⟩
      refine lc_list (K := K) (a := a) (xs := xs) (fun i H' => Same H H' ∧ H' D = some (.lst ((xs.take i).filter fun x => !colV x))) ⟨same_new hD, upd_same⟩ (fun i H' _ h => SqL.of (h.1 _ _ ha)) ?_ ?_
      · rintro i x H1 hx ⟨s1, hDl⟩
        have hil : i < xs.length := (List.getElem?_eq_some_iff.mp hx).1
        have et : xs.take (i + 1) = xs.take i ++ [x] := by rw [List.take_add_one, hx]; rfl
        have finF : ∀ (H2 : Hp), colV x = true → Same H1 H2 → Same H H2 ∧ H2 D = some (.lst ((xs.take (i + 1)).filter fun x => !colV x)) := fun H2 hb s2 => by
          rw [et, List.filter_append, List.filter_cons, List.filter_nil, hb]
          refine ⟨s1.trans s2, ?_⟩
          rw [if_neg (by decide), List.append_nil]
          exact s2 _ _ hDl
        have finT : ∀ (H2 : Hp), colV x = false → Same H1 H2 → ∃ acc, H2 D = some (.lst acc) ∧ acc.length < sizeLine ∧ Same H (upd H2 D (.lst (acc ++ [x]))) ∧ (upd H2 D (.lst (acc ++ [x]))) D = some (.lst ((xs.take (i + 1)).filter fun x => !colV x)) := fun H2 hb s2 => by
          rw [et, List.filter_append, List.filter_cons, List.filter_nil, hb]
          refine ⟨_, s2 _ _ hDl, small1000 ?_, fun b' o ho => ?_, ?_⟩
          · have := List.length_filter_le (fun x => !colV x) (xs.take i)
            rw [List.length_take] at this
            omega
          · rw [upd_ne (ne_of_none ho hD)]
            exact s2 _ _ (s1 _ _ ho)
          · rw [upd_same]
            rfl
        refine ⟨rfl, Exists.intro _ ⟨rfl, x, rfl, ?_⟩⟩
        rcases hv.v H1 s1 x (List.mem_of_getElem? hx) with ⟨z, rfl, hz, hok⟩ | ⟨hne, tt, ty, hk⟩
        · refine .inl ⟨z, rfl, hz, hok, fun H2 s2 => ⟨_, rfl, ?_⟩⟩
          cases hc : colS z with
          | true =>
            refine iteF ?_
            exact finF H2 hc s2
          | false =>
            refine iteT ?_
            exact ⟨_, rfl, finT H2 hc s2⟩
        · refine .inr ⟨tt, ty, hk, _, rfl, ?_⟩
          refine iteT ?_
          exact ⟨_, rfl, finT H1 (colV_not hne) (Same.refl _)⟩
      · rintro H1 ⟨s1, hDl⟩
        rw [List.take_of_length_le (Nat.le_refl _)] at hDl
        refine ⟨by decide, fun e0 he0 => ?_⟩
        have s2 := s1.trans (same_new (o := .lst []) he0)
        refine ⟨D, e0, _, rfl, rfl, SqL.of (same_new he0 _ _ hDl), SqL.of upd_same, _, rfl, ?_⟩
        show if (!decide ((xs.filter fun x => !colV x) = [])) = true then _ else _
        by_cases hall : xs.all colV = true
        · rw [decide_eq_true (filt_all.mpr hall)]
          refine iteF ?_
          obtain ⟨zs, rfl⟩ := texts_of hall
          rw [List.length_map] at hle
          refine ⟨_, rfl, a, zs, rfl, SqL.of (s2 _ _ ha), by omega, fun p n hp hn he => ⟨p, _, n, rfl, upd_same, ?_⟩⟩
          have s3 := s2.trans (same_new (o := SetX P w p (fun z => decide (z ∈ zs)) n) hp)
          refine ⟨_, rfl, a, _, rfl, .inl (SqL.of (s3 _ _ ha)), _, _, rfl, rfl, _, rfl, ?_⟩
          rw [List.length_map]
          by_cases hnd : zs.Nodup
          · rw [decide_eq_false (by have := he.mpr hnd; omega)]
            refine iteF ?_
            refine ⟨rfl, s3, ?_⟩
            unfold diffB
            rw [hall, decide_eq_true ((nodup_strs zs).mpr hnd)]
            rfl
          · rw [decide_eq_true (by have : n ≠ zs.length := fun e => hnd (he.mp e); omega)]
            refine iteT ?_
            refine ⟨by show 2 ≤ sizeLine; decide, fun t ht => k _ _ (s3.trans (same_new ht)) (.inl ⟨0, t, ?_, rfl, upd_same⟩)⟩
            unfold askD
            rw [if_pos (.inl (by unfold diffB; rw [hall, decide_eq_false fun h => hnd ((nodup_strs zs).mp h)]; rfl))]
        · rw [decide_eq_false fun h => hall (filt_all.mp h)]
          refine iteT ?_
          refine ⟨by show 2 ≤ sizeLine; decide, fun t ht => k _ _ (s2.trans (same_new ht)) (.inl ⟨0, t, ?_, rfl, upd_same⟩)⟩
          unfold askD
          rw [if_pos (.inl (by unfold diffB; rw [Bool.eq_false_iff.mpr hall]; rfl))]
    · rintro σ' H1 ⟨rfl, s1, hd⟩
      have hd2 := hd
      unfold diffB at hd2
      rw [Bool.and_eq_true] at hd2
      obtain ⟨zs, rfl⟩ := texts_of hd2.1
      rw [List.length_map] at hle
      have zok : ∀ c ∈ zs, PyData.strOk c = true := fun c hc => by
        rcases hv.v H (Same.refl _) (.str c) (List.mem_map_of_mem hc) with ⟨z, e1, _, h3⟩ | ⟨h1, _⟩
        · cases e1
          exact h3
        · exact absurd rfl (h1 c)
      have nl : (decide (V.str "" = V.str "")) = true := decide_eq_true rfl
      refine ⟨fun σ' H' => σ' = [some (.ref a), some e, none] ∧ Same H H' ∧ ¬(zs.map V.str = [] ∧ e = .str ""), ?_, ?_⟩
      · refine ⟨_, rfl, by decide, fun e0 he0 => ?_⟩
        have s2 := s1.trans (same_new (o := .lst []) he0)
        refine ⟨.list (zs.map PyData.str), .list (([] : List Str).map PyData.str), .lst (SqL.of (s2 _ _ ha)) (dp_strs zs), .lst (SqL.of upd_same) (dp_strs []), shaped_list zok, shaped_list (fun c h => (nomatch h)), _, rfl, ?_⟩
        show if PyData.eqv (.list (zs.map PyData.str)) (.list (([] : List Str).map PyData.str)) = true then _ else _
        rw [PyData.eqv, eqv_strs]
        by_cases hn : zs = []
        · rw [decide_eq_true hn]
          refine iteT ?_
          rcases hv.e _ s2 with ⟨z, rfl, hz, hok⟩ | ⟨hne, tt, ty, hk⟩
          · refine ⟨_, rfl, _, _, .type "str", .type "str", true, rfl, .ty "str", .base (.str z), kit_ty (by decide +kernel), _, rfl, ?_⟩
            refine iteT ?_
            refine ⟨_, rfl, rfl, _, rfl, ?_⟩
            by_cases hz0 : z = ""
            · rw [decide_eq_true (congrArg V.str hz0)]
              refine iteT ?_
              refine ⟨by show 2 ≤ sizeLine; decide, fun t ht => k _ _ (s2.trans (same_new ht)) (.inl ⟨0, t, ?_, rfl, upd_same⟩)⟩
              unfold askD
              rw [if_pos (.inr ⟨by rw [hn]; rfl, by rw [hz0]⟩)]
            · rw [decide_eq_false fun h => hz0 (by injection h)]
              refine iteF ?_
              exact ⟨rfl, s2, fun h => hz0 (by have := h.2; injection this)⟩
          · refine ⟨_, rfl, _, _, .type tt, .type "str", false, rfl, .ty "str", ty, kit_ty hk, _, rfl, ?_⟩
            refine iteF ?_
            exact ⟨rfl, s2, fun h => hne _ h.2⟩
        · rw [decide_eq_false hn]
          refine iteF ?_
          exact ⟨rfl, s2, fun h => hn (List.map_eq_nil_iff.mp h.1)⟩
      · rintro σ' H2 ⟨rfl, s2, hne⟩
        have n0 : ¬ (diffB (zs.map V.str) = false ∨ (zs.map V.str = [] ∧ e = .str "")) := fun h => h.elim (fun h => by rw [hd] at h; cases h) hne
        have one : ∀ (H3 : Hp), Same H H3 → lastB e zs = false → ∀ t, H3 t = none → Q (.ref t) (upd H3 t (.tup [.str "wrong", .int ((1 : Nat) : Int)])) := fun H3 s3 hlb t ht =>
          k _ _ (s3.trans (same_new ht)) (.inl ⟨1, t, by unfold askD; rw [if_neg n0, strsOf_map, if_pos hlb], rfl, upd_same⟩)
        refine ⟨fun σ' H' => σ' = [some (.ref a), some e, none] ∧ Same H H' ∧ lastB e zs = true ∧ ∃ z, e = .str z, ?_, ?_⟩
        · rcases hv.e _ s2 with ⟨z, rfl, hz, hok⟩ | ⟨hnz, tt, ty, hk⟩
          · refine ⟨_, rfl, _, _, .type "str", .type "str", true, rfl, .ty "str", .base (.str z), kit_ty (by decide +kernel), _, rfl, ?_⟩
            refine iteF ?_
            refine ⟨_, rfl, rfl, _, rfl, ?_⟩
            by_cases hz0 : z = ""
            · rw [decide_eq_true (congrArg V.str hz0)]
              refine iteF ?_
              refine ⟨rfl, s2, ?_, z, rfl⟩
              show (decide (z = "") || (colS z && !decide (z ∈ zs))) = true
              rw [decide_eq_true hz0]
              rfl
            · rw [decide_eq_false fun h => hz0 (by injection h)]
              refine iteT ?_
              refine ⟨_, rfl, .str z, rfl, .inl ⟨z, rfl, hz, hok, fun H3 s3 => ⟨_, rfl, ?_⟩⟩⟩
              have s23 := s2.trans s3
              cases hc : colS z with
              | false =>
                refine iteT ?_
                refine ⟨by show 2 ≤ sizeLine; decide, fun t ht => one H3 s23 ?_ t ht⟩
                show (decide (z = "") || (colS z && !decide (z ∈ zs))) = false
                rw [decide_eq_false hz0, hc]
                rfl
              | true =>
                refine iteF ?_
                refine ⟨_, rfl, _, rfl, a, _, rfl, .inl (SqL.of (s23 _ _ ha)), rfl, flat_strs _, _, rfl, ?_⟩
                show if inV (.str z) (zs.map V.str) = true then _ else _
                rw [inV_strs]
                by_cases hm : z ∈ zs
                · rw [decide_eq_true hm]
                  refine iteT ?_
                  refine ⟨by show 2 ≤ sizeLine; decide, fun t ht => one H3 s23 ?_ t ht⟩
                  show (decide (z = "") || (colS z && !decide (z ∈ zs))) = false
                  rw [decide_eq_false hz0, hc, decide_eq_true hm]
                  rfl
                · rw [decide_eq_false hm]
                  refine iteF ?_
                  refine ⟨rfl, s23, ?_, z, rfl⟩
                  show (decide (z = "") || (colS z && !decide (z ∈ zs))) = true
                  rw [decide_eq_false hz0, hc, decide_eq_false hm]
                  rfl
          · refine ⟨_, rfl, _, _, .type tt, .type "str", false, rfl, .ty "str", ty, kit_ty hk, _, rfl, ?_⟩
            refine iteT ?_
            exact ⟨by show 2 ≤ sizeLine; decide, fun t ht => one H2 s2 (lastB_not hnz) t ht⟩
        · rintro σ' H3 ⟨rfl, s3, hlb, z, rfl⟩
          have ea : askD (zs.map V.str) (.str z) = none := by
            unfold askD
            rw [if_neg n0, strsOf_map, hlb]
            rfl
          refine ⟨_, rfl, a, zs, rfl, .inl (SqL.of (s3 _ _ ha)), by omega, fun ws q hw hs hq => ⟨q, _, rfl, .inl ⟨SqL.of upd_same, fun c hc => ⟨_, rfl, by show 2 ≤ sizeLine; decide, fun t1 ht1 => ⟨by show 2 ≤ sizeLine; decide, fun t2 ht2 => ?_⟩⟩⟩⟩⟩
          have s4 := same_new (o := .lst (ws.map V.str)) hq
          have s5 := same_new (o := .tup (ws.map V.str)) hc
          have s6 := same_new (o := .tup [.ref c, .str z]) ht1
          have s7 := same_new (o := .tup [.str "made", .ref t1]) ht2
          have ew : ws = srt zs := srt_eq hw hs
          refine k _ _ (s3.trans (s4.trans (s5.trans (s6.trans s7)))) (.inr ⟨t2, t1, c, zs, z, ea, rfl, rfl, rfl, upd_same, s7 _ _ upd_same, ?_⟩)
          rw [← ew]
          exact (s6.trans s7) _ _ upd_same
abbrev nLaw : List Str := ["_law_script", "_law_bag_here", "_law_odd", "_law_turn", "_law_some", "_law_end", "_law_way", "_law_again", "_law_found", "_law_bad"]
theorem scLaw : FnScope nLaw ["_law_script"] (defScope sLaw) := ⟨rfl, rfl, rfl, by decide +kernel, rfl, by decide +kernel, by decide +kernel⟩
def spLaw (K : PySem.W.Frag) : Sp := fun vs H Q _ => ∃ (a : Addr) (ns : List Int), vs = [.ref a] ∧ SqL K H a (ns.map V.int) ∧ ns.length ≤ 63 ∧ ∀ H', Q (.bl true) H'
def okT (z : Str) : Prop := z.cps.size ≤ 1000 ∧ PyData.strOk z = true
def ObjV (H : Hp) (t : Addr) : Prop := (∃ xs, H t = some (.tup xs)) ∨ (∃ xs, H t = some (.lst xs)) ∨ ∃ k, H t = some (.dK k)
theorem ObjV.at_ {H : Hp} {t : Addr} (h : ObjV H t) : ∃ o, H t = some o := by
  rcases h with ⟨_, h⟩ | ⟨_, h⟩ | ⟨_, h⟩ <;> exact ⟨_, h⟩
theorem ObjV.keep {H H' : Hp} {t : Addr} (k : ∀ o, H t = some o → H' t = some o) (h : ObjV H t) : ObjV H' t := by
  rcases h with ⟨x, h⟩ | ⟨x, h⟩ | ⟨x, h⟩
  · exact .inl ⟨x, k _ h⟩
  · exact .inr (.inl ⟨x, k _ h⟩)
  · exact .inr (.inr ⟨x, k _ h⟩)
/-- a value of any kind; its object is neither b nor p -/
def OddV (b p : Addr) (H : Hp) (x : V) : Prop := (∃ z, x = .str z ∧ okT z) ∨ x = .non ∨ (∃ i, x = .int i) ∨ (∃ c, x = .bl c) ∨ ∃ t, x = .ref t ∧ t ≠ b ∧ t ≠ p ∧ ObjV H t
theorem OddV.keep {b p q : Addr} {H H' : Hp} {x : V} (k : ∀ t o, t ≠ b → t ≠ p → H t = some o → H' t = some o ∧ t ≠ q) (h : OddV b p H x) : OddV b q H' x := by
  rcases h with h | h | h | h | ⟨t, h1, h2, h3, h4⟩
  · exact .inl h
  · exact .inr (.inl h)
  · exact .inr (.inr (.inl h))
  · exact .inr (.inr (.inr (.inl h)))
  · obtain ⟨o, ho⟩ := h4.at_
    exact .inr (.inr (.inr (.inr ⟨t, h1, h2, (k t o h2 h3 ho).2, h4.keep fun o ho => (k t o h2 h3 ho).1⟩)))
theorem OddV.kp {b p : Addr} {H H' : Hp} {x : V} (k : Kp b H H') (h : OddV b p H x) : OddV b p H' x := by
  rcases h with h | h | h | h | ⟨t, h1, h2, h3, h4⟩
  · exact .inl h
  · exact .inr (.inl h)
  · exact .inr (.inr (.inl h))
  · exact .inr (.inr (.inr (.inl h)))
  · exact .inr (.inr (.inr (.inr ⟨t, h1, h2, h3, h4.keep fun o ho => k _ _ ho h2⟩)))
theorem OddV.updp {b p : Addr} {H : Hp} {x : V} {o : HO} (h : OddV b p H x) : OddV b p (upd H p o) x := by
  rcases h with h | h | h | h | ⟨t, h1, h2, h3, h4⟩
  · exact .inl h
  · exact .inr (.inl h)
  · exact .inr (.inr (.inl h))
  · exact .inr (.inr (.inr (.inl h)))
  · exact .inr (.inr (.inr (.inr ⟨t, h1, h2, h3, h4.keep fun o ho => by rw [upd_ne h3]; exact ho⟩)))
theorem OddV.to {b q p : Addr} {H : Hp} {x : V} (hp : H p = none) (h : OddV b q H x) : OddV b p H x := by
  rcases h with h | h | h | h | ⟨t, h1, h2, h3, h4⟩
  · exact .inl h
  · exact .inr (.inl h)
  · exact .inr (.inr (.inl h))
  · exact .inr (.inr (.inr (.inl h)))
  · obtain ⟨o, ho⟩ := h4.at_
    exact .inr (.inr (.inr (.inr ⟨t, h1, h2, ne_of_none ho hp, h4⟩)))
theorem OddV.back {b p : Addr} {H : Hp} {x : V} (h : OddV b p H x) : OddV b b H x := by
  rcases h with h | h | h | h | ⟨t, h1, h2, h3, h4⟩
  · exact .inl h
  · exact .inr (.inl h)
  · exact .inr (.inr (.inl h))
  · exact .inr (.inr (.inr (.inl h)))
  · exact .inr (.inr (.inr (.inr ⟨t, h1, h2, h2, h4⟩)))
theorem OddV.any {b p : Addr} {H : Hp} {x : V} (h : OddV b p H x) : ∀ H', Same H H' → VAny K H' x := fun H' s => by
  rcases h with ⟨z, rfl, h1, h2⟩ | rfl | ⟨i, rfl⟩ | ⟨c, rfl⟩ | ⟨t, rfl, h2, h3, h4⟩
  · exact .inl ⟨z, rfl, h1, h2⟩
  · exact .inr ⟨fun z e => (nomatch e), "NoneType", .base .non, by decide +kernel⟩
  · exact .inr ⟨fun z e => (nomatch e), "int", .base (.int i), by decide +kernel⟩
  · exact .inr ⟨fun z e => (nomatch e), "bool", .base (.bl c), by decide +kernel⟩
  · rcases h4 with ⟨xs, h⟩ | ⟨xs, h⟩ | ⟨xs, h⟩
    · exact .inr ⟨fun z e => (nomatch e), "tuple", .base (.tup (s _ _ h)), by decide +kernel⟩
    · exact .inr ⟨fun z e => (nomatch e), "list", .base (.lst (s _ _ h)), by decide +kernel⟩
    · exact .inr ⟨fun z e => (nomatch e), "dict", .base (.dK (s _ _ h)), by decide +kernel⟩
/-- the list of odd values -/
structure OL (b p od : Addr) (os : List V) (H : Hp) : Prop where
  at_ : H od = some (.lst os)
  nb : od ≠ b
  np : od ≠ p
  v : ∀ x ∈ os, OddV b p H x
theorem OL.kp {b p od : Addr} {os : List V} {H H' : Hp} (k : Kp b H H') (h : OL b p od os H) : OL b p od os H' := ⟨k _ _ h.at_ h.nb, h.nb, h.np, fun x hx => (h.v x hx).kp k⟩
theorem OL.updp {b p od : Addr} {os : List V} {H : Hp} {o : HO} (h : OL b p od os H) : OL b p od os (upd H p o) := ⟨by rw [upd_ne h.np]; exact h.at_, h.nb, h.np, fun x hx => (h.v x hx).updp⟩
theorem OL.to {b q p od : Addr} {os : List V} {H : Hp} (hp : H p = none) (h : OL b q od os H) : OL b p od os H := ⟨h.at_, h.nb, ne_of_none h.at_ hp, fun x hx => (h.v x hx).to hp⟩
theorem OL.back {b p od : Addr} {os : List V} {H : Hp} (h : OL b p od os H) : OL b b od os H := ⟨h.at_, h.nb, h.nb, fun x hx => (h.v x hx).back⟩
/-- the list of texts -/
structure TS12 (b l p : Addr) (zs : List Str) (H : Hp) : Prop where
  at_ : H p = some (.lst (zs.map V.str))
  nb : p ≠ b
  nl : l ≠ p
  ok : ∀ z ∈ zs, okT z
  n : askLen (zs.map V.str)
theorem TS12.kp {b l p : Addr} {zs : List Str} {H H' : Hp} (k : Kp b H H') (h : TS12 b l p zs H) : TS12 b l p zs H' := ⟨k _ _ h.at_ h.nb, h.nb, h.nl, h.ok, h.n⟩
theorem TS12.askV {b l p : Addr} {zs : List Str} {H : Hp} {e : V} (h : TS12 b l p zs H) (he : OddV b p H e) : AskV K (zs.map V.str) e H := ⟨h.n, fun H' s x hx => by
  obtain ⟨z, hz, rfl⟩ := List.mem_map.mp hx
  exact .inl ⟨z, rfl, (h.ok z hz).1, (h.ok z hz).2⟩, he.any⟩
theorem menu_okT : ∀ c ∈ menu, okT c := fun c hc => by
  have := menu_okS c hc
  unfold okS at this
  rw [Bool.and_eq_true, decide_eq_true_eq] at this
  exact ⟨Nat.le_trans this.2 (by decide), this.1⟩
theorem colS_okS {z : Str} (h : colS z = true) (hok : PyData.strOk z = true) : okS z = true := by
  unfold okS
  rw [hok, decide_eq_true (by unfold colS at h; simp only [Bool.and_eq_true, decide_eq_true_eq] at h; omega)]
  rfl
theorem wrong_data {H : Hp} {v : V} {xs : List V} {e : V} (hd : diffB xs = false) (h : HeardW H v xs e) : Dp K H v (.tuple [.str "wrong", .int 0]) := by
  have ha : askD xs e = some 0 := by
    unfold askD
    rw [if_pos (.inl hd)]
  rcases h with ⟨n, t, h1, rfl, h3⟩ | ⟨_, _, _, _, _, h1, _⟩
  · rw [ha] at h1
    cases h1
    exact .tup (SqT.of h3) (.cons (.str "wrong") (.cons (.int _) .nil))
  · rw [ha] at h1
    cases h1
theorem ixN_natL {n j : Nat} (h : j < n) : ixN n (j : Int) = some j := by
  unfold ixN
  simp
  omega
theorem TS12.set {b l p : Addr} {zs : List Str} {H : Hp} {j : Nat} {y : Str} (h : TS12 b l p zs H) (hj : j < zs.length) (hy : okT y) : TS12 b l p (zs.set j y) (upd H p (.lst ((zs.map V.str).set j (.str y)))) := by
  refine ⟨by rw [upd_same, List.map_set], h.nb, h.nl, fun z hz => ?_, by have := h.n; unfold askLen at this ⊢; rw [List.length_map] at this ⊢; rw [List.length_set]; exact this⟩
  rcases List.mem_or_eq_of_mem_set hz with q | q
  · exact h.ok z q
  · rw [q]
    exact hy
/-- the two answers as data -/
theorem heard_data {H : Hp} {v u : V} {xs : List V} {e : V} (hv : AskV K xs e H) (h : HeardW H v xs e) (d : HeardW H u xs e) : ∃ x : PyData, Dp K H v x ∧ Dp K H u x ∧ DOk x := by
  rcases h with ⟨n, t, h1, rfl, h3⟩ | ⟨t, q, c, zs, z, h1, rfl, rfl, rfl, h5, h6, h7⟩
  · rcases d with ⟨n', t', g1, rfl, g3⟩ | ⟨_, _, _, _, _, g1, _⟩
    · rw [h1] at g1
      cases g1
      have hn : n ≤ 1 := by
        unfold askD at h1
        split at h1
        · cases h1; omega
        · split at h1
          · cases h1; omega
          · cases h1
      refine ⟨.tuple [.str "wrong", .int (n : Int)], .tup (SqT.of h3) (.cons (.str "wrong") (.cons (.int _) .nil)), .tup (SqT.of g3) (.cons (.str "wrong") (.cons (.int _) .nil)), ?_⟩
      refine ⟨?_, by show max 0 (max 0 0) + 1 ≤ 50; decide, by show 210 + 2 + (64 + 2 + 0) + 3 ≤ 1000000; decide⟩
      show (fine (.str "wrong") && (fine (.int (n : Int)) && true)) = true
      rw [show fine (.int (n : Int)) = true from fine_int (by rw [Int.natAbs_natCast]; omega)]
      decide +kernel
    · rw [h1] at g1
      cases g1
  · rcases d with ⟨n', t', g1, rfl, g3⟩ | ⟨t', q', c', zs', z', g1, g2, g3, rfl, g5, g6, g7⟩
    · rw [h1] at g1
      cases g1
    · have ez : zs' = zs := by
        have := congrArg strsOf g2
        rw [strsOf_map, strsOf_map] at this
        exact this.symm
      subst ez
      cases g3
      have hd : diffB (zs'.map V.str) = true := by
        cases hd : diffB (zs'.map V.str) with
        | true => rfl
        | false =>
          unfold askD at h1
          rw [if_pos (.inl hd)] at h1
          cases h1
      have hlb : lastB (.str z) zs' = true := by
        cases hd2 : lastB (.str z) zs' with
        | true => rfl
        | false =>
          unfold askD at h1
          split at h1
          · cases h1
          · rw [strsOf_map, if_pos hd2] at h1
            cases h1
      unfold diffB at hd
      rw [Bool.and_eq_true, List.all_eq_true] at hd
      have zk : ∀ x ∈ zs', okS x = true := fun x hx => by
        refine colS_okS (hd.1 (.str x) (List.mem_map_of_mem hx)) ?_
        rcases hv.v H (Same.refl _) (.str x) (List.mem_map_of_mem hx) with ⟨y, e1, _, h3⟩ | ⟨h1, _⟩
        · cases e1
          exact h3
        · exact absurd rfl (h1 x)
      have ek : okS z = true := by
        have : (decide (z = "") || (colS z && !decide (z ∈ zs'))) = true := hlb
        rw [Bool.or_eq_true, decide_eq_true_eq, Bool.and_eq_true] at this
        rcases this with e | ⟨h, _⟩
        · rw [e]
          exact okS_empty
        · refine colS_okS h ?_
          rcases hv.e H (Same.refl _) with ⟨y, e1, _, h3⟩ | ⟨h1, _⟩
          · cases e1
            exact h3
          · exact absurd rfl (h1 z)
      have sk : ∀ x ∈ srt zs', okS x = true := fun x hx => zk x ((srt_perm _).mem_iff.mp hx)
      have hl : (srt zs').length ≤ 20 := by
        rw [srt_len]
        have := hv.n.le
        rw [List.length_map] at this
        exact this
      refine ⟨.tuple [.str "made", .tuple [.tuple ((srt zs').map PyData.str), .str z]], .tup (SqT.of h5) (.cons (.str "made") (.cons (.tup (SqT.of h6) (.cons (.tup (SqT.of h7) (dp_strs _)) (.cons (.str z) .nil))) .nil)),
        .tup (SqT.of g5) (.cons (.str "made") (.cons (.tup (SqT.of g6) (.cons (.tup (SqT.of g7) (dp_strs _)) (.cons (.str z) .nil))) .nil)), ?_⟩
      refine ⟨?_, ?_, ?_⟩
      · show (fine (.str "made") && ((fineAll ((srt zs').map PyData.str) && (okS z && true)) && true)) = true
        rw [fine_strs sk, ek]
        decide +kernel
      · show max 0 (max (max (PyData.depthAll ((srt zs').map PyData.str) + 1) (max 0 0) + 1) 0) + 1 ≤ 50
        rw [depth_strs]
        decide
      · show 210 + 2 + ((costAll ((srt zs').map PyData.str) + 3 + 2 + (210 + 2 + 0) + 3) + 2 + 0) + 3 ≤ 1000000
        rw [cost_strs]
        omega
theorem ok_law {f C g : Addr} {fd : FuncData} (F : Fun K "law" "law" sLaw f fd) (T : Txt K mg)
    (cB : Cal P w K mg base 1 "_law_bag" ["_law_script"] (spBag K))
    (cT : Cal P w K mg base 1 "_law_take" ["_law_bag_here", "_law_many"] spTake)
    (cO : Cal P w K mg base 2 "_law_one" ["_law_bag_here", "_law_some"] spOne)
    (cN : Cal P w K mg base 3 "_law_names" ["_law_bag_here", "_law_many"] spNames)
    (cA : CalG P w K mg base 1 "_law_alike" ["_law_found", "_law_due_here"] (spAlikeD K))
    (cH : Cal P w K mg base 5 "_law_heard" ["_law_some", "_law_end", "_law_short_here"] (spHeard K))
    (cD : Cal P w K mg base 2 "_law_due" ["_law_some", "_law_end"] (spDue K))
    (R : AskR P w K mg base C g) : FnG P w K mg base 6 f fd ["_law_script"] (spLaw K) := by
  refine okG F scLaw (fun vs H Q E h => ?_) (fun cdv A outer s H vs Q E hr hg h => ?_)
  · obtain ⟨a, ns, rfl, _⟩ := h
    rfl
  · obtain ⟨a, ns, rfl, hS, hlen, k⟩ := h
    have nd := scLaw.nd
    have hr1 : Room 1 _ := hr.mono (by decide)
    have hr2 : Room 2 _ := hr.mono (by decide)
    have hr3 : Room 3 _ := hr.mono (by decide)
    refine ⟨_, pss_cons (ps_set (i := 1) nd rfl (Or.inl rfl) (pe_call cB.G hr1 rfl cB.m cB.kp cB.b .nil pass0 (pa_cons (pv 0) pa_nil)))
      (pss_cons (ps_set (i := 2) nd rfl (Or.inl rfl) (pe_lst (pa_cons pe_non (pa_cons pe_int (pa_cons pe_bl (pa_cons pe_str (pa_cons pe_str (pa_cons pe_str (pa_cons (pe_tup pa_nil) (pa_cons (pe_lst pa_nil) (pa_cons (pe_tup (pa_cons pe_str pa_nil)) (pa_cons pe_str (pa_cons pe_dnewK (pa_cons pe_str (pa_cons pe_str (pa_cons pe_str (pa_cons pe_str pa_nil)))))))))))))))))
      (pss_cons (ps_for PassesOwn.never rfl (pi_range1 (by rfl) T.range (pa_cons pe_int pa_nil)) (pg_name (i := 3) nd rfl (Or.inl rfl))
        (pss_cons (ps_set (i := 4) nd rfl (Or.inl rfl) (pe_call cN.G hr3 rfl cN.m cN.kp cN.b .nil pass0 (pa_cons (pv 1) (pa_cons (pe_call cO.G hr2 rfl cO.m cO.kp cO.b .nil pass0 (pa_cons (pv 1) (pa_cons (pe_lst (pa_cons pe_int (pa_cons pe_int (pa_cons pe_int (pa_cons pe_int (pa_cons pe_int (pa_cons pe_int (pa_cons pe_int (pa_cons pe_int pa_nil))))))))) pa_nil))) pa_nil))))
        (pss_cons (ps_par (i := 5) (j := 6) rfl nd rfl rfl (by decide) rfl rfl (pa_cons (pe_call cO.G hr2 rfl cO.m cO.kp cO.b .nil pass0 (pa_cons (pv 1) (pa_cons (pe_op op_cat (pe_call cN.G hr3 rfl cN.m cN.kp cN.b .nil pass0 (pa_cons (pv 1) (pa_cons pe_int pa_nil))) (pe_lst (pa_cons pe_str (pa_cons pe_str (pa_cons pe_str pa_nil))))) pa_nil))) (pa_cons (pe_call cT.G hr1 rfl cT.m cT.kp cT.b .nil pass0 (pa_cons (pv 1) (pa_cons pe_int pa_nil))) pa_nil)) (by rfl))
        (Evl.pss_cut (ps_if (PW.pt (pw_and (pt_cmpR op_eq (pv 6) pe_int (nomark _)) (pw_and1 (pt_cmpR (op_neNil hr.units) (pv 4) (pe_lst pa_nil) (nomark _))))) (pss_one (ps_asg (pe_call cO.G hr2 rfl cO.m cO.kp cO.b .nil pass0 (pa_cons (pv 1) (pa_cons (pe_lst (pa_cons pe_str (pa_cons pe_str (pa_cons pe_str (pa_cons pe_str (pa_cons pe_str (pa_cons pe_str (pa_cons pe_str (pa_cons pe_str pa_nil))))))))) pa_nil))) (pg_sub (pv 4) (pe_call cT.G hr1 rfl cT.m cT.kp cT.b .nil pass0 (pa_cons (pv 1) (pa_cons (pe_callB call_len_seq (by rfl) T.len PySem.boot_len (pa_cons (pv 4) pa_nil)) pa_nil))) set_list))) pss_nil)
        (Evl.pss_cut (ps_if (PW.pt (pw_and (pt_cmpR op_eq (pv 6) pe_int (nomark _)) (pw_and1 (pt_cmpR op_gt (pe_callB call_len_seq (by rfl) T.len PySem.boot_len (pa_cons (pv 4) pa_nil)) pe_int (nomark _))))) (pss_one (ps_asg (pe_call cO.G hr2 rfl cO.m cO.kp cO.b .nil pass0 (pa_cons (pv 1) (pa_cons (pv 4) pa_nil))) (pg_sub (pv 4) (pe_call cT.G hr1 rfl cT.m cT.kp cT.b .nil pass0 (pa_cons (pv 1) (pa_cons (pe_callB call_len_seq (by rfl) T.len PySem.boot_len (pa_cons (pv 4) pa_nil)) pa_nil))) set_list))) pss_nil)
        (Evl.pss_cut (ps_if (PW.pt (pw_or (pt_cmpR op_eq (pv 6) pe_int (nomark _)) (pw_or1 (PW.pt (pw_and (pt_cmpR op_lt (pv 6) pe_int (nomark _)) (pw_and1 (pt_cmpR op_eq (pe_call cT.G hr1 rfl cT.m cT.kp cT.b .nil pass0 (pa_cons (pv 1) (pa_cons pe_int pa_nil))) pe_int (nomark _)))))))) (pss_one (ps_set (i := 5) nd rfl (Or.inl rfl) (pe_call cO.G hr2 rfl cO.m cO.kp cO.b .nil pass0 (pa_cons (pv 1) (pa_cons (pe_op op_cat (pv 2) (pv 4)) pa_nil))))) pss_nil)
        (pss_one (ps_for PassesOwn.never rfl (pi_range1 (by rfl) T.range (pa_cons pe_int pa_nil)) (pg_name (i := 7) nd rfl (Or.inl rfl))
          (pss_cons (ps_set (i := 8) nd rfl (Or.inl rfl) (pe_call cH.G hr rfl cH.m cH.kp cH.b .nil pass0 (pa_cons (pv 4) (pa_cons (pv 5) (pa_cons (pe_and (pe_callB call_isi (by rfl) T.isinstance (by decide +kernel) (pa_cons (pv 5) (pa_cons (pe_bltn (v := .ty "str") (by rfl) T.str (by decide +kernel) rfl) pa_nil))) (pe_and (pe_cmpR op_eq (pv 5) pe_str (nomark _)) (pe_one (pe_cmpR op_eq (pv 7) pe_int (nomark _))))) pa_nil)))))
          (pss_one (ps_if (pt_not (pt_val (pe_callg cA.G hr1 hg rfl cA.m cA.kp cA.b (pa_cons (pv 8) (pa_cons (pe_call cD.G hr2 rfl cD.m cD.kp cD.b .nil pass0 (pa_cons (pv 4) (pa_cons (pv 5) pa_nil))) pa_nil))))) (pss_one (ps_ret pe_bl)) pss_nil)))))))))))
      (pss_cons (ps_for PassesOwn.never rfl (pi_tup (pe_tup (pa_cons pe_non (pa_cons pe_int (pa_cons pe_bl (pa_cons (pe_tup (pa_cons pe_str pa_nil)) (pa_cons (pe_lst (pa_cons pe_str pa_nil)) (pa_cons pe_dnewK (pa_cons (pe_lst (pa_cons pe_str (pa_cons pe_str pa_nil))) pa_nil))))))))) (pg_name (i := 9) nd rfl (Or.inl rfl))
        (pss_cons (ps_if (PW.pt (pw_or (pt_cmpR (op_neD hr.units) (pe_call cH.G hr rfl cH.m cH.kp cH.b .nil pass0 (pa_cons (pe_lst (pa_cons (pv 9) pa_nil)) (pa_cons pe_str (pa_cons pe_bl pa_nil)))) (pe_tup (pa_cons pe_str (pa_cons pe_int pa_nil))) (nomark _)) (pw_or1 (pt_cmpR (op_neD hr.units) (pe_call cH.G hr rfl cH.m cH.kp cH.b .nil pass0 (pa_cons (pe_lst (pa_cons pe_str (pa_cons (pv 9) pa_nil))) (pa_cons pe_str (pa_cons pe_bl pa_nil)))) (pe_tup (pa_cons pe_str (pa_cons pe_int pa_nil))) (nomark _))))) (pss_one (ps_ret pe_bl)) pss_nil)
          (pss_one (ps_if (PW.pt (pw_or (pt_cmpR (op_neD hr.units) (pe_call cH.G hr rfl cH.m cH.kp cH.b .nil pass0 (pa_cons (pe_lst (pa_cons (pv 9) pa_nil)) (pa_cons (pe_call cO.G hr2 rfl cO.m cO.kp cO.b .nil pass0 (pa_cons (pv 1) (pa_cons (pv 2) pa_nil))) (pa_cons pe_bl pa_nil)))) (pe_tup (pa_cons pe_str (pa_cons pe_int pa_nil))) (nomark _)) (pw_or1 (pt_cmpR (op_neD hr.units) (pe_call cH.G hr rfl cH.m cH.kp cH.b .nil pass0 (pa_cons (pe_lst (pa_cons pe_str (pa_cons (pv 9) pa_nil))) (pa_cons (pv 9) (pa_cons pe_bl pa_nil)))) (pe_tup (pa_cons pe_str (pa_cons pe_int pa_nil))) (nomark _))))) (pss_one (ps_ret pe_bl)) pss_nil))))
      (pss_cons (ps_set (i := 8) nd rfl (Or.inl rfl) (pe_askK (E := fun _ _ _ _ => False) R hr3 rfl (fun σ pins H s e s' I c => passL pins σ H s e s' I c) (pa_cons pe_str (pa_cons pe_str (pa_cons pe_str (pa_cons pe_str (pa_cons pe_str (pa_cons pe_str (pa_cons pe_str (pa_cons pe_str (pa_cons pe_str (pa_cons pe_str (pa_cons pe_str (pa_cons pe_str (pa_cons pe_str pa_nil))))))))))))) (pk_cons pe_str pk_nil)))
      (pss_one (ps_ret (pe_cmpR (op_eqD hr.units) (pv 8) (pe_tup (pa_cons (pe_tup (pa_cons pe_str (pa_cons pe_str (pa_cons pe_str (pa_cons pe_str (pa_cons pe_str (pa_cons pe_str (pa_cons pe_str (pa_cons pe_str (pa_cons pe_str (pa_cons pe_str (pa_cons pe_str (pa_cons pe_str (pa_cons pe_str pa_nil)))))))))))))) (pa_cons pe_str pa_nil))) (nomark _)))))))), ?_⟩
    refine ⟨_, rfl, a, ns, rfl, hS, hlen, fun b l H1 hb B1 s1 => ?_⟩
    refine ⟨by decide, fun t1 ht1 => ⟨by decide, fun t2 ht2 => ⟨by show 1 ≤ sizeLine; decide, fun t3 ht3 => fun t4 ht4 => ⟨by show 15 ≤ sizeLine; decide, fun od hod => ?_⟩⟩⟩⟩
    have q1 := same_new (o := .tup []) ht1
    have q2 := same_new (o := .lst []) ht2
    have q3 := same_new (o := .tup [.str "a"]) ht3
    have q4 := same_new (o := .dK []) ht4
    have q5 := same_new (o := .lst [.non, .int 1, .bl true, .str "A", .str "", .str "ninesigns", .ref t1, .ref t2, .ref t3, .str "a ", .ref t4, .str "a1", .str "aB", .str "a_", .str "{"]) hod
    have n1 := B1.ne ht1
    have n2 := (B1.same q1).ne ht2
    have n3 := (B1.same (q1.trans q2)).ne ht3
    have n4 := (B1.same (q1.trans (q2.trans q3))).ne ht4
    have nod := (B1.same (q1.trans (q2.trans (q3.trans q4)))).ne hod
    have j1 := (q2.trans (q3.trans (q4.trans q5))) _ _ (upd_same (H := H1) (a := t1) (o := .tup []))
    have j2 := (q3.trans (q4.trans q5)) _ _ (upd_same (a := t2) (o := .lst []))
    have j3 := (q4.trans q5) _ _ (upd_same (a := t3) (o := .tup [.str "a"]))
    have j4 := q5 _ _ (upd_same (a := t4) (o := .dK []))
    have B2 := B1.same (q1.trans (q2.trans (q3.trans (q4.trans q5))))
    have O2 : OL b b od [.non, .int 1, .bl true, .str "A", .str "", .str "ninesigns", .ref t1, .ref t2, .ref t3, .str "a ", .ref t4, .str "a1", .str "aB", .str "a_", .str "{"] _ := ⟨upd_same, nod, nod, fun x hx => by
      simp only [List.mem_cons, List.not_mem_nil, or_false] at hx
      rcases hx with rfl | rfl | rfl | rfl | rfl | rfl | rfl | rfl | rfl | rfl | rfl | rfl | rfl | rfl | rfl
      · exact .inr (.inl rfl)
      · exact .inr (.inr (.inl ⟨_, rfl⟩))
      · exact .inr (.inr (.inr (.inl ⟨_, rfl⟩)))
      · exact .inl ⟨_, rfl, by decide +kernel, by decide +kernel⟩
      · exact .inl ⟨_, rfl, by decide +kernel, by decide +kernel⟩
      · exact .inl ⟨_, rfl, by decide +kernel, by decide +kernel⟩
      · exact .inr (.inr (.inr (.inr ⟨t1, rfl, n1, n1, .inl ⟨_, j1⟩⟩)))
      · exact .inr (.inr (.inr (.inr ⟨t2, rfl, n2, n2, .inr (.inl ⟨_, j2⟩)⟩)))
      · exact .inr (.inr (.inr (.inr ⟨t3, rfl, n3, n3, .inl ⟨_, j3⟩⟩)))
      · exact .inl ⟨_, rfl, by decide +kernel, by decide +kernel⟩
      · exact .inr (.inr (.inr (.inr ⟨t4, rfl, n4, n4, .inr (.inr ⟨_, j4⟩)⟩)))
      · exact .inl ⟨_, rfl, by decide +kernel, by decide +kernel⟩
      · exact .inl ⟨_, rfl, by decide +kernel, by decide +kernel⟩
      · exact .inl ⟨_, rfl, by decide +kernel, by decide +kernel⟩
      · exact .inl ⟨_, rfl, by decide +kernel, by decide +kernel⟩⟩
    generalize hos : ([.non, .int 1, .bl true, .str "A", .str "", .str "ninesigns", .ref t1, .ref t2, .ref t3, .str "a ", .ref t4, .str "a1", .str "aB", .str "a_", .str "{"] : List V) = os at B2 O2 ⊢
    have ol : os.length = 15 := by rw [← hos]; rfl
    have one_ : os ≠ [] := by rw [← hos]; simp
    generalize upd (upd (upd (upd (upd H1 t1 (.tup [])) t2 (.lst [])) t3 (.tup [.str "a"])) t4 (.dK [])) od (.lst os) = H2 at B2 O2 ⊢
    refine ⟨24, rfl, by decide, by decide, ?_⟩
    refine for_range (lo := 0) (n := 24) (fun i σ H' => Bag H' b l ∧ OL b b od os H' ∧ ∃ (v3 v4 v5 v6 v7 v8 v9 : Option V), σ = [some (.ref a), some (.ref b), some (.ref od), v3, v4, v5, v6, v7, v8, v9])
      ⟨B2, O2, none, none, none, none, none, none, none, rfl⟩ ?_ ?_
    · rintro i σ H3 hi ⟨B3, O3, v3, v4, v5, v6, v7, v8, v9, rfl⟩
      refine ⟨_, rfl, _, rfl, by show 8 ≤ sizeLine; decide, fun p0 hp0 => ⟨b, l, p0, _, rfl, B3.new hp0, B3.ne hp0, upd_same, by simp, by show 8 < 1000; decide, fun x H4 hx B4 k4 => ?_⟩⟩
      obtain ⟨m, rfl, hm⟩ : ∃ m : Nat, x = V.int (m : Int) ∧ (m = 0 ∨ m = 1 ∨ m = 2 ∨ m = 3 ∨ m = 4 ∨ m = 5 ∨ m = 8 ∨ m = 12) := by
        simp only [List.mem_cons, List.not_mem_nil, or_false] at hx
        rcases hx with rfl | rfl | rfl | rfl | rfl | rfl | rfl | rfl
        · exact ⟨0, rfl, by omega⟩
        · exact ⟨1, rfl, by omega⟩
        · exact ⟨2, rfl, by omega⟩
        · exact ⟨3, rfl, by omega⟩
        · exact ⟨4, rfl, by omega⟩
        · exact ⟨5, rfl, by omega⟩
        · exact ⟨8, rfl, by omega⟩
        · exact ⟨12, rfl, by omega⟩
      refine ⟨b, l, m, rfl, B4, fun zs p H5 hN hn0 hnb h5 B5 k5 => ?_⟩
      have T5 : TS12 b l p zs H5 := ⟨h5, hnb, B4.nel hn0 |> fun h => h, fun z hz => menu_okT z (hN.sub z hz), by
        have := hN.len
        unfold askLen
        rw [List.length_map]
        omega⟩
      have O5 : OL b p od os H5 := (OL.to hn0 (O3.kp ((Kp.new hp0).trans k4))).kp k5
      refine ⟨_, rfl, _, rfl, b, l, 3, rfl, B5, fun ys q H6 hN6 hq0 hqb h6 B6 k6 => ⟨by show 3 ≤ sizeLine; decide, fun r hr => ?_⟩⟩
      have yl := hN6.len
      have s7 := same_new (o := .lst [.str "", .str "", .str ""]) hr
      refine ⟨q, r, _, _, rfl, rfl, s7 _ _ h6, upd_same, by rw [List.length_map, sizeLine_eq]; show ys.length + 3 ≤ _; omega, fun s hs => ?_⟩
      have s8 := same_new (o := .lst (ys.map V.str ++ [.str "", .str "", .str ""])) hs
      have B8 := B6.same (s7.trans s8)
      refine ⟨b, l, s, _, rfl, B8, (B6.same s7).ne hs, upd_same, by simp, by rw [List.length_append, List.length_map]; show ys.length + 3 < 1000; omega, fun e H9 he B9 k9 => ?_⟩
      have oe : ∃ z, e = .str z ∧ okT z := by
        rcases List.mem_append.mp he with h | h
        · obtain ⟨z, hz, rfl⟩ := List.mem_map.mp h
          exact ⟨z, rfl, menu_okT z (hN6.sub z hz)⟩
        · simp only [List.mem_cons, List.not_mem_nil, or_false, or_self] at h
          exact ⟨"", h, by decide +kernel, by decide +kernel⟩
      refine ⟨_, rfl, b, l, 8, rfl, B9, by decide, by decide, fun way H10 hway B10 k10 => ⟨_, _, rfl, ?_⟩⟩
      have k510 : Kp b H5 H10 := k6.trans ((Kp.of (s7.trans s8)).trans (k9.trans k10))
      have T10 := T5.kp k510
      have O10 := O5.kp k510
      clear T5 O5 hN
      refine ⟨fun σ' H' => ∃ zs, σ' = [some (.ref a), some (.ref b), some (.ref od), some (.int (0 + (i : Int))), some (.ref p), some e, some (.int (way : Int)), v7, v8, v9] ∧ Bag H' b l ∧ TS12 b l p zs H' ∧ OL b p od os H', ?_, ?_⟩
      · refine ⟨_, rfl, rfl, _, rfl, ?_⟩
        refine ite2 (fun _ => ?_) (fun _ => ⟨zs, rfl, B10, T10, O10⟩)
        refine ⟨_, rfl, by decide, fun e0 he0 => ?_⟩
        have s11 := same_new (o := .lst []) he0
        refine ⟨p, e0, _, rfl, rfl, SqL.of (s11 _ _ T10.at_), SqL.of upd_same, _, rfl, ?_⟩
        refine ite2 (fun hne => ?_) (fun _ => ⟨zs, rfl, B10.same s11, T10.kp (Kp.of s11), O10.kp (Kp.of s11)⟩)
        have zpos : 0 < zs.length := by
          cases zs with
          | nil => exact absurd hne (by decide)
          | cons z zs => exact Nat.succ_pos _
        have B11 := B10.same s11
        refine ⟨_, rfl, by show 8 ≤ sizeLine; decide, fun r hr => ?_⟩
        have s12 := same_new (o := .lst [.str "", .str "A", .str "ninesigns", .str "a1", .str "a b", .str "zz", .str "a", .str "a{"]) hr
        refine ⟨b, l, r, _, rfl, B11.same s12, B11.ne hr, upd_same, by simp, by show 8 < 1000; decide, fun x H13 hx B13 k13 => ?_⟩
        obtain ⟨y, rfl, hy⟩ : ∃ y, x = .str y ∧ okT y := by
          simp only [List.mem_cons, List.not_mem_nil, or_false] at hx
          rcases hx with rfl | rfl | rfl | rfl | rfl | rfl | rfl | rfl <;> exact ⟨_, rfl, by decide +kernel, by decide +kernel⟩
        have kk : Kp b H10 H13 := (Kp.of (s11.trans s12)).trans k13
        have T13 := T10.kp kk
        have hn20 := T10.n.le
        rw [List.length_map] at hn20
        refine ⟨_, rfl, _, rfl, _, rfl, p, _, rfl, .inl (SqL.of T13.at_), b, l, _, rfl, B13, by rw [List.length_map]; omega, by rw [List.length_map]; omega, fun j H14 hj B14 k14 => ?_⟩
        rw [List.length_map] at hj
        have hj' : j < zs.length := by omega
        have T14 := T13.kp k14
        refine ⟨p, _, _, j, rfl, rfl, T14.at_, ixN_natL (by rw [List.length_map]; exact hj'), zs.set j y, rfl, B14.upd hnb.symm T14.nl, T14.set hj' hy, ((O10.kp kk).kp k14).updp⟩
      rintro σ2 H11 ⟨zs1, rfl, B11, T11, O11⟩
      clear T10 O10 B10
      refine ⟨fun σ' H' => ∃ zs, σ' = [some (.ref a), some (.ref b), some (.ref od), some (.int (0 + (i : Int))), some (.ref p), some e, some (.int (way : Int)), v7, v8, v9] ∧ Bag H' b l ∧ TS12 b l p zs H' ∧ OL b p od os H', ?_, ?_⟩
      · refine ⟨_, rfl, rfl, _, rfl, ?_⟩
        refine ite2 (fun _ => ?_) (fun _ => ⟨zs1, rfl, B11, T11, O11⟩)
        refine ⟨_, rfl, p, _, rfl, .inl (SqL.of T11.at_), _, _, rfl, rfl, _, rfl, ?_⟩
        refine ite2 (fun hlt => ?_) (fun _ => ⟨zs1, rfl, B11, T11, O11⟩)
        have hn20 := T11.n.le
        rw [List.length_map] at hn20
        have zpos : 1 < zs1.length := by
          have := of_decide_eq_true hlt
          rw [List.length_map] at this
          omega
        refine ⟨_, rfl, _, rfl, b, l, p, _, rfl, B11, hnb, T11.at_, fun h => by rw [List.map_eq_nil_iff] at h; rw [h] at zpos; exact absurd zpos (by decide), by rw [List.length_map]; omega, fun x H13 hx B13 k13 => ?_⟩
        obtain ⟨y, hy0, rfl⟩ := List.mem_map.mp hx
        have hy := T11.ok y hy0
        have T13 := T11.kp k13
        refine ⟨_, rfl, _, rfl, _, rfl, p, _, rfl, .inl (SqL.of T13.at_), b, l, _, rfl, B13, by rw [List.length_map]; omega, by rw [List.length_map]; omega, fun j H14 hj B14 k14 => ?_⟩
        rw [List.length_map] at hj
        have hj' : j < zs1.length := by omega
        have T14 := T13.kp k14
        refine ⟨p, _, _, j, rfl, rfl, T14.at_, ixN_natL (by rw [List.length_map]; exact hj'), zs1.set j y, rfl, B14.upd hnb.symm T14.nl, T14.set hj' hy, ((O11.kp k13).kp k14).updp⟩
      rintro σ3 H12 ⟨zs2, rfl, B12, T12, O12⟩
      clear T11 O11 B11
      have oe2 : OddV b p H12 e := .inl oe
      refine ⟨fun σ' H' => ∃ zs e, σ' = [some (.ref a), some (.ref b), some (.ref od), some (.int (0 + (i : Int))), some (.ref p), some e, some (.int (way : Int)), v7, v8, v9] ∧ Bag H' b l ∧ TS12 b l p zs H' ∧ OL b p od os H' ∧ OddV b p H' e, ?_, ?_⟩
      · refine ⟨_, rfl, rfl, _, rfl, ?_⟩
        refine ite2 (fun _ => ?_) (fun _ => ?_)
        · refine ⟨_, rfl, _, rfl, _, rfl, od, p, _, _, rfl, rfl, O12.at_, T12.at_, by have := T12.n.le; rw [ol, sizeLine_eq]; omega, fun r hr => ?_⟩
          have sr := same_new (o := .lst (os ++ zs2.map V.str)) hr
          refine ⟨b, l, r, _, rfl, B12.new hr, B12.ne hr, upd_same, by intro h; rw [List.append_eq_nil_iff] at h; exact one_ h.1, by have := T12.n.le; rw [List.length_append, ol]; omega, fun x HX hx BX kX => ?_⟩
          have kk : Kp b H12 HX := (Kp.of sr).trans kX
          refine ⟨zs2, x, rfl, BX, T12.kp kk, O12.kp kk, ?_⟩
          rcases List.mem_append.mp hx with h | h
          · exact (O12.v x h).kp kk
          · obtain ⟨z, hz, rfl⟩ := List.mem_map.mp h
            exact .inl ⟨z, rfl, T12.ok z hz⟩
        · refine ⟨_, rfl, _, _, rfl, rfl, _, rfl, ?_⟩
          refine ite2 (fun _ => ?_) (fun _ => ⟨zs2, e, rfl, B12, T12, O12, oe2⟩)
          refine ⟨_, rfl, b, l, 3, rfl, B12, by decide, by decide, fun j H13 hj B13 k13 => ⟨rfl, _, rfl, ?_⟩⟩
          have T13 := T12.kp k13
          have O13 := O12.kp k13
          refine ite2 (fun _ => ?_) (fun _ => ⟨zs2, e, rfl, B13, T13, O13, oe2.kp k13⟩)
          · refine ⟨_, rfl, _, rfl, _, rfl, od, p, _, _, rfl, rfl, O13.at_, T13.at_, by have := T13.n.le; rw [ol, sizeLine_eq]; omega, fun r hr => ?_⟩
            have sr := same_new (o := .lst (os ++ zs2.map V.str)) hr
            refine ⟨b, l, r, _, rfl, B13.new hr, B13.ne hr, upd_same, by intro h; rw [List.append_eq_nil_iff] at h; exact one_ h.1, by have := T13.n.le; rw [List.length_append, ol]; omega, fun x HX hx BX kX => ?_⟩
            have kk : Kp b H13 HX := (Kp.of sr).trans kX
            refine ⟨zs2, x, rfl, BX, T13.kp kk, O13.kp kk, ?_⟩
            rcases List.mem_append.mp hx with h | h
            · exact (O13.v x h).kp kk
            · obtain ⟨z, hz, rfl⟩ := List.mem_map.mp h
              exact .inl ⟨z, rfl, T13.ok z hz⟩
      rintro σ4 H13 ⟨zs3, e3, rfl, B13, T13, O13, oe3⟩
      clear T12 O12 B12 oe2 oe
      refine ⟨2, rfl, by decide, by decide, for_range (lo := 0) (n := 2) (fun i' σ H' => (∃ v7 v8, σ = [some (.ref a), some (.ref b), some (.ref od), some (.int (0 + (i : Int))), some (.ref p), some e3, some (.int (way : Int)), v7, v8, v9]) ∧ Bag H' b l ∧ TS12 b l p zs3 H' ∧ OL b p od os H' ∧ OddV b p H' e3)
        ⟨⟨_, _, rfl⟩, B13, T13, O13, oe3⟩ ?_ ?_⟩
      · rintro i' σ H14 hi' ⟨⟨v7, v8, rfl⟩, B14, T14, O14, oe4⟩
        refine ⟨_, rfl, _, rfl, _, rfl, ?_⟩
        rcases oe4.any (K := K) H14 (Same.refl _) with ⟨z, rfl, hz, hok⟩ | ⟨hnz, tt, ty, hk⟩
        · refine ⟨_, _, .type "str", .type "str", true, rfl, .ty "str", .base (.str z), kit_ty (by decide +kernel), _, rfl, ?_⟩
          refine iteT ?_
          refine ⟨_, rfl, rfl, _, rfl, ?_⟩
          by_cases hz0 : z = ""
          · rw [decide_eq_true (congrArg V.str hz0)]
            refine iteT ?_
            refine ⟨_, rfl, rfl, ?_⟩
            refine ⟨p, _, (.str z), _, rfl, T14.at_, T14.askV oe4, (fun _ => by rw [hz0]), fun H15 v s15 hv => ?_⟩
            have av := (T14.askV (K := K) oe4).same s15
            refine ⟨_, rfl, _, rfl, _, rfl, p, _, (.str z), rfl, s15 _ _ T14.at_, av, fun H16 u s16 hu => ?_⟩
            obtain ⟨d, x1, x2, x3⟩ := heard_data (av.same s16) (hv.same s16) hu
            refine ⟨v, u, d, rfl, x1, x2, x3, _, rfl, ?_⟩
            refine iteF ?_
            have kk := Kp.of (b := b) (s15.trans s16)
            exact ⟨⟨_, _, rfl⟩, B14.same (s15.trans s16), T14.kp kk, O14.kp kk, oe4.kp kk⟩
          · rw [decide_eq_false fun h => hz0 (by injection h)]
            refine iteF ?_
            refine ⟨p, _, (.str z), _, rfl, T14.at_, T14.askV oe4, (fun h => (nomatch h)), fun H15 v s15 hv => ?_⟩
            have av := (T14.askV (K := K) oe4).same s15
            refine ⟨_, rfl, _, rfl, _, rfl, p, _, (.str z), rfl, s15 _ _ T14.at_, av, fun H16 u s16 hu => ?_⟩
            obtain ⟨d, x1, x2, x3⟩ := heard_data (av.same s16) (hv.same s16) hu
            refine ⟨v, u, d, rfl, x1, x2, x3, _, rfl, ?_⟩
            refine iteF ?_
            have kk := Kp.of (b := b) (s15.trans s16)
            exact ⟨⟨_, _, rfl⟩, B14.same (s15.trans s16), T14.kp kk, O14.kp kk, oe4.kp kk⟩
        · refine ⟨_, _, .type tt, .type "str", false, rfl, .ty "str", ty, kit_ty hk, _, rfl, ?_⟩
          refine iteF ?_
          refine ⟨p, _, e3, _, rfl, T14.at_, T14.askV oe4, (fun h => (nomatch h)), fun H15 v s15 hv => ?_⟩
          have av := (T14.askV (K := K) oe4).same s15
          refine ⟨_, rfl, _, rfl, _, rfl, p, _, e3, rfl, s15 _ _ T14.at_, av, fun H16 u s16 hu => ?_⟩
          obtain ⟨d, x1, x2, x3⟩ := heard_data (av.same s16) (hv.same s16) hu
          refine ⟨v, u, d, rfl, x1, x2, x3, _, rfl, ?_⟩
          refine iteF ?_
          have kk := Kp.of (b := b) (s15.trans s16)
          exact ⟨⟨_, _, rfl⟩, B14.same (s15.trans s16), T14.kp kk, O14.kp kk, oe4.kp kk⟩
      · rintro σ H14 ⟨⟨v7, v8, rfl⟩, B14, T14, O14, oe4⟩
        exact ⟨B14, O14.back, _, _, _, _, _, _, _, rfl⟩
    · rintro σ H3 ⟨B3, O3, v3, v4, v5, v6, v7, v8, v9, rfl⟩
      -- values that are no columns
      refine ⟨by show 1 ≤ sizeLine; decide, fun u1 hu1 => ⟨by show 1 ≤ sizeLine; decide, fun u2 hu2 => fun u3 hu3 => ⟨by show 2 ≤ sizeLine; decide, fun u4 hu4 => ⟨by show 7 ≤ sizeLine; decide, fun tt htt => ?_⟩⟩⟩⟩
      have r1 := same_new (o := .tup [.str "a"]) hu1
      have r2 := same_new (o := .lst [.str "a"]) hu2
      have r3 := same_new (o := .dK []) hu3
      have r4 := same_new (o := .lst [.str "a", .str "b"]) hu4
      have r5 := same_new (o := .tup [.non, .int 1, .bl true, .ref u1, .ref u2, .ref u3, .ref u4]) htt
      have m1 := B3.ne hu1
      have m2 := (B3.same r1).ne hu2
      have m3 := (B3.same (r1.trans r2)).ne hu3
      have m4 := (B3.same (r1.trans (r2.trans r3))).ne hu4
      have mt := (B3.same (r1.trans (r2.trans (r3.trans r4)))).ne htt
      have i1 := (r2.trans (r3.trans (r4.trans r5))) _ _ (upd_same (H := H3) (a := u1) (o := .tup [.str "a"]))
      have i2 := (r3.trans (r4.trans r5)) _ _ (upd_same (a := u2) (o := .lst [.str "a"]))
      have i3 := (r4.trans r5) _ _ (upd_same (a := u3) (o := .dK []))
      have i4 := r5 _ _ (upd_same (a := u4) (o := .lst [.str "a", .str "b"]))
      have rr := r1.trans (r2.trans (r3.trans (r4.trans r5)))
      have B4 := B3.same rr
      have O4 := O3.kp (Kp.of rr)
      have V4 : ∀ x ∈ ([.non, .int 1, .bl true, .ref u1, .ref u2, .ref u3, .ref u4] : List V), (∀ z, x ≠ .str z) ∧ OddV b b (upd (upd (upd (upd (upd H3 u1 (.tup [.str "a"])) u2 (.lst [.str "a"])) u3 (.dK [])) u4 (.lst [.str "a", .str "b"])) tt (.tup [.non, .int 1, .bl true, .ref u1, .ref u2, .ref u3, .ref u4])) x := fun x hx => by
        simp only [List.mem_cons, List.not_mem_nil, or_false] at hx
        rcases hx with rfl | rfl | rfl | rfl | rfl | rfl | rfl
        · exact ⟨fun z e => (nomatch e), .inr (.inl rfl)⟩
        · exact ⟨fun z e => (nomatch e), .inr (.inr (.inl ⟨_, rfl⟩))⟩
        · exact ⟨fun z e => (nomatch e), .inr (.inr (.inr (.inl ⟨_, rfl⟩)))⟩
        · exact ⟨fun z e => (nomatch e), .inr (.inr (.inr (.inr ⟨u1, rfl, m1, m1, .inl ⟨_, i1⟩⟩)))⟩
        · exact ⟨fun z e => (nomatch e), .inr (.inr (.inr (.inr ⟨u2, rfl, m2, m2, .inr (.inl ⟨_, i2⟩)⟩)))⟩
        · exact ⟨fun z e => (nomatch e), .inr (.inr (.inr (.inr ⟨u3, rfl, m3, m3, .inr (.inr ⟨_, i3⟩)⟩)))⟩
        · exact ⟨fun z e => (nomatch e), .inr (.inr (.inr (.inr ⟨u4, rfl, m4, m4, .inr (.inl ⟨_, i4⟩)⟩)))⟩
      have tt4 : (upd (upd (upd (upd (upd H3 u1 (.tup [.str "a"])) u2 (.lst [.str "a"])) u3 (.dK [])) u4 (.lst [.str "a", .str "b"])) tt (.tup [.non, .int 1, .bl true, .ref u1, .ref u2, .ref u3, .ref u4])) tt = some (.tup [.non, .int 1, .bl true, .ref u1, .ref u2, .ref u3, .ref u4]) := upd_same
      generalize upd (upd (upd (upd (upd H3 u1 (.tup [.str "a"])) u2 (.lst [.str "a"])) u3 (.dK [])) u4 (.lst [.str "a", .str "b"])) tt (.tup [.non, .int 1, .bl true, .ref u1, .ref u2, .ref u3, .ref u4]) = H4 at B4 O4 V4 tt4 ⊢
      generalize ([.non, .int 1, .bl true, .ref u1, .ref u2, .ref u3, .ref u4] : List V) = bads at V4 tt4 ⊢
      refine ⟨tt, rfl, ⟨_, SqT.of tt4⟩, for_tup (K := K) (a := tt) (xs := bads) (fun i σ H' => (∃ v9, σ = [some (.ref a), some (.ref b), some (.ref od), v3, v4, v5, v6, v7, v8, v9]) ∧ Bag H' b l ∧ OL b b od os H' ∧ H' tt = some (.tup bads) ∧ ∀ x ∈ bads, (∀ z, x ≠ .str z) ∧ OddV b b H' x)
        ⟨⟨_, rfl⟩, B4, O4, tt4, V4⟩ (fun i σ H' _ h => SqT.of h.2.2.2.1) ?_ ?_⟩
      · rintro i x σ H5 hx ⟨⟨v9, rfl⟩, B5, O5, tt5, V5⟩
        obtain ⟨xn, xo⟩ := V5 x (List.mem_of_getElem? hx)
        have xf := colV_not xn
        have w0 : PyData.eqv (.tuple [.str "wrong", .int 0]) (.tuple [.str "wrong", .int 0]) = true := by decide +kernel
        have ws : SeqAt.shaped (.tuple [.str "wrong", .int 0]) = true := by decide +kernel
        refine ⟨_, rfl, by show 1 ≤ sizeLine; decide, fun p1 hp1 => ?_⟩
        have s6 := same_new (o := .lst [x]) hp1
        refine ⟨p1, [x], .str "", false, rfl, upd_same, ⟨.inr (.inl rfl), fun H' s y hy => by rw [List.mem_singleton.mp hy]; exact xo.any H' (s6.trans s), fun H' s => .inl ⟨_, rfl, by decide +kernel, by decide +kernel⟩⟩, (fun h => (nomatch h)), fun H7 v s7 hv => ⟨by show 2 ≤ sizeLine; decide, fun c hc => ?_⟩⟩
        have s8 := same_new (o := .tup [.str "wrong", .int 0]) hc
        have kA := s6.trans (s7.trans s8)
        refine ⟨_, _, Dp.same s8 _ _ (wrong_data (by unfold diffB; rw [List.all_cons, xf]; rfl) hv), .tup (SqT.of upd_same) (.cons (.str "wrong") (.cons (.int 0) .nil)), ws, ws, _, rfl, ?_⟩
        rw [w0]
        refine iteF ?_
        have xoA := xo.kp (Kp.of (b := b) kA)
        generalize upd H7 c (.tup [.str "wrong", .int 0]) = HA at kA xoA ⊢
        clear hv s8 hc s7 s6 hp1 v c H7 p1
        refine ⟨_, rfl, by show 2 ≤ sizeLine; decide, fun p1 hp1 => ?_⟩
        have s6 := same_new (o := .lst [.str "a", x]) hp1
        refine ⟨p1, [.str "a", x], .str "b", false, rfl, upd_same, ⟨.inr (.inr (.inl rfl)), fun H' s y hy => by
            rcases List.mem_cons.mp hy with e | hy
            · rw [e]; exact .inl ⟨_, rfl, by decide +kernel, by decide +kernel⟩
            · rw [List.mem_singleton.mp hy]; exact xoA.any H' (s6.trans s), fun H' s => .inl ⟨_, rfl, by decide +kernel, by decide +kernel⟩⟩, (fun h => (nomatch h)), fun H7 v s7 hv => ⟨by show 2 ≤ sizeLine; decide, fun c hc => ?_⟩⟩
        have s8 := same_new (o := .tup [.str "wrong", .int 0]) hc
        have kB := kA.trans (s6.trans (s7.trans s8))
        refine ⟨_, _, Dp.same s8 _ _ (wrong_data (by unfold diffB; rw [List.all_cons, List.all_cons, xf, Bool.false_and, Bool.and_false]; rfl) hv), .tup (SqT.of upd_same) (.cons (.str "wrong") (.cons (.int 0) .nil)), ws, ws, _, rfl, ?_⟩
        rw [w0]
        refine iteF ?_
        have xoB := xo.kp (Kp.of (b := b) kB)
        have BB := B5.same kB
        have OB := O5.kp (Kp.of (b := b) kB)
        generalize upd H7 c (.tup [.str "wrong", .int 0]) = HB at kB xoB BB OB ⊢
        clear hv s8 hc s7 s6 hp1 v c H7 p1
        refine ⟨_, rfl, by show 1 ≤ sizeLine; decide, fun p1 hp1 => ?_⟩
        have s6 := same_new (o := .lst [x]) hp1
        have np1 := BB.ne hp1
        refine ⟨_, rfl, _, rfl, b, l, od, os, rfl, BB.same s6, OB.nb, (OB.kp (Kp.of s6)).at_, one_, by omega, fun e H7 he B7 k7 => ?_⟩
        have kC0 : Kp b HB H7 := (Kp.of s6).trans k7
        have oe := (OB.v e he).kp kC0
        have xoC0 := xoB.kp kC0
        refine ⟨p1, [x], e, false, rfl, k7 _ _ upd_same np1, ⟨.inr (.inl rfl), fun H' s y hy => by rw [List.mem_singleton.mp hy]; exact xoC0.any H' s, oe.any⟩, (fun h => (nomatch h)), fun H8 v s8 hv => ⟨by show 2 ≤ sizeLine; decide, fun c hc => ?_⟩⟩
        have s9 := same_new (o := .tup [.str "wrong", .int 0]) hc
        have kC : Kp b H5 _ := (Kp.of kB).trans (kC0.trans (Kp.of (s8.trans s9)))
        have BC := B7.same (s8.trans s9)
        refine ⟨_, _, Dp.same s9 _ _ (wrong_data (by unfold diffB; rw [List.all_cons, xf]; rfl) hv), .tup (SqT.of upd_same) (.cons (.str "wrong") (.cons (.int 0) .nil)), ws, ws, _, rfl, ?_⟩
        rw [w0]
        refine iteF ?_
        have xoC := xo.kp kC
        generalize upd H8 c (.tup [.str "wrong", .int 0]) = HC at kC xoC BC ⊢
        clear hv s9 hc s8 hp1 v c H8 oe xoC0 kC0 k7 B7 he e H7 s6 np1 p1
        refine ⟨_, rfl, by show 2 ≤ sizeLine; decide, fun p1 hp1 => ?_⟩
        have s6 := same_new (o := .lst [.str "b", x]) hp1
        refine ⟨_, rfl, p1, [.str "b", x], x, false, rfl, upd_same, ⟨.inr (.inr (.inl rfl)), fun H' s y hy => by
            rcases List.mem_cons.mp hy with e | hy
            · rw [e]; exact .inl ⟨_, rfl, by decide +kernel, by decide +kernel⟩
            · rw [List.mem_singleton.mp hy]; exact xoC.any H' (s6.trans s), fun H' s => xoC.any H' (s6.trans s)⟩, (fun h => (nomatch h)), fun H7 v s7 hv => ⟨by show 2 ≤ sizeLine; decide, fun c hc => ?_⟩⟩
        have s8 := same_new (o := .tup [.str "wrong", .int 0]) hc
        have kZ : Kp b H5 _ := kC.trans (Kp.of (s6.trans (s7.trans s8)))
        have BZ := BC.same (s6.trans (s7.trans s8))
        refine ⟨_, _, Dp.same s8 _ _ (wrong_data (by unfold diffB; rw [List.all_cons, List.all_cons, xf, Bool.false_and, Bool.and_false]; rfl) hv), .tup (SqT.of upd_same) (.cons (.str "wrong") (.cons (.int 0) .nil)), ws, ws, _, rfl, ?_⟩
        rw [w0]
        refine iteF ?_
        refine ⟨⟨_, rfl⟩, BZ, O5.kp kZ, kZ _ _ tt5 mt, fun y hy => ⟨(V5 y hy).1, (V5 y hy).2.kp kZ⟩⟩
      · rintro σ H5 ⟨⟨v9, rfl⟩, B5, O5, tt5, V5⟩
        have e13 : askD [.str "m", .str "l", .str "k", .str "j", .str "i", .str "h", .str "g", .str "f", .str "e", .str "d", .str "c", .str "b", .str "a"] (.str "z") = none := by decide +kernel
        refine ⟨.str "z", rfl, by decide, fun H' s x hx => ?_, fun H' s => .inl ⟨_, rfl, by decide +kernel, by decide +kernel⟩, fun n H' d s hd h => ?_, fun H' t c zs z s h1 h2 h3 h4 h5 => ?_⟩
        · simp only [List.mem_cons, List.not_mem_nil, or_false] at hx
          rcases hx with rfl | rfl | rfl | rfl | rfl | rfl | rfl | rfl | rfl | rfl | rfl | rfl | rfl <;> exact .inl ⟨_, rfl, by decide +kernel, by decide +kernel⟩
        · rw [e13] at h
          cases h
        · have hzs := congrArg strsOf h2
          rw [strsOf_map] at hzs
          cases h3
          have es : srt zs = (["a", "b", "c", "d", "e", "f", "g", "h", "i", "j", "k", "l", "m"] : List Str) := by
            rw [← hzs]
            exact (srt_eq (ws := (["a", "b", "c", "d", "e", "f", "g", "h", "i", "j", "k", "l", "m"] : List Str)) (by decide +kernel) (by decide +kernel)).symm
          rw [es] at h4
          refine ⟨_, rfl, by show 13 ≤ sizeLine; decide, fun c1 hc1 => ⟨by show 2 ≤ sizeLine; decide, fun c2 hc2 => ?_⟩⟩
          have y1 := same_new (o := .tup [.str "a", .str "b", .str "c", .str "d", .str "e", .str "f", .str "g", .str "h", .str "i", .str "j", .str "k", .str "l", .str "m"]) hc1
          have y2 := same_new (o := .tup [.ref c1, .str "z"]) hc2
          have g1 : (upd H' c1 (.tup [.str "a", .str "b", .str "c", .str "d", .str "e", .str "f", .str "g", .str "h", .str "i", .str "j", .str "k", .str "l", .str "m"])) c1 = some (.tup ((["a", "b", "c", "d", "e", "f", "g", "h", "i", "j", "k", "l", "m"] : List Str).map V.str)) := upd_same
          refine ⟨.tuple [.tuple ((["a", "b", "c", "d", "e", "f", "g", "h", "i", "j", "k", "l", "m"] : List Str).map PyData.str), .str "z"], .tuple [.tuple ((["a", "b", "c", "d", "e", "f", "g", "h", "i", "j", "k", "l", "m"] : List Str).map PyData.str), .str "z"],
            .tup (SqT.of (y2 _ _ (y1 _ _ h5))) (.cons (.tup (SqT.of (y2 _ _ (y1 _ _ h4))) (dp_strs _)) (.cons (.str "z") .nil)), .tup (SqT.of upd_same) (.cons (.tup (SqT.of (y2 _ _ g1)) (dp_strs _)) (.cons (.str "z") .nil)), by decide +kernel, by decide +kernel, ?_⟩
          have ee : PyData.eqv (.tuple [.tuple ((["a", "b", "c", "d", "e", "f", "g", "h", "i", "j", "k", "l", "m"] : List Str).map PyData.str), .str "z"]) (.tuple [.tuple ((["a", "b", "c", "d", "e", "f", "g", "h", "i", "j", "k", "l", "m"] : List Str).map PyData.str), .str "z"]) = true := by decide +kernel
          rw [ee]
          exact k _
end
theorem all_mk {l : PySem.W.OpenLaw} {w : World} {K : PySem.W.Frag} {h : Heap} {mg : Str → Option Value} {fa f1 f2 f3 f4 f5 f6 f7 f8 f9 f10 f11 f12 f13 f14 f15 f16 C fI fQ DQ : Addr} {tL tQ : Tok} (X : K.In h) (G : h.Ns mainGlobals mg) (hfa : mg "law" = some (.ref fa))
    {od1 an1 od2 an2 od3 an3 od4 an4 od5 an5 od6 an6 od7 an7 od8 an8 od9 an9 od10 an10 od11 an11 od12 an12 od13 an13 od14 an14 od15 an15 od16 an16 odI anI odQ anQ : Option Addr} {slI slQ sl1 sl2 sl3 sl4 sl5 sl6 sl7 sl8 sl9 sl10 sl11 sl12 sl13 sl14 sl15 sl16 : Array (Option Value)} {oc1 kV1 dc1 pm1 cd1 ct1 oc2 kV2 dc2 pm2 cd2 ct2 oc3 kV3 dc3 pm3 cd3 ct3 oc4 kV4 dc4 pm4 cd4 ct4 oc5 kV5 dc5 pm5 cd5 ct5 oc6 kV6 dc6 pm6 cd6 ct6 oc7 kV7 dc7 pm7 cd7 ct7 oc8 kV8 dc8 pm8 cd8 ct8 oc9 kV9 dc9 pm9 cd9 ct9 oc10 kV10 dc10 pm10 cd10 ct10 oc11 kV11 dc11 pm11 cd11 ct11 oc12 kV12 dc12 pm12 cd12 ct12 oc13 kV13 dc13 pm13 cd13 ct13 oc14 kV14 dc14 pm14 cd14 ct14 oc15 kV15 dc15 pm15 cd15 ct15 oc16 kV16 dc16 pm16 cd16 ct16 ocI kVI dcI pmI cdI ctI ocQ dcQ pmQ cdQ ctQ : Value}
    (a1 : PySem.W.nsIn K mainGlobals "is_column" = some (some (.ref f1))) (l1 : K.lookup f1 = some ⟨oc1, od1, .func (PySem.W.fnOf "is_column" "is_column" (defArgs sIsCol) (defBody sIsCol) (defScope sIsCol) .none kV1 dc1 pm1 an1 cd1 ct1), sl1⟩) (c1 : PySem.W.codeIn K cd1 "is_column" = true) (k1 : PySem.W.keepIn K (.ref f1) = true)
    (a2 : PySem.W.nsIn K mainGlobals "are_different_columns" = some (some (.ref f2))) (l2 : K.lookup f2 = some ⟨oc2, od2, .func (PySem.W.fnOf "are_different_columns" "are_different_columns" (defArgs sDiff) (defBody sDiff) (defScope sDiff) .none kV2 dc2 pm2 an2 cd2 ct2), sl2⟩) (c2 : PySem.W.codeIn K cd2 "are_different_columns" = true) (k2 : PySem.W.keepIn K (.ref f2) = true)
    (a3 : PySem.W.nsIn K mainGlobals "is_empty" = some (some (.ref f3))) (l3 : K.lookup f3 = some ⟨oc3, od3, .func (PySem.W.fnOf "is_empty" "is_empty" (defArgs sIsEmpty) (defBody sIsEmpty) (defScope sIsEmpty) .none kV3 dc3 pm3 an3 cd3 ct3), sl3⟩) (c3 : PySem.W.codeIn K cd3 "is_empty" = true) (k3 : PySem.W.keepIn K (.ref f3) = true)
    (a4 : PySem.W.nsIn K mainGlobals "is_last" = some (some (.ref f4))) (l4 : K.lookup f4 = some ⟨oc4, od4, .func (PySem.W.fnOf "is_last" "is_last" (defArgs sIsLast) (defBody sIsLast) (defScope sIsLast) .none kV4 dc4 pm4 an4 cd4 ct4), sl4⟩) (c4 : PySem.W.codeIn K cd4 "is_last" = true) (k4 : PySem.W.keepIn K (.ref f4) = true)
    (a5 : PySem.W.nsIn K mainGlobals "_law_bag" = some (some (.ref f5))) (l5 : K.lookup f5 = some ⟨oc5, od5, .func (PySem.W.fnOf "_law_bag" "_law_bag" (defArgs sBag) (defBody sBag) (defScope sBag) .none kV5 dc5 pm5 an5 cd5 ct5), sl5⟩) (c5 : PySem.W.codeIn K cd5 "_law_bag" = true) (k5 : PySem.W.keepIn K (.ref f5) = true)
    (a6 : PySem.W.nsIn K mainGlobals "_law_take" = some (some (.ref f6))) (l6 : K.lookup f6 = some ⟨oc6, od6, .func (PySem.W.fnOf "_law_take" "_law_take" (defArgs sTake) (defBody sTake) (defScope sTake) .none kV6 dc6 pm6 an6 cd6 ct6), sl6⟩) (c6 : PySem.W.codeIn K cd6 "_law_take" = true) (k6 : PySem.W.keepIn K (.ref f6) = true)
    (a7 : PySem.W.nsIn K mainGlobals "_law_one" = some (some (.ref f7))) (l7 : K.lookup f7 = some ⟨oc7, od7, .func (PySem.W.fnOf "_law_one" "_law_one" (defArgs sOne) (defBody sOne) (defScope sOne) .none kV7 dc7 pm7 an7 cd7 ct7), sl7⟩) (c7 : PySem.W.codeIn K cd7 "_law_one" = true) (k7 : PySem.W.keepIn K (.ref f7) = true)
    (a8 : PySem.W.nsIn K mainGlobals "_law_mixed" = some (some (.ref f8))) (l8 : K.lookup f8 = some ⟨oc8, od8, .func (PySem.W.fnOf "_law_mixed" "_law_mixed" (defArgs sMixed) (defBody sMixed) (defScope sMixed) .none kV8 dc8 pm8 an8 cd8 ct8), sl8⟩) (c8 : PySem.W.codeIn K cd8 "_law_mixed" = true) (k8 : PySem.W.keepIn K (.ref f8) = true)
    (a9 : PySem.W.nsIn K mainGlobals "_law_names" = some (some (.ref f9))) (l9 : K.lookup f9 = some ⟨oc9, od9, .func (PySem.W.fnOf "_law_names" "_law_names" (defArgs sNames) (defBody sNames) (defScope sNames) .none kV9 dc9 pm9 an9 cd9 ct9), sl9⟩) (c9 : PySem.W.codeIn K cd9 "_law_names" = true) (k9 : PySem.W.keepIn K (.ref f9) = true)
    (a10 : PySem.W.nsIn K mainGlobals "_law_alike" = some (some (.ref f10))) (l10 : K.lookup f10 = some ⟨oc10, od10, .func (PySem.W.fnOf "_law_alike" "_law_alike" (defArgs sAlike) (defBody sAlike) (defScope sAlike) .none kV10 dc10 pm10 an10 cd10 ct10), sl10⟩) (c10 : PySem.W.codeIn K cd10 "_law_alike" = true) (k10 : PySem.W.keepIn K (.ref f10) = true)
    (a11 : PySem.W.nsIn K mainGlobals "_law_is_name" = some (some (.ref f11))) (l11 : K.lookup f11 = some ⟨oc11, od11, .func (PySem.W.fnOf "_law_is_name" "_law_is_name" (defArgs sIsName) (defBody sIsName) (defScope sIsName) .none kV11 dc11 pm11 an11 cd11 ct11), sl11⟩) (c11 : PySem.W.codeIn K cd11 "_law_is_name" = true) (k11 : PySem.W.keepIn K (.ref f11) = true)
    (a12 : PySem.W.nsIn K mainGlobals "_law_made" = some (some (.ref f12))) (l12 : K.lookup f12 = some ⟨oc12, od12, .func (PySem.W.fnOf "_law_made" "_law_made" (defArgs sMade) (defBody sMade) (defScope sMade) .none kV12 dc12 pm12 an12 cd12 ct12), sl12⟩) (c12 : PySem.W.codeIn K cd12 "_law_made" = true) (k12 : PySem.W.keepIn K (.ref f12) = true)
    (a13 : PySem.W.nsIn K mainGlobals "_law_short" = some (some (.ref f13))) (l13 : K.lookup f13 = some ⟨oc13, od13, .func (PySem.W.fnOf "_law_short" "_law_short" (defArgs sShort) (defBody sShort) (defScope sShort) .none kV13 dc13 pm13 an13 cd13 ct13), sl13⟩) (c13 : PySem.W.codeIn K cd13 "_law_short" = true) (k13 : PySem.W.keepIn K (.ref f13) = true)
    (a14 : PySem.W.nsIn K mainGlobals "_law_heard" = some (some (.ref f14))) (l14 : K.lookup f14 = some ⟨oc14, od14, .func (PySem.W.fnOf "_law_heard" "_law_heard" (defArgs sHeard) (defBody sHeard) (defScope sHeard) .none kV14 dc14 pm14 an14 cd14 ct14), sl14⟩) (c14 : PySem.W.codeIn K cd14 "_law_heard" = true) (k14 : PySem.W.keepIn K (.ref f14) = true)
    (a15 : PySem.W.nsIn K mainGlobals "_law_due" = some (some (.ref f15))) (l15 : K.lookup f15 = some ⟨oc15, od15, .func (PySem.W.fnOf "_law_due" "_law_due" (defArgs sDue) (defBody sDue) (defScope sDue) .none kV15 dc15 pm15 an15 cd15 ct15), sl15⟩) (c15 : PySem.W.codeIn K cd15 "_law_due" = true) (k15 : PySem.W.keepIn K (.ref f15) = true)
    (a16 : PySem.W.nsIn K mainGlobals "law" = some (some (.ref f16))) (l16 : K.lookup f16 = some ⟨oc16, od16, .func (PySem.W.fnOf "law" "law" (defArgs sLaw) (defBody sLaw) (defScope sLaw) .none kV16 dc16 pm16 an16 cd16 ct16), sl16⟩) (c16 : PySem.W.codeIn K cd16 "law" = true) (k16 : PySem.W.keepIn K (.ref f16) = true)
    (aC : PySem.W.nsIn K mainGlobals "Wrong" = some (some (.ref C))) (eb : ercB K C = true) (no : PySem.W.findIn K (.ref C) "place" = some none) (te : PySem.W.exmOne K (.ref C) (.ref C) = some true)
    (aI : PySem.W.findIn K (.ref C) "__init__" = some (some (.ref fI))) (tI : PySem.W.typeIn K (.ref fI) = some (.type "function")) (lI : K.lookup fI = some ⟨ocI, odI, .func (PySem.W.fnOf "__init__" "Wrong.__init__" (defArgs sInit) (defBody sInit) (defScope sInit) .none kVI dcI pmI anI cdI ctI), slI⟩) (cI : PySem.W.codeIn K cdI "Wrong.__init__" = true) (kI : PySem.W.keepIn K (.ref fI) = true)
    (aL : PySem.W.nsIn K mainGlobals "LONGEST_COLUMN" = some (some (.int 8 tL)))
    (aQ : PySem.W.nsIn K mainGlobals "asking" = some (some (.ref fQ))) (lQ : K.lookup fQ = some ⟨ocQ, odQ, .func (PySem.W.fnOf "asking" "asking" (defArgs sAsking) (defBody sAsking) (defScope sAsking) .none (.ref DQ) dcQ pmQ anQ cdQ ctQ), slQ⟩) (cQ : PySem.W.codeIn K cdQ "asking" = true) (dQ : PySem.W.nsIn K DQ "last" = some (some (.str "" tQ))) (kQ : PySem.W.keepIn K (.ref fQ) = true)
    (zlen : PySem.W.nsIn K mainGlobals "len" = some none) (zint : PySem.W.nsIn K mainGlobals "int" = some none) (zabs : PySem.W.nsIn K mainGlobals "abs" = some none) (ztuple : PySem.W.nsIn K mainGlobals "tuple" = some none) (zsorted : PySem.W.nsIn K mainGlobals "sorted" = some none) (zrange : PySem.W.nsIn K mainGlobals "range" = some none) (zrepr : PySem.W.nsIn K mainGlobals "repr" = some none) (zlist : PySem.W.nsIn K mainGlobals "list" = some none) (zset : PySem.W.nsIn K mainGlobals "set" = some none) (zisinstance : PySem.W.nsIn K mainGlobals "isinstance" = some none) (zstr : PySem.W.nsIn K mainGlobals "str" = some none) (zall : PySem.W.nsIn K mainGlobals "all" = some none) :
    ∃ fd : FuncData, (∀ (s : Shared) (v : Value), BindsTo s fd ⟨[v], []⟩ [("_law_script", v)]) ∧ ∀ base : Heap, K.In base → base.Ns mainGlobals mg → FnG l.prog w K mg base 6 fa fd ["_law_script"] (spLaw K) := by
  have e := hfa.symm.trans (PySem.W.mg_of X G a16)
  cases e
  have T : Txt K mg := ⟨PySem.W.mg_none_of X G zlen, PySem.W.mg_none_of X G zint, PySem.W.mg_none_of X G zabs, PySem.W.mg_none_of X G ztuple, PySem.W.mg_none_of X G zsorted, PySem.W.mg_none_of X G zrange, PySem.W.mg_none_of X G zrepr, PySem.W.mg_none_of X G zlist, PySem.W.mg_none_of X G zset, PySem.W.mg_none_of X G zisinstance, PySem.W.mg_none_of X G zstr, PySem.W.mg_none_of X G zall, ⟨tL, PySem.W.mg_of X G aL⟩⟩
  have TE : TxE K mg C := ⟨ercB_ok eb, no, PySem.W.mg_of X G aC, te⟩
  have FI := fun_mk (st := sInit) lI cI kI
  have bI := FI.binds (ps := ["self", "place"]) fun _ _ _ _ _ _ us hl => match us, hl with | [_, _], _ => rfl
  have F1 := fun_mk (st := sIsCol) l1 c1 k1
  have b1 := F1.binds (ps := ["thing"]) fun _ _ _ _ _ _ us hl => match us, hl with | [_], _ => rfl
  have F2 := fun_mk (st := sDiff) l2 c2 k2
  have b2 := F2.binds (ps := ["things"]) fun _ _ _ _ _ _ us hl => match us, hl with | [_], _ => rfl
  have F3 := fun_mk (st := sIsEmpty) l3 c3 k3
  have b3 := F3.binds (ps := ["thing"]) fun _ _ _ _ _ _ us hl => match us, hl with | [_], _ => rfl
  have F4 := fun_mk (st := sIsLast) l4 c4 k4
  have b4 := F4.binds (ps := ["thing", "columns"]) fun _ _ _ _ _ _ us hl => match us, hl with | [_, _], _ => rfl
  have F5 := fun_mk (st := sBag) l5 c5 k5
  have b5 := F5.binds (ps := ["_law_script"]) fun _ _ _ _ _ _ us hl => match us, hl with | [_], _ => rfl
  have F6 := fun_mk (st := sTake) l6 c6 k6
  have b6 := F6.binds (ps := ["_law_bag_here", "_law_many"]) fun _ _ _ _ _ _ us hl => match us, hl with | [_, _], _ => rfl
  have F7 := fun_mk (st := sOne) l7 c7 k7
  have b7 := F7.binds (ps := ["_law_bag_here", "_law_some"]) fun _ _ _ _ _ _ us hl => match us, hl with | [_, _], _ => rfl
  have F8 := fun_mk (st := sMixed) l8 c8 k8
  have b8 := F8.binds (ps := ["_law_bag_here", "_law_things"]) fun _ _ _ _ _ _ us hl => match us, hl with | [_, _], _ => rfl
  have F9 := fun_mk (st := sNames) l9 c9 k9
  have b9 := F9.binds (ps := ["_law_bag_here", "_law_many"]) fun _ _ _ _ _ _ us hl => match us, hl with | [_, _], _ => rfl
  have F10 := fun_mk (st := sAlike) l10 c10 k10
  have b10 := F10.binds (ps := ["_law_found", "_law_due_here"]) fun _ _ _ _ _ _ us hl => match us, hl with | [_, _], _ => rfl
  have F11 := fun_mk (st := sIsName) l11 c11 k11
  have b11 := F11.binds (ps := ["_law_thing"]) fun _ _ _ _ _ _ us hl => match us, hl with | [_], _ => rfl
  have F12 := fun_mk (st := sMade) l12 c12 k12
  have b12 := F12.binds (ps := ["_law_some", "_law_end"]) fun _ _ _ _ _ _ us hl => match us, hl with | [_, _], _ => rfl
  have F13 := fun_mk (st := sShort) l13 c13 k13
  have b13 := F13.binds (ps := ["_law_some"]) fun _ _ _ _ _ _ us hl => match us, hl with | [_], _ => rfl
  have F14 := fun_mk (st := sHeard) l14 c14 k14
  have b14 := F14.binds (ps := ["_law_some", "_law_end", "_law_short_here"]) fun _ _ _ _ _ _ us hl => match us, hl with | [_, _, _], _ => rfl
  have F15 := fun_mk (st := sDue) l15 c15 k15
  have b15 := F15.binds (ps := ["_law_some", "_law_end"]) fun _ _ _ _ _ _ us hl => match us, hl with | [_, _], _ => rfl
  have F16 := fun_mk (st := sLaw) l16 c16 k16
  have b16 := F16.binds (ps := ["_law_script"]) fun _ _ _ _ _ _ us hl => match us, hl with | [_], _ => rfl
  refine ⟨PySem.W.fnOf "law" "law" (defArgs sLaw) (defBody sLaw) (defScope sLaw) .none kV16 dc16 pm16 an16 cd16 ct16, fun s v => .of_eq rfl, fun base _ _ => ?_⟩
  let c_1 : Cal l.prog w K mg base 1 "is_column" ["thing"] (spText K colS) := ⟨_, _, ok_iscol F1 T, PySem.W.mg_of X G a1, k1, b1⟩
  let c_2 : Cal l.prog w K mg base 2 "are_different_columns" ["things"] (spDiff K) := ⟨_, _, ok_diff F2 T c_1, PySem.W.mg_of X G a2, k2, b2⟩
  let c_3 : Cal l.prog w K mg base 1 "is_empty" ["thing"] (spText K fun z => decide (z = "")) := ⟨_, _, ok_isempty F3 T, PySem.W.mg_of X G a3, k3, b3⟩
  let c_4 : Cal l.prog w K mg base 2 "is_last" ["thing", "columns"] (spLast K) := ⟨_, _, ok_islast F4 T c_1 c_3, PySem.W.mg_of X G a4, k4, b4⟩
  let c_5 : Cal l.prog w K mg base 1 "_law_bag" ["_law_script"] (spBag K) := ⟨_, _, ok_bag F5 T, PySem.W.mg_of X G a5, k5, b5⟩
  let c_6 : Cal l.prog w K mg base 1 "_law_take" ["_law_bag_here", "_law_many"] (spTake) := ⟨_, _, ok_take F6 T, PySem.W.mg_of X G a6, k6, b6⟩
  let c_7 : Cal l.prog w K mg base 2 "_law_one" ["_law_bag_here", "_law_some"] (spOne) := ⟨_, _, ok_one F7 T c_6, PySem.W.mg_of X G a7, k7, b7⟩
  let c_8 : Cal l.prog w K mg base 2 "_law_mixed" ["_law_bag_here", "_law_things"] (spMixed) := ⟨_, _, ok_mixed F8 T c_6, PySem.W.mg_of X G a8, k8, b8⟩
  let c_9 : Cal l.prog w K mg base 3 "_law_names" ["_law_bag_here", "_law_many"] (spNames) := ⟨_, _, ok_names F9 T c_8, PySem.W.mg_of X G a9, k9, b9⟩
  let c_10 : CalG l.prog w K mg base 1 "_law_alike" ["_law_found", "_law_due_here"] (spAlikeD K) := ⟨_, _, ok_alike F10 T, PySem.W.mg_of X G a10, k10, b10⟩
  let c_11 : Cal l.prog w K mg base 1 "_law_is_name" ["_law_thing"] (spText K colS) := ⟨_, _, ok_isname F11 T, PySem.W.mg_of X G a11, k11, b11⟩
  have GI : FnOk l.prog w K mg base CX0 1 fI _ ["self", "place"] (spInitE K "place") := ok_init FI
  have R : AskR l.prog w K mg base C fQ := ask_run T TE lQ cQ dQ (PySem.W.mg_of X G aQ) kQ aI tI GI bI c_2 c_3 c_4
  let c_12 : CalX l.prog w K mg base 4 "_law_made" ["_law_some", "_law_end"] (spMade C K) := ⟨_, _, ok_made F12 T R, PySem.W.mg_of X G a12, k12, b12⟩
  let c_13 : CalX l.prog w K mg base 4 "_law_short" ["_law_some"] (spShort C K) := ⟨_, _, ok_short F13 T R, PySem.W.mg_of X G a13, k13, b13⟩
  let c_14 : Cal l.prog w K mg base 5 "_law_heard" ["_law_some", "_law_end", "_law_short_here"] (spHeard K) := ⟨_, _, ok_heard F14 T TE c_12 c_13, PySem.W.mg_of X G a14, k14, b14⟩
  let c_15 : Cal l.prog w K mg base 2 "_law_due" ["_law_some", "_law_end"] (spDue K) := ⟨_, _, ok_due F15 T c_11, PySem.W.mg_of X G a15, k15, b15⟩
  exact ok_law F16 T c_5 c_6 c_7 c_9 c_10 c_14 c_15 R
theorem walk {l : PySem.W.OpenLaw} {q : Program} {loose : List Str} {XP : (Str → Option Value) → Heap → Prop} {YP : World → Heap → Prop} {d : DefRec} {K : Params → PySem.W.Frag} (hn : l.most = some 63) (hdf : d.params.defaults = [])
    (hY : ∀ (w : World) (h : Heap), YP w h → (K w.params).In h)
    (F : ∀ (w : World) (mg : Str → Option Value) (fa : Addr) (h : Heap), (K w.params).In h → h.Ns mainGlobals mg → mg d.name = some (.ref fa) →
      ∃ fd : FuncData, (∀ (s : Shared) (u : Value), BindsTo s fd ⟨[u], []⟩ [("_law_script", u)]) ∧ ∀ base : Heap, (K w.params).In base → base.Ns mainGlobals mg → FnG l.prog w (K w.params) mg base 6 fa fd ["_law_script"] (spLaw (K w.params))) :
    PySem.W.WalkO q loose XP YP l.row.toRowW d [] (fun f vs => PySem.call f vs) :=
  walk_g (n := 63) (k := 6) (x := "_law_script") (sp := fun w => spLaw (K w.params)) hn (by decide) hdf ⟨rfl, by decide, by decide⟩ hY F (fun _ _ a ns hl _ hS => ⟨a, ns, rfl, hS, hl, fun _ => rfl⟩)
end Qk
open PySem PySem.W PyProof.Rows
set_option maxRecDepth 100000 in
set_option maxHeartbeats 0 in
theorem PySem.Challenge.cw_narrowkeys_k12_asking_holds : PySem.Challenge.rw_narrowkeys_k12_asking.Holds := by
  w_on; o_law; k_head; (case hw => w_witness2)
  k_fill
  refine Qk.walk (l := PySem.Challenge.rw_narrowkeys_k12_asking) rfl rfl (fun w h Y => PySem.W.kIn_of Y) ?F
  case F =>
    intro w mg fa h KX G hmg
    refine' Qk.all_mk KX G hmg ?a1 ?l1 ?c1 ?k1 ?a2 ?l2 ?c2 ?k2 ?a3 ?l3 ?c3 ?k3 ?a4 ?l4 ?c4 ?k4 ?a5 ?l5 ?c5 ?k5 ?a6 ?l6 ?c6 ?k6 ?a7 ?l7 ?c7 ?k7 ?a8 ?l8 ?c8 ?k8 ?a9 ?l9 ?c9 ?k9 ?a10 ?l10 ?c10 ?k10 ?a11 ?l11 ?c11 ?k11 ?a12 ?l12 ?c12 ?k12 ?a13 ?l13 ?c13 ?k13 ?a14 ?l14 ?c14 ?k14 ?a15 ?l15 ?c15 ?k15 ?a16 ?l16 ?c16 ?k16 ?aC ?eb ?no ?te ?aI ?tI ?lI ?cI ?kI ?aL ?aQ ?lQ ?cQ ?dQ ?kQ ?zlen ?zint ?zabs ?ztuple ?zsorted ?zrange ?zrepr ?zlist ?zset ?zisinstance ?zstr ?zall
    (case a1 => k_is)
    (case l1 => k_is)
    (case c1 => k_is)
    (case k1 => k_is)
    (case a2 => k_is)
    (case l2 => k_is)
    (case c2 => k_is)
    (case k2 => k_is)
    (case a3 => k_is)
    (case l3 => k_is)
    (case c3 => k_is)
    (case k3 => k_is)
    (case a4 => k_is)
    (case l4 => k_is)
    (case c4 => k_is)
    (case k4 => k_is)
    (case a5 => k_is)
    (case l5 => k_is)
    (case c5 => k_is)
    (case k5 => k_is)
    (case a6 => k_is)
    (case l6 => k_is)
    (case c6 => k_is)
    (case k6 => k_is)
    (case a7 => k_is)
    (case l7 => k_is)
    (case c7 => k_is)
    (case k7 => k_is)
    (case a8 => k_is)
    (case l8 => k_is)
    (case c8 => k_is)
    (case k8 => k_is)
    (case a9 => k_is)
    (case l9 => k_is)
    (case c9 => k_is)
    (case k9 => k_is)
    (case a10 => k_is)
    (case l10 => k_is)
    (case c10 => k_is)
    (case k10 => k_is)
    (case a11 => k_is)
    (case l11 => k_is)
    (case c11 => k_is)
    (case k11 => k_is)
    (case a12 => k_is)
    (case l12 => k_is)
    (case c12 => k_is)
    (case k12 => k_is)
    (case a13 => k_is)
    (case l13 => k_is)
    (case c13 => k_is)
    (case k13 => k_is)
    (case a14 => k_is)
    (case l14 => k_is)
    (case c14 => k_is)
    (case k14 => k_is)
    (case a15 => k_is)
    (case l15 => k_is)
    (case c15 => k_is)
    (case k15 => k_is)
    (case a16 => k_is)
    (case l16 => k_is)
    (case c16 => k_is)
    (case k16 => k_is)
    (case aC => first | k_is | rfl)
    (case eb => first | k_is | rfl)
    (case no => first | k_is | rfl)
    (case te => first | k_is | rfl)
    (case aI => first | k_is | rfl)
    (case tI => first | k_is | rfl)
    (case lI => first | k_is | rfl)
    (case cI => first | k_is | rfl)
    (case kI => first | k_is | rfl)
    (case aL => first | k_is | rfl)
    (case aQ => first | k_is | rfl)
    (case lQ => first | k_is | rfl)
    (case cQ => first | k_is | rfl)
    (case dQ => first | k_is | rfl)
    (case kQ => first | k_is | rfl)
    (case zlen => k_is)
    (case zint => k_is)
    (case zabs => k_is)
    (case ztuple => k_is)
    (case zsorted => k_is)
    (case zrange => k_is)
    (case zrepr => k_is)
    (case zlist => k_is)
    (case zset => k_is)
    (case zisinstance => k_is)
    (case zstr => k_is)
    (case zall => k_is)
#print axioms PySem.Challenge.cw_narrowkeys_k12_asking_holds
