import PyProof.Rows.All
import Wide.All
import OpenK.AllK
import Wide.FinOn
import HandS.ForMost
import HandS.IsInst
import HandS.SortInts
import HandS.Conv
import HandS.More
import HandS.OwnEq
import HandS.Codes
import HandS.DictComp
import HandS.ListEq
import HandS.Deep
import HandS.Flow
import HandS.Walk
import KE.GoesEnum
import KE.KeyNested
import HandS.Zip
import KE.KDictZip
import HandS.SortRule
import HandS.Comp
import PyProof.ListNew
import KE.KItemsList
import HandS.ListItems
import HandS.Iter
import HandS.TupAny
import HandS.ExcOwn
import HandS.TryOnly
import HandS.Small
import HandS.WordsExc
import HandS.TupLen
import HandS.SetFor
import KE.DataFind
import HandS.TupSets
import HandS.Style
import HandS.ExcIs
import PySem.Challenge.RW_lookdown_k17_whole_needed_plans_and_cost
set_option Elab.async false
set_option linter.all false
set_option maxRecDepth 100000
set_option maxHeartbeats 2000000
namespace Lk
abbrev Row := Nat × List Nat
def rowAt (R : List Row) (n : Nat) : Row := R.getD n (0, [])
abbrev parts (R : List Row) (n : Nat) : List Nat := (rowAt R n).2
/-- what a web may hold: ops below 8, at most two parts, each one earlier -/
def Good (R : List Row) : Prop := ∀ n, n < R.length → (rowAt R n).1 ≤ 7 ∧ (parts R n).length ≤ 2 ∧ ∀ p ∈ parts R n, p < n
theorem parts_out {R : List Row} {n : Nat} (h : R.length ≤ n) : parts R n = [] := by
  unfold parts rowAt
  rw [List.getD_eq_getElem?_getD, List.getElem?_eq_none h]
  rfl
theorem good_lt {R : List Row} (g : Good R) {n p : Nat} (h : p ∈ parts R n) : p < n := by
  by_cases hn : n < R.length
  · exact (g n hn).2.2 p h
  · rw [parts_out (by omega)] at h
    cases h
def ins (F : List Nat) (x : Nat) : List Nat := if x ∈ F then F else F ++ [x]
theorem mem_ins {F : List Nat} {x y : Nat} : y ∈ ins F x ↔ y ∈ F ∨ y = x := by
  unfold ins
  split
  · rename_i h
    constructor
    · exact Or.inl
    · rintro (a | rfl)
      · exact a
      · exact h
  · rw [List.mem_append, List.mem_singleton]
theorem nodup_ins {F : List Nat} {x : Nat} (h : F.Nodup) : (ins F x).Nodup := by
  unfold ins
  split
  · exact h
  · rename_i hx
    rw [List.nodup_append]
    refine ⟨h, by simp, ?_⟩
    intro a ha b hb e
    rw [List.mem_singleton] at hb
    subst hb
    subst e
    exact hx ha
theorem mem_insAll : ∀ {xs F : List Nat} {y : Nat}, y ∈ xs.foldl ins F ↔ y ∈ F ∨ y ∈ xs
  | [], F, y => by simp
  | x :: xs, F, y => by
    rw [List.foldl_cons, mem_insAll, mem_ins, List.mem_cons]
    constructor
    · rintro ((a | b) | c)
      · exact Or.inl a
      · exact Or.inr (Or.inl b)
      · exact Or.inr (Or.inr c)
    · rintro (a | b | c)
      · exact Or.inl (Or.inl a)
      · exact Or.inl (Or.inr b)
      · exact Or.inr c
theorem nodup_insAll : ∀ {xs F : List Nat}, F.Nodup → (xs.foldl ins F).Nodup
  | [], _, h => h
  | _ :: xs, _, h => nodup_insAll (xs := xs) (nodup_ins h)
def stepB (R : List Row) (F : List Nat) (n : Nat) : List Nat := if n ∈ F then (parts R n).foldl ins F else F
/-- the dict's keys behind i turns -/
def goB (R : List Row) (v : Nat) : Nat → List Nat
  | 0 => [v]
  | i + 1 => stepB R (goB R v i) (v - i)
inductive Reach (R : List Row) (v : Nat) : Nat → Prop where
  | refl : Reach R v v
  | step {n p : Nat} : Reach R v n → p ∈ parts R n → Reach R v p
theorem Reach.le {R : List Row} (g : Good R) {v x : Nat} (h : Reach R v x) : x ≤ v := by
  induction h with
  | refl => exact Nat.le_refl _
  | step _ hp ih => have := good_lt g hp; omega
theorem Reach.trans {R : List Row} {u v x : Nat} (h1 : Reach R u v) (h2 : Reach R v x) : Reach R u x := by
  induction h2 with
  | refl => exact h1
  | step _ hp ih => exact .step ih hp
theorem mem_goB {R : List Row} (g : Good R) (v : Nat) : ∀ (i : Nat), i ≤ v + 1 → ∀ x, x ∈ goB R v i ↔ x = v ∨ ∃ n, Reach R v n ∧ v < n + i ∧ x ∈ parts R n
  | 0, _, x => by
    constructor
    · intro h
      exact Or.inl (List.mem_singleton.mp h)
    · rintro (rfl | ⟨n, hr, hn, _⟩)
      · exact List.mem_singleton.mpr rfl
      · have := hr.le g
        omega
  | i + 1, hi, x => by
    have ih := mem_goB g v i (by omega)
    have key : v - i ∈ goB R v i ↔ Reach R v (v - i) := by
      rw [ih]
      constructor
      · rintro (e | ⟨n, hr, _, hp⟩)
        · rw [e]; exact .refl
        · exact .step hr hp
      · intro h
        generalize hm : v - i = m at h
        cases h with
        | refl => exact Or.inl rfl
        | @step n _ hr hp => exact Or.inr ⟨n, hr, by have := good_lt g hp; omega, hp⟩
    show x ∈ stepB R (goB R v i) (v - i) ↔ _
    unfold stepB
    split
    · rename_i hm
      rw [mem_insAll, ih]
      constructor
      · rintro ((a | ⟨n, hr, hn, hp⟩) | c)
        · exact Or.inl a
        · exact Or.inr ⟨n, hr, by omega, hp⟩
        · exact Or.inr ⟨v - i, key.mp hm, by omega, c⟩
      · rintro (a | ⟨n, hr, hn, hp⟩)
        · exact Or.inl (Or.inl a)
        · by_cases hz : v < n + i
          · exact Or.inl (Or.inr ⟨n, hr, hz, hp⟩)
          · have : n = v - i := by omega
            exact Or.inr (this ▸ hp)
    · rename_i hm
      rw [ih]
      constructor
      · rintro (a | ⟨n, hr, hn, hp⟩)
        · exact Or.inl a
        · exact Or.inr ⟨n, hr, by omega, hp⟩
      · rintro (a | ⟨n, hr, hn, hp⟩)
        · exact Or.inl a
        · by_cases hz : v < n + i
          · exact Or.inr ⟨n, hr, hz, hp⟩
          · have e : n = v - i := by omega
            exact absurd (key.mpr (e ▸ hr)) hm
theorem nodup_goB {R : List Row} {v : Nat} : ∀ i, (goB R v i).Nodup
  | 0 => by show [v].Nodup; simp
  | i + 1 => by
    show (stepB R (goB R v i) (v - i)).Nodup
    unfold stepB
    split
    · exact nodup_insAll (nodup_goB i)
    · exact nodup_goB i
theorem reach_goB {R : List Row} (g : Good R) {v x : Nat} : x ∈ goB R v (v + 1) ↔ Reach R v x := by
  rw [mem_goB g v (v + 1) (Nat.le_refl _)]
  constructor
  · rintro (rfl | ⟨n, hr, _, hp⟩)
    · exact .refl
    · exact .step hr hp
  · intro h
    cases h with
    | refl => exact Or.inl rfl
    | @step n _ hr hp => exact Or.inr ⟨n, hr, by omega, hp⟩
/-- what v is made of, ascending -/
def belowM (R : List Row) (v : Nat) : List Nat := (List.range (v + 1)).filter fun x => decide (x ∈ goB R v (v + 1))
theorem mem_belowM {R : List Row} (g : Good R) {v x : Nat} : x ∈ belowM R v ↔ Reach R v x := by
  unfold belowM
  rw [List.mem_filter, List.mem_range, decide_eq_true_eq, reach_goB g]
  exact ⟨fun h => h.2, fun h => ⟨by have := h.le g; omega, h⟩⟩
theorem sorted_belowM {R : List Row} {v : Nat} : (belowM R v).Pairwise (· < ·) := List.Pairwise.filter _ List.pairwise_lt_range
theorem nodup_of_lt {l : List Nat} (h : l.Pairwise (· < ·)) : l.Nodup := h.imp fun h => Nat.ne_of_lt h
theorem nodup_belowM {R : List Row} {v : Nat} : (belowM R v).Nodup := nodup_of_lt sorted_belowM
/-- two ascending lists of the same members are one -/
theorem eq_of_sorted : ∀ {l m : List Nat}, l.Pairwise (· < ·) → m.Pairwise (· < ·) → (∀ x, x ∈ l ↔ x ∈ m) → l = m
  | [], [], _, _, _ => rfl
  | [], b :: m, _, _, h => absurd ((h b).mpr List.mem_cons_self) (by simp)
  | a :: l, [], _, _, h => absurd ((h a).mp List.mem_cons_self) (by simp)
  | a :: l, b :: m, h1, h2, h => by
    rw [List.pairwise_cons] at h1 h2
    have e : a = b := by
      have ha := (h a).mp List.mem_cons_self
      have hb := (h b).mpr List.mem_cons_self
      rw [List.mem_cons] at ha hb
      rcases ha with ha | ha
      · exact ha
      · rcases hb with hb | hb
        · exact hb.symm
        · have := h1.1 b hb
          have := h2.1 a ha
          omega
    subst e
    have : l = m := eq_of_sorted h1.2 h2.2 fun x => by
      have hx := h x
      rw [List.mem_cons, List.mem_cons] at hx
      constructor
      · intro hl
        rcases hx.mp (Or.inr hl) with e | e
        · exact absurd (h1.1 x hl) (by omega)
        · exact e
      · intro hm
        rcases hx.mpr (Or.inr hm) with e | e
        · exact absurd (h2.1 x hm) (by omega)
        · exact e
    rw [this]
theorem sorted_int_eq : ∀ {l m : List Int}, l.Pairwise (· ≤ ·) → m.Pairwise (· ≤ ·) → l.Perm m → l = m
  | [], m, _, _, h => (List.nil_perm.mp h).symm
  | a :: l, [], _, _, h => absurd h.length_eq (by simp)
  | a :: l, b :: m, h1, h2, h => by
    rw [List.pairwise_cons] at h1 h2
    have e : a = b := by
      have ha : a ∈ b :: m := h.mem_iff.mp List.mem_cons_self
      have hb : b ∈ a :: l := h.mem_iff.mpr List.mem_cons_self
      rw [List.mem_cons] at ha hb
      rcases ha with ha | ha
      · exact ha
      · rcases hb with hb | hb
        · exact hb.symm
        · have := h1.1 b hb
          have := h2.1 a ha
          omega
    subst e
    rw [sorted_int_eq h1.2 h2.2 (List.perm_cons _ |>.mp h)]
/-- the dict's keys, sorted as ints -/
theorem sorted_keys {R : List Row} (g : Good R) {v : Nat} {ns : List Int} (hp : ns.Perm ((goB R v (v + 1)).map (fun (x : Nat) => (x : Int)))) (hs : ns.Pairwise (· ≤ ·)) : ns = (belowM R v).map (fun (x : Nat) => (x : Int)) := by
  refine sorted_int_eq hs ?_ (hp.trans (List.Perm.map _ ?_))
  · rw [List.pairwise_map]
    exact sorted_belowM.imp fun {a b} h => by omega
  · refine (List.perm_ext_iff_of_nodup (nodup_goB _) nodup_belowM).mpr fun x => ?_
    rw [reach_goB g, mem_belowM g]
theorem belowM_len {R : List Row} {v : Nat} : (belowM R v).length ≤ v + 1 := by
  have := List.length_filter_le (fun x => decide (x ∈ goB R v (v + 1))) (List.range (v + 1))
  rw [List.length_range] at this
  exact this
theorem belowM_lt {R : List Row} (g : Good R) {v x : Nat} (h : x ∈ belowM R v) : x ≤ v := ((mem_belowM g).mp h).le g
/-- the web cut out -/
def cutM (R : List Row) (v : Nat) : List Row := (belowM R v).map fun n => ((rowAt R n).1, (parts R n).map fun p => (belowM R v).idxOf p)
theorem cutM_len {R : List Row} {v : Nat} : (cutM R v).length = (belowM R v).length := List.length_map _
theorem gd {l : List Nat} {i : Nat} (h : i < l.length) : l.getD i 0 = l[i] := by
  rw [List.getD_eq_getElem?_getD, List.getElem?_eq_getElem h]
  rfl
theorem cutM_row {R : List Row} {v i : Nat} (h : i < (belowM R v).length) : rowAt (cutM R v) i = ((rowAt R ((belowM R v).getD i 0)).1, (parts R ((belowM R v).getD i 0)).map fun p => (belowM R v).idxOf p) := by
  unfold rowAt cutM
  rw [List.getD_eq_getElem?_getD, List.getElem?_map, List.getElem?_eq_getElem h]
  rw [gd h]
  rfl
theorem getD_mem {l : List Nat} {i : Nat} (h : i < l.length) : l.getD i 0 ∈ l := by
  rw [gd h]
  exact List.getElem_mem h
theorem idxOf_getD {l : List Nat} {x : Nat} (h : x ∈ l) : l.getD (l.idxOf x) 0 = x := by
  rw [gd (List.idxOf_lt_length_of_mem h)]
  exact List.getElem_idxOf (List.idxOf_lt_length_of_mem h)
theorem idxOf_of_getD {l : List Nat} (hn : l.Nodup) {i : Nat} (h : i < l.length) : l.idxOf (l.getD i 0) = i := by
  rw [gd h]
  exact List.Nodup.idxOf_getElem hn i h
theorem getD_lt {l : List Nat} (hs : l.Pairwise (· < ·)) {i j : Nat} (hij : i < j) (hj : j < l.length) : l.getD i 0 < l.getD j 0 := by
  rw [gd hj, gd (show i < l.length by omega)]
  exact List.pairwise_iff_getElem.mp hs i j (by omega) hj hij
theorem part_in {R : List Row} (g : Good R) {v n p : Nat} (hn : n ∈ belowM R v) (hp : p ∈ parts R n) : p ∈ belowM R v := (mem_belowM g).mpr (.step ((mem_belowM g).mp hn) hp)
theorem idx_lt {l : List Nat} (hs : l.Pairwise (· < ·)) {x y : Nat} (hx : x ∈ l) (hy : y ∈ l) (h : x < y) : l.idxOf x < l.idxOf y := by
  rcases Nat.lt_or_ge (l.idxOf x) (l.idxOf y) with h1 | h1
  · exact h1
  · rcases Nat.lt_or_eq_of_le h1 with h2 | h2
    · have := getD_lt hs h2 (List.idxOf_lt_length_of_mem hx)
      rw [idxOf_getD hx, idxOf_getD hy] at this
      omega
    · have e := idxOf_getD hx
      rw [← h2, idxOf_getD hy] at e
      omega
theorem good_cutM {R : List Row} (g : Good R) {v : Nat} (hv : v < R.length) : Good (cutM R v) := by
  intro i hi
  rw [cutM_len] at hi
  unfold parts
  rw [cutM_row hi]
  have hm := getD_mem hi
  have hlt : (belowM R v).getD i 0 < R.length := by have := belowM_lt g hm; omega
  obtain ⟨h1, h2, h3⟩ := g _ hlt
  refine ⟨h1, by rw [List.length_map]; exact h2, fun p hp => ?_⟩
  obtain ⟨q, hq, rfl⟩ := List.mem_map.mp hp
  have := idx_lt sorted_belowM (part_in g hm hq) hm (h3 q hq)
  rwa [idxOf_of_getD nodup_belowM hi] at this
/-- a step in the web cut out is a step in the web -/
theorem cut_part {R : List Row} (g : Good R) {v i j : Nat} (hi : i < (belowM R v).length) : j ∈ parts (cutM R v) i ↔ j < (belowM R v).length ∧ (belowM R v).getD j 0 ∈ parts R ((belowM R v).getD i 0) := by
  unfold parts
  rw [cutM_row hi]
  constructor
  · intro h
    obtain ⟨q, hq, rfl⟩ := List.mem_map.mp h
    have hm := part_in g (getD_mem hi) hq
    exact ⟨List.idxOf_lt_length_of_mem hm, by rw [idxOf_getD hm]; exact hq⟩
  · rintro ⟨hj, h⟩
    exact List.mem_map.mpr ⟨_, h, idxOf_of_getD nodup_belowM hj⟩
theorem reach_cut {R : List Row} (g : Good R) {v i j : Nat} (hi : i < (belowM R v).length) : Reach (cutM R v) i j ↔ j < (belowM R v).length ∧ Reach R ((belowM R v).getD i 0) ((belowM R v).getD j 0) := by
  constructor
  · intro h
    induction h with
    | refl => exact ⟨hi, .refl⟩
    | step _ hp ih =>
      obtain ⟨h1, h2⟩ := (cut_part g ih.1).mp hp
      exact ⟨h1, .step ih.2 h2⟩
  · rintro ⟨hj, h⟩
    generalize hx : (belowM R v).getD j 0 = x at h
    induction h generalizing j with
    | refl =>
      have e : j = i := by
        have this : (belowM R v).idxOf ((belowM R v).getD j 0) = (belowM R v).idxOf ((belowM R v).getD i 0) := congrArg (fun y => (belowM R v).idxOf y) hx
        rwa [idxOf_of_getD nodup_belowM hj, idxOf_of_getD nodup_belowM hi] at this
      rw [e]
      exact .refl
    | @step n p hr hp ih =>
      have hn : n ∈ belowM R v := (mem_belowM g).mpr (((mem_belowM g).mp (getD_mem hi)).trans hr)
      have h1 := ih (j := (belowM R v).idxOf n) (List.idxOf_lt_length_of_mem hn) (idxOf_getD hn)
      refine .step h1 ((cut_part g (List.idxOf_lt_length_of_mem hn)).mpr ⟨hj, ?_⟩)
      rw [idxOf_getD hn, hx]
      exact hp
theorem below_cut {R : List Row} (g : Good R) {v i : Nat} (hv : v < R.length) (hi : i < (belowM R v).length) :
    (belowM (cutM R v) i).map (fun j => (belowM R v).getD j 0) = belowM R ((belowM R v).getD i 0) := by
  have gc := good_cutM g hv
  refine eq_of_sorted ?_ sorted_belowM fun x => ?_
  · rw [List.pairwise_map]
    refine List.Pairwise.imp_of_mem ?_ sorted_belowM
    intro a b ha hb hab
    exact getD_lt sorted_belowM hab ((reach_cut g hi).mp ((mem_belowM gc).mp hb)).1
  · rw [mem_belowM g, List.mem_map]
    constructor
    · rintro ⟨j, hj, rfl⟩
      exact ((reach_cut g hi).mp ((mem_belowM gc).mp hj)).2
    · intro h
      have hx : x ∈ belowM R v := (mem_belowM g).mpr (((mem_belowM g).mp (getD_mem hi)).trans h)
      refine ⟨(belowM R v).idxOf x, (mem_belowM gc).mpr ((reach_cut g hi).mpr ⟨List.idxOf_lt_length_of_mem hx, ?_⟩), idxOf_getD hx⟩
      rw [idxOf_getD hx]
      exact h
theorem idxOf_map {l : List Nat} {f : Nat → Nat} {x : Nat} (hx : x ∈ l) (hf : ∀ a ∈ l, ∀ b ∈ l, f a = f b → a = b) : (l.map f).idxOf (f x) = l.idxOf x := by
  induction l with
  | nil => cases hx
  | cons a l ih =>
    rw [List.map_cons, List.idxOf_cons, List.idxOf_cons]
    by_cases e : a = x
    · subst e
      simp
    · have ne : ¬ f a = f x := fun q => e (hf a List.mem_cons_self x hx q)
      have ne' : (f a == f x) = false := by simpa using ne
      have e' : (a == x) = false := by simpa using e
      rw [ne', e']
      have hx' : x ∈ l := by
        rcases List.mem_cons.mp hx with q | q
        · exact absurd q.symm e
        · exact q
      show (l.map f).idxOf (f x) + 1 = l.idxOf x + 1
      rw [ih hx' fun a ha b hb => hf a (List.mem_cons_of_mem _ ha) b (List.mem_cons_of_mem _ hb)]
theorem cut_cut {R : List Row} (g : Good R) {v i : Nat} (hv : v < R.length) (hi : i < (belowM R v).length) : cutM (cutM R v) i = cutM R ((belowM R v).getD i 0) := by
  have gc := good_cutM g hv
  have hb := below_cut g hv hi
  show (belowM (cutM R v) i).map _ = (belowM R ((belowM R v).getD i 0)).map _
  have inj : ∀ a ∈ belowM (cutM R v) i, ∀ b ∈ belowM (cutM R v) i, (belowM R v).getD a 0 = (belowM R v).getD b 0 → a = b := fun a ha b hb e => by
    have h1 := ((reach_cut g hi).mp ((mem_belowM gc).mp ha)).1
    have h2 := ((reach_cut g hi).mp ((mem_belowM gc).mp hb)).1
    have this : (belowM R v).idxOf ((belowM R v).getD a 0) = (belowM R v).idxOf ((belowM R v).getD b 0) := congrArg (fun y => (belowM R v).idxOf y) e
    rwa [idxOf_of_getD nodup_belowM h1, idxOf_of_getD nodup_belowM h2] at this
  rw [← hb, List.map_map]
  refine List.map_congr_left fun n hn => ?_
  have hnl := ((reach_cut g hi).mp ((mem_belowM gc).mp hn)).1
  show ((rowAt (cutM R v) n).1, (parts (cutM R v) n).map _) = ((rowAt R ((belowM R v).getD n 0)).1, (parts R ((belowM R v).getD n 0)).map _)
  unfold parts
  rw [cutM_row hnl]
  refine Prod.ext rfl ?_
  show (List.map _ _).map _ = List.map _ _
  rw [List.map_map]
  refine List.map_congr_left fun p hp => ?_
  have hpB : p ∈ belowM R v := part_in g (getD_mem hnl) hp
  have hpi : (belowM R v).idxOf p ∈ belowM (cutM R v) i := by
    refine part_in gc hn ((cut_part g hnl).mpr ⟨List.idxOf_lt_length_of_mem hpB, ?_⟩)
    rw [idxOf_getD hpB]
    exact hp
  have := idxOf_map (f := fun j => (belowM R v).getD j 0) hpi inj
  rw [idxOf_getD hpB] at this
  exact this.symm
/-- the value is the last one of what it is made of -/
theorem belowM_last {R : List Row} (g : Good R) {v : Nat} : 0 < (belowM R v).length ∧ (belowM R v).getD ((belowM R v).length - 1) 0 = v := by
  have hv : v ∈ belowM R v := (mem_belowM g).mpr .refl
  have hl : 0 < (belowM R v).length := List.length_pos_of_mem hv
  refine ⟨hl, ?_⟩
  have h1 := List.idxOf_lt_length_of_mem hv
  rcases Nat.lt_or_ge ((belowM R v).idxOf v) ((belowM R v).length - 1) with h | h
  · have h2 := getD_lt (l := belowM R v) sorted_belowM h (by omega)
    rw [idxOf_getD hv] at h2
    have h3 := belowM_lt g (getD_mem (l := belowM R v) (i := (belowM R v).length - 1) (by omega))
    omega
  · have e : (belowM R v).length - 1 = (belowM R v).idxOf v := by omega
    rw [e, idxOf_getD hv]
theorem cut_again {R : List Row} (g : Good R) {v : Nat} (hv : v < R.length) : cutM (cutM R v) ((cutM R v).length - 1) = cutM R v := by
  obtain ⟨h1, h2⟩ := belowM_last g (v := v)
  rw [cutM_len, cut_cut g hv (by omega), h2]
end Lk
/-! enumerate of a tuple: my own rule beside the layer's for lists -/
namespace EnT
open PySem PySem.Spec PyProof.Rows L2
theorem new1 {v : Value} {ob : Obj} {G : Heap → Prop} (B : Begins v ob G) : Meets (Builtin.«enumerate.__new__» ⟨[.type "enumerate", v], []⟩)
    (fun _ R s => G s.heap ∧ R (.ok (.ret (.ref (s.heap.push ob).objs.size))) { s with heap := (s.heap.push ob).push { cls := .type "enumerate", data := .fields #[.none, .bool false, .ref s.heap.objs.size, rawInt 0, .none, .none] } }) :=
  .of_wp fun prog w A R s hh => by
    obtain ⟨hp, gg, dd, tt, oo⟩ := s; obtain ⟨ha, hb⟩ := hh
    have hsub := sub_enumerate
    have it0 : ∀ {A' : Around} {E Q : Value → Shared → Prop}, Q (.ref hp.objs.size) ⟨hp.push ob, gg, dd, tt, oo⟩ → wpAny (model prog w) A' (pyIter v) Q E ⟨hp, gg, dd, tt, oo⟩ :=
      fun {_ _ _} q => B.iter prog w _ _ ⟨hp, gg, dd, tt, oo⟩ _ ha q
    wp_walk using it0
    refine wpAny_stack_any fun _ => wpAny_pure ?_
    split
    · rename_i c _ _ _ _ _
      cases (c == Value.type "enumerate") <;> (wp_walk using it0; exact ⟨_, rfl, hb⟩)
    · wp_walk using it0
      exact ⟨_, rfl, hb⟩
section
variable {prog : Program} {w : World} {A : Around} {E : Value → Shared → Prop} {s : Shared}
theorem call1 {v : Value} {ob : Obj} {G : Heap → Prop} {Q : Value → Shared → Prop} (B : Begins v ob G) (ha : G s.heap)
    (q : ∀ h', IsEnum h' (s.heap.objs.size + 1) s.heap.objs.size 0 .none → h'.get? s.heap.objs.size = some ob → (∀ b o, s.heap.get? b = some o → h'.get? b = some o) → Q (.ref (s.heap.objs.size + 1)) { s with heap := h' }) :
    wpAny (model prog w) A (call (.type "enumerate") [v]) Q E s := by
  refine callType_new F.called_enumerate (by decide) (F.typeCall_enumerate_1 _) (F.newCall_enumerate_1 _) (fun obj => F.args_object_init_2 obj _) F.entry_enumerate_new (new1 B) ⟨ha, ?_⟩
  have sz : (s.heap.push ob).objs.size = s.heap.objs.size + 1 := Heap.size_push ..
  show _ ∧ _
  rw [sz]
  have en : IsEnum ((s.heap.push ob).push { cls := .type "enumerate", data := .fields #[.none, .bool false, .ref s.heap.objs.size, rawInt 0, .none, .none] }) (s.heap.objs.size + 1) s.heap.objs.size 0 .none := by
    have z := Heap.get?_push_size (s.heap.push ob) (o := { cls := .type "enumerate", data := .fields #[.none, .bool false, .ref s.heap.objs.size, rawInt 0, .none, .none] }) rfl
    rw [sz] at z; exact z
  exact ⟨⟨_, en, rfl⟩, q _ en (Heap.get?_push_of_some _ (Heap.get?_push_size _ B.free)) fun b o x => Heap.get?_push_of_some _ (Heap.get?_push_of_some _ x)⟩
end
/-- the tuple at a as it stands, each item in a new pair -/
def ItE (K : PySem.W.Frag) (a : Addr) : It :=
  ⟨fun i H => ∃ (xs : List V) (x : V), SqT K H a xs ∧ xs[i]? = some x,
   fun i H v H' => ∃ T x, v = .ref T ∧ H T = none ∧ H' = upd H T (.tup [.int (i : Nat), x]) ∧ ∀ xs, SqT K H a xs → xs[i]? = some x,
   fun i H => ∃ xs : List V, SqT K H a xs ∧ xs.length = i⟩
theorem turn {P : Program} {w : World} {K : PySem.W.Frag} {elts : List Expr} {kk : Nat} {tpos : Pos} (a e it : Addr) (hai : a ≠ it) :
    Turn P w K (.Tuple elts kk tpos) (ItE K a) [e, it] e (fun i h => (∃ old, IsEnum h e it ((i : Nat) : Int) old) ∧ h.IsTupleIter it a i ∧ e ≠ it) where
  mem := by simp
  obj := by
    intro i h st b hb
    obtain ⟨⟨old, he⟩, ⟨o, ho, hc, hd⟩, _⟩ := st
    have z : b = e ∨ b = it := by simpa using hb
    rcases z with z | z
    · subst z
      exact ⟨_, he, fun v q => nomatch q⟩
    · subst z
      exact ⟨o, ho, fun v q => by rw [hd] at q; cases q⟩
  keep := by
    intro i h h' st k
    obtain ⟨⟨old, he⟩, hi, hne⟩ := st
    exact ⟨⟨old, k e (by simp) _ he⟩, hi.at fun o q => k it (by simp) o q, hne⟩
  item := by
    intro X hP hw hK hc i pins s σ H E I hf st hg
    subst hP hw hK
    obtain ⟨⟨old, he⟩, hit, hne⟩ := st
    obtain ⟨xs, x, hq, hx⟩ := hg
    obtain ⟨its, rv, p, hz⟩ := I.tuple hq
    obtain ⟨u, hu, ru⟩ := rv.get hx
    have hel : e < s.heap.objs.size := Heap.lt_size he
    have hil : it < s.heap.objs.size := by obtain ⟨_, q, _⟩ := hit; exact Heap.lt_size q
    have hlt : i < its.toArray.size := by
      have := (List.getElem?_eq_some_iff.mp hu).1
      simpa using this
    have hd : X.A.in1.handled = none := I.ok.hd hc
    have D := Draws.tuple (prog := X.prog) (w := X.w) (A := X.A.in1) hd it a hai its.toArray
    have hea : e ≠ a := by
      intro z
      obtain ⟨o, ho, hcl, _⟩ := p
      have q := Option.some.inj (ho.symm.trans (z ▸ he))
      rw [q] at hcl
      exact absurd (Value.type.inj (show Value.type "enumerate" = Value.type "tuple" from hcl)) (by decide)
    refine wpAny_pyNext_enum_itemC D he ⟨hit, p⟩ hlt hne (by simp [hne, hea]) fun y h' tk hP ho hst hT hsz hk => ?_
    have hy : y = u := by
      have q : its.toArray[i]? = some y := hP
      rw [List.getElem?_toArray, hu] at q
      exact (Option.some.inj q).symm
    subst hy
    refine ⟨_, rfl, wpAny_letOwnedTupleGo_enum (s := { s with heap := h', toks := tk + 1 }) ho fun h2 he2 sb => ?_⟩
    have hT2 : h2.get? s.heap.objs.size = some { cls := .type "tuple", data := .seq #[.int i tk, y] } := (sb.2 _ (Nat.ne_of_gt hel)).trans hT
    have new : ObjOk X.prog X.w (upd H s.heap.objs.size (.tup [.int (i : Nat), x])) h2 s.heap.objs.size (.tup [.int (i : Nat), x]) :=
      ⟨(by decide : 2 ≤ sizeLine), [.int i tk, y], .cons ⟨_, rfl⟩ (.cons ru .nil), ⟨_, hT2, rfl, _, rfl⟩⟩
    have I1 : Inv X pins σ (upd H s.heap.objs.size (.tup [.int (i : Nat), x])) { s with heap := h2, toks := tk + 1 } :=
      I.turnedNew (ch := [e, it]) (fun b ob hb q => (sb.2 b (fun z => hb (by simp [z]))).trans (hk b ob (fun z => hb (by simp [z])) (fun z => hb (by simp [z])) q)) hf (Nat.le_refl _) new
    refine ⟨.ref s.heap.objs.size, _, I1, rfl, ⟨_, x, rfl, I.hok.fresh (Nat.le_refl _), rfl, fun ys hy => by rw [I.tuple_inj hy hq]; exact hx⟩, ⟨⟨y, ?_⟩, hst.1.at fun o q => (sb.2 it (Ne.symm hne)).trans q, hne⟩, ?_⟩
    · have e1 : ((i + 1 : Nat) : Int) = (i : Int) + 1 := by omega
      rw [e1]
      exact he2
    · intro b hb
      have hb' : b < s.heap.objs.size := by
        have z : b = e ∨ b = it := by simpa using hb
        rcases z with z | z <;> rw [z] <;> assumption
      rw [upd_ne (Nat.ne_of_lt hb')]
      exact (hf b hb).1
  done := by
    intro X hP hw hK hc i pins s σ H E I hf st hg
    subst hP hw hK
    obtain ⟨⟨old, he⟩, hit, hne⟩ := st
    obtain ⟨xs, hq, hx⟩ := hg
    obtain ⟨its, rv, p, hz⟩ := I.tuple hq
    have hd : X.A.in1.handled = none := I.ok.hd hc
    have D := Draws.tuple (prog := X.prog) (w := X.w) (A := X.A.in1) hd it a hai its.toArray
    have hsz : its.toArray.size = i := by
      rw [List.size_toArray, ← rv.length, hx]
    obtain ⟨f0, f1, f2, f3, f4, f5⟩ := hf it (by simp)
    exact wpAny_pyNext_enum_endD D he ⟨hsz ▸ hit, p⟩ fun h' eb => ⟨rfl, I.turned (t' := s.toks) (fun b o hb q => eb b o hb q) f0 f1 f3 f4 f5⟩
  self := fun A i s Q E st h => let ⟨⟨_, he⟩, _⟩ := st; wpAny_pyIter_enum he h
def iEnumT (K : PySem.W.Frag) (ta : TA) : TI := fun σ H R => ta σ H fun vs H1 => ∃ a xs, vs = [.ref a] ∧ SqT K H1 a xs ∧ R (ItE K a) H1
theorem pi_enumT {X : Cx} {e : Expr} {ta : TA} {p pos tpos : Pos} {elts : List Expr} {kk : Nat} (hg : Gl X "enumerate") (hm : X.mg "enumerate" = none) (ha : PA X [e] ta)
    (hs : starEach [e] X.env = [(false, eval e X.env)] := by rfl) : PI X (.Tuple elts kk tpos) (.Call (.Name "enumerate" p) [e] [] pos) (iEnumT X.K ta) := by
  refine ⟨fun pins s σ H R I h => ?_⟩
  refine Call_ (ld_blt I hg hm boot_enumerate (PyProof.Rows.callWith_type1 (thn (ha.run pos pins s σ H _ I h) fun us s1 ⟨vs, H1, I1, r1, q1⟩ => ?_) hs rfl))
  obtain ⟨a, xs, rfl, hq, q⟩ := q1
  cases r1 with
  | cons r rr =>
    cases rr
    cases r
    obtain ⟨its, rv, p', hz⟩ := I1.tuple hq
    have hal : a < s1.heap.objs.size := by obtain ⟨o, ho, _⟩ := p'; exact Heap.lt_size ho
    refine call1 (begins_tuple a its.toArray) p' fun h' he hit hk => wpAny_pyIter_enum he ?_
    have I2 : Inv X pins σ H1 { s1 with heap := h' } := I1.kept (t' := s1.toks) hk
    refine ⟨s1.heap.objs.size + 1, [s1.heap.objs.size + 1, s1.heap.objs.size], _, _, H1, rfl, I2, turn a (s1.heap.objs.size + 1) s1.heap.objs.size (Nat.ne_of_lt hal), ⟨⟨.none, he⟩, ⟨_, hit, rfl, rfl⟩, Nat.succ_ne_self _⟩, ?_, q⟩
    intro b hb
    have z : b = s1.heap.objs.size + 1 ∨ b = s1.heap.objs.size := by simpa using hb
    have hle : s1.heap.objs.size ≤ b := by
      rcases z with z | z <;> rw [z]
      · exact Nat.le_add_right _ _
      · exact Nat.le_refl _
    exact I1.fpOk hle (I1.hok.fresh hle)
theorem walkE {K : PySem.W.Frag} {a : Addr} {xs : List V} : Walk (ItE K a) xs.length (fun H => SqT K H a xs) (YPair (fun i => some (.int (i : Nat))) (fun i => xs[i]?)) := by
  refine ⟨fun i _ hi q => ⟨xs, xs[i], q, by simp [hi]⟩, fun _ q => ⟨xs, q, rfl⟩, ?_⟩
  intro i H v H' _ q y
  obtain ⟨T, x, e1, e2, e3, e4⟩ := y
  exact ⟨T, .int (i : Nat), x, e1, e2, e3, rfl, e4 xs q⟩
/-- a dict comprehension over anything that walks -/
theorem dc_it {J : It} {n : Nat} {G : Hp → Prop} {Y : Nat → Hp → V → Hp → Prop} (w : Walk J n G Y) {g : TG} {tt : TT} {tk tv : TE} {vs : List Nat} {σ : L2.St} {H1 : Hp} {D : Addr} {Qd : Hp → Prop} (Pv : Nat → Hp → Prop)
    (h0 : Pv 0 (upd H1 D (.dK []))) (hG : ∀ i H, i ≤ n → Pv i H → G H)
    (hs : ∀ i x H H', i < n → Pv i H → Y i H x H' → g x (wipe σ vs) H' fun σ2 H2 => wipe σ2 vs = wipe σ vs ∧ tt σ2 H2 fun b H3 =>
      if b = true then tk σ2 H3 fun y H4 => tv σ2 H4 fun z H5 => ∃ kvs k, y = kV k ∧ H5 D = some (.dK kvs) ∧ kvs.length < sizeLine ∧ Pv (i + 1) (upd H5 D (.dK (putK kvs k z))) else Pv (i + 1) H3)
    (hd : ∀ H, Pv n H → Qd H) :
    ∃ W : Nat → Nat → Hp → Prop, (∃ m, W 0 m (upd H1 D (.dK []))) ∧ ∀ i m H, W i m H →
      (J.stop i H ∧ Qd H) ∨ (J.go i H ∧ ∃ Nx : Hp → Prop, (∀ H', Nx H' → ∃ m', m' < m ∧ W (i + 1) m' H') ∧ ∀ x H', J.yld i H x H' → g x (wipe σ vs) H' fun σ2 H2 => wipe σ2 vs = wipe σ vs ∧ tt σ2 H2 fun b H3 =>
        if b = true then tk σ2 H3 fun y H4 => tv σ2 H4 fun z H5 => ∃ kvs k, y = kV k ∧ H5 D = some (.dK kvs) ∧ kvs.length < sizeLine ∧ Nx (upd H5 D (.dK (putK kvs k z))) else Nx H3) := by
  refine ⟨fun i m H => m = n - i ∧ i ≤ n ∧ Pv i H, ⟨n, by simp, Nat.zero_le _, h0⟩, ?_⟩
  intro i m H hW
  obtain ⟨em, hi, p⟩ := hW
  subst em
  have q := hG i H hi p
  by_cases hlt : i < n
  · exact Or.inr ⟨w.goes i H hlt q, Pv (i + 1), fun H' p' => ⟨n - (i + 1), by omega, rfl, hlt, p'⟩, fun x H' y => hs i x H H' hlt p (w.yields i H x H' hlt q y)⟩
  · have e : i = n := by omega
    subst e
    exact Or.inl ⟨w.stops H q, hd H p⟩
end EnT
/-! sorted of a dict whose keys are ints, any number of them: my own rule beside the layer's for fewer than 64 -/
namespace SoD
open PySem PySem.Spec PyProof.Rows L2
variable {X : Cx}
def rSortDA : List V → Hp → VK → Prop := fun xs H Q => ∃ (a : Addr) (kvs : List (Key × V)) (ks : List Int), xs = [.ref a] ∧ Rd H a (.dK kvs) ∧ kvs.map (·.1) = ks.map Sum.inl ∧
  ∀ (ys : List Int) (p : Addr), ys.Perm ks → ys.Pairwise (· ≤ ·) → H p = none → Q (.ref p) (upd H p (.lst (ys.map V.int)))
theorem call_sortDA (hcalm : X.calm = true) : CallR X (.builtin "sorted") rSortDA := by
  intro pins s σ H xs us Q I r h
  obtain ⟨a, kvs, ks, rfl, hd, hks, q⟩ := h
  obtain ⟨u, rfl, rx⟩ := vals1 r
  cases rx
  obtain ⟨z, lo, vs, rel, dd⟩ := dk_rd I.hok hd
  obtain ⟨ep, hat⟩ := dd.dictAt
  have hkeys : vs.map (·.1) = ks.map Sum.inl := rel.keys.symm.trans hks
  have hl : vs.length = ks.length := by simpa using congrArg List.length hkeys
  have hkv : kvs.length = vs.length := Paired.length rel
  have h16 : vs.length ≤ sizeLine := by rw [← hkv]; exact z
  refine Calls.call_function_entry PyProof.Rows.kind_sorted PyProof.Rows.plain_sorted PyProof.Rows.entry_sorted (PyProof.Rows.args_sorted1 _) ?_
  unfold Builtin.«sorted»
  refine wpAny_bind (m := checkCount "sorted" 1 1 _) (wpAny_pure ?_)
  refine wpAny_bind (PySem.W.kdu_collect (A := X.A.in1) (PySem.W.kdl_dict (knd := mixKind X.prog X.w) (kvs := vs) (ep := ep) lo) (I.ok.hd hcalm) hat h16 fun h' tk acc hk hacc => ?_)
  have hal : acc.toList.length = ks.length := by rw [Array.length_toList, hacc.1, hl]
  have hS : IntsAre acc.toList ks := ints_each hal fun j v e => by
    obtain ⟨k, x, e1, e2⟩ := hacc.2 j v (by rw [← Array.getElem?_toList]; exact e)
    have e3 : (vs.map (·.1))[j]? = some k := by
      rw [List.getElem?_map, e1]
      rfl
    rw [hkeys, List.getElem?_map] at e3
    cases e4 : ks[j]? with
    | none =>
      rw [e4] at e3
      cases e3
    | some y =>
      rw [e4] at e3
      have e5 : Sum.inl y = k := Option.some.inj e3
      subst e5
      rcases keyIs_shape (show keyIs (Sum.inl y) v = true from e2) with ⟨i, t, ek, ev⟩ | ⟨z, t, ek, ev⟩
      · cases ek
        exact ⟨y, t, rfl, ev⟩
      · cases ek
  have I1 : Inv X pins σ H { s with heap := h', toks := tk } := I.kept hk
  have hsz : acc.toList.length ≤ sizeLine := by rw [hal, ← hl]; exact h16
  refine wpAny_bind (wpAny_newList ?_ (by simpa using hsz))
  have hoL : (h'.push (seqObj "list" acc.toList.toArray 0)).get? h'.objs.size = some (seqObj "list" acc.toList.toArray 0) := Heap.get?_push_size _ rfl
  show wpAny _ _ _ _ _ { s with heap := h'.push (seqObj "list" acc.toList.toArray 0), toks := tk }
  refine wpAny_bind (wpAny_holding (wpAny_call_entry PyProof.Rows.slot_list_sort ⟨_, hoL, rfl⟩ PyProof.Rows.entry_list_sort
    (SrtO.list_sort_ord (s := { s with heap := h'.push (seqObj "list" acc.toList.toArray 0), toks := tk }) SrtO.swo_int hoL hsz (fun h2 => SrtO.ints_sortable hS h2) fun out g1 g2 => ⟨_, rfl, ?_⟩) (PyProof.Rows.args_list_sort _)))
  obtain ⟨k1, k2, k3⟩ := SrtO.ints_out hS g1 g2
  obtain ⟨e', he'⟩ := PyProof.Rows.sortedHeap_at (vs := acc.toList) (out := out.toArray) hoL
  have hlen : ((out.map SrtO.iv).map V.int).length ≤ sizeLine := by
    rw [List.length_map, k2.length_eq, ← hal]
    exact hsz
  refine wpAny_pure ⟨_, rfl, .ref h'.objs.size, upd H h'.objs.size (.lst ((out.map SrtO.iv).map V.int)), I1.laid (t' := tk) (fun b u e => ?_) (Nat.le_refl _)
    (show ObjOk X.prog X.w _ _ _ (.lst ((out.map SrtO.iv).map V.int)) from ⟨hlen, out, e', vals_of_ints k1, he'⟩), rfl, q _ _ k2 k3 (I1.hok.fresh (Nat.le_refl _))⟩
  have hb : b < h'.objs.size := Heap.lt_size e
  rw [PyProof.Rows.sortedHeap_old (Nat.ne_of_lt hb) (by rw [size_push']; exact Nat.lt_succ_of_lt hb)]
  exact Heap.get?_push_of_some _ e
end SoD
/-! dicts whose keys are tuples of any depth: my own rules beside the layer's for flat ones -/
namespace NeD
open PySem PySem.Spec PyProof.Rows L2
mutual
/-- the value is this key, by what the heap tells -/
inductive NK (K : PySem.W.Frag) (H : Hp) : V → NestedKey → Prop
  | non : NK K H .non .none
  | int (i : Int) : NK K H (.int i) (.num i)
  | str (x : Str) : NK K H (.str x) (.text x)
  | tup {b : Addr} {ys : List V} {ks : List NestedKey} : SqT K H b ys → NKs K H ys ks → NK K H (.ref b) (.tup ks)
inductive NKs (K : PySem.W.Frag) (H : Hp) : List V → List NestedKey → Prop
  | nil : NKs K H [] []
  | cons {v : V} {vs : List V} {k : NestedKey} {ks : List NestedKey} : NK K H v k → NKs K H vs ks → NKs K H (v :: vs) (k :: ks)
end
mutual
theorem NK.mono {K : PySem.W.Frag} {H H' : Hp} (t : ∀ b ys, SqT K H b ys → SqT K H' b ys) : ∀ {v : V} {k : NestedKey}, NK K H v k → NK K H' v k
  | _, _, .non => .non
  | _, _, .int i => .int i
  | _, _, .str x => .str x
  | _, _, .tup h r => .tup (t _ _ h) (NKs.mono t r)
theorem NKs.mono {K : PySem.W.Frag} {H H' : Hp} (t : ∀ b ys, SqT K H b ys → SqT K H' b ys) : ∀ {vs : List V} {ks : List NestedKey}, NKs K H vs ks → NKs K H' vs ks
  | _, _, .nil => .nil
  | _, _, .cons h r => .cons (NK.mono t h) (NKs.mono t r)
end
section
variable {X : Cx} {pins : List (Addr × Obj)} {σ : L2.St} {H : Hp} {s : Shared}
mutual
theorem NK.is (I : Inv X pins σ H s) : ∀ (k : NestedKey) (v : V) (u : Value), NK X.K H v k → RelV v u → NestedIs s.heap k u
  | .none, _, _, .non, r => by
    cases (show _ = Value.none from r)
    exact .none
  | .num _, _, _, .int _, r => by
    obtain ⟨t, e⟩ := (show ∃ t, _ = Value.int _ t from r)
    subst e
    exact .int _ _
  | .text _, _, _, .str _, r => by
    obtain ⟨t, e⟩ := (show ∃ t, _ = Value.str _ t from r)
    subst e
    exact .text _ _
  | .tup ks, _, _, .tup h rs, r => by
    cases (show _ = Value.ref _ from r)
    obtain ⟨its, rv, ⟨o, ho, hc, n, hd⟩, _⟩ := I.tuple h
    exact .tup ho hc hd (by simpa using NKs.is I ks _ its rs rv)
theorem NKs.is (I : Inv X pins σ H s) : ∀ (ks : List NestedKey) (vs : List V) (us : List Value), NKs X.K H vs ks → Vals vs us → NestedAll s.heap ks us
  | [], _, _, .nil, r => by
    cases r
    exact .nil
  | _ :: ks, _, _, .cons h rs, r => by
    cases r with
    | cons r1 r2 => exact .cons (NK.is I _ _ _ h r1) (NKs.is I ks _ _ rs r2)
end
end
abbrev Ent := NestedKey × Addr × V
abbrev KX : List Ent → List (NestedKey × Addr × Value) → Prop := Paired fun p q => p.1 = q.1 ∧ p.2.1 = q.2.1 ∧ RelV p.2.2 q.2.2
/-- the dict at a, as an object -/
def dno (P : Program) (w : World) (a : Addr) (xs : List Ent) : HO := .ext fun h => (a == sysModules) = false ∧ ∃ vs o es ep, KX xs vs ∧ h.get? a = some o ∧ o.ExactDict ∧ o.data = .dict es ep ∧ es.toList = vs.map (entryOfKey (nestedKind P w))
/-- the dict at a holds these pairs -/
def ND (K : PySem.W.Frag) (P : Program) (w : World) (H : Hp) (a : Addr) (kvs : List (NestedKey × V)) : Prop :=
  ∃ xs : List Ent, H a = some (dno P w a xs) ∧ kvs = xs.map (fun x => (x.1, x.2.2)) ∧ (∀ x ∈ xs, NK K H (.ref x.2.1) x.1 ∧ x.1.depth ≤ 8) ∧ (xs.map (·.1)).Nodup ∧ xs.length ≤ sizeLine
theorem dno_ne {P : Program} {w : World} {a : Addr} {xs : List Ent} {o : HO} (h : ∀ φ, o ≠ .ext φ) : dno P w a xs ≠ o := fun e => h _ e.symm
theorem dno_ok {P : Program} {w : World} {H : Hp} {h : Heap} {a : Addr} {xs : List Ent} {vs : List (NestedKey × Addr × Value)} {o : Obj} {es : Array DictEntry} {ep : Nat} (hs : (a == sysModules) = false) (r : KX xs vs) (ho : h.get? a = some o) (he : o.ExactDict) (hd : o.data = .dict es ep) (hm : es.toList = vs.map (entryOfKey (nestedKind P w))) : ObjOk P w H h a (dno P w a xs) :=
  ⟨⟨hs, vs, o, es, ep, r, ho, he, hd, hm⟩, ⟨o, ho⟩, fun _ _ z k => by
    obtain ⟨z1, vs, o, es, ep, r, q, z2⟩ := z
    exact ⟨z1, vs, o, es, ep, r, k _ q, z2⟩⟩
theorem KX.keys {xs : List Ent} {vs : List (NestedKey × Addr × Value)} (r : KX xs vs) : vs.map (·.1) = xs.map (·.1) := by
  induction r with
  | nil => rfl
  | cons h _ ih => rw [List.map_cons, List.map_cons, ih, h.1]
theorem KX.val {xs : List Ent} {vs : List (NestedKey × Addr × Value)} (r : KX xs vs) (k : NestedKey) : RelO (valV (xs.map fun x => (x.1, x.2.2)) k) ((atKey vs k).map (·.2)) := by
  induction r with
  | nil => exact True.intro
  | @cons p q ps qs h t ih =>
    obtain ⟨h1, _, h2⟩ := h
    rw [List.map_cons]
    by_cases e : p.1 = k
    · have b : atKey (q :: qs) k = some q.2 := by simp [atKey, List.find?_cons, h1.symm.trans e]
      rw [valV_pos (p := (p.1, p.2.2)) e, b]
      exact h2
    · have e' : ¬ q.1 = k := fun z => e (h1.trans z)
      have b : atKey (q :: qs) k = atKey qs k := by simp [atKey, List.find?_cons, e']
      rw [valV_neg (p := (p.1, p.2.2)) e, b]
      exact ih
/-- the entries behind a store -/
def putX (xs : List Ent) (k : NestedKey) (b : Addr) (y : V) : List Ent :=
  if (xs.any fun x => decide (x.1 = k)) = true then xs.map (fun x => if x.1 = k then (x.1, x.2.1, y) else x) else xs ++ [(k, b, y)]
theorem putX_put (xs : List Ent) (k : NestedKey) (b : Addr) (y : V) : (putX xs k b y).map (fun x => (x.1, x.2.2)) = putK (xs.map fun x => (x.1, x.2.2)) k y := by
  have ha : ((xs.map fun x => (x.1, x.2.2)).any fun kv => decide (kv.1 = k)) = (xs.any fun x => decide (x.1 = k)) := by
    rw [List.any_map]
    rfl
  unfold putX putK
  rw [ha]
  split
  · rw [List.map_map, List.map_map]
    refine List.map_congr_left fun x _ => ?_
    show (fun x : Ent => (x.1, x.2.2)) (if x.1 = k then (x.1, x.2.1, y) else x) = if x.1 = k then (x.1, y) else (x.1, x.2.2)
    split <;> rfl
  · rw [List.map_append]
    rfl
theorem putX_rel {xs : List Ent} {vs : List (NestedKey × Addr × Value)} (r : KX xs vs) (k : NestedKey) (b : Addr) {y : V} {u : Value} (ry : RelV y u) : KX (putX xs k b y) (storedH vs k b u) := by
  have e : (xs.any fun x => decide (x.1 = k)) = (atKey vs k).isSome := by
    have h1 := (r.val k).isSome_eq
    rw [Option.isSome_map, ← valV_any] at h1
    rw [← h1, List.any_map]
    rfl
  unfold putX storedH
  rw [e]
  split
  · rename_i hq
    clear hq e
    induction r with
    | nil => exact .nil
    | @cons p q ps qs h t ih =>
      rw [List.map_cons, List.map_cons]
      refine .cons ?_ ih
      obtain ⟨h1, h2, h3⟩ := h
      unfold putAt
      by_cases e : p.1 = k
      · rw [if_pos e, if_pos (h1.symm.trans e)]
        exact ⟨h1, h2, ry⟩
      · rw [if_neg e, if_neg (fun z => e (h1.trans z))]
        exact ⟨h1, h2, h3⟩
  · exact Paired.snoc r ⟨rfl, rfl, ry⟩
theorem putX_mem {xs : List Ent} {k : NestedKey} {b : Addr} {y : V} {z : Ent} (h : z ∈ putX xs k b y) : (∃ x ∈ xs, z.1 = x.1 ∧ z.2.1 = x.2.1) ∨ (z.1 = k ∧ z.2.1 = b) := by
  unfold putX at h
  split at h
  · obtain ⟨x, hx, e⟩ := List.mem_map.mp h
    refine Or.inl ⟨x, hx, ?_⟩
    subst e
    split <;> exact ⟨rfl, rfl⟩
  · rcases List.mem_append.mp h with h | h
    · exact Or.inl ⟨z, h, rfl, rfl⟩
    · rw [List.mem_singleton.mp h]
      exact Or.inr ⟨rfl, rfl⟩
theorem putX_nodup {xs : List Ent} {k : NestedKey} {b : Addr} {y : V} (h : (xs.map (·.1)).Nodup) : ((putX xs k b y).map (·.1)).Nodup := by
  unfold putX
  split
  · rw [List.map_map]
    have e : ((fun x : Ent => x.1) ∘ fun x : Ent => if x.1 = k then (x.1, x.2.1, y) else x) = fun x => x.1 := by
      funext x
      show (if x.1 = k then (x.1, x.2.1, y) else x : Ent).1 = x.1
      split <;> rfl
    rw [e]
    exact h
  · rename_i hn
    rw [List.map_append, List.map_singleton]
    refine nd_snoc h fun hm => hn ?_
    obtain ⟨x, hx, e⟩ := List.mem_map.mp hm
    exact List.any_eq_true.mpr ⟨x, hx, by simpa using e⟩
theorem putX_len (xs : List Ent) (k : NestedKey) (b : Addr) (y : V) : (putX xs k b y).length ≤ xs.length + 1 := by
  unfold putX
  split
  · rw [List.length_map]
    omega
  · rw [List.length_append, List.length_singleton]
    exact Nat.le_refl _
section
variable {X : Cx} {pins : List (Addr × Obj)} {σ : L2.St} {H : Hp} {s : Shared} {a : Addr} {kvs : List (NestedKey × V)} {k : NestedKey} {A : Around} {E : Value → Shared → Prop}
theorem ND.at (I : Inv X pins σ H s) {xs : List Ent} (e : H a = some (dno X.prog X.w a xs)) (hk : ∀ x ∈ xs, NK X.K H (.ref x.2.1) x.1 ∧ x.1.depth ≤ 8) (hn : (xs.map (·.1)).Nodup) :
    (a == sysModules) = false ∧ ∃ vs, KX xs vs ∧ s.heap.DictOfH (nestedKind X.prog X.w) a vs := by
  have ok : ObjOk X.prog X.w H s.heap a (.ext fun h => (a == sysModules) = false ∧ ∃ vs o es ep, KX xs vs ∧ h.get? a = some o ∧ o.ExactDict ∧ o.data = .dict es ep ∧ es.toList = vs.map (entryOfKey (nestedKind X.prog X.w))) := I.hok a _ e
  obtain ⟨⟨hs, vs, o, es, ep, r, ho, he, hd, hm⟩, zz⟩ := ok
  clear zz
  refine ⟨hs, vs, r, o, es, ep, ho, he, hd, hm, ?_, by rw [r.keys]; exact hn⟩
  clear hm he hd hn e
  induction r with
  | nil => exact fun x hx => nomatch hx
  | @cons p q ps qs h t ih =>
    intro x hx
    rcases List.mem_cons.mp hx with z | hx
    · subst z
      have hp := hk p List.mem_cons_self
      rw [h.1, h.2.1] at hp
      exact ⟨NK.is I _ _ _ hp.1 rfl, hp.2⟩
    · exact ih (fun y hy => hk y (List.mem_cons_of_mem _ hy)) x hx
theorem nd_in {b : Addr} {Q : Value → Shared → Prop} (hu : A.units + 9 < cLine) (I : Inv X pins σ H s) (D : ND X.K X.prog X.w H a kvs) (hb : NK X.K H (.ref b) k) (hd : k.depth ≤ 8) (h : ∀ s', Inv X pins σ H s' → Q (.bool (valV kvs k).isSome) s') :
    wpAny (model X.prog X.w) A (compareOp .In (.ref b) (.ref a)) Q E s := by
  obtain ⟨xs, e, ek, hk, hn, hz⟩ := D
  obtain ⟨hs, vs, r, dd⟩ := ND.at I e hk hn
  refine wpAny_in_heap (knd := nestedKind X.prog X.w) (show A.units + 1 + 8 < cLine by omega) ⟨NK.is I _ _ _ hb rfl, hd⟩ hs dd ?_
  have q := (r.val k).isSome_eq
  rw [Option.isSome_map, ← ek] at q
  rw [← q]
  exact h _ (I.tok _)
theorem nd_notIn {b : Addr} {Q : Value → Shared → Prop} (hu : A.units + 9 < cLine) (I : Inv X pins σ H s) (D : ND X.K X.prog X.w H a kvs) (hb : NK X.K H (.ref b) k) (hd : k.depth ≤ 8) (h : ∀ s', Inv X pins σ H s' → Q (.bool (!(valV kvs k).isSome)) s') :
    wpAny (model X.prog X.w) A (compareOp .NotIn (.ref b) (.ref a)) Q E s := by
  obtain ⟨xs, e, ek, hk, hn, hz⟩ := D
  obtain ⟨hs, vs, r, dd⟩ := ND.at I e hk hn
  refine wpAny_notIn_heap (knd := nestedKind X.prog X.w) (show A.units + 1 + 8 < cLine by omega) ⟨NK.is I _ _ _ hb rfl, hd⟩ hs dd ?_
  have q := (r.val k).isSome_eq
  rw [Option.isSome_map, ← ek] at q
  rw [← q]
  exact h _ (I.tok _)
theorem nd_put {b : Addr} {y : V} {u : Value} {Q : Unit → Shared → Prop} (hu : A.units + 9 < cLine) (I : Inv X pins σ H s) (D : ND X.K X.prog X.w H a kvs) (hb : NK X.K H (.ref b) k) (hd : k.depth ≤ 8) (hl : kvs.length < sizeLine) (ry : RelV y u)
    (h : ∀ o s', ND X.K X.prog X.w (upd H a o) a (putK kvs k y) → Inv X pins σ (upd H a o) s' → Q () s') : wpAny (model X.prog X.w) A (setItem (.ref a) (.ref b) u) Q E s := by
  obtain ⟨xs, e, ek, hk, hn, hz⟩ := D
  obtain ⟨hs, vs, r, dd⟩ := ND.at I e hk hn
  have hlx : xs.length < sizeLine := by rw [ek, List.length_map] at hl; exact hl
  refine wpAny_setItem_heap (knd := nestedKind X.prog X.w) (hsz := by rw [← Paired.length r]; exact hz) (show A.units + 1 + 8 < cLine by omega) ⟨NK.is I _ _ _ hb rfl, hd⟩ dd fun h' dd' sb => ?_
  obtain ⟨o, es, ep, ho, he, hdd, hm, _, _⟩ := dd'
  have tk : ∀ c ys, SqT X.K H c ys → SqT X.K (upd H a (dno X.prog X.w a (putX xs k b y))) c ys := fun c ys q => by
    rcases q with (q | ⟨o', q⟩) | q
    · exact .inl (.inl (by rw [upd_ne (ne_of q e (fun z => nomatch z))]; exact q))
    · exact .inl (.inr ⟨o', by rw [upd_ne (ne_of q e (fun z => nomatch z))]; exact q⟩)
    · exact .inr q
  refine h (dno X.prog X.w a (putX xs k b y)) _ ⟨putX xs k b y, upd_same, by rw [putX_put, ek], fun z hz' => ?_, putX_nodup hn, by have := putX_len xs k b y; omega⟩
    (d_write I (by rw [e]; exact True.intro) sb ⟨o, ho⟩ (dno_ok hs (putX_rel r k b ry) ho he hdd hm))
  rcases putX_mem hz' with ⟨x, hx, e1, e2⟩ | ⟨e1, e2⟩
  · rw [e1, e2]
    exact ⟨(hk x hx).1.mono tk, (hk x hx).2⟩
  · rw [e1, e2]
    exact ⟨hb.mono tk, hd⟩
theorem nd_get {b : Addr} {y : V} {Q : Value → Shared → Prop} (hu : A.units + 9 < cLine) (I : Inv X pins σ H s) (D : ND X.K X.prog X.w H a kvs) (hb : NK X.K H (.ref b) k) (hd : k.depth ≤ 8) (hv : valV kvs k = some y) (h : ∀ u s', Inv X pins σ H s' → RelV y u → Q u s') :
    wpAny (model X.prog X.w) A (getItem (.ref a) (.ref b)) Q E s := by
  obtain ⟨xs, e, ek, hk, hn, hz⟩ := D
  obtain ⟨hs, vs, r, dd⟩ := ND.at I e hk hn
  have q := r.val k
  rw [← ek, hv] at q
  obtain ⟨u, eu, ru⟩ := RelO.some_of (v := y) (o := (atKey vs k).map (·.2)) (by exact q)
  obtain ⟨p, hp, hp2⟩ := Option.map_eq_some_iff.mp eu
  refine wpAny_getItem_heap (knd := nestedKind X.prog X.w) (show A.units + 1 + 8 < cLine by omega) ⟨NK.is I _ _ _ hb rfl, hd⟩ dd hp ?_
  rw [hp2]
  exact h u _ (I.tok _) ru
theorem nd_type (I : Inv X pins σ H s) (D : ND X.K X.prog X.w H a kvs) : s.TypeIs (.ref a) "dict" := by
  obtain ⟨xs, e, ek, hk, hn, hz⟩ := D
  obtain ⟨hs, vs, r, dd⟩ := ND.at I e hk hn
  exact dd.typeIs
end
/-- y in d, y not in d, d[y], d[y] = v, {} : y a tuple -/
def tIn (K : PySem.W.Frag) (P : Program) (w : World) (neg : Bool) (ty td : TE) : TE := fun σ H Q => ty σ H fun y H1 => td σ H1 fun x H2 => ∃ b a kvs k, y = .ref b ∧ x = .ref a ∧ ND K P w H2 a kvs ∧ NK K H2 (.ref b) k ∧ k.depth ≤ 8 ∧ Q (.bl (if neg then !(valV kvs k).isSome else (valV kvs k).isSome)) H2
def tGet (K : PySem.W.Frag) (P : Program) (w : World) (td ty : TE) : TE := fun σ H Q => td σ H fun x H1 => ty σ H1 fun y H2 => ∃ b a kvs k v, y = .ref b ∧ x = .ref a ∧ ND K P w H2 a kvs ∧ NK K H2 (.ref b) k ∧ k.depth ≤ 8 ∧ valV kvs k = some v ∧ Q v H2
def sPut (K : PySem.W.Frag) (P : Program) (w : World) (td ty tv : TE) : TS := fun D σ H => tv σ H fun v H1 => td σ H1 fun x H2 => ty σ H2 fun y H3 => ∃ b a kvs k, y = .ref b ∧ x = .ref a ∧ ND K P w H3 a kvs ∧ NK K H3 (.ref b) k ∧ k.depth ≤ 8 ∧ kvs.length < sizeLine ∧
  ∀ o, ND K P w (upd H3 a o) a (putK kvs k v) → D.nx σ (upd H3 a o)
def tNew (P : Program) (w : World) : TE := fun _ H Q => ∀ p, H p = none → Q (.ref p) (upd H p (dno P w p []))
theorem nd_new {K : PySem.W.Frag} {P : Program} {w : World} {H : Hp} {p : Addr} : ND K P w (upd H p (dno P w p [])) p [] := ⟨[], upd_same, rfl, fun _ h => absurd h (by simp), List.nodup_nil, Nat.zero_le _⟩
section
variable {X : Cx} {o i value : Expr} {td ty tv : TE} {pos pos' : Pos}
theorem pc_in (hu : X.A.units + 64 < cLine) (hi : PE X i ty) (ho : PE X o td) : PC X .In i o (tIn X.K X.prog X.w false ty td) := by
  refine ⟨fun pins s σ H Q I h => ?_⟩
  refine thn (hi.run pins s σ H _ I h) fun iv s1 ⟨y, H1, I1, ry, q1⟩ => thn (ho.run pins s1 σ H1 _ I1 q1) fun u s2 ⟨x, H2, I2, rx, b, a, kvs, k, ey, ex, D, hb, hd, q2⟩ => ?_
  subst ex ey
  obtain rfl : u = Value.ref a := rx
  obtain rfl : iv = Value.ref b := ry
  exact nd_in (by omega) I2 D hb hd fun s3 I3 => ⟨.bl _, H2, I3, rfl, q2⟩
theorem pc_notin (hu : X.A.units + 64 < cLine) (hi : PE X i ty) (ho : PE X o td) : PC X .NotIn i o (tIn X.K X.prog X.w true ty td) := by
  refine ⟨fun pins s σ H Q I h => ?_⟩
  refine thn (hi.run pins s σ H _ I h) fun iv s1 ⟨y, H1, I1, ry, q1⟩ => thn (ho.run pins s1 σ H1 _ I1 q1) fun u s2 ⟨x, H2, I2, rx, b, a, kvs, k, ey, ex, D, hb, hd, q2⟩ => ?_
  subst ex ey
  obtain rfl : u = Value.ref a := rx
  obtain rfl : iv = Value.ref b := ry
  exact nd_notIn (by omega) I2 D hb hd fun s3 I3 => ⟨.bl _, H2, I3, rfl, q2⟩
theorem pe_get (hu : X.A.units + 64 < cLine) (ho : PE X o td) (hi : PE X i ty) (hs : NoSl i) : PE X (.Subscript o i pos) (tGet X.K X.prog X.w td ty) := by
  refine ⟨fun pins s σ H Q I h => ?_⟩
  refine subD_of PySem.F.slot_dict_getitem.lookup hs (thn (ho.run pins s σ H _ I h) fun u s1 ⟨x, H1, I1, rx, q1⟩ => thn (hi.run pins s1 σ H1 _ I1 q1) fun iv s2 ⟨y, H2, I2, ry, b, a, kvs, k, v, ey, ex, D, hb, hd, hv, q2⟩ => ?_)
  subst ex ey
  obtain rfl : u = Value.ref a := rx
  obtain rfl : iv = Value.ref b := ry
  exact ⟨nd_type I2 D, nd_get (by omega) I2 D hb hd hv fun w' s3 I3 rw' => ⟨v, H2, I3, rw', q2⟩⟩
theorem ps_put (hu : X.A.units + 64 < cLine) (ho : PE X o td) (hi : PE X i ty) (hv : PE X value tv) (hs : swapsWith value (some (.Subscript o i pos')) pos.line X.env = pure false) :
    PS X (.Assign [.Subscript o i pos'] value pos) (sPut X.K X.prog X.w td ty tv) := by
  refine ⟨fun pins s σ H D I h => ?_⟩
  refine wpAny_Assign_Subscript (thn (hv.run pins s σ H _ I h) fun r s1 ⟨v, H1, I1, rv, q1⟩ => thn (ho.run pins s1 σ H1 _ I1 q1) fun u s2 ⟨x, H2, I2, rx, q2⟩ => thn (hi.run pins s2 σ H2 _ I2 q2) fun iv s3 ⟨y, H3, I3, ry, b, a, kvs, k, ey, ex, N, hb, hd, hl, q3⟩ => ?_) hs
  subst ex ey
  obtain rfl : u = Value.ref a := rx
  obtain rfl : iv = Value.ref b := ry
  exact nd_put (by omega) I3 N hb hd hl rv fun ob s4 N4 I4 => ⟨σ, _, I4, q3 ob N4⟩
theorem pe_new : PE X (.Dict [] [] pos) (tNew X.prog X.w) := ⟨fun pins s σ H Q I h =>
  wpAny_Dict_empty ⟨.ref s.heap.objs.size, _, I.laid (a := s.heap.objs.size) (o := dno X.prog X.w s.heap.objs.size []) (t' := s.toks) (fun _ _ q => Heap.get?_push_of_some _ q) (Nat.le_refl _)
    (dno_ok (vs := []) (beq_eq_false_iff_ne.mpr (Ne.symm (Nat.ne_of_lt I.big))) .nil (Heap.get?_push_size _ rfl) ⟨rfl, rfl, rfl⟩ rfl rfl), rfl, h _ (I.hok.fresh (Nat.le_refl _))⟩⟩
end
end NeD

namespace Lk
open PySem L2
section
/-! heaps: what stays, and the data of a web -/
/-- all but lists stay -/
def Tk (H H' : Hp) : Prop := ∀ c o, (∀ xs, o ≠ .lst xs) → H c = some o → H' c = some o
theorem Tk.of {H H' : Hp} (s : Same H H') : Tk H H' := fun c o _ h => s c o h
theorem Tk.trans {H H1 H2 : Hp} (x : Tk H H1) (y : Tk H1 H2) : Tk H H2 := fun c o n h => y c o n (x c o n h)
theorem Tk.refl (H : Hp) : Tk H H := fun _ _ _ h => h
theorem same_new {H : Hp} {p : Addr} {o : HO} (h : H p = none) : Same H (upd H p o) := fun b x e => by
  rw [upd_ne (ne_of_none e h)]
  exact e
theorem tk_mut {H : Hp} {p : Addr} {xs ys : List V} (h : H p = some (.lst xs)) : Tk H (upd H p (.lst ys)) := fun b x n e => by
  rw [upd_ne (ne_of e h (n xs))]
  exact e
variable {K : PySem.W.Frag}
theorem Tk.t {H H' : Hp} {p : Addr} {xs : List V} (x : Tk H H') (h : SqT K H p xs) : SqT K H' p xs := by
  rcases h with (h | ⟨o, h⟩) | h
  · exact .inl (.inl (x _ _ (fun _ z => nomatch z) h))
  · exact .inl (.inr ⟨o, x _ _ (fun _ z => nomatch z) h⟩)
  · exact .inr h
theorem tyT {H : Hp} {p : Addr} {xs : List V} (h : SqT K H p xs) : TyX K H (.ref p) (.type "tuple") := by
  rcases h with (h | ⟨o, h⟩) | ⟨o, _, _, e, c, _⟩
  · exact .base (.tup h)
  · exact .fTuple h
  · exact .kTuple e c
/-- a tuple of numbers -/
def nv (x : Nat) : V := .int (x : Int)
def IT (K : PySem.W.Frag) (H : Hp) (p : Addr) (ps : List Nat) : Prop := SqT K H p (ps.map nv)
def RowV (K : PySem.W.Frag) (H : Hp) (v : V) (r : Row) : Prop := ∃ p q, v = .ref p ∧ SqT K H p [nv r.1, .ref q] ∧ IT K H q r.2
/-- a tuple of rows -/
def RowsT (K : PySem.W.Frag) (H : Hp) (p : Addr) (R : List Row) : Prop := ∃ vs, SqT K H p vs ∧ vs.length = R.length ∧ ∀ i v, vs[i]? = some v → RowV K H v (rowAt R i)
theorem RowV.tk {H H' : Hp} {v : V} {r : Row} (x : Tk H H') (h : RowV K H v r) : RowV K H' v r := by
  obtain ⟨p, q, e, h1, h2⟩ := h
  exact ⟨p, q, e, x.t h1, x.t h2⟩
theorem RowsT.tk {H H' : Hp} {p : Addr} {R : List Row} (x : Tk H H') (h : RowsT K H p R) : RowsT K H' p R := by
  obtain ⟨vs, h1, h2, h3⟩ := h
  exact ⟨vs, x.t h1, h2, fun i v e => (h3 i v e).tk x⟩
/-- a web at p -/
def WebV (K : PySem.W.Frag) (C : Addr) (H : Hp) (p : Addr) (R : List Row) : Prop := ∃ dx q, H p = some (.ins C dx [("rows", .ref q)]) ∧ RowsT K H q R
theorem WebV.tk {C : Addr} {H H' : Hp} {p : Addr} {R : List Row} (x : Tk H H') (h : WebV K C H p R) : WebV K C H' p R := by
  obtain ⟨dx, q, h1, h2⟩ := h
  exact ⟨dx, q, x _ _ (fun _ z => nomatch z) h1, h2.tk x⟩
end
section
theorem iteC {c : Bool} {A B : Prop} (e : c = true) (h : A) : if c = true then A else B := by
  rw [e]
  exact iteT h
theorem iteD {c : Bool} {A B : Prop} (e : c = false) (h : B) : if c = true then A else B := by
  rw [e]
  exact iteF h
end
section
/-! data of a web as data of any depth -/
def dN (x : Nat) : PyData := .int (x : Int)
def dRow (r : Row) : PyData := .tuple [dN r.1, .tuple (r.2.map dN)]
def dRows (R : List Row) : PyData := .tuple (R.map dRow)
variable {K : PySem.W.Frag}
theorem dp_nums {H : Hp} : ∀ ps : List Nat, DpAll K H (ps.map nv) (ps.map dN)
  | [] => .nil
  | x :: r => .cons (.int _) (dp_nums r)
theorem it_dp {H : Hp} {p : Addr} {ps : List Nat} (h : IT K H p ps) : Dp K H (.ref p) (.tuple (ps.map dN)) := .tup h (dp_nums ps)
theorem row_dp {H : Hp} {v : V} {r : Row} (h : RowV K H v r) : Dp K H v (dRow r) := by
  obtain ⟨p, q, rfl, h1, h2⟩ := h
  exact .tup h1 (.cons (.int _) (.cons (it_dp h2) .nil))
theorem dpAll_of {H : Hp} : ∀ {vs : List V} {ds : List PyData}, vs.length = ds.length → (∀ (i : Nat) v d, vs[i]? = some v → ds[i]? = some d → Dp K H v d) → DpAll K H vs ds
  | [], [], _, _ => .nil
  | [], _ :: _, h, _ => absurd h (by simp)
  | _ :: _, [], h, _ => absurd h (by simp)
  | v :: vs, d :: ds, h, f => .cons (f 0 v d rfl rfl) (dpAll_of (by simpa using h) fun i v d h1 h2 => f (i + 1) v d (by simpa using h1) (by simpa using h2))
theorem rowAt_of {R : List Row} {i : Nat} (h : i < R.length) : R[i]? = some (rowAt R i) := by
  unfold rowAt
  rw [List.getD_eq_getElem?_getD, List.getElem?_eq_getElem h]
  rfl
theorem rows_dp {H : Hp} {p : Addr} {R : List Row} (h : RowsT K H p R) : Dp K H (.ref p) (dRows R) := by
  obtain ⟨vs, h1, h2, h3⟩ := h
  refine .tup h1 (dpAll_of (by rw [List.length_map, h2]) fun i v d e1 e2 => ?_)
  have hi : i < R.length := by
    rw [← h2]
    exact (List.getElem?_eq_some_iff.mp e1).1
  rw [List.getElem?_map, rowAt_of hi] at e2
  rw [← Option.some.inj e2]
  exact row_dp (h3 i v e1)
theorem nums_lay : ∀ ps : List Nat, PyData.canLayAll0 (ps.map dN) = true
  | [] => rfl
  | _ :: r => by
    show (true && PyData.canLayAll0 (r.map dN)) = true
    rw [nums_lay r]
    rfl
theorem nums_depth : ∀ ps : List Nat, PyData.depthAll (ps.map dN) ≤ 1
  | [] => by decide
  | _ :: r => by
    have := nums_depth r
    simp only [List.map_cons, PyData.depthAll, PyData.depth, dN] at this ⊢
    omega
theorem sh_nums (ps : List Nat) : SeqAt.shaped (.tuple (ps.map dN)) = true := by
  unfold SeqAt.shaped
  have h1 := nums_lay ps
  have h2 := nums_depth ps
  rw [Bool.and_eq_true, decide_eq_true_eq]
  exact ⟨h1, by show PyData.depthAll (ps.map dN) + 1 ≤ 64; omega⟩
theorem rows_lay : ∀ R : List Row, PyData.canLayAll0 (R.map dRow) = true
  | [] => rfl
  | r :: R => by
    show ((true && ((PyData.canLayAll0 (r.2.map dN)) && true)) && PyData.canLayAll0 (R.map dRow)) = true
    rw [nums_lay, rows_lay R]
    rfl
theorem rows_depth : ∀ R : List Row, PyData.depthAll (R.map dRow) ≤ 4
  | [] => by decide
  | r :: R => by
    have h1 := rows_depth R
    have h2 := nums_depth r.2
    simp only [List.map_cons, PyData.depthAll, dRow, PyData.depth, dN]
    omega
theorem sh_rows (R : List Row) : SeqAt.shaped (dRows R) = true := by
  unfold SeqAt.shaped
  have h1 := rows_lay R
  have h2 := rows_depth R
  rw [Bool.and_eq_true, decide_eq_true_eq]
  exact ⟨h1, by show PyData.depthAll (R.map dRow) + 1 ≤ 64; omega⟩
end
section
/-! the dict of what was met -/
def ky (x : Nat) : Key := .inl (x : Int)
theorem ky_inj {x y : Nat} (h : ky x = ky y) : x = y := by
  have := Sum.inl.inj h
  omega
def fk (F : List Nat) : List (Key × V) := F.map fun x => (ky x, .bl true)
theorem fk_val (x : Nat) : ∀ F : List Nat, valV (fk F) (ky x) = if x ∈ F then some (.bl true) else none
  | [] => rfl
  | y :: F => by
    by_cases e : y = x
    · subst e
      rw [if_pos List.mem_cons_self]
      exact valV_pos rfl
    · rw [show valV (fk (y :: F)) (ky x) = valV (fk F) (ky x) from valV_neg fun q => e (ky_inj q), fk_val x F]
      by_cases m : x ∈ F
      · rw [if_pos m, if_pos (List.mem_cons_of_mem _ m)]
      · rw [if_neg m, if_neg (by rw [List.mem_cons]; exact fun q => q.elim (fun q => e q.symm) m)]
theorem fk_put (x : Nat) (F : List Nat) : putK (fk F) (ky x) (.bl true) = fk (ins F x) := by
  unfold ins
  by_cases m : x ∈ F
  · rw [if_pos m]
    have h : ((fk F).any fun kv => decide (kv.1 = ky x)) = true := by
      rw [valV_any, fk_val, if_pos m]
      rfl
    unfold putK
    rw [if_pos h]
    unfold fk
    rw [List.map_map]
    refine List.map_congr_left fun y _ => ?_
    show (if ky y = ky x then (ky y, V.bl true) else (ky y, V.bl true)) = _
    split <;> rfl
  · rw [if_neg m, putK_new _ (by rw [fk_val, if_neg m])]
    unfold fk
    rw [List.map_append]
    rfl
theorem fk_keys (F : List Nat) : (fk F).map (·.1) = (F.map fun (x : Nat) => (x : Int)).map Sum.inl := by
  unfold fk
  rw [List.map_map, List.map_map]
  rfl
theorem ins_len (F : List Nat) (x : Nat) : (ins F x).length ≤ F.length + 1 := by
  unfold ins
  split
  · omega
  · rw [List.length_append]
    exact Nat.le_refl _
theorem insAll_len : ∀ (xs F : List Nat), (xs.foldl ins F).length ≤ F.length + xs.length
  | [], _ => Nat.le_refl _
  | x :: xs, F => by
    have h1 := insAll_len xs (ins F x)
    have h2 := ins_len F x
    rw [List.foldl_cons, List.length_cons]
    omega
theorem parts_len {R : List Row} (g : Good R) (n : Nat) : (parts R n).length ≤ 2 := by
  by_cases h : n < R.length
  · exact (g n h).2.1
  · rw [parts_out (by omega)]
    decide
theorem goB_len {R : List Row} (g : Good R) {v : Nat} : ∀ i, (goB R v i).length ≤ 1 + 2 * i
  | 0 => Nat.le_refl _
  | i + 1 => by
    have h1 := goB_len g (v := v) i
    have h2 := insAll_len (parts R (v - i)) (goB R v i)
    have h3 := parts_len g (v - i)
    show (stepB R (goB R v i) (v - i)).length ≤ _
    unfold stepB
    split <;> omega
theorem lt_line {n : Nat} (h : n ≤ 100000) : n < sizeLine := by
  rw [sizeLine_eq]
  omega
theorem take_ins {xs F : List Nat} {j x : Nat} (h : xs[j]? = some x) : (xs.take (j + 1)).foldl ins F = ins ((xs.take j).foldl ins F) x := by
  rw [List.take_add_one, h, List.foldl_append]
  rfl
theorem at_row {K : PySem.W.Frag} {H : Hp} {vs : List V} {R : List Row} {n : Nat} (hl : vs.length = R.length) (hr : ∀ i v, vs[i]? = some v → RowV K H v (rowAt R i)) (h : n < R.length) :
    ∃ v, atI vs (n : Int) = some v ∧ RowV K H v (rowAt R n) := by
  have hn : n < vs.length := by omega
  exact ⟨vs[n], atI_nat (List.getElem?_eq_getElem hn), hr n _ (List.getElem?_eq_getElem hn)⟩
end
section
/-! the dict of places -/
def pl : List Nat → Nat → List (Key × V)
  | [], _ => []
  | x :: B, n => (ky x, nv n) :: pl B (n + 1)
theorem pl_len : ∀ (B : List Nat) (n : Nat), (pl B n).length = B.length
  | [], _ => rfl
  | _ :: B, n => by
    show (pl B (n + 1)).length + 1 = B.length + 1
    rw [pl_len B (n + 1)]
theorem pl_none {p : Nat} : ∀ (B : List Nat) (n : Nat), ¬ p ∈ B → valV (pl B n) (ky p) = none
  | [], _, _ => rfl
  | x :: B, n, h => by
    rw [List.mem_cons] at h
    rw [show valV (pl (x :: B) n) (ky p) = valV (pl B (n + 1)) (ky p) from valV_neg fun q => h (Or.inl (ky_inj q).symm)]
    exact pl_none B (n + 1) fun q => h (Or.inr q)
theorem pl_val {p : Nat} : ∀ (B : List Nat) (n : Nat), p ∈ B → valV (pl B n) (ky p) = some (nv (n + B.idxOf p))
  | x :: B, n, h => by
    by_cases e : x = p
    · subst e
      rw [List.idxOf_cons_self]
      exact valV_pos rfl
    · have h2 : p ∈ B := by
        rcases List.mem_cons.mp h with q | q
        · exact absurd q.symm e
        · exact q
      rw [show valV (pl (x :: B) n) (ky p) = valV (pl B (n + 1)) (ky p) from valV_neg fun q => e (ky_inj q), pl_val B (n + 1) h2, List.idxOf_cons]
      have e' : (x == p) = false := by simpa using e
      rw [e']
      show some (nv (n + 1 + B.idxOf p)) = some (nv (n + (B.idxOf p + 1)))
      rw [Nat.add_assoc, Nat.add_comm 1]
theorem pl_app (x : Nat) : ∀ (B : List Nat) (n : Nat), pl (B ++ [x]) n = pl B n ++ [(ky x, nv (n + B.length))]
  | [], n => rfl
  | y :: B, n => by
    show (ky y, nv n) :: pl (B ++ [x]) (n + 1) = (ky y, nv n) :: (pl B (n + 1) ++ _)
    rw [pl_app x B (n + 1), List.length_cons, Nat.add_assoc, Nat.add_comm 1]
theorem pl_put {B : List Nat} (hn : B.Nodup) {i x : Nat} (h : B[i]? = some x) : putK (pl (B.take i) 0) (ky x) (nv i) = pl (B.take (i + 1)) 0 := by
  have hi : i < B.length := (List.getElem?_eq_some_iff.mp h).1
  have hl : (B.take i).length = i := by
    rw [List.length_take]
    omega
  have hx : ¬ x ∈ B.take i := by
    intro q
    obtain ⟨j, hj⟩ := List.mem_iff_getElem?.mp q
    have hj2 : j < i := by
      have := (List.getElem?_eq_some_iff.mp hj).1
      omega
    rw [List.getElem?_take_of_lt hj2] at hj
    have h1 := (List.getElem?_eq_some_iff.mp hj)
    have h2 := (List.getElem?_eq_some_iff.mp h)
    have h3 := (List.getElem_inj hn (i := j) (j := i) (h₀ := h1.1) (h₁ := h2.1)).mp (h1.2.trans h2.2.symm)
    omega
  rw [putK_new _ (pl_none _ _ hx), List.take_add_one, h]
  show _ = pl (B.take i ++ [x]) 0
  rw [pl_app, hl, Nat.zero_add]
end
section
/-! rules with the written part told, for use within comprehensions -/
theorem ixT {K : PySem.W.Frag} {X : Cx} (h : X.K = K) : IxR X (rIxT K) := by
  subst h
  exact ix_tup
def rTupOf (K : PySem.W.Frag) : List V → Hp → VK → Prop := fun xs H Q =>
  ∃ p ys, xs = [.ref p] ∧
    ((SqL K H p ys ∧ ∀ l, H l = none → Q (.ref l) (upd H l (.tup ys))) ∨
      (SqT K H p ys ∧ Q (.ref p) H))
theorem tupOf {K : PySem.W.Frag} {X : Cx} (h : X.K = K) : CallR X (.type "tuple") (rTupOf K) := by
  subst h
  exact call_tuple_of
theorem piT {K : PySem.W.Frag} {X : Cx} {tg t : Expr} {te : TE} (h : X.K = K) (ht : PE X t te) : PI X tg t (iTup K te) := by
  subst h
  exact pi_tup ht
end
section
/-! the bag of drawn numbers: a list at b, its great numbers at g -/
def BagAt (H : Hp) (b g : Addr) : Prop := ∃ (sd c : Int) (al : V) (gs : List Int), H b = some (.lst [.int sd, .int c, .ref g, al]) ∧ H g = some (.lst (gs.map V.int)) ∧ b ≠ g ∧ (al = .non ∨ ∃ n : Int, al = .int n ∧ 0 ≤ n)
/-- all but the bag stays -/
def Fb (b g : Addr) (H H' : Hp) : Prop := ∀ c o, c ≠ b → c ≠ g → H c = some o → H' c = some o
theorem Fb.refl {b g : Addr} (H : Hp) : Fb b g H H := fun _ _ _ _ h => h
theorem Fb.trans {b g : Addr} {H H1 H2 : Hp} (x : Fb b g H H1) (y : Fb b g H1 H2) : Fb b g H H2 := fun c o n m h => y c o n m (x c o n m h)
theorem Fb.of {b g : Addr} {H H' : Hp} (s : Same H H') : Fb b g H H' := fun c o _ _ h => s c o h
theorem Fb.tk {b g : Addr} {H H' : Hp} (B : BagAt H b g) (x : Fb b g H H') : Tk H H' := fun c o n h => by
  obtain ⟨_, _, _, _, h1, h2, _⟩ := B
  exact x c o (ne_of h h1 (n _)) (ne_of h h2 (n _)) h
theorem BagAt.same {b g : Addr} {H H' : Hp} (B : BagAt H b g) (s : Same H H') : BagAt H' b g := by
  obtain ⟨sd, c, al, gs, h1, h2, h3, h4⟩ := B
  exact ⟨sd, c, al, gs, s _ _ h1, s _ _ h2, h3, h4⟩
theorem BagAt.keep {b g l : Addr} {o : HO} {H : Hp} (B : BagAt H b g) (h1 : l ≠ b) (h2 : l ≠ g) : BagAt (upd H l o) b g := by
  obtain ⟨sd, c, al, gs, e1, e2, h3, h4⟩ := B
  exact ⟨sd, c, al, gs, by rw [upd_ne h1.symm]; exact e1, by rw [upd_ne h2.symm]; exact e2, h3, h4⟩
theorem fb_mutB {b g : Addr} {H : Hp} {o : HO} : Fb b g H (upd H b o) := fun c u n _ h => by
  rw [upd_ne n]
  exact h
theorem fb_mutG {b g : Addr} {H : Hp} {o : HO} : Fb b g H (upd H g o) := fun c u _ n h => by
  rw [upd_ne n]
  exact h
theorem mod_nat (x : Int) {m : Nat} (h : 0 < m) : ∃ r : Nat, x % (m : Int) = (r : Int) ∧ r < m := by
  have h1 := Int.emod_nonneg x (show (m : Int) ≠ 0 by omega)
  have h2 := Int.emod_lt_of_pos x (show (0 : Int) < (m : Int) by omega)
  exact ⟨(x % (m : Int)).toNat, by omega, by omega⟩
end
section
theorem cut_ints (ns : List Int) (lo hi : Option Int) : ∃ ms : List Int, cutV (ns.map V.int) lo hi = ms.map V.int ∧ ms.length ≤ ns.length := by
  unfold cutV
  refine ⟨(ns.drop (HT.sIx (ns.map V.int).length 0 lo)).take (HT.sIx (ns.map V.int).length (ns.map V.int).length hi - HT.sIx (ns.map V.int).length 0 lo), ?_, ?_⟩
  · rw [List.map_take, List.map_drop]
  · rw [List.length_take, List.length_drop]
    omega
end
section
theorem ixS {K : PySem.W.Frag} {X : Cx} (h : X.K = K) : IxR X (rIx K) := by
  subst h
  exact ix_seq
/-- data without dicts, of so many storeys -/
def okd : Nat → PyData → Prop
  | 0, _ => False
  | n + 1, d => match d with
    | .none | .bool _ | .int _ | .str _ => True
    | .tuple ds | .list ds => ds.length ≤ 100000 ∧ ∀ e ∈ ds, okd n e
    | .dict _ => False
variable {K : PySem.W.Frag}
theorem tyL {H : Hp} {p : Addr} {xs : List V} (h : SqL K H p xs) : TyX K H (.ref p) (.type "list") := by
  rcases h with (h | ⟨o, h⟩) | ⟨o, _, _, e, c, _⟩
  · exact .base (.lst h)
  · exact .base (.frz h)
  · exact .kList e c
theorem dpAll_len {H : Hp} : ∀ {vs : List V} {ds : List PyData}, DpAll K H vs ds → vs.length = ds.length
  | _, _, .nil => rfl
  | _, _, .cons _ r => congrArg (· + 1) (dpAll_len r)
theorem dpAll_at {H : Hp} : ∀ {vs : List V} {ds : List PyData} {i : Nat}, DpAll K H vs ds → i < ds.length → ∃ v d, vs[i]? = some v ∧ ds[i]? = some d ∧ Dp K H v d
  | _, _, i, .nil, h => absurd h (Nat.not_lt_zero i)
  | _, _, 0, .cons h _, _ => ⟨_, _, rfl, rfl, h⟩
  | _, _, i + 1, .cons _ r, h => by
    obtain ⟨v, d, h1, h2, h3⟩ := dpAll_at (i := i) r (Nat.lt_of_succ_lt_succ h)
    exact ⟨v, d, by simpa using h1, by simpa using h2, h3⟩
mutual
theorem dp_tk {H H' : Hp} (s : Same H H') : ∀ {v : V} {d : PyData}, Dp K H v d → Dp K H' v d
  | _, _, .non => .non
  | _, _, .bl b => .bl b
  | _, _, .int i => .int i
  | _, _, .str x => .str x
  | _, _, .lst h r => .lst (s.seq h) (dpAll_tk s r)
  | _, _, .tup h r => .tup ((Tk.of s).t h) (dpAll_tk s r)
theorem dpAll_tk {H H' : Hp} (s : Same H H') : ∀ {vs : List V} {ds : List PyData}, DpAll K H vs ds → DpAll K H' vs ds
  | _, _, .nil => .nil
  | _, _, .cons h r => .cons (dp_tk s h) (dpAll_tk s r)
end
end
section
variable {K : PySem.W.Frag}
/-- a list that is filled with rows -/
def RL (K : PySem.W.Frag) (H : Hp) (l : Addr) (R : List Row) : Prop := ∃ us, H l = some (.lst us) ∧ us.length = R.length ∧ ∀ j u, us[j]? = some u → RowV K H u (rowAt R j)
theorem RL.fb {b g l : Addr} {H H' : Hp} {R : List Row} (h : RL K H l R) (B : BagAt H b g) (f : Fb b g H H') (h1 : l ≠ b) (h2 : l ≠ g) : RL K H' l R := by
  obtain ⟨us, e, n, r⟩ := h
  exact ⟨us, f _ _ h1 h2 e, n, fun j u hj => (r j u hj).tk (f.tk B)⟩
theorem rowAt_old {R : List Row} {r : Row} {j : Nat} (h : j < R.length) : rowAt (R ++ [r]) j = rowAt R j := by
  unfold rowAt
  rw [List.getD_eq_getElem?_getD, List.getD_eq_getElem?_getD, List.getElem?_append_left h]
theorem rowAt_new {R : List Row} {r : Row} : rowAt (R ++ [r]) R.length = r := by
  unfold rowAt
  rw [List.getD_eq_getElem?_getD, List.getElem?_append_right (Nat.le_refl _), Nat.sub_self]
  rfl
theorem RL.push {H : Hp} {l c : Addr} {us : List V} {R : List Row} {r : Row} (e : H l = some (.lst us)) (n : us.length = R.length) (h : ∀ j u, us[j]? = some u → RowV K H u (rowAt R j)) (hr : RowV K H (.ref c) r) : RL K (upd H l (.lst (us ++ [.ref c]))) l (R ++ [r]) := by
  have t : Tk H (upd H l (.lst (us ++ [.ref c]))) := tk_mut e
  refine ⟨us ++ [.ref c], upd_same, by rw [List.length_append, List.length_append, n]; rfl, fun j u hj => ?_⟩
  by_cases hji : j < us.length
  · rw [List.getElem?_append_left hji] at hj
    rw [rowAt_old (by omega)]
    exact (h j u hj).tk t
  · have ej : j = R.length := by
      have := (List.getElem?_eq_some_iff.mp hj).1
      rw [List.length_append, List.length_singleton] at this
      omega
    subst ej
    rw [List.getElem?_append_right (by omega), n, Nat.sub_self] at hj
    cases hj
    rw [rowAt_new]
    exact hr.tk t
theorem Good.push {R : List Row} {r : Row} (g : Good R) (h1 : r.1 ≤ 7) (h2 : r.2.length ≤ 2) (h3 : ∀ p ∈ r.2, p < R.length) : Good (R ++ [r]) := by
  intro n hn
  rw [List.length_append, List.length_singleton] at hn
  unfold parts
  by_cases h : n < R.length
  · rw [rowAt_old h]
    exact g n h
  · have e : n = R.length := by omega
    subst e
    rw [rowAt_new]
    exact ⟨h1, h2, h3⟩
theorem good_nil : Good [] := fun n h => absurd h (Nat.not_lt_zero n)
theorem BagAt.ne {b g l : Addr} {H : Hp} (B : BagAt H b g) (h : H l = none) : l ≠ b ∧ l ≠ g := by
  obtain ⟨_, _, _, _, e1, e2, _⟩ := B
  exact ⟨(ne_of_none e1 h).symm, (ne_of_none e2 h).symm⟩
/-- numbers drawn into a new list -/
def NL (H : Hp) (D : Addr) (k n : Nat) : Prop := ∃ qs : List Nat, H D = some (.lst (qs.map nv)) ∧ qs.length = n ∧ ∀ q ∈ qs, q < k
end
section
variable {K : PySem.W.Frag}
theorem okd_nums {ps : List Nat} (h : ps.length ≤ 100000) : okd 2 (.tuple (ps.map dN)) := by
  refine ⟨by rw [List.length_map]; exact h, fun e he => ?_⟩
  obtain ⟨x, _, rfl⟩ := List.mem_map.mp he
  exact trivial
theorem okd_up : ∀ {n : Nat} {d : PyData}, okd n d → okd (n + 1) d
  | 0, _, h => h.elim
  | n + 1, d, h => by
    cases d with
    | none | bool _ | int _ | str _ => trivial
    | dict _ => exact h.elim
    | list ds => exact ⟨h.1, fun e he => okd_up (h.2 e he)⟩
    | tuple ds => exact ⟨h.1, fun e he => okd_up (h.2 e he)⟩
theorem okd_rows {R : List Row} (g : Good R) (h : R.length ≤ 100000) : okd 4 (dRows R) := by
  refine ⟨by rw [List.length_map]; exact h, fun e he => ?_⟩
  obtain ⟨r, hr, rfl⟩ := List.mem_map.mp he
  refine ⟨by show 2 ≤ 100000; decide, fun e he => ?_⟩
  have hl : r.2.length ≤ 100000 := by
    obtain ⟨i, hi⟩ := List.mem_iff_getElem?.mp hr
    have hlt := (List.getElem?_eq_some_iff.mp hi).1
    have := (g i hlt).2.1
    unfold parts at this
    rw [rowAt_of hlt] at hi
    cases hi
    omega
  rcases List.mem_cons.mp he with rfl | he
  · exact trivial
  · rw [List.mem_singleton.mp he]
    exact okd_nums hl
end
end Lk
namespace Lk
open PySem L2
def top (i : Nat) : Stmt := PySem.Challenge.pw_lookdown_k17_whole_needed_plans_and_cost.main.body.getD i (.Pass ⟨0, 0, 0, 0⟩)
abbrev s_is_integer : Stmt := top 9
abbrev s_is_between : Stmt := top 10
abbrev s_is_tuple_of : Stmt := top 11
abbrev s_Book_init : Stmt := inClass (top 13) 0
abbrev s_check_frame : Stmt := top 14
abbrev s_check_rules : Stmt := top 15
abbrev s_check_moves : Stmt := top 16
abbrev s_is_rule : Stmt := top 17
abbrev s_is_move : Stmt := top 18
abbrev s_is_price : Stmt := top 19
abbrev s_Web_init : Stmt := inClass (top 21) 0
abbrev s_is_value : Stmt := top 22
abbrev s_fits : Stmt := top 23
abbrev s_is_row_of : Stmt := top 24
abbrev s_check_web : Stmt := top 25
abbrev s_makeable : Stmt := top 27
abbrev s_kinds_made : Stmt := top 28
abbrev s_is_thing : Stmt := top 29
abbrev s_is_way : Stmt := top 30
abbrev s_is_way_to : Stmt := top 31
abbrev s_ways_to : Stmt := top 32
abbrev s_needs_for : Stmt := top 33
abbrev s_needs_by_parts : Stmt := top 34
abbrev s_all_in : Stmt := top 35
abbrev s_way_price : Stmt := top 36
abbrev s_is_plan : Stmt := top 38
abbrev s_price : Stmt := top 39
abbrev s_is_wishes : Stmt := top 40
abbrev s_is_lot_of : Stmt := top 41
abbrev s_check_wishes : Stmt := top 42
abbrev s_check_plan : Stmt := top 43
abbrev s_is_plan_for : Stmt := top 44
abbrev s_is_making : Stmt := top 45
abbrev s_is_choice : Stmt := top 47
abbrev s_check_choice : Stmt := top 48
abbrev s_is_usable : Stmt := top 49
abbrev s_first_that_returns : Stmt := top 50
abbrev s_returns : Stmt := top 51
abbrev s_needed : Stmt := top 52
abbrev s_plan_by : Stmt := top 53
abbrev s_cost : Stmt := top 54
abbrev s_links_of : Stmt := top 55
abbrev s_needed_by : Stmt := top 56
abbrev s_plan_of : Stmt := top 57
abbrev s_first_ready : Stmt := top 58
abbrev s_law_bag : Stmt := top 60
abbrev s_law_pick : Stmt := top 61
abbrev s_law_some : Stmt := top 62
abbrev s_law_book : Stmt := top 63
abbrev s_law_values : Stmt := top 64
abbrev s_law_price : Stmt := top 65
abbrev s_law_needs : Stmt := top 66
abbrev s_law_usable : Stmt := top 67
abbrev s_law_needed : Stmt := top 68
abbrev s_law_cost : Stmt := top 69
abbrev s_law_drawn_choice : Stmt := top 70
abbrev s_law_plan : Stmt := top 71
abbrev s_law : Stmt := top 72
theorem sc_is_integer : FnScope ["thing"] ["thing"] (defScope s_is_integer) := ⟨rfl, rfl, rfl, by decide +kernel, rfl, by decide +kernel, by decide +kernel⟩
theorem sc_is_between : FnScope ["low", "high", "thing"] ["low", "high", "thing"] (defScope s_is_between) := ⟨rfl, rfl, rfl, by decide +kernel, rfl, by decide +kernel, by decide +kernel⟩
theorem sc_is_tuple_of : FnScope ["low", "high", "thing"] ["low", "high", "thing"] (defScope s_is_tuple_of) := ⟨rfl, rfl, rfl, by decide +kernel, rfl, by decide +kernel, by decide +kernel⟩
theorem sc_Book_init : FnScope ["self", "arities", "kinds", "rules", "moves"] ["self", "arities", "kinds", "rules", "moves"] (defScope s_Book_init) := ⟨rfl, rfl, rfl, by decide +kernel, rfl, by decide +kernel, by decide +kernel⟩
theorem sc_check_frame : FnScope ["arities", "kinds", "rules", "moves", "arity"] ["arities", "kinds", "rules", "moves"] (defScope s_check_frame) := ⟨rfl, rfl, rfl, by decide +kernel, rfl, by decide +kernel, by decide +kernel⟩
theorem sc_check_rules : FnScope ["arities", "kinds", "rules", "seen", "k", "rule"] ["arities", "kinds", "rules"] (defScope s_check_rules) := ⟨rfl, rfl, rfl, by decide +kernel, rfl, by decide +kernel, by decide +kernel⟩
theorem sc_check_moves : FnScope ["kinds", "moves", "seen", "k", "move"] ["kinds", "moves"] (defScope s_check_moves) := ⟨rfl, rfl, rfl, by decide +kernel, rfl, by decide +kernel, by decide +kernel⟩
theorem sc_is_rule : FnScope ["arities", "kinds", "thing", "op", "sources", "kind", "cost", "source"] ["arities", "kinds", "thing"] (defScope s_is_rule) := ⟨rfl, rfl, rfl, by decide +kernel, rfl, by decide +kernel, by decide +kernel⟩
theorem sc_is_move : FnScope ["kinds", "thing", "source", "kind", "cost"] ["kinds", "thing"] (defScope s_is_move) := ⟨rfl, rfl, rfl, by decide +kernel, rfl, by decide +kernel, by decide +kernel⟩
theorem sc_is_price : FnScope ["thing"] ["thing"] (defScope s_is_price) := ⟨rfl, rfl, rfl, by decide +kernel, rfl, by decide +kernel, by decide +kernel⟩
theorem sc_Web_init : FnScope ["self", "values", "index", "value"] ["self", "values"] (defScope s_Web_init) := ⟨rfl, rfl, rfl, by decide +kernel, rfl, by decide +kernel, by decide +kernel⟩
theorem sc_is_value : FnScope ["index", "thing", "op", "parts", "part"] ["index", "thing"] (defScope s_is_value) := ⟨rfl, rfl, rfl, by decide +kernel, rfl, by decide +kernel, by decide +kernel⟩
theorem sc_fits : FnScope ["book", "web", "op", "parts"] ["book", "web"] (defScope s_fits) := ⟨rfl, rfl, rfl, by decide +kernel, rfl, by decide +kernel, by decide +kernel⟩
theorem sc_is_row_of : FnScope ["book", "op", "parts"] ["book", "op", "parts"] (defScope s_is_row_of) := ⟨rfl, rfl, rfl, by decide +kernel, rfl, by decide +kernel, by decide +kernel⟩
theorem sc_check_web : FnScope ["book", "web"] ["book", "web"] (defScope s_check_web) := ⟨rfl, rfl, rfl, by decide +kernel, rfl, by decide +kernel, by decide +kernel⟩
theorem sc_makeable : FnScope ["book", "web", "made", "value", "kind"] ["book", "web"] (defScope s_makeable) := ⟨rfl, rfl, rfl, by decide +kernel, rfl, by decide +kernel, by decide +kernel⟩
theorem sc_kinds_made : FnScope ["book", "web", "value", "made", "op", "parts", "reached", "rule_op", "sources", "kind", "_", "grown", "source", "need"] ["book", "web", "value", "made"] (defScope s_kinds_made) := ⟨rfl, rfl, rfl, by decide +kernel, rfl, by decide +kernel, by decide +kernel⟩
theorem sc_is_thing : FnScope ["book", "web", "thing"] ["book", "web", "thing"] (defScope s_is_thing) := ⟨rfl, rfl, rfl, by decide +kernel, rfl, by decide +kernel, by decide +kernel⟩
theorem sc_is_way : FnScope ["book", "thing"] ["book", "thing"] (defScope s_is_way) := ⟨rfl, rfl, rfl, by decide +kernel, rfl, by decide +kernel, by decide +kernel⟩
theorem sc_is_way_to : FnScope ["book", "web", "target", "thing"] ["book", "web", "target", "thing"] (defScope s_is_way_to) := ⟨rfl, rfl, rfl, by decide +kernel, rfl, by decide +kernel, by decide +kernel⟩
theorem sc_ways_to : FnScope ["book", "web", "thing", "value", "wanted", "op", "by_move", "by_rule", "k", "move", "rule"] ["book", "web", "thing"] (defScope s_ways_to) := ⟨rfl, rfl, rfl, by decide +kernel, rfl, by decide +kernel, by decide +kernel⟩
theorem sc_needs_for : FnScope ["book", "web", "thing", "way", "needed_once", "need"] ["book", "web", "thing", "way"] (defScope s_needs_for) := ⟨rfl, rfl, rfl, by decide +kernel, rfl, by decide +kernel, by decide +kernel⟩
theorem sc_needs_by_parts : FnScope ["book", "web", "thing", "way", "value", "word", "k"] ["book", "web", "thing", "way"] (defScope s_needs_by_parts) := ⟨rfl, rfl, rfl, by decide +kernel, rfl, by decide +kernel, by decide +kernel⟩
theorem sc_all_in : FnScope ["made", "things", "thing"] ["made", "things"] (defScope s_all_in) := ⟨rfl, rfl, rfl, by decide +kernel, rfl, by decide +kernel, by decide +kernel⟩
theorem sc_way_price : FnScope ["book", "way", "word", "k"] ["book", "way"] (defScope s_way_price) := ⟨rfl, rfl, rfl, by decide +kernel, rfl, by decide +kernel, by decide +kernel⟩
theorem sc_is_plan : FnScope ["book", "web", "wishes", "thing"] ["book", "web", "wishes", "thing"] (defScope s_is_plan) := ⟨rfl, rfl, rfl, by decide +kernel, rfl, by decide +kernel, by decide +kernel⟩
theorem sc_price : FnScope ["book", "web", "plan", "_", "way"] ["book", "web", "plan"] (defScope s_price) := ⟨rfl, rfl, rfl, by decide +kernel, rfl, by decide +kernel, by decide +kernel⟩
theorem sc_is_wishes : FnScope ["book", "web", "thing", "made", "each"] ["book", "web", "thing"] (defScope s_is_wishes) := ⟨rfl, rfl, rfl, by decide +kernel, rfl, by decide +kernel, by decide +kernel⟩
theorem sc_is_lot_of : FnScope ["book", "web", "made", "thing", "each", "at"] ["book", "web", "made", "thing"] (defScope s_is_lot_of) := ⟨rfl, rfl, rfl, by decide +kernel, rfl, by decide +kernel, by decide +kernel⟩
theorem sc_check_wishes : FnScope ["book", "web", "wishes"] ["book", "web", "wishes"] (defScope s_check_wishes) := ⟨rfl, rfl, rfl, by decide +kernel, rfl, by decide +kernel, by decide +kernel⟩
theorem sc_check_plan : FnScope ["book", "web", "wishes", "plan"] ["book", "web", "wishes", "plan"] (defScope s_check_plan) := ⟨rfl, rfl, rfl, by decide +kernel, rfl, by decide +kernel, by decide +kernel⟩
theorem sc_is_plan_for : FnScope ["book", "web", "wishes", "thing", "made", "making", "target"] ["book", "web", "wishes", "thing"] (defScope s_is_plan_for) := ⟨rfl, rfl, rfl, by decide +kernel, rfl, by decide +kernel, by decide +kernel⟩
theorem sc_is_making : FnScope ["book", "web", "thing"] ["book", "web", "thing"] (defScope s_is_making) := ⟨rfl, rfl, rfl, by decide +kernel, rfl, by decide +kernel, by decide +kernel⟩
theorem sc_is_choice : FnScope ["book", "web", "thing", "made", "usable", "each"] ["book", "web", "thing"] (defScope s_is_choice) := ⟨rfl, rfl, rfl, by decide +kernel, rfl, by decide +kernel, by decide +kernel⟩
theorem sc_check_choice : FnScope ["book", "web", "choice"] ["book", "web", "choice"] (defScope s_check_choice) := ⟨rfl, rfl, rfl, by decide +kernel, rfl, by decide +kernel, by decide +kernel⟩
theorem sc_is_usable : FnScope ["book", "web", "made", "target", "thing"] ["book", "web", "made", "target", "thing"] (defScope s_is_usable) := ⟨rfl, rfl, rfl, by decide +kernel, rfl, by decide +kernel, by decide +kernel⟩
theorem sc_first_that_returns : FnScope ["book", "choice", "thing"] ["book", "choice"] (defScope s_first_that_returns) := ⟨rfl, rfl, rfl, by decide +kernel, rfl, by decide +kernel, by decide +kernel⟩
theorem sc_returns : FnScope ["book", "choice", "thing", "value", "kind", "reached", "_", "word", "k"] ["book", "choice", "thing"] (defScope s_returns) := ⟨rfl, rfl, rfl, by decide +kernel, rfl, by decide +kernel, by decide +kernel⟩
theorem sc_needed : FnScope ["book", "web", "choice", "things"] ["book", "web", "choice", "things"] (defScope s_needed) := ⟨rfl, rfl, rfl, by decide +kernel, rfl, by decide +kernel, by decide +kernel⟩
theorem sc_plan_by : FnScope ["book", "web", "choice", "wishes"] ["book", "web", "choice", "wishes"] (defScope s_plan_by) := ⟨rfl, rfl, rfl, by decide +kernel, rfl, by decide +kernel, by decide +kernel⟩
theorem sc_cost : FnScope ["book", "web", "choice", "wishes", "_", "way"] ["book", "web", "choice", "wishes"] (defScope s_cost) := ⟨rfl, rfl, rfl, by decide +kernel, rfl, by decide +kernel, by decide +kernel⟩
theorem sc_links_of : FnScope ["book", "web", "choice", "thing"] ["book", "web", "choice"] (defScope s_links_of) := ⟨rfl, rfl, rfl, by decide +kernel, rfl, by decide +kernel, by decide +kernel⟩
theorem sc_needed_by : FnScope ["links", "things", "found", "left", "thing", "need"] ["links", "things"] (defScope s_needed_by) := ⟨rfl, rfl, rfl, by decide +kernel, rfl, by decide +kernel, by decide +kernel⟩
theorem sc_plan_of : FnScope ["book", "web", "choice", "things", "links", "left", "made", "thing", "value", "kind"] ["book", "web", "choice", "things"] (defScope s_plan_of) := ⟨rfl, rfl, rfl, by decide +kernel, rfl, by decide +kernel, by decide +kernel⟩
theorem sc_first_ready : FnScope ["links", "made", "things", "thing"] ["links", "made", "things"] (defScope s_first_ready) := ⟨rfl, rfl, rfl, by decide +kernel, rfl, by decide +kernel, by decide +kernel⟩
theorem sc_law_bag : FnScope ["_law_script", "_law_seed", "_law_cell", "_law_great", "_law_always"] ["_law_script"] (defScope s_law_bag) := ⟨rfl, rfl, rfl, by decide +kernel, rfl, by decide +kernel, by decide +kernel⟩
theorem sc_law_pick : FnScope ["_law_bag_here", "_law_many", "_law_great", "_law_digit", "_law_number"] ["_law_bag_here", "_law_many"] (defScope s_law_pick) := ⟨rfl, rfl, rfl, by decide +kernel, rfl, by decide +kernel, by decide +kernel⟩
theorem sc_law_some : FnScope ["_law_bag_here", "_law_things"] ["_law_bag_here", "_law_things"] (defScope s_law_some) := ⟨rfl, rfl, rfl, by decide +kernel, rfl, by decide +kernel, by decide +kernel⟩
theorem sc_law_book : FnScope ["_law_bag_here", "_law_ops", "_law_kinds", "_law_most", "_law_arities", "_law_rules", "_law_op", "_law_turn", "_law_sources", "_law_moves", "_law_one", "_law_other", "_law_rows", "_law_part", "_law_key"] ["_law_bag_here", "_law_ops", "_law_kinds", "_law_most"] (defScope s_law_book) := ⟨rfl, rfl, rfl, by decide +kernel, rfl, by decide +kernel, by decide +kernel⟩
theorem sc_law_values : FnScope ["_law_bag_here", "_law_arities", "_law_many", "_law_found", "_law_number", "_law_op", "_law_part"] ["_law_bag_here", "_law_arities", "_law_many"] (defScope s_law_values) := ⟨rfl, rfl, rfl, by decide +kernel, rfl, by decide +kernel, by decide +kernel⟩
theorem sc_law_price : FnScope ["_law_parts", "_law_way"] ["_law_parts", "_law_way"] (defScope s_law_price) := ⟨rfl, rfl, rfl, by decide +kernel, rfl, by decide +kernel, by decide +kernel⟩
theorem sc_law_needs : FnScope ["_law_parts", "_law_values_here", "_law_thing", "_law_way"] ["_law_parts", "_law_values_here", "_law_thing", "_law_way"] (defScope s_law_needs) := ⟨rfl, rfl, rfl, by decide +kernel, rfl, by decide +kernel, by decide +kernel⟩
theorem sc_law_usable : FnScope ["_law_parts", "_law_values_here", "_law_giving", "_law_value", "_law_kind", "_law_some_here", "_law_at", "_law_rule", "_law_made", "_law_grown", "_law_thing", "_law_way", "_law_found", "_law_need"] ["_law_parts", "_law_values_here"] (defScope s_law_usable) := ⟨rfl, rfl, rfl, by decide +kernel, rfl, by decide +kernel, by decide +kernel⟩
theorem sc_law_needed : FnScope ["_law_parts", "_law_values_here", "_law_choice", "_law_things", "_law_found", "_law_waiting", "_law_thing"] ["_law_parts", "_law_values_here", "_law_choice", "_law_things"] (defScope s_law_needed) := ⟨rfl, rfl, rfl, by decide +kernel, rfl, by decide +kernel, by decide +kernel⟩
theorem sc_law_cost : FnScope ["_law_parts", "_law_choice", "_law_things", "_law_thing"] ["_law_parts", "_law_choice", "_law_things"] (defScope s_law_cost) := ⟨rfl, rfl, rfl, by decide +kernel, rfl, by decide +kernel, by decide +kernel⟩
theorem sc_law_drawn_choice : FnScope ["_law_bag_here", "_law_parts", "_law_values_here", "_law_usable_here", "_law_found", "_law_turn", "_law_ready", "_law_thing", "_law_some_here", "_law_way", "_law_need"] ["_law_bag_here", "_law_parts", "_law_values_here", "_law_usable_here"] (defScope s_law_drawn_choice) := ⟨rfl, rfl, rfl, by decide +kernel, rfl, by decide +kernel, by decide +kernel⟩
theorem sc_law_plan : FnScope ["_law_parts", "_law_values_here", "_law_choice", "_law_things", "_law_found", "_law_left", "_law_made", "_law_ready", "_law_thing", "_law_need"] ["_law_parts", "_law_values_here", "_law_choice", "_law_things"] (defScope s_law_plan) := ⟨rfl, rfl, rfl, by decide +kernel, rfl, by decide +kernel, by decide +kernel⟩
theorem sc_law : FnScope ["_law_script", "_law_bag_here", "_law_turn", "_law_parts", "_law_values_here", "_law_usable_here", "_law_book_here", "_law_web", "_law_choice", "_law_lots", "_law_again", "_law_costs", "_law_lot", "_law_due", "_law_told", "_law_plan_here", "_law_paid", "_law_one", "_law_other", "_law_both", "_law_shared", "_law_thing"] ["_law_script"] (defScope s_law) := ⟨rfl, rfl, rfl, by decide +kernel, rfl, by decide +kernel, by decide +kernel⟩
structure Adr where
  f_is_integer : Addr
  d_is_integer : FuncData
  f_is_between : Addr
  d_is_between : FuncData
  f_is_tuple_of : Addr
  d_is_tuple_of : FuncData
  f_Book_init : Addr
  d_Book_init : FuncData
  f_check_frame : Addr
  d_check_frame : FuncData
  f_check_rules : Addr
  d_check_rules : FuncData
  f_check_moves : Addr
  d_check_moves : FuncData
  f_is_rule : Addr
  d_is_rule : FuncData
  f_is_move : Addr
  d_is_move : FuncData
  f_is_price : Addr
  d_is_price : FuncData
  f_Web_init : Addr
  d_Web_init : FuncData
  f_is_value : Addr
  d_is_value : FuncData
  f_fits : Addr
  d_fits : FuncData
  f_is_row_of : Addr
  d_is_row_of : FuncData
  f_check_web : Addr
  d_check_web : FuncData
  f_makeable : Addr
  d_makeable : FuncData
  f_kinds_made : Addr
  d_kinds_made : FuncData
  f_is_thing : Addr
  d_is_thing : FuncData
  f_is_way : Addr
  d_is_way : FuncData
  f_is_way_to : Addr
  d_is_way_to : FuncData
  f_ways_to : Addr
  d_ways_to : FuncData
  f_needs_for : Addr
  d_needs_for : FuncData
  f_needs_by_parts : Addr
  d_needs_by_parts : FuncData
  f_all_in : Addr
  d_all_in : FuncData
  f_way_price : Addr
  d_way_price : FuncData
  f_is_plan : Addr
  d_is_plan : FuncData
  f_price : Addr
  d_price : FuncData
  f_is_wishes : Addr
  d_is_wishes : FuncData
  f_is_lot_of : Addr
  d_is_lot_of : FuncData
  f_check_wishes : Addr
  d_check_wishes : FuncData
  f_check_plan : Addr
  d_check_plan : FuncData
  f_is_plan_for : Addr
  d_is_plan_for : FuncData
  f_is_making : Addr
  d_is_making : FuncData
  f_is_choice : Addr
  d_is_choice : FuncData
  f_check_choice : Addr
  d_check_choice : FuncData
  f_is_usable : Addr
  d_is_usable : FuncData
  f_first_that_returns : Addr
  d_first_that_returns : FuncData
  f_returns : Addr
  d_returns : FuncData
  f_needed : Addr
  d_needed : FuncData
  f_plan_by : Addr
  d_plan_by : FuncData
  f_cost : Addr
  d_cost : FuncData
  f_links_of : Addr
  d_links_of : FuncData
  f_needed_by : Addr
  d_needed_by : FuncData
  f_plan_of : Addr
  d_plan_of : FuncData
  f_first_ready : Addr
  d_first_ready : FuncData
  f_law_bag : Addr
  d_law_bag : FuncData
  f_law_pick : Addr
  d_law_pick : FuncData
  f_law_some : Addr
  d_law_some : FuncData
  f_law_book : Addr
  d_law_book : FuncData
  f_law_values : Addr
  d_law_values : FuncData
  f_law_price : Addr
  d_law_price : FuncData
  f_law_needs : Addr
  d_law_needs : FuncData
  f_law_usable : Addr
  d_law_usable : FuncData
  f_law_needed : Addr
  d_law_needed : FuncData
  f_law_cost : Addr
  d_law_cost : FuncData
  f_law_drawn_choice : Addr
  d_law_drawn_choice : FuncData
  f_law_plan : Addr
  d_law_plan : FuncData
  f_law : Addr
  d_law : FuncData
  c_NoWishes : Addr
  c_NoPlan : Addr
  c_Book : Addr
  c_Web : Addr
structure Txt (K : PySem.W.Frag) (mg : Str → Option Value) (a : Adr) : Prop where
  F_is_integer : Fun K "is_integer" "is_integer" s_is_integer a.f_is_integer a.d_is_integer
  b_is_integer : Binds K a.d_is_integer ["thing"] []
  k_is_integer : PySem.W.keepIn K (.ref a.f_is_integer) = true
  g_is_integer : mg "is_integer" = some (.ref a.f_is_integer)
  F_is_between : Fun K "is_between" "is_between" s_is_between a.f_is_between a.d_is_between
  b_is_between : Binds K a.d_is_between ["low", "high", "thing"] []
  k_is_between : PySem.W.keepIn K (.ref a.f_is_between) = true
  g_is_between : mg "is_between" = some (.ref a.f_is_between)
  F_is_tuple_of : Fun K "is_tuple_of" "is_tuple_of" s_is_tuple_of a.f_is_tuple_of a.d_is_tuple_of
  b_is_tuple_of : Binds K a.d_is_tuple_of ["low", "high", "thing"] []
  k_is_tuple_of : PySem.W.keepIn K (.ref a.f_is_tuple_of) = true
  g_is_tuple_of : mg "is_tuple_of" = some (.ref a.f_is_tuple_of)
  F_Book_init : Fun K "__init__" "Book.__init__" s_Book_init a.f_Book_init a.d_Book_init
  b_Book_init : Binds K a.d_Book_init ["self", "arities", "kinds", "rules", "moves"] []
  k_Book_init : PySem.W.keepIn K (.ref a.f_Book_init) = true
  F_check_frame : Fun K "_check_frame" "_check_frame" s_check_frame a.f_check_frame a.d_check_frame
  b_check_frame : Binds K a.d_check_frame ["arities", "kinds", "rules", "moves"] []
  k_check_frame : PySem.W.keepIn K (.ref a.f_check_frame) = true
  g_check_frame : mg "_check_frame" = some (.ref a.f_check_frame)
  F_check_rules : Fun K "_check_rules" "_check_rules" s_check_rules a.f_check_rules a.d_check_rules
  b_check_rules : Binds K a.d_check_rules ["arities", "kinds", "rules"] []
  k_check_rules : PySem.W.keepIn K (.ref a.f_check_rules) = true
  g_check_rules : mg "_check_rules" = some (.ref a.f_check_rules)
  F_check_moves : Fun K "_check_moves" "_check_moves" s_check_moves a.f_check_moves a.d_check_moves
  b_check_moves : Binds K a.d_check_moves ["kinds", "moves"] []
  k_check_moves : PySem.W.keepIn K (.ref a.f_check_moves) = true
  g_check_moves : mg "_check_moves" = some (.ref a.f_check_moves)
  F_is_rule : Fun K "_is_rule" "_is_rule" s_is_rule a.f_is_rule a.d_is_rule
  b_is_rule : Binds K a.d_is_rule ["arities", "kinds", "thing"] []
  k_is_rule : PySem.W.keepIn K (.ref a.f_is_rule) = true
  g_is_rule : mg "_is_rule" = some (.ref a.f_is_rule)
  F_is_move : Fun K "_is_move" "_is_move" s_is_move a.f_is_move a.d_is_move
  b_is_move : Binds K a.d_is_move ["kinds", "thing"] []
  k_is_move : PySem.W.keepIn K (.ref a.f_is_move) = true
  g_is_move : mg "_is_move" = some (.ref a.f_is_move)
  F_is_price : Fun K "is_price" "is_price" s_is_price a.f_is_price a.d_is_price
  b_is_price : Binds K a.d_is_price ["thing"] []
  k_is_price : PySem.W.keepIn K (.ref a.f_is_price) = true
  g_is_price : mg "is_price" = some (.ref a.f_is_price)
  F_Web_init : Fun K "__init__" "Web.__init__" s_Web_init a.f_Web_init a.d_Web_init
  b_Web_init : Binds K a.d_Web_init ["self", "values"] []
  k_Web_init : PySem.W.keepIn K (.ref a.f_Web_init) = true
  F_is_value : Fun K "_is_value" "_is_value" s_is_value a.f_is_value a.d_is_value
  b_is_value : Binds K a.d_is_value ["index", "thing"] []
  k_is_value : PySem.W.keepIn K (.ref a.f_is_value) = true
  g_is_value : mg "_is_value" = some (.ref a.f_is_value)
  F_fits : Fun K "fits" "fits" s_fits a.f_fits a.d_fits
  b_fits : Binds K a.d_fits ["book", "web"] []
  k_fits : PySem.W.keepIn K (.ref a.f_fits) = true
  g_fits : mg "fits" = some (.ref a.f_fits)
  F_is_row_of : Fun K "_is_row_of" "_is_row_of" s_is_row_of a.f_is_row_of a.d_is_row_of
  b_is_row_of : Binds K a.d_is_row_of ["book", "op", "parts"] []
  k_is_row_of : PySem.W.keepIn K (.ref a.f_is_row_of) = true
  g_is_row_of : mg "_is_row_of" = some (.ref a.f_is_row_of)
  F_check_web : Fun K "check_web" "check_web" s_check_web a.f_check_web a.d_check_web
  b_check_web : Binds K a.d_check_web ["book", "web"] []
  k_check_web : PySem.W.keepIn K (.ref a.f_check_web) = true
  g_check_web : mg "check_web" = some (.ref a.f_check_web)
  F_makeable : Fun K "makeable" "makeable" s_makeable a.f_makeable a.d_makeable
  b_makeable : Binds K a.d_makeable ["book", "web"] []
  k_makeable : PySem.W.keepIn K (.ref a.f_makeable) = true
  g_makeable : mg "makeable" = some (.ref a.f_makeable)
  F_kinds_made : Fun K "_kinds_made" "_kinds_made" s_kinds_made a.f_kinds_made a.d_kinds_made
  b_kinds_made : Binds K a.d_kinds_made ["book", "web", "value", "made"] []
  k_kinds_made : PySem.W.keepIn K (.ref a.f_kinds_made) = true
  g_kinds_made : mg "_kinds_made" = some (.ref a.f_kinds_made)
  F_is_thing : Fun K "is_thing" "is_thing" s_is_thing a.f_is_thing a.d_is_thing
  b_is_thing : Binds K a.d_is_thing ["book", "web", "thing"] []
  k_is_thing : PySem.W.keepIn K (.ref a.f_is_thing) = true
  g_is_thing : mg "is_thing" = some (.ref a.f_is_thing)
  F_is_way : Fun K "is_way" "is_way" s_is_way a.f_is_way a.d_is_way
  b_is_way : Binds K a.d_is_way ["book", "thing"] []
  k_is_way : PySem.W.keepIn K (.ref a.f_is_way) = true
  g_is_way : mg "is_way" = some (.ref a.f_is_way)
  F_is_way_to : Fun K "is_way_to" "is_way_to" s_is_way_to a.f_is_way_to a.d_is_way_to
  b_is_way_to : Binds K a.d_is_way_to ["book", "web", "target", "thing"] []
  k_is_way_to : PySem.W.keepIn K (.ref a.f_is_way_to) = true
  g_is_way_to : mg "is_way_to" = some (.ref a.f_is_way_to)
  F_ways_to : Fun K "ways_to" "ways_to" s_ways_to a.f_ways_to a.d_ways_to
  b_ways_to : Binds K a.d_ways_to ["book", "web", "thing"] []
  k_ways_to : PySem.W.keepIn K (.ref a.f_ways_to) = true
  g_ways_to : mg "ways_to" = some (.ref a.f_ways_to)
  F_needs_for : Fun K "needs_for" "needs_for" s_needs_for a.f_needs_for a.d_needs_for
  b_needs_for : Binds K a.d_needs_for ["book", "web", "thing", "way"] []
  k_needs_for : PySem.W.keepIn K (.ref a.f_needs_for) = true
  g_needs_for : mg "needs_for" = some (.ref a.f_needs_for)
  F_needs_by_parts : Fun K "needs_by_parts" "needs_by_parts" s_needs_by_parts a.f_needs_by_parts a.d_needs_by_parts
  b_needs_by_parts : Binds K a.d_needs_by_parts ["book", "web", "thing", "way"] []
  k_needs_by_parts : PySem.W.keepIn K (.ref a.f_needs_by_parts) = true
  g_needs_by_parts : mg "needs_by_parts" = some (.ref a.f_needs_by_parts)
  F_all_in : Fun K "all_in" "all_in" s_all_in a.f_all_in a.d_all_in
  b_all_in : Binds K a.d_all_in ["made", "things"] []
  k_all_in : PySem.W.keepIn K (.ref a.f_all_in) = true
  g_all_in : mg "all_in" = some (.ref a.f_all_in)
  F_way_price : Fun K "way_price" "way_price" s_way_price a.f_way_price a.d_way_price
  b_way_price : Binds K a.d_way_price ["book", "way"] []
  k_way_price : PySem.W.keepIn K (.ref a.f_way_price) = true
  g_way_price : mg "way_price" = some (.ref a.f_way_price)
  F_is_plan : Fun K "is_plan" "is_plan" s_is_plan a.f_is_plan a.d_is_plan
  b_is_plan : Binds K a.d_is_plan ["book", "web", "wishes", "thing"] []
  k_is_plan : PySem.W.keepIn K (.ref a.f_is_plan) = true
  g_is_plan : mg "is_plan" = some (.ref a.f_is_plan)
  F_price : Fun K "price" "price" s_price a.f_price a.d_price
  b_price : Binds K a.d_price ["book", "web", "plan"] []
  k_price : PySem.W.keepIn K (.ref a.f_price) = true
  g_price : mg "price" = some (.ref a.f_price)
  F_is_wishes : Fun K "is_wishes" "is_wishes" s_is_wishes a.f_is_wishes a.d_is_wishes
  b_is_wishes : Binds K a.d_is_wishes ["book", "web", "thing"] []
  k_is_wishes : PySem.W.keepIn K (.ref a.f_is_wishes) = true
  g_is_wishes : mg "is_wishes" = some (.ref a.f_is_wishes)
  F_is_lot_of : Fun K "is_lot_of" "is_lot_of" s_is_lot_of a.f_is_lot_of a.d_is_lot_of
  b_is_lot_of : Binds K a.d_is_lot_of ["book", "web", "made", "thing"] []
  k_is_lot_of : PySem.W.keepIn K (.ref a.f_is_lot_of) = true
  g_is_lot_of : mg "is_lot_of" = some (.ref a.f_is_lot_of)
  F_check_wishes : Fun K "check_wishes" "check_wishes" s_check_wishes a.f_check_wishes a.d_check_wishes
  b_check_wishes : Binds K a.d_check_wishes ["book", "web", "wishes"] []
  k_check_wishes : PySem.W.keepIn K (.ref a.f_check_wishes) = true
  g_check_wishes : mg "check_wishes" = some (.ref a.f_check_wishes)
  F_check_plan : Fun K "check_plan" "check_plan" s_check_plan a.f_check_plan a.d_check_plan
  b_check_plan : Binds K a.d_check_plan ["book", "web", "wishes", "plan"] []
  k_check_plan : PySem.W.keepIn K (.ref a.f_check_plan) = true
  g_check_plan : mg "check_plan" = some (.ref a.f_check_plan)
  F_is_plan_for : Fun K "_is_plan_for" "_is_plan_for" s_is_plan_for a.f_is_plan_for a.d_is_plan_for
  b_is_plan_for : Binds K a.d_is_plan_for ["book", "web", "wishes", "thing"] []
  k_is_plan_for : PySem.W.keepIn K (.ref a.f_is_plan_for) = true
  g_is_plan_for : mg "_is_plan_for" = some (.ref a.f_is_plan_for)
  F_is_making : Fun K "is_making" "is_making" s_is_making a.f_is_making a.d_is_making
  b_is_making : Binds K a.d_is_making ["book", "web", "thing"] []
  k_is_making : PySem.W.keepIn K (.ref a.f_is_making) = true
  g_is_making : mg "is_making" = some (.ref a.f_is_making)
  F_is_choice : Fun K "is_choice" "is_choice" s_is_choice a.f_is_choice a.d_is_choice
  b_is_choice : Binds K a.d_is_choice ["book", "web", "thing"] []
  k_is_choice : PySem.W.keepIn K (.ref a.f_is_choice) = true
  g_is_choice : mg "is_choice" = some (.ref a.f_is_choice)
  F_check_choice : Fun K "check_choice" "check_choice" s_check_choice a.f_check_choice a.d_check_choice
  b_check_choice : Binds K a.d_check_choice ["book", "web", "choice"] []
  k_check_choice : PySem.W.keepIn K (.ref a.f_check_choice) = true
  g_check_choice : mg "check_choice" = some (.ref a.f_check_choice)
  F_is_usable : Fun K "_is_usable" "_is_usable" s_is_usable a.f_is_usable a.d_is_usable
  b_is_usable : Binds K a.d_is_usable ["book", "web", "made", "target", "thing"] []
  k_is_usable : PySem.W.keepIn K (.ref a.f_is_usable) = true
  g_is_usable : mg "_is_usable" = some (.ref a.f_is_usable)
  F_first_that_returns : Fun K "_first_that_returns" "_first_that_returns" s_first_that_returns a.f_first_that_returns a.d_first_that_returns
  b_first_that_returns : Binds K a.d_first_that_returns ["book", "choice"] []
  k_first_that_returns : PySem.W.keepIn K (.ref a.f_first_that_returns) = true
  g_first_that_returns : mg "_first_that_returns" = some (.ref a.f_first_that_returns)
  F_returns : Fun K "_returns" "_returns" s_returns a.f_returns a.d_returns
  b_returns : Binds K a.d_returns ["book", "choice", "thing"] []
  k_returns : PySem.W.keepIn K (.ref a.f_returns) = true
  g_returns : mg "_returns" = some (.ref a.f_returns)
  F_needed : Fun K "needed" "needed" s_needed a.f_needed a.d_needed
  b_needed : Binds K a.d_needed ["book", "web", "choice", "things"] []
  k_needed : PySem.W.keepIn K (.ref a.f_needed) = true
  g_needed : mg "needed" = some (.ref a.f_needed)
  F_plan_by : Fun K "plan_by" "plan_by" s_plan_by a.f_plan_by a.d_plan_by
  b_plan_by : Binds K a.d_plan_by ["book", "web", "choice", "wishes"] []
  k_plan_by : PySem.W.keepIn K (.ref a.f_plan_by) = true
  g_plan_by : mg "plan_by" = some (.ref a.f_plan_by)
  F_cost : Fun K "cost" "cost" s_cost a.f_cost a.d_cost
  b_cost : Binds K a.d_cost ["book", "web", "choice", "wishes"] []
  k_cost : PySem.W.keepIn K (.ref a.f_cost) = true
  g_cost : mg "cost" = some (.ref a.f_cost)
  F_links_of : Fun K "links_of" "links_of" s_links_of a.f_links_of a.d_links_of
  b_links_of : Binds K a.d_links_of ["book", "web", "choice"] []
  k_links_of : PySem.W.keepIn K (.ref a.f_links_of) = true
  g_links_of : mg "links_of" = some (.ref a.f_links_of)
  F_needed_by : Fun K "needed_by" "needed_by" s_needed_by a.f_needed_by a.d_needed_by
  b_needed_by : Binds K a.d_needed_by ["links", "things"] []
  k_needed_by : PySem.W.keepIn K (.ref a.f_needed_by) = true
  g_needed_by : mg "needed_by" = some (.ref a.f_needed_by)
  F_plan_of : Fun K "plan_of" "plan_of" s_plan_of a.f_plan_of a.d_plan_of
  b_plan_of : Binds K a.d_plan_of ["book", "web", "choice", "things"] []
  k_plan_of : PySem.W.keepIn K (.ref a.f_plan_of) = true
  g_plan_of : mg "plan_of" = some (.ref a.f_plan_of)
  F_first_ready : Fun K "_first_ready" "_first_ready" s_first_ready a.f_first_ready a.d_first_ready
  b_first_ready : Binds K a.d_first_ready ["links", "made", "things"] []
  k_first_ready : PySem.W.keepIn K (.ref a.f_first_ready) = true
  g_first_ready : mg "_first_ready" = some (.ref a.f_first_ready)
  F_law_bag : Fun K "_law_bag" "_law_bag" s_law_bag a.f_law_bag a.d_law_bag
  b_law_bag : Binds K a.d_law_bag ["_law_script"] []
  k_law_bag : PySem.W.keepIn K (.ref a.f_law_bag) = true
  g_law_bag : mg "_law_bag" = some (.ref a.f_law_bag)
  F_law_pick : Fun K "_law_pick" "_law_pick" s_law_pick a.f_law_pick a.d_law_pick
  b_law_pick : Binds K a.d_law_pick ["_law_bag_here", "_law_many"] []
  k_law_pick : PySem.W.keepIn K (.ref a.f_law_pick) = true
  g_law_pick : mg "_law_pick" = some (.ref a.f_law_pick)
  F_law_some : Fun K "_law_some" "_law_some" s_law_some a.f_law_some a.d_law_some
  b_law_some : Binds K a.d_law_some ["_law_bag_here", "_law_things"] []
  k_law_some : PySem.W.keepIn K (.ref a.f_law_some) = true
  g_law_some : mg "_law_some" = some (.ref a.f_law_some)
  F_law_book : Fun K "_law_book" "_law_book" s_law_book a.f_law_book a.d_law_book
  b_law_book : Binds K a.d_law_book ["_law_bag_here", "_law_ops", "_law_kinds", "_law_most"] []
  k_law_book : PySem.W.keepIn K (.ref a.f_law_book) = true
  g_law_book : mg "_law_book" = some (.ref a.f_law_book)
  F_law_values : Fun K "_law_values" "_law_values" s_law_values a.f_law_values a.d_law_values
  b_law_values : Binds K a.d_law_values ["_law_bag_here", "_law_arities", "_law_many"] []
  k_law_values : PySem.W.keepIn K (.ref a.f_law_values) = true
  g_law_values : mg "_law_values" = some (.ref a.f_law_values)
  F_law_price : Fun K "_law_price" "_law_price" s_law_price a.f_law_price a.d_law_price
  b_law_price : Binds K a.d_law_price ["_law_parts", "_law_way"] []
  k_law_price : PySem.W.keepIn K (.ref a.f_law_price) = true
  g_law_price : mg "_law_price" = some (.ref a.f_law_price)
  F_law_needs : Fun K "_law_needs" "_law_needs" s_law_needs a.f_law_needs a.d_law_needs
  b_law_needs : Binds K a.d_law_needs ["_law_parts", "_law_values_here", "_law_thing", "_law_way"] []
  k_law_needs : PySem.W.keepIn K (.ref a.f_law_needs) = true
  g_law_needs : mg "_law_needs" = some (.ref a.f_law_needs)
  F_law_usable : Fun K "_law_usable" "_law_usable" s_law_usable a.f_law_usable a.d_law_usable
  b_law_usable : Binds K a.d_law_usable ["_law_parts", "_law_values_here"] []
  k_law_usable : PySem.W.keepIn K (.ref a.f_law_usable) = true
  g_law_usable : mg "_law_usable" = some (.ref a.f_law_usable)
  F_law_needed : Fun K "_law_needed" "_law_needed" s_law_needed a.f_law_needed a.d_law_needed
  b_law_needed : Binds K a.d_law_needed ["_law_parts", "_law_values_here", "_law_choice", "_law_things"] []
  k_law_needed : PySem.W.keepIn K (.ref a.f_law_needed) = true
  g_law_needed : mg "_law_needed" = some (.ref a.f_law_needed)
  F_law_cost : Fun K "_law_cost" "_law_cost" s_law_cost a.f_law_cost a.d_law_cost
  b_law_cost : Binds K a.d_law_cost ["_law_parts", "_law_choice", "_law_things"] []
  k_law_cost : PySem.W.keepIn K (.ref a.f_law_cost) = true
  g_law_cost : mg "_law_cost" = some (.ref a.f_law_cost)
  F_law_drawn_choice : Fun K "_law_drawn_choice" "_law_drawn_choice" s_law_drawn_choice a.f_law_drawn_choice a.d_law_drawn_choice
  b_law_drawn_choice : Binds K a.d_law_drawn_choice ["_law_bag_here", "_law_parts", "_law_values_here", "_law_usable_here"] []
  k_law_drawn_choice : PySem.W.keepIn K (.ref a.f_law_drawn_choice) = true
  g_law_drawn_choice : mg "_law_drawn_choice" = some (.ref a.f_law_drawn_choice)
  F_law_plan : Fun K "_law_plan" "_law_plan" s_law_plan a.f_law_plan a.d_law_plan
  b_law_plan : Binds K a.d_law_plan ["_law_parts", "_law_values_here", "_law_choice", "_law_things"] []
  k_law_plan : PySem.W.keepIn K (.ref a.f_law_plan) = true
  g_law_plan : mg "_law_plan" = some (.ref a.f_law_plan)
  F_law : Fun K "law" "law" s_law a.f_law a.d_law
  b_law : Binds K a.d_law ["_law_script"] []
  k_law : PySem.W.keepIn K (.ref a.f_law) = true
  g_law : mg "law" = some (.ref a.f_law)
  g_NoWishes : mg "NoWishes" = some (.ref a.c_NoWishes)
  g_NoPlan : mg "NoPlan" = some (.ref a.c_NoPlan)
  g_Book : mg "Book" = some (.ref a.c_Book)
  g_Web : mg "Web" = some (.ref a.c_Web)
  z_abs : mg "abs" = none
  z_all : mg "all" = none
  z_bool : mg "bool" = none
  z_dict : mg "dict" = none
  z_enumerate : mg "enumerate" = none
  z_int : mg "int" = none
  z_isinstance : mg "isinstance" = none
  z_len : mg "len" = none
  z_list : mg "list" = none
  z_max : mg "max" = none
  z_min : mg "min" = none
  z_range : mg "range" = none
  z_set : mg "set" = none
  z_sorted : mg "sorted" = none
  z_str : mg "str" = none
  z_sum : mg "sum" = none
  z_tuple : mg "tuple" = none
  z_zip : mg "zip" = none
  C_Book : Cls K a.c_Book
  M_Book : Mk K a.c_Book a.f_Book_init
  I_Book : C8.InsC K a.c_Book
  N_arities : NoAttr K a.c_Book "arities"
  N_kinds : NoAttr K a.c_Book "kinds"
  N_rules : NoAttr K a.c_Book "rules"
  N_moves : NoAttr K a.c_Book "moves"
  C_Web : Cls K a.c_Web
  M_Web : Mk K a.c_Web a.f_Web_init
  I_Web : C8.InsC K a.c_Web
  N_rows : NoAttr K a.c_Web "rows"
  X_NoWishes : PySem.W.excIn K a.c_NoWishes [.type "ValueError", .type "Exception", .type "BaseException", .type "object"] "ValueError.__new__" = true
  K_NoWishes : PySem.W.keepIn K (.ref a.c_NoWishes) = true
  B_NoWishes : PySem.W.subIn K (.ref a.c_NoWishes) (.type "BaseException") = some true
  T_NoWishes : PySem.W.typeIn K (.ref a.c_NoWishes) = some (.type "type")
  X_NoPlan : PySem.W.excIn K a.c_NoPlan [.type "ValueError", .type "Exception", .type "BaseException", .type "object"] "ValueError.__new__" = true
  K_NoPlan : PySem.W.keepIn K (.ref a.c_NoPlan) = true
  B_NoPlan : PySem.W.subIn K (.ref a.c_NoPlan) (.type "BaseException") = some true
  T_NoPlan : PySem.W.typeIn K (.ref a.c_NoPlan) = some (.type "type")
  E_NoPlan : PySem.W.exmOne K (.ref a.c_NoPlan) (.ref a.c_NoPlan) = some true
end Lk
namespace Lk
open PySem L2
section
variable {P : Program} {w : World} {K : PySem.W.Frag} {mg : Str → Option Value} {base : Heap} {a : Adr}
/-- what data may be -/
inductive DTy : String → Prop where
  | non : DTy "NoneType" | bl : DTy "bool" | int : DTy "int" | str : DTy "str" | lst : DTy "list" | tup : DTy "tuple" | dict : DTy "dict"
def spIsInteger (K : PySem.W.Frag) : Sp := fun vs H Q _ => ∃ (v : V) (n : String), vs = [v] ∧ DTy n ∧ TyX K H v (.type n) ∧ Q (.bl (n == "int")) H
theorem ok_is_integer (T : Txt K mg a) : FnOk P w K mg base CX0 1 a.f_is_integer a.d_is_integer ["thing"] (spIsInteger K) := by
  refine T.F_is_integer.ok sc_is_integer (fun vs H Q E h => ?_) (fun cdv A outer s H vs Q E hr h => ?_)
  · obtain ⟨v, n, rfl, _⟩ := h
    rfl
  obtain ⟨v, n, rfl, hn, ht, q⟩ := h
  refine ⟨_, (pss_one (ps_ret (pe_and (pe_callB call_isi (by rfl) T.z_isinstance (by decide +kernel) (pa_cons (pv 0) (pa_cons (pe_bltn (v := .ty "int") rfl T.z_int (show bootBuiltins "int" = some (.type "int") by decide +kernel) rfl) pa_nil))) (pe_one (pe_not (pe_callB call_isi (by rfl) T.z_isinstance (by decide +kernel) (pa_cons (pv 0) (pa_cons (pe_bltn (v := .ty "bool") rfl T.z_bool (show bootBuiltins "bool" = some (.type "bool") by decide +kernel) rfl) pa_nil)))))))), ?_⟩
  cases hn
  all_goals
    first
      | exact ⟨_, rfl, _, .ty "int", _, _, true, rfl, .ty "int", ht, kit_ty (by decide +kernel), true, rfl, _, rfl, _, .ty "bool", _, _, false, rfl, .ty "bool", ht, kit_ty (by decide +kernel), false, rfl, q⟩
      | exact ⟨_, rfl, _, .ty "int", _, _, true, rfl, .ty "int", ht, kit_ty (by decide +kernel), true, rfl, _, rfl, _, .ty "bool", _, _, true, rfl, .ty "bool", ht, kit_ty (by decide +kernel), true, rfl, q⟩
      | exact ⟨_, rfl, _, .ty "int", _, _, false, rfl, .ty "int", ht, kit_ty (by decide +kernel), false, rfl, q⟩
def spIsBetween (K : PySem.W.Frag) : Sp := fun vs H Q _ => ∃ (v : V) (n : String) (lo hi : Int), vs = [.int lo, .int hi, v] ∧ DTy n ∧ TyX K H v (.type n) ∧
  ((n ≠ "int" ∧ Q (.bl false) H) ∨ ∃ i, v = .int i ∧ n = "int" ∧ Q (.bl (decide (lo ≤ i) && decide (i ≤ hi))) H)
theorem ok_is_between (T : Txt K mg a) : FnOk P w K mg base CX0 2 a.f_is_between a.d_is_between ["low", "high", "thing"] (spIsBetween K) := by
  have G := ok_is_integer (P := P) (w := w) (base := base) T
  refine T.F_is_between.ok sc_is_between (fun vs H Q E h => ?_) (fun cdv A outer s H vs Q E hr h => ?_)
  · obtain ⟨v, n, lo, hi, rfl, _⟩ := h
    rfl
  obtain ⟨v, n, lo, hi, rfl, hn, ht, q⟩ := h
  refine ⟨_, (pss_one (ps_ret (pe_and (pe_call G (hr.mono (by decide)) rfl T.g_is_integer T.k_is_integer T.b_is_integer .nil pass0 (pa_cons (pv 2) pa_nil)) (pe_one (pe_chain op_le op_le (pv 0) (pv 2) (pv 1)))))), ?_⟩
  refine ⟨_, rfl, v, n, rfl, hn, ht, _, rfl, ?_⟩
  rcases q with ⟨ne, q⟩ | ⟨i, rfl, rfl, q⟩
  · have e : (n == "int") = false := by simpa using ne
    rw [e]
    exact q
  · show (if true = true then _ else _)
    refine iteT ?_
    refine ⟨_, rfl, _, rfl, _, _, rfl, rfl, ?_⟩
    refine ⟨_, rfl, ?_⟩
    by_cases h : lo ≤ i
    · rw [decide_eq_true h]
      rw [decide_eq_true h] at q
      exact iteT ⟨_, rfl, _, _, rfl, rfl, q⟩
    · rw [decide_eq_false h]
      rw [decide_eq_false h] at q
      exact iteF q
def spIsTupleOf (K : PySem.W.Frag) : Sp := fun vs H Q _ => ∃ (v : V) (n : String) (lo hi : Int), vs = [.int lo, .int hi, v] ∧ DTy n ∧ TyX K H v (.type n) ∧
  ((n ≠ "tuple" ∧ Q (.bl false) H) ∨ ∃ p xs, v = .ref p ∧ n = "tuple" ∧ SqT K H p xs ∧ Q (.bl (decide (lo ≤ (xs.length : Int)) && decide ((xs.length : Int) ≤ hi))) H)
theorem ok_is_tuple_of (T : Txt K mg a) : FnOk P w K mg base CX0 1 a.f_is_tuple_of a.d_is_tuple_of ["low", "high", "thing"] (spIsTupleOf K) := by
  refine T.F_is_tuple_of.ok sc_is_tuple_of (fun vs H Q E h => ?_) (fun cdv A outer s H vs Q E hr h => ?_)
  · obtain ⟨v, n, lo, hi, rfl, _⟩ := h
    rfl
  obtain ⟨v, n, lo, hi, rfl, hn, ht, q⟩ := h
  refine ⟨_, (pss_one (ps_ret (pe_and (pe_callB call_isi (by rfl) T.z_isinstance (by decide +kernel) (pa_cons (pv 2) (pa_cons (pe_bltn (v := .ty "tuple") rfl T.z_tuple (show bootBuiltins "tuple" = some (.type "tuple") by decide +kernel) rfl) pa_nil))) (pe_one (pe_chain op_le op_le (pv 0) (pe_callB call_len_seq (by rfl) T.z_len PySem.boot_len (pa_cons (pv 2) pa_nil)) (pv 1)))))), ?_⟩
  rcases q with ⟨ne, q⟩ | ⟨p, xs, rfl, rfl, hs, q⟩
  · cases hn
    all_goals first
      | exact ⟨_, rfl, _, .ty "tuple", _, _, false, rfl, .ty "tuple", ht, kit_ty (by decide +kernel), false, rfl, q⟩
      | exact absurd rfl ne
  · refine ⟨_, rfl, _, .ty "tuple", _, _, true, rfl, .ty "tuple", ht, kit_ty (by decide +kernel), true, rfl, ?_⟩
    refine ⟨_, rfl, _, rfl, p, xs, rfl, .inr hs, _, _, rfl, rfl, _, rfl, ?_⟩
    by_cases h : lo ≤ (xs.length : Int)
    · rw [decide_eq_true h]
      rw [decide_eq_true h] at q
      exact iteT ⟨_, rfl, _, _, rfl, rfl, q⟩
    · rw [decide_eq_false h]
      rw [decide_eq_false h] at q
      exact iteF q
end
section
variable {P : Program} {w : World} {K : PySem.W.Frag} {mg : Str → Option Value} {base : Heap} {a : Adr}
def spIsValue (K : PySem.W.Frag) : Sp := fun vs H Q _ => ∃ (i : Nat) (v : V) (r : Row), vs = [nv i, v] ∧ RowV K H v r ∧ r.1 ≤ 7 ∧ r.2.length ≤ 2 ∧ (∀ p ∈ r.2, p < i) ∧ ∀ H', Same H H' → Q (.bl true) H'
theorem ok_is_value (T : Txt K mg a) : FnOk P w K mg base CX0 3 a.f_is_value a.d_is_value ["index", "thing"] (spIsValue K) := by
  have G1 := ok_is_between (P := P) (w := w) (base := base) T
  have G2 := ok_is_tuple_of (P := P) (w := w) (base := base) T
  refine T.F_is_value.ok sc_is_value (fun vs H Q E h => ?_) (fun cdv A outer s H vs Q E hr h => ?_)
  · obtain ⟨i, v, r, rfl, _⟩ := h
    rfl
  obtain ⟨i, v, r, rfl, ⟨p, q, rfl, h1, h2⟩, b1, b2, b3, k⟩ := h
  refine ⟨_, (pss_cons (ps_if (pt_not (pt_val (pe_call G2 (hr.mono (by decide)) rfl T.g_is_tuple_of T.k_is_tuple_of T.b_is_tuple_of .nil pass0 (pa_cons pe_int (pa_cons pe_int (pa_cons (pv 1) pa_nil))))))
    (pss_one (ps_ret pe_bl))
    pss_nil)
  (pss_cons (ps_asg (pv 1) (pg_tup (by rfl) (pgs_cons (pg_name (i := 2) sc_is_value.nd rfl (Or.inl rfl)) (pgs_cons (pg_name (i := 3) sc_is_value.nd rfl (Or.inl rfl)) pgs_nil))))
  (pss_one (ps_ret (pe_and (pe_call G1 (hr.mono (by decide)) rfl T.g_is_between T.k_is_between T.b_is_between .nil pass0 (pa_cons pe_int (pa_cons pe_int (pa_cons (pv 2) pa_nil)))) (pe_and (pe_call G2 (hr.mono (by decide)) rfl T.g_is_tuple_of T.k_is_tuple_of T.b_is_tuple_of .nil pass0 (pa_cons pe_int (pa_cons pe_int (pa_cons (pv 3) pa_nil)))) (pe_one (pe_callB (cr_all rfl) (by rfl) T.z_all (by decide +kernel) (pa_cons (pe_lc (own := [("part", 4)]) (g := gName 4) (tt := tYes) rfl sc_is_value.nd (pi_tup (pv 3)) (blkOk_by (N := ["index", "thing", "op", "parts", "part"]) (sc := defScope s_is_value) (by decide +kernel)) (fun _ _ _ _ _ => pg_name (i := 4) sc_is_value.nd rfl (Or.inl rfl)) (fun _ _ _ _ _ => pts_nil) (fun _ _ _ _ _ => (pe_call G1 (hr.mono (by decide)) rfl T.g_is_between T.k_is_between T.b_is_between .nil pass0 (pa_cons pe_int (pa_cons (pe_op op_sub (pv 0) pe_int) (pa_cons (pv 4) pa_nil)))))) pa_nil))))))))), ?_⟩
  refine ⟨_, rfl, .ref p, "tuple", 2, 2, rfl, .tup, tyT h1, .inr ⟨p, _, rfl, rfl, h1, ?_⟩⟩
  refine ⟨_, rfl, iteF ?_⟩
  refine ⟨_, rfl, p, _, rfl, h1, rfl, ?_⟩
  refine ⟨_, _, rfl, _, _, rfl, rfl, _, rfl, nv r.1, "int", 0, 7, rfl, .int, .base (.int _), .inr ⟨_, rfl, rfl, ?_⟩⟩
  refine ⟨_, rfl, iteC (by simp only [Bool.and_eq_true, decide_eq_true_eq]; omega) ?_⟩
  refine ⟨_, rfl, .ref q, "tuple", 0, 2, rfl, .tup, tyT h2, .inr ⟨q, _, rfl, rfl, h2, ?_⟩⟩
  refine ⟨_, rfl, iteC (by simp only [Bool.and_eq_true, decide_eq_true_eq, List.length_map]; omega) ?_⟩
  refine ⟨_, rfl, q, rfl, ⟨_, h2⟩, fun D hD => ?_⟩
  refine lc_tup (xs := r.2.map nv) (fun j H' => Same H H' ∧ H' D = some (.lst ((List.replicate j true).map V.bl))) ⟨same_new hD, upd_same⟩ (fun j H' _ z => (Tk.of z.1).t h2) (fun j x H' hx z => ?_) (fun H' z => ?_)
  · refine ⟨rfl, ?_⟩
    rw [List.getElem?_map] at hx
    obtain ⟨y, hy, rfl⟩ := Option.map_eq_some_iff.mp hx
    have hlt := b3 y (List.mem_of_getElem? hy)
    refine ⟨_, rfl, _, _, rfl, rfl, _, rfl, nv y, "int", 0, _, rfl, .int, .base (.int _), .inr ⟨_, rfl, rfl, ?_⟩⟩
    have hj : j < r.2.length := (List.getElem?_eq_some_iff.mp hy).1
    refine ⟨_, z.2, ?_, fun b o e => ?_, ?_⟩
    · rw [List.length_map, List.length_replicate]
      exact small1000 (by omega)
    · rw [upd_ne (ne_of_none e hD)]
      exact z.1 b o e
    · rw [upd_same]
      have e1 : (decide ((0 : Int) ≤ (y : Int)) && decide ((y : Int) ≤ (i : Int) - 1)) = true := by
        simp only [Bool.and_eq_true, decide_eq_true_eq]
        omega
      rw [e1, List.replicate_succ', List.map_append]
      rfl
  · refine ⟨D, _, rfl, .inl (.inl z.2), ?_⟩
    have e1 : (List.replicate (r.2.map nv).length true).all id = true := by simp
    rw [e1]
    exact k H' z.1
end
section
variable {P : Program} {w : World} {mg : Str → Option Value} {base : Heap} {a : Adr}
def spWebInit (K : PySem.W.Frag) (C : Addr) : Sp := fun vs H Q _ => ∃ (x dx q : Addr) (R : List Row), vs = [.ref x, .ref q] ∧ H x = some (.ins C dx []) ∧ RowsT K H q R ∧ Good R ∧ R.length ≤ 200 ∧
  ∀ H', (∀ b o, H b = some o → b ≠ x → H' b = some o) → H' x = some (.ins C dx [("rows", .ref q)]) → Q .non H'
theorem ok_Web_init (T : Txt K mg a) : FnOk P w K mg base CX0 4 a.f_Web_init a.d_Web_init ["self", "values"] (spWebInit K a.c_Web) := by
  have G1 := ok_is_tuple_of (P := P) (w := w) (base := base) T
  have G2 := ok_is_value (P := P) (w := w) (base := base) T
  refine T.F_Web_init.ok sc_Web_init (fun vs H Q E h => ?_) (fun cdv A outer s H vs Q E hr h => ?_)
  · obtain ⟨x, dx, q, R, rfl, _⟩ := h
    rfl
  obtain ⟨x, dx, q, R, rfl, hx, hR, g, hl, k⟩ := h
  obtain ⟨ws, hw, hwl, hrow⟩ := id hR
  refine ⟨_, (pss_cons (ps_if (pt_not (pt_val (pe_call G1 (hr.mono (by decide)) rfl T.g_is_tuple_of T.k_is_tuple_of T.b_is_tuple_of .nil pass0 (pa_cons pe_int (pa_cons pe_int (pa_cons (pv 1) pa_nil))))))
    (pss_one ps_never)
    pss_nil)
  (pss_cons (ps_for PassesOwn.never rfl (EnT.pi_enumT rfl T.z_enumerate (pa_cons (pv 1) pa_nil)) (pg_tup rfl (pgs_cons (pg_name (i := 2) sc_Web_init.nd rfl (Or.inl rfl)) (pgs_cons (pg_name (i := 3) sc_Web_init.nd rfl (Or.inl rfl)) pgs_nil)))
    (pss_one (ps_if (pt_not (pt_val (pe_call G2 (hr.mono (by decide)) rfl T.g_is_value T.k_is_value T.b_is_value .nil pass0 (pa_cons (pv 2) (pa_cons (pv 3) pa_nil)))))
    (pss_one ps_never)
    pss_nil)))
  (pss_one (ps_fld (pv 0) (pv 1) rfl)))), ?_⟩
  refine ⟨_, rfl, .ref q, "tuple", 0, 200, rfl, .tup, tyT hw, .inr ⟨q, _, rfl, rfl, hw, ?_⟩⟩
  refine ⟨_, rfl, iteD (by rw [Bool.not_eq_false', Bool.and_eq_true, decide_eq_true_eq, decide_eq_true_eq]; omega) ?_⟩
  refine ⟨_, rfl, q, ws, rfl, hw, for_it (EnT.walkE (xs := ws)) (fun i σ H' => ∃ v2 v3, σ = [some (.ref x), some (.ref q), v2, v3] ∧ Same H H') ⟨none, none, rfl, Same.refl H⟩ (fun i σ H' _ z => ?_) ?_ ?_⟩
  · obtain ⟨_, _, _, s1⟩ := z
    exact (Tk.of s1).t hw
  · intro i y σ H1 H2 hi z hy
    obtain ⟨v2, v3, rfl, s1⟩ := z
    obtain ⟨t, y1, y2, rfl, ht, rfl, e1, e2⟩ := hy
    cases e1
    have s2 : Same H (upd H1 t (.tup [.int (i : Nat), y2])) := s1.trans (same_new ht)
    have hi' : i < R.length := by omega
    obtain ⟨b1, b2, b3⟩ := g i hi'
    have hv := (hrow i y2 e2).tk (Tk.of s2)
    refine ⟨t, _, rfl, .inl (.inl upd_same), rfl, _, _, rfl, _, _, rfl, rfl, ?_⟩
    refine ⟨_, rfl, _, rfl, i, y2, rowAt R i, rfl, hv, b1, b2, b3, fun H3 s3 => ?_⟩
    exact ⟨_, rfl, iteF ⟨_, _, rfl, s2.trans s3⟩⟩
  · intro σ H1 z
    obtain ⟨v2, v3, rfl, s1⟩ := z
    refine ⟨_, rfl, _, rfl, x, a.c_Web, dx, [], rfl, s1 _ _ hx, T.C_Web, T.N_rows, (by decide), ?_⟩
    refine k _ (fun b o e ne => ?_) upd_same
    rw [upd_ne ne]
    exact s1 _ _ e
end
section
variable {P : Program} {w : World} {K : PySem.W.Frag} {mg : Str → Option Value} {base : Heap} {a : Adr}
def spPick : Sp := fun vs H Q _ => ∃ (b g : Addr) (m : Nat), vs = [.ref b, nv m] ∧ 0 < m ∧ m < 1073741824 ∧ BagAt H b g ∧ ∀ (r : Nat) H', r < m → BagAt H' b g → Fb b g H H' → Q (nv r) H'
theorem ok_law_pick (T : Txt K mg a) : FnOk P w K mg base CX0 1 a.f_law_pick a.d_law_pick ["_law_bag_here", "_law_many"] spPick := by
  refine T.F_law_pick.ok sc_law_pick (fun vs H Q E h => ?_) (fun cdv A outer s H vs Q E hr h => ?_)
  · obtain ⟨b, g, m, rfl, _⟩ := h
    rfl
  obtain ⟨b, g, m, rfl, hm0, hm1, B, k⟩ := h
  refine ⟨_, (pss_cons (ps_if (pt_cmpR op_notN (pe_ix ix_list (pv 0) pe_int (fun _ _ => rfl)) pe_non (nomark _))
    (pss_one (ps_ret (pe_op op_mod (pe_callTy call_int1 (by rfl) T.z_int (by decide +kernel) (pa_cons (pe_ix ix_list (pv 0) pe_int (fun _ _ => rfl)) pa_nil)) (pv 1))))
    pss_nil)
  (pss_cons (ps_asg (pe_op op_add (pe_ix ix_list (pv 0) pe_int (fun _ _ => rfl)) pe_int) (pg_sub (pv 0) pe_int set_list))
  (pss_cons (ps_set (i := 2) sc_law_pick.nd rfl (Or.inl rfl) (pe_ix ix_list (pv 0) pe_int (fun _ _ => rfl)))
  (pss_cons (ps_if (pt_cmpR op_gt (pe_callB call_len_seq (by rfl) T.z_len PySem.boot_len (pa_cons (pv 2) pa_nil)) pe_int (nomark _))
    (pss_cons (ps_set (i := 3) sc_law_pick.nd rfl (Or.inl rfl) (pe_op op_mod (pe_callTy call_int1 (by rfl) T.z_int (by decide +kernel) (pa_cons (pe_ix ix_list (pv 2) pe_int (fun _ _ => rfl)) pa_nil)) (pv 1)))
  (pss_cons (ps_asg (pe_op op_fdivN (pe_callTy call_int1 (by rfl) T.z_int (by decide +kernel) (pa_cons (pe_ix ix_list (pv 2) pe_int (fun _ _ => rfl)) pa_nil)) (pv 1)) (pg_sub (pv 2) pe_int set_list))
  (pss_cons (ps_if (pt_cmpR op_eq (pe_ix ix_list (pv 2) pe_int (fun _ _ => rfl)) pe_int (nomark _))
    (pss_one (ps_expr (pe_bm PySem.F.plainAttrs_list PySem.F.slot_list_pop PySem.F.type_list_pop mt_popAt (pv 2) (pa_cons pe_int pa_nil))))
    pss_nil)
  (pss_one (ps_ret (pv 3))))))
    pss_nil)
  (pss_cons (ps_set (i := 4) sc_law_pick.nd rfl (Or.inl rfl) (pe_op op_mod (pe_callTy call_int1 (by rfl) T.z_int (by decide +kernel) (pa_cons (pe_op op_mul (pe_op op_add (pe_ix ix_list (pv 0) pe_int (fun _ _ => rfl)) (pe_op op_mul pe_int (pe_ix ix_list (pv 0) pe_int (fun _ _ => rfl)))) pe_int) pa_nil)) pe_int))
  (pss_cons (ps_set (i := 4) sc_law_pick.nd rfl (Or.inl rfl) (pe_op op_mod (pe_callTy call_int1 (by rfl) T.z_int (by decide +kernel) (pa_cons (pe_op op_mul (pv 4) (pe_op op_add (pe_op op_fdivN (pv 4) pe_int) pe_int)) pa_nil)) pe_int))
  (pss_cons (ps_set (i := 4) sc_law_pick.nd rfl (Or.inl rfl) (pe_op op_mod (pe_callTy call_int1 (by rfl) T.z_int (by decide +kernel) (pa_cons (pe_op op_mul (pv 4) (pe_op op_add (pe_op op_fdivN (pv 4) pe_int) pe_int)) pa_nil)) pe_int))
  (pss_one (ps_ret (pe_op op_mod (pe_callTy call_int1 (by rfl) T.z_int (by decide +kernel) (pa_cons (pe_op op_fdivN (pv 4) pe_int) pa_nil)) (pv 1))))))))))), ?_⟩
  obtain ⟨sd, c, al, gs, hb, hg, nbg, hal⟩ := id B
  have hm : (0 : Int) < (m : Int) := by omega
  refine ⟨_, rfl, b, _, _, al, rfl, rfl, SqL.of hb, rfl, rfl, _, rfl, ?_⟩
  rcases hal with rfl | ⟨n, rfl, hn⟩
  · refine iteD (by decide) ?_
    -- bag[1] = bag[1] + 1
    refine ⟨_, rfl, b, _, 1, .int c, rfl, rfl, SqL.of hb, rfl, _, _, rfl, rfl, ?_⟩
    refine ⟨_, rfl, b, _, 1, 1, rfl, rfl, hb, rfl, ?_⟩
    have hb1 : upd H b (.lst ([.int sd, .int c, .ref g, .non].set 1 (.int (c + 1)))) b = some (.lst [.int sd, .int (c + 1), .ref g, .non]) := upd_same
    have hg1 : upd H b (.lst ([.int sd, .int c, .ref g, .non].set 1 (.int (c + 1)))) g = some (.lst (gs.map V.int)) := by
      rw [upd_ne nbg.symm]
      exact hg
    generalize hH1 : upd H b (.lst ([.int sd, .int c, .ref g, .non].set 1 (.int (c + 1)))) = H1 at hb1 hg1
    have f1 : Fb b g H H1 := hH1 ▸ fb_mutB
    refine ⟨_, rfl, b, _, 2, .ref g, rfl, rfl, SqL.of hb1, rfl, ?_⟩
    refine ⟨_, rfl, g, _, rfl, .inl (SqL.of hg1), _, _, rfl, rfl, _, rfl, ?_⟩
    cases gs with
    | nil =>
      refine iteD (by decide) ?_
      -- the seed and the count
      refine ⟨_, rfl, b, _, 0, .int sd, rfl, rfl, SqL.of hb1, rfl, ?_⟩
      refine ⟨_, rfl, b, _, 1, .int (c + 1), rfl, rfl, SqL.of hb1, rfl, _, _, rfl, rfl, .inl ⟨by decide, by decide⟩, ?_⟩
      refine ⟨_, _, rfl, rfl, _, _, rfl, rfl, .inr ⟨by decide, by decide⟩, .inl ⟨_, rfl, _, _, rfl, rfl, (by show (0 : Int) < 2147483647; decide), ?_⟩⟩
      refine ⟨_, rfl, _, rfl, _, _, rfl, rfl, ⟨by decide, by decide⟩, _, _, rfl, rfl, _, _, rfl, rfl, .inl ⟨by omega, by omega⟩, .inl ⟨_, rfl, _, _, rfl, rfl, (by show (0 : Int) < 2147483647; decide), ?_⟩⟩
      refine ⟨_, rfl, _, rfl, _, _, rfl, rfl, ⟨by decide, by decide⟩, _, _, rfl, rfl, _, _, rfl, rfl, .inl ⟨by omega, by omega⟩, .inl ⟨_, rfl, _, _, rfl, rfl, (by show (0 : Int) < 2147483399; decide), ?_⟩⟩
      refine ⟨_, rfl, _, _, rfl, rfl, ⟨by decide, by decide⟩, .inl ⟨_, rfl, _, rfl, _, _, rfl, rfl, hm, ?_⟩⟩
      exact (show ∀ y : Int, Q (.int (y % (m : Int))) H1 from fun y => by
        obtain ⟨r, e, hr⟩ := mod_nat y hm0
        rw [e]
        exact k r H1 hr ⟨sd, c + 1, .non, [], hb1, hg1, nbg, .inl rfl⟩ f1) _
    | cons x gs =>
      refine iteC (by simp) ?_
      -- a digit of the first great number
      refine ⟨_, rfl, g, _, 0, .int x, rfl, rfl, SqL.of hg1, atI_nat (j := 0) rfl, .inl ⟨_, rfl, _, rfl, _, _, rfl, rfl, hm, ?_⟩⟩
      refine ⟨_, rfl, g, _, 0, .int x, rfl, rfl, SqL.of hg1, atI_nat (j := 0) rfl, .inl ⟨_, rfl, _, rfl, _, _, rfl, rfl, ⟨by omega, by omega⟩, ?_⟩⟩
      refine ⟨_, rfl, g, _, 0, 0, rfl, rfl, hg1, by simp [ixN], ?_⟩
      have hg2 : upd H1 g (.lst (((x :: gs).map V.int).set 0 (.int (x.fdiv (m : Int))))) g = some (.lst ((x.fdiv (m : Int) :: gs).map V.int)) := upd_same
      have hb2 : upd H1 g (.lst (((x :: gs).map V.int).set 0 (.int (x.fdiv (m : Int))))) b = some (.lst [.int sd, .int (c + 1), .ref g, .non]) := by
        rw [upd_ne nbg]
        exact hb1
      have f2 : Fb b g H (upd H1 g (.lst (((x :: gs).map V.int).set 0 (.int (x.fdiv (m : Int)))))) := f1.trans fb_mutG
      obtain ⟨r, e, hr⟩ := mod_nat x hm0
      refine ⟨_, rfl, g, _, 0, .int (x.fdiv (m : Int)), rfl, rfl, SqL.of hg2, atI_nat (j := 0) rfl, rfl, _, rfl, ?_⟩
      refine ite2 (fun _ => ?_) (fun _ => ?_)
      · refine ⟨_, rfl, .inl ⟨rfl, _, SqL.of hg2⟩, g, _, 0, 0, _, rfl, rfl, hg2, by decide, by decide, ?_, rfl, ?_⟩
        · simp [PySem.seqIndex?]
        · refine ⟨_, rfl, ?_⟩
          show Q (.int (x % (m : Int))) _
          rw [e]
          refine k r _ hr ⟨sd, c + 1, .non, gs, ?_, upd_same, nbg, .inl rfl⟩ (f2.trans fb_mutG)
          rw [upd_ne nbg]
          exact hb2
      · refine ⟨_, rfl, ?_⟩
        show Q (.int (x % (m : Int))) _
        rw [e]
        exact k r _ hr ⟨sd, c + 1, .non, x.fdiv (m : Int) :: gs, hb2, hg2, nbg, .inl rfl⟩ f2
  · refine iteC (by simp) ?_
    refine ⟨_, rfl, b, _, 3, .int n, rfl, rfl, SqL.of hb, rfl, .inl ⟨n, rfl, ?_⟩⟩
    refine ⟨_, rfl, _, _, rfl, rfl, hm, ?_⟩
    obtain ⟨r, e, hr⟩ := mod_nat n hm0
    show Q (.int (n % (m : Int))) H
    rw [e]
    exact k r H hr B (Fb.refl H)
end
section
variable {P : Program} {w : World} {K : PySem.W.Frag} {mg : Str → Option Value} {base : Heap} {a : Adr}
def spBag (K : PySem.W.Frag) : Sp := fun vs H Q _ => ∃ (p : Addr) (ns : List Int), vs = [.ref p] ∧ SqL K H p (ns.map V.int) ∧ ns.length ≤ 63 ∧ ∀ b g H', Same H H' → H b = none → H g = none → BagAt H' b g → Q (.ref b) H'
theorem ok_law_bag (T : Txt K mg a) : FnOk P w K mg base CX0 1 a.f_law_bag a.d_law_bag ["_law_script"] (spBag K) := by
  refine T.F_law_bag.ok sc_law_bag (fun vs H Q E h => ?_) (fun cdv A outer s H vs Q E hr h => ?_)
  · obtain ⟨b, ns, rfl, _⟩ := h
    rfl
  obtain ⟨p, ns, rfl, hS, hn, k⟩ := h
  refine ⟨_, (pss_cons (ps_set (i := 1) sc_law_bag.nd rfl (Or.inl rfl) (pe_op op_add pe_int (pe_callB call_len_seq (by rfl) T.z_len PySem.boot_len (pa_cons (pv 0) pa_nil))))
  (pss_cons (ps_for PassesOwn.never rfl (pi_list (pe_slice sl_list (pv 0) po_none (po_some pe_int))) (pg_name (i := 2) sc_law_bag.nd rfl (Or.inl rfl))
    (pss_one (ps_set (i := 1) sc_law_bag.nd rfl (Or.inl rfl) (pe_op op_mod (pe_callTy call_int1 (by rfl) T.z_int (by decide +kernel) (pa_cons (pe_op op_add (pe_op op_add (pe_op op_mul (pv 1) pe_int) (pe_op op_mod (pe_callTy call_int1 (by rfl) T.z_int (by decide +kernel) (pa_cons (pv 2) pa_nil)) pe_int)) pe_int) pa_nil)) pe_int))))
  (pss_cons (ps_setLc (i := 3) (own := [("_law_cell", 2)]) (g := gName 2) (tt := _) rfl sc_law_bag.nd rfl rfl (sw_true rfl rfl rfl (by decide +kernel)) (pi_list (pe_slice sl_list (pv 0) po_none (po_some pe_int))) (blkOk_by (N := ["_law_script", "_law_seed", "_law_cell", "_law_great", "_law_always"]) (sc := defScope s_law_bag) (by decide +kernel)) (fun _ _ _ _ _ => pg_name (i := 2) sc_law_bag.nd rfl (Or.inl rfl)) (fun _ _ _ _ _ => (pts_one (pt_cmpR op_ge (pe_callB call_abs (by rfl) T.z_abs (by decide +kernel) (pa_cons (pe_callTy call_int1 (by rfl) T.z_int (by decide +kernel) (pa_cons (pv 2) pa_nil)) pa_nil)) (pe_op op_pow pe_int pe_int) (nomark _)))) (fun _ _ _ _ _ => (pe_callB call_abs (by rfl) T.z_abs (by decide +kernel) (pa_cons (pe_callTy call_int1 (by rfl) T.z_int (by decide +kernel) (pa_cons (pv 2) pa_nil)) pa_nil))))
  (pss_cons (ps_set (i := 4) sc_law_bag.nd rfl (Or.inl rfl) pe_non)
  (pss_cons (ps_if (PW.pt (pw_and (pt_cmpR op_lt (pe_callB call_len_seq (by rfl) T.z_len PySem.boot_len (pa_cons (pv 0) pa_nil)) pe_int (nomark _)) (pw_and1 (pt_cmpR op_eq (pe_callB call_len_seq (by rfl) T.z_len PySem.boot_len (pa_cons (pv 3) pa_nil)) pe_int (nomark _)))))
    (pss_one (ps_set (i := 4) sc_law_bag.nd rfl (Or.inl rfl) (pe_callB call_abs (by rfl) T.z_abs (by decide +kernel) (pa_cons (pe_callB (cr_sum rfl) (by rfl) T.z_sum (by decide +kernel) (pa_cons (pe_lc (own := [("_law_cell", 2)]) (g := gName 2) (tt := tYes) rfl sc_law_bag.nd (pi_list (pv 0)) (blkOk_by (N := ["_law_script", "_law_seed", "_law_cell", "_law_great", "_law_always"]) (sc := defScope s_law_bag) (by decide +kernel)) (fun _ _ _ _ _ => pg_name (i := 2) sc_law_bag.nd rfl (Or.inl rfl)) (fun _ _ _ _ _ => pts_nil) (fun _ _ _ _ _ => (pe_callTy call_int1 (by rfl) T.z_int (by decide +kernel) (pa_cons (pv 2) pa_nil)))) pa_nil)) pa_nil))))
    pss_nil)
  (pss_one (ps_ret (pe_lst (pa_cons (pv 1) (pa_cons pe_int (pa_cons (pv 3) (pa_cons (pv 4) pa_nil)))))))))))), ?_⟩
  refine ⟨_, rfl, p, _, rfl, .inl hS, _, _, rfl, rfl, ?_⟩
  obtain ⟨ms, hms, lms⟩ := cut_ints ns none (some 63)
  refine ⟨_, rfl, _, rfl, p, _, rfl, hS, fun s1 hs1 => ?_⟩
  rw [hms]
  have S1 : Same H (upd H s1 (.lst (ms.map V.int))) := same_new hs1
  -- for cell in script[:63]
  refine ⟨s1, rfl, ⟨_, SqL.of upd_same⟩, for_list (K := K) (a := s1) (xs := ms.map V.int) (fun i σ H' => ∃ (sd : Int) (v2 : Option V), σ = [some (.ref p), some (.int sd), v2, none, none] ∧ Same (upd H s1 (.lst (ms.map V.int))) H') ⟨_, none, rfl, Same.refl _⟩ (fun i σ H' _ z => ?_) ?_ ?_⟩
  · obtain ⟨_, _, _, z⟩ := z
    exact SqL.of (z _ _ upd_same)
  · rintro i x σ H1 hx ⟨sd, v2, rfl, z⟩
    rw [List.getElem?_map] at hx
    obtain ⟨x, hx2, rfl⟩ := Option.map_eq_some_iff.mp hx
    refine ⟨_, rfl, _, _, rfl, rfl, .inr ⟨by decide, by decide⟩, _, rfl, .inl ⟨_, rfl, _, _, rfl, rfl, (by show (0 : Int) < 1000003; decide), _, _, rfl, rfl, _, _, rfl, rfl, .inl ⟨_, rfl, _, _, rfl, rfl, (by show (0 : Int) < 2147483647; decide), ?_⟩⟩⟩
    exact ⟨_, _, rfl, z⟩
  rintro σ H1 ⟨sd, v2, rfl, z1⟩
  have S2 : Same H H1 := S1.trans z1
  -- great = [..]
  refine ⟨_, rfl, _, rfl, p, _, rfl, S2.seq hS, fun s2 hs2 => ?_⟩
  rw [hms]
  refine ⟨s2, rfl, ⟨_, SqL.of upd_same⟩, fun g hg => ?_⟩
  have S3 : Same H (upd H1 s2 (.lst (ms.map V.int))) := S2.trans (same_new hs2)
  have hgH : H g = none := S3.free hg
  refine lc_list (K := K) (a := s2) (xs := ms.map V.int) (fun i H' => Same (upd H1 s2 (.lst (ms.map V.int))) H' ∧ ∃ gs : List Int, H' g = some (.lst (gs.map V.int)) ∧ gs.length ≤ i) ⟨same_new hg, [], upd_same, Nat.le_refl _⟩ (fun i H' _ z => SqL.of (z.1 _ _ upd_same)) ?_ ?_
  · intro i x H2 hx z
    obtain ⟨z, gs, eg, lg⟩ := z
    rw [List.getElem?_map] at hx
    obtain ⟨x, hx2, rfl⟩ := Option.map_eq_some_iff.mp hx
    have hi : i < ms.length := (List.getElem?_eq_some_iff.mp hx2).1
    refine ⟨rfl, ?_⟩
    refine ⟨_, rfl, .inl ⟨_, rfl, _, rfl, _, _, rfl, rfl, ⟨by decide, by decide, by decide⟩, _, _, rfl, rfl, _, rfl, ?_⟩⟩
    refine ite2 (fun _ => ?_) (fun _ => ⟨z, gs, eg, by omega⟩)
    refine ⟨_, rfl, .inl ⟨_, rfl, _, rfl, _, eg, lt_line (by rw [List.length_map]; omega), fun b o e => ?_, gs ++ [if x < 0 then -x else x], ?_, ?_⟩⟩
    · rw [upd_ne (ne_of_none e hg)]
      exact z b o e
    · rw [upd_same, List.map_append]
      rfl
    · rw [List.length_append, List.length_singleton]
      omega
  intro H2 z
  obtain ⟨z2, gs, eg, lg⟩ := z
  have S4 : Same H H2 := S3.trans z2
  have fin : ∀ (H3 : Hp) (al : V), Same H2 H3 → (al = .non ∨ ∃ n : Int, al = .int n ∧ 0 ≤ n) → tRet (tLst (tCons (tVar 1) (tCons (tC (.int 1)) (tCons (tVar 3) (tCons (tVar 4) tNil))))) { nx := fun _ H' => Q .non H', rt := Q } [some (.ref p), some (.int sd), v2, some (.ref g), some al] H3 := by
    intro H3 al z3 hal
    refine ⟨_, rfl, _, rfl, _, rfl, by show 4 ≤ sizeLine; decide, fun b hb => ?_⟩
    have S5 : Same H H3 := S4.trans z3
    have ngb : g ≠ b := ne_of_none (z3 _ _ eg) hb
    exact k b g _ (S5.trans (same_new hb)) (S5.free hb) hgH ⟨sd, 1, al, gs, upd_same, by rw [upd_ne ngb]; exact z3 _ _ eg, ngb.symm, hal⟩
  -- always = None
  refine ⟨_, rfl, p, _, rfl, .inl (S4.seq hS), _, _, rfl, rfl, _, rfl, ?_⟩
  refine ite2 (fun _ => ?_) (fun _ => fin H2 .non (Same.refl _) (.inl rfl))
  refine ⟨_, rfl, g, _, rfl, .inl (SqL.of eg), rfl, _, rfl, ?_⟩
  refine ite2 (fun _ => ?_) (fun _ => fin H2 .non (Same.refl _) (.inl rfl))
  refine ⟨_, rfl, p, rfl, ⟨_, S4.seq hS⟩, fun D hD => ?_⟩
  refine lc_list (K := K) (a := p) (xs := ns.map V.int) (fun i H' => Same H2 H' ∧ H' D = some (.lst ((ns.take i).map V.int))) ⟨same_new hD, upd_same⟩ (fun i H' _ z => (S4.trans z.1).seq hS) ?_ ?_
  · intro i x H3 hx z
    obtain ⟨z, e⟩ := z
    rw [List.getElem?_map] at hx
    obtain ⟨x, hx2, rfl⟩ := Option.map_eq_some_iff.mp hx
    refine ⟨rfl, ?_⟩
    refine ⟨_, rfl, .inl ⟨_, rfl, _, e, lt_line (by rw [List.length_map, List.length_take]; omega), fun b o h => ?_, ?_⟩⟩
    · rw [upd_ne (ne_of_none h hD)]
      exact z b o h
    · rw [upd_same, List.take_add_one, hx2, List.map_append]
      rfl
  · intro H3 z
    obtain ⟨z, e⟩ := z
    rw [List.length_map, List.take_length] at e
    refine ⟨D, ns, rfl, SqL.of e, _, rfl, ?_⟩
    refine fin H3 _ z (.inr ⟨_, rfl, ?_⟩)
    split <;> omega
end
section
variable {P : Program} {w : World} {mg : Str → Option Value} {base : Heap} {a : Adr}
def spSame (K : PySem.W.Frag) (n : Nat) : Sp := fun vs H Q _ => ∃ (v u : V) (d : PyData), vs = [v, u] ∧ Dp K H v d ∧ Dp K H u d ∧ okd n d ∧ ∀ H', Same H H' → Q (.bl true) H'
end
end Lk
/-! books, ways, needs, what can be made: plain mathematics -/
namespace Lk
structure Rl where
  op : Nat
  src : List Nat
  kind : Nat
  cost : Nat
structure Mv where
  src : Nat
  kind : Nat
  cost : Nat
structure Bk where
  ar : List Nat
  nk : Nat
  rs : List Rl
  ms : List Mv
instance : Inhabited Rl := ⟨⟨0, [], 0, 0⟩⟩
instance : Inhabited Mv := ⟨⟨0, 0, 0⟩⟩
def rAt (rs : List Rl) (k : Nat) : Rl := rs.getD k default
def mAt (ms : List Mv) (k : Nat) : Mv := ms.getD k default
def rkey (r : Rl) : Nat × List Nat × Nat := (r.op, r.src, r.kind)
def mkey (m : Mv) : Nat × Nat := (m.src, m.kind)
abbrev Th := Nat × Nat
abbrev Wy := Bool × Nat
def RlOk (ar : List Nat) (nk : Nat) (r : Rl) : Prop := r.op < ar.length ∧ r.src.length = ar.getD r.op 0 ∧ (∀ s ∈ r.src, s < nk) ∧ r.kind < nk ∧ 1 ≤ r.cost ∧ r.cost ≤ 1000
def MvOk (nk : Nat) (m : Mv) : Prop := m.src < nk ∧ m.kind < nk ∧ m.src ≠ m.kind ∧ 1 ≤ m.cost ∧ m.cost ≤ 1000
/-- what a book holds -/
structure GoodB (B : Bk) : Prop where
  a1 : 1 ≤ B.ar.length
  a2 : B.ar.length ≤ 8
  a3 : ∀ x ∈ B.ar, x ≤ 2
  k1 : 1 ≤ B.nk
  k2 : B.nk ≤ 5
  r1 : B.rs.length ≤ 40
  m1 : B.ms.length ≤ 20
  r2 : ∀ r ∈ B.rs, RlOk B.ar B.nk r
  m2 : ∀ m ∈ B.ms, MvOk B.nk m
  r3 : (B.rs.map rkey).Nodup
  m3 : (B.ms.map mkey).Nodup
def FitsM (B : Bk) (R : List Row) : Prop := ∀ n, n < R.length → (rowAt R n).1 < B.ar.length ∧ B.ar.getD (rowAt R n).1 0 = (parts R n).length
theorem rAt_of {rs : List Rl} {k : Nat} (h : k < rs.length) : rs[k]? = some (rAt rs k) := by
  unfold rAt
  rw [List.getD_eq_getElem?_getD, List.getElem?_eq_getElem h]
  rfl
theorem mAt_of {ms : List Mv} {k : Nat} (h : k < ms.length) : ms[k]? = some (mAt ms k) := by
  unfold mAt
  rw [List.getD_eq_getElem?_getD, List.getElem?_eq_getElem h]
  rfl
theorem rAt_mem {rs : List Rl} {k : Nat} (h : k < rs.length) : rAt rs k ∈ rs := List.mem_of_getElem? (rAt_of h)
theorem mAt_mem {ms : List Mv} {k : Nat} (h : k < ms.length) : mAt ms k ∈ ms := List.mem_of_getElem? (mAt_of h)
def mvs (B : Bk) (κ : Nat) : List Nat := (List.range B.ms.length).filter fun k => decide ((mAt B.ms k).kind = κ)
def rls (B : Bk) (o κ : Nat) : List Nat := (List.range B.rs.length).filter fun k => decide ((rAt B.rs k).op = o) && decide ((rAt B.rs k).kind = κ)
/-- the ways of a thing: moves, then rules -/
def waysM (B : Bk) (R : List Row) (t : Th) : List Wy := (mvs B t.2).map (fun k => (false, k)) ++ (rls B (rowAt R t.1).1 t.2).map (fun k => (true, k))
theorem mem_waysF {B : Bk} {R : List Row} {t : Th} {k : Nat} : (false, k) ∈ waysM B R t ↔ k < B.ms.length ∧ (mAt B.ms k).kind = t.2 := by
  unfold waysM mvs rls
  simp [List.mem_append, List.mem_map, List.mem_filter, List.mem_range]
theorem mem_waysT {B : Bk} {R : List Row} {t : Th} {k : Nat} : (true, k) ∈ waysM B R t ↔ k < B.rs.length ∧ (rAt B.rs k).op = (rowAt R t.1).1 ∧ (rAt B.rs k).kind = t.2 := by
  unfold waysM mvs rls
  simp [List.mem_append, List.mem_map, List.mem_filter, List.mem_range]
theorem waysM_len {B : Bk} {R : List Row} {t : Th} : (waysM B R t).length ≤ B.ms.length + B.rs.length := by
  unfold waysM mvs rls
  rw [List.length_append, List.length_map, List.length_map]
  have h1 := List.length_filter_le (fun k => decide ((mAt B.ms k).kind = t.2)) (List.range B.ms.length)
  have h2 := List.length_filter_le (fun k => decide ((rAt B.rs k).op = (rowAt R t.1).1) && decide ((rAt B.rs k).kind = t.2)) (List.range B.rs.length)
  rw [List.length_range] at h1 h2
  omega
/-! lots of things -/
def ltT (x y : Th) : Prop := x.1 < y.1 ∨ (x.1 = y.1 ∧ x.2 < y.2)
instance {x y : Th} : Decidable (ltT x y) := inferInstanceAs (Decidable (_ ∨ _))
theorem ltT_ir {x : Th} : ¬ ltT x x := by unfold ltT; omega
theorem ltT_tr {x y z : Th} (h1 : ltT x y) (h2 : ltT y z) : ltT x z := by unfold ltT at *; omega
theorem ltT_tot {x y : Th} (h1 : ¬ ltT x y) (h2 : x ≠ y) : ltT y x := by
  unfold ltT at *
  have : ¬ (x.1 = y.1 ∧ x.2 = y.2) := fun q => h2 (Prod.ext q.1 q.2)
  omega
def insU (x : Th) : List Th → List Th
  | [] => [x]
  | y :: l => if ltT x y then x :: y :: l else if x = y then y :: l else y :: insU x l
def lotT (l : List Th) : List Th := l.foldr insU []
theorem mem_insU {x z : Th} : ∀ {l : List Th}, z ∈ insU x l ↔ z = x ∨ z ∈ l
  | [] => by simp [insU]
  | y :: l => by
    unfold insU
    split
    · rw [List.mem_cons]
    · split
      · rename_i e
        subst e
        rw [List.mem_cons]
        constructor
        · exact Or.inr
        · rintro (q | q)
          · exact Or.inl q
          · exact q
      · rw [List.mem_cons, mem_insU, List.mem_cons]
        constructor
        · rintro (q | q | q)
          · exact Or.inr (Or.inl q)
          · exact Or.inl q
          · exact Or.inr (Or.inr q)
        · rintro (q | q | q)
          · exact Or.inr (Or.inl q)
          · exact Or.inl q
          · exact Or.inr (Or.inr q)
theorem asc_insU {x : Th} : ∀ {l : List Th}, l.Pairwise ltT → (insU x l).Pairwise ltT
  | [], _ => by simp [insU]
  | y :: l, h => by
    unfold insU
    have h' := List.pairwise_cons.mp h
    split
    · rename_i e
      refine List.pairwise_cons.mpr ⟨fun z hz => ?_, h⟩
      rcases List.mem_cons.mp hz with rfl | hz
      · exact e
      · exact ltT_tr e (h'.1 z hz)
    · split
      · exact h
      · rename_i e1 e2
        refine List.pairwise_cons.mpr ⟨fun z hz => ?_, asc_insU h'.2⟩
        rcases mem_insU.mp hz with rfl | hz
        · exact ltT_tot e1 e2
        · exact h'.1 z hz
theorem mem_lotT {z : Th} : ∀ {l : List Th}, z ∈ lotT l ↔ z ∈ l
  | [] => Iff.rfl
  | x :: l => by
    show z ∈ insU x (lotT l) ↔ _
    rw [mem_insU, mem_lotT, List.mem_cons]
theorem asc_lotT : ∀ {l : List Th}, (lotT l).Pairwise ltT
  | [] => List.Pairwise.nil
  | x :: l => asc_insU (asc_lotT (l := l))
theorem asc_uniq : ∀ {l m : List Th}, l.Pairwise ltT → m.Pairwise ltT → (∀ x, x ∈ l ↔ x ∈ m) → l = m
  | [], [], _, _, _ => rfl
  | [], b :: m, _, _, h => absurd ((h b).mpr List.mem_cons_self) (by simp)
  | a :: l, [], _, _, h => absurd ((h a).mp List.mem_cons_self) (by simp)
  | a :: l, b :: m, h1, h2, h => by
    rw [List.pairwise_cons] at h1 h2
    have e : a = b := by
      have ha := (h a).mp List.mem_cons_self
      have hb := (h b).mpr List.mem_cons_self
      rw [List.mem_cons] at ha hb
      rcases ha with ha | ha
      · exact ha
      · rcases hb with hb | hb
        · exact hb.symm
        · exact absurd (ltT_tr (h1.1 b hb) (h2.1 a ha)) ltT_ir
    subst e
    have : l = m := asc_uniq h1.2 h2.2 fun x => by
      have hx := h x
      rw [List.mem_cons, List.mem_cons] at hx
      constructor
      · intro hl
        rcases hx.mp (Or.inr hl) with e | e
        · exact absurd (e ▸ h1.1 x hl) ltT_ir
        · exact e
      · intro hm
        rcases hx.mpr (Or.inr hm) with e | e
        · exact absurd (e ▸ h2.1 x hm) ltT_ir
        · exact e
    rw [this]
theorem asc_nodup {l : List Th} (h : l.Pairwise ltT) : l.Nodup := List.Pairwise.imp (R := ltT) (S := fun a b => a ≠ b) (fun {a b} q e => by rw [e] at q; exact ltT_ir q) h
theorem insU_len {x : Th} : ∀ {l : List Th}, (insU x l).length ≤ l.length + 1
  | [] => Nat.le_refl _
  | y :: l => by
    unfold insU
    split
    · exact Nat.le_refl _
    · split
      · simp
      · rw [List.length_cons, List.length_cons]
        have := insU_len (x := x) (l := l)
        omega
theorem lotT_len : ∀ {l : List Th}, (lotT l).length ≤ l.length
  | [] => Nat.le_refl _
  | x :: l => by
    have h1 := lotT_len (l := l)
    have h2 := insU_len (x := x) (l := lotT l)
    show (insU x (lotT l)).length ≤ l.length + 1
    omega
/-- what a way of a thing needs -/
def needsM (B : Bk) (R : List Row) (t : Th) (w : Wy) : List Th := match w with
  | (false, k) => [(t.1, (mAt B.ms k).src)]
  | (true, k) => lotT (List.zip (parts R t.1) (rAt B.rs k).src)
/-- what can be made -/
inductive Mak (B : Bk) (R : List Row) : Th → Prop where
  | mk {t : Th} (w : Wy) : t.1 < R.length → w ∈ waysM B R t → (∀ u ∈ needsM B R t w, Mak B R u) → Mak B R t
theorem Mak.lt {B : Bk} {R : List Row} {t : Th} (g : GoodB B) (h : Mak B R t) : t.1 < R.length ∧ t.2 < B.nk := by
  cases h with
  | mk w h1 h2 _ =>
    refine ⟨h1, ?_⟩
    obtain ⟨b, k⟩ := w
    cases b with
    | false =>
      obtain ⟨a1, a2⟩ := mem_waysF.mp h2
      rw [← a2]
      exact (g.m2 _ (mAt_mem a1)).2.1
    | true =>
      obtain ⟨a1, _, a2⟩ := mem_waysT.mp h2
      rw [← a2]
      exact (g.r2 _ (rAt_mem a1)).2.2.2.1
theorem need_part {B : Bk} {R : List Row} (gr : Good R) {t u : Th} {k : Nat} (h : u ∈ needsM B R t (true, k)) : u.1 < t.1 := by
  have h1 := mem_lotT.mp h
  exact good_lt gr (List.of_mem_zip h1).1
def allT (R : List Row) (nk : Nat) : List Th := (List.range R.length).flatMap fun n => (List.range nk).map fun κ => (n, κ)
theorem mem_allT {R : List Row} {nk : Nat} {t : Th} : t ∈ allT R nk ↔ t.1 < R.length ∧ t.2 < nk := by
  unfold allT
  rw [List.mem_flatMap]
  constructor
  · rintro ⟨n, hn, h⟩
    obtain ⟨κ, hκ, rfl⟩ := List.mem_map.mp h
    exact ⟨List.mem_range.mp hn, List.mem_range.mp hκ⟩
  · rintro ⟨h1, h2⟩
    exact ⟨t.1, List.mem_range.mpr h1, List.mem_map.mpr ⟨t.2, List.mem_range.mpr h2, rfl⟩⟩
theorem asc_rows {nk : Nat} : ∀ {l : List Nat}, l.Pairwise (· < ·) → (l.flatMap fun n => (List.range nk).map fun κ => ((n, κ) : Th)).Pairwise ltT
  | [], _ => List.Pairwise.nil
  | n :: l, h => by
    obtain ⟨h1, h2⟩ := List.pairwise_cons.mp h
    rw [List.flatMap_cons, List.pairwise_append]
    refine ⟨?_, asc_rows h2, fun x hx y hy => ?_⟩
    · rw [List.pairwise_map]
      exact List.pairwise_lt_range.imp fun q => Or.inr ⟨rfl, q⟩
    · obtain ⟨κ, _, rfl⟩ := List.mem_map.mp hx
      obtain ⟨m, hm, hy⟩ := List.mem_flatMap.mp hy
      obtain ⟨κ', _, rfl⟩ := List.mem_map.mp hy
      exact Or.inl (h1 m hm)
theorem asc_allT {R : List Row} {nk : Nat} : (allT R nk).Pairwise ltT := asc_rows List.pairwise_lt_range
open Classical in
/-- the lot of all makeable things -/
noncomputable def makM (B : Bk) (R : List Row) : List Th := (allT R B.nk).filter fun t => decide (Mak B R t)
theorem mem_makM {B : Bk} {R : List Row} (g : GoodB B) {t : Th} : t ∈ makM B R ↔ Mak B R t := by
  classical
  unfold makM
  rw [List.mem_filter, decide_eq_true_eq, mem_allT]
  exact ⟨fun h => h.2, fun h => ⟨h.lt g, h⟩⟩
theorem asc_makM {B : Bk} {R : List Row} : (makM B R).Pairwise ltT := List.Pairwise.filter _ asc_allT
theorem rows_flat_len {nk : Nat} : ∀ {l : List Nat}, (l.flatMap fun n => (List.range nk).map fun κ => ((n, κ) : Th)).length = l.length * nk
  | [] => by simp
  | n :: l => by
    rw [List.flatMap_cons, List.length_append, rows_flat_len, List.length_map, List.length_range, List.length_cons, Nat.add_mul]
    omega
theorem allT_len {R : List Row} {nk : Nat} : (allT R nk).length = R.length * nk := by
  unfold allT
  rw [rows_flat_len, List.length_range]
theorem makM_len {B : Bk} {R : List Row} : (makM B R).length ≤ R.length * B.nk := by
  rw [← allT_len]
  exact List.length_filter_le ..
theorem nodup_len {α : Type} [DecidableEq α] : ∀ {F L : List α}, F.Nodup → (∀ x ∈ F, x ∈ L) → F.length ≤ L.length
  | [], _, _, _ => Nat.zero_le _
  | a :: F, L, h, s => by
    obtain ⟨h1, h2⟩ := List.nodup_cons.mp h
    have ha := s a List.mem_cons_self
    have := nodup_len (F := F) (L := L.erase a) h2 fun x hx => (List.mem_erase_of_ne (fun e => h1 (by rw [← e]; exact hx))).mpr (s x (List.mem_cons_of_mem _ hx))
    rw [List.length_erase_of_mem ha] at this
    have := List.length_pos_of_mem ha
    rw [List.length_cons]
    omega
/-! the keys of a dict of things -/
def insT (F : List Th) (x : Th) : List Th := if x ∈ F then F else F ++ [x]
theorem mem_insT {F : List Th} {x y : Th} : y ∈ insT F x ↔ y ∈ F ∨ y = x := by
  unfold insT
  split
  · rename_i h
    constructor
    · exact Or.inl
    · rintro (a | rfl)
      · exact a
      · exact h
  · rw [List.mem_append, List.mem_singleton]
theorem nodup_insT {F : List Th} {x : Th} (h : F.Nodup) : (insT F x).Nodup := by
  unfold insT
  split
  · exact h
  · rename_i hx
    rw [List.nodup_append]
    refine ⟨h, by simp, ?_⟩
    intro a ha b hb e
    rw [List.mem_singleton] at hb
    subst hb
    subst e
    exact hx ha
/-- only what can be made, each once -/
structure Snd (B : Bk) (R : List Row) (F : List Th) : Prop where
  nd : F.Nodup
  ok : ∀ t ∈ F, Mak B R t
theorem Snd.len {B : Bk} {R : List Row} (g : GoodB B) {F : List Th} (s : Snd B R F) : F.length ≤ R.length * B.nk := by
  rw [← allT_len]
  exact nodup_len s.nd fun t ht => mem_allT.mpr ((s.ok t ht).lt g)
theorem Snd.ins {B : Bk} {R : List Row} {F : List Th} (s : Snd B R F) {t : Th} (h : Mak B R t) : Snd B R (insT F t) := ⟨nodup_insT s.nd, fun u hu => by
  rcases mem_insT.mp hu with q | rfl
  · exact s.ok u q
  · exact h⟩
theorem Snd.nil {B : Bk} {R : List Row} : Snd B R [] := ⟨List.nodup_nil, fun _ h => nomatch h⟩
/-- all of the values below n -/
def Cpl (B : Bk) (R : List Row) (n : Nat) (F : List Th) : Prop := ∀ t : Th, t.1 < n → Mak B R t → t ∈ F
theorem Snd.fin {B : Bk} {R : List Row} (g : GoodB B) {F ys : List Th} (s : Snd B R F) (c : Cpl B R R.length F) (hp : ys.Perm F) (ha : ys.Pairwise ltT) : ys = makM B R :=
  asc_uniq ha asc_makM fun t => by
    rw [hp.mem_iff, mem_makM g]
    exact ⟨s.ok t, fun h => c t (h.lt g).1 h⟩
/-! kinds of one value, by moves -/
structure KSnd (B : Bk) (R : List Row) (n : Nat) (A : List Nat) : Prop where
  nd : A.Nodup
  ok : ∀ κ ∈ A, Mak B R (n, κ)
theorem KSnd.len {B : Bk} {R : List Row} (g : GoodB B) {n : Nat} {A : List Nat} (s : KSnd B R n A) : A.length ≤ B.nk := by
  have := nodup_len (L := List.range B.nk) s.nd fun κ hκ => List.mem_range.mpr ((s.ok κ hκ).lt g).2
  rwa [List.length_range] at this
theorem KSnd.ins {B : Bk} {R : List Row} {n : Nat} {A : List Nat} (s : KSnd B R n A) {κ : Nat} (h : Mak B R (n, κ)) : KSnd B R n (ins A κ) := ⟨nodup_ins s.nd, fun u hu => by
  rcases mem_ins.mp hu with q | rfl
  · exact s.ok u q
  · exact h⟩
def RulesIn (B : Bk) (R : List Row) (n : Nat) (F : List Th) (A : List Nat) (i : Nat) : Prop := ∀ k, k < i → k < B.rs.length → (rAt B.rs k).op = (rowAt R n).1 → (∀ u ∈ List.zip (parts R n) (rAt B.rs k).src, u ∈ F) → (rAt B.rs k).kind ∈ A
def MovesIn (B : Bk) (A : List Nat) (i : Nat) : Prop := ∀ k, k < i → k < B.ms.length → (mAt B.ms k).src ∈ A → (mAt B.ms k).kind ∈ A
theorem kinds_all {B : Bk} {R : List Row} (gr : Good R) {n : Nat} {F : List Th} {A : List Nat} (c : Cpl B R n F) (hr : RulesIn B R n F A B.rs.length) (hm : MovesIn B A B.ms.length) : ∀ {t : Th}, Mak B R t → t.1 = n → t.2 ∈ A := by
  intro t h
  induction h with
  | @mk t w h1 h2 h3 ih =>
    intro e
    obtain ⟨b, k⟩ := w
    cases b with
    | false =>
      obtain ⟨a1, a2⟩ := mem_waysF.mp h2
      have := ih (t.1, (mAt B.ms k).src) (List.mem_singleton.mpr rfl) e
      rw [← a2]
      exact hm k a1 a1 this
    | true =>
      obtain ⟨a1, a2, a3⟩ := mem_waysT.mp h2
      rw [← a3]
      refine hr k a1 a1 (by rw [a2, e]) fun u hu => ?_
      have hu' : u ∈ needsM B R t (true, k) := mem_lotT.mpr (by rw [e]; exact hu)
      exact c u (by have := need_part gr hu'; omega) (h3 u hu')
theorem mak_rule {B : Bk} {R : List Row} {n k : Nat} {F : List Th} (hn : n < R.length) (s : ∀ t ∈ F, Mak B R t) (hk : k < B.rs.length) (ho : (rAt B.rs k).op = (rowAt R n).1) (h : ∀ u ∈ List.zip (parts R n) (rAt B.rs k).src, u ∈ F) : Mak B R (n, (rAt B.rs k).kind) :=
  .mk (true, k) hn (mem_waysT.mpr ⟨hk, ho, rfl⟩) fun u hu => s u (h u (mem_lotT.mp hu))
theorem mak_move {B : Bk} {R : List Row} {n k : Nat} (hn : n < R.length) (hk : k < B.ms.length) (h : Mak B R (n, (mAt B.ms k).src)) : Mak B R (n, (mAt B.ms k).kind) :=
  .mk (false, k) hn (mem_waysF.mpr ⟨hk, rfl⟩) fun u hu => by
    rw [List.mem_singleton.mp hu]
    exact h
/-! by rounds -/
def cnt (nk n : Nat) (F : List Th) : Nat := ((List.range nk).filter fun κ => decide ((n, κ) ∈ F)).length
theorem filter_le {α : Type} {p q : α → Bool} : ∀ {l : List α}, (∀ x ∈ l, p x = true → q x = true) → (l.filter p).length ≤ (l.filter q).length
  | [], _ => Nat.le_refl _
  | a :: l, h => by
    have ih := filter_le (l := l) fun x hx => h x (List.mem_cons_of_mem _ hx)
    have ha := h a List.mem_cons_self
    rw [List.filter_cons, List.filter_cons]
    by_cases hp : p a = true
    · rw [if_pos hp, if_pos (ha hp), List.length_cons, List.length_cons]
      omega
    · rw [if_neg hp]
      split
      · rw [List.length_cons]
        omega
      · exact ih
theorem filter_lt {α : Type} {p q : α → Bool} : ∀ {l : List α} {a : α}, (∀ x ∈ l, p x = true → q x = true) → a ∈ l → q a = true → p a = false → (l.filter p).length < (l.filter q).length
  | b :: l, a, h, ha, hq, hp => by
    have hl : ∀ x ∈ l, p x = true → q x = true := fun x hx => h x (List.mem_cons_of_mem _ hx)
    rw [List.filter_cons, List.filter_cons]
    rcases List.mem_cons.mp ha with rfl | ha
    · rw [if_neg (by rw [hp]; decide), if_pos hq, List.length_cons]
      have := filter_le hl
      omega
    · have ih := filter_lt hl ha hq hp
      have hb := h b List.mem_cons_self
      by_cases hpb : p b = true
      · rw [if_pos hpb, if_pos (hb hpb), List.length_cons, List.length_cons]
        omega
      · rw [if_neg hpb]
        split
        · rw [List.length_cons]
          omega
        · exact ih
theorem cnt_full {nk n : Nat} {F : List Th} (h : nk ≤ cnt nk n F) {κ : Nat} (hκ : κ < nk) : (n, κ) ∈ F := by
  unfold cnt at h
  have h1 := List.length_filter_le (fun κ => decide ((n, κ) ∈ F)) (List.range nk)
  rw [List.length_range] at h1
  have h2 : ((List.range nk).filter fun κ => decide ((n, κ) ∈ F)).length = (List.range nk).length := by rw [List.length_range]; omega
  have h3 := List.length_filter_eq_length_iff.mp h2 κ (List.mem_range.mpr hκ)
  exact of_decide_eq_true h3
def Cp1 (B : Bk) (R : List Row) (n : Nat) (F : List Th) : Prop := ∀ κ, Mak B R (n, κ) → (n, κ) ∈ F
theorem next_one {B : Bk} {R : List Row} (gr : Good R) {n : Nat} {F : List Th} (c : Cpl B R n F) {t : Th} (h : Mak B R t) : t.1 = n → t ∉ F → ∃ κ w, (n, κ) ∉ F ∧ Mak B R (n, κ) ∧ w ∈ waysM B R (n, κ) ∧ ∀ u ∈ needsM B R (n, κ) w, u ∈ F := by
  induction h with
  | @mk t w h1 h2 h3 ih =>
    intro e hn
    obtain ⟨m, κ⟩ := t
    have e' : m = n := e
    subst e'
    by_cases hall : ∀ u ∈ needsM B R (m, κ) w, u ∈ F
    · exact ⟨κ, w, hn, .mk w h1 h2 h3, h2, hall⟩
    · obtain ⟨u, hu⟩ := Classical.not_forall.mp hall
      obtain ⟨hu1, hu2⟩ := Classical.not_imp.mp hu
      refine ih u hu1 ?_ hu2
      obtain ⟨b, k⟩ := w
      cases b with
      | false =>
        rw [List.mem_singleton.mp hu1]
      | true => exact absurd (c u (need_part gr hu1) (h3 u hu1)) hu2
/-- one round -/
theorem turn_step {B : Bk} {R : List Row} (g : GoodB B) (gr : Good R) {n τ : Nat} {F F' : List Th} (c : Cpl B R n F) (h : Cp1 B R n F ∨ τ ≤ cnt B.nk n F) (hs : ∀ t ∈ F, t ∈ F')
    (hc : ∀ κ, κ < B.nk → ∀ w ∈ waysM B R (n, κ), (∀ u ∈ needsM B R (n, κ) w, u ∈ F) → (n, κ) ∈ F') : Cp1 B R n F' ∨ τ + 1 ≤ cnt B.nk n F' := by
  rcases Classical.em (Cp1 B R n F) with q | q
  · exact Or.inl fun κ m => hs _ (q κ m)
  · have h := h.resolve_left q
    obtain ⟨κ, hκ⟩ := Classical.not_forall.mp q
    obtain ⟨h1, h2⟩ := Classical.not_imp.mp hκ
    obtain ⟨κ', w, n1, n2, n3, n4⟩ := next_one gr c h1 rfl h2
    have l := (n2.lt g).2
    have := filter_lt (l := List.range B.nk) (p := fun κ => decide ((n, κ) ∈ F)) (q := fun κ => decide ((n, κ) ∈ F')) (a := κ') (fun x _ hx => decide_eq_true (hs _ (of_decide_eq_true hx))) (List.mem_range.mpr l) (decide_eq_true (hc κ' l w n3 n4)) (decide_eq_false n1)
    refine Or.inr ?_
    unfold cnt at h ⊢
    omega
theorem turns_end {B : Bk} {R : List Row} (g : GoodB B) {n : Nat} {F : List Th} (c : Cpl B R n F) (h : Cp1 B R n F ∨ B.nk ≤ cnt B.nk n F) : Cpl B R (n + 1) F := by
  have h' : Cp1 B R n F := by
    rcases h with h | h
    · exact h
    · exact fun κ m => cnt_full h (m.lt g).2
  intro t ht m
  rcases Nat.lt_or_ge t.1 n with q | q
  · exact c t q m
  · have e : t = (n, t.2) := Prod.ext (by omega) rfl
    rw [e] at m ⊢
    exact h' _ m
/-- a thing can be made just if one of its ways can -/
theorem mak_iff {B : Bk} {R : List Row} {t : Th} (ht : t.1 < R.length) : Mak B R t ↔ ∃ w ∈ waysM B R t, ∀ u ∈ needsM B R t w, Mak B R u :=
  ⟨fun h => by
    cases h with
    | mk w h1 h2 h3 => exact ⟨w, h2, h3⟩, fun ⟨w, h2, h3⟩ => .mk w ht h2 h3⟩
end Lk
/-! dict comprehensions whose keys are tuples: my own rule beside the layer's for ints and texts -/
namespace DcG
open PySem PySem.Spec PyProof.Rows L2
theorem put_any {X : Cx} {pins : List (Addr × Obj)} {σ : L2.St} {H H' : Hp} {s : Shared} {E : Value → Shared → Prop} {D : Addr} {y v : V} {u r : Value} {Q : Unit → Shared → Prop} (hu : X.A.units + 1 < cLine) (I : Inv X pins σ H s) (g : DPut H D y v H')
    (ry : RelV y u) (rv : RelV v r) (q : ∀ s', Inv X pins σ H' s' → Q () s') : wpAny (model X.prog X.w) X.A (dictSet D u r) Q E s := by
  rcases g with ⟨kvs, k, e, ey, l, eH⟩ | ⟨kvs, k, b, e, ey, eb, l, eH⟩
  · subst ey eH
    exact d_dictSet I e l ry rv q
  · subst ey eH
    cases (show u = Value.ref b from ry)
    obtain ⟨z, hd, xs, rel, dd⟩ := dt_of I.hok e
    have z1 : xs.length ≤ sizeLine := by rw [← Paired.length rel]; exact z
    have z2 : (putK kvs k v).length ≤ sizeLine := by
      have := length_putK kvs k v
      omega
    refine wpAny_dictSet_heap (knd := tupleKind (mixKind X.prog X.w)) (hsz := z1) (show X.A.units < cLine by omega) (key_of I.hok eb) dd fun h' dd' hs => q _ ?_
    obtain ⟨ob, es, ep, g1, g2, g3, g4, _, g5⟩ := dd'
    refine d_write I (by rw [e]; exact True.intro) hs ⟨ob, g1⟩ ⟨z2, hd, _, (rel.put k eb rv).keeps fun c ys ec => ?_, ob, es, ep, g1, g2, g3, g4, g5⟩
    rw [upd_ne (ne_of ec e (fun z => nomatch z))]
    exact ec
/-- {k: v for target in iter if ..} with a new dict that begins as o0; each pair is put as DPut says -/
def tDg (o0 : HO) (wi : TI) (g : TG) (tt : TT) (tk tv : TE) (vs : List Nat) : TE := fun σ H Q =>
  wi σ H fun J H1 => ∀ D, H1 D = none → ∃ W : Nat → Nat → Hp → Prop, (∃ m, W 0 m (upd H1 D o0)) ∧ ∀ i m H, W i m H →
    (J.stop i H ∧ Q (.ref D) H) ∨ (J.go i H ∧ ∃ Nx : Hp → Prop, (∀ H', Nx H' → ∃ m', m' < m ∧ W (i + 1) m' H') ∧
      ∀ x H', J.yld i H x H' → g x (wipe σ vs) H' fun σ2 H2 => wipe σ2 vs = wipe σ vs ∧ tt σ2 H2 fun b H3 =>
        if b = true then tk σ2 H3 fun y H4 => tv σ2 H4 fun z H5 => ∃ H6, DPut H5 D y z H6 ∧ Nx H6 else Nx H3)
section
variable {X : Cx}
theorem core {o0 : HO} (emp : ∀ (P : Program) (w : World) (H : Hp) (h : Heap), sysModules < h.objs.size → ObjOk P w H (h.push { cls := .type "dict", data := .dict #[] }) h.objs.size o0)
    {pins : List (Addr × Obj)} {s : Shared} {σ : L2.St} {H : Hp} {Q : VK} {kx vx tg it0 : Expr} {ifs : List Expr} {scp : Scope} {own : List (Str × Nat)} {pos pos' : Pos} {wi : TI} {g : TG} {tt : TT} {tk tv : TE} {use : Option (Value → Sem Unit)} {Qf : Value → Shared → Prop}
    (hu : X.A.units + 1 < cLine) (hc : X.calm = true) (hN : X.N.Nodup) (I : Inv X pins σ H s) (hi : PI X tg it0 wi) (ok : BlkOk X.N X.env.scope scp own)
    (hg : ∀ (s : Shared) (H : Hp) (C : Addr) (cl : List (Str × Addr)) (fp : List Addr), PG (X.blk s H scp (compEnvC scp cl C X.env) fp) tg g)
    (ht : ∀ (s : Shared) (H : Hp) (C : Addr) (cl : List (Str × Addr)) (fp : List Addr), PTs (X.blk s H scp (compEnvC scp cl C X.env) fp) ifs tt)
    (hk : ∀ (s : Shared) (H : Hp) (C : Addr) (cl : List (Str × Addr)) (fp : List Addr), PE (X.blk s H scp (compEnvC scp cl C X.env) fp) kx tk)
    (he : ∀ (s : Shared) (H : Hp) (C : Addr) (cl : List (Str × Addr)) (fp : List Addr), PE (X.blk s H scp (compEnvC scp cl C X.env) fp) vx tv) (hs : ∀ x, foldedSetIterable it0 X.env x = pure x)
    (h : tDg o0 wi g tt tk tv (own.map (·.2)) σ H Q)
    (back : ∀ D C s' m H', Inv X pins σ H' s' → Q (.ref D) H' → s'.heap.Ns C m → FpOk X pins H' C → compPost (model X.prog X.w) X.A X.xe use Qf (.ref D) C (.ok .next) s') :
    wpAny (model X.prog X.w) X.A (comprehension (.DictComp kx vx [⟨tg, it0, ifs, 0⟩] scp pos) scp X.env pos' newDict false (eval it0 X.env) use) Qf X.xe s := by
  have fr : ∀ y ∈ scp.names, y.2 = .free → ∃ c, X.env.cells.lookup y.1 = some c := by
    intro y hy e
    rcases ok.free y hy e with k | k
    · exact I.ok.has _ (Or.inl k)
    · exact I.ok.has _ (Or.inr k)
  refine wpAny_comprehension_free (use := use) rfl hs (closure_ok fr) ok.kind (fun y hy e => by rw [ok.uniq y hy, e]) (thn (hi.run pins s σ H _ I h) fun xv a1 hx => thn hx fun itv a2 h2 => ?_)
  obtain ⟨it, fp, tn, J, Ha, rfl, Ia, T, sta, fa, q⟩ := h2
  refine wpAny_newObj_type (newEnv_comp ?_)
  obtain ⟨D, hD⟩ : ∃ D, a2.heap.objs.size = D := ⟨_, rfl⟩
  rw [hD]
  obtain ⟨W, ⟨m0, w0⟩, turn⟩ := q D (Ia.hok.fresh (Nat.le_of_eq hD))
  obtain ⟨a3, hs3⟩ : ∃ a3 : Shared, ({ a2 with heap := a2.heap.push { cls := .type "dict", data := .dict #[] } } : Shared) = a3 := ⟨_, rfl⟩
  rw [hs3]
  have Ib : Inv X pins σ (upd Ha D o0) a3 := by
    rw [← hs3]
    refine Ia.laid (t' := a2.toks) (fun b o e => Heap.get?_push_of_some _ e) (Nat.le_of_eq hD) ?_
    rw [← hD]
    exact emp _ _ _ a2.heap Ia.big
  have hh3 : a3.heap = a2.heap.push { cls := .type "dict", data := .dict #[] } := by rw [← hs3]
  have sz : ∀ b ∈ fp, b < a2.heap.objs.size := by
    intro b hb
    obtain ⟨o, e, _⟩ := T.obj _ _ sta b hb
    exact Heap.lt_size e
  have fb : ∀ b ∈ fp, FpOk X pins (upd Ha D o0) b ∧ b < a3.heap.objs.size := by
    intro b hb
    have hlt := sz b hb
    refine ⟨⟨?_, (fa b hb).2⟩, by rw [hh3, Heap.size_push]; exact Nat.lt_succ_of_lt hlt⟩
    rw [upd_ne (by rw [← hD]; exact Nat.ne_of_lt hlt)]
    exact (fa b hb).1
  have stb : tn 0 a3.heap := T.keep _ _ _ sta fun b _ o e => by
    rw [hh3]
    exact Heap.get?_push_of_some _ e
  have Ic := block_start Ib ok hN fb
  have rg := hg a3 (upd Ha D o0) a3.heap.objs.size (cellsFrom (a3.heap.objs.size + 1) scp.names (cloFrom X.env.cells scp.names [])) fp
  have rt := ht a3 (upd Ha D o0) a3.heap.objs.size (cellsFrom (a3.heap.objs.size + 1) scp.names (cloFrom X.env.cells scp.names [])) fp
  have rk := hk a3 (upd Ha D o0) a3.heap.objs.size (cellsFrom (a3.heap.objs.size + 1) scp.names (cloFrom X.env.cells scp.names [])) fp
  have rv := he a3 (upd Ha D o0) a3.heap.objs.size (cellsFrom (a3.heap.objs.size + 1) scp.names (cloFrom X.env.cells scp.names [])) fp
  show codeAny _ _ (.compStart (.DictComp kx vx [⟨tg, it0, ifs, 0⟩] scp pos) 0 (.ref it) (.ref D) (compEnvC scp (cellsFrom (a3.heap.objs.size + 1) scp.names (cloFrom X.env.cells scp.names [])) a3.heap.objs.size X.env))
    (compPost (model X.prog X.w) X.A X.xe use Qf (.ref D) a3.heap.objs.size) { a3 with heap := pushCells (a3.heap.push { cls := .type "dict", data := .dict #[] }) scp.names }
  have nb : ∀ b ∈ fp, (upd Ha D o0) b = none := fun b hb => (fb b hb).1.1
  generalize hce : compEnvC scp (cellsFrom (a3.heap.objs.size + 1) scp.names (cloFrom X.env.cells scp.names [])) a3.heap.objs.size X.env = ce at Ic rg rt rk rv ⊢
  have cl : ce.locals = a3.heap.objs.size := by
    subst hce
    rfl
  generalize hHb : upd Ha D o0 = Hb at Ib Ic rg rt rk rv w0 nb fb
  generalize hs4 : ({ a3 with heap := pushCells (a3.heap.push { cls := .type "dict", data := .dict #[] }) scp.names } : Shared) = a4 at Ic ⊢
  have stc : tn 0 a4.heap := T.keep _ _ _ stb fun b _ o e => by
    rw [← hs4]
    exact pushCells_keeps _ _ _ _ (Heap.get?_push_of_some _ e)
  have stat : ∀ {σ' : L2.St} {H' : Hp} {s' : Shared}, Inv (X.blk a3 Hb scp ce fp) [] σ' H' s' → (∀ b ∈ fp, H' b = none) → ∀ b ∈ fp, FpOk (X.blk a3 Hb scp ce fp) [] H' b := by
    intro σ' H' s' I' hn b hb
    exact ⟨hn b hb, (I'.ok.exf b hb).1, I'.ok.exfs b hb, .inl hb, fun x c e => (I'.ok.exf b hb).2 x c e, fun p hp => absurd (show p ∈ ([] : List (Addr × Obj)) ++ [] from hp) (by simp)⟩
  have loop : codeAny (model X.prog X.w) X.A (.compLoop (.DictComp kx vx [⟨tg, it0, ifs, 0⟩] scp pos) 0 (.ref it) (.ref D) ce) (compPost (model X.prog X.w) X.A X.xe use Qf (.ref D) a3.heap.objs.size) a4 := by
    refine compLoop_anyD (fun n s' => ∃ i H', Inv (X.blk a3 Hb scp ce fp) [] (wipe σ (own.map (·.2))) H' s' ∧ tn i s'.heap ∧ (∀ b ∈ fp, H' b = none) ∧ W i n H') ?_ m0 ⟨0, Hb, Ic, stc, nb, w0⟩
    intro n a5 hall
    obtain ⟨i, H5, I5, st5, n5, w5⟩ := hall
    rcases turn i n H5 w5 with ⟨stop, qq⟩ | ⟨go, Nx, hNx, step⟩
    · refine thnF (T.done (X.blk a3 Hb scp ce fp) rfl rfl rfl hc i [] a5 _ H5 (fun _ _ => False) I5 (stat I5 n5) st5 stop) fun r a6 z => ?_
      obtain ⟨rfl, I6⟩ := z
      have I7 : Inv X pins σ H5 a6 := Ib.call' (ch := fp) I6.os I6.base I6.hok I6.bare fun b hb => ⟨(fb b hb).1.2.2.2.1, (fb b hb).1.2.1, (fb b hb).1.2.2.2.2.1, (fb b hb).1.2.2.2.2.2⟩
      have nC : H5 a3.heap.objs.size = none := cl ▸ (show H5 ce.locals = none from I6.free)
      obtain ⟨m, hn, _⟩ := I6.loc
      have hn : a6.heap.Ns ce.locals m := hn
      rw [cl] at hn
      exact back D a3.heap.objs.size a6 m H5 I7 qq hn (Ib.fpOk (Nat.le_refl _) nC)
    · refine thnF (T.item (X.blk a3 Hb scp ce fp) rfl rfl rfl hc i [] a5 _ H5 (fun _ _ => False) I5 (stat I5 n5) st5 go) fun r a6 z => ?_
      obtain ⟨u, rfl, h6⟩ := z
      refine thnF h6 fun _ a7 z => ?_
      obtain ⟨x, H7, I7, r7, y7, st7, n7⟩ := z
      have I7p := I7.pinned (stat I7 n7) (T.obj _ _ st7)
      refine thnF (rg.run _ a7 _ H7 x u _ I7p r7 (step x H7 y7)) fun _ a8 z => ?_
      obtain ⟨σ8, H8, I8, hw8, q8⟩ := z
      refine thnF (rt.run _ a8 σ8 H8 _ I8 q8) fun b a9 z => ?_
      obtain ⟨H9, I9, q9⟩ := z
      have fin : ∀ {s' : Shared} {H' : Hp}, Inv (X.blk a3 Hb scp ce fp) ([] ++ pinsAt fp a7.heap) σ8 H' s' → Nx H' → ∃ m, m < n ∧ ∃ i H', Inv (X.blk a3 Hb scp ce fp) [] (wipe σ (own.map (·.2))) H' s' ∧ tn i s'.heap ∧ (∀ b ∈ fp, H' b = none) ∧ W i m H' := by
        intro s' H' I' nx
        obtain ⟨m', hm, w'⟩ := hNx H' nx
        have pin : ∀ b ∈ fp, ∀ o, a7.heap.get? b = some o → s'.heap.get? b = some o ∧ H' b = none := by
          intro b hb o e
          have z := I'.pin (b, o) (List.mem_append_right _ (List.mem_append_right _ (mem_pinsAt hb e)))
          exact ⟨z.1, z.2.1⟩
        have hl : (wipe σ (own.map (·.2))).length = σ8.length := by rw [← hw8, wipe_length]
        refine ⟨m', hm, i + 1, H', (I'.unpinned (pins := [])).weak hl (fun j v e => ?_), T.keep _ _ _ st7 fun b hb o e => (pin b hb o e).1, fun b hb => ?_, w'⟩
        · rw [← hw8] at e
          exact (wipe_some e).1
        · obtain ⟨o, e, _⟩ := T.obj _ _ st7 b hb
          exact (pin b hb o e).2
      cases b with
      | false =>
        simp only [Bool.false_eq_true, if_false] at q9 ⊢
        exact fin I9 q9
      | true =>
        simp only [if_true] at q9 ⊢
        refine thnF (rk.run _ a9 σ8 H9 _ I9 q9) fun z aa zz => ?_
        obtain ⟨yk, Hc, Icc, rc, qc⟩ := zz
        refine thnF (rv.run _ aa σ8 Hc _ Icc qc) fun z2 ab zz => ?_
        obtain ⟨yv, Hd, Idd, rd, He, dp, nx⟩ := zz
        exact put_any (X := X.blk a3 Hb scp ce fp) hu Idd dp rc rd fun ac Iac => fin Iac nx
  exact codeAny_compStart_dict loop (T.self X.A 0 _ _ _ stc loop)
theorem pe_dcT {kx vx tg it0 : Expr} {ifs : List Expr} {scp : Scope} {own : List (Str × Nat)} {pos : Pos} {wi : TI} {g : TG} {tt : TT} {tk tv : TE} (hu : X.A.units + 1 < cLine) (hc : X.calm = true) (hN : X.N.Nodup) (hi : PI X tg it0 wi) (ok : BlkOk X.N X.env.scope scp own)
    (hg : ∀ (s : Shared) (H : Hp) (C : Addr) (cl : List (Str × Addr)) (fp : List Addr), PG (X.blk s H scp (compEnvC scp cl C X.env) fp) tg g)
    (ht : ∀ (s : Shared) (H : Hp) (C : Addr) (cl : List (Str × Addr)) (fp : List Addr), PTs (X.blk s H scp (compEnvC scp cl C X.env) fp) ifs tt)
    (hk : ∀ (s : Shared) (H : Hp) (C : Addr) (cl : List (Str × Addr)) (fp : List Addr), PE (X.blk s H scp (compEnvC scp cl C X.env) fp) kx tk)
    (he : ∀ (s : Shared) (H : Hp) (C : Addr) (cl : List (Str × Addr)) (fp : List Addr), PE (X.blk s H scp (compEnvC scp cl C X.env) fp) vx tv) (hs : ∀ x, foldedSetIterable it0 X.env x = pure x := by intro _; rfl) :
    PE X (.DictComp kx vx [⟨tg, it0, ifs, 0⟩] scp pos) (tDg (.dT []) wi g tt tk tv (own.map (·.2))) := by
  refine ⟨fun pins s σ H Q I h => ?_⟩
  rw [arm_eval_DictComp]
  refine core (fun _ _ _ h hb => dt_empty h hb) hu hc hN I hi ok hg ht hk he hs h fun D C s' m H' I' q hn f => ⟨m, hn, fun h2 sb => ?_⟩
  obtain ⟨f0, f1, f2, f3, f4, f5⟩ := f
  exact ⟨.ref D, H', I'.turned (t' := s'.toks) (fun b o hb e => (sb.2 b hb).trans e) f0 f1 f3 f4 f5, rfl, q⟩
end
theorem dg_it {o0 : HO} {J : It} {n : Nat} {G : Hp → Prop} {Y : Nat → Hp → V → Hp → Prop} (w : Walk J n G Y) {g : TG} {tt : TT} {tk tv : TE} {vs : List Nat} {σ : L2.St} {H1 : Hp} {D : Addr} {Qd : Hp → Prop} (Pv : Nat → Hp → Prop) (h0 : Pv 0 (upd H1 D o0)) (hG : ∀ i H, i ≤ n → Pv i H → G H)
    (hs : ∀ i x H H', i < n → Pv i H → Y i H x H' → g x (wipe σ vs) H' fun σ2 H2 => wipe σ2 vs = wipe σ vs ∧ tt σ2 H2 fun b H3 => if b = true then tk σ2 H3 fun y H4 => tv σ2 H4 fun z H5 => ∃ H6, DPut H5 D y z H6 ∧ Pv (i + 1) H6 else Pv (i + 1) H3) (hd : ∀ H, Pv n H → Qd H) :
    ∃ W : Nat → Nat → Hp → Prop, (∃ m, W 0 m (upd H1 D o0)) ∧ ∀ i m H, W i m H → (J.stop i H ∧ Qd H) ∨ (J.go i H ∧ ∃ Nx : Hp → Prop, (∀ H', Nx H' → ∃ m', m' < m ∧ W (i + 1) m' H') ∧
      ∀ x H', J.yld i H x H' → g x (wipe σ vs) H' fun σ2 H2 => wipe σ2 vs = wipe σ vs ∧ tt σ2 H2 fun b H3 => if b = true then tk σ2 H3 fun y H4 => tv σ2 H4 fun z H5 => ∃ H6, DPut H5 D y z H6 ∧ Nx H6 else Nx H3) := by
  refine ⟨fun i m H => m = n - i ∧ i ≤ n ∧ Pv i H, ⟨n, by simp, Nat.zero_le _, h0⟩, ?_⟩
  intro i m H hW
  obtain ⟨em, hi, p⟩ := hW
  subst em
  by_cases hlt : i < n
  · exact Or.inr ⟨w.goes i H hlt (hG i H hi p), Pv (i + 1), fun H' p' => ⟨n - (i + 1), by omega, rfl, hlt, p'⟩, fun x H' y => hs i x H H' hlt p (w.yields i H x H' hlt (hG i H hi p) y)⟩
  · have e : i = n := by omega
    subst e
    exact Or.inl ⟨w.stops H (hG i H hi p), hd H p⟩
end DcG
/-! zip of two tuples whose pairs are kept by a name: my own rule beside the layer's for pairs that are unpacked -/
namespace ZpN
open PySem PySem.Spec PyProof.Rows L2
/-- a zip that may have a pair of its own out -/
def At (h : Heap) (z TI TO : Addr) : Prop := ∃ (o1 : Value) (f : Bool), (o1 = .none ∨ ∃ T : Addr, o1 = rawInt T) ∧ h.get? z = some { cls := .type "zip", dict := none, data := .fields #[o1, .bool f, .bool false, .ref TI, .ref TO], slots := #[] }
section
variable {prog : Program} {w : World} {A : Around} {E : Value → Shared → Prop} {s : Shared}
theorem alive {a : Addr} {Q : Option Obj → Shared → Prop} (q : Q (s.heap.get? a) s) : wpAny (model prog w) A (loadIfAlive a) Q E s := fun _ _ _ => q
theorem isFree {z TI TO : Addr} {Q : Bool → Shared → Prop} (hz : At s.heap z TI TO) (q1 : Q true s) (q2 : ∀ h', At h' z TI TO → Heap.SameBut z s.heap h' → Q false { s with heap := h' }) :
    wpAny (model prog w) A (Builtin.SmallTypes.ownedTupleIsFree (.ref z)) Q E s := by
  obtain ⟨o1, f, ho, hz⟩ := hz
  unfold Builtin.SmallTypes.ownedTupleIsFree
  refine wpAny_bind (wpAny_field hz rfl (x := o1) rfl ?_)
  rcases ho with rfl | ⟨T, rfl⟩
  · exact wpAny_pure q1
  · show wpAny _ _ (loadIfAlive ((T : Int).toNat) >>= _) _ _ _
    rw [Int.toNat_natCast]
    refine wpAny_bind (alive ?_)
    cases s.heap.get? T with
    | none =>
      simp only [Option.isNone_none, if_true]
      exact wpAny_pure q1
    | some oT =>
      simp only [Option.isNone_some, Bool.false_eq_true, if_false]
      refine wpAny_bind (wpAny_field hz rfl (x := .bool f) rfl ?_)
      cases f with
      | true =>
        rw [if_neg (show ¬ ((Value.bool true != Value.bool true) = true) from Bool.false_ne_true)]
        exact wpAny_pure (q2 s.heap ⟨_, _, Or.inr ⟨T, rfl⟩, hz⟩ (Heap.SameBut.refl _ _))
      | false =>
        rw [if_pos (show (Value.bool false != Value.bool true) = true from rfl)]
        exact wpAny_bind (wpAny_setField_rec hz (by simp) fun h1 hz1 hs1 => wpAny_pure (q2 h1 ⟨_, _, Or.inr ⟨T, rfl⟩, hz1⟩ hs1))
/-- the next pair, a new tuple -/
theorem next1 {z TI TO i1 i2 l1 l2 : Addr} {k1 k2 : Nat} {xs ys : Array Value} {x y a b : Value} {Q : Value → Shared → Prop} (D : ZipApart z TI TO i1 i2 l1 l2)
    (hz : At s.heap z TI TO) (hTI : IsPair s.heap TI (.ref i1) (.ref i2)) (hTO : IsPair s.heap TO a b) (h1 : s.heap.IsTupleIter i1 l1 k1) (h2 : s.heap.IsTupleIter i2 l2 k2)
    (hl1 : s.heap.IsTuple l1 xs) (hl2 : s.heap.IsTuple l2 ys) (hx : xs[k1]? = some x) (hy : ys[k2]? = some y)
    (q : ∀ h', At h' z TI TO → (∃ a b, IsPair h' TO a b) → h'.IsTupleIter i1 l1 (k1 + 1) → h'.IsTupleIter i2 l2 (k2 + 1) → IsPair h' s.heap.objs.size x y → h'.objs.size = s.heap.objs.size + 1 →
      (∀ c o, c ≠ z → c ≠ TO → c ≠ i1 → c ≠ i2 → s.heap.get? c = some o → h'.get? c = some o) → Q (.ref s.heap.objs.size) { s with heap := h' }) :
    wpAny (model prog w) A (Builtin.«zip.__next__» ⟨[.ref z], []⟩) (fun fin s' => ∃ v, fin = .done (.ret v) ∧ Q v s') E s := by
  obtain ⟨o1, f, ho, hzz⟩ := id hz
  show wpAny _ _ (field (.ref z) 2 >>= _) _ _ _
  refine wpAny_bind (wpAny_field hzz rfl (x := .bool false) rfl ?_)
  show wpAny _ _ (field (.ref z) 3 >>= _) _ _ _
  refine wpAny_bind (wpAny_field hzz rfl (x := .ref TI) rfl ?_)
  refine wpAny_bind (wpAny_seqItems hTI rfl ?_)
  show wpAny _ _ (Builtin.SmallTypes.ownedTupleIsFree (.ref z) >>= _) _ _ _
  refine wpAny_bind (isFree hz ?_ fun g1 hz1 sb1 => ?_)
  · simp only [if_true]
    refine wpAny_bind (wpAny_rule (wpAny_bind (wpAny_field hzz rfl (x := .ref TO) rfl (wpAny_bind (wpAny_setField_rec hzz (by simp) fun g1 hz1 sb1 => ?_)))))
    refine wpAny_bind ?_
    simp only [List.zipIdx_cons, List.zipIdx_nil, List.forIn_cons, List.forIn_nil]
    refine wpAny_bind (wpAny_bind (wpAny_onRaise ?_))
    show wpAny _ _ (Builtin.SmallTypes.nextOf (.ref i1) >>= _) _ _ _
    refine wpAny_bind (wpAny_nextOf_tuple_item (h1.extBut sb1.extBut D.i1z) (hl1.extBut sb1.extBut D.l1z) hx fun g2 n1 sb2 => wpAny_pure ?_)
    have t2 : IsPair g2 TO a b := sb2.extBut _ _ D.TOi1 (sb1.extBut _ _ D.TOz hTO)
    refine wpAny_bind (wpAny_seqItems t2 rfl (wpAny_bind (wpAny_updateSeq_pair t2 fun g3 t3 sb3 => wpAny_bind (wpAny_letGo (wpAny_pure ?_)))))
    replace t3 : IsPair g3 TO x b := t3
    refine wpAny_bind (wpAny_bind (wpAny_onRaise ?_))
    show wpAny _ _ (Builtin.SmallTypes.nextOf (.ref i2) >>= _) _ _ _
    refine wpAny_bind (wpAny_nextOf_tuple_item (((h2.extBut sb1.extBut D.i2z).extBut sb2.extBut D.i12.symm).extBut sb3.extBut D.TOi2.symm) (((hl2.extBut sb1.extBut D.l2z).extBut sb2.extBut D.l2i1).extBut sb3.extBut D.l2TO) hy fun g4 n2 sb4 => wpAny_pure ?_)
    have t4 : IsPair g4 TO x b := sb4.extBut _ _ D.TOi2 t3
    refine wpAny_bind (wpAny_seqItems t4 rfl (wpAny_bind (wpAny_updateSeq_pair t4 fun g5 t5 sb5 => wpAny_bind (wpAny_letGo (wpAny_pure (wpAny_pure ?_))))))
    replace t5 : IsPair g5 TO x y := t5
    refine wpAny_bind (wpAny_seqItems t5 rfl (wpAny_bind (wpAny_newTuple ?_)))
    have sz : g5.objs.size = s.heap.objs.size := by rw [sb5.1, sb4.1, sb3.1, sb2.1, sb1.1]
    have z5 := sb5.extBut _ _ D.TOz.symm (sb4.extBut _ _ D.i2z.symm (sb3.extBut _ _ D.TOz.symm (sb2.extBut _ _ D.i1z.symm hz1)))
    have k5 : ∀ c o, c ≠ z → c ≠ TO → c ≠ i1 → c ≠ i2 → s.heap.get? c = some o → g5.get? c = some o := fun c o c1 c2 c3 c4 e =>
      sb5.extBut _ _ c2 (sb4.extBut _ _ c4 (sb3.extBut _ _ c2 (sb2.extBut _ _ c3 (sb1.extBut _ _ c1 e))))
    have m1 : g5.IsTupleIter i1 l1 (k1 + 1) := ((n1.extBut sb3.extBut D.TOi1.symm).extBut sb4.extBut D.i12).extBut sb5.extBut D.TOi1.symm
    have m2 : g5.IsTupleIter i2 l2 (k2 + 1) := n2.extBut sb5.extBut D.TOi2.symm
    have zl : z < g5.objs.size := Heap.lt_size z5
    show wpAny _ _ (Builtin.SmallTypes.ownedTupleHandOut (.ref z) (.ref g5.objs.size) >>= _) _ _ _
    refine wpAny_bind ?_
    unfold Builtin.SmallTypes.ownedTupleHandOut
    have z6 := Heap.get?_push_of_some (h := g5) { cls := .type "tuple", data := .seq #[x, y] } z5
    refine wpAny_bind (wpAny_setField_rec z6 (by simp) fun g7 z7 sb7 => wpAny_setField_rec z7 (by simp) fun g8 z8 sb8 => wpAny_pure ⟨_, rfl, ?_⟩)
    have up : ∀ c o, c ≠ z → g5.get? c = some o → g8.get? c = some o := fun c o c1 e => sb8.extBut _ _ c1 (sb7.extBut _ _ c1 (Heap.get?_push_of_some _ e))
    have T8 : IsPair g8 g5.objs.size x y := sb8.extBut _ _ (Nat.ne_of_gt zl) (sb7.extBut _ _ (Nat.ne_of_gt zl) (Heap.get?_push_size _ rfl))
    have s8 : g8.objs.size = g5.objs.size + 1 := by rw [sb8.1, sb7.1, Heap.size_push]
    rw [sz] at T8 s8
    show Q (.ref g5.objs.size) _
    rw [sz]
    exact q g8 ⟨_, _, Or.inr ⟨_, rfl⟩, z8⟩ ⟨_, _, up _ _ D.TOz t5⟩ (m1.at fun o e => up _ o D.i1z e) (m2.at fun o e => up _ o D.i2z e) T8 s8 fun c o c1 c2 c3 c4 e => up c o c1 (k5 c o c1 c2 c3 c4 e)
  · simp only [Bool.false_eq_true, if_false]
    refine wpAny_bind ?_
    rw [← Array.forIn_toList]
    simp only [List.forIn_cons, List.forIn_nil]
    refine wpAny_bind (wpAny_bind (wpAny_holding ?_))
    show wpAny _ _ (Builtin.SmallTypes.nextOf (.ref i1) >>= _) _ _ _
    refine wpAny_bind (wpAny_nextOf_tuple_item (s := { s with heap := g1 }) (h1.extBut sb1.extBut D.i1z) (hl1.extBut sb1.extBut D.l1z) hx fun g2 n1 sb2 => wpAny_pure (wpAny_pure ?_))
    refine wpAny_bind (wpAny_bind (wpAny_holding ?_))
    show wpAny _ _ (Builtin.SmallTypes.nextOf (.ref i2) >>= _) _ _ _
    refine wpAny_bind (wpAny_nextOf_tuple_item (s := { s with heap := g2 }) ((h2.extBut sb1.extBut D.i2z).extBut sb2.extBut D.i12.symm) ((hl2.extBut sb1.extBut D.l2z).extBut sb2.extBut D.l2i1) hy fun g3 n2 sb3 => wpAny_pure (wpAny_pure (wpAny_pure ?_)))
    show wpAny _ _ (newTuple [x, y] >>= _) _ _ _
    refine wpAny_bind (wpAny_newTuple ?_)
    have sz : g3.objs.size = s.heap.objs.size := by rw [sb3.1, sb2.1, sb1.1]
    have k3 : ∀ c o, c ≠ z → c ≠ i1 → c ≠ i2 → s.heap.get? c = some o → g3.get? c = some o := fun c o c1 c3 c4 e => sb3.extBut _ _ c4 (sb2.extBut _ _ c3 (sb1.extBut _ _ c1 e))
    obtain ⟨p1, f1, hp1, z1⟩ := hz1
    have z3 := sb3.extBut _ _ D.i2z.symm (sb2.extBut _ _ D.i1z.symm z1)
    have hp : IsPair (g3.push { cls := .type "tuple", data := .seq #[x, y] }) g3.objs.size x y := Heap.get?_push_size _ rfl
    have s4 : (g3.push { cls := .type "tuple", data := .seq #[x, y] }).objs.size = g3.objs.size + 1 := Heap.size_push ..
    refine wpAny_pure ⟨_, rfl, ?_⟩
    show Q (.ref g3.objs.size) _
    rw [sz] at hp s4 ⊢
    exact q _ ⟨p1, f1, hp1, Heap.get?_push_of_some _ z3⟩ ⟨_, _, Heap.get?_push_of_some _ (k3 _ _ D.TOz D.TOi1 D.TOi2 hTO)⟩ ((n1.extBut sb3.extBut D.i12).at fun o e => Heap.get?_push_of_some _ e) (n2.at fun o e => Heap.get?_push_of_some _ e) hp s4
      fun c o c1 _ c3 c4 e => Heap.get?_push_of_some _ (k3 c o c1 c3 c4 e)
/-- no further pair -/
theorem end1 {z TI TO i1 i2 l1 l2 : Addr} {k1 k2 : Nat} {xs ys : Array Value} {a b : Value} {Q : Fin → Shared → Prop} (hh : A.handled = none) (D : ZipApart z TI TO i1 i2 l1 l2)
    (hz : At s.heap z TI TO) (hTI : IsPair s.heap TI (.ref i1) (.ref i2)) (hTO : IsPair s.heap TO a b) (h1 : s.heap.IsTupleIter i1 l1 k1) (h2 : s.heap.IsTupleIter i2 l2 k2)
    (hl1 : s.heap.IsTuple l1 xs) (hl2 : s.heap.IsTuple l2 ys) (hend : xs[k1]? = none ∨ ys[k2]? = none)
    (qE : ∀ h' e, (∀ c o, c ≠ z → c ≠ TO → c ≠ i1 → c ≠ i2 → s.heap.get? c = some o → h'.get? c = some o) → (∃ o, h'.get? e = some o ∧ o.cls = .type "StopIteration") → E (.ref e) { s with heap := h' }) :
    wpAny (model prog w) A (Builtin.«zip.__next__» ⟨[.ref z], []⟩) Q E s := by
  obtain ⟨o1, f, ho, hzz⟩ := id hz
  show wpAny _ _ (field (.ref z) 2 >>= _) _ _ _
  refine wpAny_bind (wpAny_field hzz rfl (x := .bool false) rfl ?_)
  show wpAny _ _ (field (.ref z) 3 >>= _) _ _ _
  refine wpAny_bind (wpAny_field hzz rfl (x := .ref TI) rfl ?_)
  refine wpAny_bind (wpAny_seqItems hTI rfl ?_)
  show wpAny _ _ (Builtin.SmallTypes.ownedTupleIsFree (.ref z) >>= _) _ _ _
  refine wpAny_bind (isFree hz ?_ fun g1 hz1 sb1 => ?_)
  · simp only [if_true]
    refine wpAny_bind (wpAny_rule (wpAny_bind (wpAny_field hzz rfl (x := .ref TO) rfl (wpAny_bind (wpAny_setField_rec hzz (by simp) fun g1 hz1 sb1 => ?_)))))
    refine wpAny_bind ?_
    simp only [List.zipIdx_cons, List.zipIdx_nil, List.forIn_cons, List.forIn_nil]
    refine wpAny_bind (wpAny_bind (wpAny_onRaise ?_))
    show wpAny _ _ (Builtin.SmallTypes.nextOf (.ref i1) >>= _) _ _ _
    cases hx : xs[k1]? with
    | none =>
      refine wpAny_bind (wpAny_nextOf_tuple_end hh (h1.extBut sb1.extBut D.i1z) (hl1.extBut sb1.extBut D.l1z) hx fun g2 e sb2 he => ?_)
      obtain ⟨oe, hoe, hce⟩ := he
      have z2 := sb2 _ _ D.i1z.symm hz1
      have ez : e ≠ z := fun x => by
        subst x
        rw [z2] at hoe
        cases hoe
        exact absurd (Value.type.inj hce) (by decide)
      exact wpAny_setField_rec z2 (by simp) fun g3 _ sb3 => qE g3 e (fun c o c1 _ c3 _ x => sb3.extBut _ _ c1 (sb2 _ _ c3 (sb1.extBut _ _ c1 x))) ⟨oe, sb3.extBut _ _ ez hoe, hce⟩
    | some x =>
      have hy : ys[k2]? = none := by
        rcases hend with h | h
        · rw [hx] at h
          cases h
        · exact h
      refine wpAny_bind (wpAny_nextOf_tuple_item (h1.extBut sb1.extBut D.i1z) (hl1.extBut sb1.extBut D.l1z) hx fun g2 n1 sb2 => wpAny_pure ?_)
      have t2 : IsPair g2 TO a b := sb2.extBut _ _ D.TOi1 (sb1.extBut _ _ D.TOz hTO)
      refine wpAny_bind (wpAny_seqItems t2 rfl (wpAny_bind (wpAny_updateSeq_pair t2 fun g3 t3 sb3 => wpAny_bind (wpAny_letGo (wpAny_pure ?_)))))
      refine wpAny_bind (wpAny_bind (wpAny_onRaise ?_))
      show wpAny _ _ (Builtin.SmallTypes.nextOf (.ref i2) >>= _) _ _ _
      refine wpAny_bind (wpAny_nextOf_tuple_end hh (((h2.extBut sb1.extBut D.i2z).extBut sb2.extBut D.i12.symm).extBut sb3.extBut D.TOi2.symm) (((hl2.extBut sb1.extBut D.l2z).extBut sb2.extBut D.l2i1).extBut sb3.extBut D.l2TO) hy fun g4 e sb4 he => ?_)
      obtain ⟨oe, hoe, hce⟩ := he
      have z4 := sb4 _ _ D.i2z.symm (sb3.extBut _ _ D.TOz.symm (sb2.extBut _ _ D.i1z.symm hz1))
      have ez : e ≠ z := fun x => by
        subst x
        rw [z4] at hoe
        cases hoe
        exact absurd (Value.type.inj hce) (by decide)
      exact wpAny_setField_rec z4 (by simp) fun g5 _ sb5 => qE g5 e (fun c o c1 c2 c3 c4 x => sb5.extBut _ _ c1 (sb4 _ _ c4 (sb3.extBut _ _ c2 (sb2.extBut _ _ c3 (sb1.extBut _ _ c1 x))))) ⟨oe, sb5.extBut _ _ ez hoe, hce⟩
  · simp only [Bool.false_eq_true, if_false]
    refine wpAny_bind ?_
    rw [← Array.forIn_toList]
    simp only [List.forIn_cons, List.forIn_nil]
    refine wpAny_bind (wpAny_bind (wpAny_holding ?_))
    show wpAny _ _ (Builtin.SmallTypes.nextOf (.ref i1) >>= _) _ _ _
    cases hx : xs[k1]? with
    | none => exact wpAny_bind (wpAny_nextOf_tuple_end (s := { s with heap := g1 }) hh (h1.extBut sb1.extBut D.i1z) (hl1.extBut sb1.extBut D.l1z) hx fun g2 e sb2 he => qE g2 e (fun c o c1 _ c3 _ x => sb2 _ _ c3 (sb1.extBut _ _ c1 x)) he)
    | some x =>
      have hy : ys[k2]? = none := by
        rcases hend with h | h
        · rw [hx] at h
          cases h
        · exact h
      refine wpAny_bind (wpAny_nextOf_tuple_item (s := { s with heap := g1 }) (h1.extBut sb1.extBut D.i1z) (hl1.extBut sb1.extBut D.l1z) hx fun g2 n1 sb2 => wpAny_pure (wpAny_pure ?_))
      refine wpAny_bind (wpAny_bind (wpAny_holding ?_))
      show wpAny _ _ (Builtin.SmallTypes.nextOf (.ref i2) >>= _) _ _ _
      exact wpAny_bind (wpAny_nextOf_tuple_end (s := { s with heap := g2 }) hh ((h2.extBut sb1.extBut D.i2z).extBut sb2.extBut D.i12.symm) ((hl2.extBut sb1.extBut D.l2z).extBut sb2.extBut D.l2i1) hy
        fun g3 e sb3 he => qE g3 e (fun c o c1 _ c3 c4 x => sb3 _ _ c4 (sb2.extBut _ _ c3 (sb1.extBut _ _ c1 x))) he)
theorem nextP {z TI TO i1 i2 l1 l2 : Addr} {k1 k2 : Nat} {xs ys : Array Value} {x y a b : Value} {Q : Option Value → Shared → Prop} (D : ZipApart z TI TO i1 i2 l1 l2)
    (hz : At s.heap z TI TO) (hTI : IsPair s.heap TI (.ref i1) (.ref i2)) (hTO : IsPair s.heap TO a b) (h1 : s.heap.IsTupleIter i1 l1 k1) (h2 : s.heap.IsTupleIter i2 l2 k2)
    (hl1 : s.heap.IsTuple l1 xs) (hl2 : s.heap.IsTuple l2 ys) (hx : xs[k1]? = some x) (hy : ys[k2]? = some y)
    (q : ∀ h', At h' z TI TO → (∃ a b, IsPair h' TO a b) → h'.IsTupleIter i1 l1 (k1 + 1) → h'.IsTupleIter i2 l2 (k2 + 1) → IsPair h' s.heap.objs.size x y → h'.objs.size = s.heap.objs.size + 1 →
      (∀ c o, c ≠ z → c ≠ TO → c ≠ i1 → c ≠ i2 → s.heap.get? c = some o → h'.get? c = some o) → Q (some (.ref s.heap.objs.size)) { s with heap := h' }) :
    wpAny (model prog w) A (pyNext (.ref z)) Q E s := by
  have ty : s.TypeIs (.ref z) "zip" := by
    obtain ⟨_, _, _, e⟩ := hz
    exact ⟨_, e, rfl⟩
  unfold pyNext
  exact wpAny_bind (wpAny_attempt (wpAny_callSpecial?_slot (name := Str.ofString "__next__") ty F.slot_zip_next (wpAny_call_entry F.slot_zip_next ty F.entry_zip_next
    (next1 D hz hTI hTO h1 h2 hl1 hl2 hx hy fun h' a1 a2 a3 a4 a5 a6 a7 => wpAny_pure (q h' a1 a2 a3 a4 a5 a6 a7)) (F.args_zip_next_1 _))))
theorem endP {z TI TO i1 i2 l1 l2 : Addr} {k1 k2 : Nat} {xs ys : Array Value} {a b : Value} {Q : Option Value → Shared → Prop} (hh : A.handled = none) (D : ZipApart z TI TO i1 i2 l1 l2)
    (hz : At s.heap z TI TO) (hTI : IsPair s.heap TI (.ref i1) (.ref i2)) (hTO : IsPair s.heap TO a b) (h1 : s.heap.IsTupleIter i1 l1 k1) (h2 : s.heap.IsTupleIter i2 l2 k2)
    (hl1 : s.heap.IsTuple l1 xs) (hl2 : s.heap.IsTuple l2 ys) (hend : xs[k1]? = none ∨ ys[k2]? = none)
    (q : ∀ h', (∀ c o, c ≠ z → c ≠ TO → c ≠ i1 → c ≠ i2 → s.heap.get? c = some o → h'.get? c = some o) → Q none { s with heap := h' }) : wpAny (model prog w) A (pyNext (.ref z)) Q E s := by
  have ty : s.TypeIs (.ref z) "zip" := by
    obtain ⟨_, _, _, e⟩ := hz
    exact ⟨_, e, rfl⟩
  unfold pyNext
  refine wpAny_bind (wpAny_attempt (wpAny_callSpecial?_slot (name := Str.ofString "__next__") ty F.slot_zip_next (wpAny_call_entry F.slot_zip_next ty F.entry_zip_next
    (end1 hh D hz hTI hTO h1 h2 hl1 hl2 hend fun h' e hk he => ?_) (F.args_zip_next_1 _))))
  obtain ⟨o, ho, hc⟩ := he
  exact wpAny_bind (wpAny_isInstance (T := "StopIteration") (b := true) ⟨o, ho, hc⟩ isSubtype_stop (wpAny_pure (q _ hk)))
end
theorem iterZ {prog : Program} {w : World} {A : Around} {E : Value → Shared → Prop} {s : Shared} {z TI TO : Addr} {o1 : Value} {f : Bool} {Q : Value → Shared → Prop}
    (hz : s.heap.get? z = some { cls := .type "zip", dict := none, data := .fields #[o1, .bool f, .bool false, .ref TI, .ref TO], slots := #[] }) (h : Q (.ref z) s) : wpAny (model prog w) A (pyIter (.ref z)) Q E s := by
  have ty : s.TypeIs (.ref z) "zip" := ⟨_, hz, rfl⟩
  refine wpAny_pyIter_slot ty F.slot_zip_iter (wpAny_call_entry F.slot_zip_iter ty F.entry_zip_iter ?_ (F.args_zip_iter_1 _))
  exact wpAny_pure ⟨_, rfl, "zip", _, ty, F.slot_zip_next.lookup, h⟩
/-- the turns, each pair kept whole by a name -/
theorem turnN {P : Program} {w : World} {K : PySem.W.Frag} {n : Str} {npos : Pos} {a b z TI TO i1 i2 : Addr} (D : ZipApart z TI TO i1 i2 a b) :
    Turn P w K (.Name n npos) (RZ.ItzT K a b) [z, TI, TO, i1, i2] z (fun i h => At h z TI TO ∧ IsPair h TI (.ref i1) (.ref i2) ∧ (∃ x y, IsPair h TO x y) ∧ h.IsTupleIter i1 a i ∧ h.IsTupleIter i2 b i) where
  mem := by simp
  obj := by
    intro i h st c hc
    obtain ⟨⟨_, _, _, hz⟩, hTI, ⟨x, y, hTO⟩, ⟨o1, e1, _, d1⟩, ⟨o2, e2, _, d2⟩⟩ := st
    have z : c = z ∨ c = TI ∨ c = TO ∨ c = i1 ∨ c = i2 := by simpa using hc
    rcases z with q | q | q | q | q <;> subst q
    · exact ⟨_, hz, fun v q => nomatch q⟩
    · exact ⟨_, hTI, fun v q => nomatch q⟩
    · exact ⟨_, hTO, fun v q => nomatch q⟩
    · exact ⟨o1, e1, fun v q => by rw [d1] at q; cases q⟩
    · exact ⟨o2, e2, fun v q => by rw [d2] at q; cases q⟩
  keep := by
    intro i h h' st k
    obtain ⟨⟨o1, f, ho, hz⟩, hTI, ⟨x, y, hTO⟩, h1, h2⟩ := st
    exact ⟨⟨o1, f, ho, k z (by simp) _ hz⟩, k TI (by simp) _ hTI, ⟨x, y, k TO (by simp) _ hTO⟩, h1.at fun o q => k i1 (by simp) o q, h2.at fun o q => k i2 (by simp) o q⟩
  item := by
    intro X hP hw hK hc i pins s σ H E I hf st hg
    subst hP hw hK
    obtain ⟨hz, hTI, ⟨x0, y0, hTO⟩, h1, h2⟩ := st
    obtain ⟨xs, ys, x, y, hqx, hqy, hx, hy⟩ := hg
    obtain ⟨its, rv, p, _⟩ := I.tuple hqx
    obtain ⟨its2, rv2, p2, _⟩ := I.tuple hqy
    obtain ⟨u, hu, ru⟩ := rv.get hx
    obtain ⟨u2, hu2, ru2⟩ := rv2.get hy
    have zl : z < s.heap.objs.size := by
      obtain ⟨_, _, _, e⟩ := hz
      exact Heap.lt_size e
    refine nextP D hz hTI hTO h1 h2 p p2 (x := u) (y := u2) (by simpa using hu) (by simpa using hu2) fun h' z' TO' h1' h2' hT hsz hk => ?_
    have new : ObjOk X.prog X.w (upd H s.heap.objs.size (.tup [x, y])) h' s.heap.objs.size (.tup [x, y]) := ⟨(by decide : 2 ≤ sizeLine), [u, u2], .cons ru (.cons ru2 .nil), ⟨_, hT, rfl, _, rfl⟩⟩
    have I1 : Inv X pins σ (upd H s.heap.objs.size (.tup [x, y])) { s with heap := h' } :=
      I.turnedNew (t' := s.toks) (ch := [z, TI, TO, i1, i2]) (fun c o hb q => hk c o (fun q' => hb (by simp [q'])) (fun q' => hb (by simp [q'])) (fun q' => hb (by simp [q'])) (fun q' => hb (by simp [q'])) q) hf (Nat.le_refl _) new
    refine ⟨_, rfl, ?_⟩
    refine wpAny_pure ⟨.ref s.heap.objs.size, _, I1, rfl, ⟨_, x, y, rfl, I.hok.fresh (Nat.le_refl _), rfl, fun l hl => by rw [I.tuple_inj hl hqx]; exact hx, fun l hl => by rw [I.tuple_inj hl hqy]; exact hy⟩, ⟨z', hk _ _ D.TIz D.TITO D.TIi1 D.TIi2 hTI, TO', h1', h2'⟩, fun c hcm => ?_⟩
    have hlt : c < s.heap.objs.size := by
      have e : c = z ∨ c = TI ∨ c = TO ∨ c = i1 ∨ c = i2 := by simpa using hcm
      rcases e with q | q | q | q | q <;> rw [q]
      · exact zl
      · exact Heap.lt_size hTI
      · exact Heap.lt_size hTO
      · obtain ⟨_, e1, _⟩ := h1
        exact Heap.lt_size e1
      · obtain ⟨_, e2, _⟩ := h2
        exact Heap.lt_size e2
    rw [upd_ne (Nat.ne_of_lt hlt)]
    exact (hf c hcm).1
  done := by
    intro X hP hw hK hc i pins s σ H E I hf st hg
    subst hP hw hK
    obtain ⟨hz, hTI, ⟨x0, y0, hTO⟩, h1, h2⟩ := st
    obtain ⟨xs, ys, hqx, hqy, hend⟩ := hg
    obtain ⟨its, rv, p, _⟩ := I.tuple hqx
    obtain ⟨its2, rv2, p2, _⟩ := I.tuple hqy
    have e1 := rv.length
    have e2 := rv2.length
    have he : its.toArray[i]? = none ∨ its2.toArray[i]? = none := by
      rcases hend with q | q
      · exact .inl (by simp; omega)
      · exact .inr (by simp; omega)
    exact endP (I.ok.hd hc) D hz hTI hTO h1 h2 p p2 he fun h' hk => ⟨rfl, I.turnedL (t' := s.toks) (ch := [z, TI, TO, i1, i2]) (fun c o hb q =>
      hk c o (fun q' => hb (by simp [q'])) (fun q' => hb (by simp [q'])) (fun q' => hb (by simp [q'])) (fun q' => hb (by simp [q'])) q) hf⟩
  self := by
    intro A i s Q E st h
    obtain ⟨⟨o1, f, ho, hz⟩, _⟩ := st
    exact iterZ hz h
def iZipN (K : PySem.W.Frag) (ta : TA) : TI := fun σ H R => ta σ H fun vs H1 => ∃ a b xs ys, vs = [.ref a, .ref b] ∧ SqT K H1 a xs ∧ SqT K H1 b ys ∧ R (RZ.ItzT K a b) H1
theorem pi_zipN {X : Cx} {e e2 : Expr} {ta : TA} {p pos npos : Pos} {n : Str} (hg : Gl X "zip") (hm : X.mg "zip" = none) (ha : PA X [e, e2] ta)
    (hs : starEach [e, e2] X.env = (false, eval e X.env) :: starEach [e2] X.env := by rfl) (hpl : (backTo pos (starEach [e2] X.env)).any (·.1) = false := by rfl) :
    PI X (.Name n npos) (.Call (.Name "zip" p) [e, e2] [] pos) (iZipN X.K ta) := by
  refine ⟨fun pins s σ H R I h => ?_⟩
  refine Call_ (ld_blt I hg hm PyProof.Rows.boot_zip (PyProof.Rows.callWith_type1 (thn (ha.run pos pins s σ H _ I h) fun us s1 ⟨vs, H1, I1, r1, q1⟩ => ?_) hs hpl))
  obtain ⟨a, b, xs, ys, rfl, hqx, hqy, q⟩ := q1
  obtain ⟨u1, u2, rfl, r, r'⟩ := vals2 r1
  cases r
  cases r'
  have fr : ∀ c, c ∈ [s1.heap.objs.size + 4, s1.heap.objs.size + 2, s1.heap.objs.size + 3, s1.heap.objs.size, s1.heap.objs.size + 1] → FpOk X pins H1 c := by
    intro c hcm
    have e : c = s1.heap.objs.size + 4 ∨ c = s1.heap.objs.size + 2 ∨ c = s1.heap.objs.size + 3 ∨ c = s1.heap.objs.size ∨ c = s1.heap.objs.size + 1 := by simpa using hcm
    have hle : s1.heap.objs.size ≤ c := by
      rcases e with z | z | z | z | z <;> rw [z]
      · exact Nat.le_add_right _ _
      · exact Nat.le_add_right _ _
      · exact Nat.le_add_right _ _
      · exact Nat.le_refl _
      · exact Nat.le_add_right _ _
    exact I1.fpOk hle (I1.hok.fresh hle)
  obtain ⟨its, rv, p1, _⟩ := I1.tuple hqx
  obtain ⟨its2, rv2, p2, _⟩ := I1.tuple hqy
  obtain ⟨o1, ho1, _⟩ := id p1
  obtain ⟨o2, ho2, _⟩ := id p2
  refine RZ.call_zipT (show s1.heap.IsTuple a its.toArray from p1) (show s1.heap.IsTuple b its2.toArray from p2) fun h' hz hTI hTO h1 h2 hsz hk => wpAny_pyIter_zip hz ?_
  have I2 : Inv X pins σ H1 { s1 with heap := h' } := I1.kept (t' := s1.toks) hk
  exact ⟨s1.heap.objs.size + 4, [s1.heap.objs.size + 4, s1.heap.objs.size + 2, s1.heap.objs.size + 3, s1.heap.objs.size, s1.heap.objs.size + 1], _, _, H1, rfl, I2, turnN (PySem.W.ktu_apart s1.heap.objs.size a b (Heap.lt_size ho1) (Heap.lt_size ho2)),
    ⟨⟨_, _, Or.inl rfl, hz⟩, hTI, ⟨_, _, hTO⟩, h1, h2⟩, fr, q⟩
theorem walkT {K : PySem.W.Frag} {a b : Addr} {xs ys : List V} (hl : xs.length = ys.length) : Walk (RZ.ItzT K a b) xs.length (fun H => SqT K H a xs ∧ SqT K H b ys) (YPair (fun i => xs[i]?) (fun i => ys[i]?)) := by
  refine ⟨fun i _ hi q => ?_, fun _ q => ⟨xs, ys, q.1, q.2, Or.inl (Nat.le_refl _)⟩, fun i H v H' _ q y => ?_⟩
  · have h2 : i < ys.length := by omega
    exact ⟨xs, ys, xs[i], ys[i], q.1, q.2, List.getElem?_eq_getElem hi, List.getElem?_eq_getElem h2⟩
  · obtain ⟨T, x, y, e1, e2, e3, e4, e5⟩ := y
    exact ⟨T, x, y, e1, e2, e3, e4 xs q.1, e5 ys q.2⟩
end ZpN
/-! sorted of a dict whose keys are pairs of ints: my own rule beside the layer's list(d) and sorted(xs) -/
namespace SoP
open PySem PySem.Spec PyProof.Rows L2
variable {X : Cx}
def rSortDP : List V → Hp → VK → Prop := fun xs H Q => ∃ (a : Addr) (kvs : List (List Key × V)), xs = [.ref a] ∧ Rd H a (.dT kvs) ∧ (∀ e ∈ kvs, ∃ i j : Int, e.1 = [.inl i, .inl j]) ∧
  ∀ (bs : List Addr) (kf : V → Int × Int) (ys : List V) (p : Addr), IsKeys H kvs bs → (∀ v ∈ bs.map V.ref, ∃ t, v = V.ref t ∧ H t = some (.tup [.int (kf v).1, .int (kf v).2])) → SrtO.Srtd (ltP kf) ys → SrtO.Stb (ltP kf) ys (bs.map V.ref) → H p = none → Q (.ref p) (upd H p (.lst ys))
def keyOf (H : Hp) (v : V) : Int × Int := match v with
  | .ref t => match H t with
    | some (.tup [.int i, .int j]) => (i, j)
    | _ => (0, 0)
  | _ => (0, 0)
theorem keyed {H : Hp} {t : Addr} {i j : Int} (h : H t = some (.tup [.int i, .int j])) : keyOf H (.ref t) = (i, j) := by
  show (match H t with
    | some (.tup [.int i, .int j]) => (i, j)
    | _ => (0, 0)) = _
  rw [h]
theorem all_keyed {H : Hp} : ∀ {kvs : List (List Key × V)} {bs : List Addr}, IsKeys H kvs bs → (∀ e ∈ kvs, ∃ i j : Int, e.1 = [.inl i, .inl j]) → ∀ v ∈ bs.map V.ref, ∃ t, v = V.ref t ∧ H t = some (.tup [.int (keyOf H v).1, .int (keyOf H v).2])
  | _, _, .nil, _, v, hv => absurd hv (by simp)
  | _, _, .cons (a := e) (b := b) hb r, hk, v, hv => by
    rcases List.mem_cons.mp hv with rfl | hv
    · obtain ⟨i, j, ek⟩ := hk e List.mem_cons_self
      rw [ek] at hb
      have hb' : H b = some (.tup [.int i, .int j]) := hb
      refine ⟨b, rfl, ?_⟩
      rw [keyed hb']
      exact hb'
    · exact all_keyed r (fun e he => hk e (List.mem_cons_of_mem _ he)) v hv
theorem call_sortDP (hc : X.calm = true) : CallR X (.builtin "sorted") rSortDP := by
  intro pins s σ H xs us Q I r h
  obtain ⟨a, kvs, rfl, hd, hks, q⟩ := h
  obtain ⟨u, rfl, rx⟩ := vals1 r
  cases rx
  obtain ⟨z, hs, ks, pr, o, es, ep, ho, hx, hdt, he, hn⟩ := (show ObjOk X.prog X.w H s.heap a (.dT kvs) from hd.ok I.hok)
  have l1 : es.size = ks.length := size_of_entries he
  have l2 : kvs.length = ks.length := Paired.length pr
  refine Calls.call_function_entry PyProof.Rows.kind_sorted PyProof.Rows.plain_sorted PyProof.Rows.entry_sorted (PyProof.Rows.args_sorted1 _) ?_
  unfold Builtin.«sorted»
  refine wpAny_bind (m := checkCount "sorted" 1 1 _) (wpAny_pure ?_)
  refine wpAny_bind (PySem.W.kdu_collect (A := X.A.in1) (kdl_raw hs hx hdt) (I.ok.hd hc) ho (by omega) fun h' tk acc hk hacc => ?_)
  have ea : acc.toList = ks.map fun x => Value.ref x.2.1 := by
    have hl : acc.toList.length = ks.length := by rw [Array.length_toList, hacc.1]; exact l1
    apply List.ext_getElem?
    intro j
    rw [List.getElem?_map]
    cases hj : acc.toList[j]? with
    | none =>
      have h1 := List.getElem?_eq_none_iff.mp hj
      rw [List.getElem?_eq_none (by omega)]
      all_goals rfl
    | some v =>
      obtain ⟨en, hen, hv⟩ := hacc.2 j v (by rw [← Array.getElem?_toList]; exact hj)
      have qe := entry_at he j
      rw [hen] at qe
      cases hb : ks[j]? with
      | none =>
        rw [hb] at qe
        exact nomatch (show some en = none from qe)
      | some b =>
        rw [hb] at qe
        have e2 : en = entryOfKey (tupleKind (mixKind X.prog X.w)) b := Option.some.inj qe
        rw [hv, e2]
        all_goals rfl
  have eb : acc.toList = (ks.map fun x => x.2.1).map Value.ref := by rw [ea, List.map_map]; all_goals rfl
  have hK : IsKeys H kvs (ks.map fun x => x.2.1) := isKeys_of pr
  have hkf := all_keyed hK hks
  have I1 : Inv X pins σ H { s with heap := h', toks := tk } := I.kept hk
  have hal : acc.toList.length = kvs.length := by rw [eb, List.length_map, List.length_map, l2]
  have hsz : acc.toList.length ≤ sizeLine := by rw [hal]; exact z
  have back : ∀ v ∈ acc.toList, ∃ t, v = Value.ref t ∧ V.ref t ∈ (ks.map fun x => x.2.1).map V.ref := fun v hv => by
    rw [eb] at hv
    obtain ⟨t, ht, rfl⟩ := List.mem_map.mp hv
    exact ⟨t, rfl, List.mem_map.mpr ⟨t, ht, rfl⟩⟩
  have hp : ∀ v ∈ acc.toList, Srt.IsPair h' v (keyOf H (backV v)).1 (keyOf H (backV v)).2 := fun v hv => by
    obtain ⟨t, rfl, hm⟩ := back v hv
    obtain ⟨t', e, ht⟩ := hkf _ hm
    cases e
    obtain ⟨_, its2, r2, o, ho, hc, n, hd⟩ := I1.hok _ _ ht
    obtain ⟨u1, u2, rfl, ri, rj⟩ := vals2 r2
    obtain ⟨t1, rfl⟩ := ri
    obtain ⟨t2, rfl⟩ := rj
    exact ⟨t, o, t1, t2, n, rfl, ho, hc, hd⟩
  refine wpAny_bind (wpAny_newList ?_ (by simpa using hsz))
  have hoL : (h'.push (seqObj "list" acc.toList.toArray 0)).get? h'.objs.size = some (seqObj "list" acc.toList.toArray 0) := Heap.get?_push_size _ rfl
  show wpAny _ _ _ _ _ { s with heap := h'.push (seqObj "list" acc.toList.toArray 0), toks := tk }
  refine wpAny_bind (wpAny_holding (wpAny_call_entry PyProof.Rows.slot_list_sort ⟨_, hoL, rfl⟩ PyProof.Rows.entry_list_sort
    (SrtO.list_sort_ord (s := { s with heap := h'.push (seqObj "list" acc.toList.toArray 0), toks := tk }) (SrtO.swo_lex fun u => keyOf H (backV u)) hoL hsz (fun h2 => ?_) fun out g1 g2 => ⟨_, rfl, ?_⟩) (PyProof.Rows.args_list_sort _)))
  · refine SrtO.pairs_sortableO (s := { s with heap := h'.push (seqObj "list" acc.toList.toArray 0), toks := tk }) (by omega) (fun v hm => (hp v hm).keeps fun b o e _ => Heap.get?_push_of_some _ e) fun o e => ?_
    have e' : some o = some (seqObj "list" acc.toList.toArray 0) := e.symm.trans hoL
    cases e'
    intro c
    exact absurd (Value.type.inj c) (by decide)
  have h3 : ∀ u ∈ out, ∃ a, u = Value.ref a := fun u hu => by
    obtain ⟨t, e, _⟩ := back u (g2.perm.mem_iff.mp hu)
    exact ⟨t, e⟩
  have ebk : (ks.map fun x => x.2.1).map V.ref = acc.toList.map backV := by
    rw [eb]
    simp only [List.map_map]
    exact List.map_congr_left fun _ _ => rfl
  have hb : SrtO.Stb (ltP (keyOf H)) (out.map backV) ((ks.map fun x => x.2.1).map V.ref) := by
    rw [ebk]
    exact SrtO.Stb.map (ltP_swo (keyOf H)) backV g2
  obtain ⟨e', he'⟩ := PyProof.Rows.sortedHeap_at (vs := acc.toList) (out := out.toArray) hoL
  have hlen : (out.map backV).length ≤ sizeLine := by
    rw [List.length_map, g2.len]
    exact hsz
  refine wpAny_pure ⟨_, rfl, .ref h'.objs.size, upd H h'.objs.size (.lst (out.map backV)), I1.laid (t' := tk) (fun b u e => ?_) (Nat.le_refl _)
    (show ObjOk X.prog X.w _ _ _ (.lst (out.map backV)) from ⟨hlen, out, e', vals_back h3, he'⟩), rfl, q _ _ _ _ hK hkf (SrtO.srtd_map g1) hb (I1.hok.fresh (Nat.le_refl _))⟩
  have hb : b < h'.objs.size := Heap.lt_size e
  rw [PyProof.Rows.sortedHeap_old (Nat.ne_of_lt hb) (by rw [size_push']; exact Nat.lt_succ_of_lt hb)]
  exact Heap.get?_push_of_some _ e
end SoP
namespace Lk
open PySem PySem.Spec PyProof.Rows L2
section
/-! x in xs, xs a list or a tuple of data; two rules for one comparison -/
variable {X : Cx}
def rInQ (K : PySem.W.Frag) : R2 := fun x y H Q => ∃ d ds, Dp K H x d ∧ Dp K H y (.tuple ds) ∧ SeqAt.shaped d = true ∧ SeqAt.shaped (.tuple ds) = true ∧ Q (.bl (ds.any fun z => PyData.eqv z d)) H
def rNotInQ (K : PySem.W.Frag) : R2 := fun x y H Q => ∃ d ds, Dp K H x d ∧ Dp K H y (.tuple ds) ∧ SeqAt.shaped d = true ∧ SeqAt.shaped (.tuple ds) = true ∧ Q (.bl (!ds.any fun z => PyData.eqv z d)) H
theorem op_inQ (hu : X.A.units + 65 < cLine) : OpR X (compareOp .In) (rInQ X.K) := by
  intro pins s σ H x y v u Q I rx ry h
  obtain ⟨d, ds, hd, he, sd, se, q⟩ := h
  obtain ⟨as, r1⟩ := Dp.reads I d x v hd rx
  obtain ⟨bs, r2⟩ := Dp.reads I (.tuple ds) y u he ry
  exact SeqAt.in_tuple_reads r2 r1 (SeqAt.canLay_of_shaped se) (SeqAt.canLay_of_shaped sd) (room_in_shaped sd hu) ⟨.bl _, H, I, rfl, q⟩
theorem op_notInQ (hu : X.A.units + 65 < cLine) : OpR X (compareOp .NotIn) (rNotInQ X.K) := by
  intro pins s σ H x y v u Q I rx ry h
  obtain ⟨d, ds, hd, he, sd, se, q⟩ := h
  obtain ⟨as, r1⟩ := Dp.reads I d x v hd rx
  obtain ⟨bs, r2⟩ := Dp.reads I (.tuple ds) y u he ry
  exact SeqAt.notIn_tuple_reads r2 r1 (SeqAt.canLay_of_shaped se) (SeqAt.canLay_of_shaped sd) (room_in_shaped sd hu) ⟨.bl _, H, I, rfl, q⟩
theorem pc_both {i o : Expr} {op : CmpOp} {t1 t2 : TE} (h1 : PC X op i o t1) (h2 : PC X op i o t2) : PC X op i o (fun σ H Q => t1 σ H Q ∨ t2 σ H Q) :=
  ⟨fun pins s σ H Q I h => h.elim (h1.run pins s σ H Q I) (h2.run pins s σ H Q I)⟩
end
section
/-! tuples stay -/
variable {K : PySem.W.Frag}
structure TT (K : PySem.W.Frag) (H H' : Hp) : Prop where
  d : ∀ b ys, H b = some (.tup ys) → H' b = some (.tup ys)
  t : ∀ b ys, SqT K H b ys → SqT K H' b ys
theorem TT.refl (H : Hp) : TT K H H := ⟨fun _ _ h => h, fun _ _ h => h⟩
theorem TT.trans {H H1 H2 : Hp} (x : TT K H H1) (y : TT K H1 H2) : TT K H H2 := ⟨fun b ys h => y.d b ys (x.d b ys h), fun b ys h => y.t b ys (x.t b ys h)⟩
theorem Tk.tt {H H' : Hp} (x : Tk H H') : TT K H H' := ⟨fun b ys h => x _ _ (fun _ z => nomatch z) h, fun _ _ h => x.t h⟩
theorem Same_tt {H H' : Hp} (x : Same H H') : TT K H H' := (Tk.of x).tt
theorem tt_upd {H : Hp} {p : Addr} {u o : HO} (h : H p = some u) (n1 : ∀ ys, HO.tup ys ≠ u) (n2 : ∀ o' v, HO.frz o' v ≠ u) : TT K H (upd H p o) where
  d := fun b ys q => by rw [upd_ne (ne_of q h (n1 _))]; exact q
  t := fun b ys q => by
    rcases q with (q | ⟨o', q⟩) | q
    · exact .inl (.inl (by rw [upd_ne (ne_of q h (n1 _))]; exact q))
    · exact .inl (.inr ⟨o', by rw [upd_ne (ne_of q h (n2 _ _))]; exact q⟩)
    · exact .inr q
theorem tt_dT {H : Hp} {p : Addr} {kvs : List (List Key × V)} {o : HO} (h : H p = some (.dT kvs)) : TT K H (upd H p o) := tt_upd h (fun _ z => nomatch z) (fun _ _ z => nomatch z)
theorem tt_dK {H : Hp} {p : Addr} {kvs : List (Key × V)} {o : HO} (h : H p = some (.dK kvs)) : TT K H (upd H p o) := tt_upd h (fun _ z => nomatch z) (fun _ _ z => nomatch z)
theorem tt_lst {H : Hp} {p : Addr} {xs : List V} {o : HO} (h : H p = some (.lst xs)) : TT K H (upd H p o) := tt_upd h (fun _ z => nomatch z) (fun _ _ z => nomatch z)
theorem tt_new {H : Hp} {p : Addr} {o : HO} (h : H p = none) : TT K H (upd H p o) := Same_tt (same_new h)
/-! items one by one -/
def PL {α : Type} (P : V → α → Prop) (vs : List V) (xs : List α) : Prop := vs.length = xs.length ∧ ∀ (i : Nat) v x, vs[i]? = some v → xs[i]? = some x → P v x
variable {α : Type} {P P' : V → α → Prop} {vs ws : List V} {xs ys : List α}
theorem PL.nil : PL P [] [] := ⟨rfl, fun _ _ _ h => nomatch h⟩
theorem PL.mono (h : PL P vs xs) (m : ∀ v x, P v x → P' v x) : PL P' vs xs := ⟨h.1, fun i v x a b => m v x (h.2 i v x a b)⟩
theorem PL.at (h : PL P vs xs) {i : Nat} {x : α} (hx : xs[i]? = some x) : ∃ v, vs[i]? = some v ∧ P v x := by
  have hi := (List.getElem?_eq_some_iff.mp hx).1
  have hi' : i < vs.length := by rw [h.1]; exact hi
  exact ⟨vs[i], List.getElem?_eq_getElem hi', h.2 i _ _ (List.getElem?_eq_getElem hi') hx⟩
theorem PL.at' (h : PL P vs xs) {i : Nat} {v : V} (hv : vs[i]? = some v) : ∃ x, xs[i]? = some x ∧ P v x := by
  have hi := (List.getElem?_eq_some_iff.mp hv).1
  have hi' : i < xs.length := by rw [← h.1]; exact hi
  exact ⟨xs[i], List.getElem?_eq_getElem hi', h.2 i _ _ hv (List.getElem?_eq_getElem hi')⟩
theorem PL.app (h : PL P vs xs) (k : PL P ws ys) : PL P (vs ++ ws) (xs ++ ys) := by
  refine ⟨by rw [List.length_append, List.length_append, h.1, k.1], fun i v x a b => ?_⟩
  by_cases hi : i < vs.length
  · rw [List.getElem?_append_left hi] at a
    rw [List.getElem?_append_left (by rw [← h.1]; exact hi)] at b
    exact h.2 i v x a b
  · rw [List.getElem?_append_right (by omega)] at a
    rw [List.getElem?_append_right (by rw [← h.1]; omega), ← h.1] at b
    exact k.2 _ v x a b
theorem PL.one {v : V} {x : α} (h : P v x) : PL P [v] [x] := ⟨rfl, fun i u y a b => by
  cases i with
  | zero =>
    cases a
    cases b
    exact h
  | succ i => exact nomatch (show ([] : List V)[i]? = some u from a)⟩
theorem PL.snoc {v : V} {x : α} (h : PL P vs xs) (k : P v x) : PL P (vs ++ [v]) (xs ++ [x]) := h.app (.one k)
theorem PL.take (h : PL P vs xs) (n : Nat) : PL P (vs.take n) (xs.take n) := by
  refine ⟨by rw [List.length_take, List.length_take, h.1], fun i v x a b => ?_⟩
  by_cases hi : i < n
  · rw [List.getElem?_take_of_lt hi] at a b
    exact h.2 i v x a b
  · rw [List.getElem?_take_eq_none (by omega)] at a
    cases a
/-! the data of books, things, ways -/
def wd (b : Bool) : Str := if b = true then "rule" else "move"
def RuleV (K : PySem.W.Frag) (H : Hp) (v : V) (r : Rl) : Prop := ∃ p q, v = .ref p ∧ SqT K H p [nv r.op, .ref q, nv r.kind, nv r.cost] ∧ IT K H q r.src
def MoveV (K : PySem.W.Frag) (H : Hp) (v : V) (m : Mv) : Prop := ∃ p, v = .ref p ∧ SqT K H p [nv m.src, nv m.kind, nv m.cost]
def WayV (K : PySem.W.Frag) (H : Hp) (v : V) (w : Wy) : Prop := ∃ p, v = .ref p ∧ SqT K H p [.str (wd w.1), nv w.2]
def ThV (H : Hp) (v : V) (t : Th) : Prop := ∃ p, v = .ref p ∧ H p = some (.tup [nv t.1, nv t.2])
theorem RuleV.tt {H H' : Hp} {v : V} {r : Rl} (x : TT K H H') (h : RuleV K H v r) : RuleV K H' v r := by
  obtain ⟨p, q, e, h1, h2⟩ := h
  exact ⟨p, q, e, x.t _ _ h1, x.t _ _ h2⟩
theorem MoveV.tt {H H' : Hp} {v : V} {r : Mv} (x : TT K H H') (h : MoveV K H v r) : MoveV K H' v r := by
  obtain ⟨p, e, h1⟩ := h
  exact ⟨p, e, x.t _ _ h1⟩
theorem WayV.tt {H H' : Hp} {v : V} {r : Wy} (x : TT K H H') (h : WayV K H v r) : WayV K H' v r := by
  obtain ⟨p, e, h1⟩ := h
  exact ⟨p, e, x.t _ _ h1⟩
theorem ThV.tt {H H' : Hp} {v : V} {r : Th} (x : TT K H H') (h : ThV H v r) : ThV H' v r := by
  obtain ⟨p, e, h1⟩ := h
  exact ⟨p, e, x.d _ _ h1⟩
def RulesT (K : PySem.W.Frag) (H : Hp) (p : Addr) (rs : List Rl) : Prop := ∃ vs, SqT K H p vs ∧ PL (RuleV K H) vs rs
def MovesT (K : PySem.W.Frag) (H : Hp) (p : Addr) (ms : List Mv) : Prop := ∃ vs, SqT K H p vs ∧ PL (MoveV K H) vs ms
def ThsT (K : PySem.W.Frag) (H : Hp) (p : Addr) (ts : List Th) : Prop := ∃ vs, SqT K H p vs ∧ PL (ThV H) vs ts
def WaysL (K : PySem.W.Frag) (H : Hp) (l : Addr) (ws : List Wy) : Prop := ∃ vs, H l = some (.lst vs) ∧ PL (WayV K H) vs ws
theorem RulesT.tt {H H' : Hp} {p : Addr} {rs : List Rl} (x : TT K H H') (h : RulesT K H p rs) : RulesT K H' p rs := by
  obtain ⟨vs, h1, h2⟩ := h
  exact ⟨vs, x.t _ _ h1, h2.mono fun _ _ q => q.tt x⟩
theorem MovesT.tt {H H' : Hp} {p : Addr} {rs : List Mv} (x : TT K H H') (h : MovesT K H p rs) : MovesT K H' p rs := by
  obtain ⟨vs, h1, h2⟩ := h
  exact ⟨vs, x.t _ _ h1, h2.mono fun _ _ q => q.tt x⟩
theorem ThsT.tt {H H' : Hp} {p : Addr} {rs : List Th} (x : TT K H H') (h : ThsT K H p rs) : ThsT K H' p rs := by
  obtain ⟨vs, h1, h2⟩ := h
  exact ⟨vs, x.t _ _ h1, h2.mono fun _ _ q => q.tt x⟩
theorem WaysL.tt {H H' : Hp} {l : Addr} {rs : List Wy} (x : TT K H H') (e : ∀ vs, H l = some (.lst vs) → H' l = some (.lst vs)) (h : WaysL K H l rs) : WaysL K H' l rs := by
  obtain ⟨vs, h1, h2⟩ := h
  exact ⟨vs, e _ h1, h2.mono fun _ _ q => q.tt x⟩
theorem WaysL.same {H H' : Hp} {l : Addr} {rs : List Wy} (x : Same H H') (h : WaysL K H l rs) : WaysL K H' l rs := h.tt (Same_tt x) fun _ q => x _ _ q
theorem RowV.tt {H H' : Hp} {v : V} {r : Row} (x : TT K H H') (h : RowV K H v r) : RowV K H' v r := by
  obtain ⟨p, q, e, h1, h2⟩ := h
  exact ⟨p, q, e, x.t _ _ h1, x.t _ _ h2⟩
theorem RowsT.tt {H H' : Hp} {p : Addr} {R : List Row} (x : TT K H H') (h : RowsT K H p R) : RowsT K H' p R := by
  obtain ⟨vs, h1, h2, h3⟩ := h
  exact ⟨vs, x.t _ _ h1, h2, fun i v e => (h3 i v e).tt x⟩
/-- a book at x -/
def BookV (K : PySem.W.Frag) (C : Addr) (H : Hp) (x : Addr) (B : Bk) : Prop := ∃ dx pa pr pm, H x = some (.ins C dx [("arities", .ref pa), ("kinds", nv B.nk), ("rules", .ref pr), ("moves", .ref pm)]) ∧ IT K H pa B.ar ∧ RulesT K H pr B.rs ∧ MovesT K H pm B.ms
/-- its parts, in a tuple -/
def PartsV (K : PySem.W.Frag) (H : Hp) (p : Addr) (B : Bk) : Prop := ∃ pa pr pm, SqT K H p [.ref pa, nv B.nk, .ref pr, .ref pm] ∧ IT K H pa B.ar ∧ RulesT K H pr B.rs ∧ MovesT K H pm B.ms
theorem BookV.tk {C : Addr} {H H' : Hp} {x : Addr} {B : Bk} (s : Tk H H') (h : BookV K C H x B) : BookV K C H' x B := by
  obtain ⟨dx, pa, pr, pm, h1, h2, h3, h4⟩ := h
  exact ⟨dx, pa, pr, pm, s _ _ (fun _ z => nomatch z) h1, s.t h2, h3.tt s.tt, h4.tt s.tt⟩
theorem PartsV.tt {H H' : Hp} {p : Addr} {B : Bk} (x : TT K H H') (h : PartsV K H p B) : PartsV K H' p B := by
  obtain ⟨pa, pr, pm, h1, h2, h3, h4⟩ := h
  exact ⟨pa, pr, pm, x.t _ _ h1, x.t _ _ h2, h3.tt x, h4.tt x⟩
end
section
/-! as data of any depth -/
variable {K : PySem.W.Frag}
def dTh (t : Th) : PyData := .tuple [dN t.1, dN t.2]
def dWy (w : Wy) : PyData := .tuple [.str (wd w.1), dN w.2]
theorem pl_dp {α : Type} {P : V → α → Prop} {f : α → PyData} {H : Hp} {vs : List V} {xs : List α} (h : PL P vs xs) (m : ∀ v x, P v x → Dp K H v (f x)) : DpAll K H vs (xs.map f) :=
  dpAll_of (by rw [List.length_map, h.1]) fun i v d a b => by
    rw [List.getElem?_map] at b
    obtain ⟨x, hx, rfl⟩ := Option.map_eq_some_iff.mp b
    exact m v x (h.2 i v x a hx)
theorem th_dp {H : Hp} {v : V} {t : Th} (h : ThV H v t) : Dp K H v (dTh t) := by
  obtain ⟨p, rfl, h1⟩ := h
  exact .tup (.inl (.inl h1)) (.cons (.int _) (.cons (.int _) .nil))
theorem way_dp {H : Hp} {v : V} {t : Wy} (h : WayV K H v t) : Dp K H v (dWy t) := by
  obtain ⟨p, rfl, h1⟩ := h
  exact .tup h1 (.cons (.str _) (.cons (.int _) .nil))
theorem ths_dp {H : Hp} {p : Addr} {ts : List Th} (h : ThsT K H p ts) : Dp K H (.ref p) (.tuple (ts.map dTh)) := by
  obtain ⟨vs, h1, h2⟩ := h
  exact .tup h1 (pl_dp h2 fun _ _ q => th_dp q)
theorem ways_dp {H : Hp} {p : Addr} {ts : List Wy} (h : WaysL K H p ts) : Dp K H (.ref p) (.list (ts.map dWy)) := by
  obtain ⟨vs, h1, h2⟩ := h
  exact .lst (SqL.of h1) (pl_dp h2 fun _ _ q => way_dp q)
theorem okd_ths {ts : List Th} (h : ts.length ≤ 100000) : okd 4 (.tuple (ts.map dTh)) := by
  refine ⟨by rw [List.length_map]; exact h, fun e he => ?_⟩
  obtain ⟨t, _, rfl⟩ := List.mem_map.mp he
  refine ⟨by show 2 ≤ 100000; decide, fun e he => ?_⟩
  rcases List.mem_cons.mp he with rfl | he
  · exact trivial
  · rw [List.mem_singleton.mp he]
    exact trivial
theorem okd_ways {ts : List Wy} (h : ts.length ≤ 100000) : okd 4 (.list (ts.map dWy)) := by
  refine ⟨by rw [List.length_map]; exact h, fun e he => ?_⟩
  obtain ⟨t, _, rfl⟩ := List.mem_map.mp he
  refine ⟨by show 2 ≤ 100000; decide, fun e he => ?_⟩
  rcases List.mem_cons.mp he with rfl | he
  · exact trivial
  · rw [List.mem_singleton.mp he]
    exact trivial
theorem ths_lay : ∀ ts : List Th, PyData.canLayAll0 (ts.map dTh) = true
  | [] => rfl
  | t :: r => by
    show ((true && (true && true)) && PyData.canLayAll0 (r.map dTh)) = true
    rw [ths_lay r]
    rfl
theorem wd_lay (b : Bool) : (PyData.str (wd b)).canLay0 = true := by
  cases b
  · exact (by decide +kernel : (PyData.str "move").canLay0 = true)
  · exact (by decide +kernel : (PyData.str "rule").canLay0 = true)
theorem wy_lay (b : Bool) (k : Nat) : (dWy (b, k)).canLay0 = true := by
  show ((PyData.str (wd b)).canLay0 && (true && true)) = true
  rw [wd_lay b]
  rfl
theorem ways_lay : ∀ ts : List Wy, PyData.canLayAll0 (ts.map dWy) = true
  | [] => rfl
  | (b, k) :: r => by
    have e : (dWy (b, k)).canLay0 = true := wy_lay b k
    show ((dWy (b, k)).canLay0 && PyData.canLayAll0 (r.map dWy)) = true
    rw [ways_lay r, e]
    rfl
theorem ths_depth : ∀ R : List Th, PyData.depthAll (R.map dTh) ≤ 2
  | [] => by decide
  | r :: R => by
    have h1 := ths_depth R
    simp only [List.map_cons, PyData.depthAll, dTh, PyData.depth, dN]
    omega
theorem ways_depth : ∀ R : List Wy, PyData.depthAll (R.map dWy) ≤ 2
  | [] => by decide
  | r :: R => by
    have h1 := ways_depth R
    simp only [List.map_cons, PyData.depthAll, dWy, PyData.depth, dN]
    omega
theorem sh_ths (R : List Th) : SeqAt.shaped (.tuple (R.map dTh)) = true := by
  unfold SeqAt.shaped
  have h1 := ths_lay R
  have h2 := ths_depth R
  rw [Bool.and_eq_true, decide_eq_true_eq]
  exact ⟨h1, by show PyData.depthAll (R.map dTh) + 1 ≤ 64; omega⟩
theorem sh_thsL (R : List Th) : SeqAt.shaped (.list (R.map dTh)) = true := by
  unfold SeqAt.shaped
  have h1 := ths_lay R
  have h2 := ths_depth R
  rw [Bool.and_eq_true, decide_eq_true_eq]
  exact ⟨h1, by show PyData.depthAll (R.map dTh) + 1 ≤ 64; omega⟩
theorem sh_ways (R : List Wy) : SeqAt.shaped (.list (R.map dWy)) = true := by
  unfold SeqAt.shaped
  have h1 := ways_lay R
  have h2 := ways_depth R
  rw [Bool.and_eq_true, decide_eq_true_eq]
  exact ⟨h1, by show PyData.depthAll (R.map dWy) + 1 ≤ 64; omega⟩
theorem sh_th (t : Th) : SeqAt.shaped (dTh t) = true := by
  unfold SeqAt.shaped
  rw [Bool.and_eq_true, decide_eq_true_eq]
  refine ⟨rfl, ?_⟩
  simp only [dTh, PyData.depth, PyData.depthAll, dN]
  omega
theorem sh_wy (t : Wy) : SeqAt.shaped (dWy t) = true := by
  unfold SeqAt.shaped
  rw [Bool.and_eq_true, decide_eq_true_eq]
  refine ⟨wy_lay t.1 t.2, ?_⟩
  simp only [dWy, PyData.depth, PyData.depthAll, dN]
  omega
theorem int_beq (x y : Int) : (x == y) = decide (x = y) := rfl
theorem eqv_th (t u : Th) : PyData.eqv (dTh t) (dTh u) = decide (t = u) := by
  obtain ⟨a, b⟩ := t
  obtain ⟨c, d⟩ := u
  have e : PyData.eqv (dTh (a, b)) (dTh (c, d)) = (decide ((a : Int) = c) && (decide ((b : Int) = d) && true)) := by
    simp only [PyData.eqv, PyData.eqvAll, dTh, dN, int_beq, Bool.and_true]
  rw [e, Bool.and_true, ← Bool.decide_and]
  refine decide_eq_decide.mpr ?_
  rw [Prod.mk.injEq]
  omega
theorem any_th (u : Th) : ∀ ts : List Th, ((ts.map dTh).any fun z => PyData.eqv z (dTh u)) = decide (u ∈ ts)
  | [] => rfl
  | t :: ts => by
    rw [List.map_cons, List.any_cons, eqv_th, any_th u ts, ← Bool.decide_or]
    refine decide_eq_decide.mpr ?_
    rw [List.mem_cons]
    exact or_congr eq_comm Iff.rfl
theorem str_beq (x y : Str) : (x == y) = decide (x = y) := by
  by_cases h : x = y
  · rw [decide_eq_true h]
    exact beq_iff_eq.mpr h
  · rw [decide_eq_false h]
    exact beq_eq_false_iff_ne.mpr h
theorem wd_inj {b c : Bool} (h : wd b = wd c) : b = c := by
  cases b <;> cases c <;> first | rfl | exact absurd h (by decide)
theorem eqv_wy (t u : Wy) : PyData.eqv (dWy t) (dWy u) = decide (t = u) := by
  obtain ⟨a, b⟩ := t
  obtain ⟨c, d⟩ := u
  have e : PyData.eqv (dWy (a, b)) (dWy (c, d)) = (decide (wd a = wd c) && (decide ((b : Int) = d) && true)) := by
    simp only [PyData.eqv, PyData.eqvAll, dWy, dN, int_beq, Bool.and_true, str_beq]
  rw [e, Bool.and_true, ← Bool.decide_and]
  refine decide_eq_decide.mpr ?_
  rw [Prod.mk.injEq]
  constructor
  · rintro ⟨h1, h2⟩
    exact ⟨wd_inj h1, by omega⟩
  · rintro ⟨rfl, rfl⟩
    exact ⟨rfl, rfl⟩
theorem any_wy (u : Wy) : ∀ ts : List Wy, ((ts.map dWy).any fun z => PyData.eqv z (dWy u)) = decide (u ∈ ts)
  | [] => rfl
  | t :: ts => by
    rw [List.map_cons, List.any_cons, eqv_wy, any_wy u ts, ← Bool.decide_or]
    refine decide_eq_decide.mpr ?_
    rw [List.mem_cons]
    exact or_congr eq_comm Iff.rfl
end
section
/-! dicts whose keys are things -/
def kt (t : Th) : List Key := [.inl (t.1 : Int), .inl (t.2 : Int)]
theorem kt_inj {x y : Th} (h : kt x = kt y) : x = y := by
  unfold kt at h
  have h1 := (List.cons.inj h).1
  have h2 := (List.cons.inj (List.cons.inj h).2).1
  have h1' := Sum.inl.inj h1
  have h2' := Sum.inl.inj h2
  exact Prod.ext (by omega) (by omega)
theorem kt_v (t : Th) : (kt t).map kV = [nv t.1, nv t.2] := rfl
def tk (F : List Th) : List (List Key × V) := F.map fun t => (kt t, .bl true)
theorem tk_len (F : List Th) : (tk F).length = F.length := List.length_map _
theorem tk_val (x : Th) : ∀ F : List Th, valV (tk F) (kt x) = if x ∈ F then some (.bl true) else none
  | [] => rfl
  | y :: F => by
    by_cases e : y = x
    · subst e
      rw [if_pos List.mem_cons_self]
      exact valV_pos rfl
    · rw [show valV (tk (y :: F)) (kt x) = valV (tk F) (kt x) from valV_neg fun q => e (kt_inj q), tk_val x F]
      by_cases m : x ∈ F
      · rw [if_pos m, if_pos (List.mem_cons_of_mem _ m)]
      · rw [if_neg m, if_neg (by rw [List.mem_cons]; exact fun q => q.elim (fun q => e q.symm) m)]
theorem tk_some (x : Th) (F : List Th) : (valV (tk F) (kt x)).isSome = decide (x ∈ F) := by
  rw [tk_val]
  by_cases m : x ∈ F
  · rw [if_pos m, decide_eq_true m]
    rfl
  · rw [if_neg m, decide_eq_false m]
    rfl
theorem tk_put (x : Th) (F : List Th) : putK (tk F) (kt x) (.bl true) = tk (insT F x) := by
  unfold insT
  by_cases m : x ∈ F
  · rw [if_pos m]
    have h : ((tk F).any fun kv => decide (kv.1 = kt x)) = true := by
      rw [valV_any, tk_some, decide_eq_true m]
    unfold putK
    rw [if_pos h]
    unfold tk
    rw [List.map_map]
    refine List.map_congr_left fun y _ => ?_
    show (if kt y = kt x then (kt y, V.bl true) else (kt y, V.bl true)) = _
    split <;> rfl
  · rw [if_neg m, putK_new _ (by rw [tk_val, if_neg m])]
    unfold tk
    rw [List.map_append]
    rfl
theorem tk_keys {F : List Th} : ∀ e ∈ tk F, ∃ i j : Int, e.1 = [.inl i, .inl j] := fun e he => by
  obtain ⟨t, _, rfl⟩ := List.mem_map.mp he
  exact ⟨_, _, rfl⟩
/-- the keys of such a dict, sorted -/
theorem keys_ths {H : Hp} : ∀ {F : List Th} {bs : List Addr}, IsKeys H (tk F) bs → PL (ThV H) (bs.map V.ref) F
  | [], _, h => by
    cases h
    exact PL.nil
  | t :: F, _, h => by
    cases h with
    | cons h1 h2 => exact (PL.one (P := ThV H) (x := t) ⟨_, rfl, h1⟩).app (keys_ths h2)
end
section
/-! sorted lists of things -/
def thOf (kf : V → Int × Int) (v : V) : Th := ((kf v).1.toNat, (kf v).2.toNat)
theorem srt_ths {H : Hp} {F : List Th} {ys vs : List V} {kf : V → Int × Int} (hP : PL (ThV H) vs F) (hk : ∀ v ∈ vs, ∃ t, v = V.ref t ∧ H t = some (.tup [.int (kf v).1, .int (kf v).2])) (hs : SrtO.Srtd (ltP kf) ys) (hb : SrtO.Stb (ltP kf) ys vs) (hn : F.Nodup) : PL (ThV H) ys (lotT F) := by
  have one : ∀ v t, v ∈ vs → ThV H v t → (kf v).1 = (t.1 : Int) ∧ (kf v).2 = (t.2 : Int) := fun v t hv h => by
    obtain ⟨p, e, h1⟩ := h
    obtain ⟨q, e2, h2⟩ := hk v hv
    rw [e] at e2
    cases e2
    rw [h1] at h2
    have h3 := HO.tup.inj (Option.some.inj h2)
    have h4 := V.int.inj (List.cons.inj h3).1
    have h5 := V.int.inj (List.cons.inj (List.cons.inj h3).2).1
    exact ⟨h4.symm, h5.symm⟩
  have hg : vs.map (thOf kf) = F := by
    refine List.ext_getElem? fun i => ?_
    rw [List.getElem?_map]
    cases e : F[i]? with
    | none =>
      have := List.getElem?_eq_none_iff.mp e
      rw [List.getElem?_eq_none (by rw [hP.1]; exact this)]
      rfl
    | some t =>
      obtain ⟨v, e2, h2⟩ := hP.at e
      rw [e2]
      obtain ⟨h3, h4⟩ := one v t (List.mem_of_getElem? e2) h2
      show some (thOf kf v) = some t
      unfold thOf
      rw [h3, h4]
      rfl
  have hv : ∀ v ∈ vs, ThV H v (thOf kf v) := fun v m => by
    obtain ⟨i, hi⟩ := List.mem_iff_getElem?.mp m
    obtain ⟨t, _, h2⟩ := hP.at' hi
    obtain ⟨h3, h4⟩ := one v t m h2
    have e : thOf kf v = t := by
      unfold thOf
      rw [h3, h4]
      rfl
    rw [e]
    exact h2
  have hp : (ys.map (thOf kf)).Perm F := by
    rw [← hg]
    exact hb.perm.map _
  have hnd : (ys.map (thOf kf)).Nodup := hp.nodup_iff.mpr hn
  have hle : ys.Pairwise fun x y => SrtO.lexB (kf y) (kf x) = false := hs
  have hlt : (ys.map (thOf kf)).Pairwise ltT := by
    rw [List.pairwise_map]
    have h2 : ys.Pairwise fun x y => thOf kf x ≠ thOf kf y := List.pairwise_map.mp hnd
    refine List.Pairwise.imp_of_mem ?_ (hle.and h2)
    intro x y hx hy q
    have kx := hv x (hb.perm.mem_iff.mp hx)
    have ky := hv y (hb.perm.mem_iff.mp hy)
    obtain ⟨x1, x2⟩ := one x _ (hb.perm.mem_iff.mp hx) kx
    obtain ⟨y1, y2⟩ := one y _ (hb.perm.mem_iff.mp hy) ky
    have l := SrtO.lexB_no.mp q.1
    rw [x1, x2, y1, y2] at l
    have ne := q.2
    generalize thOf kf x = u at *
    generalize thOf kf y = v at *
    have ne' : ¬ (u.1 = v.1 ∧ u.2 = v.2) := fun z => ne (Prod.ext z.1 z.2)
    unfold ltT
    omega
  have e : ys.map (thOf kf) = lotT F := asc_uniq hlt asc_lotT fun x => by rw [mem_lotT, hp.mem_iff]
  rw [← e]
  refine ⟨(List.length_map _).symm, fun i v x h1 h2 => ?_⟩
  rw [List.getElem?_map, h1] at h2
  rw [← Option.some.inj h2]
  exact hv v (hb.perm.mem_iff.mp (List.mem_of_getElem? h1))
end
end Lk
namespace Lk
open PySem L2
theorem u1 {n : Nat} (h : n + 64 < cLine) : n + 1 < cLine := by omega
theorem both {a b : Prop} [Decidable a] [Decidable b] (h1 : a) (h2 : b) : (decide a && decide b) = true := by
  rw [decide_eq_true h1, decide_eq_true h2]
  rfl
section
/-! the keys of a book's check -/
open NeD
def nkR (r : Rl) : NestedKey := .tup [.num r.op, .tup (r.src.map fun (x : Nat) => .num (x : Int)), .num r.kind]
def nkM (m : Mv) : NestedKey := .tup [.num m.src, .num m.kind]
theorem nums_depth2 : ∀ xs : List Nat, NestedKey.depthAll (xs.map fun (x : Nat) => .num (x : Int)) ≤ 1
  | [] => by decide
  | x :: r => by
    have := nums_depth2 r
    simp only [List.map_cons, NestedKey.depthAll, NestedKey.depth]
    omega
theorem nkR_depth (r : Rl) : (nkR r).depth ≤ 8 := by
  have := nums_depth2 r.src
  simp only [nkR, NestedKey.depthAll, NestedKey.depth]
  omega
theorem nkM_depth (r : Mv) : (nkM r).depth ≤ 8 := by
  simp only [nkM, NestedKey.depthAll, NestedKey.depth]
  omega
theorem _root_.NeD.ND.same {K : PySem.W.Frag} {P : Program} {w : World} {H H' : Hp} {a : Addr} {kvs : List (NestedKey × V)} (h : ND K P w H a kvs) (s : Same H H') : ND K P w H' a kvs := by
  obtain ⟨xs, e, ek, hk, hn, hz⟩ := h
  exact ⟨xs, s _ _ e, ek, fun x hx => ⟨(hk x hx).1.mono fun _ _ q => (Tk.of s).t q, (hk x hx).2⟩, hn, hz⟩
def ndR (rs : List Rl) : List (NestedKey × V) := rs.map fun r => (nkR r, .bl true)
def ndM (ms : List Mv) : List (NestedKey × V) := ms.map fun r => (nkM r, .bl true)
theorem nums_nk {K : PySem.W.Frag} {H : Hp} : ∀ xs : List Nat, NKs K H (xs.map nv) (xs.map fun (x : Nat) => .num (x : Int))
  | [] => .nil
  | x :: r => .cons (.int _) (nums_nk r)
theorem nkR_inj {r s : Rl} (h : nkR r = nkR s) : rkey r = rkey s := by
  unfold nkR at h
  simp only [NestedKey.tup.injEq, List.cons.injEq, NestedKey.num.injEq, and_true] at h
  obtain ⟨h1, h2, h3⟩ := h
  have e : r.src = s.src := by
    have inj : ∀ {a b : List Nat}, (a.map fun (x : Nat) => NestedKey.num (x : Int)) = (b.map fun (x : Nat) => NestedKey.num (x : Int)) → a = b := by
      intro a
      induction a with
      | nil =>
        intro b h
        cases b with
        | nil => rfl
        | cons => cases h
      | cons x a ih =>
        intro b h
        cases b with
        | nil => cases h
        | cons y b =>
          rw [List.map_cons, List.map_cons] at h
          have q := List.cons.inj h
          have q1 := NestedKey.num.inj q.1
          rw [ih q.2]
          congr 1
          omega
    exact inj h2
  unfold rkey
  rw [e]
  congr 1
  · omega
  · congr 1
    omega
theorem nkM_inj {r s : Mv} (h : nkM r = nkM s) : mkey r = mkey s := by
  unfold nkM at h
  simp only [NestedKey.tup.injEq, List.cons.injEq, NestedKey.num.injEq, and_true] at h
  unfold mkey
  congr 1 <;> omega
theorem val_none {α β : Type} [DecidableEq β] (f : α → β) {x : β} : ∀ {l : List α}, (∀ y ∈ l, f y ≠ x) → valV (l.map fun y => (f y, V.bl true)) x = none
  | [], _ => rfl
  | y :: l, h => by
    rw [List.map_cons, valV_neg (h y List.mem_cons_self)]
    exact val_none f fun z hz => h z (List.mem_cons_of_mem _ hz)
theorem nodup_take {α β : Type} {f : α → β} {l : List α} {i : Nat} {x : α} (h : (l.map f).Nodup) (hx : l[i]? = some x) : ∀ y ∈ l.take i, f y ≠ f x := by
  intro y hy e
  obtain ⟨j, hj⟩ := List.mem_iff_getElem?.mp hy
  have hji : j < i := by
    have := (List.getElem?_eq_some_iff.mp hj).1
    rw [List.length_take] at this
    omega
  rw [List.getElem?_take_of_lt hji] at hj
  have h1 : (l.map f)[j]? = some (f y) := by rw [List.getElem?_map, hj]; rfl
  have h2 : (l.map f)[i]? = some (f x) := by rw [List.getElem?_map, hx]; rfl
  have h3 := List.getElem?_eq_some_iff.mp h1
  have h4 := List.getElem?_eq_some_iff.mp h2
  have := (List.getElem_inj h (h₀ := h3.1) (h₁ := h4.1)).mp (h3.2.trans (e.trans h4.2.symm))
  omega
theorem ndR_none {rs : List Rl} {i : Nat} {r : Rl} (h : (rs.map rkey).Nodup) (hx : rs[i]? = some r) : valV (ndR (rs.take i)) (nkR r) = none := val_none nkR fun y hy e => nodup_take h hx y hy (nkR_inj e)
theorem ndM_none {rs : List Mv} {i : Nat} {r : Mv} (h : (rs.map mkey).Nodup) (hx : rs[i]? = some r) : valV (ndM (rs.take i)) (nkM r) = none := val_none nkM fun y hy e => nodup_take h hx y hy (nkM_inj e)
theorem ndR_put {rs : List Rl} {i : Nat} {r : Rl} (h : (rs.map rkey).Nodup) (hx : rs[i]? = some r) : putK (ndR (rs.take i)) (nkR r) (.bl true) = ndR (rs.take (i + 1)) := by
  rw [putK_new _ (ndR_none h hx), List.take_add_one, hx]
  unfold ndR
  rw [List.map_append]
  rfl
theorem ndM_put {rs : List Mv} {i : Nat} {r : Mv} (h : (rs.map mkey).Nodup) (hx : rs[i]? = some r) : putK (ndM (rs.take i)) (nkM r) (.bl true) = ndM (rs.take (i + 1)) := by
  rw [putK_new _ (ndM_none h hx), List.take_add_one, hx]
  unfold ndM
  rw [List.map_append]
  rfl
end
section
variable {P : Program} {w : World} {K : PySem.W.Frag} {mg : Str → Option Value} {base : Heap} {a : Adr}
def spIsPrice : Sp := fun vs H Q _ => ∃ c : Nat, vs = [nv c] ∧ 1 ≤ c ∧ c ≤ 1000 ∧ Q (.bl true) H
theorem ok_is_price (T : Txt K mg a) : FnOk P w K mg base CX0 3 a.f_is_price a.d_is_price ["thing"] spIsPrice := by
  have G_is_between := ok_is_between (P := P) (w := w) (base := base) T
  refine T.F_is_price.ok sc_is_price (fun vs H Q E h => ?_) (fun cdv A outer s H vs Q E hr h => ?_)
  · obtain ⟨c, rfl, _⟩ := h
    rfl
  obtain ⟨c, rfl, h1, h2, q⟩ := h
  refine ⟨_, (pss_one (ps_ret (pe_call G_is_between (hr.mono (by decide)) rfl T.g_is_between T.k_is_between T.b_is_between .nil pass0 (pa_cons pe_int (pa_cons pe_int (pa_cons (pv 0) pa_nil)))))), ?_⟩
  refine ⟨_, rfl, nv c, "int", 1, 1000, rfl, .int, .base (.int _), .inr ⟨_, rfl, rfl, ?_⟩⟩
  rw [both (by omega) (by omega)]
  exact q
def spIsMove (K : PySem.W.Frag) : Sp := fun vs H Q _ => ∃ (nk : Nat) (v : V) (m : Mv), vs = [nv nk, v] ∧ MoveV K H v m ∧ MvOk nk m ∧ Q (.bl true) H
theorem ok_is_move (T : Txt K mg a) : FnOk P w K mg base CX0 4 a.f_is_move a.d_is_move ["kinds", "thing"] (spIsMove K) := by
  have G_is_between := ok_is_between (P := P) (w := w) (base := base) T
  have G_is_tuple_of := ok_is_tuple_of (P := P) (w := w) (base := base) T
  have G_is_price := ok_is_price (P := P) (w := w) (base := base) T
  refine T.F_is_move.ok sc_is_move (fun vs H Q E h => ?_) (fun cdv A outer s H vs Q E hr h => ?_)
  · obtain ⟨nk, v, m, rfl, _⟩ := h
    rfl
  obtain ⟨nk, v, m, rfl, ⟨p, rfl, h1⟩, ⟨b1, b2, b3, b4, b5⟩, q⟩ := h
  refine ⟨_, (pss_cons (ps_if (pt_not (pt_val (pe_call G_is_tuple_of (hr.mono (by decide)) rfl T.g_is_tuple_of T.k_is_tuple_of T.b_is_tuple_of .nil pass0 (pa_cons pe_int (pa_cons pe_int (pa_cons (pv 1) pa_nil))))))
    (pss_one (ps_ret pe_bl))
    pss_nil)
  (pss_cons (ps_asg (pv 1) (pg_tup (by rfl) (pgs_cons (pg_name (i := 2) sc_is_move.nd rfl (Or.inl rfl)) (pgs_cons (pg_name (i := 3) sc_is_move.nd rfl (Or.inl rfl)) (pgs_cons (pg_name (i := 4) sc_is_move.nd rfl (Or.inl rfl)) pgs_nil)))))
  (pss_one (ps_ret (pe_and (pe_call G_is_between (hr.mono (by decide)) rfl T.g_is_between T.k_is_between T.b_is_between .nil pass0 (pa_cons pe_int (pa_cons (pe_op op_sub (pv 0) pe_int) (pa_cons (pv 2) pa_nil)))) (pe_and (pe_call G_is_between (hr.mono (by decide)) rfl T.g_is_between T.k_is_between T.b_is_between .nil pass0 (pa_cons pe_int (pa_cons (pe_op op_sub (pv 0) pe_int) (pa_cons (pv 3) pa_nil)))) (pe_and (pe_cmpR op_ne (pv 2) (pv 3) (nomark _)) (pe_one (pe_call G_is_price (hr.mono (by decide)) rfl T.g_is_price T.k_is_price T.b_is_price .nil pass0 (pa_cons (pv 4) pa_nil)))))))))), ?_⟩
  refine ⟨_, rfl, .ref p, "tuple", 3, 3, rfl, .tup, tyT h1, .inr ⟨p, _, rfl, rfl, h1, ?_⟩⟩
  refine ⟨_, rfl, iteF ?_⟩
  refine ⟨_, rfl, p, _, rfl, h1, rfl, ?_⟩
  refine ⟨_, _, rfl, _, _, rfl, _, _, rfl, rfl, ?_⟩
  refine ⟨_, rfl, _, _, rfl, rfl, _, rfl, nv m.src, "int", 0, _, rfl, .int, .base (.int _), .inr ⟨_, rfl, rfl, ?_⟩⟩
  refine ⟨_, rfl, iteC (both (by omega) (by omega)) ?_⟩
  refine ⟨_, rfl, _, _, rfl, rfl, _, rfl, nv m.kind, "int", 0, _, rfl, .int, .base (.int _), .inr ⟨_, rfl, rfl, ?_⟩⟩
  refine ⟨_, rfl, iteC (both (by omega) (by omega)) ?_⟩
  refine ⟨_, rfl, _, rfl, rfl, _, rfl, ?_⟩
  refine iteC (by rw [Bool.not_eq_true', decide_eq_false_iff_not]; exact fun e => b3 (by have := V.int.inj e; omega)) ?_
  refine ⟨_, rfl, m.cost, rfl, b4, b5, q⟩
def spIsRule (K : PySem.W.Frag) : Sp := fun vs H Q _ => ∃ (pa : Addr) (ar : List Nat) (nk : Nat) (v : V) (r : Rl), vs = [.ref pa, nv nk, v] ∧ IT K H pa ar ∧ RuleV K H v r ∧ RlOk ar nk r ∧ r.src.length ≤ 2 ∧ ∀ H', Same H H' → Q (.bl true) H'
theorem ok_is_rule (T : Txt K mg a) : FnOk P w K mg base CX0 4 a.f_is_rule a.d_is_rule ["arities", "kinds", "thing"] (spIsRule K) := by
  have G_is_between := ok_is_between (P := P) (w := w) (base := base) T
  have G_is_tuple_of := ok_is_tuple_of (P := P) (w := w) (base := base) T
  have G_is_price := ok_is_price (P := P) (w := w) (base := base) T
  refine T.F_is_rule.ok sc_is_rule (fun vs H Q E h => ?_) (fun cdv A outer s H vs Q E hr h => ?_)
  · obtain ⟨pa, ar, nk, v, m, rfl, _⟩ := h
    rfl
  obtain ⟨pa, ar, nk, v, r, rfl, ha, ⟨p, q, rfl, h1, h2⟩, ⟨b1, b2, b3, b4, b5, b6⟩, hl, k⟩ := h
  have hix : atI (ar.map nv) (r.op : Int) = some (nv (ar.getD r.op 0)) := atI_nat (by rw [List.getElem?_map, List.getElem?_eq_getElem b1, gd b1]; rfl)
  refine ⟨_, (pss_cons (ps_if (pt_not (pt_val (pe_call G_is_tuple_of (hr.mono (by decide)) rfl T.g_is_tuple_of T.k_is_tuple_of T.b_is_tuple_of .nil pass0 (pa_cons pe_int (pa_cons pe_int (pa_cons (pv 2) pa_nil))))))
    (pss_one (ps_ret pe_bl))
    pss_nil)
  (pss_cons (ps_asg (pv 2) (pg_tup (by rfl) (pgs_cons (pg_name (i := 3) sc_is_rule.nd rfl (Or.inl rfl)) (pgs_cons (pg_name (i := 4) sc_is_rule.nd rfl (Or.inl rfl)) (pgs_cons (pg_name (i := 5) sc_is_rule.nd rfl (Or.inl rfl)) (pgs_cons (pg_name (i := 6) sc_is_rule.nd rfl (Or.inl rfl)) pgs_nil))))))
  (pss_one (ps_ret (pe_and (pe_call G_is_between (hr.mono (by decide)) rfl T.g_is_between T.k_is_between T.b_is_between .nil pass0 (pa_cons pe_int (pa_cons (pe_op op_sub (pe_callB call_len_seq (by rfl) T.z_len PySem.boot_len (pa_cons (pv 0) pa_nil)) pe_int) (pa_cons (pv 3) pa_nil)))) (pe_and (pe_call G_is_tuple_of (hr.mono (by decide)) rfl T.g_is_tuple_of T.k_is_tuple_of T.b_is_tuple_of .nil pass0 (pa_cons (pe_ix ix_tup (pv 0) (pv 3) (fun _ _ => rfl)) (pa_cons (pe_ix ix_tup (pv 0) (pv 3) (fun _ _ => rfl)) (pa_cons (pv 4) pa_nil)))) (pe_and (pe_callB (cr_all rfl) (by rfl) T.z_all (by decide +kernel) (pa_cons (pe_lc (own := [("source", 7)]) (g := gName 7) (tt := tYes) rfl sc_is_rule.nd (pi_tup (pv 4)) (blkOk_by (N := ["arities", "kinds", "thing", "op", "sources", "kind", "cost", "source"]) (sc := defScope s_is_rule) (by decide +kernel)) (fun _ _ _ _ _ => pg_name (i := 7) sc_is_rule.nd rfl (Or.inl rfl)) (fun _ _ _ _ _ => pts_nil) (fun _ _ _ _ _ => (pe_call G_is_between (hr.mono (by decide)) rfl T.g_is_between T.k_is_between T.b_is_between .nil pass0 (pa_cons pe_int (pa_cons (pe_op op_sub (pv 1) pe_int) (pa_cons (pv 7) pa_nil)))))) pa_nil)) (pe_and (pe_call G_is_between (hr.mono (by decide)) rfl T.g_is_between T.k_is_between T.b_is_between .nil pass0 (pa_cons pe_int (pa_cons (pe_op op_sub (pv 1) pe_int) (pa_cons (pv 5) pa_nil)))) (pe_one (pe_call G_is_price (hr.mono (by decide)) rfl T.g_is_price T.k_is_price T.b_is_price .nil pass0 (pa_cons (pv 6) pa_nil))))))))))), ?_⟩
  refine ⟨_, rfl, .ref p, "tuple", 4, 4, rfl, .tup, tyT h1, .inr ⟨p, _, rfl, rfl, h1, ?_⟩⟩
  refine ⟨_, rfl, iteF ?_⟩
  refine ⟨_, rfl, p, _, rfl, h1, rfl, ?_⟩
  refine ⟨_, _, rfl, _, _, rfl, _, _, rfl, _, _, rfl, rfl, ?_⟩
  refine ⟨_, rfl, pa, _, rfl, .inr ha, _, _, rfl, rfl, _, rfl, nv r.op, "int", 0, _, rfl, .int, .base (.int _), .inr ⟨_, rfl, rfl, ?_⟩⟩
  refine ⟨_, rfl, iteC (both (by omega) (by rw [List.length_map]; omega)) ?_⟩
  refine ⟨_, rfl, _, rfl, pa, _, _, _, rfl, rfl, ha, hix, _, rfl, _, rfl, pa, _, _, _, rfl, rfl, ha, hix, _, rfl, .ref q, "tuple", _, _, rfl, .tup, tyT h2, .inr ⟨q, _, rfl, rfl, h2, ?_⟩⟩
  refine ⟨_, rfl, iteC (both (by rw [List.length_map]; omega) (by rw [List.length_map]; omega)) ?_⟩
  refine ⟨_, rfl, q, rfl, ⟨_, h2⟩, fun D hD => ?_⟩
  refine lc_tup (xs := r.src.map nv) (fun j H' => Same H H' ∧ H' D = some (.lst ((List.replicate j true).map V.bl))) ⟨same_new hD, upd_same⟩ (fun j H' _ z => (Tk.of z.1).t h2) (fun j x H' hx z => ?_) (fun H' z => ?_)
  · refine ⟨rfl, ?_⟩
    rw [List.getElem?_map] at hx
    obtain ⟨y, hy, rfl⟩ := Option.map_eq_some_iff.mp hx
    have hlt := b3 y (List.mem_of_getElem? hy)
    refine ⟨_, rfl, _, _, rfl, rfl, _, rfl, nv y, "int", 0, _, rfl, .int, .base (.int _), .inr ⟨_, rfl, rfl, ?_⟩⟩
    have hj : j < r.src.length := (List.getElem?_eq_some_iff.mp hy).1
    refine ⟨_, z.2, ?_, fun b o e => ?_, ?_⟩
    · rw [List.length_map, List.length_replicate]
      exact small1000 (by omega)
    · rw [upd_ne (ne_of_none e hD)]
      exact z.1 b o e
    · rw [upd_same]
      rw [both (by omega) (by omega), List.replicate_succ', List.map_append]
      rfl
  · refine ⟨D, _, rfl, .inl (.inl z.2), ?_⟩
    have e1 : (List.replicate (r.src.map nv).length true).all id = true := by simp
    rw [e1]
    refine ⟨_, rfl, iteT ?_⟩
    refine ⟨_, rfl, _, _, rfl, rfl, _, rfl, nv r.kind, "int", 0, _, rfl, .int, .base (.int _), .inr ⟨_, rfl, rfl, ?_⟩⟩
    refine ⟨_, rfl, iteC (both (by omega) (by omega)) ?_⟩
    exact ⟨_, rfl, r.cost, rfl, b5, b6, k H' z.1⟩
def spFrame (K : PySem.W.Frag) : Sp := fun vs H Q _ => ∃ (pa pr pm : Addr) (B : Bk), vs = [.ref pa, nv B.nk, .ref pr, .ref pm] ∧ IT K H pa B.ar ∧ RulesT K H pr B.rs ∧ MovesT K H pm B.ms ∧ GoodB B ∧ ∀ H', Same H H' → Q .non H'
theorem ok_check_frame (T : Txt K mg a) : FnOk P w K mg base CX0 3 a.f_check_frame a.d_check_frame ["arities", "kinds", "rules", "moves"] (spFrame K) := by
  have G_is_between := ok_is_between (P := P) (w := w) (base := base) T
  have G_is_tuple_of := ok_is_tuple_of (P := P) (w := w) (base := base) T
  refine T.F_check_frame.ok sc_check_frame (fun vs H Q E h => ?_) (fun cdv A outer s H vs Q E hr h => ?_)
  · obtain ⟨pa, pr, pm, B, rfl, _⟩ := h
    rfl
  obtain ⟨pa, pr, pm, B, rfl, ha, ⟨vr, hr1, hr2⟩, ⟨vm, hm1, hm2⟩, g, k⟩ := h
  obtain ⟨g1, g2, g3, g4, g5, g6, g7, _, _, _, _⟩ := id g
  refine ⟨_, (pss_cons (ps_if (pt_not (PW.pt (pw_and (pt_val (pe_call G_is_tuple_of (hr.mono (by decide)) rfl T.g_is_tuple_of T.k_is_tuple_of T.b_is_tuple_of .nil pass0 (pa_cons pe_int (pa_cons pe_int (pa_cons (pv 0) pa_nil))))) (pw_and1 (pt_val (pe_callB (cr_all rfl) (by rfl) T.z_all (by decide +kernel) (pa_cons (pe_lc (own := [("arity", 4)]) (g := gName 4) (tt := tYes) rfl sc_check_frame.nd (pi_tup (pv 0)) (blkOk_by (N := ["arities", "kinds", "rules", "moves", "arity"]) (sc := defScope s_check_frame) (by decide +kernel)) (fun _ _ _ _ _ => pg_name (i := 4) sc_check_frame.nd rfl (Or.inl rfl)) (fun _ _ _ _ _ => pts_nil) (fun _ _ _ _ _ => (pe_call G_is_between (hr.mono (by decide)) rfl T.g_is_between T.k_is_between T.b_is_between .nil pass0 (pa_cons pe_int (pa_cons pe_int (pa_cons (pv 4) pa_nil)))))) pa_nil)))))))
    (pss_one ps_never)
    pss_nil)
  (pss_cons (ps_if (pt_not (pt_val (pe_call G_is_between (hr.mono (by decide)) rfl T.g_is_between T.k_is_between T.b_is_between .nil pass0 (pa_cons pe_int (pa_cons pe_int (pa_cons (pv 1) pa_nil))))))
    (pss_one ps_never)
    pss_nil)
  (pss_cons (ps_if (pt_not (pt_val (pe_call G_is_tuple_of (hr.mono (by decide)) rfl T.g_is_tuple_of T.k_is_tuple_of T.b_is_tuple_of .nil pass0 (pa_cons pe_int (pa_cons pe_int (pa_cons (pv 2) pa_nil))))))
    (pss_one ps_never)
    pss_nil)
  (pss_one (ps_if (pt_not (pt_val (pe_call G_is_tuple_of (hr.mono (by decide)) rfl T.g_is_tuple_of T.k_is_tuple_of T.b_is_tuple_of .nil pass0 (pa_cons pe_int (pa_cons pe_int (pa_cons (pv 3) pa_nil))))))
    (pss_one ps_never)
    pss_nil))))), ?_⟩
  refine ⟨_, rfl, .ref pa, "tuple", 1, 8, rfl, .tup, tyT ha, .inr ⟨pa, _, rfl, rfl, ha, ?_⟩⟩
  refine ⟨_, rfl, iteC (both (by rw [List.length_map]; omega) (by rw [List.length_map]; omega)) ?_⟩
  refine ⟨_, rfl, pa, rfl, ⟨_, ha⟩, fun D hD => ?_⟩
  refine lc_tup (xs := B.ar.map nv) (fun j H' => Same H H' ∧ H' D = some (.lst ((List.replicate j true).map V.bl))) ⟨same_new hD, upd_same⟩ (fun j H' _ z => (Tk.of z.1).t ha) (fun j x H' hx z => ?_) (fun H' z => ?_)
  · refine ⟨rfl, ?_⟩
    rw [List.getElem?_map] at hx
    obtain ⟨y, hy, rfl⟩ := Option.map_eq_some_iff.mp hx
    have hlt := g3 y (List.mem_of_getElem? hy)
    refine ⟨_, rfl, nv y, "int", 0, 2, rfl, .int, .base (.int _), .inr ⟨_, rfl, rfl, ?_⟩⟩
    have hj : j < B.ar.length := (List.getElem?_eq_some_iff.mp hy).1
    refine ⟨_, z.2, ?_, fun b o e => ?_, ?_⟩
    · rw [List.length_map, List.length_replicate]
      exact small1000 (by omega)
    · rw [upd_ne (ne_of_none e hD)]
      exact z.1 b o e
    · rw [upd_same]
      rw [both (by omega) (by omega), List.replicate_succ', List.map_append]
      rfl
  · refine ⟨D, _, rfl, .inl (.inl z.2), ?_⟩
    have e1 : (List.replicate (B.ar.map nv).length true).all id = true := by simp
    rw [e1]
    refine ⟨_, rfl, iteF ?_⟩
    refine ⟨_, rfl, nv B.nk, "int", 1, 5, rfl, .int, .base (.int _), .inr ⟨_, rfl, rfl, ?_⟩⟩
    refine ⟨_, rfl, iteD (by rw [both (by omega) (by omega)]; rfl) ?_⟩
    have t := Tk.of z.1
    refine ⟨_, rfl, .ref pr, "tuple", 0, 40, rfl, .tup, tyT (t.t hr1), .inr ⟨pr, _, rfl, rfl, t.t hr1, ?_⟩⟩
    refine ⟨_, rfl, iteD (by rw [both (by omega) (by rw [hr2.1]; omega)]; rfl) ?_⟩
    refine ⟨_, rfl, .ref pm, "tuple", 0, 20, rfl, .tup, tyT (t.t hm1), .inr ⟨pm, _, rfl, rfl, t.t hm1, ?_⟩⟩
    refine ⟨_, rfl, iteD (by rw [both (by omega) (by rw [hm2.1]; omega)]; rfl) ?_⟩
    exact k H' z.1
/-! the keys of a book's check -/
open NeD in
theorem rule_key {H : Hp} {c q : Addr} {r : Rl} (h : SqT K H c [nv r.op, .ref q, nv r.kind]) (h2 : IT K H q r.src) : NK K H (.ref c) (nkR r) := .tup h (.cons (.int _) (.cons (.tup h2 (nums_nk r.src)) (.cons (.int _) .nil)))
open NeD in
theorem move_key {H : Hp} {c : Addr} {m : Mv} (h : SqT K H c [nv m.src, nv m.kind]) : NK K H (.ref c) (nkM m) := .tup h (.cons (.int _) (.cons (.int _) .nil))
def spChkR (K : PySem.W.Frag) : Sp := fun vs H Q _ => ∃ (pa pr : Addr) (B : Bk), vs = [.ref pa, nv B.nk, .ref pr] ∧ IT K H pa B.ar ∧ RulesT K H pr B.rs ∧ GoodB B ∧ ∀ H', Same H H' → Q .non H'
theorem ok_check_rules (T : Txt K mg a) : FnOk P w K mg base CX0 5 a.f_check_rules a.d_check_rules ["arities", "kinds", "rules"] (spChkR K) := by
  have G_is_rule := ok_is_rule (P := P) (w := w) (base := base) T
  refine T.F_check_rules.ok sc_check_rules (fun vs H Q E h => ?_) (fun cdv A outer s H vs Q E hr h => ?_)
  · obtain ⟨pa, pr, B, rfl, _⟩ := h
    rfl
  obtain ⟨pa, pr, B, rfl, ha, ⟨ws, hw, hpl⟩, g, k⟩ := h
  refine ⟨_, (pss_cons (ps_set (i := 3) sc_check_rules.nd rfl (Or.inl rfl) NeD.pe_new)
  (pss_one (ps_for PassesOwn.never rfl (EnT.pi_enumT rfl T.z_enumerate (pa_cons (pv 2) pa_nil)) (pg_tup rfl (pgs_cons (pg_name (i := 4) sc_check_rules.nd rfl (Or.inl rfl)) (pgs_cons (pg_name (i := 5) sc_check_rules.nd rfl (Or.inl rfl)) pgs_nil)))
    (pss_cons (ps_if (PW.pt (pw_or (pt_not (pt_val (pe_call G_is_rule (hr.mono (by decide)) rfl T.g_is_rule T.k_is_rule T.b_is_rule .nil pass0 (pa_cons (pv 0) (pa_cons (pv 1) (pa_cons (pv 5) pa_nil)))))) (pw_or1 (pt_cmp (NeD.pc_in hr.units (pe_slice sl_tup (pv 5) po_none (po_some pe_int)) (pv 3))))))
    (pss_one ps_never)
    pss_nil)
  (pss_one (NeD.ps_put hr.units (pv 3) (pe_slice sl_tup (pv 5) po_none (po_some pe_int)) pe_bl rfl)))))), ?_⟩
  refine fun d hd => ?_
  refine ⟨_, rfl, pr, ws, rfl, (tt_new hd).t _ _ hw, for_it (EnT.walkE (xs := ws)) (fun i σ H' => ∃ v4 v5, σ = [some (.ref pa), some (nv B.nk), some (.ref pr), some (.ref d), v4, v5] ∧ Same H H' ∧ NeD.ND K P w H' d (ndR (B.rs.take i))) ⟨none, none, rfl, same_new hd, NeD.nd_new⟩ (fun i σ H' _ z => ?_) ?_ ?_⟩
  · obtain ⟨_, _, _, s1, _⟩ := z
    exact (Tk.of s1).t hw
  · intro i y σ H1 H2 hi z hy
    obtain ⟨_, _, rfl, s1, hN⟩ := z
    obtain ⟨t, y1, y2, rfl, ht, rfl, e1, e2⟩ := hy
    cases e1
    have hi' : i < B.rs.length := by
      rw [← hpl.1]
      exact hi
    have hrA := rAt_of hi'
    have hv0 := hpl.2 i y2 _ e2 hrA
    have s2 : Same H (upd H1 t (.tup [.int (i : Nat), y2])) := s1.trans (same_new ht)
    obtain ⟨hok, hsl⟩ : RlOk B.ar B.nk (rAt B.rs i) ∧ (rAt B.rs i).src.length ≤ 2 := by
      have q := g.r2 _ (rAt_mem hi')
      refine ⟨q, ?_⟩
      rw [q.2.1, gd q.1]
      exact g.a3 _ (List.getElem_mem q.1)
    refine ⟨t, _, rfl, .inl (.inl upd_same), rfl, _, _, rfl, _, _, rfl, rfl, ?_⟩
    refine ⟨_, rfl, _, rfl, _, rfl, pa, B.ar, B.nk, y2, rAt B.rs i, rfl, (Tk.of s2).t ha, hv0.tt (Same_tt s2), hok, hsl, fun H3 s3 => ?_⟩
    obtain ⟨pv, qv, rfl, hp1, hq1⟩ := hv0.tt (Same_tt (s2.trans s3))
    refine ⟨_, rfl, iteF ?_⟩
    refine ⟨_, rfl, _, rfl, pv, _, rfl, hp1, (by show ¬ (HT.sIx 4 0 none = 0 ∧ HT.sIx 4 4 (some 3) = 4); decide), fun c hc => ?_⟩
    have s4 : Same H (upd H3 c (.tup [nv (rAt B.rs i).op, .ref qv, nv (rAt B.rs i).kind])) := (s2.trans s3).trans (same_new hc)
    have hN4 : NeD.ND K P w (upd H3 c (.tup [nv (rAt B.rs i).op, .ref qv, nv (rAt B.rs i).kind])) d (ndR (B.rs.take i)) := hN.same (((same_new ht).trans s3).trans (same_new hc))
    refine ⟨_, rfl, c, d, _, nkR (rAt B.rs i), rfl, rfl, hN4, rule_key (.inl (.inl upd_same)) ((tt_new hc).t _ _ hq1), ?_, ?_⟩
    · exact nkR_depth _
    refine ⟨_, rfl, iteD ?_ ?_⟩
    · rw [ndR_none g.r3 hrA]
      rfl
    refine ⟨_, rfl, _, rfl, _, rfl, pv, _, rfl, (tt_new hc).t _ _ hp1, (by show ¬ (HT.sIx 4 0 none = 0 ∧ HT.sIx 4 4 (some 3) = 4); decide), fun e he => ?_⟩
    refine ⟨e, d, _, nkR (rAt B.rs i), rfl, rfl, hN4.same (same_new he), rule_key (.inl (.inl upd_same)) ((tt_new he).t _ _ ((tt_new hc).t _ _ hq1)), nkR_depth _, ?_, fun o ho => ?_⟩
    · show (ndR (B.rs.take i)).length < sizeLine
      unfold ndR
      rw [List.length_map, List.length_take]
      exact lt_line (by have := g.r1; omega)
    · rw [ndR_put g.r3 hrA] at ho
      refine ⟨_, _, rfl, fun b u q => ?_, ho⟩
      rw [upd_ne (ne_of_none q hd)]
      exact (s4.trans (same_new he)) b u q
  · intro σ H1 z
    obtain ⟨v4, v5, rfl, s1, _⟩ := z
    exact k H1 s1
def spChkM (K : PySem.W.Frag) : Sp := fun vs H Q _ => ∃ (pr : Addr) (B : Bk), vs = [nv B.nk, .ref pr] ∧ MovesT K H pr B.ms ∧ GoodB B ∧ ∀ H', Same H H' → Q .non H'
theorem ok_check_moves (T : Txt K mg a) : FnOk P w K mg base CX0 5 a.f_check_moves a.d_check_moves ["kinds", "moves"] (spChkM K) := by
  have G_is_move := ok_is_move (P := P) (w := w) (base := base) T
  refine T.F_check_moves.ok sc_check_moves (fun vs H Q E h => ?_) (fun cdv A outer s H vs Q E hr h => ?_)
  · obtain ⟨pr, B, rfl, _⟩ := h
    rfl
  obtain ⟨pr, B, rfl, ⟨ws, hw, hpl⟩, g, k⟩ := h
  refine ⟨_, (pss_cons (ps_set (i := 2) sc_check_moves.nd rfl (Or.inl rfl) NeD.pe_new)
  (pss_one (ps_for PassesOwn.never rfl (EnT.pi_enumT rfl T.z_enumerate (pa_cons (pv 1) pa_nil)) (pg_tup rfl (pgs_cons (pg_name (i := 3) sc_check_moves.nd rfl (Or.inl rfl)) (pgs_cons (pg_name (i := 4) sc_check_moves.nd rfl (Or.inl rfl)) pgs_nil)))
    (pss_cons (ps_if (PW.pt (pw_or (pt_not (pt_val (pe_call G_is_move (hr.mono (by decide)) rfl T.g_is_move T.k_is_move T.b_is_move .nil pass0 (pa_cons (pv 0) (pa_cons (pv 4) pa_nil))))) (pw_or1 (pt_cmp (NeD.pc_in hr.units (pe_slice sl_tup (pv 4) po_none (po_some pe_int)) (pv 2))))))
    (pss_one ps_never)
    pss_nil)
  (pss_one (NeD.ps_put hr.units (pv 2) (pe_slice sl_tup (pv 4) po_none (po_some pe_int)) pe_bl rfl)))))), ?_⟩
  refine fun d hd => ?_
  refine ⟨_, rfl, pr, ws, rfl, (tt_new hd).t _ _ hw, for_it (EnT.walkE (xs := ws)) (fun i σ H' => ∃ v4 v5, σ = [some (nv B.nk), some (.ref pr), some (.ref d), v4, v5] ∧ Same H H' ∧ NeD.ND K P w H' d (ndM (B.ms.take i))) ⟨none, none, rfl, same_new hd, NeD.nd_new⟩ (fun i σ H' _ z => ?_) ?_ ?_⟩
  · obtain ⟨_, _, _, s1, _⟩ := z
    exact (Tk.of s1).t hw
  · intro i y σ H1 H2 hi z hy
    obtain ⟨_, _, rfl, s1, hN⟩ := z
    obtain ⟨t, y1, y2, rfl, ht, rfl, e1, e2⟩ := hy
    cases e1
    have hi' : i < B.ms.length := by
      rw [← hpl.1]
      exact hi
    have hrA := mAt_of hi'
    have hv0 := hpl.2 i y2 _ e2 hrA
    have s2 : Same H (upd H1 t (.tup [.int (i : Nat), y2])) := s1.trans (same_new ht)
    have hok := g.m2 _ (mAt_mem hi')
    refine ⟨t, _, rfl, .inl (.inl upd_same), rfl, _, _, rfl, _, _, rfl, rfl, ?_⟩
    refine ⟨_, rfl, _, rfl, B.nk, y2, mAt B.ms i, rfl, hv0.tt (Same_tt s2), hok, ?_⟩
    obtain ⟨pv, rfl, hp1⟩ := hv0.tt (Same_tt s2)
    refine ⟨_, rfl, iteF ?_⟩
    refine ⟨_, rfl, _, rfl, pv, _, rfl, hp1, (by show ¬ (HT.sIx 3 0 none = 0 ∧ HT.sIx 3 3 (some 2) = 3); decide), fun c hc => ?_⟩
    have s4 := s2.trans (same_new (o := .tup [nv (mAt B.ms i).src, nv (mAt B.ms i).kind]) hc)
    have hN4 : NeD.ND K P w (upd (upd H1 t (.tup [.int (i : Nat), .ref pv])) c (.tup [nv (mAt B.ms i).src, nv (mAt B.ms i).kind])) d (ndM (B.ms.take i)) := hN.same ((same_new ht).trans (same_new hc))
    refine ⟨_, rfl, c, d, _, nkM (mAt B.ms i), rfl, rfl, hN4, move_key (.inl (.inl upd_same)), nkM_depth _, ?_⟩
    refine ⟨_, rfl, iteD ?_ ?_⟩
    · rw [ndM_none g.m3 hrA]
      rfl
    refine ⟨_, rfl, _, rfl, _, rfl, pv, _, rfl, (tt_new hc).t _ _ hp1, (by show ¬ (HT.sIx 3 0 none = 0 ∧ HT.sIx 3 3 (some 2) = 3); decide), fun e he => ?_⟩
    refine ⟨e, d, _, nkM (mAt B.ms i), rfl, rfl, hN4.same (same_new he), move_key (.inl (.inl upd_same)), nkM_depth _, ?_, fun o ho => ?_⟩
    · show (ndM (B.ms.take i)).length < sizeLine
      unfold ndM
      rw [List.length_map, List.length_take]
      exact lt_line (by have := g.m1; omega)
    · rw [ndM_put g.m3 hrA] at ho
      refine ⟨_, _, rfl, fun b u q => ?_, ho⟩
      rw [upd_ne (ne_of_none q hd)]
      exact (s4.trans (same_new he)) b u q
  · intro σ H1 z
    obtain ⟨v4, v5, rfl, s1, _⟩ := z
    exact k H1 s1
def spBookInit (K : PySem.W.Frag) (C : Addr) : Sp := fun vs H Q _ => ∃ (x dx pa pr pm : Addr) (B : Bk), vs = [.ref x, .ref pa, nv B.nk, .ref pr, .ref pm] ∧ H x = some (.ins C dx []) ∧ IT K H pa B.ar ∧ RulesT K H pr B.rs ∧ MovesT K H pm B.ms ∧ GoodB B ∧
  ∀ H', (∀ b o, H b = some o → b ≠ x → H' b = some o) → H' x = some (.ins C dx [("arities", .ref pa), ("kinds", nv B.nk), ("rules", .ref pr), ("moves", .ref pm)]) → Q .non H'
theorem ok_Book_init (T : Txt K mg a) : FnOk P w K mg base CX0 6 a.f_Book_init a.d_Book_init ["self", "arities", "kinds", "rules", "moves"] (spBookInit K a.c_Book) := by
  have G_check_frame := ok_check_frame (P := P) (w := w) (base := base) T
  have G_check_rules := ok_check_rules (P := P) (w := w) (base := base) T
  have G_check_moves := ok_check_moves (P := P) (w := w) (base := base) T
  refine T.F_Book_init.ok sc_Book_init (fun vs H Q E h => ?_) (fun cdv A outer s H vs Q E hr h => ?_)
  · obtain ⟨x, dx, pa, pr, pm, B, rfl, _⟩ := h
    rfl
  obtain ⟨x, dx, pa, pr, pm, B, rfl, hx, ha, hR, hM, g, k⟩ := h
  refine ⟨_, (pss_cons (ps_expr (pe_call G_check_frame (hr.mono (by decide)) rfl T.g_check_frame T.k_check_frame T.b_check_frame .nil pass0 (pa_cons (pv 1) (pa_cons (pv 2) (pa_cons (pv 3) (pa_cons (pv 4) pa_nil))))))
  (pss_cons (ps_expr (pe_call G_check_rules (hr.mono (by decide)) rfl T.g_check_rules T.k_check_rules T.b_check_rules .nil pass0 (pa_cons (pv 1) (pa_cons (pv 2) (pa_cons (pv 3) pa_nil)))))
  (pss_cons (ps_expr (pe_call G_check_moves (hr.mono (by decide)) rfl T.g_check_moves T.k_check_moves T.b_check_moves .nil pass0 (pa_cons (pv 2) (pa_cons (pv 4) pa_nil))))
  (pss_cons (ps_fld (pv 0) (pv 1) rfl)
  (pss_cons (ps_fld (pv 0) (pv 2) rfl)
  (pss_cons (ps_fld (pv 0) (pv 3) rfl)
  (pss_one (ps_fld (pv 0) (pv 4) rfl)))))))), ?_⟩
  refine ⟨_, rfl, _, rfl, _, rfl, _, rfl, pa, pr, pm, B, rfl, ha, hR, hM, g, fun H1 s1 => ?_⟩
  refine ⟨_, rfl, _, rfl, _, rfl, pa, pr, B, rfl, (Tk.of s1).t ha, hR.tt (Same_tt s1), g, fun H2 s2 => ?_⟩
  refine ⟨_, rfl, _, rfl, pm, B, rfl, hM.tt (Same_tt (s1.trans s2)), g, fun H3 s3 => ?_⟩
  have s := (s1.trans s2).trans s3
  refine ⟨_, rfl, _, rfl, x, a.c_Book, dx, [], rfl, s _ _ hx, T.C_Book, T.N_arities, (by decide), ?_⟩
  refine ⟨_, rfl, _, rfl, x, a.c_Book, dx, _, rfl, upd_same, T.C_Book, T.N_kinds, (by show 1 < 1000; decide), ?_⟩
  refine ⟨_, rfl, _, rfl, x, a.c_Book, dx, _, rfl, upd_same, T.C_Book, T.N_rules, (by show 2 < 1000; decide), ?_⟩
  refine ⟨_, rfl, _, rfl, x, a.c_Book, dx, _, rfl, upd_same, T.C_Book, T.N_moves, (by show 3 < 1000; decide), ?_⟩
  refine k _ (fun b o e ne => ?_) upd_same
  rw [upd_ne ne, upd_ne ne, upd_ne ne, upd_ne ne]
  exact s _ _ e
end
end Lk
namespace Lk
open PySem L2
theorem u65 {k : Nat} {A : Around} (r : Room k A) : A.units + 65 < cLine := by have := r.un; omega
theorem hu1 {k : Nat} {A : Around} (r : Room k A) : A.units + 1 < cLine := by have := r.un; omega
section
variable {P : Program} {w : World} {K : PySem.W.Frag} {mg : Str → Option Value} {base : Heap} {a : Adr}
/-- a book and a web of it -/
structure BW (K : PySem.W.Frag) (a : Adr) (H : Hp) (x y : Addr) (B : Bk) (R : List Row) : Prop where
  b : BookV K a.c_Book H x B
  r : WebV K a.c_Web H y R
  g : GoodB B
  gr : Good R
  f : FitsM B R
  l : R.length ≤ 200
theorem BW.tk {H H' : Hp} {x y : Addr} {B : Bk} {R : List Row} (s : Tk H H') (h : BW K a H x y B R) : BW K a H' x y B R := ⟨h.b.tk s, h.r.tk s, h.g, h.gr, h.f, h.l⟩
theorem BW.same {H H' : Hp} {x y : Addr} {B : Bk} {R : List Row} (s : Same H H') (h : BW K a H x y B R) : BW K a H' x y B R := h.tk (Tk.of s)
def spIsRowOf (K : PySem.W.Frag) (C : Addr) : Sp := fun vs H Q _ => ∃ (x q : Addr) (B : Bk) (o : Nat) (ps : List Nat), vs = [.ref x, nv o, .ref q] ∧ BookV K C H x B ∧ IT K H q ps ∧ o < B.ar.length ∧ B.ar.getD o 0 = ps.length ∧ Q (.bl true) H
theorem ok_is_row_of (T : Txt K mg a) : FnOk P w K mg base CX0 1 a.f_is_row_of a.d_is_row_of ["book", "op", "parts"] (spIsRowOf K a.c_Book) := by
  refine T.F_is_row_of.ok sc_is_row_of (fun vs H Q E h => ?_) (fun cdv A outer s H vs Q E hr h => ?_)
  · obtain ⟨x, q, B, o, ps, rfl, _⟩ := h
    rfl
  obtain ⟨x, q, B, o, ps, rfl, ⟨dx, pa, pr, pm, h1, h2, h3, h4⟩, hq, ho, e, k⟩ := h
  have hix : atI (B.ar.map nv) (o : Int) = some (nv (B.ar.getD o 0)) := atI_nat (by rw [List.getElem?_map, List.getElem?_eq_getElem ho, gd ho]; rfl)
  refine ⟨_, (pss_one (ps_ret (pe_and (pe_cmpR op_lt (pv 1) (pe_callB call_len_seq (by rfl) T.z_len PySem.boot_len (pa_cons (pe_fld (pv 0) rfl) pa_nil)) (nomark _)) (pe_one (pe_cmpR op_eq (pe_ix ix_tup (pe_fld (pv 0) rfl) (pv 1) (fun _ _ => rfl)) (pe_callB call_len_seq (by rfl) T.z_len PySem.boot_len (pa_cons (pv 2) pa_nil)) (nomark _)))))), ?_⟩
  refine ⟨_, rfl, _, rfl, x, a.c_Book, dx, _, _, rfl, h1, T.C_Book, T.N_arities, rfl, pa, _, rfl, .inr h2, _, _, rfl, rfl, _, rfl, iteC (decide_eq_true (by rw [List.length_map]; omega)) ?_⟩
  refine ⟨_, rfl, x, a.c_Book, dx, _, _, rfl, h1, T.C_Book, T.N_arities, rfl, _, rfl, pa, _, _, _, rfl, rfl, h2, hix, _, rfl, q, _, rfl, .inr hq, rfl, ?_⟩
  have e1 : decide (nv (B.ar.getD o 0) = V.int (((ps.map nv).length : Nat) : Int)) = true := decide_eq_true (by rw [List.length_map, e]; rfl)
  rw [e1]
  exact k
def spFits (K : PySem.W.Frag) (a : Adr) : Sp := fun vs H Q _ => ∃ (x y : Addr) (B : Bk) (R : List Row), vs = [.ref x, .ref y] ∧ BW K a H x y B R ∧ ∀ H', Same H H' → Q (.bl true) H'
theorem ok_fits (T : Txt K mg a) : FnOk P w K mg base CX0 2 a.f_fits a.d_fits ["book", "web"] (spFits K a) := by
  have G_is_row_of := ok_is_row_of (P := P) (w := w) (base := base) T
  refine T.F_fits.ok sc_fits (fun vs H Q E h => ?_) (fun cdv A outer s H vs Q E hr h => ?_)
  · obtain ⟨x, y, B, R, rfl, _⟩ := h
    rfl
  obtain ⟨x, y, B, R, rfl, W, k⟩ := h
  obtain ⟨dx, pa, pr, pm, hx, hx2⟩ := id W.b
  obtain ⟨dy, q, hy, ⟨ws, hw, hwl, hrow⟩⟩ := id W.r
  refine ⟨_, (pss_one (ps_ret (pe_and (pe_callB (C8.call_isC T.I_Book) (by rfl) T.z_isinstance (by decide +kernel) (pa_cons (pv 0) (pa_cons (pe_glob (v := .ref a.c_Book) rfl T.g_Book rfl) pa_nil))) (pe_and (pe_callB (C8.call_isC T.I_Web) (by rfl) T.z_isinstance (by decide +kernel) (pa_cons (pv 1) (pa_cons (pe_glob (v := .ref a.c_Web) rfl T.g_Web rfl) pa_nil))) (pe_one (pe_callB (cr_all rfl) (by rfl) T.z_all (by decide +kernel) (pa_cons (pe_lc (own := [("op", 2), ("parts", 3)]) (g := gTup K 2 (gCons (gName 2) (gCons (gName 3) gNil))) (tt := tYes) rfl sc_fits.nd (pi_tup (pe_fld (pv 1) rfl)) (blkOk_by (N := ["book", "web", "op", "parts"]) (sc := defScope s_fits) (by decide +kernel)) (fun _ _ _ _ _ => pg_tup rfl (pgs_cons (pg_name (i := 2) sc_fits.nd rfl (Or.inl rfl)) (pgs_cons (pg_name (i := 3) sc_fits.nd rfl (Or.inl rfl)) pgs_nil))) (fun _ _ _ _ _ => pts_nil) (fun _ _ _ _ _ => (pe_call G_is_row_of (hr.mono (by decide)) rfl T.g_is_row_of T.k_is_row_of T.b_is_row_of .nil pass0 (pa_cons (pv 0) (pa_cons (pv 2) (pa_cons (pv 3) pa_nil)))))) pa_nil))))))), ?_⟩
  refine ⟨_, rfl, x, dx, _, rfl, hx, _, rfl, ?_⟩
  refine ⟨_, rfl, y, dy, _, rfl, hy, _, rfl, ?_⟩
  refine ⟨_, rfl, y, a.c_Web, dy, _, _, rfl, hy, T.C_Web, T.N_rows, rfl, q, rfl, ⟨_, hw⟩, fun D hD => ?_⟩
  refine lc_tup (xs := ws) (fun j H' => Same H H' ∧ H' D = some (.lst ((List.replicate j true).map V.bl))) ⟨same_new hD, upd_same⟩ (fun j H' _ z => (Tk.of z.1).t hw) (fun j v H' hx z => ?_) (fun H' z => ?_)
  · have hj : j < R.length := by
      rw [← hwl]
      exact (List.getElem?_eq_some_iff.mp hx).1
    obtain ⟨pv, qv, rfl, hp, hq⟩ := (hrow j v hx).tk (Tk.of z.1)
    obtain ⟨f1, f2⟩ := W.f j hj
    refine ⟨pv, _, rfl, hp, rfl, _, _, rfl, _, _, rfl, rfl, ?_⟩
    refine ⟨rfl, ?_⟩
    refine ⟨_, rfl, _, rfl, _, rfl, x, qv, B, _, _, rfl, W.b.tk (Tk.of z.1), hq, f1, f2, ?_⟩
    refine ⟨_, z.2, ?_, fun b o e => ?_, ?_⟩
    · rw [List.length_map, List.length_replicate]
      exact small1000 (by have := W.l; omega)
    · rw [upd_ne (ne_of_none e hD)]
      exact z.1 b o e
    · rw [upd_same, List.replicate_succ', List.map_append]
      rfl
  · refine ⟨D, _, rfl, .inl (.inl z.2), ?_⟩
    have e1 : (List.replicate ws.length true).all id = true := by simp
    rw [e1]
    exact k H' z.1
def spCheckWeb (K : PySem.W.Frag) (a : Adr) : Sp := fun vs H Q _ => ∃ (x y : Addr) (B : Bk) (R : List Row), vs = [.ref x, .ref y] ∧ BW K a H x y B R ∧ ∀ H', Same H H' → Q .non H'
theorem ok_check_web (T : Txt K mg a) : FnOk P w K mg base CX0 3 a.f_check_web a.d_check_web ["book", "web"] (spCheckWeb K a) := by
  have G_fits := ok_fits (P := P) (w := w) (base := base) T
  refine T.F_check_web.ok sc_check_web (fun vs H Q E h => ?_) (fun cdv A outer s H vs Q E hr h => ?_)
  · obtain ⟨x, y, B, R, rfl, _⟩ := h
    rfl
  obtain ⟨x, y, B, R, rfl, W, k⟩ := h
  refine ⟨_, (pss_one (ps_if (pt_not (pt_val (pe_call G_fits (hr.mono (by decide)) rfl T.g_fits T.k_fits T.b_fits .nil pass0 (pa_cons (pv 0) (pa_cons (pv 1) pa_nil)))))
    (pss_one ps_never)
    pss_nil)), ?_⟩
  exact ⟨_, rfl, _, rfl, x, y, B, R, rfl, W, fun H1 s1 => ⟨_, rfl, iteF (k H1 s1)⟩⟩
def spIsThing (K : PySem.W.Frag) (a : Adr) : Sp := fun vs H Q _ => ∃ (x y c : Addr) (B : Bk) (R : List Row) (t : Th), vs = [.ref x, .ref y, .ref c] ∧ BW K a H x y B R ∧ SqT K H c [nv t.1, nv t.2] ∧ t.1 < R.length ∧ t.2 < B.nk ∧ Q (.bl true) H
theorem ok_is_thing (T : Txt K mg a) : FnOk P w K mg base CX0 3 a.f_is_thing a.d_is_thing ["book", "web", "thing"] (spIsThing K a) := by
  have G_is_between := ok_is_between (P := P) (w := w) (base := base) T
  have G_is_tuple_of := ok_is_tuple_of (P := P) (w := w) (base := base) T
  refine T.F_is_thing.ok sc_is_thing (fun vs H Q E h => ?_) (fun cdv A outer s H vs Q E hr h => ?_)
  · obtain ⟨x, y, c, B, R, t, rfl, _⟩ := h
    rfl
  obtain ⟨x, y, c, B, R, t, rfl, W, hc, h1, h2, k⟩ := h
  obtain ⟨dx, pa, pr, pm, hx, hx2⟩ := id W.b
  obtain ⟨dy, q, hy, ⟨ws, hw, hwl, hrow⟩⟩ := id W.r
  refine ⟨_, (pss_one (ps_ret (pe_and (pe_call G_is_tuple_of (hr.mono (by decide)) rfl T.g_is_tuple_of T.k_is_tuple_of T.b_is_tuple_of .nil pass0 (pa_cons pe_int (pa_cons pe_int (pa_cons (pv 2) pa_nil)))) (pe_and (pe_call G_is_between (hr.mono (by decide)) rfl T.g_is_between T.k_is_between T.b_is_between .nil pass0 (pa_cons pe_int (pa_cons (pe_op op_sub (pe_callB call_len_seq (by rfl) T.z_len PySem.boot_len (pa_cons (pe_fld (pv 1) rfl) pa_nil)) pe_int) (pa_cons (pe_ix ix_tup (pv 2) pe_int (fun _ _ => rfl)) pa_nil)))) (pe_one (pe_call G_is_between (hr.mono (by decide)) rfl T.g_is_between T.k_is_between T.b_is_between .nil pass0 (pa_cons pe_int (pa_cons (pe_op op_sub (pe_fld (pv 0) rfl) pe_int) (pa_cons (pe_ix ix_tup (pv 2) pe_int (fun _ _ => rfl)) pa_nil))))))))), ?_⟩
  refine ⟨_, rfl, .ref c, "tuple", 2, 2, rfl, .tup, tyT hc, .inr ⟨c, _, rfl, rfl, hc, ?_⟩⟩
  refine ⟨_, rfl, iteT ?_⟩
  refine ⟨_, rfl, y, a.c_Web, dy, _, _, rfl, hy, T.C_Web, T.N_rows, rfl, q, _, rfl, .inr hw, _, _, rfl, rfl, _, rfl, c, _, _, _, rfl, rfl, hc, rfl, nv t.1, "int", 0, _, rfl, .int, .base (.int _), .inr ⟨_, rfl, rfl, ?_⟩⟩
  refine ⟨_, rfl, iteC (both (by omega) (by rw [hwl]; omega)) ?_⟩
  refine ⟨_, rfl, x, a.c_Book, dx, _, _, rfl, hx, T.C_Book, T.N_kinds, rfl, _, _, rfl, rfl, _, rfl, c, _, _, _, rfl, rfl, hc, rfl, nv t.2, "int", 0, _, rfl, .int, .base (.int _), .inr ⟨_, rfl, rfl, ?_⟩⟩
  rw [both (by omega) (by omega)]
  exact k
def spCheckThing (K : PySem.W.Frag) (a : Adr) : Sp := fun vs H Q _ => ∃ (x y c : Addr) (B : Bk) (R : List Row) (t : Th), vs = [.ref x, .ref y, .ref c] ∧ BW K a H x y B R ∧ SqT K H c [nv t.1, nv t.2] ∧ t.1 < R.length ∧ t.2 < B.nk ∧ Q .non H
end
end Lk
namespace Lk
open PySem L2
section
variable {K : PySem.W.Frag}
theorem same_at {H0 H1 : Hp} {D : Addr} {o : HO} (s : Same H0 H1) (hD : H0 D = none) : Same H0 (upd H1 D o) := fun b u q => by
  rw [upd_ne (ne_of_none q hD)]
  exact s b u q
theorem ways_push {H : Hp} {D p : Addr} {us : List V} {ws : List Wy} {b : Bool} {k : Nat} (e : H D = some (.lst us)) (h : PL (WayV K H) us ws) (hp : H p = none) : WaysL K (upd (upd H p (.tup [.str (wd b), nv k])) D (.lst (us ++ [.ref p]))) D (ws ++ [(b, k)]) := by
  have e1 : (upd H p (.tup [.str (wd b), nv k])) D = some (.lst us) := by
    rw [upd_ne (ne_of_none e hp)]
    exact e
  have t : TT K H (upd (upd H p (.tup [.str (wd b), nv k])) D (.lst (us ++ [.ref p]))) := (tt_new hp).trans (tt_lst e1)
  exact ⟨_, upd_same, (h.mono fun _ _ q => q.tt t).snoc ⟨p, rfl, (tt_lst e1).t _ _ (.inl (.inl upd_same))⟩⟩
theorem none_of {H H' : Hp} {D : Addr} (s : Same H H') (h : H' D = none) : H D = none := by
  cases e : H D with
  | none => rfl
  | some o => rw [s _ _ e] at h; cases h
def fl (p : Nat → Bool) (i : Nat) : List Nat := (List.range i).filter p
theorem fl_yes {p : Nat → Bool} {i : Nat} (h : p i = true) : fl p (i + 1) = fl p i ++ [i] := by
  unfold fl
  rw [List.range_succ, List.filter_append, List.filter_cons, if_pos h]
  rfl
theorem fl_no {p : Nat → Bool} {i : Nat} (h : p i = false) : fl p (i + 1) = fl p i := by
  unfold fl
  rw [List.range_succ, List.filter_append, List.filter_cons, if_neg (by rw [h]; decide), List.filter_nil, List.append_nil]
theorem fl_len (p : Nat → Bool) (i : Nat) : (fl p i).length ≤ i := by
  have := List.length_filter_le p (List.range i)
  rw [List.length_range] at this
  exact this
end
section
variable {P : Program} {w : World} {K : PySem.W.Frag} {mg : Str → Option Value} {base : Heap} {a : Adr}
def spWaysTo (K : PySem.W.Frag) (a : Adr) : Sp := fun vs H Q _ => ∃ (x y c : Addr) (B : Bk) (R : List Row) (t : Th), vs = [.ref x, .ref y, .ref c] ∧ BW K a H x y B R ∧ SqT K H c [nv t.1, nv t.2] ∧ t.1 < R.length ∧ ∀ l H', Same H H' → H l = none → WaysL K H' l (waysM B R t) → Q (.ref l) H'
theorem ok_ways_to (T : Txt K mg a) : FnOk P w K mg base CX0 1 a.f_ways_to a.d_ways_to ["book", "web", "thing"] (spWaysTo K a) := by
  refine T.F_ways_to.ok sc_ways_to (fun vs H Q E h => ?_) (fun cdv A outer s H vs Q E hr h => ?_)
  · obtain ⟨x, y, c, B, R, t, rfl, _⟩ := h
    rfl
  obtain ⟨x, y, c, B, R, t, rfl, W, hc, h1, k⟩ := h
  obtain ⟨dx, pa, pr, pm, hx, hx2, ⟨wr, hr1, hr2⟩, ⟨wm, hm1, hm2⟩⟩ := id W.b
  obtain ⟨dy, q, hy, hRT⟩ := id W.r
  obtain ⟨ws, hw, hwl, hrow⟩ := hRT
  obtain ⟨vr, hvr1, pR, qR, rfl, hp, hq⟩ := at_row hwl hrow h1
  refine ⟨_, (pss_cons (ps_asg (pv 2) (pg_tup (by rfl) (pgs_cons (pg_name (i := 3) sc_ways_to.nd rfl (Or.inl rfl)) (pgs_cons (pg_name (i := 4) sc_ways_to.nd rfl (Or.inr rfl)) pgs_nil))))
  (pss_cons (ps_set (i := 5) sc_ways_to.nd rfl (Or.inr rfl) (pe_ix ix_tup (pe_ix ix_tup (pe_fld (pv 1) rfl) (pv 3) (fun _ _ => rfl)) pe_int (fun _ _ => rfl)))
  (pss_cons (ps_setLc (i := 6) (own := [("k", 8), ("move", 9)]) (g := gTup K 2 (gCons (gName 8) (gCons (gName 9) gNil))) (tt := _) rfl sc_ways_to.nd rfl rfl (sw_true rfl rfl rfl (by decide +kernel)) (EnT.pi_enumT rfl T.z_enumerate (pa_cons (pe_fld (pv 0) rfl) pa_nil)) (blkOk_by (N := ["book", "web", "thing", "value", "wanted", "op", "by_move", "by_rule", "k", "move", "rule"]) (sc := defScope s_ways_to) (by decide +kernel)) (fun _ _ _ _ _ => pg_tup rfl (pgs_cons (pg_name (i := 8) sc_ways_to.nd rfl (Or.inl rfl)) (pgs_cons (pg_name (i := 9) sc_ways_to.nd rfl (Or.inl rfl)) pgs_nil))) (fun _ _ _ _ _ => (pts_one (pt_cmpR op_eq (pe_ix (ixT (K := K) rfl) (pv 9) pe_int (fun _ _ => rfl)) (pv 4) (nomark _)))) (fun _ _ _ _ _ => (pe_tup (pa_cons pe_str (pa_cons (pv 8) pa_nil)))))
  (pss_cons (ps_setLc (i := 7) (own := [("k", 8), ("rule", 10)]) (g := gTup K 2 (gCons (gName 8) (gCons (gName 10) gNil))) (tt := _) rfl sc_ways_to.nd rfl rfl (sw_true rfl rfl rfl (by decide +kernel)) (EnT.pi_enumT rfl T.z_enumerate (pa_cons (pe_fld (pv 0) rfl) pa_nil)) (blkOk_by (N := ["book", "web", "thing", "value", "wanted", "op", "by_move", "by_rule", "k", "move", "rule"]) (sc := defScope s_ways_to) (by decide +kernel)) (fun _ _ _ _ _ => pg_tup rfl (pgs_cons (pg_name (i := 8) sc_ways_to.nd rfl (Or.inl rfl)) (pgs_cons (pg_name (i := 10) sc_ways_to.nd rfl (Or.inl rfl)) pgs_nil))) (fun _ _ _ _ _ => (pts_one (PW.pt (pw_and (pt_cmpR op_eq (pe_ix (ixT (K := K) rfl) (pv 10) pe_int (fun _ _ => rfl)) (pv 5) (nomark _)) (pw_and1 (pt_cmpR op_eq (pe_ix (ixT (K := K) rfl) (pv 10) pe_int (fun _ _ => rfl)) (pv 4) (nomark _))))))) (fun _ _ _ _ _ => (pe_tup (pa_cons pe_str (pa_cons (pv 8) pa_nil)))))
  (pss_one (ps_ret (pe_op op_cat (pv 6) (pv 7)))))))), ?_⟩
  refine ⟨_, rfl, c, _, rfl, hc, rfl, _, _, rfl, _, _, rfl, rfl, ?_⟩
  refine ⟨_, rfl, y, a.c_Web, dy, _, _, rfl, hy, T.C_Web, T.N_rows, rfl, _, rfl, q, _, _, _, rfl, rfl, hw, hvr1, pR, _, _, _, rfl, rfl, hp, rfl, ?_⟩
  -- the moves
  refine ⟨_, rfl, x, a.c_Book, dx, _, _, rfl, hx, T.C_Book, T.N_moves, rfl, pm, wm, rfl, hm1, fun D hD => ?_⟩
  refine lc_it (EnT.walkE (xs := wm)) (fun i H' => Same H H' ∧ WaysL K H' D ((fl (fun k => decide ((mAt B.ms k).kind = t.2)) i).map fun k => (false, k))) ⟨same_new hD, [], upd_same, PL.nil⟩ (fun i H' _ z => (Tk.of z.1).t hm1) (fun i v H1 H2 hi z hy' => ?_) (fun H1 z => ?_)
  · obtain ⟨s1, us, eD, hpl⟩ := z
    obtain ⟨tt, y1, y2, rfl, ht, rfl, e1, e2⟩ := hy'
    cases e1
    have hi' : i < B.ms.length := by
      rw [← hm2.1]
      exact hi
    have s2 : Same H (upd H1 tt (.tup [.int (i : Nat), y2])) := s1.trans (same_new ht)
    obtain ⟨pw, rfl, hpw⟩ := (hm2.2 i y2 _ e2 (mAt_of hi')).tt (Same_tt s2)
    refine ⟨tt, _, rfl, .inl (.inl upd_same), rfl, _, _, rfl, _, _, rfl, rfl, ?_⟩
    refine ⟨rfl, ?_⟩
    refine ⟨_, rfl, pw, _, _, _, rfl, rfl, hpw, rfl, _, rfl, rfl, _, rfl, ite2 (fun hb => ?_) (fun hb => ?_)⟩
    · have hk : (mAt B.ms i).kind = t.2 := by
        have := V.int.inj (of_decide_eq_true hb)
        omega
      refine ⟨_, rfl, (by decide : 2 ≤ sizeLine), fun p hp => ?_⟩
      have eD2 : (upd H1 tt (.tup [.int (i : Nat), .ref pw])) D = some (.lst us) := by
        rw [upd_ne (ne_of_none eD ht)]
        exact eD
      refine ⟨us, by rw [upd_ne (ne_of_none eD2 hp)]; exact eD2, ?_, same_at (s2.trans (same_new hp)) hD, ?_⟩
      · rw [hpl.1, List.length_map]
        have := fl_len (fun k => decide ((mAt B.ms k).kind = t.2)) i
        have := W.g.m1
        exact lt_line (by omega)
      · rw [fl_yes (decide_eq_true hk), List.map_append]
        exact ways_push (b := false) eD2 (hpl.mono fun _ _ q => q.tt (tt_new ht)) hp
    · have hk : ¬ (mAt B.ms i).kind = t.2 := fun e => by
        have : decide (nv (mAt B.ms i).kind = nv t.2) = true := decide_eq_true (by rw [e])
        exact hb this
      refine ⟨s2, ?_⟩
      rw [fl_no (decide_eq_false hk)]
      exact ⟨us, by rw [upd_ne (ne_of_none eD ht)]; exact eD, hpl.mono fun _ _ q => q.tt (tt_new ht)⟩
  -- the rules
  obtain ⟨s1, hL1⟩ := z
  have W1 := W.same s1
  have hx1 := s1 _ _ hx
  have hr1' := (Tk.of s1).t hr1
  refine ⟨_, rfl, x, a.c_Book, dx, _, _, rfl, hx1, T.C_Book, T.N_rules, rfl, pr, wr, rfl, hr1', fun D2 hD2 => ?_⟩
  have hD2' : H D2 = none := none_of s1 hD2
  refine lc_it (EnT.walkE (xs := wr)) (fun i H' => Same H1 H' ∧ WaysL K H' D2 ((fl (fun k => decide ((rAt B.rs k).op = (rowAt R t.1).1) && decide ((rAt B.rs k).kind = t.2)) i).map fun k => (true, k))) ⟨same_new hD2, [], upd_same, PL.nil⟩ (fun i H' _ z => (Tk.of z.1).t hr1') (fun i v H2 H3 hi z hy' => ?_) (fun H2 z => ?_)
  · obtain ⟨s2, us, eD, hpl⟩ := z
    obtain ⟨tt, y1, y2, rfl, ht, rfl, e1, e2⟩ := hy'
    cases e1
    have hi' : i < B.rs.length := by
      rw [← hr2.1]
      exact hi
    have s3 : Same H1 (upd H2 tt (.tup [.int (i : Nat), y2])) := s2.trans (same_new ht)
    obtain ⟨pw, qw, rfl, hpw, hqw⟩ := (hr2.2 i y2 _ e2 (rAt_of hi')).tt (Same_tt (s1.trans s3))
    refine ⟨tt, _, rfl, .inl (.inl upd_same), rfl, _, _, rfl, _, _, rfl, rfl, ?_⟩
    refine ⟨rfl, ?_⟩
    refine ⟨_, rfl, pw, _, _, _, rfl, rfl, hpw, rfl, _, rfl, rfl, _, rfl, ite2 (fun hb => ?_) (fun hb => ?_)⟩
    · have hk : (rAt B.rs i).op = (rowAt R t.1).1 := by
        have := V.int.inj (of_decide_eq_true hb)
        omega
      refine ⟨_, rfl, pw, _, _, _, rfl, rfl, hpw, rfl, _, rfl, rfl, _, rfl, ite2 (fun hb2 => ?_) (fun hb2 => ?_)⟩
      · have hk2 : (rAt B.rs i).kind = t.2 := by
          have := V.int.inj (of_decide_eq_true hb2)
          omega
        refine ⟨_, rfl, (by decide : 2 ≤ sizeLine), fun p hp => ?_⟩
        have eD2 : (upd H2 tt (.tup [.int (i : Nat), .ref pw])) D2 = some (.lst us) := by
          rw [upd_ne (ne_of_none eD ht)]
          exact eD
        refine ⟨us, by rw [upd_ne (ne_of_none eD2 hp)]; exact eD2, ?_, same_at (s3.trans (same_new hp)) hD2, ?_⟩
        · rw [hpl.1, List.length_map]
          have := fl_len (fun k => decide ((rAt B.rs k).op = (rowAt R t.1).1) && decide ((rAt B.rs k).kind = t.2)) i
          have := W.g.r1
          exact lt_line (by omega)
        · rw [fl_yes (both hk hk2), List.map_append]
          exact ways_push (b := true) eD2 (hpl.mono fun _ _ q => q.tt (tt_new ht)) hp
      · have hk2 : ¬ (rAt B.rs i).kind = t.2 := fun e => by
          have : decide (nv (rAt B.rs i).kind = nv t.2) = true := decide_eq_true (by rw [e])
          exact hb2 this
        refine ⟨s3, ?_⟩
        rw [fl_no (by rw [decide_eq_false hk2, Bool.and_false])]
        exact ⟨us, by rw [upd_ne (ne_of_none eD ht)]; exact eD, hpl.mono fun _ _ q => q.tt (tt_new ht)⟩
    · have hk : ¬ (rAt B.rs i).op = (rowAt R t.1).1 := fun e => by
        have : decide (nv (rAt B.rs i).op = nv (rowAt R t.1).1) = true := decide_eq_true (by rw [e])
        exact hb this
      refine ⟨s3, ?_⟩
      rw [fl_no (by rw [decide_eq_false hk, Bool.false_and])]
      exact ⟨us, by rw [upd_ne (ne_of_none eD ht)]; exact eD, hpl.mono fun _ _ q => q.tt (tt_new ht)⟩
  -- together
  obtain ⟨s2, us2, e2, hl2⟩ := z
  obtain ⟨us1, e1, hl1⟩ := hL1
  have e1' := s2 _ _ e1
  refine ⟨_, rfl, _, rfl, D, D2, us1, us2, rfl, rfl, e1', e2, ?_, fun p hp => ?_⟩
  · rw [hl1.1, hl2.1, List.length_map, List.length_map]
    have := fl_len (fun k => decide ((mAt B.ms k).kind = t.2)) wm.length
    have := fl_len (fun k => decide ((rAt B.rs k).op = (rowAt R t.1).1) && decide ((rAt B.rs k).kind = t.2)) wr.length
    have := W.g.r1
    have := W.g.m1
    have h3 := hm2.1
    have h4 := hr2.1
    exact Nat.le_of_lt (lt_line (by omega))
  · refine k p _ ((s1.trans s2).trans (same_new hp)) (none_of (s1.trans s2) hp) ⟨us1 ++ us2, upd_same, ?_⟩
    have := (hl1.mono fun _ _ q => q.tt (Same_tt s2)).app hl2
    rw [hm2.1, hr2.1] at this
    exact this.mono fun _ _ q => q.tt (tt_new hp)
end
end Lk
/-! a dict comprehension with tuple keys stored in a local name -/
namespace DcG
open PySem PySem.Spec PyProof.Rows L2
variable {X : Cx}
theorem ps_setDcT {i : Nat} {y : Str} {py : Pos} {kx vx tg it0 : Expr} {ifs : List Expr} {scp : Scope} {own : List (Str × Nat)} {pos spos : Pos} {wi : TI} {g : TG} {tt : TT} {tk tv : TE} (hu : X.A.units + 1 < cLine) (hc : X.calm = true) (hN : X.N.Nodup) (hy : X.N[i]? = some y) (hyl : X.env.scope.names.lookup y = some .local)
    (hsw : swapsWith (.DictComp kx vx [⟨tg, it0, ifs, 0⟩] scp pos) (some (.Name y py)) spos.line X.env = pure true) (hi : PI X tg it0 wi) (ok : BlkOk X.N X.env.scope scp own)
    (hg : ∀ (s : Shared) (H : Hp) (C : Addr) (cl : List (Str × Addr)) (fp : List Addr), PG (X.blk s H scp (compEnvC scp cl C X.env) fp) tg g)
    (ht : ∀ (s : Shared) (H : Hp) (C : Addr) (cl : List (Str × Addr)) (fp : List Addr), PTs (X.blk s H scp (compEnvC scp cl C X.env) fp) ifs tt)
    (hk : ∀ (s : Shared) (H : Hp) (C : Addr) (cl : List (Str × Addr)) (fp : List Addr), PE (X.blk s H scp (compEnvC scp cl C X.env) fp) kx tk)
    (he : ∀ (s : Shared) (H : Hp) (C : Addr) (cl : List (Str × Addr)) (fp : List Addr), PE (X.blk s H scp (compEnvC scp cl C X.env) fp) vx tv) (hs : ∀ x, foldedSetIterable it0 X.env x = pure x := by intro _; rfl) :
    PS X (.Assign [.Name y py] (.DictComp kx vx [⟨tg, it0, ifs, 0⟩] scp pos) spos) (tAsg (tDg (.dT []) wi g tt tk tv (own.map (·.2))) (gName i)) := by
  refine ⟨fun pins s σ H D I h => ?_⟩
  rw [exec_Assign_Name_used _ _ _ _ hsw]
  refine wpAny_bind (wpAny_standAt (wpAny_bind ?_))
  show wpAny _ X.A (do let _ ← comprehension (.DictComp kx vx [⟨tg, it0, ifs, 0⟩] scp pos) scp X.env (firstIterPos [⟨tg, it0, ifs, 0⟩] pos) newDict false (eval it0 X.env) (some (assign (.Name y py) X.env))) _ _ s
  have h : tDg (.dT []) wi g tt tk tv (own.map (·.2)) σ H (fun x H1 => gName i x σ H1 D.nx) := h
  refine wpAny_bind (thn (core (Qf := fun _ s' => SP X pins D .next s') (fun _ _ _ h hb => dt_empty h hb) hu hc hN I hi ok hg ht hk he hs h fun L C s' m H' I' q hn f => ?_) fun _ s' hq => wpAny_pure (wpAny_pure hq))
  show wpAny _ _ (assign (.Name y py) X.env (.ref L)) _ _ _
  refine wpAny_assign_Name (store_ok2 (v := V.ref L) I' hN hy (.inl hyl) rfl (fun s2 I2 ⟨a, sb, ha⟩ => ?_) (.inr hyl))
  obtain ⟨f0, f1, f2, f3, f4, f5⟩ := f
  have haC : C ≠ a := by
    rcases ha with z | z
    · rw [z]; exact f1
    · exact fun e => f4 y a z e.symm
  refine ⟨m, hn.sameBut sb haC, fun h3 sb3 => ?_⟩
  exact ⟨_, H', I2.turned (t' := s2.toks) (fun b o hb e => (sb3.2 b hb).trans e) f0 f1 f3 f4 f5, q⟩
theorem sw_trueD {kx vx : Expr} {gs : List Comprehension} {scope : Scope} {pos py : Pos} {y : Str} {l : Nat} {env : Env} (hk : env.scope.kind = .function) (hy : env.scope.names.lookup y = some .local) (hl : (py.line == pos.line) = true)
    (ha : (scope.names.any fun (n, k) => n == y && (k == .local || k == .cell)) = false) : swapsWith (.DictComp kx vx gs scope pos) (some (.Name y py)) l env = pure true := by
  have ky : env.kindOf y = some .local := hy
  have hb : env.blockKind = .function := by unfold Env.blockKind; rw [hk]; rfl
  unfold swapsWith
  simp only [hb, ky, ha, Expr.pos, hl]
  rfl
theorem pc_ofR {a b : Expr} {op : CmpOp} {r : R2} {ta tb : TE} (ho : OpR X (compareOp op) r) (ha : PE X a ta) (hb : PE X b tb) : PC X op a b (tOp r ta tb) :=
  ⟨fun pins s σ H Q I h => binT ha hb I h fun v u s2 x y H2 I2 rx ry q => ho pins s2 σ H2 x y v u Q I2 rx ry q⟩
end DcG
/-! list(zip(t, u)), t and u two tuples of one length -/
namespace LZp
open PySem PySem.Spec PyProof.Rows L2 ZpN
theorem zip_no_len : typeLookup (.type "zip") "__len__" = pure none := by rw [typeLookup_type, builtinLookup_eq_fast]; kernel_rfl
theorem zip_no_hint : typeLookup (.type "zip") "__length_hint__" = pure none := by rw [typeLookup_type, builtinLookup_eq_fast]; kernel_rfl
section
variable {prog : Program} {w : World} {A : Around} {s : Shared} {R : Result → Shared → Prop} {z TI TO i1 i2 l1 l2 : Addr} {xs ys : Array Value}
structure ZS (z TI TO i1 i2 l1 l2 : Addr) (xs ys : Array Value) (k : Nat) (h : Heap) : Prop where
  at_ : At h z TI TO
  ti : IsPair h TI (.ref i1) (.ref i2)
  to : ∃ a b, IsPair h TO a b
  i1 : h.IsTupleIter i1 l1 k
  i2 : h.IsTupleIter i2 l2 k
  l1 : h.IsTuple l1 xs
  l2 : h.IsTuple l2 ys
/-- the pairs made so far -/
structure G (xs ys : Array Value) (lo : Addr) (h : Heap) (as : List Addr) : Prop where
  rise : as.Pairwise (· < ·)
  above : ∀ a ∈ as, lo < a
  pairs : ∀ (j : Nat) (a : Addr), as[j]? = some a → ∃ x y, xs[j]? = some x ∧ ys[j]? = some y ∧ IsPair h a x y
theorem ZS.keep {h h' : Heap} {k : Nat} (x : ZS z TI TO i1 i2 l1 l2 xs ys k h) (hk : ∀ b, b = z ∨ b = TI ∨ b = TO ∨ b = i1 ∨ b = i2 ∨ b = l1 ∨ b = l2 → ∀ o, h.get? b = some o → h'.get? b = some o) : ZS z TI TO i1 i2 l1 l2 xs ys k h' := by
  obtain ⟨⟨o1, f, ho, e1⟩, e2, ⟨a, b, e3⟩, e4, e5, e6, e7⟩ := x
  refine ⟨⟨o1, f, ho, hk _ (by simp) _ e1⟩, hk _ (by simp) _ e2, ⟨a, b, hk _ (by simp) _ e3⟩, ?_, ?_, ?_, ?_⟩
  · obtain ⟨o, e, r⟩ := e4
    exact ⟨o, hk _ (by simp) _ e, r⟩
  · obtain ⟨o, e, r⟩ := e5
    exact ⟨o, hk _ (by simp) _ e, r⟩
  · obtain ⟨o, e, r⟩ := e6
    exact ⟨o, hk _ (by simp) _ e, r⟩
  · obtain ⟨o, e, r⟩ := e7
    exact ⟨o, hk _ (by simp) _ e, r⟩
theorem loop {S : Addr} (hh : A.handled = none) (D : ZipApart z TI TO i1 i2 l1 l2) (hsz : xs.size = ys.size) (hn : xs.size ≤ sizeLine) (lt : ∀ b, b = z ∨ b = TI ∨ b = TO ∨ b = i1 ∨ b = i2 ∨ b = l1 ∨ b = l2 → b < S) (res : Value) {h₁ : Heap}
    (hR : ∀ h' tk acc c as, (∀ b o, b ≠ S → b ≠ z → b ≠ TO → b ≠ i1 → b ≠ i2 → h₁.get? b = some o → h'.get? b = some o) → h'.get? S = some { cls := .type "list", dict := none, data := .seq acc c, slots := #[] } → as.length = xs.size → G xs ys S h' as →
      acc.toList = as.map Value.ref → R (.ok (.ret res)) { s with heap := h', toks := tk }) :
    ∀ (k i : Nat) (h : Heap) (tk c : Nat) (acc : Array Value) (as : List Addr), xs.size - i = k → i ≤ xs.size → ZS z TI TO i1 i2 l1 l2 xs ys i h → (∀ b o, b ≠ S → b ≠ z → b ≠ TO → b ≠ i1 → b ≠ i2 → h₁.get? b = some o → h.get? b = some o) →
      h.get? S = some { cls := .type "list", dict := none, data := .seq acc c, slots := #[] } → acc.toList = as.map Value.ref → as.length = i → G xs ys S h as →
      codeAny (model prog w) A (.builtin "list.extend.loop" ⟨[.ref S, .ref z, res], []⟩) R { s with heap := h, toks := tk } := by
  have neS : ∀ b, b = z ∨ b = TI ∨ b = TO ∨ b = i1 ∨ b = i2 ∨ b = l1 ∨ b = l2 → b ≠ S := fun b hb => Nat.ne_of_lt (lt b hb)
  intro k
  induction k with
  | zero =>
    intro i h tk c acc as hk hi hst hkeep hS hacc hal hG
    have hin : i = xs.size := by omega
    obtain ⟨a1, a2, ⟨a, b, a3⟩, a4, a5, a6, a7⟩ := id hst
    refine codeAny_builtin PySem.F.entry_extend_loop ?_
    rw [Around.under_plainId PySem.F.plain_extend_loop _]
    show wpAny _ A.in1 (pyNext (.ref z) >>= _) _ _ _
    refine wpAny_bind (endP (s := { s with heap := h, toks := tk }) (A := A.in1) hh D a1 a2 a3 a4 a5 a6 a7 (Or.inl (by simp [hin])) fun h' he => ?_)
    refine wpAny_pure (hR h' tk acc c as (fun b o h1 h2 h3 h4 h5 e => he b o h2 h3 h4 h5 (hkeep b o h1 h2 h3 h4 h5 e)) (he S _ (neS _ (by simp)).symm (neS _ (by simp)).symm (neS _ (by simp)).symm (neS _ (by simp)).symm hS) (by omega) ⟨hG.rise, hG.above, fun j a hj => ?_⟩ hacc)
    obtain ⟨x, y, e1, e2, e3⟩ := hG.pairs j a hj
    have ab := hG.above a (List.mem_of_getElem? hj)
    have ne : ∀ b, b = z ∨ b = TI ∨ b = TO ∨ b = i1 ∨ b = i2 ∨ b = l1 ∨ b = l2 → a ≠ b := fun b hb => Nat.ne_of_gt (Nat.lt_trans (lt b hb) ab)
    exact ⟨x, y, e1, e2, he a _ (ne _ (by simp)) (ne _ (by simp)) (ne _ (by simp)) (ne _ (by simp)) e3⟩
  | succ k ih =>
    intro i h tk c acc as hk hi hst hkeep hS hacc hal hG
    have hlt : i < xs.size := by omega
    have hlt2 : i < ys.size := by omega
    have hasz : acc.size = i := by rw [← Array.length_toList, hacc, List.length_map, hal]
    obtain ⟨a1, a2, ⟨a, b, a3⟩, a4, a5, a6, a7⟩ := id hst
    refine codeAny_builtin PySem.F.entry_extend_loop ?_
    rw [Around.under_plainId PySem.F.plain_extend_loop _]
    show wpAny _ A.in1 (pyNext (.ref z) >>= _) _ _ _
    refine wpAny_bind (nextP (s := { s with heap := h, toks := tk }) D a1 a2 a3 a4 a5 a6 a7 (x := xs[i]) (y := ys[i]) (by simp [hlt]) (by simp [hlt2]) fun h' b1 b2 b3 b4 b5 b6 b7 => ?_)
    dsimp only at b5 b6 b7 ⊢
    have hS' := b7 S _ (neS _ (by simp)).symm (neS _ (by simp)).symm (neS _ (by simp)).symm (neS _ (by simp)).symm hS
    have up : ∀ b o, b ≠ S → h'.get? b = some o → (h'.update S (Obj.mapSeq (·.push (Value.ref h.objs.size)))).get? b = some o := fun b o hb e => (Heap.get?_update_other _ _ (Ne.symm hb)).trans e
    have hSl : S < h.objs.size := Heap.lt_size hS
    have st' : ZS z TI TO i1 i2 l1 l2 xs ys (i + 1) h' := by
      refine ⟨b1, b7 _ _ D.TIz D.TITO D.TIi1 D.TIi2 a2, b2, b3, b4, ?_, ?_⟩
      · obtain ⟨o, e, r⟩ := a6
        exact ⟨o, b7 _ _ D.l1z D.l1TO D.l1i1 D.l1i2 e, r⟩
      · obtain ⟨o, e, r⟩ := a7
        exact ⟨o, b7 _ _ D.l2z D.l2TO D.l2i1 D.l2i2 e, r⟩
    show wpAny _ A.in1 (updateSeq S (·.push (Value.ref h.objs.size)) >>= _) _ _ _
    refine wpAny_bind ?_
    refine wpAny_updateSeq hS' rfl (wpAny_pure ⟨plainId_quiet PySem.F.plain_extend_loop _, ih (i + 1) _ tk _ (acc.push (Value.ref h.objs.size)) (as ++ [h.objs.size]) (by omega) hlt (st'.keep fun b hb o e => up b o (neS b hb) e)
      (fun b o h1 h2 h3 h4 h5 e => up b o h1 (b7 b o h2 h3 h4 h5 (hkeep b o h1 h2 h3 h4 h5 e))) (Heap.get?_update_self _ hS' rfl) (by rw [Array.toList_push, hacc, List.map_append]; rfl) (by rw [List.length_append, hal]; rfl) ⟨?_, ?_, ?_⟩⟩) (by rw [hasz]; omega) (by show (acc.push (Value.ref h.objs.size)).size ≤ sizeLine + 1; rw [Array.size_push, hasz]; omega)
    · refine List.pairwise_append.mpr ⟨hG.rise, List.pairwise_singleton _ _, fun a ha b hb => ?_⟩
      rw [List.mem_singleton.mp hb]
      obtain ⟨j, hj⟩ := List.mem_iff_getElem?.mp ha
      obtain ⟨_, _, _, _, e⟩ := hG.pairs j a hj
      exact Heap.lt_size e
    · intro a ha
      rcases List.mem_append.mp ha with ha | ha
      · exact hG.above a ha
      · rw [List.mem_singleton.mp ha]; exact hSl
    · intro j b hj
      rcases Nat.lt_trichotomy j as.length with h1 | h1 | h1
      · rw [List.getElem?_append_left h1] at hj
        obtain ⟨x, y, e1, e2, e3⟩ := hG.pairs j b hj
        have ab := hG.above b (List.mem_of_getElem? hj)
        have ne : ∀ c, c = z ∨ c = TI ∨ c = TO ∨ c = i1 ∨ c = i2 ∨ c = l1 ∨ c = l2 → b ≠ c := fun c hc => Nat.ne_of_gt (Nat.lt_trans (lt c hc) ab)
        exact ⟨x, y, e1, e2, up b _ (Nat.ne_of_gt ab) (b7 b _ (ne _ (by simp)) (ne _ (by simp)) (ne _ (by simp)) (ne _ (by simp)) e3)⟩
      · subst h1
        have hb : h.objs.size = b := by simpa using hj
        subst hb
        exact ⟨xs[i], ys[i], by rw [hal]; simp [hlt], by rw [hal]; simp [hlt2], up _ _ (Nat.ne_of_gt hSl) b5⟩
      · have hnone : (as ++ [h.objs.size])[j]? = none := List.getElem?_eq_none (by rw [List.length_append, List.length_singleton]; omega)
        rw [hnone] at hj; cases hj

abbrev Lk : Addr → Addr → Addr → Addr → Addr → Addr → Addr → Addr → Prop := fun z TI TO i1 i2 l1 l2 b => b = z ∨ b = TI ∨ b = TO ∨ b = i1 ∨ b = i2 ∨ b = l1 ∨ b = l2
theorem extend (hh : A.handled = none) (D : ZipApart z TI TO i1 i2 l1 l2) (hsz : xs.size = ys.size) (hn : xs.size ≤ sizeLine) (S : Addr) (lt : ∀ b, b = z ∨ b = TI ∨ b = TO ∨ b = i1 ∨ b = i2 ∨ b = l1 ∨ b = l2 → b < S) (res : Value) (c₀ : Nat)
    (hst : ZS z TI TO i1 i2 l1 l2 xs ys 0 s.heap) (hS : s.heap.get? S = some { cls := .type "list", data := .seq #[] c₀ })
    (hR : ∀ h' tk acc c as, (∀ b o, b ≠ S → b ≠ z → b ≠ TO → b ≠ i1 → b ≠ i2 → s.heap.get? b = some o → h'.get? b = some o) → h'.get? S = some { cls := .type "list", dict := none, data := .seq acc c, slots := #[] } → as.length = xs.size → G xs ys S h' as →
      acc.toList = as.map Value.ref → R (.ok (.ret res)) { s with heap := h', toks := tk }) :
    wpAny (model prog w) A.in1 (Builtin.List.listExtendWith (.ref S) (.ref z) res)
      (fun fin s' => match fin with | .done f => R (.ok f) s' | .again c' => c'.quiet = true ∧ codeAny (model prog w) A c' R s') (fun e s' => R (.error e) s') s := by
  have neS : ∀ b, b = z ∨ b = TI ∨ b = TO ∨ b = i1 ∨ b = i2 ∨ b = l1 ∨ b = l2 → b ≠ S := fun b hb => Nat.ne_of_lt (lt b hb)
  obtain ⟨o1, f, ho, hz⟩ := id hst.at_
  have hT : s.TypeIs (.ref z) "zip" := ⟨_, hz, rfl⟩
  have hSz : S ≠ z := (neS z (by simp)).symm
  unfold Builtin.List.listExtendWith
  refine wpAny_bind (wpAny_typeOf hT ?_)
  have h1 : Builtin.List.listSameRef (.ref S) (.ref z) = false := by simp [Builtin.List.listSameRef, hSz]
  have h2 : (Value.type "zip" == Value.type "list") = false := by decide
  have h3 : (Value.type "zip" == Value.type "tuple") = false := by decide
  simp only [h1, h2, h3, Bool.or_false, Bool.false_eq_true, if_false]
  refine wpAny_bind (iterZ hz ?_)
  refine wpAny_bind (wpAny_holding ?_)
  unfold Builtin.List.listLengthHint
  refine wpAny_bind (wpAny_specialOf hT zip_no_len ?_)
  show wpAny _ A.in1 (specialOf (Value.ref z) (Str.ofString "__length_hint__") >>= _) _ _ _
  refine wpAny_bind (wpAny_specialOf hT zip_no_hint ?_)
  refine wpAny_pure ?_
  show wpAny _ A.in1 (rule "list.extend.makes-room" >>= fun _ => Builtin.List.listTouch (.ref S) >>= fun _ =>
    again (.builtin "list.extend.loop" ⟨[.ref S, .ref z, res], []⟩)) _ _ _
  refine wpAny_bind (wpAny_rule ?_)
  refine wpAny_bind ?_
  show wpAny _ A.in1 (updateSeq S (·.push .none) >>= fun _ => updateSeq S (·.pop)) _ _ _
  refine wpAny_bind (wpAny_updateSeq hS rfl ?_)
  have hS₂ := Heap.get?_update_self (Obj.mapSeq (·.push Value.none)) hS rfl
  refine wpAny_updateSeq (hz := by seq_fits) hS₂ rfl ?_
  have hS₃ := Heap.get?_update_self (Obj.mapSeq (·.pop)) hS₂ rfl
  have oth : ∀ b o, b ≠ S → s.heap.get? b = some o → ((s.heap.update S (Obj.mapSeq (·.push Value.none))).update S (Obj.mapSeq (·.pop))).get? b = some o :=
    fun b o hb e => (Heap.get?_update_other _ _ (Ne.symm hb)).trans ((Heap.get?_update_other _ _ (Ne.symm hb)).trans e)
  refine wpAny_pure ⟨plainId_quiet PySem.F.plain_extend_loop _, loop (s := s) (h₁ := s.heap) hh D hsz hn lt res hR xs.size 0 _ s.toks _ #[] [] (Nat.sub_zero _) (Nat.zero_le _) (hst.keep fun b hb o e => oth b o (neS b hb) e) (fun b o hb _ _ _ _ e => oth b o hb e) hS₃ rfl rfl
    ⟨List.Pairwise.nil, (fun _ ha => nomatch ha), (fun j a hj => by simp at hj)⟩⟩
theorem init (hh : A.handled = none) (D : ZipApart z TI TO i1 i2 l1 l2) (hsz : xs.size = ys.size) (hn : xs.size ≤ sizeLine) (S : Addr) (lt : ∀ b, b = z ∨ b = TI ∨ b = TO ∨ b = i1 ∨ b = i2 ∨ b = l1 ∨ b = l2 → b < S)
    (hst : ZS z TI TO i1 i2 l1 l2 xs ys 0 s.heap) (hS : s.heap.get? S = some { cls := .type "list", data := .seq #[] })
    (hR : ∀ h' tk acc c as, (∀ b o, b ≠ S → b ≠ z → b ≠ TO → b ≠ i1 → b ≠ i2 → s.heap.get? b = some o → h'.get? b = some o) → h'.get? S = some { cls := .type "list", dict := none, data := .seq acc c, slots := #[] } → as.length = xs.size → G xs ys S h' as →
      acc.toList = as.map Value.ref → R (.ok (.ret .none)) { s with heap := h', toks := tk }) :
    wpAny (model prog w) A.in1 (Builtin.«list.__init__» ⟨[.ref S, .ref z], []⟩)
      (fun fin s' => match fin with | .done f => R (.ok f) s' | .again c' => c'.quiet = true ∧ codeAny (model prog w) A c' R s') (fun e s' => R (.error e) s') s := by
  have neS : ∀ b, b = z ∨ b = TI ∨ b = TO ∨ b = i1 ∨ b = i2 ∨ b = l1 ∨ b = l2 → b ≠ S := fun b hb => Nat.ne_of_lt (lt b hb)
  show wpAny _ A.in1 (do let old ← Builtin.List.listItems (.ref S); Builtin.List.listUpdate (.ref S) (fun _ => #[]); letGo old.toList.reverse; Builtin.List.listExtendWith (.ref S) (.ref z) .none) _ _ s
  refine wpAny_bind ?_
  unfold Builtin.List.listItems
  refine wpAny_bind (wpAny_seqItems hS rfl (wpAny_pure ?_))
  show wpAny _ A.in1 (updateSeq S (fun _ => #[]) >>= fun _ => letGo (#[] : Array Value).toList.reverse >>= fun _ => Builtin.List.listExtendWith (.ref S) (.ref z) .none) _ _ s
  refine wpAny_bind (wpAny_updateSeq hS rfl ?_)
  have hS₂ := Heap.get?_update_self (Obj.mapSeq (fun _ => (#[] : Array Value))) hS rfl
  have oth : ∀ b o, b ≠ S → s.heap.get? b = some o → (s.heap.update S (Obj.mapSeq (fun _ => (#[] : Array Value)))).get? b = some o :=
    fun b o hb e => (Heap.get?_update_other _ _ (Ne.symm hb)).trans e
  refine wpAny_bind (wpAny_letGo ?_)
  refine extend hh D hsz hn S lt .none _ (hst.keep fun b hb o e => oth b o (neS b hb) e) hS₂ fun h' tk acc c as hk hS' hl hG hacc => ?_
  exact hR h' tk acc c as (fun b o hb h2 h3 h4 h5 e => hk b o hb h2 h3 h4 h5 (oth b o hb e)) hS' hl hG hacc
end
section
variable {prog : Program} {w : World} {A : Around} {E : Value → Shared → Prop} {s : Shared} {z TI TO i1 i2 l1 l2 : Addr} {xs ys : Array Value}
theorem call_list {Q : Value → Shared → Prop} (hh : A.handled = none) (D : ZipApart z TI TO i1 i2 l1 l2) (hsz : xs.size = ys.size) (hn : xs.size ≤ sizeLine) (hst : ZS z TI TO i1 i2 l1 l2 xs ys 0 s.heap)
    (lt : ∀ b, b = z ∨ b = TI ∨ b = TO ∨ b = i1 ∨ b = i2 ∨ b = l1 ∨ b = l2 → b < s.heap.objs.size)
    (hQ : ∀ h' tk acc c as, (∀ b o, b ≠ z → b ≠ TO → b ≠ i1 → b ≠ i2 → s.heap.get? b = some o → h'.get? b = some o) → h'.get? s.heap.objs.size = some { cls := .type "list", dict := none, data := .seq acc c, slots := #[] } → as.length = xs.size → G xs ys s.heap.objs.size h' as →
      acc.toList = as.map Value.ref → Q (.ref s.heap.objs.size) { s with heap := h', toks := tk }) :
    wpAny (model prog w) A (call (.type "list") [.ref z]) Q E s := by
  refine callType_codes (Q₁ := fun obj s₁ => obj = .ref s.heap.objs.size ∧ s₁ = { s with heap := s.heap.push { cls := .type "list", data := .seq #[] } }) PySem.F.called_list (PySem.F.typeCall_list_1 _) PySem.F.entry_list_init
    (code_list_new _ ⟨rfl, rfl⟩) fun obj s₁ h₁ => ?_
  obtain ⟨rfl, rfl⟩ := h₁
  have hS : (s.heap.push { cls := .type "list", data := .seq #[] }).get? s.heap.objs.size = some { cls := .type "list", data := .seq #[] } := Heap.get?_push_size _ rfl
  refine ⟨⟨_, hS, rfl⟩, PySem.F.args_list_init_2 _ _, init (A := A.in1) hh D hsz hn _ lt (hst.keep fun b _ o e => Heap.get?_push_of_some _ e) hS fun h' tk acc c as hk hS' hl hG hacc => ?_⟩
  exact ⟨rfl, hQ h' tk acc c as (fun b o h2 h3 h4 h5 e => hk b o (Nat.ne_of_lt (Heap.lt_size e)) h2 h3 h4 h5 (Heap.get?_push_of_some _ e)) hS' hl hG hacc⟩
end
/-! the rule of the layer -/
def putP : Hp → List Addr → List (V × V) → Hp
  | H, a :: as, p :: ps => putP (upd H a (.tup [p.1, p.2])) as ps
  | H, _, _ => H
theorem putP_off {b : Addr} : ∀ (as : List Addr) (ps : List (V × V)) (H : Hp), b ∉ as → putP H as ps b = H b
  | [], _, _, _ => rfl
  | _ :: _, [], _, _ => rfl
  | a :: as, p :: ps, H, h => by
    show putP (upd H a (.tup [p.1, p.2])) as ps b = H b
    rw [putP_off as ps _ (fun z => h (List.mem_cons_of_mem _ z)), upd_ne (fun z => h (by rw [z]; exact List.mem_cons_self))]
theorem putP_at : ∀ (as : List Addr) (ps : List (V × V)) (H : Hp), as.length = ps.length → as.Nodup → ∀ (j : Nat) (t : Addr) (p : V × V), as[j]? = some t → ps[j]? = some p → putP H as ps t = some (.tup [p.1, p.2])
  | [], _, _, _, _, j, t, p, h, _ => by cases h
  | _ :: _, [], _, h, _, _, _, _, _, _ => by cases h
  | a :: as, p :: ps, H, h, hn, j, t, q, h1, h2 => by
    have hn' := List.nodup_cons.mp hn
    cases j with
    | zero =>
      cases h1
      cases h2
      show putP (upd H a (.tup [p.1, p.2])) as ps a = some (.tup [p.1, p.2])
      rw [putP_off as ps _ hn'.1, upd_same]
    | succ j => exact putP_at as ps _ (Nat.succ.inj h) hn'.2 j t q h1 h2
theorem laid {X : Cx} {pins : List (Addr × Obj)} {σ : L2.St} {H : Hp} {s : Shared} {h' : Heap} {S : Addr} {tk : Nat} {xs ys : List V} {vs us : List Value} {acc : Array Value} {c : Nat} {as : List Addr} (I : Inv X pins σ H s) (hz : xs.length ≤ sizeLine) (hl : xs.length = ys.length) (kv : Vals xs vs) (ku : Vals ys us)
    (hk : ∀ b o, s.heap.get? b = some o → h'.get? b = some o) (hge : s.heap.objs.size ≤ S) (hS : h'.get? S = some { cls := .type "list", dict := none, data := .seq acc c, slots := #[] }) (has : as.length = xs.length) (hG : G vs.toArray us.toArray S h' as) (hacc : acc.toList = as.map Value.ref) :
    ∃ H' : Hp, Same H H' ∧ H S = none ∧ H' S = some (.lst (as.map V.ref)) ∧ (∀ (j : Nat) (t : Addr) (x y : V), as[j]? = some t → xs[j]? = some x → ys[j]? = some y → H' t = some (.tup [x, y])) ∧ Inv X pins σ H' { s with heap := h', toks := tk } := by
  have hSn : S ∉ as := fun z => Nat.lt_irrefl _ (hG.above _ z)
  have nd : as.Nodup := List.Pairwise.imp (fun {a b} (h : a < b) => Nat.ne_of_lt h) hG.rise
  have new : ∀ t ∈ as, H t = none := fun t ht => I.hok.fresh (Nat.le_of_lt (Nat.lt_of_le_of_lt hge (hG.above t ht)))
  have newS : H S = none := I.hok.fresh hge
  have lz : as.length = (List.zip xs ys).length := by rw [List.length_zip, has]; omega
  have atP := putP_at as (List.zip xs ys) (upd H S (.lst (as.map V.ref))) lz nd
  have off : ∀ b, b ∉ as → b ≠ S → putP (upd H S (.lst (as.map V.ref))) as (List.zip xs ys) b = H b := fun b h1 h2 => by rw [putP_off as _ _ h1, upd_ne h2]
  have low : ∀ b o, s.heap.get? b = some o → b ∉ as ∧ b ≠ S := fun b o e => ⟨fun z => absurd (Heap.lt_size e) (Nat.not_lt.mpr (Nat.le_of_lt (Nat.lt_of_le_of_lt hge (hG.above b z)))), fun z => absurd (Heap.lt_size e) (by rw [z]; exact Nat.not_lt.mpr hge)⟩
  have kp : ∀ b u, H b = some u → (putP (upd H S (.lst (as.map V.ref))) as (List.zip xs ys)) b = some u := fun b u e => by
    rw [off b (fun z => by rw [new b z] at e; cases e) (fun z => by rw [z, newS] at e; cases e)]
    exact e
  have eS : putP (upd H S (.lst (as.map V.ref))) as (List.zip xs ys) S = some (.lst (as.map V.ref)) := by rw [putP_off as _ _ hSn, upd_same]
  refine ⟨putP (upd H S (.lst (as.map V.ref))) as (List.zip xs ys), kp, newS, eS, fun j t x y h1 h2 h3 => atP j t (x, y) h1 (by rw [List.getElem?_zip_eq_some]; exact ⟨h2, h3⟩), ?_⟩
  refine I.call' (ch := []) rfl ⟨fun b o q _ _ _ => hk b o q, fun b o q _ _ _ => ⟨o.slots, hk b o q⟩, fun b o q n _ => ?_, fun b o q _ => ⟨o, hk b o q⟩, fun b xs q => kp b _ q, fun b o u q => kp b _ q, fun b ps q => ⟨#[], by rw [kp b _ q]; simp⟩⟩ (fun b u q => ?_) I.bare fun b z => by simp at z
  · obtain ⟨z1, z2⟩ := low b o q
    rw [off b z1 z2]
    exact n
  · by_cases hb : b ∈ as
    · obtain ⟨j, e1⟩ := List.mem_iff_getElem?.mp hb
      have hj : j < as.length := (List.getElem?_eq_some_iff.mp e1).1
      have hx : xs[j]? = some (xs[j]'(by omega)) := List.getElem?_eq_getElem (by omega)
      have hy : ys[j]? = some (ys[j]'(by omega)) := List.getElem?_eq_getElem (by omega)
      have e3 := atP j b (_, _) e1 (by rw [List.getElem?_zip_eq_some]; exact ⟨hx, hy⟩)
      rw [e3] at q
      cases q
      obtain ⟨vx, vy, f1, f2, f3⟩ := hG.pairs j b e1
      obtain ⟨wx, g1, g2⟩ := kv.get hx
      obtain ⟨wy, g3, g4⟩ := ku.get hy
      have f1' : vs[j]? = some vx := by simpa using f1
      have f2' : us[j]? = some vy := by simpa using f2
      rw [f1'] at g1
      cases g1
      rw [f2'] at g3
      cases g3
      exact ⟨by show 2 ≤ sizeLine; decide, [vx, vy], .cons g2 (.cons g4 .nil), ⟨_, f3, rfl, _, rfl⟩⟩
    · by_cases hb2 : b = S
      · rw [hb2] at q ⊢
        rw [eS] at q
        cases q
        refine ⟨by rw [List.length_map]; omega, acc.toList, c, by rw [hacc]; exact LiI.vals_refs as, ?_⟩
        rw [Array.toArray_toList]
        exact hS
      · rw [off b hb hb2] at q
        exact (I.hok b u q).stay (fun d v _ y => hk d v y) (fun d y => kp d _ y) fun d xs y => kp d _ y
def tLZ (K : PySem.W.Frag) (ta : TA) : TE := fun σ H Q => ta σ H fun vs H1 => ∃ a b xs ys, vs = [.ref a, .ref b] ∧ SqT K H1 a xs ∧ SqT K H1 b ys ∧ xs.length = ys.length ∧
  ∀ (H' : Hp) (p : Addr) (ts : List Addr), Same H1 H' → H1 p = none → H' p = some (.lst (ts.map V.ref)) → ts.length = xs.length → (∀ (j : Nat) (t : Addr) (x y : V), ts[j]? = some t → xs[j]? = some x → ys[j]? = some y → H' t = some (.tup [x, y])) → Q (.ref p) H'
theorem pe_listZip {X : Cx} {e e2 : Expr} {ta : TA} {p p2 pos pos2 : Pos} (hc : X.calm = true) (hg : Gl X "list") (hm : X.mg "list" = none) (hg2 : Gl X "zip") (hm2 : X.mg "zip" = none) (ha : PA X [e, e2] ta)
    (hs : starEach [e, e2] X.env = (false, eval e X.env) :: starEach [e2] X.env := by rfl) (hpl : (backTo pos2 (starEach [e2] X.env)).any (·.1) = false := by rfl)
    (hs2 : starEach [.Call (.Name "zip" p2) [e, e2] [] pos2] X.env = (false, eval (.Call (.Name "zip" p2) [e, e2] [] pos2) X.env) :: starEach [] X.env := by rfl) :
    PE X (.Call (.Name "list" p) [.Call (.Name "zip" p2) [e, e2] [] pos2] [] pos) (tLZ X.K ta) := by
  refine ⟨fun pins s σ H Q I hq => ?_⟩
  refine wpAny_Call_Name_kw (ld_blt I hg hm (by decide +kernel : bootBuiltins "list" = some (.type "list")) ?_)
  refine PyProof.Rows.callWith_type1 ?_ hs2 rfl
  rw [hs2]
  show wpAny _ _ (spliced ((false, eval (.Call (.Name "zip" p2) [e, e2] [] pos2) X.env) :: backTo pos (starEach [] X.env))) _ _ s
  refine Calls.spliced_cons ?_
  refine Call_ (ld_blt I hg2 hm2 PyProof.Rows.boot_zip (PyProof.Rows.callWith_type1 (thn (ha.run pos2 pins s σ H _ I hq) fun us s1 ⟨vs, H1, I1, r1, q1⟩ => ?_) hs hpl))
  obtain ⟨a, b, xs, ys, rfl, hqx, hqy, hl, q⟩ := q1
  obtain ⟨u1, u2, rfl, r, r'⟩ := vals2 r1
  cases r
  cases r'
  obtain ⟨its, rv, p1, hlx⟩ := I1.tuple hqx
  obtain ⟨its2, rv2, p2', _⟩ := I1.tuple hqy
  obtain ⟨o1, ho1, _⟩ := id p1
  obtain ⟨o2, ho2, _⟩ := id p2'
  have lv := rv.length
  have lu := rv2.length
  refine RZ.call_zipT (show s1.heap.IsTuple a its.toArray from p1) (show s1.heap.IsTuple b its2.toArray from p2') fun h' hz hTI hTO h1 h2 hsz hk => ?_
  refine Calls.spliced_nil ?_
  have l1 := Heap.lt_size ho1
  have l2 := Heap.lt_size ho2
  have p1' : h'.IsTuple a its.toArray := by
    obtain ⟨o, e, r⟩ := p1
    exact ⟨o, hk _ _ e, r⟩
  have p2'' : h'.IsTuple b its2.toArray := by
    obtain ⟨o, e, r⟩ := p2'
    exact ⟨o, hk _ _ e, r⟩
  refine call_list (s := { s1 with heap := h' }) (I1.ok.hd hc) (PySem.W.ktu_apart s1.heap.objs.size a b l1 l2) (by rw [List.size_toArray, List.size_toArray]; omega) (by rw [List.size_toArray]; omega)
    ⟨⟨_, _, Or.inl rfl, hz⟩, hTI, ⟨_, _, hTO⟩, h1, h2, p1', p2''⟩ (fun c hc => ?_) fun h2' tk acc c as hk2 hS has hG hacc => ?_
  · show c < h'.objs.size
    rw [hsz]
    rcases hc with z | z | z | z | z | z | z <;> rw [z]
    · exact Nat.add_lt_add_left (by decide) _
    · exact Nat.add_lt_add_left (by decide) _
    · exact Nat.add_lt_add_left (by decide) _
    · exact Nat.lt_add_of_pos_right (by decide)
    · exact Nat.add_lt_add_left (by decide) _
    · exact Nat.lt_of_lt_of_le l1 (Nat.le_add_right _ _)
    · exact Nat.lt_of_lt_of_le l2 (Nat.le_add_right _ _)
  · have keep : ∀ b o, s1.heap.get? b = some o → h2'.get? b = some o := fun b o e => by
      have lb := Heap.lt_size e
      exact hk2 b o (Nat.ne_of_lt (Nat.lt_of_lt_of_le lb (Nat.le_add_right _ _))) (Nat.ne_of_lt (Nat.lt_of_lt_of_le lb (Nat.le_add_right _ _))) (Nat.ne_of_lt lb) (Nat.ne_of_lt (Nat.lt_of_lt_of_le lb (Nat.le_add_right _ _))) (hk b o e)
    have hge : s1.heap.objs.size ≤ h'.objs.size := by rw [hsz]; exact Nat.le_add_right _ _
    rw [List.size_toArray] at has
    obtain ⟨H', k1, k2, k3, k4, J⟩ := laid (tk := tk) I1 hlx hl rv rv2 keep hge hS (by omega) hG hacc
    exact ⟨.ref _, H', J, rfl, q H' _ as k1 k2 k3 (by omega) k4⟩
end LZp
namespace Lk
open PySem L2
section
/-! keys put in one by one -/
theorem mem_insTAll : ∀ {xs F : List Th} {y : Th}, y ∈ xs.foldl insT F ↔ y ∈ F ∨ y ∈ xs
  | [], F, y => by simp
  | x :: xs, F, y => by
    rw [List.foldl_cons, mem_insTAll, mem_insT, List.mem_cons]
    constructor
    · rintro ((a | b) | c)
      · exact Or.inl a
      · exact Or.inr (Or.inl b)
      · exact Or.inr (Or.inr c)
    · rintro (a | b | c)
      · exact Or.inl (Or.inl a)
      · exact Or.inl (Or.inr b)
      · exact Or.inr c
theorem nodup_insTAll : ∀ {xs F : List Th}, F.Nodup → (xs.foldl insT F).Nodup
  | [], _, h => h
  | _ :: xs, _, h => nodup_insTAll (xs := xs) (nodup_insT h)
theorem insTAll_len : ∀ (xs F : List Th), (xs.foldl insT F).length ≤ F.length + xs.length
  | [], _ => Nat.le_refl _
  | x :: xs, F => by
    have h1 := insTAll_len xs (insT F x)
    have h2 : (insT F x).length ≤ F.length + 1 := by
      unfold insT
      split
      · omega
      · rw [List.length_append]; exact Nat.le_refl _
    rw [List.foldl_cons, List.length_cons]
    omega
theorem take_insT {xs F : List Th} {j : Nat} {x : Th} (h : xs[j]? = some x) : (xs.take (j + 1)).foldl insT F = insT ((xs.take j).foldl insT F) x := by
  rw [List.take_add_one, h, List.foldl_append]
  rfl
theorem lot_same {l m : List Th} (h : ∀ x, x ∈ l ↔ x ∈ m) : lotT l = lotT m := asc_uniq asc_lotT asc_lotT fun x => by rw [mem_lotT, mem_lotT, h]
variable {K : PySem.W.Frag}
/-- a tuple of the items of a list -/
theorem tup_of_pl {H : Hp} {q : Addr} {vs : List V} {ts : List Th} (h : PL (ThV H) vs ts) (hq : H q = none) : ThsT K (upd H q (.tup vs)) q ts := ⟨vs, .inl (.inl upd_same), h.mono fun _ _ z => z.tt (K := K) (tt_new hq)⟩
end
section
variable {P : Program} {w : World} {K : PySem.W.Frag} {mg : Str → Option Value} {base : Heap} {a : Adr}
def spWays (K : PySem.W.Frag) (a : Adr) : Sp := fun vs H Q _ => ∃ (x y c : Addr) (B : Bk) (R : List Row) (t : Th), vs = [.ref x, .ref y, .ref c] ∧ BW K a H x y B R ∧ SqT K H c [nv t.1, nv t.2] ∧ t.1 < R.length ∧ t.2 < B.nk ∧ ∀ l H', Same H H' → H l = none → WaysL K H' l (waysM B R t) → Q (.ref l) H'
def spIsWayTo (K : PySem.W.Frag) (a : Adr) : Sp := fun vs H Q _ => ∃ (x y c e : Addr) (B : Bk) (R : List Row) (t : Th) (u : Wy), vs = [.ref x, .ref y, .ref c, .ref e] ∧ BW K a H x y B R ∧ SqT K H c [nv t.1, nv t.2] ∧ t.1 < R.length ∧ SqT K H e [.str (wd u.1), nv u.2] ∧ u ∈ waysM B R t ∧ ∀ H', Same H H' → Q (.bl true) H'
theorem way_lt {B : Bk} {R : List Row} {t : Th} {u : Wy} (h : u ∈ waysM B R t) : (u.1 = false → u.2 < B.ms.length) ∧ (u.1 = true → u.2 < B.rs.length) := by
  obtain ⟨b, k⟩ := u
  constructor
  · intro e
    cases e
    exact (mem_waysF.mp h).1
  · intro e
    cases e
    exact (mem_waysT.mp h).1
def spIsWay (K : PySem.W.Frag) (a : Adr) : Sp := fun vs H Q _ => ∃ (x e : Addr) (B : Bk) (u : Wy), vs = [.ref x, .ref e] ∧ BookV K a.c_Book H x B ∧ SqT K H e [.str (wd u.1), nv u.2] ∧ (u.1 = false → u.2 < B.ms.length) ∧ (u.1 = true → u.2 < B.rs.length) ∧ Q (.bl true) H
theorem ok_is_way (T : Txt K mg a) : FnOk P w K mg base CX0 3 a.f_is_way a.d_is_way ["book", "thing"] (spIsWay K a) := by
  have G_is_tuple_of := ok_is_tuple_of (P := P) (w := w) (base := base) T
  have G_is_between := ok_is_between (P := P) (w := w) (base := base) T
  refine T.F_is_way.ok sc_is_way (fun vs H Q E h => ?_) (fun cdv A outer s H vs Q E hr h => ?_)
  · obtain ⟨x, e, B, u, rfl, _⟩ := h
    rfl
  obtain ⟨x, e, B, ⟨b, i⟩, rfl, ⟨dx, pa, pr, pm, hx, hx2, ⟨wr, hr1, hr2⟩, ⟨wm, hm1, hm2⟩⟩, he, c1, c2, k⟩ := h
  refine ⟨_, (pss_one (ps_ret (pe_and (pe_call G_is_tuple_of (hr.mono (by decide)) rfl T.g_is_tuple_of T.k_is_tuple_of T.b_is_tuple_of .nil pass0 (pa_cons pe_int (pa_cons pe_int (pa_cons (pv 1) pa_nil)))) (pe_and (pe_callB call_isi (by rfl) T.z_isinstance (by decide +kernel) (pa_cons (pe_ix ix_tup (pv 1) pe_int (fun _ _ => rfl)) (pa_cons (pe_bltn (v := .ty "str") rfl T.z_str (show bootBuiltins "str" = some (.type "str") by decide +kernel) rfl) pa_nil))) (pe_one (pe_or (pe_and (pe_cmpR op_eq (pe_ix ix_tup (pv 1) pe_int (fun _ _ => rfl)) pe_str (nomark _)) (pe_one (pe_call G_is_between (hr.mono (by decide)) rfl T.g_is_between T.k_is_between T.b_is_between .nil pass0 (pa_cons pe_int (pa_cons (pe_op op_sub (pe_callB call_len_seq (by rfl) T.z_len PySem.boot_len (pa_cons (pe_fld (pv 0) rfl) pa_nil)) pe_int) (pa_cons (pe_ix ix_tup (pv 1) pe_int (fun _ _ => rfl)) pa_nil)))))) (pe_one (pe_and (pe_cmpR op_eq (pe_ix ix_tup (pv 1) pe_int (fun _ _ => rfl)) pe_str (nomark _)) (pe_one (pe_call G_is_between (hr.mono (by decide)) rfl T.g_is_between T.k_is_between T.b_is_between .nil pass0 (pa_cons pe_int (pa_cons (pe_op op_sub (pe_callB call_len_seq (by rfl) T.z_len PySem.boot_len (pa_cons (pe_fld (pv 0) rfl) pa_nil)) pe_int) (pa_cons (pe_ix ix_tup (pv 1) pe_int (fun _ _ => rfl)) pa_nil))))))))))))), ?_⟩
  refine ⟨_, rfl, .ref e, "tuple", 2, 2, rfl, .tup, tyT he, .inr ⟨e, _, rfl, rfl, he, ?_⟩⟩
  refine ⟨_, rfl, iteT ?_⟩
  refine ⟨_, rfl, e, _, _, _, rfl, rfl, he, rfl, _, .ty "str", _, _, true, rfl, .ty "str", .base (.str _), kit_ty (by decide +kernel), true, rfl, iteT ?_⟩
  cases b with
  | true =>
    have hi := c2 rfl
    refine ⟨_, rfl, e, _, _, _, rfl, rfl, he, rfl, rfl, _, rfl, iteC (decide_eq_true rfl) ?_⟩
    refine ⟨_, rfl, x, a.c_Book, dx, _, _, rfl, hx, T.C_Book, T.N_rules, rfl, pr, _, rfl, .inr hr1, _, _, rfl, rfl, _, rfl, e, _, _, _, rfl, rfl, he, rfl, nv i, "int", 0, _, rfl, .int, .base (.int _), .inr ⟨_, rfl, rfl, ?_⟩⟩
    have h1 : wr.length = B.rs.length := hr2.1
    rw [both (by omega) (by omega)]
    exact ⟨_, rfl, iteT k⟩
  | false =>
    have hi := c1 rfl
    refine ⟨_, rfl, e, _, _, _, rfl, rfl, he, rfl, rfl, _, rfl, iteD (decide_eq_false (by intro z; exact absurd (wd_inj (b := false) (c := true) (V.str.inj z)) (by decide))) ?_⟩
    refine ⟨_, rfl, iteF ?_⟩
    refine ⟨_, rfl, e, _, _, _, rfl, rfl, he, rfl, rfl, _, rfl, iteC (decide_eq_true rfl) ?_⟩
    refine ⟨_, rfl, x, a.c_Book, dx, _, _, rfl, hx, T.C_Book, T.N_moves, rfl, pm, _, rfl, .inr hm1, _, _, rfl, rfl, _, rfl, e, _, _, _, rfl, rfl, he, rfl, nv i, "int", 0, _, rfl, .int, .base (.int _), .inr ⟨_, rfl, rfl, ?_⟩⟩
    have h1 : wm.length = B.ms.length := hm2.1
    rw [both (by omega) (by omega)]
    exact k
theorem ok_is_way_to (T : Txt K mg a) : FnOk P w K mg base CX0 4 a.f_is_way_to a.d_is_way_to ["book", "web", "target", "thing"] (spIsWayTo K a) := by
  have G_is_way := ok_is_way (P := P) (w := w) (base := base) T
  have G_ways_to := ok_ways_to (P := P) (w := w) (base := base) T
  refine T.F_is_way_to.ok sc_is_way_to (fun vs H Q E h => ?_) (fun cdv A outer s H vs Q E hr h => ?_)
  · obtain ⟨x, y, c, e, B, R, t, u, rfl, _⟩ := h
    rfl
  obtain ⟨x, y, c, e, B, R, t, u, rfl, W, hc, h1, he, hu, k⟩ := h
  obtain ⟨c1, c2⟩ := way_lt hu
  refine ⟨_, (pss_one (ps_ret (pe_and (pe_call G_is_way (hr.mono (by decide)) rfl T.g_is_way T.k_is_way T.b_is_way .nil pass0 (pa_cons (pv 0) (pa_cons (pv 3) pa_nil))) (pe_one (pe_cmpR (op_inD (u65 hr)) (pv 3) (pe_call G_ways_to (hr.mono (by decide)) rfl T.g_ways_to T.k_ways_to T.b_ways_to .nil pass0 (pa_cons (pv 0) (pa_cons (pv 1) (pa_cons (pv 2) pa_nil)))) rfl))))), ?_⟩
  refine ⟨_, rfl, _, rfl, x, e, B, u, rfl, W.b, he, c1, c2, ?_⟩
  refine ⟨_, rfl, iteT ?_⟩
  refine ⟨_, rfl, _, rfl, _, rfl, _, rfl, x, y, c, B, R, t, rfl, W, hc, h1, fun l H1 s1 hl hw => ?_⟩
  refine ⟨dWy u, _, way_dp ⟨e, rfl, (Tk.of s1).t he⟩, ways_dp hw, sh_wy u, sh_ways _, ?_⟩
  rw [any_wy, decide_eq_true hu]
  exact k H1 s1
/-- what a way needs, by its parts -/
def needsP (B : Bk) (R : List Row) (t : Th) : Wy → List Th
  | (false, i) => [(t.1, (mAt B.ms i).src)]
  | (true, i) => List.zip (parts R t.1) (rAt B.rs i).src
def spNeedsByParts (K : PySem.W.Frag) (a : Adr) : Sp := fun vs H Q _ => ∃ (x y c e : Addr) (B : Bk) (R : List Row) (t : Th) (u : Wy), vs = [.ref x, .ref y, .ref c, .ref e] ∧ BW K a H x y B R ∧ SqT K H c [nv t.1, nv t.2] ∧ t.1 < R.length ∧ SqT K H e [.str (wd u.1), nv u.2] ∧ u ∈ waysM B R t ∧ ∀ p H' us, Same H H' → H p = none → H' p = some (.lst us) → PL (ThV H') us (needsP B R t u) → Q (.ref p) H'
theorem ok_needs_by_parts (T : Txt K mg a) : FnOk P w K mg base CX0 1 a.f_needs_by_parts a.d_needs_by_parts ["book", "web", "thing", "way"] (spNeedsByParts K a) := by
  refine T.F_needs_by_parts.ok sc_needs_by_parts (fun vs H Q E h => ?_) (fun cdv A outer s H vs Q E hr h => ?_)
  · obtain ⟨x, y, c, e, B, R, t, u, rfl, _⟩ := h
    rfl
  obtain ⟨x, y, c, e, B, R, t, u, rfl, W, hc, h1, he, hu, k⟩ := h
  obtain ⟨dx, pa, pr, pm, hx, hx2, ⟨wr, hr1, hr2⟩, ⟨wm, hm1, hm2⟩⟩ := id W.b
  obtain ⟨dy, q, hy, hRT⟩ := id W.r
  obtain ⟨ws, hw, hwl, hrow⟩ := hRT
  obtain ⟨vr, hvr1, pR, qR, rfl, hp, hq⟩ := at_row hwl hrow h1
  obtain ⟨b, i⟩ := u
  refine ⟨_, (pss_cons (ps_set (i := 4) sc_needs_by_parts.nd rfl (Or.inl rfl) (pe_ix ix_tup (pv 2) pe_int (fun _ _ => rfl)))
  (pss_cons (ps_asg (pv 3) (pg_tup (by rfl) (pgs_cons (pg_name (i := 5) sc_needs_by_parts.nd rfl (Or.inl rfl)) (pgs_cons (pg_name (i := 6) sc_needs_by_parts.nd rfl (Or.inl rfl)) pgs_nil))))
  (pss_cons (ps_if (pt_cmpR op_eq (pv 5) pe_str (nomark _))
    (pss_one (ps_ret (pe_lst (pa_cons (pe_tup (pa_cons (pv 4) (pa_cons (pe_ix ix_tup (pe_ix ix_tup (pe_fld (pv 0) rfl) (pv 6) (fun _ _ => rfl)) pe_int (fun _ _ => rfl)) pa_nil))) pa_nil))))
    pss_nil)
  (pss_one (ps_ret (LZp.pe_listZip rfl (by rfl) T.z_list (by rfl) T.z_zip (pa_cons (pe_ix ix_tup (pe_ix ix_tup (pe_fld (pv 1) rfl) (pv 4) (fun _ _ => rfl)) pe_int (fun _ _ => rfl)) (pa_cons (pe_ix ix_tup (pe_ix ix_tup (pe_fld (pv 0) rfl) (pv 6) (fun _ _ => rfl)) pe_int (fun _ _ => rfl)) pa_nil)))))))), ?_⟩
  refine ⟨_, rfl, c, _, _, _, rfl, rfl, hc, rfl, ?_⟩
  refine ⟨_, rfl, e, _, rfl, he, rfl, _, _, rfl, _, _, rfl, rfl, ?_⟩
  cases b with
  | false =>
    obtain ⟨hi, hi2⟩ := mem_waysF.mp hu
    obtain ⟨vm, hvm, pm1, rfl, hpm⟩ := hm2.at (mAt_of hi)
    refine ⟨_, rfl, rfl, _, rfl, iteC (decide_eq_true rfl) ?_⟩
    refine ⟨_, rfl, _, rfl, x, a.c_Book, dx, _, _, rfl, hx, T.C_Book, T.N_moves, rfl, _, rfl, pm, _, _, _, rfl, rfl, hm1, atI_nat hvm, pm1, _, _, _, rfl, rfl, hpm, rfl, (by decide : 2 ≤ sizeLine), fun p1 hp1 => ⟨(by decide : 1 ≤ sizeLine), fun p2 hp2 => ?_⟩⟩
    have s2 := (same_new (o := .tup [nv t.1, nv (mAt B.ms i).src]) hp1).trans (same_new (o := .lst [.ref p1]) hp2)
    exact k p2 _ _ s2 (none_of (same_new hp1) hp2) upd_same (.one ⟨p1, rfl, (same_new hp2) _ _ upd_same⟩)
  | true =>
    obtain ⟨hi, hi2, hi3⟩ := mem_waysT.mp hu
    obtain ⟨vm, hvm, pr1, qr1, rfl, hpr, hqr⟩ := hr2.at (rAt_of hi)
    refine ⟨_, rfl, rfl, _, rfl, iteD (decide_eq_false (by intro z; exact absurd (wd_inj (b := true) (c := false) (V.str.inj z)) (by decide))) ?_⟩
    have hlen : (parts R t.1).length = (rAt B.rs i).src.length := by
      have q1 := (W.g.r2 _ (rAt_mem hi)).2.1
      have q2 := (W.f _ h1).2
      rw [q1, hi2, q2]
    refine ⟨_, rfl, y, a.c_Web, dy, _, _, rfl, hy, T.C_Web, T.N_rows, rfl, _, rfl, q, _, _, _, rfl, rfl, hw, hvr1, pR, _, _, _, rfl, rfl, hp, rfl, _, rfl, x, a.c_Book, dx, _, _, rfl, hx, T.C_Book, T.N_rules, rfl, _, rfl, pr, _, _, _, rfl, rfl, hr1, atI_nat hvm, pr1, _, _, _, rfl, rfl, hpr, rfl, ?_⟩
    refine ⟨qR, qr1, _, _, rfl, hq, hqr, by rw [List.length_map, List.length_map, hlen], fun H' l ts s' hl0 el lt hts => ?_⟩
    rw [List.length_map] at lt
    refine k l H' _ s' hl0 el ⟨?_, fun j v x a b => ?_⟩
    · rw [List.length_map, lt]
      show _ = (List.zip (parts R t.1) (rAt B.rs i).src).length
      rw [List.length_zip, hlen, Nat.min_self]
    · have b : (List.zip (parts R t.1) (rAt B.rs i).src)[j]? = some x := b
      rw [List.getElem?_zip_eq_some] at b
      rw [List.getElem?_map] at a
      obtain ⟨tj, htj, rfl⟩ := Option.map_eq_some_iff.mp a
      exact ⟨tj, rfl, hts j tj _ _ htj (by rw [List.getElem?_map, b.1]; rfl) (by rw [List.getElem?_map, b.2]; rfl)⟩
theorem needsP_lot {B : Bk} {R : List Row} {t : Th} {u : Wy} : needsM B R t u = lotT ((needsP B R t u).foldl insT []) := by
  obtain ⟨b, i⟩ := u
  cases b with
  | false => exact asc_uniq (by simp [needsM]) asc_lotT fun x => by rw [mem_lotT, mem_insTAll]; simp [needsM, needsP]
  | true =>
    refine lot_same fun x => ?_
    rw [mem_insTAll]
    simp [needsP]
theorem needsP_len {B : Bk} {R : List Row} {t : Th} {u : Wy} (g : Good R) : (needsP B R t u).length ≤ 2 := by
  obtain ⟨b, i⟩ := u
  cases b with
  | false => exact (by decide : 1 ≤ 2)
  | true =>
    have := parts_len g t.1
    show (List.zip _ _).length ≤ 2
    rw [List.length_zip]
    omega
def spNeedsFor (K : PySem.W.Frag) (a : Adr) : Sp := fun vs H Q _ => ∃ (x y c e : Addr) (B : Bk) (R : List Row) (t : Th) (u : Wy), vs = [.ref x, .ref y, .ref c, .ref e] ∧ BW K a H x y B R ∧ SqT K H c [nv t.1, nv t.2] ∧ t.1 < R.length ∧ SqT K H e [.str (wd u.1), nv u.2] ∧ u ∈ waysM B R t ∧ ∀ p H', Same H H' → H p = none → ThsT K H' p (needsM B R t u) → Q (.ref p) H'
theorem ok_needs_for (T : Txt K mg a) : FnOk P w K mg base CX0 2 a.f_needs_for a.d_needs_for ["book", "web", "thing", "way"] (spNeedsFor K a) := by
  have G_needs_by_parts := ok_needs_by_parts (P := P) (w := w) (base := base) T
  refine T.F_needs_for.ok sc_needs_for (fun vs H Q E h => ?_) (fun cdv A outer s H vs Q E hr h => ?_)
  · obtain ⟨x, y, c, e, B, R, t, u, rfl, _⟩ := h
    rfl
  obtain ⟨x, y, c, e, B, R, t, u, rfl, W, hc, h1, he, hu, k⟩ := h
  refine ⟨_, (pss_cons (DcG.ps_setDcT (i := 4) (own := [("need", 5)]) (g := gName 5) (tt := tYes) (hu1 hr) rfl sc_needs_for.nd rfl rfl (DcG.sw_trueD rfl rfl rfl (by decide +kernel)) (pi_list (pe_call G_needs_by_parts (hr.mono (by decide)) rfl T.g_needs_by_parts T.k_needs_by_parts T.b_needs_by_parts .nil pass0 (pa_cons (pv 0) (pa_cons (pv 1) (pa_cons (pv 2) (pa_cons (pv 3) pa_nil)))))) (blkOk_by (N := ["book", "web", "thing", "way", "needed_once", "need"]) (sc := defScope s_needs_for) (by decide +kernel)) (fun _ _ _ _ _ => pg_name (i := 5) sc_needs_for.nd rfl (Or.inl rfl)) (fun _ _ _ _ _ => pts_nil) (fun _ _ _ _ _ => pv 5) (fun _ _ _ _ _ => pe_bl))
  (pss_one (ps_ret (pe_callTy call_tuple_of (by rfl) T.z_tuple (by decide +kernel) (pa_cons (pe_callB (SoP.call_sortDP rfl) (by rfl) T.z_sorted (by decide +kernel) (pa_cons (pv 4) pa_nil)) pa_nil))))), ?_⟩
  have hpl2 := needsP_len (B := B) (t := t) (u := u) W.gr
  refine ⟨_, rfl, _, rfl, _, rfl, _, rfl, x, y, c, e, B, R, t, u, rfl, W, hc, h1, he, hu, fun q H1 us s1 hq e1 hus => ?_⟩
  refine ⟨q, rfl, ⟨us, SqL.of e1⟩, fun D hD => ?_⟩
  refine DcG.dg_it (walk_list (K := K) (xs := us)) (fun j H' => Same H1 H' ∧ H' D = some (.dT (tk (((needsP B R t u).take j).foldl insT [])))) ⟨same_new hD, upd_same⟩ (fun j H' _ z => SqL.of (z.1 _ _ e1)) (fun j v H2 H3 hj z hy' => ?_) (fun H2 z => ?_)
  · obtain ⟨s2, eD⟩ := z
    obtain ⟨rfl, hv⟩ := hy'
    obtain ⟨z1, hz1, p1, rfl, hp1⟩ := hus.at' hv
    refine ⟨rfl, ?_⟩
    refine ⟨_, rfl, _, DPut.t eD (k := kt z1) (s2 _ _ hp1) ?_, same_at s2 hD, ?_⟩
    · rw [tk_len]
      have := insTAll_len ((needsP B R t u).take j) []
      rw [List.length_take] at this
      exact lt_line (by simp only [List.length_nil] at this; omega)
    · rw [upd_same, tk_put, take_insT hz1]
  · obtain ⟨s2, eD⟩ := z
    refine ⟨_, rfl, D, _, rfl, .inl eD, tk_keys, fun bs kf ys p hbs hkf hs hb hp => ?_⟩
    have hP := srt_ths (keys_ths hbs) hkf hs hb (nodup_insTAll List.nodup_nil)
    have s3 := (s1.trans s2).trans (same_new (o := .lst ys) hp)
    refine ⟨p, ys, rfl, .inl ⟨SqL.of upd_same, fun q2 hq2 => ?_⟩⟩
    refine k q2 _ (s3.trans (same_new hq2)) (none_of s3 hq2) (tup_of_pl ?_ hq2)
    rw [List.take_of_length_le (by rw [hus.1]; exact Nat.le_refl _)] at hP
    rw [needsP_lot]
    exact hP.mono fun _ _ q => q.tt (K := K) (tt_new hp)
end
end Lk
namespace Lk
open PySem L2
section
theorem fk_list (A : List Nat) : ((fk A).map fun kv => kV kv.1) = A.map nv := by
  unfold fk
  rw [List.map_map]
  rfl
theorem fk_len (A : List Nat) : (fk A).length = A.length := List.length_map _
theorem fk_some (x : Nat) (A : List Nat) : (valV (fk A) (ky x)).isSome = decide (x ∈ A) := by
  rw [fk_val]
  by_cases m : x ∈ A
  · rw [if_pos m, decide_eq_true m]
    rfl
  · rw [if_neg m, decide_eq_false m]
    rfl
theorem ins_gt {A : List Nat} {κ : Nat} (h : ¬ κ ∈ A) : (ins A κ).length = A.length + 1 := by
  unfold ins
  rw [if_neg h, List.length_append]
  rfl
theorem all_dec {F zs : List Th} : ((zs.map fun u => decide (u ∈ F)).all id) = true ↔ ∀ u ∈ zs, u ∈ F := by
  rw [List.all_map, List.all_eq_true]
  exact ⟨fun h u hu => of_decide_eq_true (h u hu), fun h u hu => decide_eq_true (h u hu)⟩
end
section
variable {P : Program} {w : World} {K : PySem.W.Frag} {mg : Str → Option Value} {base : Heap} {a : Adr}
def spNeeds (K : PySem.W.Frag) (a : Adr) : Sp := fun vs H Q _ => ∃ (x y c e : Addr) (B : Bk) (R : List Row) (t : Th) (u : Wy), vs = [.ref x, .ref y, .ref c, .ref e] ∧ BW K a H x y B R ∧ SqT K H c [nv t.1, nv t.2] ∧ t.1 < R.length ∧ t.2 < B.nk ∧ SqT K H e [.str (wd u.1), nv u.2] ∧ u ∈ waysM B R t ∧ ∀ p H', Same H H' → H p = none → ThsT K H' p (needsM B R t u) → Q (.ref p) H'
def spKinds (K : PySem.W.Frag) (a : Adr) : Sp := fun vs H Q _ => ∃ (x y d : Addr) (B : Bk) (R : List Row) (n : Nat) (F : List Th), vs = [.ref x, .ref y, nv n, .ref d] ∧ BW K a H x y B R ∧ n < R.length ∧ H d = some (.dT (tk F)) ∧ (∀ t ∈ F, Mak B R t) ∧ Cpl B R n F ∧
  ∀ l H' A, Same H H' → H l = none → H' l = some (.lst (A.map nv)) → KSnd B R n A → (∀ κ, Mak B R (n, κ) → κ ∈ A) → Q (.ref l) H'
theorem ok_kinds_made (T : Txt K mg a) : FnOk P w K mg base CX0 1 a.f_kinds_made a.d_kinds_made ["book", "web", "value", "made"] (spKinds K a) := by
  refine T.F_kinds_made.ok sc_kinds_made (fun vs H Q E h => ?_) (fun cdv A outer s H vs Q E hr h => ?_)
  · obtain ⟨x, y, d, B, R, n, F, rfl, _⟩ := h
    rfl
  obtain ⟨x, y, d, B, R, n, F, rfl, W, hn, hd, hF, hC, k⟩ := h
  obtain ⟨dx, pa, pr, pm, hx, hx2, ⟨wr, hr1, hr2⟩, ⟨wm, hm1, hm2⟩⟩ := id W.b
  obtain ⟨dy, q, hy, hRT⟩ := id W.r
  obtain ⟨ws, hw, hwl, hrow⟩ := hRT
  obtain ⟨vr, hvr1, pR, qR, rfl, hp, hq⟩ := at_row hwl hrow hn
  refine ⟨_, (pss_cons (ps_asg (pe_ix ix_tup (pe_fld (pv 1) rfl) (pv 2) (fun _ _ => rfl)) (pg_tup (by rfl) (pgs_cons (pg_name (i := 4) sc_kinds_made.nd rfl (Or.inl rfl)) (pgs_cons (pg_name (i := 5) sc_kinds_made.nd rfl (Or.inl rfl)) pgs_nil))))
  (pss_cons (ps_set (i := 6) sc_kinds_made.nd rfl (Or.inl rfl) pe_dnewK)
  (pss_cons (ps_for PassesOwn.never rfl (pi_tup (pe_fld (pv 0) rfl)) (pg_tup rfl (pgs_cons (pg_name (i := 7) sc_kinds_made.nd rfl (Or.inl rfl)) (pgs_cons (pg_name (i := 8) sc_kinds_made.nd rfl (Or.inl rfl)) (pgs_cons (pg_name (i := 9) sc_kinds_made.nd rfl (Or.inl rfl)) (pgs_cons (pg_name (i := 10) sc_kinds_made.nd rfl (Or.inl rfl)) pgs_nil)))))
    (pss_one (ps_if (PW.pt (pw_and (pt_cmpR op_eq (pv 7) (pv 4) (nomark _)) (pw_and1 (pt_val (pe_callB (cr_all rfl) (by rfl) T.z_all (by decide +kernel) (pa_cons (pe_lc (own := [("need", 13)]) (g := gName 13) (tt := tYes) rfl sc_kinds_made.nd (ZpN.pi_zipN (by rfl) T.z_zip (pa_cons (pv 5) (pa_cons (pv 8) pa_nil))) (blkOk_by (N := ["book", "web", "value", "made", "op", "parts", "reached", "rule_op", "sources", "kind", "_", "grown", "source", "need"]) (sc := defScope s_kinds_made) (by decide +kernel)) (fun _ _ _ _ _ => pg_name (i := 13) sc_kinds_made.nd rfl (Or.inl rfl)) (fun _ _ _ _ _ => pts_nil) (fun _ _ _ _ _ => (pe_cmp (pc_din (hu1 hr) (pv 13) (pv 3)) rfl))) pa_nil))))))
    (pss_one (ps_dput (hu1 hr) (pv 6) (pv 9) pe_bl rfl))
    pss_nil)))
  (pss_cons (ps_set (i := 11) sc_kinds_made.nd rfl (Or.inl rfl) pe_bl)
  (pss_cons (ps_while PassesOwn.never (pt_val (pv 11))
    (pss_cons (ps_set (i := 11) sc_kinds_made.nd rfl (Or.inl rfl) pe_bl)
  (pss_one (ps_for PassesOwn.never rfl (pi_tup (pe_fld (pv 0) rfl)) (pg_tup rfl (pgs_cons (pg_name (i := 12) sc_kinds_made.nd rfl (Or.inl rfl)) (pgs_cons (pg_name (i := 9) sc_kinds_made.nd rfl (Or.inl rfl)) (pgs_cons (pg_name (i := 10) sc_kinds_made.nd rfl (Or.inl rfl)) pgs_nil))))
    (pss_one (ps_if (PW.pt (pw_and (pt_cmp (pc_din (hu1 hr) (pv 12) (pv 6))) (pw_and1 (pt_cmp (pc_dnotin (hu1 hr) (pv 9) (pv 6))))))
    (pss_cons (ps_dput (hu1 hr) (pv 6) (pv 9) pe_bl rfl)
  (pss_one (ps_set (i := 11) sc_kinds_made.nd rfl (Or.inl rfl) pe_bl)))
    pss_nil))))))
  (pss_one (ps_ret (pe_callTy (call_list_dK rfl) (by rfl) T.z_list (by decide +kernel) (pa_cons (pv 6) pa_nil))))))))), ?_⟩
  refine ⟨_, rfl, y, a.c_Web, dy, _, _, rfl, hy, T.C_Web, T.N_rows, rfl, _, rfl, q, _, _, _, rfl, rfl, hw, hvr1, pR, _, rfl, hp, rfl, _, _, rfl, _, _, rfl, rfl, ?_⟩
  refine fun dR hdR => ?_
  have s0 : Same H (upd H dR (.dK [])) := same_new hdR
  refine ⟨_, rfl, x, a.c_Book, dx, _, _, rfl, s0 _ _ hx, T.C_Book, T.N_rules, rfl, pr, rfl, ⟨_, (Tk.of s0).t hr1⟩, for_tup (xs := wr) (fun i σ H' => ∃ v7 v8 v9 v10 A, σ = [some (.ref x), some (.ref y), some (nv n), some (.ref d), some (nv (rowAt R n).1), some (.ref qR), some (.ref dR), v7, v8, v9, v10, none, none, none] ∧ Same H H' ∧ H' dR = some (.dK (fk A)) ∧ KSnd B R n A ∧ RulesIn B R n F A i) ?_ ?_ ?_ ?_⟩
  · exact ⟨none, none, none, none, [], rfl, s0, upd_same, ⟨List.nodup_nil, fun _ h => nomatch h⟩, fun k h => absurd h (Nat.not_lt_zero k)⟩
  · rintro i σ H' _ ⟨_, _, _, _, _, _, s1, _⟩
    exact (Tk.of s1).t hr1
  · rintro i v σ H1 hv ⟨v7, v8, v9, v10, A, rfl, s1, eR, kA, rA⟩
    have hi' : i < B.rs.length := by
      rw [← hr2.1]
      exact (List.getElem?_eq_some_iff.mp hv).1
    obtain ⟨pw, qw, rfl, hpw, hqw⟩ := (hr2.2 i v _ hv (rAt_of hi')).tt (Same_tt s1)
    refine ⟨pw, _, rfl, hpw, rfl, _, _, rfl, _, _, rfl, _, _, rfl, _, _, rfl, rfl, ?_⟩
    have step : ¬ ((rAt B.rs i).op = (rowAt R n).1 ∧ ∀ u ∈ List.zip (parts R n) (rAt B.rs i).src, u ∈ F) → RulesIn B R n F A (i + 1) := fun ne j hj hj2 e1 e2 => by
      rcases Nat.lt_or_ge j i with h | h
      · exact rA j h hj2 e1 e2
      · have : j = i := by omega
        subst this
        exact absurd ⟨e1, e2⟩ ne
    refine ⟨_, rfl, _, rfl, rfl, _, rfl, ite2 (fun hb => ?_) (fun hb => ?_)⟩
    · have ho : (rAt B.rs i).op = (rowAt R n).1 := by
        have := V.int.inj (of_decide_eq_true hb)
        omega
      have hlen : (parts R n).length = (rAt B.rs i).src.length := by
        have q1 := (W.g.r2 _ (rAt_mem hi')).2.1
        have q2 := (W.f _ hn).2
        rw [q1, ho, q2]
      have hpl2 := parts_len W.gr n
      have hq1 := (Tk.of s1).t hq
      refine ⟨_, rfl, _, rfl, qR, qw, _, _, rfl, hq1, hqw, fun D hD => ?_⟩
      refine lc_it (ZpN.walkT (xs := (parts R n).map nv) (ys := (rAt B.rs i).src.map nv) (by rw [List.length_map, List.length_map, hlen])) (fun j H' => Same H1 H' ∧ H' D = some (.lst ((((List.zip (parts R n) (rAt B.rs i).src).take j).map fun u => decide (u ∈ F)).map V.bl))) ⟨same_new hD, upd_same⟩ (fun j H' _ z => ⟨(Tk.of z.1).t hq1, (Tk.of z.1).t hqw⟩) (fun j v H2 H3 hj z hy' => ?_) (fun H2 z => ?_)
      · obtain ⟨s2, eD⟩ := z
        obtain ⟨tt, y1, y2, rfl, ht, rfl, e1, e2⟩ := hy'
        have e1 : ((parts R n).map nv)[j]? = some y1 := e1
        have e2 : ((rAt B.rs i).src.map nv)[j]? = some y2 := e2
        rw [List.getElem?_map] at e1 e2
        obtain ⟨z1, hz1, rfl⟩ := Option.map_eq_some_iff.mp e1
        obtain ⟨z2, hz2, rfl⟩ := Option.map_eq_some_iff.mp e2
        have hz : (List.zip (parts R n) (rAt B.rs i).src)[j]? = some (z1, z2) := by
          rw [List.getElem?_zip_eq_some]
          exact ⟨hz1, hz2⟩
        have eD2 : (upd H2 tt (.tup [nv z1, nv z2])) D = some (.lst ((((List.zip (parts R n) (rAt B.rs i).src).take j).map fun u => decide (u ∈ F)).map V.bl)) := by
          rw [upd_ne (ne_of_none eD ht)]
          exact eD
        have hd3 : (upd H2 tt (.tup [nv z1, nv z2])) d = some (.dT (tk F)) := (same_new ht) _ _ (s2 _ _ (s1 _ _ hd))
        refine ⟨rfl, ?_⟩
        refine ⟨_, rfl, _, rfl, d, _, rfl, DGet.t hd3 (k := kt (z1, z2)) upd_same, _, eD2, ?_, same_at (s2.trans (same_new ht)) hD, ?_⟩
        · rw [List.length_map, List.length_map, List.length_take, List.length_zip]
          exact lt_line (by omega)
        · rw [upd_same, List.take_add_one, hz, List.map_append, List.map_append, tk_some]
          rfl
      · obtain ⟨s2, eD⟩ := z
        refine ⟨D, _, rfl, .inl (.inl eD), ?_⟩
        rw [List.take_of_length_le (by rw [List.length_zip, List.length_map]; omega)]
        refine ⟨_, rfl, ite2 (fun hall => ?_) (fun hall => ?_)⟩
        · have hin := all_dec.mp hall
          have eR2 := s2 _ _ eR
          refine ⟨_, rfl, _, rfl, dR, _, rfl, DPut.k (k := ky (rAt B.rs i).kind) eR2 ?_, ?_⟩
          · rw [fk_len]
            have := kA.len W.g
            have := W.g.k2
            exact lt_line (by omega)
          · have hm := mak_rule hn hF hi' ho hin
            refine ⟨_, _, _, _, ins A (rAt B.rs i).kind, rfl, same_at (s1.trans s2) hdR, by rw [upd_same, fk_put], kA.ins hm, fun j hj hj2 e1 e2 => ?_⟩
            rcases Nat.lt_or_ge j i with h | h
            · exact mem_ins.mpr (Or.inl (rA j h hj2 e1 e2))
            · have : j = i := by omega
              subst this
              exact mem_ins.mpr (Or.inr rfl)
        · exact ⟨_, _, _, _, A, rfl, s1.trans s2, s2 _ _ eR, kA, step fun ⟨_, e2⟩ => hall (all_dec.mpr e2)⟩
    · refine ⟨_, _, _, _, A, rfl, s1, eR, kA, step fun ⟨e1, _⟩ => ?_⟩
      have : decide (nv (rAt B.rs i).op = nv (rowAt R n).1) = true := decide_eq_true (by rw [e1])
      exact hb this
  · rintro σ H1 ⟨v7, v8, v9, v10, A, rfl, s1, eR, kA, rA⟩
    rw [hr2.1] at rA
    -- grown = True; while grown
    refine ⟨fun m σ H' => ∃ v7 v8 v9 v10 v12 A g, σ = [some (.ref x), some (.ref y), some (nv n), some (.ref d), some (nv (rowAt R n).1), some (.ref qR), some (.ref dR), v7, v8, v9, v10, some (.bl g), v12, none] ∧ Same H H' ∧ H' dR = some (.dK (fk A)) ∧ KSnd B R n A ∧ RulesIn B R n F A B.rs.length ∧ ((g = true ∧ m = B.nk + 1 - A.length) ∨ (g = false ∧ m = 0 ∧ MovesIn B A B.ms.length)), ⟨B.nk + 1 - A.length, v7, v8, v9, v10, none, A, true, rfl, s1, eR, kA, rA, Or.inl ⟨rfl, rfl⟩⟩, ?_⟩
    rintro m σ H2 ⟨v7, v8, v9, v10, v12, A, g, rfl, s2, eR2, kA, rA, hg⟩
    refine ⟨_, rfl, _, rfl, ?_⟩
    rcases hg with ⟨rfl, rfl⟩ | ⟨rfl, rfl, hM⟩
    · refine iteT ⟨fun σ' H' => ∃ m', m' < B.nk + 1 - A.length ∧ ∃ v7 v8 v9 v10 v12 A g, σ' = [some (.ref x), some (.ref y), some (nv n), some (.ref d), some (nv (rowAt R n).1), some (.ref qR), some (.ref dR), v7, v8, v9, v10, some (.bl g), v12, none] ∧ Same H H' ∧ H' dR = some (.dK (fk A)) ∧ KSnd B R n A ∧ RulesIn B R n F A B.rs.length ∧ ((g = true ∧ m' = B.nk + 1 - A.length) ∨ (g = false ∧ m' = 0 ∧ MovesIn B A B.ms.length)), fun _ _ z => z, ?_⟩
      refine ⟨_, rfl, x, a.c_Book, dx, _, _, rfl, s2 _ _ hx, T.C_Book, T.N_moves, rfl, pm, rfl, ⟨_, (Tk.of s2).t hm1⟩, for_tup (xs := wm) (fun i σ H' => ∃ v7 v8 v9 v10 v12 A' g, σ = [some (.ref x), some (.ref y), some (nv n), some (.ref d), some (nv (rowAt R n).1), some (.ref qR), some (.ref dR), v7, v8, v9, v10, some (.bl g), v12, none] ∧ Same H H' ∧ H' dR = some (.dK (fk A')) ∧ KSnd B R n A' ∧ RulesIn B R n F A' B.rs.length ∧ ((g = true ∧ A.length < A'.length) ∨ (g = false ∧ A' = A ∧ MovesIn B A i))) ?_ ?_ ?_ ?_⟩
      · exact ⟨v7, v8, v9, v10, v12, A, false, rfl, s2, eR2, kA, rA, Or.inr ⟨rfl, rfl, fun k h => absurd h (Nat.not_lt_zero k)⟩⟩
      · rintro i σ H' _ ⟨_, _, _, _, _, _, _, _, s1, _⟩
        exact (Tk.of s1).t hm1
      · rintro i v σ H3 hv ⟨v7, v8, v9, v10, v12, A', g, rfl, s3, eR3, kA', rA', hg⟩
        have hi' : i < B.ms.length := by
          rw [← hm2.1]
          exact (List.getElem?_eq_some_iff.mp hv).1
        obtain ⟨pw, rfl, hpw⟩ := (hm2.2 i v _ hv (mAt_of hi')).tt (Same_tt s3)
        have keep : ¬ ((mAt B.ms i).src ∈ A' ∧ ¬ (mAt B.ms i).kind ∈ A') → ((g = true ∧ A.length < A'.length) ∨ (g = false ∧ A' = A ∧ MovesIn B A (i + 1))) := fun ne => by
          rcases hg with h | ⟨h1, h2, h3⟩
          · exact Or.inl h
          · refine Or.inr ⟨h1, h2, fun j hj hj2 e1 => ?_⟩
            rcases Nat.lt_or_ge j i with h | h
            · exact h3 j h hj2 e1
            · have : j = i := by omega
              subst this
              subst h2
              exact Classical.byContradiction fun q => ne ⟨e1, q⟩
        refine ⟨pw, _, rfl, hpw, rfl, _, _, rfl, _, _, rfl, _, _, rfl, rfl, ?_⟩
        refine ⟨_, rfl, _, rfl, dR, _, rfl, DGet.k (k := ky (mAt B.ms i).src) eR3, _, rfl, ?_⟩
        rw [fk_some]
        refine ite2 (fun h1 => ?_) (fun h1 => ?_)
        · have h1 := of_decide_eq_true h1
          refine ⟨_, rfl, _, rfl, dR, _, rfl, DGet.k (k := ky (mAt B.ms i).kind) eR3, _, rfl, ?_⟩
          rw [fk_some]
          refine ite2 (fun h2 => ?_) (fun h2 => ?_)
          · have h2 : ¬ (mAt B.ms i).kind ∈ A' := of_decide_eq_false (by simpa using h2)
            refine ⟨_, rfl, _, rfl, dR, _, rfl, DPut.k (k := ky (mAt B.ms i).kind) eR3 ?_, ?_⟩
            · rw [fk_len]
              have := kA'.len W.g
              have := W.g.k2
              exact lt_line (by omega)
            · refine ⟨_, _, _, _, _, ins A' (mAt B.ms i).kind, true, rfl, same_at s3 hdR, by rw [upd_same, fk_put], kA'.ins (mak_move hn hi' (kA'.ok _ h1)), fun j hj hj2 e1 e2 => mem_ins.mpr (Or.inl (rA' j hj hj2 e1 e2)), Or.inl ⟨rfl, ?_⟩⟩
              rw [ins_gt h2]
              rcases hg with h | ⟨_, h, _⟩
              · omega
              · rw [h]
                omega
          · exact ⟨_, _, _, _, _, A', g, rfl, s3, eR3, kA', rA', keep fun q => h2 (by rw [decide_eq_false q.2]; rfl)⟩
        · exact ⟨_, _, _, _, _, A', g, rfl, s3, eR3, kA', rA', keep fun q => h1 (decide_eq_true q.1)⟩
      · rintro σ H3 ⟨v7, v8, v9, v10, v12, A', g, rfl, s3, eR3, kA', rA', hg⟩
        rw [hm2.1] at hg
        have l1 := kA.len W.g
        have l2 := kA'.len W.g
        rcases hg with ⟨rfl, hl⟩ | ⟨rfl, rfl, hM⟩
        · exact ⟨B.nk + 1 - A'.length, by omega, v7, v8, v9, v10, v12, A', true, rfl, s3, eR3, kA', rA', Or.inl ⟨rfl, rfl⟩⟩
        · exact ⟨0, by omega, v7, v8, v9, v10, v12, A', false, rfl, s3, eR3, kA', rA', Or.inr ⟨rfl, rfl, hM⟩⟩
    · refine iteF ?_
      refine ⟨_, rfl, dR, _, rfl, eR2, fun p hp => ?_⟩
      refine k p _ A (s2.trans (same_new hp)) (none_of s2 hp) ?_ kA fun κ m => kinds_all W.gr hC rA hM m rfl
      rw [upd_same, fk_list]
end
end Lk
namespace Lk
open PySem L2
section
theorem same_keep {H0 H1 : Hp} {D l : Addr} {o u : HO} (h1 : H1 l = some u) (hD : H0 D = none) (hl : D ≠ l) : (upd H1 D o) l = some u := by
  rw [upd_ne hl.symm]
  exact h1
end
section
variable {P : Program} {w : World} {K : PySem.W.Frag} {mg : Str → Option Value} {base : Heap} {a : Adr}
def spMakeable (K : PySem.W.Frag) (a : Adr) : Sp := fun vs H Q _ => ∃ (x y : Addr) (B : Bk) (R : List Row), vs = [.ref x, .ref y] ∧ BW K a H x y B R ∧ ∀ p H', Same H H' → H p = none → ThsT K H' p (makM B R) → Q (.ref p) H'
theorem ok_makeable (T : Txt K mg a) : FnOk P w K mg base CX0 4 a.f_makeable a.d_makeable ["book", "web"] (spMakeable K a) := by
  have G_check_web := ok_check_web (P := P) (w := w) (base := base) T
  have G_kinds_made := ok_kinds_made (P := P) (w := w) (base := base) T
  refine T.F_makeable.ok sc_makeable (fun vs H Q E h => ?_) (fun cdv A outer s H vs Q E hr h => ?_)
  · obtain ⟨x, y, B, R, rfl, _⟩ := h
    rfl
  obtain ⟨x, y, B, R, rfl, W, k⟩ := h
  refine ⟨_, (pss_cons (ps_expr (pe_call G_check_web (hr.mono (by decide)) rfl T.g_check_web T.k_check_web T.b_check_web .nil pass0 (pa_cons (pv 0) (pa_cons (pv 1) pa_nil))))
  (pss_cons (ps_set (i := 2) sc_makeable.nd rfl (Or.inl rfl) pe_dnewT)
  (pss_cons (ps_for PassesOwn.never rfl (pi_range1 rfl T.z_range (pa_cons (pe_callB call_len_seq (by rfl) T.z_len PySem.boot_len (pa_cons (pe_fld (pv 1) rfl) pa_nil)) pa_nil)) (pg_name (i := 3) sc_makeable.nd rfl (Or.inl rfl))
    (pss_one (ps_for PassesOwn.never rfl (pi_list (pe_call G_kinds_made (hr.mono (by decide)) rfl T.g_kinds_made T.k_kinds_made T.b_kinds_made .nil pass0 (pa_cons (pv 0) (pa_cons (pv 1) (pa_cons (pv 3) (pa_cons (pv 2) pa_nil)))))) (pg_name (i := 4) sc_makeable.nd rfl (Or.inl rfl))
    (pss_one (ps_dput (hu1 hr) (pv 2) (pe_tup (pa_cons (pv 3) (pa_cons (pv 4) pa_nil))) pe_bl rfl)))))
  (pss_one (ps_ret (pe_callTy call_tuple_of (by rfl) T.z_tuple (by decide +kernel) (pa_cons (pe_callB (SoP.call_sortDP rfl) (by rfl) T.z_sorted (by decide +kernel) (pa_cons (pv 2) pa_nil)) pa_nil))))))), ?_⟩
  refine ⟨_, rfl, _, rfl, x, y, B, R, rfl, W, fun H0 s0 => ?_⟩
  refine fun dM hdM0 => ?_
  have hdM : H dM = none := none_of s0 hdM0
  have s1 : Same H (upd H0 dM (.dT [])) := s0.trans (same_new hdM0)
  obtain ⟨dy, q, hy, hRT⟩ := id W.r
  obtain ⟨ws, hw, hwl, hrow⟩ := hRT
  have hbd : ∀ F, Snd B R F → F.length < sizeLine := fun F sF => by
    have h1 := sF.len W.g
    have h2 := W.l
    have h3 := W.g.k2
    have h4 : R.length * B.nk ≤ 200 * 5 := Nat.mul_le_mul h2 h3
    exact lt_line (by omega)
  refine ⟨_, rfl, y, a.c_Web, dy, _, _, rfl, s1 _ _ hy, T.C_Web, T.N_rows, rfl, q, ws, rfl, .inr ((Tk.of s1).t hw), _, rfl, ?_⟩
  rw [hwl]
  refine ⟨by omega, by have := W.l; omega, for_range (lo := 0) (n := ((R.length : Nat) : Int).toNat) (fun i σ H' => ∃ v3 v4 F, σ = [some (.ref x), some (.ref y), some (.ref dM), v3, v4] ∧ Same H H' ∧ H' dM = some (.dT (tk F)) ∧ Snd B R F ∧ Cpl B R i F) ⟨none, none, [], rfl, s1, upd_same, Snd.nil, fun t h => absurd h (Nat.not_lt_zero _)⟩ ?_ ?_⟩
  · rintro i σ H1 hi ⟨v3, v4, F, rfl, s2, eM, sF, cF⟩
    have hi' : i < R.length := by omega
    have e0 : V.int (0 + (i : Nat)) = nv i := by
      show V.int (0 + (i : Nat)) = V.int (i : Int)
      rw [Int.zero_add]
    rw [e0]
    refine ⟨_, rfl, _, rfl, _, rfl, _, rfl, x, y, dM, B, R, i, F, rfl, W.same s2, hi', eM, sF.ok, cF, fun l H2 A s3 hl el kA cA => ?_⟩
    have ne : dM ≠ l := fun e => by
      rw [e, hl] at eM
      cases eM
    refine ⟨l, rfl, ⟨_, SqL.of el⟩, for_list (xs := A.map nv) (fun j σ H' => ∃ v4 F', σ = [some (.ref x), some (.ref y), some (.ref dM), some (nv i), v4] ∧ Same H H' ∧ H' l = some (.lst (A.map nv)) ∧ H' dM = some (.dT (tk F')) ∧ Snd B R F' ∧ Cpl B R i F' ∧ ∀ κ ∈ A.take j, (i, κ) ∈ F') ?_ ?_ ?_ ?_⟩
    · exact ⟨_, F, rfl, s2.trans s3, el, s3 _ _ eM, sF, cF, fun κ h => nomatch h⟩
    · rintro j σ H' _ ⟨_, _, _, _, e, _⟩
      exact SqL.of e
    · rintro j v σ H3 hv ⟨v4, F', rfl, s4, el4, eM4, sF4, cF4, hA4⟩
      rw [List.getElem?_map] at hv
      obtain ⟨κ, hκ, rfl⟩ := Option.map_eq_some_iff.mp hv
      have hm := kA.ok κ (List.mem_of_getElem? hκ)
      refine ⟨_, rfl, _, rfl, _, rfl, (by decide : 2 ≤ sizeLine), fun p hp => ?_⟩
      have eM5 : (upd H3 p (.tup [nv i, nv κ])) dM = some (.dT (tk F')) := (same_new hp) _ _ eM4
      refine ⟨dM, _, rfl, DPut.t (k := kt (i, κ)) eM5 upd_same (by rw [tk_len]; exact hbd F' sF4), ?_⟩
      refine ⟨_, insT F' (i, κ), rfl, same_at (s4.trans (same_new hp)) hdM, ?_, by rw [upd_same, tk_put], sF4.ins hm, fun t ht m => mem_insT.mpr (Or.inl (cF4 t ht m)), fun κ' hκ' => ?_⟩
      · rw [upd_ne ne.symm]
        exact (same_new hp) _ _ el4
      · rw [List.take_add_one, hκ, List.mem_append] at hκ'
        rcases hκ' with h | h
        · exact mem_insT.mpr (Or.inl (hA4 κ' h))
        · rw [List.mem_singleton.mp h]
          exact mem_insT.mpr (Or.inr rfl)
    · rintro σ H3 ⟨v4, F', rfl, s4, el4, eM4, sF4, cF4, hA4⟩
      refine ⟨_, _, F', rfl, s4, eM4, sF4, fun t ht m => ?_⟩
      rcases Nat.lt_or_ge t.1 i with h | h
      · exact cF4 t h m
      · have e : t = (i, t.2) := Prod.ext (by omega) rfl
        rw [e] at m ⊢
        refine hA4 t.2 ?_
        rw [List.take_of_length_le (by rw [List.length_map]; exact Nat.le_refl _)]
        exact cA t.2 m
  · rintro σ H1 ⟨v3, v4, F, rfl, s2, eM, sF, cF⟩
    refine ⟨_, rfl, dM, _, rfl, .inl eM, tk_keys, fun bs kf ys p hbs hkf hs hb hp => ?_⟩
    have hP := srt_ths (keys_ths hbs) hkf hs hb sF.nd
    have s3 := s2.trans (same_new (o := .lst ys) hp)
    refine ⟨p, ys, rfl, .inl ⟨SqL.of upd_same, fun q2 hq2 => ?_⟩⟩
    refine k q2 _ (s3.trans (same_new hq2)) (none_of s3 hq2) (tup_of_pl ?_ hq2)
    have e3 : makM B R = lotT F := asc_uniq asc_makM asc_lotT fun t => by
      rw [mem_makM W.g, mem_lotT]
      exact ⟨fun m => cF t (by have := (m.lt W.g).1; omega) m, sF.ok t⟩
    rw [e3]
    exact hP.mono fun _ _ q => q.tt (K := K) (tt_new hp)
end
end Lk
namespace NeD
open PySem PySem.Spec PyProof.Rows L2
/-! a dict of nested keys, locked while it is walked -/
/-- the locked dict at a holds these entries -/
def NDF (K : PySem.W.Frag) (P : Program) (w : World) (H : Hp) (a : Addr) (o : Obj) (xs : List Ent) : Prop :=
  H a = some (.frz o (dno P w a xs)) ∧ (∀ x ∈ xs, NK K H (.ref x.2.1) x.1 ∧ x.1.depth ≤ 8) ∧ (xs.map (·.1)).Nodup ∧ xs.length ≤ sizeLine
theorem frzN {X : Cx} {pins : List (Addr × Obj)} {σ : L2.St} {H : Hp} {s : Shared} {d : Addr} {o : Obj} {xs : List Ent} (I : Inv X pins σ H s) (h : H d = some (.frz o (dno X.prog X.w d xs))) :
    (d == sysModules) = false ∧ s.heap.get? d = some o ∧ o.ExactDict ∧ ∃ (es : Array DictEntry) (ep : Nat) (vs : List (NestedKey × Addr × Value)), o.data = .dict es ep ∧ es.size = xs.length ∧ KX xs vs ∧ es.toList = vs.map (entryOfKey (nestedKind X.prog X.w)) ∧
      ∀ (i : Nat) (e : Ent), xs[i]? = some e → ∃ en : DictEntry, es[i]? = some en ∧ en.key = .ref e.2.1 := by
  have ok : ObjOk X.prog X.w H s.heap d (.frz o (.ext fun h => (d == sysModules) = false ∧ ∃ vs o es ep, KX xs vs ∧ h.get? d = some o ∧ o.ExactDict ∧ o.data = .dict es ep ∧ es.toList = vs.map (entryOfKey (nestedKind X.prog X.w)))) := I.hok d _ h
  obtain ⟨hd, ⟨hs, vs, o', es, ep, r, ho, hx, hdt, he⟩, _⟩ := ok
  rw [hd] at ho
  cases ho
  have l2 : xs.length = vs.length := Paired.length r
  refine ⟨hs, hd, hx, es, ep, vs, hdt, ?_, r, he, fun i e hi => ?_⟩
  · have l1 : es.size = vs.length := size_of_entries he
    omega
  · obtain ⟨b, hb, e1, e2, _⟩ := paired_get r hi
    have q := entry_at he i
    rw [hb] at q
    exact ⟨_, q, by rw [e2]; rfl⟩
/-- the keys of the locked dict, in their order -/
def ItN (P : Program) (w : World) (d : Addr) (o : Obj) (xs : List Ent) : It :=
  ⟨fun i H => H d = some (.frz o (dno P w d xs)) ∧ i < xs.length, fun i H x H' => H' = H ∧ ∃ e : Ent, xs[i]? = some e ∧ x = .ref e.2.1, fun i H => H d = some (.frz o (dno P w d xs)) ∧ xs.length ≤ i⟩
theorem turn_keysN {P : Program} {w : World} {K : PySem.W.Frag} {tg : Expr} {d : Addr} {o : Obj} {es : Array DictEntry} {ep : Nat} {xs : List Ent} (it : Addr) (hod : o.data = .dict es ep) : Turn P w K tg (ItN P w d o xs) [it] it (fun i h => h.IsKeyIter it d i xs.length ep) where
  mem := by simp
  obj := fun i h st b hb => by
    have e : b = it := by simpa using hb
    subst e
    obtain ⟨oi, e, c, dd⟩ := st
    exact ⟨oi, e, fun v z => by rw [dd] at z; cases z⟩
  keep := fun i h h' st k => st.at fun oi e => k it (by simp) oi e
  item := by
    intro X hP hw hK hc i pins s σ H E I hf st hg
    subst hP hw hK
    obtain ⟨hd, hi⟩ := hg
    obtain ⟨f0, f1, f2, f3, f4, f5⟩ := hf it (by simp)
    obtain ⟨hs, hgd, hx, es', ep', vs, hdt, hsz, r, he, ent⟩ := frzN I hd
    obtain ⟨rfl, rfl⟩ := dict_ep hod hdt
    obtain ⟨e0, hkv⟩ : ∃ p, xs[i]? = some p := ⟨xs[i], List.getElem?_eq_getElem hi⟩
    obtain ⟨en, hen, hkey⟩ := ent i e0 hkv
    refine next_key_item st hgd hdt hsz hen fun h' st' sb => ?_
    have I1 : Inv X pins σ H { s with heap := h' } := I.turned (t' := s.toks) (fun b ob hb e => (sb.2 b hb).trans e) f0 f1 f3 f4 f5
    obtain ⟨oi, e, c, dd⟩ := id st'
    exact ⟨en.key, rfl, go_of (s := { s with heap := h' }) e c dd (by decide) ⟨.ref e0.2.1, H, I1, hkey, ⟨rfl, e0, hkv, rfl⟩, st', fun b hb => (hf b hb).1⟩⟩
  done := by
    intro X hP hw hK hc i pins s σ H E I hf st hg
    subst hP hw hK
    obtain ⟨hd, hi⟩ := hg
    obtain ⟨f0, f1, f2, f3, f4, f5⟩ := hf it (by simp)
    obtain ⟨hs, hgd, hx, es', ep', vs, hdt, hsz, r, he, ent⟩ := frzN I hd
    obtain ⟨rfl, rfl⟩ := dict_ep hod hdt
    exact next_key_end (I.ok.hd hc) st hgd hdt hsz hi fun h' eb => ⟨rfl, I.turned (t' := s.toks) (fun b ob hb e => eb b ob hb e) f0 f1 f3 f4 f5⟩
  self := fun A i s Q E st h => by
    refine wpAny_pyIter_slot st.typeIs F.slot_dict_keyiterator_iter (wpAny_call_entry F.slot_dict_keyiterator_iter st.typeIs F.entry_dict_keyiterator_iter ?_ (F.args_dict_keyiterator_iter_1 _))
    show wpAny _ _ (ret (.ref it)) _ _ s
    exact wpAny_pure ⟨_, rfl, "dict_keyiterator", _, st.typeIs, F.slot_dict_keyiterator_next.lookup, h⟩
def iKeysN (P : Program) (w : World) (td : TE) : TI := fun σ H R => td σ H fun x H1 => ∃ d o xs, x = .ref d ∧ H1 d = some (.frz o (dno P w d xs)) ∧ R (ItN P w d o xs) H1
theorem pi_keysN {X : Cx} {tg e : Expr} {td : TE} (he : PE X e td) : PI X tg e (iKeysN X.prog X.w td) := by
  refine ⟨fun pins s σ H R I h => ?_⟩
  refine thn (he.run pins s σ H _ I h) fun u s1 ⟨x, H1, I1, rx, d, o, xs, ex, hd, q⟩ => ?_
  subst ex
  obtain rfl : u = Value.ref d := rx
  obtain ⟨hs, hgd, hx, es, ep, vs, hdt, hsz, r, he', ent⟩ := frzN I1 hd
  refine iter_keys hs hgd hx hdt (pi_one (tk := s1.toks) I1 _ (turn_keysN _ hdt) ⟨_, Heap.get?_push_size _ rfl, rfl, ?_⟩ q)
  rw [hsz] <;> rfl
theorem walk_keysN {P : Program} {w : World} {d : Addr} {o : Obj} {xs : List Ent} : Walk (ItN P w d o xs) xs.length (fun H => H d = some (.frz o (dno P w d xs))) (fun i H x H' => H' = H ∧ ∃ e : Ent, xs[i]? = some e ∧ x = .ref e.2.1) :=
  ⟨fun _ _ hi q => ⟨q, hi⟩, fun _ q => ⟨q, Nat.le_refl _⟩, fun _ _ _ _ _ _ y => y⟩
section
variable {X : Cx} {pins : List (Addr × Obj)} {σ : L2.St} {H : Hp} {s : Shared} {a : Addr} {o' : Obj} {xs : List Ent} {k : NestedKey} {A : Around} {E : Value → Shared → Prop}
theorem NDF.at (I : Inv X pins σ H s) (D : NDF X.K X.prog X.w H a o' xs) : ∃ vs, KX xs vs ∧ s.heap.DictOfH (nestedKind X.prog X.w) a vs := by
  obtain ⟨e, hk, hn, hz⟩ := D
  obtain ⟨hs, ho, he, es, ep, vs, hd, hz2, r, hm, hz3⟩ := frzN I e
  refine ⟨vs, r, o', es, ep, ho, he, hd, hm, ?_, by rw [r.keys]; exact hn⟩
  clear hm he hd hn hz hz2 hz3 e
  induction r with
  | nil => exact fun x hx => nomatch hx
  | @cons p q ps qs h t ih =>
    intro x hx
    rcases List.mem_cons.mp hx with z | hx
    · subst z
      have hp := hk p List.mem_cons_self
      rw [h.1, h.2.1] at hp
      exact ⟨NK.is I _ _ _ hp.1 rfl, hp.2⟩
    · exact ih (fun y hy => hk y (List.mem_cons_of_mem _ hy)) x hx
theorem ndf_get {b : Addr} {y : V} {Q : Value → Shared → Prop} (hu : A.units + 9 < cLine) (I : Inv X pins σ H s) (D : NDF X.K X.prog X.w H a o' xs) (hb : NK X.K H (.ref b) k) (hd : k.depth ≤ 8) (hv : valV (xs.map fun x => (x.1, x.2.2)) k = some y) (h : ∀ u s', Inv X pins σ H s' → RelV y u → Q u s') :
    wpAny (model X.prog X.w) A (getItem (.ref a) (.ref b)) Q E s := by
  obtain ⟨vs, r, dd⟩ := NDF.at I D
  have q := r.val k
  rw [hv] at q
  obtain ⟨u, eu, ru⟩ := RelO.some_of (v := y) (o := (atKey vs k).map (·.2)) (by exact q)
  obtain ⟨p, hp, hp2⟩ := Option.map_eq_some_iff.mp eu
  refine wpAny_getItem_heap (knd := nestedKind X.prog X.w) (show A.units + 1 + 8 < cLine by omega) ⟨NK.is I _ _ _ hb rfl, hd⟩ dd hp ?_
  rw [hp2]
  exact h u _ (I.tok _) ru
end
def tGetF (K : PySem.W.Frag) (P : Program) (w : World) (td ty : TE) : TE := fun σ H Q => td σ H fun x H1 => ty σ H1 fun y H2 => ∃ b a o xs k v, y = .ref b ∧ x = .ref a ∧ NDF K P w H2 a o xs ∧ NK K H2 (.ref b) k ∧ k.depth ≤ 8 ∧ valV (xs.map fun x => (x.1, x.2.2)) k = some v ∧ Q v H2
theorem pe_getF {X : Cx} {o i : Expr} {td ty : TE} {pos : Pos} (hu : X.A.units + 64 < cLine) (ho : PE X o td) (hi : PE X i ty) (hs : NoSl i) : PE X (.Subscript o i pos) (tGetF X.K X.prog X.w td ty) := by
  refine ⟨fun pins s σ H Q I h => ?_⟩
  refine subD_of PySem.F.slot_dict_getitem.lookup hs (thn (ho.run pins s σ H _ I h) fun u s1 ⟨x, H1, I1, rx, q1⟩ => thn (hi.run pins s1 σ H1 _ I1 q1) fun iv s2 ⟨y, H2, I2, ry, b, a, o', xs, k, v, ey, ex, D, hb, hd, hv, q2⟩ => ?_)
  subst ex ey
  obtain rfl : u = Value.ref a := rx
  obtain rfl : iv = Value.ref b := ry
  obtain ⟨vs, r, dd⟩ := NDF.at I2 D
  exact ⟨dd.typeIs, ndf_get (by omega) I2 D hb hd hv fun w' s3 I3 rw' => ⟨v, H2, I3, rw', q2⟩⟩
end NeD
namespace Lk
open PySem L2
theorem notInQ {K : PySem.W.Frag} {X : Cx} (h : X.K = K) (hu : X.A.units + 65 < cLine) : OpR X (compareOp .NotIn) (rNotInQ K) := by
  subst h
  exact op_notInQ hu
section
variable {P : Program} {w : World} {K : PySem.W.Frag} {mg : Str → Option Value} {base : Heap} {a : Adr}
/-- the parts of a book and the values of a web, as the law holds them -/
structure PR (K : PySem.W.Frag) (H : Hp) (p v : Addr) (B : Bk) (R : List Row) : Prop where
  b : PartsV K H p B
  r : RowsT K H v R
  g : GoodB B
  gr : Good R
  f : FitsM B R
  l : R.length ≤ 200
theorem PR.tt {H H' : Hp} {p v : Addr} {B : Bk} {R : List Row} (s : TT K H H') (h : PR K H p v B R) : PR K H' p v B R := ⟨h.b.tt s, h.r.tt s, h.g, h.gr, h.f, h.l⟩

end
section
theorem nv0 (i : Nat) : V.int (0 + (i : Nat)) = nv i := by
  show V.int (0 + (i : Nat)) = V.int (i : Int)
  rw [Int.zero_add]
theorem nv1 (c r : Nat) : V.int ((c : Int) + (r : Int)) = nv (c + r) := by
  show V.int _ = V.int _
  rw [Int.natCast_add]
theorem fb_at {b g D : Addr} {H0 H1 : Hp} {o : HO} (f : Fb b g H0 H1) (hD : H0 D = none) : Fb b g H0 (upd H1 D o) := fun c u n m h => by
  rw [upd_ne (ne_of_none h hD)]
  exact f c u n m h
theorem none_fb {b g D : Addr} {H H' : Hp} (f : Fb b g H H') (h : H' D = none) (n1 : D ≠ b) (n2 : D ≠ g) : H D = none := by
  cases e : H D with
  | none => rfl
  | some o => rw [f _ _ n1 n2 e] at h; cases h
theorem fb_new {b g D : Addr} {H0 H1 : Hp} {o : HO} (f : Fb b g H0 H1) (h : H1 D = none) : Fb b g H0 (upd H1 D o) := f.trans (Fb.of (same_new h))
theorem Fb.tt {K : PySem.W.Frag} {b g : Addr} {H H' : Hp} (B : BagAt H b g) (f : Fb b g H H') : TT K H H' := (f.tk B).tt
theorem BagAt.new {b g D : Addr} {H : Hp} {o : HO} (B : BagAt H b g) (h : H D = none) : BagAt (upd H D o) b g := B.same (same_new h)
end
section
open NeD
variable {K : PySem.W.Frag} {P : Program} {w : World}
theorem nl_push {H : Hp} {D : Addr} {k n : Nat} {qs : List Nat} {x : Int} (hk : 0 < k) (hl : qs.length = n) (hq : ∀ q ∈ qs, q < k) : NL (upd H D (.lst (qs.map nv ++ [.int (x % (k : Int))]))) D k (n + 1) := by
  obtain ⟨z, ez, hz⟩ := mod_nat x hk
  refine ⟨qs ++ [z], ?_, by rw [List.length_append, hl]; rfl, fun q h => ?_⟩
  · rw [upd_same, List.map_append, ez]
    rfl
  · rcases List.mem_append.mp h with h | h
    · exact hq q h
    · rw [List.mem_singleton.mp h]
      exact hz
theorem vmod (x : Int) {m : Nat} (h : 0 < m) : ∃ z : Nat, z < m ∧ V.int (x % (m : Int)) = nv z := by
  obtain ⟨z, ez, hz⟩ := mod_nat x h
  exact ⟨z, hz, by rw [ez]; rfl⟩
theorem nd_move {H H' : Hp} {d : Addr} {kvs : List (NestedKey × V)} (h : ND K P w H d kvs) (t : TT K H H') (e : ∀ o, H d = some o → H' d = some o) : ND K P w H' d kvs := by
  obtain ⟨xs, h1, ek, hk, hn, hz⟩ := h
  exact ⟨xs, e _ h1, ek, fun x hx => ⟨(hk x hx).1.mono fun _ _ q => t.t _ _ q, (hk x hx).2⟩, hn, hz⟩
theorem tt_nd {H : Hp} {d : Addr} {kvs : List (NestedKey × V)} {o : HO} (h : ND K P w H d kvs) : TT K H (upd H d o) := by
  obtain ⟨xs, h1, _⟩ := h
  exact tt_upd h1 (fun ys z => dno_ne (o := .tup ys) (fun _ q => nomatch q) z.symm) (fun o' v z => dno_ne (o := .frz o' v) (fun _ q => nomatch q) z.symm)
/-- a dict of keys and a list of items, grown side by side, beside the bag -/
structure DI {α : Type} (K : PySem.W.Frag) (P : Program) (w : World) (R : Hp → V → α → Prop) (H H' : Hp) (b g d l : Addr) (us : List V) (kvs : List (NestedKey × V)) (xs : List α) : Prop where
  f : Fb b g H H'
  B : BagAt H' b g
  N : ND K P w H' d kvs
  e : H' l = some (.lst us)
  p : PL (R H') us xs
variable {α : Type} {R : Hp → V → α → Prop} {H H1 H2 : Hp} {b g d l : Addr} {us : List V} {kvs : List (NestedKey × V)} {xs : List α}
theorem DI.same (m : ∀ H H' v x, TT K H H' → R H v x → R H' v x) (h : DI K P w R H H1 b g d l us kvs xs) (s : Same H1 H2) : DI K P w R H H2 b g d l us kvs xs :=
  ⟨h.f.trans (Fb.of s), h.B.same s, h.N.same s, s _ _ h.e, h.p.mono fun _ _ q => m _ _ _ _ (Same_tt s) q⟩
theorem DI.draw (m : ∀ H H' v x, TT K H H' → R H v x → R H' v x) (h : DI K P w R H H1 b g d l us kvs xs) (n1 : d ≠ b) (n2 : d ≠ g) (n3 : l ≠ b) (n4 : l ≠ g) (f : Fb b g H1 H2) (B : BagAt H2 b g) : DI K P w R H H2 b g d l us kvs xs :=
  ⟨h.f.trans f, B, nd_move h.N (f.tt h.B) fun _ e => f _ _ n1 n2 e, f _ _ n3 n4 h.e, h.p.mono fun _ _ q => m _ _ _ _ (f.tt h.B) q⟩
theorem DI.put (m : ∀ H H' v x, TT K H H' → R H v x → R H' v x) (h : DI K P w R H H1 b g d l us kvs xs) (n1 : d ≠ b) (n2 : d ≠ g) (hd : H d = none) (ne : d ≠ l) {o : HO} {kvs' : List (NestedKey × V)} (N : ND K P w (upd H1 d o) d kvs') : DI K P w R H (upd H1 d o) b g d l us kvs' xs :=
  ⟨fb_at h.f hd, h.B.keep n1 n2, N, by rw [upd_ne ne.symm]; exact h.e, h.p.mono fun _ _ q => m _ _ _ _ (tt_nd h.N) q⟩
theorem DI.push (m : ∀ H H' v x, TT K H H' → R H v x → R H' v x) (h : DI K P w R H H1 b g d l us kvs xs) (n3 : l ≠ b) (n4 : l ≠ g) (hl : H l = none) (ne : d ≠ l) {v : V} {x : α} (k : R H1 v x) : DI K P w R H (upd H1 l (.lst (us ++ [v]))) b g d l (us ++ [v]) kvs (xs ++ [x]) :=
  ⟨fb_at h.f hl, h.B.keep n3 n4, nd_move h.N (tt_lst h.e) fun _ q => by rw [upd_ne ne]; exact q, upd_same, (h.p.mono fun _ _ q => m _ _ _ _ (tt_lst h.e) q).snoc (m _ _ _ _ (tt_lst h.e) k)⟩
theorem val_some {α β : Type} [DecidableEq β] (f : α → β) {x : α} : ∀ {l : List α}, x ∈ l → valV (l.map fun y => (f y, V.bl true)) (f x) = some (.bl true)
  | y :: l, h => by
    by_cases e : f y = f x
    · exact valV_pos e
    · rw [List.map_cons, valV_neg e]
      rcases List.mem_cons.mp h with rfl | h
      · exact absurd rfl e
      · exact val_some f h
theorem nkR_of {r s : Rl} (h : rkey r = rkey s) : nkR r = nkR s := by
  obtain ⟨h1, h2⟩ := Prod.mk.inj h
  obtain ⟨h2, h3⟩ := Prod.mk.inj h2
  unfold nkR
  rw [h1, h2, h3]
theorem nkM_of {r s : Mv} (h : mkey r = mkey s) : nkM r = nkM s := by
  obtain ⟨h1, h2⟩ := Prod.mk.inj h
  unfold nkM
  rw [h1, h2]
theorem newR {rs : List Rl} {r : Rl} (h : valV (ndR rs) (nkR r) = none) (hn : (rs.map rkey).Nodup) : ((rs ++ [r]).map rkey).Nodup ∧ putK (ndR rs) (nkR r) (.bl true) = ndR (rs ++ [r]) := by
  constructor
  · rw [List.map_append, List.nodup_append]
    refine ⟨hn, by simp, fun a ha c hc e => ?_⟩
    obtain ⟨s, hs, rfl⟩ := List.mem_map.mp ha
    rw [List.map_cons, List.map_nil, List.mem_singleton] at hc
    have := val_some nkR hs
    rw [nkR_of (e.trans hc)] at this
    rw [show valV (ndR rs) (nkR r) = some (.bl true) from this] at h
    cases h
  · rw [putK_new _ h]
    unfold ndR
    rw [List.map_append]
    rfl
theorem newM {rs : List Mv} {r : Mv} (h : valV (ndM rs) (nkM r) = none) (hn : (rs.map mkey).Nodup) : ((rs ++ [r]).map mkey).Nodup ∧ putK (ndM rs) (nkM r) (.bl true) = ndM (rs ++ [r]) := by
  constructor
  · rw [List.map_append, List.nodup_append]
    refine ⟨hn, by simp, fun a ha c hc e => ?_⟩
    obtain ⟨s, hs, rfl⟩ := List.mem_map.mp ha
    rw [List.map_cons, List.map_nil, List.mem_singleton] at hc
    have := val_some nkM hs
    rw [nkM_of (e.trans hc)] at this
    rw [show valV (ndM rs) (nkM r) = some (.bl true) from this] at h
    cases h
  · rw [putK_new _ h]
    unfold ndM
    rw [List.map_append]
    rfl
theorem none_of_some {o : Option V} (h : (!o.isSome) = true) : o = none := by
  cases o with
  | none => rfl
  | some => cases h
end
def rLenK (K : PySem.W.Frag) : List V → Hp → VK → Prop := fun xs H Q => ∃ p ys, xs = [.ref p] ∧ (SqL K H p ys ∨ SqT K H p ys) ∧ Q (.int ys.length) H
theorem lenK {K : PySem.W.Frag} {X : Cx} (h : X.K = K) : CallR X (.builtin "len") (rLenK K) := by
  subst h
  exact call_len_seq
def FitsA (ar : List Nat) (R : List Row) : Prop := ∀ n, n < R.length → (rowAt R n).1 < ar.length ∧ ar.getD (rowAt R n).1 0 = (parts R n).length
theorem FitsA.push {ar : List Nat} {R : List Row} {r : Row} (h : FitsA ar R) (h1 : r.1 < ar.length) (h2 : ar.getD r.1 0 = r.2.length) : FitsA ar (R ++ [r]) := by
  intro n hn
  rw [List.length_append, List.length_singleton] at hn
  unfold parts
  by_cases e : n < R.length
  · rw [rowAt_old e]
    exact h n e
  · have : n = R.length := by omega
    subst this
    rw [rowAt_new]
    exact ⟨h1, h2⟩
theorem slTK {K : PySem.W.Frag} {X : Cx} (h : X.K = K) : SlR X (rSlT K) := by
  subst h
  exact sl_tup
theorem ltTK {K : PySem.W.Frag} {X : Cx} (h : X.K = K) (hu : X.A.units < cLine) : OpR X (compareOp .Lt) (rLtT K) := by
  subst h
  exact op_ltT hu
theorem lex_th {t u : Th} (h : ltT t u) : HT.lexLt [(t.1 : Int), (t.2 : Int)] [(u.1 : Int), (u.2 : Int)] = true := by
  unfold ltT at h
  simp only [HT.lexLt]
  rcases h with h | ⟨h1, h2⟩
  · have h3 : ¬ ((t.1 : Int) = (u.1 : Int)) := by omega
    have h4 : (t.1 : Int) < (u.1 : Int) := by omega
    simp [h3, h4]
  · have h3 : (t.1 : Int) = (u.1 : Int) := by omega
    have h4 : (t.2 : Int) < (u.2 : Int) := by omega
    have h5 : ¬ ((t.2 : Int) = (u.2 : Int)) := by omega
    simp [h3, h4, h5]
section
variable {K : PySem.W.Frag}
/-! a slice and a sum of tuples, whatever they are -/
theorem sl_any {H : Hp} {Q : V → Hp → Prop} {a : Addr} {xs : List V} {lo hi : Option Int} (h : SqT K H a xs) (k : ∀ p H', Same H H' → SqT K H' p (cutV xs lo hi) → Q (.ref p) H') (hw : HT.sIx xs.length 0 lo = 0 ∧ HT.sIx xs.length xs.length hi = xs.length → cutV xs lo hi = xs) : rSlA K (.ref a) lo hi H Q :=
  ⟨a, xs, rfl, h, fun w => k a H (Same.refl H) (by rw [hw w]; exact h), fun _ p hp => k p _ (same_new hp) (.inl (.inl upd_same))⟩
theorem cat_any {H : Hp} {Q : V → Hp → Prop} {a b : Addr} {xs ys : List V} (h1 : SqT K H a xs) (h2 : SqT K H b ys) (hl : xs.length + ys.length ≤ sizeLine) (k : ∀ p H', Same H H' → SqT K H' p (xs ++ ys) → Q (.ref p) H') : rCatA K (.ref a) (.ref b) H Q :=
  ⟨a, b, xs, ys, rfl, rfl, h1, h2, hl, fun e => k b H (Same.refl H) (by rw [e]; exact h2), fun _ e => k a H (Same.refl H) (by rw [e, List.append_nil]; exact h1), fun _ _ p hp => k p _ (same_new hp) (.inl (.inl upd_same))⟩
theorem sIx_lo {n k : Nat} (h : k ≤ n) : HT.sIx n 0 (some (k : Int)) = k := by
  simp only [HT.sIx]
  rw [if_neg (by omega)]
  omega
theorem sIx_hi {n k : Nat} (h : k ≤ n) : HT.sIx n n (some (k : Int)) = k := by
  simp only [HT.sIx]
  rw [if_neg (by omega)]
  omega
theorem cut_to {xs : List V} {k : Nat} (h : k ≤ xs.length) : cutV xs none (some (k : Int)) = xs.take k := by
  show (xs.drop (HT.sIx xs.length 0 none)).take (HT.sIx xs.length xs.length (some (k : Int)) - HT.sIx xs.length 0 none) = _
  rw [sIx_hi h]
  rfl
theorem cut_from {xs : List V} {k : Nat} (h : k ≤ xs.length) : cutV xs (some (k : Int)) none = xs.drop k := by
  show (xs.drop (HT.sIx xs.length 0 (some (k : Int)))).take (HT.sIx xs.length xs.length none - HT.sIx xs.length 0 (some (k : Int))) = _
  rw [sIx_lo h]
  refine List.take_of_length_le ?_
  rw [List.length_drop]
  exact Nat.le_refl _
end
theorem catAK {K : PySem.W.Frag} {X : Cx} (h : X.K = K) : OpR X (binaryOp .Add) (rCatA K) := by
  subst h
  exact op_catA
/-! a cut: what is known behind an expression -/
def tCut (t : TE) : TE := fun σ H Q => ∃ M : V → Hp → Prop, t σ H M ∧ ∀ v H', M v H' → Q v H'
theorem pe_cut {X : Cx} {e : Expr} {t : TE} (h : PE X e t) : PE X e (tCut t) :=
  ⟨fun pins s σ H Q I ⟨M, h1, h2⟩ => thn (h.run pins s σ H M I h1) fun v s1 ⟨x, H1, I1, r, q⟩ => ⟨x, H1, I1, r, h2 _ _ q⟩⟩
theorem pe_getFK {K : PySem.W.Frag} {P : Program} {w : World} {X : Cx} {o i : Expr} {td ty : TE} {pos : Pos} (h1 : X.K = K) (h2 : X.prog = P) (h3 : X.w = w) (hu : X.A.units + 64 < cLine) (ho : PE X o td) (hi : PE X i ty) (hs : NoSl i) : PE X (.Subscript o i pos) (NeD.tGetF K P w td ty) := by
  subst h1 h2 h3
  exact NeD.pe_getF hu ho hi hs
section
/-! a dict that is overwritten, by its entries -/
variable {α : Type} {f : α → NestedKey} {c : α → V}
def setA (f : α → NestedKey) (rs : List α) (r : α) : List α := if (rs.any fun s => decide (f s = f r)) = true then rs.map (fun s => if f s = f r then r else s) else rs ++ [r]
theorem put_set (rs : List α) (r : α) : putK (rs.map fun x => (f x, c x)) (f r) (c r) = (setA f rs r).map fun x => (f x, c x) := by
  unfold putK setA
  have e : ((rs.map fun x => (f x, c x)).any fun kv => decide (kv.1 = f r)) = rs.any fun s => decide (f s = f r) := by
    rw [List.any_map]
    rfl
  rw [e]
  split
  · rw [List.map_map, List.map_map]
    refine List.map_congr_left fun s _ => ?_
    show (if f s = f r then (f s, c r) else (f s, c s)) = (f (if f s = f r then r else s), c (if f s = f r then r else s))
    split
    · rename_i h
      rw [h]
    · rfl
  · rw [List.map_append]
    rfl
theorem set_mem {rs : List α} {r m : α} (h : m ∈ setA f rs r) : m ∈ rs ∨ m = r := by
  unfold setA at h
  split at h
  · obtain ⟨s, hs, e⟩ := List.mem_map.mp h
    split at e
    · exact Or.inr e.symm
    · exact Or.inl (e ▸ hs)
  · rcases List.mem_append.mp h with h | h
    · exact Or.inl h
    · exact Or.inr (List.mem_singleton.mp h)
theorem set_len (rs : List α) (r : α) : (setA f rs r).length ≤ rs.length + 1 := by
  unfold setA
  split
  · rw [List.length_map]; omega
  · rw [List.length_append, List.length_singleton]; omega
theorem set_nd {rs : List α} {r : α} (h : (rs.map f).Nodup) : ((setA f rs r).map f).Nodup := by
  unfold setA
  split
  · have e : (rs.map fun s => if f s = f r then r else s).map f = rs.map f := by
      rw [List.map_map]
      refine List.map_congr_left fun s _ => ?_
      show f (if f s = f r then r else s) = f s
      split
      · rename_i h
        exact h.symm
      · rfl
    rw [e]
    exact h
  · rename_i hn
    rw [List.map_append, List.nodup_append]
    refine ⟨h, by simp, fun a ha b hb e => hn ?_⟩
    obtain ⟨s, hs, rfl⟩ := List.mem_map.mp ha
    rw [List.map_cons, List.map_nil, List.mem_singleton] at hb
    exact List.any_eq_true.mpr ⟨s, hs, decide_eq_true (e.trans hb)⟩
theorem valV_at {κ : Type} [DecidableEq κ] : ∀ {kvs : List (κ × V)} {i : Nat} {k : κ} {v : V}, (kvs.map (·.1)).Nodup → kvs[i]? = some (k, v) → valV kvs k = some v
  | p :: r, 0, k, v, _, h => by
    have e : p = (k, v) := Option.some.inj h
    rw [valV_pos (by rw [e]), e]
  | p :: r, i + 1, k, v, hn, h => by
    rw [List.map_cons, List.nodup_cons] at hn
    have h' : r[i]? = some (k, v) := h
    rw [valV_neg, valV_at hn.2 h']
    intro e
    exact hn.1 (e ▸ List.mem_map.mpr ⟨(k, v), List.mem_of_getElem? h', rfl⟩)
end
section
open NeD
variable {K : PySem.W.Frag}
theorem nums_of {H : Hp} : ∀ {ys : List V} {ns : List Nat}, NKs K H ys (ns.map fun (x : Nat) => .num (x : Int)) → ys = ns.map nv
  | [], [], _ => rfl
  | [], _ :: _, h => by cases h
  | _ :: _, [], h => by cases h
  | y :: ys, n :: ns, h => by
    cases h with
    | cons h1 h2 =>
      cases h1
      rw [nums_of h2]
      rfl
theorem rule_of_key {H : Hp} {b : Addr} {r : Rl} (h : NK K H (.ref b) (nkR r)) : ∃ q, SqT K H b [nv r.op, .ref q, nv r.kind] ∧ IT K H q r.src := by
  generalize hk : nkR r = k at h
  cases h with
  | @tup _ ys ks h1 h2 =>
    unfold nkR at hk
    cases hk
    cases h2 with
    | cons a1 h2 =>
      cases a1
      cases h2 with
      | cons a2 h2 =>
        cases h2 with
        | cons a3 h2 =>
          cases a3
          cases h2
          generalize hk2 : NestedKey.tup (r.src.map fun (x : Nat) => .num (x : Int)) = k2 at a2
          cases a2 with
          | @tup q zs ks2 h3 h4 =>
            cases hk2
            refine ⟨q, h1, ?_⟩
            rw [nums_of h4] at h3
            exact h3
          | _ => cases hk2
  | _ => cases hk
theorem move_of_key {H : Hp} {b : Addr} {r : Mv} (h : NK K H (.ref b) (nkM r)) : SqT K H b [nv r.src, nv r.kind] := by
  generalize hk : nkM r = k at h
  cases h with
  | @tup _ ys ks h1 h2 =>
    unfold nkM at hk
    cases hk
    cases h2 with
    | cons a1 h2 =>
      cases a1
      cases h2 with
      | cons a2 h2 =>
        cases a2
        cases h2
        exact h1
  | _ => cases hk
/-! a dict locked, and unlocked -/
theorem unlock_same {H H' : Hp} {d : Addr} {u : HO} {od : Obj} (h : H d = some u) (s : Same (upd H d (.frz od u)) H') : Same H (upd H' d u) := fun b o e => by
  by_cases hb : b = d
  · subst hb
    rw [upd_same]
    rw [h] at e
    exact e
  · rw [upd_ne hb]
    exact s b o (by rw [upd_ne hb]; exact e)
theorem lock_tt {P : Program} {w : World} {H : Hp} {d : Addr} {xs : List Ent} {od : Obj} (h : H d = some (dno P w d xs)) : TT K H (upd H d (.frz od (dno P w d xs))) := tt_upd h (fun ys z => dno_ne (o := .tup ys) (fun _ q => nomatch q) z.symm) (fun o' v z => dno_ne (o := .frz o' v) (fun _ q => nomatch q) z.symm)
theorem unlock_tt {P : Program} {w : World} {H : Hp} {d : Addr} {xs : List Ent} {od : Obj} {u : HO} (h : H d = some (.frz od (dno P w d xs))) : TT K H (upd H d u) where
  d := fun b ys q => by rw [upd_ne (ne_of q h (fun z => nomatch z))]; exact q
  t := fun b ys q => by
    rcases q with (q | ⟨o', q⟩) | q
    · exact .inl (.inl (by rw [upd_ne (ne_of q h (fun z => nomatch z))]; exact q))
    · refine .inl (.inr ⟨o', ?_⟩)
      rw [upd_ne (ne_of q h (fun z => ?_))]
      · exact q
      · have z2 := (HO.frz.inj z).2
        exact dno_ne (o := .tup ys) (fun _ q => nomatch q) z2.symm
    · exact .inr q
end
end Lk
namespace Lk
open PySem L2
section
open NeD
variable {K : PySem.W.Frag} {P : Program} {w : World}
/-- a dict of drawn rows beside the bag -/
structure DB {α : Type} (K : PySem.W.Frag) (P : Program) (w : World) (f : α → NestedKey) (c : α → V) (H H' : Hp) (b g d : Addr) (rs : List α) : Prop where
  fb : Fb b g H H'
  bg : BagAt H' b g
  nd : ND K P w H' d (rs.map fun x => (f x, c x))
variable {α : Type} {f : α → NestedKey} {c : α → V} {H H1 H2 : Hp} {b g d : Addr} {rs : List α}
theorem DB.same (h : DB K P w f c H H1 b g d rs) (s : Same H1 H2) : DB K P w f c H H2 b g d rs := ⟨h.fb.trans (Fb.of s), h.bg.same s, h.nd.same s⟩
theorem DB.draw (h : DB K P w f c H H1 b g d rs) (n1 : d ≠ b) (n2 : d ≠ g) (x : Fb b g H1 H2) (B : BagAt H2 b g) : DB K P w f c H H2 b g d rs := ⟨h.fb.trans x, B, nd_move h.nd (x.tt h.bg) fun _ e => x _ _ n1 n2 e⟩
theorem DB.put (h : DB K P w f c H H1 b g d rs) (n1 : d ≠ b) (n2 : d ≠ g) (hd : H d = none) {o : HO} {r : α} (N : ND K P w (upd H1 d o) d (putK (rs.map fun x => (f x, c x)) (f r) (c r))) : DB K P w f c H (upd H1 d o) b g d (setA f rs r) :=
  ⟨fb_at h.fb hd, h.bg.keep n1 n2, by rw [← put_set]; exact N⟩
theorem rkey_nd {rs : List Rl} (h : (rs.map nkR).Nodup) : (rs.map rkey).Nodup := by
  rw [List.Nodup, List.pairwise_map] at h ⊢
  exact h.imp fun h e => h (nkR_of e)
theorem mkey_nd {rs : List Mv} (h : (rs.map nkM).Nodup) : (rs.map mkey).Nodup := by
  rw [List.Nodup, List.pairwise_map] at h ⊢
  exact h.imp fun h e => h (nkM_of e)
/-- an entry of the locked dict -/
theorem ent_at {xs : List Ent} (ek : rs.map (fun x => (f x, c x)) = xs.map fun x => (x.1, x.2.2)) {i : Nat} {e : Ent} (h : xs[i]? = some e) : ∃ r, rs[i]? = some r ∧ e.1 = f r ∧ e.2.2 = c r := by
  have h1 : (xs.map fun x => (x.1, x.2.2))[i]? = some (e.1, e.2.2) := by rw [List.getElem?_map, h]; rfl
  rw [← ek, List.getElem?_map] at h1
  obtain ⟨r, hr, e2⟩ := Option.map_eq_some_iff.mp h1
  have e3 := Prod.mk.inj e2
  exact ⟨r, hr, e3.1.symm, e3.2.symm⟩
theorem ent_len {xs : List Ent} (ek : rs.map (fun x => (f x, c x)) = xs.map fun x => (x.1, x.2.2)) : xs.length = rs.length := by
  have := congrArg List.length ek
  rw [List.length_map, List.length_map] at this
  exact this.symm
end
section
variable {P : Program} {w : World} {K : PySem.W.Frag} {mg : Str → Option Value} {base : Heap} {a : Adr}
def spLBook (K : PySem.W.Frag) : Sp := fun vs H Q _ => ∃ (b g : Addr) (ops nk most : Nat), vs = [.ref b, nv ops, nv nk, nv most] ∧ 1 ≤ ops ∧ ops ≤ 8 ∧ 1 ≤ nk ∧ nk ≤ 5 ∧ 1 ≤ most ∧ most ≤ 1000 ∧ BagAt H b g ∧ ∀ q Bk H', Fb b g H H' → BagAt H' b g → PartsV K H' q Bk → GoodB Bk → Bk.nk = nk → Bk.ar.length = ops → Bk.ar.getD 0 0 = 0 → Q (.ref q) H'
theorem ok_law_book (T : Txt K mg a) : FnOk P w K mg base CX0 2 a.f_law_book a.d_law_book ["_law_bag_here", "_law_ops", "_law_kinds", "_law_most"] (spLBook K) := by
  have G_law_pick := ok_law_pick (P := P) (w := w) (base := base) T
  refine T.F_law_book.ok sc_law_book (fun vs H Q E h => ?_) (fun cdv A outer s H vs Q E hr h => ?_)
  · obtain ⟨b, g, ops, nk, most, rfl, _⟩ := h
    rfl
  obtain ⟨b, g, ops, nk, most, rfl, ho1, ho2, hk1, hk2, hm1, hm2, B, k⟩ := h
  refine ⟨_, (pss_cons (ps_set (i := 4) sc_law_book.nd rfl (Or.inl rfl) (pe_op op_catA (pe_tup (pa_cons pe_int pa_nil)) (pe_callTy call_tuple_of (by rfl) T.z_tuple (by decide +kernel) (pa_cons (pe_lc (own := [("_law_op", 6)]) (g := gName 6) (tt := tYes) rfl sc_law_book.nd (pi_range2 rfl T.z_range (pa_cons pe_int (pa_cons (pv 1) pa_nil))) (blkOk_by (N := ["_law_bag_here", "_law_ops", "_law_kinds", "_law_most", "_law_arities", "_law_rules", "_law_op", "_law_turn", "_law_sources", "_law_moves", "_law_one", "_law_other", "_law_rows", "_law_part", "_law_key"]) (sc := defScope s_law_book) (by decide +kernel)) (fun _ _ _ _ _ => pg_name (i := 6) sc_law_book.nd rfl (Or.inl rfl)) (fun _ _ _ _ _ => pts_nil) (fun _ _ _ _ _ => (pe_ifExp (pt_cmpR op_gt (pe_call G_law_pick (hr.mono (by decide)) rfl T.g_law_pick T.k_law_pick T.b_law_pick .nil pass0 (pa_cons (pv 0) (pa_cons pe_int pa_nil))) pe_int (nomark _)) (pe_op op_add pe_int (pe_callTy call_int1 (by rfl) T.z_int (by decide +kernel) (pa_cons (pe_cmpR op_eq (pe_call G_law_pick (hr.mono (by decide)) rfl T.g_law_pick T.k_law_pick T.b_law_pick .nil pass0 (pa_cons (pv 0) (pa_cons pe_int pa_nil))) pe_int (nomark _)) pa_nil))) pe_int))) pa_nil))))
  (pss_cons (ps_set (i := 5) sc_law_book.nd rfl (Or.inr rfl) NeD.pe_new)
  (pss_cons (ps_for PassesOwn.never rfl (pi_range1 rfl T.z_range (pa_cons (pv 1) pa_nil)) (pg_name (i := 6) sc_law_book.nd rfl (Or.inl rfl))
    (pss_one (ps_for PassesOwn.never rfl (pi_range1 rfl T.z_range (pa_cons (pe_op op_add pe_int (pe_call G_law_pick (hr.mono (by decide)) rfl T.g_law_pick T.k_law_pick T.b_law_pick .nil pass0 (pa_cons (pv 0) (pa_cons pe_int pa_nil)))) pa_nil)) (pg_name (i := 7) sc_law_book.nd rfl (Or.inl rfl))
    (pss_cons (ps_set (i := 8) sc_law_book.nd rfl (Or.inl rfl) (pe_callTy call_tuple_of (by rfl) T.z_tuple (by decide +kernel) (pa_cons (pe_lc (own := [("_law_part", 13)]) (g := gName 13) (tt := tYes) rfl sc_law_book.nd (pi_range1 rfl T.z_range (pa_cons (pe_ix ix_tup (pv 4) (pv 6) (fun _ _ => rfl)) pa_nil)) (blkOk_by (N := ["_law_bag_here", "_law_ops", "_law_kinds", "_law_most", "_law_arities", "_law_rules", "_law_op", "_law_turn", "_law_sources", "_law_moves", "_law_one", "_law_other", "_law_rows", "_law_part", "_law_key"]) (sc := defScope s_law_book) (by decide +kernel)) (fun _ _ _ _ _ => pg_name (i := 13) sc_law_book.nd rfl (Or.inl rfl)) (fun _ _ _ _ _ => pts_nil) (fun _ _ _ _ _ => (pe_call G_law_pick (hr.mono (by decide)) rfl T.g_law_pick T.k_law_pick T.b_law_pick .nil pass0 (pa_cons (pv 0) (pa_cons (pv 2) pa_nil))))) pa_nil)))
  (pss_one (NeD.ps_put hr.units (pv 5) (pe_tup (pa_cons (pv 6) (pa_cons (pv 8) (pa_cons (pe_call G_law_pick (hr.mono (by decide)) rfl T.g_law_pick T.k_law_pick T.b_law_pick .nil pass0 (pa_cons (pv 0) (pa_cons (pv 2) pa_nil))) pa_nil)))) (pe_op op_add pe_int (pe_call G_law_pick (hr.mono (by decide)) rfl T.g_law_pick T.k_law_pick T.b_law_pick .nil pass0 (pa_cons (pv 0) (pa_cons (pv 3) pa_nil)))) rfl))))))
  (pss_cons (ps_set (i := 9) sc_law_book.nd rfl (Or.inr rfl) NeD.pe_new)
  (pss_cons (ps_for PassesOwn.never rfl (pi_range1 rfl T.z_range (pa_cons (pe_cut (pe_ifExp (pt_cmpR op_lt (pe_call G_law_pick (hr.mono (by decide)) rfl T.g_law_pick T.k_law_pick T.b_law_pick .nil pass0 (pa_cons (pv 0) (pa_cons pe_int pa_nil))) pe_int (nomark _)) (pe_call G_law_pick (hr.mono (by decide)) rfl T.g_law_pick T.k_law_pick T.b_law_pick .nil pass0 (pa_cons (pv 0) (pa_cons pe_int pa_nil))) (pe_op op_add pe_int (pe_call G_law_pick (hr.mono (by decide)) rfl T.g_law_pick T.k_law_pick T.b_law_pick .nil pass0 (pa_cons (pv 0) (pa_cons (pe_op op_mul pe_int (pv 2)) pa_nil)))))) pa_nil)) (pg_name (i := 7) sc_law_book.nd rfl (Or.inl rfl))
    (pss_cons (ps_par (i := 10) (j := 11) (by rfl) sc_law_book.nd rfl rfl (by decide) rfl rfl (pa_cons (pe_call G_law_pick (hr.mono (by decide)) rfl T.g_law_pick T.k_law_pick T.b_law_pick .nil pass0 (pa_cons (pv 0) (pa_cons (pv 2) pa_nil))) (pa_cons (pe_call G_law_pick (hr.mono (by decide)) rfl T.g_law_pick T.k_law_pick T.b_law_pick .nil pass0 (pa_cons (pv 0) (pa_cons (pv 2) pa_nil))) pa_nil)) (by rfl))
  (pss_one (ps_if (pt_cmpR op_ne (pv 10) (pv 11) (nomark _))
    (pss_one (NeD.ps_put hr.units (pv 9) (pe_tup (pa_cons (pv 10) (pa_cons (pv 11) pa_nil))) (pe_op op_add pe_int (pe_call G_law_pick (hr.mono (by decide)) rfl T.g_law_pick T.k_law_pick T.b_law_pick .nil pass0 (pa_cons (pv 0) (pa_cons (pv 3) pa_nil)))) rfl))
    pss_nil))))
  (pss_cons (ps_set (i := 12) sc_law_book.nd rfl (Or.inl rfl) (pe_callTy call_tuple_of (by rfl) T.z_tuple (by decide +kernel) (pa_cons (pe_lock (pe_lc (own := [("_law_key", 14)]) (g := gName 14) (tt := tYes) rfl sc_law_book.nd (NeD.pi_keysN (pv 5)) (blkOk_by (N := ["_law_bag_here", "_law_ops", "_law_kinds", "_law_most", "_law_arities", "_law_rules", "_law_op", "_law_turn", "_law_sources", "_law_moves", "_law_one", "_law_other", "_law_rows", "_law_part", "_law_key"]) (sc := defScope s_law_book) (by decide +kernel)) (fun _ _ _ _ _ => pg_name (i := 14) sc_law_book.nd rfl (Or.inl rfl)) (fun _ _ _ _ _ => pts_nil) (fun _ _ _ _ _ => (pe_op (catAK (K := K) rfl) (pv 14) (pe_tup (pa_cons (pe_getFK (K := K) (P := P) (w := w) rfl rfl rfl hr.units (pv 5) (pv 14) (fun _ _ => rfl)) pa_nil)))))) pa_nil)))
  (pss_one (ps_ret (pe_tup (pa_cons (pv 4) (pa_cons (pv 2) (pa_cons (pv 12) (pa_cons (pe_callTy call_tuple_of (by rfl) T.z_tuple (by decide +kernel) (pa_cons (pe_lock (pe_lc (own := [("_law_key", 14)]) (g := gName 14) (tt := tYes) rfl sc_law_book.nd (NeD.pi_keysN (pv 9)) (blkOk_by (N := ["_law_bag_here", "_law_ops", "_law_kinds", "_law_most", "_law_arities", "_law_rules", "_law_op", "_law_turn", "_law_sources", "_law_moves", "_law_one", "_law_other", "_law_rows", "_law_part", "_law_key"]) (sc := defScope s_law_book) (by decide +kernel)) (fun _ _ _ _ _ => pg_name (i := 14) sc_law_book.nd rfl (Or.inl rfl)) (fun _ _ _ _ _ => pts_nil) (fun _ _ _ _ _ => (pe_op (catAK (K := K) rfl) (pv 14) (pe_tup (pa_cons (pe_getFK (K := K) (P := P) (w := w) rfl rfl rfl hr.units (pv 9) (pv 14) (fun _ _ => rfl)) pa_nil)))))) pa_nil)) pa_nil))))))))))))), ?_⟩
  -- arities
  refine ⟨(by decide : 1 ≤ sizeLine), fun c0 hc0 => ?_⟩
  have s0 := same_new (o := .tup [.int 0]) hc0
  have B0 := B.same s0
  have e0 : (upd H c0 (.tup [.int 0])) c0 = some (.tup [.int 0]) := upd_same
  generalize upd H c0 (.tup [.int 0]) = H0 at s0 B0 e0
  refine ⟨_, rfl, 1, ops, rfl, ⟨by decide, by decide, by omega, by omega⟩, fun D hD => ?_⟩
  obtain ⟨nD1, nD2⟩ := B0.ne hD
  refine lc_range (lo := 1) (n := ((ops : Int) - 1).toNat) (fun j H' => Fb b g H0 H' ∧ BagAt H' b g ∧ NL H' D 3 j) ⟨Fb.of (same_new hD), B0.keep nD1 nD2, [], upd_same, rfl, by simp⟩ (fun j H3 hj z => ?_) (fun H3 z => ?_)
  · obtain ⟨f3, B3, qs, eq, lq, hq⟩ := z
    have push : ∀ {H4 : Hp} {x : Nat}, Fb b g H3 H4 → BagAt H4 b g → x < 3 → H4 D = some (.lst (qs.map nv)) ∧ Fb b g H0 (upd H4 D (.lst (qs.map nv ++ [nv x]))) ∧ BagAt (upd H4 D (.lst (qs.map nv ++ [nv x]))) b g ∧ NL (upd H4 D (.lst (qs.map nv ++ [nv x]))) D 3 (j + 1) := fun {H4 x} f4 B4 hx => by
      refine ⟨f4 _ _ nD1 nD2 eq, fb_at (f3.trans f4) hD, B4.keep nD1 nD2, qs ++ [x], by rw [upd_same, List.map_append]; rfl, by rw [List.length_append, lq]; rfl, fun q h => ?_⟩
      rcases List.mem_append.mp h with h | h
      · exact hq q h
      · rw [List.mem_singleton.mp h]
        exact hx
    have hql : (qs.map nv).length < sizeLine := lt_line (by rw [List.length_map]; omega)
    refine ⟨rfl, ?_⟩
    refine ⟨_, rfl, b, g, 5, rfl, by decide, by decide, B3, fun r1 H4 hr1 B4 f4 => ⟨_, _, rfl, rfl, _, rfl, ite2 (fun _ => ?_) (fun _ => ?_)⟩⟩
    · refine ⟨_, rfl, b, g, 3, rfl, by decide, by decide, B4, fun r2 H5 hr2 B5 f5 => ⟨rfl, .inr ⟨_, rfl, _, _, rfl, rfl, ?_⟩⟩⟩
      dsimp only
      have ex : V.int (1 + if decide (nv r2 = V.int 2) = true then 1 else 0) = nv (1 + if r2 = 2 then 1 else 0) := by
        by_cases h : r2 = 2
        · subst h
          rfl
        · have h2 : ¬ nv r2 = V.int 2 := fun e => h (by have := V.int.inj (show V.int (r2 : Int) = V.int 2 from e); omega)
          rw [if_neg h, decide_eq_false h2]
          rfl
      rw [ex]
      obtain ⟨q1, q2, q3, q4⟩ := push (x := 1 + if r2 = 2 then 1 else 0) (f4.trans f5) B5 (by split <;> omega)
      exact ⟨_, q1, hql, q2, q3, q4⟩
    · obtain ⟨q1, q2, q3, q4⟩ := push (x := 0) f4 B4 (by omega)
      exact ⟨_, q1, hql, q2, q3, q4⟩
  obtain ⟨f3, B3, qs, eq, lq, hq⟩ := z
  refine ⟨D, _, rfl, .inl ⟨SqL.of eq, fun t0 ht0 => ?_⟩⟩
  have s4 := same_new (o := .tup (qs.map nv)) ht0
  have B4 := B3.same s4
  have f4 : Fb b g H0 _ := f3.trans (Fb.of s4)
  have T04 : TT K H0 (upd H3 t0 (.tup (qs.map nv))) := f4.tt B0
  refine cat_any (xs := [.int 0]) (ys := qs.map nv) (T04.t _ _ (.inl (.inl e0))) (.inl (.inl upd_same)) ?_ fun ta H5 s5 hta => ?_
  · rw [List.length_map]
    exact Nat.le_of_lt (lt_line (by show 1 + qs.length ≤ 100000; omega))
  have f5 : Fb b g H H5 := (Fb.of s0).trans (f4.trans (Fb.of s5))
  have B5 := B4.same s5
  have hA : IT K H5 ta (0 :: qs) := hta
  have hAl : (0 :: qs).length = ops := by rw [List.length_cons, lq]; omega
  have hA3 : ∀ x ∈ (0 :: qs), x ≤ 2 := fun x hx => by
    rcases List.mem_cons.mp hx with h | h
    · omega
    · have := hq x h
      omega
  have hA0 : (0 :: qs).getD 0 0 = 0 := rfl
  generalize 0 :: qs = ar at hA hAl hA3 hA0
  -- rules
  refine fun d hd => ?_
  obtain ⟨nd1, nd2⟩ := B5.ne hd
  have DB0 : DB K P w nkR (fun r => nv r.cost) H5 (upd H5 d (NeD.dno P w d [])) b g d ([] : List Rl) := ⟨Fb.of (same_new hd), B5.new hd, NeD.nd_new⟩
  refine ⟨_, rfl, _, rfl, by omega, by omega, for_range (lo := 0) (n := ((ops : Nat) : Int).toNat) (fun i σ H' => ∃ v6 v7 v8 rs, σ = [some (.ref b), some (nv ops), some (nv nk), some (nv most), some (.ref ta), some (.ref d), v6, v7, v8, none, none, none, none, none, none] ∧ DB K P w nkR (fun r => nv r.cost) H5 H' b g d rs ∧ rs.length ≤ 3 * i ∧ (∀ m ∈ rs, RlOk ar nk m) ∧ (rs.map nkR).Nodup) ⟨none, none, none, [], rfl, DB0, Nat.le_refl _, (fun _ h => nomatch h), List.nodup_nil⟩ ?_ ?_⟩
  · rintro op σ H6 hop ⟨v6, v7, v8, rs, rfl, D6, l6, ok6, n6⟩
    rw [nv0]
    have hop' : op < ar.length := by omega
    have hix : atI (ar.map nv) (op : Int) = some (nv (ar.getD op 0)) := atI_nat (by rw [List.getElem?_map, List.getElem?_eq_getElem hop', gd hop']; rfl)
    have hn2 : ar.getD op 0 ≤ 2 := by
      rw [gd hop']
      exact hA3 _ (List.getElem_mem hop')
    refine ⟨_, rfl, b, g, 3, rfl, by decide, by decide, D6.bg, fun r1 H7 hr1 B7 f7 => ⟨_, _, rfl, rfl, ?_⟩⟩
    have D7 := D6.draw nd1 nd2 f7 B7
    refine ⟨_, rfl, by omega, by omega, for_range (lo := 0) (n := ((1 : Int) + (r1 : Int)).toNat) (fun j σ H' => ∃ v7 v8 rs, σ = [some (.ref b), some (nv ops), some (nv nk), some (nv most), some (.ref ta), some (.ref d), some (nv op), v7, v8, none, none, none, none, none, none] ∧ DB K P w nkR (fun r => nv r.cost) H5 H' b g d rs ∧ rs.length ≤ 3 * op + j ∧ (∀ m ∈ rs, RlOk ar nk m) ∧ (rs.map nkR).Nodup) ⟨v7, v8, rs, rfl, D7, by omega, ok6, n6⟩ ?_ ?_⟩
    · rintro j σ H8 hj ⟨v7, v8, rs, rfl, D8, l8, ok8, n8⟩
      rw [nv0]
      -- sources
      refine ⟨_, rfl, _, rfl, ta, _, _, _, rfl, rfl, (D8.fb.tt B5).t _ _ hA, hix, _, rfl, by omega, by omega, fun D hD => ?_⟩
      obtain ⟨nD1, nD2⟩ := D8.bg.ne hD
      refine lc_range (lo := 0) (n := ((ar.getD op 0 : Nat) : Int).toNat) (fun j H' => Fb b g H8 H' ∧ BagAt H' b g ∧ NL H' D nk j) ⟨Fb.of (same_new hD), D8.bg.keep nD1 nD2, [], upd_same, rfl, by simp⟩ (fun i H9 hi z => ?_) (fun H9 z => ?_)
      · obtain ⟨f9, B9, qs, eq, lq, hq⟩ := z
        refine ⟨rfl, ?_⟩
        refine ⟨_, rfl, _, rfl, b, g, nk, rfl, by omega, by omega, B9, fun r2 H10 hr2 B10 f10 => ?_⟩
        refine ⟨_, f10 _ _ nD1 nD2 eq, lt_line (by rw [List.length_map]; omega), fb_at (f9.trans f10) hD, B10.keep nD1 nD2, qs ++ [r2], by rw [upd_same, List.map_append]; rfl, by rw [List.length_append, lq]; rfl, fun q h => ?_⟩
        rcases List.mem_append.mp h with h | h
        · exact hq q h
        · rw [List.mem_singleton.mp h]
          exact hr2
      obtain ⟨f9, B9, ss, eq, lq, hq⟩ := z
      have D9 := D8.draw nd1 nd2 f9 B9
      refine ⟨D, _, rfl, .inl ⟨SqL.of eq, fun sq hsq => ?_⟩⟩
      have D10 := D9.same (same_new (o := .tup (ss.map nv)) hsq)
      have hsq4 : IT K (upd H9 sq (.tup (ss.map nv))) sq ss := .inl (.inl upd_same)
      generalize upd H9 sq (.tup (ss.map nv)) = H10 at D10 hsq4
      -- the price, the key
      refine ⟨_, rfl, _, rfl, b, g, most, rfl, by omega, by omega, D10.bg, fun r3 H11 hr3 B11 f11 => ⟨_, _, rfl, rfl, ?_⟩⟩
      have D11 := D10.draw nd1 nd2 f11 B11
      have hsq5 : IT K H11 sq ss := (f11.tt D10.bg).t _ _ hsq4
      dsimp only
      rw [show V.int ((1 : Int) + (r3 : Int)) = nv (1 + r3) from nv1 1 r3]
      refine ⟨_, rfl, _, rfl, _, rfl, _, rfl, _, rfl, b, g, nk, rfl, by omega, by omega, D11.bg, fun kd H12 hkd B12 f12 => ⟨(by decide : 3 ≤ sizeLine), fun c hc => ?_⟩⟩
      have D12 := D11.draw nd1 nd2 f12 B12
      have hsq6 : IT K H12 sq ss := (f12.tt D11.bg).t _ _ hsq5
      have D13 := D12.same (same_new (o := .tup [nv op, .ref sq, nv kd]) hc)
      have hsq7 := (tt_new (K := K) (o := .tup [nv op, .ref sq, nv kd]) hc).t _ _ hsq6
      refine ⟨c, d, _, nkR ⟨op, ss, kd, 1 + r3⟩, rfl, rfl, D13.nd, rule_key (r := ⟨op, ss, kd, 1 + r3⟩) (.inl (.inl upd_same)) hsq7, nkR_depth _, ?_, fun o ho => ?_⟩
      · rw [List.length_map]
        exact lt_line (by omega)
      have D14 := D13.put (r := ⟨op, ss, kd, 1 + r3⟩) nd1 nd2 hd ho
      have hl := set_len (f := nkR) rs ⟨op, ss, kd, 1 + r3⟩
      refine ⟨_, _, _, rfl, D14, by omega, fun m hm => ?_, set_nd n8⟩
      rcases set_mem hm with h | h
      · exact ok8 m h
      · rw [h]
        exact ⟨hop', by rw [lq]; exact Int.toNat_natCast _, hq, hkd, by show 1 ≤ 1 + r3; omega, by show 1 + r3 ≤ 1000; omega⟩
    · rintro σ H8 ⟨v7, v8, rs, rfl, D8, l8, ok8, n8⟩
      exact ⟨_, _, _, rs, rfl, D8, by omega, ok8, n8⟩
  rintro σ H6 ⟨v6, v7, v8, rs, rfl, D6, l6, ok6, n6⟩
  have lrs : rs.length ≤ 40 := by omega
  have B6 := D6.bg
  -- moves
  refine fun d2 hd2 => ?_
  obtain ⟨ne1, ne2⟩ := B6.ne hd2
  have DB1 : DB K P w nkM (fun r => nv r.cost) H6 (upd H6 d2 (NeD.dno P w d2 [])) b g d2 ([] : List Mv) := ⟨Fb.of (same_new hd2), B6.new hd2, NeD.nd_new⟩
  refine ⟨fun v H' => ∃ m : Nat, v = nv m ∧ m ≤ 20 ∧ DB K P w nkM (fun r => nv r.cost) H6 H' b g d2 ([] : List Mv), ?_, ?_⟩
  · refine ⟨_, rfl, b, g, 3, rfl, by decide, by decide, DB1.bg, fun r1 H7 hr1 B7 f7 => ⟨_, _, rfl, rfl, _, rfl, ite2 (fun _ => ?_) (fun _ => ?_)⟩⟩
    · have D7 := DB1.draw ne1 ne2 f7 B7
      exact ⟨_, rfl, b, g, 3, rfl, by decide, by decide, B7, fun r2 H8 hr2 B8 f8 => ⟨r2, rfl, by omega, D7.draw ne1 ne2 f8 B8⟩⟩
    · have D7 := DB1.draw ne1 ne2 f7 B7
      refine ⟨_, rfl, _, rfl, _, _, rfl, rfl, .inl ⟨by decide, by decide⟩, b, g, 2 * nk, ?_, by omega, by omega, B7, fun r2 H8 hr2 B8 f8 => ⟨_, _, rfl, rfl, 3 + r2, nv1 3 r2, by omega, D7.draw ne1 ne2 f8 B8⟩⟩
      show [V.ref b, V.int (2 * (nk : Int))] = [V.ref b, V.int ((2 * nk : Nat) : Int)]
      rw [Int.natCast_mul]
      rfl
  rintro _ H7 ⟨wanted, rfl, hwa, D7⟩
  refine ⟨_, rfl, by omega, by omega, for_range (lo := 0) (n := ((wanted : Nat) : Int).toNat) (fun i σ H' => ∃ v7 v10 v11 ms, σ = [some (.ref b), some (nv ops), some (nv nk), some (nv most), some (.ref ta), some (.ref d), v6, v7, v8, some (.ref d2), v10, v11, none, none, none] ∧ DB K P w nkM (fun r => nv r.cost) H6 H' b g d2 ms ∧ ms.length ≤ i ∧ (∀ m ∈ ms, MvOk nk m) ∧ (ms.map nkM).Nodup) ⟨v7, none, none, [], rfl, D7, Nat.le_refl _, (fun _ h => nomatch h), List.nodup_nil⟩ ?_ ?_⟩
  · rintro i σ H8 hi ⟨v7, v10, v11, ms, rfl, D8, l8, ok8, n8⟩
    rw [nv0]
    refine ⟨_, rfl, _, rfl, b, g, nk, rfl, by omega, by omega, D8.bg, fun sr H9 hsr B9 f9 => ⟨_, rfl, _, rfl, b, g, nk, rfl, by omega, by omega, B9, fun kd H10 hkd B10 f10 => ⟨_, _, rfl, ?_⟩⟩⟩
    have D10 := (D8.draw ne1 ne2 f9 B9).draw ne1 ne2 f10 B10
    refine ⟨_, rfl, _, rfl, rfl, _, rfl, ite2 (fun c1 => ?_) (fun c1 => ?_)⟩
    · have hne : sr ≠ kd := fun e => by
        subst e
        rw [decide_eq_true rfl] at c1
        cases c1
      refine ⟨_, rfl, _, rfl, b, g, most, rfl, by omega, by omega, D10.bg, fun r3 H11 hr3 B11 f11 => ⟨_, _, rfl, rfl, ?_⟩⟩
      have D11 := D10.draw ne1 ne2 f11 B11
      dsimp only
      rw [show V.int ((1 : Int) + (r3 : Int)) = nv (1 + r3) from nv1 1 r3]
      refine ⟨_, rfl, _, rfl, _, rfl, (by decide : 2 ≤ sizeLine), fun c hc => ?_⟩
      have D13 := D11.same (same_new (o := .tup [nv sr, nv kd]) hc)
      refine ⟨c, d2, _, nkM ⟨sr, kd, 1 + r3⟩, rfl, rfl, D13.nd, move_key (m := ⟨sr, kd, 1 + r3⟩) (.inl (.inl upd_same)), nkM_depth _, ?_, fun o ho => ?_⟩
      · rw [List.length_map]
        exact lt_line (by omega)
      have D14 := D13.put (r := ⟨sr, kd, 1 + r3⟩) ne1 ne2 hd2 ho
      have hl := set_len (f := nkM) ms ⟨sr, kd, 1 + r3⟩
      refine ⟨_, _, _, _, rfl, D14, by omega, fun m hm => ?_, set_nd n8⟩
      rcases set_mem hm with h | h
      · exact ok8 m h
      · rw [h]
        exact ⟨hsr, hkd, hne, by show 1 ≤ 1 + r3; omega, by show 1 + r3 ≤ 1000; omega⟩
    · exact ⟨_, _, _, ms, rfl, D10, by omega, ok8, n8⟩
  rintro σ H8 ⟨v7, v10, v11, ms, rfl, D8, l8, ok8, n8⟩
  have lms : ms.length ≤ 20 := by omega
  have f58 : Fb b g H5 H8 := D6.fb.trans D8.fb
  have N8 : NeD.ND K P w H8 d (rs.map fun r => (nkR r, nv r.cost)) := nd_move D6.nd (D8.fb.tt B6) fun _ e => D8.fb _ _ nd1 nd2 e
  -- rows
  obtain ⟨xs, e1, ek, hkx, hnx, hzx⟩ := N8
  have lx := ent_len ek
  refine ⟨d, _, e1, trivial, fun od => ?_⟩
  have TL : TT K H8 (upd H8 d (.frz od (NeD.dno P w d xs))) := lock_tt e1
  have eL : (upd H8 d (.frz od (NeD.dno P w d xs))) d = some (.frz od (NeD.dno P w d xs)) := upd_same
  have unl : ∀ {H'}, Same (upd H8 d (.frz od (NeD.dno P w d xs))) H' → Same H8 (upd H' d (NeD.dno P w d xs)) := fun s => unlock_same e1 s
  generalize upd H8 d (.frz od (NeD.dno P w d xs)) = HL at TL eL unl
  refine ⟨_, rfl, d, od, xs, rfl, eL, fun D hD => ?_⟩
  refine lc_it NeD.walk_keysN (fun i H' => Same HL H' ∧ ∃ us, H' D = some (.lst us) ∧ PL (RuleV K H') us (rs.take i)) ⟨same_new hD, [], upd_same, PL.nil⟩ (fun i H' _ z => z.1 _ _ eL) (fun i v H10 H9 hi z hy' => ?_) (fun H9 z => ?_)
  · obtain ⟨s9, us, eD, hus⟩ := z
    obtain ⟨e10, e, he, rfl⟩ := hy'
    subst e10
    obtain ⟨r, hr', er1, er2⟩ := ent_at ek he
    have t9 : TT K H8 H9 := TL.trans (Same_tt s9)
    have hk9 : NeD.NK K H9 (.ref e.2.1) (nkR r) := er1 ▸ (hkx e (List.mem_of_getElem? he)).1.mono fun _ _ q => t9.t _ _ q
    obtain ⟨sq, hsq1, hsq2⟩ := rule_of_key hk9
    refine ⟨rfl, ?_⟩
    refine ⟨_, rfl, _, rfl, _, rfl, e.2.1, d, od, xs, nkR r, nv r.cost, rfl, rfl, ⟨s9 _ _ eL, fun x hx => ⟨(hkx x hx).1.mono fun _ _ q => t9.t _ _ q, (hkx x hx).2⟩, hnx, hzx⟩, hk9, nkR_depth _, ?_, (by decide : 1 ≤ sizeLine), fun c1 hc1 => ?_⟩
    · rw [← er1, ← er2]
      exact valV_at (i := i) (by rw [List.map_map]; exact hnx) (by rw [List.getElem?_map, he]; rfl)
    · have s10 := same_new (o := .tup [nv r.cost]) hc1
      refine cat_any (xs := [nv r.op, .ref sq, nv r.kind]) (ys := [nv r.cost]) ((Same_tt s10).t _ _ hsq1) (.inl (.inl upd_same)) (by show 4 ≤ sizeLine; decide) fun p1 H11 s11 hp1 => ?_
      have s12 := s10.trans s11
      have eD11 := s12 _ _ eD
      have hlu : us.length ≤ 40 := by rw [hus.1, List.length_take]; omega
      refine ⟨us, eD11, lt_line (by omega), same_at (s9.trans s12) hD, _, upd_same, ?_⟩
      rw [List.take_add_one, hr']
      exact (hus.mono fun _ _ z => z.tt ((Same_tt s12).trans (tt_lst eD11))).snoc ⟨p1, sq, rfl, (tt_lst eD11).t _ _ hp1, (tt_lst eD11).t _ _ ((Same_tt s12).t _ _ hsq2)⟩
  obtain ⟨s9, us, eD, hus⟩ := z
  rw [lx, List.take_length] at hus
  refine ⟨s9 _ _ eL, ?_⟩
  have S9 := unl s9
  have T9 : TT K H9 (upd H9 d (NeD.dno P w d xs)) := unlock_tt (s9 _ _ eL)
  have nDd : D ≠ d := fun e => by
    rw [e, s9 _ _ eL] at eD
    cases eD
  have eD' : (upd H9 d (NeD.dno P w d xs)) D = some (.lst us) := by rw [upd_ne nDd]; exact eD
  have hus' := hus.mono fun _ _ z => z.tt T9
  generalize upd H9 d (NeD.dno P w d xs) = H10 at S9 eD' hus'
  refine ⟨D, us, rfl, .inl ⟨SqL.of eD', fun pr hpr => ?_⟩⟩
  have s11 := same_new (o := .tup us) hpr
  have S11 := S9.trans s11
  have hR : RulesT K (upd H10 pr (.tup us)) pr rs := ⟨us, .inl (.inl upd_same), hus'.mono fun _ _ z => z.tt (Same_tt s11)⟩
  generalize upd H10 pr (.tup us) = H11 at S11 hR
  -- the rest
  refine ⟨_, rfl, _, rfl, _, rfl, ?_⟩
  have N11 : NeD.ND K P w H11 d2 (ms.map fun r => (nkM r, nv r.cost)) := D8.nd.same S11
  obtain ⟨ys, e2, ek2, hky, hny, hzy⟩ := N11
  have ly := ent_len ek2
  refine ⟨d2, _, e2, trivial, fun od2 => ?_⟩
  have TL2 : TT K H11 (upd H11 d2 (.frz od2 (NeD.dno P w d2 ys))) := lock_tt e2
  have eL2 : (upd H11 d2 (.frz od2 (NeD.dno P w d2 ys))) d2 = some (.frz od2 (NeD.dno P w d2 ys)) := upd_same
  have unl2 : ∀ {H'}, Same (upd H11 d2 (.frz od2 (NeD.dno P w d2 ys))) H' → Same H11 (upd H' d2 (NeD.dno P w d2 ys)) := fun s => unlock_same e2 s
  generalize upd H11 d2 (.frz od2 (NeD.dno P w d2 ys)) = HM at TL2 eL2 unl2
  refine ⟨_, rfl, d2, od2, ys, rfl, eL2, fun D2 hD2 => ?_⟩
  refine lc_it NeD.walk_keysN (fun i H' => Same HM H' ∧ ∃ us, H' D2 = some (.lst us) ∧ PL (MoveV K H') us (ms.take i)) ⟨same_new hD2, [], upd_same, PL.nil⟩ (fun i H' _ z => z.1 _ _ eL2) (fun i v H13 H12 hi z hy' => ?_) (fun H12 z => ?_)
  · obtain ⟨s9, us, eD, hus⟩ := z
    obtain ⟨e10, e, he, rfl⟩ := hy'
    subst e10
    obtain ⟨r, hr', er1, er2⟩ := ent_at ek2 he
    have t9 : TT K H11 H12 := TL2.trans (Same_tt s9)
    have hk9 : NeD.NK K H12 (.ref e.2.1) (nkM r) := er1 ▸ (hky e (List.mem_of_getElem? he)).1.mono fun _ _ q => t9.t _ _ q
    have hsq1 := move_of_key hk9
    refine ⟨rfl, ?_⟩
    refine ⟨_, rfl, _, rfl, _, rfl, e.2.1, d2, od2, ys, nkM r, nv r.cost, rfl, rfl, ⟨s9 _ _ eL2, fun x hx => ⟨(hky x hx).1.mono fun _ _ q => t9.t _ _ q, (hky x hx).2⟩, hny, hzy⟩, hk9, nkM_depth _, ?_, (by decide : 1 ≤ sizeLine), fun c1 hc1 => ?_⟩
    · rw [← er1, ← er2]
      exact valV_at (i := i) (by rw [List.map_map]; exact hny) (by rw [List.getElem?_map, he]; rfl)
    · have s10 := same_new (o := .tup [nv r.cost]) hc1
      refine cat_any (xs := [nv r.src, nv r.kind]) (ys := [nv r.cost]) ((Same_tt s10).t _ _ hsq1) (.inl (.inl upd_same)) (by show 3 ≤ sizeLine; decide) fun p1 H14 s11 hp1 => ?_
      have s12 := s10.trans s11
      have eD11 := s12 _ _ eD
      have hlu : us.length ≤ 40 := by rw [hus.1, List.length_take]; omega
      refine ⟨us, eD11, lt_line (by omega), same_at (s9.trans s12) hD2, _, upd_same, ?_⟩
      rw [List.take_add_one, hr']
      exact (hus.mono fun _ _ z => z.tt ((Same_tt s12).trans (tt_lst eD11))).snoc ⟨p1, rfl, (tt_lst eD11).t _ _ hp1⟩
  obtain ⟨s12, us2, eD2, hus2⟩ := z
  rw [ly, List.take_length] at hus2
  refine ⟨s12 _ _ eL2, ?_⟩
  have S12 := unl2 s12
  have T12 : TT K H12 (upd H12 d2 (NeD.dno P w d2 ys)) := unlock_tt (s12 _ _ eL2)
  have nDd2 : D2 ≠ d2 := fun e => by
    rw [e, s12 _ _ eL2] at eD2
    cases eD2
  have eD2' : (upd H12 d2 (NeD.dno P w d2 ys)) D2 = some (.lst us2) := by rw [upd_ne nDd2]; exact eD2
  have hus2' := hus2.mono fun _ _ z => z.tt T12
  generalize upd H12 d2 (NeD.dno P w d2 ys) = H13 at S12 eD2' hus2'
  refine ⟨D2, us2, rfl, .inl ⟨SqL.of eD2', fun pm hpm => ⟨(by decide : 4 ≤ sizeLine), fun q hq => ?_⟩⟩⟩
  have s14 := same_new (o := .tup us2) hpm
  have s15 := same_new (o := .tup [.ref ta, nv nk, .ref pr, .ref pm]) hq
  have S15 : Same H8 _ := ((S11.trans S12).trans s14).trans s15
  refine k q ⟨ar, nk, rs, ms⟩ _ ((f5.trans f58).trans (Fb.of S15)) (D8.bg.same S15) ⟨ta, pr, pm, .inl (.inl upd_same), ?_, hR.tt (Same_tt ((S12.trans s14).trans s15)), ⟨us2, (Same_tt s15).t _ _ (.inl (.inl upd_same)), hus2'.mono fun _ _ z => z.tt (Same_tt (s14.trans s15))⟩⟩ ⟨by show 1 ≤ ar.length; omega, by show ar.length ≤ 8; omega, hA3, hk1, hk2, lrs, lms, ok6, ok8, rkey_nd n6, mkey_nd n8⟩ rfl hAl hA0
  exact (Same_tt S15).t _ _ ((f58.tt B5).t _ _ hA)
end
end Lk
namespace Lk
open PySem L2
section
variable {K : PySem.W.Frag}
/-- what a way needs, part by part -/
def needsL (B : Bk) (R : List Row) (t : Th) : Wy → List Th
  | (false, k) => [(t.1, (mAt B.ms k).src)]
  | (true, k) => List.zip (parts R t.1) (rAt B.rs k).src
theorem mem_needsL {B : Bk} {R : List Row} {t u : Th} {w : Wy} : u ∈ needsL B R t w ↔ u ∈ needsM B R t w := by
  obtain ⟨b, k⟩ := w
  cases b with
  | false => exact Iff.rfl
  | true =>
    show u ∈ List.zip (parts R t.1) (rAt B.rs k).src ↔ u ∈ lotT (List.zip (parts R t.1) (rAt B.rs k).src)
    rw [mem_lotT]
theorem needsL_len {B : Bk} {R : List Row} (g : Good R) {t : Th} {w : Wy} : (needsL B R t w).length ≤ 2 := by
  obtain ⟨b, k⟩ := w
  cases b with
  | false => exact Nat.le_succ 1
  | true =>
    show (List.zip (parts R t.1) (rAt B.rs k).src).length ≤ 2
    rw [List.length_zip]
    have := parts_len g t.1
    omega
/-- a list of things -/
def LT (K : PySem.W.Frag) (H : Hp) (l : Addr) (U : List Th) : Prop := ∃ us, H l = some (.lst us) ∧ PL (ThV H) us U
theorem LT.same {H H' : Hp} {l : Addr} {U : List Th} (s : Same H H') (h : LT K H l U) : LT K H' l U := by
  obtain ⟨us, e, q⟩ := h
  exact ⟨us, s _ _ e, q.mono fun _ _ z => z.tt (K := K) (Same_tt s)⟩
theorem lt_dp {H : Hp} {l : Addr} {U : List Th} (h : LT K H l U) : Dp K H (.ref l) (.list (U.map dTh)) := by
  obtain ⟨vs, h1, h2⟩ := h
  exact .lst (SqL.of h1) (pl_dp h2 fun _ _ q => th_dp q)
end
section
variable {P : Program} {w : World} {K : PySem.W.Frag} {mg : Str → Option Value} {base : Heap} {a : Adr}
def spLValues (K : PySem.W.Frag) : Sp := fun vs H Q _ => ∃ (b g ta : Addr) (ar : List Nat) (many : Nat), vs = [.ref b, .ref ta, nv many] ∧ IT K H ta ar ∧ 1 ≤ ar.length ∧ ar.length ≤ 8 ∧ (∀ x ∈ ar, x ≤ 2) ∧ ar.getD 0 0 = 0 ∧ 1 ≤ many ∧ many ≤ 200 ∧ BagAt H b g ∧ ∀ q R H', Fb b g H H' → BagAt H' b g → RowsT K H' q R → Good R → FitsA ar R → R.length = many → Q (.ref q) H'
theorem ok_law_values (T : Txt K mg a) : FnOk P w K mg base CX0 2 a.f_law_values a.d_law_values ["_law_bag_here", "_law_arities", "_law_many"] (spLValues K) := by
  have G_law_pick := ok_law_pick (P := P) (w := w) (base := base) T
  refine T.F_law_values.ok sc_law_values (fun vs H Q E h => ?_) (fun cdv A outer s H vs Q E hr h => ?_)
  · obtain ⟨b, g, ta, ar, many, rfl, _⟩ := h
    rfl
  obtain ⟨b, g, ta, ar, many, rfl, ha, ha1, ha2, ha3, ha0, hm1, hm2, B, k⟩ := h
  refine ⟨_, (pss_cons (ps_set (i := 3) sc_law_values.nd rfl (Or.inl rfl) (pe_lst (pa_cons (pe_tup (pa_cons pe_int (pa_cons (pe_tup pa_nil) pa_nil))) pa_nil)))
  (pss_cons (ps_for PassesOwn.never rfl (pi_range2 rfl T.z_range (pa_cons pe_int (pa_cons (pv 2) pa_nil))) (pg_name (i := 4) sc_law_values.nd rfl (Or.inr rfl))
    (pss_cons (ps_set (i := 5) sc_law_values.nd rfl (Or.inl rfl) (pe_call G_law_pick (hr.mono (by decide)) rfl T.g_law_pick T.k_law_pick T.b_law_pick .nil pass0 (pa_cons (pv 0) (pa_cons (pe_callB call_len_seq (by rfl) T.z_len PySem.boot_len (pa_cons (pv 1) pa_nil)) pa_nil))))
  (pss_one (ps_expr (pe_bm PySem.F.plainAttrs_list PySem.F.slot_list_append PySem.F.type_list_append mt_append (pv 3) (pa_cons (pe_tup (pa_cons (pv 5) (pa_cons (pe_callTy call_tuple_of (by rfl) T.z_tuple (by decide +kernel) (pa_cons (pe_lc (own := [("_law_part", 6)]) (g := gName 6) (tt := tYes) rfl sc_law_values.nd (pi_range1 rfl T.z_range (pa_cons (pe_ix (ixT (K := K) rfl) (pv 1) (pv 5) (fun _ _ => rfl)) pa_nil)) (blkOk_by (N := ["_law_bag_here", "_law_arities", "_law_many", "_law_found", "_law_number", "_law_op", "_law_part"]) (sc := defScope s_law_values) (by decide +kernel)) (fun _ _ _ _ _ => pg_name (i := 6) sc_law_values.nd rfl (Or.inl rfl)) (fun _ _ _ _ _ => pts_nil) (fun _ _ _ _ _ => (pe_op op_sub (pe_op op_sub (pv 4) pe_int) (pe_call G_law_pick (hr.mono (by decide)) rfl T.g_law_pick T.k_law_pick T.b_law_pick .nil pass0 (pa_cons (pv 0) (pa_cons (pe_callB (call_min2 rfl) (by rfl) T.z_min (by decide +kernel) (pa_cons (pv 4) (pa_cons pe_int pa_nil))) pa_nil)))))) pa_nil)) pa_nil))) pa_nil))))))
  (pss_one (ps_ret (pe_callTy call_tuple_of (by rfl) T.z_tuple (by decide +kernel) (pa_cons (pv 3) pa_nil)))))), ?_⟩
  have haF : ∀ {H'}, Fb b g H H' → SqT K H' ta (ar.map nv) := fun f => (f.tt B).t _ _ ha
  refine ⟨(by decide : 0 ≤ sizeLine), fun c1 hc1 => ⟨(by decide : 2 ≤ sizeLine), fun c2 hc2 => ⟨(by decide : 1 ≤ sizeLine), fun l hl => ?_⟩⟩⟩
  have s1 := same_new (o := .tup []) hc1
  have s2 := same_new (o := .tup [.int 0, .ref c1]) hc2
  have e12 := s2 _ _ (upd_same (H := H) (a := c1) (o := .tup []))
  have s3 := same_new (o := .lst [.ref c2]) hl
  have hl0 : H l = none := none_of (s1.trans s2) hl
  obtain ⟨nl1, nl2⟩ := B.ne hl0
  have S3 := (s1.trans s2).trans s3
  have rl0 : RL K (upd (upd (upd H c1 (.tup [])) c2 (.tup [.int 0, .ref c1])) l (.lst [.ref c2])) l [(0, [])] := by
    refine ⟨[.ref c2], upd_same, rfl, fun i v h => ?_⟩
    have hi : i = 0 := by
      have := (List.getElem?_eq_some_iff.mp h).1
      simp only [List.length_singleton] at this
      omega
    subst hi
    cases h
    exact ⟨c2, c1, rfl, .inl (.inl (s3 _ _ upd_same)), .inl (.inl (s3 _ _ e12))⟩
  have g0 : Good [((0, []) : Row)] := good_nil.push (R := []) (r := (0, [])) (by decide) (by decide) (fun _ h => nomatch h)
  have fA0 : FitsA ar [((0, []) : Row)] := FitsA.push (R := []) (r := (0, [])) (fun n h => absurd h (Nat.not_lt_zero n)) (by show 0 < ar.length; omega) ha0
  refine ⟨_, rfl, 1, many, rfl, ⟨by decide, by decide, by omega, by omega⟩, for_range (lo := 1) (n := ((many : Int) - 1).toNat) (fun i σ H' => ∃ v4 v5 R, σ = [some (.ref b), some (.ref ta), some (nv many), some (.ref l), v4, v5, none] ∧ Fb b g H H' ∧ BagAt H' b g ∧ RL K H' l R ∧ Good R ∧ FitsA ar R ∧ R.length = i + 1) ⟨none, none, [(0, [])], rfl, Fb.of S3, B.same S3, rl0, g0, fA0, rfl⟩ ?_ ?_⟩
  · rintro i σ H1 hi ⟨v4, v5, R, rfl, f1, B1, rl1, gR, fR, lR⟩
    rw [show V.int (1 + (i : Nat)) = nv (1 + i) from nv1 1 i]
    obtain ⟨us, eu, nu, ru⟩ := id rl1
    refine ⟨_, rfl, _, rfl, ta, _, rfl, .inr (haF f1), b, g, ar.length, by rw [List.length_map]; rfl, by omega, by omega, B1, fun o H3 ho B3 f3 => ?_⟩
    have f4 := f1.trans f3
    have hix : atI (ar.map nv) (o : Int) = some (nv (ar.getD o 0)) := atI_nat (by rw [List.getElem?_map, List.getElem?_eq_getElem ho, gd ho]; rfl)
    have hn2 : ar.getD o 0 ≤ 2 := by
      rw [gd ho]
      exact ha3 _ (List.getElem_mem ho)
    have eu3 := f3 _ _ nl1 nl2 eu
    refine ⟨_, rfl, .inl ⟨rfl, _, SqL.of eu3⟩, ?_⟩
    refine ⟨_, rfl, _, rfl, _, rfl, ta, _, _, _, rfl, rfl, haF f4, hix, _, rfl, by omega, by omega, fun D2 hD2 => ?_⟩
    obtain ⟨nE1, nE2⟩ := B3.ne hD2
    refine lc_range (lo := 0) (n := ((ar.getD o 0 : Nat) : Int).toNat) (fun j H' => Fb b g H3 H' ∧ BagAt H' b g ∧ NL H' D2 R.length j) ⟨Fb.of (same_new hD2), B3.keep nE1 nE2, [], upd_same, rfl, by simp⟩ (fun j H5 hj z => ?_) (fun H5 z => ?_)
    · obtain ⟨f5, B5, qs, eq, lq, hq⟩ := z
      refine ⟨rfl, ?_⟩
      have em : (if (3 : Int) < ((1 + i : Nat) : Int) then (3 : Int) else ((1 + i : Nat) : Int)) = ((min (1 + i) 3 : Nat) : Int) := by
        split <;> omega
      refine ⟨_, rfl, _, _, rfl, rfl, _, rfl, _, rfl, _, _, rfl, ?_⟩
      rw [em]
      refine ⟨b, g, min (1 + i) 3, rfl, by omega, by omega, B5, fun x H6 hx B6 f6 => ⟨_, _, rfl, rfl, ?_⟩⟩
      dsimp only
      have ev : V.int (((1 + i : Nat) : Int) - 1 - (x : Int)) = nv (i - x) := by
        have : ((1 + i : Nat) : Int) - 1 - (x : Int) = ((i - x : Nat) : Int) := by omega
        rw [this]
        rfl
      rw [ev]
      refine ⟨_, f6 _ _ nE1 nE2 eq, lt_line (by rw [List.length_map]; omega), fb_at (f5.trans f6) hD2, B6.keep nE1 nE2, qs ++ [i - x], ?_, ?_, ?_⟩
      · rw [upd_same, List.map_append]
        rfl
      · rw [List.length_append, lq]
        rfl
      · intro q hq'
        rcases List.mem_append.mp hq' with h | h
        · exact hq q h
        · rw [List.mem_singleton.mp h]
          omega
    · obtain ⟨f5, B5, qs, eq, lq, hq⟩ := z
      refine ⟨D2, _, rfl, .inl ⟨SqL.of eq, fun t ht => ⟨(by decide : 2 ≤ sizeLine), fun c hc => ?_⟩⟩⟩
      have sA : Same H5 (upd (upd H5 t (.tup (qs.map nv))) c (.tup [nv o, .ref t])) := (same_new ht).trans (same_new hc)
      have f7 : Fb b g H1 (upd (upd H5 t (.tup (qs.map nv))) c (.tup [nv o, .ref t])) := (f3.trans f5).trans (Fb.of sA)
      have B7 : BagAt (upd (upd H5 t (.tup (qs.map nv))) c (.tup [nv o, .ref t])) b g := B5.same sA
      have eu7 := f7 _ _ nl1 nl2 eu
      have nct : t ≠ c := ne_of_none upd_same hc
      refine ⟨l, us, _, rfl, rfl, eu7, lt_line (by omega), ?_⟩
      have lq' : qs.length = ar.getD o 0 := by rw [lq]; exact Int.toNat_natCast _
      refine ⟨_, _, R ++ [(o, qs)], rfl, fb_at (f1.trans f7) hl0, B7.keep nl1 nl2, RL.push eu7 nu (fun j u hj => (ru j u hj).tk (f7.tk B1)) ⟨c, t, rfl, .inl (.inl upd_same), .inl (.inl ?_)⟩, gR.push (by show o ≤ 7; omega) (by show qs.length ≤ 2; omega) hq, fR.push ho lq'.symm, by rw [List.length_append, List.length_singleton]; omega⟩
      rw [upd_ne nct, upd_same]
  · rintro σ H2 ⟨v4, v5, R, rfl, f2, B2, ⟨us, eu, nu, ru⟩, gR, fR, lR⟩
    refine ⟨_, rfl, l, us, rfl, .inl ⟨SqL.of eu, fun t ht => ?_⟩⟩
    have sA : Same H2 (upd H2 t (.tup us)) := same_new ht
    exact k t R _ (fb_new f2 ht) (B2.same sA) ⟨us, .inl (.inl upd_same), nu, fun j u hj => (ru j u hj).tk (Tk.of sA)⟩ gR fR (by omega)
/-- the price of a way -/
def priceW (B : Bk) : Wy → Nat
  | (false, k) => (mAt B.ms k).cost
  | (true, k) => (rAt B.rs k).cost
def spLPrice (K : PySem.W.Frag) : Sp := fun vs H Q _ => ∃ (p e : Addr) (B : Bk) (u : Wy), vs = [.ref p, .ref e] ∧ PartsV K H p B ∧ SqT K H e [.str (wd u.1), nv u.2] ∧ (u.1 = false → u.2 < B.ms.length) ∧ (u.1 = true → u.2 < B.rs.length) ∧ Q (nv (priceW B u)) H
theorem ok_law_price (T : Txt K mg a) : FnOk P w K mg base CX0 1 a.f_law_price a.d_law_price ["_law_parts", "_law_way"] (spLPrice K) := by
  refine T.F_law_price.ok sc_law_price (fun vs H Q E h => ?_) (fun cdv A outer s H vs Q E hr h => ?_)
  · obtain ⟨p, e, B, u, rfl, _⟩ := h
    rfl
  obtain ⟨p, e, B, ⟨b, i⟩, rfl, ⟨pa, pr, pm, hx, hx2, ⟨wr, hr1, hr2⟩, ⟨wm, hm1, hm2⟩⟩, he, c1, c2, k⟩ := h
  refine ⟨_, (pss_one (ps_ret (pe_ifExp (pt_cmpR op_eq (pe_ix ix_tup (pv 1) pe_int (fun _ _ => rfl)) pe_str (nomark _)) (pe_ix ix_tup (pe_ix ix_tup (pe_ix ix_tup (pv 0) pe_int (fun _ _ => rfl)) (pe_ix ix_tup (pv 1) pe_int (fun _ _ => rfl)) (fun _ _ => rfl)) pe_int (fun _ _ => rfl)) (pe_ix ix_tup (pe_ix ix_tup (pe_ix ix_tup (pv 0) pe_int (fun _ _ => rfl)) (pe_ix ix_tup (pv 1) pe_int (fun _ _ => rfl)) (fun _ _ => rfl)) pe_int (fun _ _ => rfl))))), ?_⟩
  cases b with
  | true =>
    obtain ⟨vm, hvm, pr1, qr1, rfl, hpr, hqr⟩ := hr2.at (rAt_of (c2 rfl))
    refine ⟨_, rfl, e, _, _, _, rfl, rfl, he, rfl, rfl, _, rfl, iteC (decide_eq_true rfl) ?_⟩
    exact ⟨_, rfl, p, _, _, _, rfl, rfl, hx, rfl, _, rfl, e, _, _, _, rfl, rfl, he, rfl, pr, _, _, _, rfl, rfl, hr1, atI_nat hvm, pr1, _, _, _, rfl, rfl, hpr, rfl, k⟩
  | false =>
    obtain ⟨vm, hvm, pm1, rfl, hpm⟩ := hm2.at (mAt_of (c1 rfl))
    refine ⟨_, rfl, e, _, _, _, rfl, rfl, he, rfl, rfl, _, rfl, iteD (decide_eq_false (by intro z; exact absurd (wd_inj (b := false) (c := true) (V.str.inj z)) (by decide))) ?_⟩
    exact ⟨_, rfl, p, _, _, _, rfl, rfl, hx, rfl, _, rfl, e, _, _, _, rfl, rfl, he, rfl, pm, _, _, _, rfl, rfl, hm1, atI_nat hvm, pm1, _, _, _, rfl, rfl, hpm, rfl, k⟩
def spLNeeds (K : PySem.W.Frag) : Sp := fun vs H Q _ => ∃ (p v c e : Addr) (B : Bk) (R : List Row) (t : Th) (u : Wy), vs = [.ref p, .ref v, .ref c, .ref e] ∧ PR K H p v B R ∧ SqT K H c [nv t.1, nv t.2] ∧ t.1 < R.length ∧ SqT K H e [.str (wd u.1), nv u.2] ∧ u ∈ waysM B R t ∧ ∀ l H', Same H H' → H l = none → LT K H' l (needsL B R t u) → Q (.ref l) H'
theorem ok_law_needs (T : Txt K mg a) : FnOk P w K mg base CX0 1 a.f_law_needs a.d_law_needs ["_law_parts", "_law_values_here", "_law_thing", "_law_way"] (spLNeeds K) := by
  refine T.F_law_needs.ok sc_law_needs (fun vs H Q E h => ?_) (fun cdv A outer s H vs Q E hr h => ?_)
  · obtain ⟨p, v, c, e, B, R, t, u, rfl, _⟩ := h
    rfl
  obtain ⟨p, v, c, e, B, R, t, u, rfl, W, hc, h1, he, hu, k⟩ := h
  obtain ⟨pa, pr, pm, hx, hx2, ⟨wr, hr1, hr2⟩, ⟨wm, hm1, hm2⟩⟩ := id W.b
  obtain ⟨ws, hw, hwl, hrow⟩ := id W.r
  obtain ⟨vr, hvr1, pR, qR, rfl, hp, hq⟩ := at_row hwl hrow h1
  obtain ⟨b, i⟩ := u
  refine ⟨_, (pss_cons (ps_if (pt_cmpR op_eq (pe_ix ix_tup (pv 3) pe_int (fun _ _ => rfl)) pe_str (nomark _))
    (pss_one (ps_ret (pe_lst (pa_cons (pe_tup (pa_cons (pe_ix ix_tup (pv 2) pe_int (fun _ _ => rfl)) (pa_cons (pe_ix ix_tup (pe_ix ix_tup (pe_ix ix_tup (pv 0) pe_int (fun _ _ => rfl)) (pe_ix ix_tup (pv 3) pe_int (fun _ _ => rfl)) (fun _ _ => rfl)) pe_int (fun _ _ => rfl)) pa_nil))) pa_nil))))
    pss_nil)
  (pss_one (ps_ret (LZp.pe_listZip rfl (by rfl) T.z_list (by rfl) T.z_zip (pa_cons (pe_ix ix_tup (pe_ix ix_tup (pv 1) (pe_ix ix_tup (pv 2) pe_int (fun _ _ => rfl)) (fun _ _ => rfl)) pe_int (fun _ _ => rfl)) (pa_cons (pe_ix ix_tup (pe_ix ix_tup (pe_ix ix_tup (pv 0) pe_int (fun _ _ => rfl)) (pe_ix ix_tup (pv 3) pe_int (fun _ _ => rfl)) (fun _ _ => rfl)) pe_int (fun _ _ => rfl)) pa_nil)))))), ?_⟩
  cases b with
  | false =>
    obtain ⟨hi, hi2⟩ := mem_waysF.mp hu
    obtain ⟨vm, hvm, pm1, rfl, hpm⟩ := hm2.at (mAt_of hi)
    refine ⟨_, rfl, e, _, _, _, rfl, rfl, he, rfl, rfl, _, rfl, iteC (decide_eq_true rfl) ?_⟩
    refine ⟨_, rfl, c, _, _, _, rfl, rfl, hc, rfl, _, rfl, p, _, _, _, rfl, rfl, hx, rfl, _, rfl, e, _, _, _, rfl, rfl, he, rfl, pm, _, _, _, rfl, rfl, hm1, atI_nat hvm, pm1, _, _, _, rfl, rfl, hpm, rfl, (by decide : 2 ≤ sizeLine), fun p1 hp1 => ⟨(by decide : 1 ≤ sizeLine), fun p2 hp2 => ?_⟩⟩
    have s2 := (same_new (o := .tup [nv t.1, nv (mAt B.ms i).src]) hp1).trans (same_new (o := .lst [.ref p1]) hp2)
    exact k p2 _ s2 (none_of (same_new hp1) hp2) ⟨[.ref p1], upd_same, .one ⟨p1, rfl, (same_new hp2) _ _ upd_same⟩⟩
  | true =>
    obtain ⟨hi, hi2, hi3⟩ := mem_waysT.mp hu
    obtain ⟨vm, hvm, pr1, qr1, rfl, hpr, hqr⟩ := hr2.at (rAt_of hi)
    refine ⟨_, rfl, e, _, _, _, rfl, rfl, he, rfl, rfl, _, rfl, iteD (decide_eq_false (by intro z; exact absurd (wd_inj (b := true) (c := false) (V.str.inj z)) (by decide))) ?_⟩
    have hlen : (parts R t.1).length = (rAt B.rs i).src.length := by
      have q1 := (W.g.r2 _ (rAt_mem hi)).2.1
      have q2 := (W.f _ h1).2
      rw [q1, hi2, q2]
    refine ⟨_, rfl, _, rfl, c, _, _, _, rfl, rfl, hc, rfl, v, _, _, _, rfl, rfl, hw, hvr1, pR, _, _, _, rfl, rfl, hp, rfl, _, rfl, p, _, _, _, rfl, rfl, hx, rfl, _, rfl, e, _, _, _, rfl, rfl, he, rfl, pr, _, _, _, rfl, rfl, hr1, atI_nat hvm, pr1, _, _, _, rfl, rfl, hpr, rfl, ?_⟩
    refine ⟨qR, qr1, _, _, rfl, hq, hqr, by rw [List.length_map, List.length_map, hlen], fun H' l ts s' hl0 el lt hts => ?_⟩
    rw [List.length_map] at lt
    refine k l H' s' hl0 ⟨_, el, ?_, fun j v x a b => ?_⟩
    · rw [List.length_map, lt]
      show _ = (List.zip (parts R t.1) (rAt B.rs i).src).length
      rw [List.length_zip, hlen, Nat.min_self]
    · have b : (List.zip (parts R t.1) (rAt B.rs i).src)[j]? = some x := b
      rw [List.getElem?_zip_eq_some] at b
      rw [List.getElem?_map] at a
      obtain ⟨tj, htj, rfl⟩ := Option.map_eq_some_iff.mp a
      exact ⟨tj, rfl, hts j tj _ _ htj (by rw [List.getElem?_map, b.1]; rfl) (by rw [List.getElem?_map, b.2]; rfl)⟩
def spLSome (K : PySem.W.Frag) : Sp := fun vs H Q _ => ∃ (b g l : Addr) (us : List V), vs = [.ref b, .ref l] ∧ BagAt H b g ∧ H l = some (.lst us) ∧ l ≠ b ∧ l ≠ g ∧ us ≠ [] ∧ us.length ≤ 10000 ∧ ∀ (i : Nat) (v : V) (H' : Hp), Fb b g H H' → BagAt H' b g → us[i]? = some v → Q v H'
theorem ok_law_some (T : Txt K mg a) : FnOk P w K mg base CX0 2 a.f_law_some a.d_law_some ["_law_bag_here", "_law_things"] (spLSome K) := by
  have G_law_pick := ok_law_pick (P := P) (w := w) (base := base) T
  refine T.F_law_some.ok sc_law_some (fun vs H Q E h => ?_) (fun cdv A outer s H vs Q E hr h => ?_)
  · obtain ⟨b, g, l, U, rfl, _⟩ := h
    rfl
  obtain ⟨b, g, l, us, rfl, B, eL, n1, n2, hne, hl, k⟩ := h
  have hU : 0 < us.length := List.length_pos_iff.mpr hne
  refine ⟨_, (pss_one (ps_ret (pe_ix ix_list (pv 1) (pe_call G_law_pick (hr.mono (by decide)) rfl T.g_law_pick T.k_law_pick T.b_law_pick .nil pass0 (pa_cons (pv 0) (pa_cons (pe_callB call_len_seq (by rfl) T.z_len PySem.boot_len (pa_cons (pv 1) pa_nil)) pa_nil))) (fun _ _ => rfl)))), ?_⟩
  refine ⟨_, rfl, _, rfl, _, rfl, l, us, rfl, .inl (SqL.of eL), b, g, us.length, rfl, hU, by omega, B, fun r H1 hr1 B1 f1 => ?_⟩
  have hv := List.getElem?_eq_getElem hr1
  exact ⟨l, _, _, _, rfl, rfl, SqL.of (f1 _ _ n1 n2 eL), atI_nat hv, k r _ H1 f1 B1 hv⟩
end
end Lk
namespace Lk
open PySem L2
section
variable {K : PySem.W.Frag}
/-- lists and tuples stay -/
structure TL (K : PySem.W.Frag) (H H' : Hp) : Prop where
  t : TT K H H'
  l : ∀ b ys, H b = some (.lst ys) → H' b = some (.lst ys)
theorem TL.refl (H : Hp) : TL K H H := ⟨TT.refl H, fun _ _ h => h⟩
theorem TL.trans {H H1 H2 : Hp} (x : TL K H H1) (y : TL K H1 H2) : TL K H H2 := ⟨x.t.trans y.t, fun b ys h => y.l b ys (x.l b ys h)⟩
theorem TL.of {H H' : Hp} (s : Same H H') : TL K H H' := ⟨Same_tt s, fun b ys h => s _ _ h⟩
theorem tl_dT {H : Hp} {p : Addr} {kvs : List (List Key × V)} {o : HO} (h : H p = some (.dT kvs)) : TL K H (upd H p o) := ⟨tt_dT h, fun b ys e => by
  rw [upd_ne (ne_of e h (fun z => nomatch z))]
  exact e⟩
theorem tl_frzT {H : Hp} {p : Addr} {kvs : List (List Key × V)} {o : HO} {od : Obj} (h : H p = some (.frz od (.dT kvs))) : TL K H (upd H p o) where
  t := {
    d := fun b ys q => by rw [upd_ne (ne_of q h (fun z => nomatch z))]; exact q
    t := fun b ys q => by
      rcases q with (q | ⟨o', q⟩) | q
      · exact .inl (.inl (by rw [upd_ne (ne_of q h (fun z => nomatch z))]; exact q))
      · exact .inl (.inr ⟨o', by rw [upd_ne (ne_of q h (fun z => nomatch (HO.frz.inj z).2))]; exact q⟩)
      · exact .inr q }
  l := fun b ys e => by
    rw [upd_ne (ne_of e h (fun z => nomatch z))]
    exact e
theorem Fb.tl {l : Addr} {us : List V} {H H' : Hp} (e : H l = some (.lst us)) (f : Fb l l H H') : TT K H H' where
  d := fun b ys q => f _ _ (ne_of q e (fun z => nomatch z)) (ne_of q e (fun z => nomatch z)) q
  t := fun b ys q => by
    rcases q with (q | ⟨o', q⟩) | q
    · exact .inl (.inl (f _ _ (ne_of q e (fun z => nomatch z)) (ne_of q e (fun z => nomatch z)) q))
    · exact .inl (.inr ⟨o', f _ _ (ne_of q e (fun z => nomatch z)) (ne_of q e (fun z => nomatch z)) q⟩)
    · exact .inr q
theorem WaysL.tl {H H' : Hp} {l : Addr} {ws : List Wy} (x : TL K H H') (h : WaysL K H l ws) : WaysL K H' l ws := h.tt x.t fun _ e => x.l _ _ e
/-- things to lists of ways -/
structure GD (K : PySem.W.Frag) (H : Hp) (kvs : List (List Key × V)) (ts : List Th) (f : Th → List Wy) : Prop where
  ks : kvs.map (·.1) = ts.map kt
  v : ∀ t ∈ ts, ∃ l, valV kvs (kt t) = some (.ref l) ∧ WaysL K H l (f t)
  n : ts.Nodup
theorem GD.nil {H : Hp} {f : Th → List Wy} : GD K H [] [] f := ⟨rfl, (fun _ h => nomatch h), List.nodup_nil⟩
theorem GD.len {H : Hp} {kvs : List (List Key × V)} {ts : List Th} {f : Th → List Wy} (h : GD K H kvs ts f) : kvs.length = ts.length := by
  have := congrArg List.length h.ks
  rw [List.length_map, List.length_map] at this
  exact this
theorem GD.tl {H H' : Hp} {kvs : List (List Key × V)} {ts : List Th} {f : Th → List Wy} (x : TL K H H') (h : GD K H kvs ts f) : GD K H' kvs ts f :=
  ⟨h.ks, fun t m => by
    obtain ⟨l, e, q⟩ := h.v t m
    exact ⟨l, e, q.tl x⟩, h.n⟩
theorem GD.new {H : Hp} {kvs : List (List Key × V)} {ts : List Th} {f : Th → List Wy} (h : GD K H kvs ts f) {t : Th} (m : t ∉ ts) : valV kvs (kt t) = none := by
  have e := valV_any (kt t) kvs
  cases hv : valV kvs (kt t) with
  | none => rfl
  | some x =>
    rw [hv] at e
    have e : (kvs.any fun kv => decide (kv.1 = kt t)) = true := e
    obtain ⟨p, hp, hp2⟩ := List.any_eq_true.mp e
    have h1 : kt t ∈ kvs.map (·.1) := List.mem_map.mpr ⟨p, hp, of_decide_eq_true hp2⟩
    rw [h.ks] at h1
    obtain ⟨u, hu, e2⟩ := List.mem_map.mp h1
    exact absurd (kt_inj e2 ▸ hu) m
theorem GD.some {H : Hp} {kvs : List (List Key × V)} {ts : List Th} {f : Th → List Wy} (h : GD K H kvs ts f) {t : Th} : (valV kvs (kt t)).isSome = decide (t ∈ ts) := by
  by_cases m : t ∈ ts
  · obtain ⟨l, e, _⟩ := h.v t m
    rw [e, decide_eq_true m]
    rfl
  · rw [h.new m, decide_eq_false m]
    rfl
theorem GD.put {H : Hp} {kvs : List (List Key × V)} {ts : List Th} {f : Th → List Wy} (h : GD K H kvs ts f) {t : Th} (m : t ∉ ts) {l : Addr} (w : WaysL K H l (f t)) : GD K H (putK kvs (kt t) (.ref l)) (ts ++ [t]) f := by
  have hn := h.new m
  refine ⟨?_, fun u hu => ?_, ?_⟩
  · rw [putK_new _ hn, List.map_append, List.map_append, h.ks]
    rfl
  · rw [valV_put]
    rcases List.mem_append.mp hu with h1 | h1
    · rw [if_neg (fun e => m (by rw [← kt_inj e]; exact h1))]
      exact h.v u h1
    · rw [List.mem_singleton.mp h1, if_pos rfl]
      exact ⟨l, rfl, w⟩
  · rw [List.nodup_append]
    exact ⟨h.n, by simp, fun a ha b hb e => m (by rw [← List.mem_singleton.mp hb, ← e]; exact ha)⟩
theorem needs_len {B : Bk} {R : List Row} (gr : Good R) {t : Th} {w : Wy} : (needsM B R t w).length ≤ 2 := by
  obtain ⟨b, k⟩ := w
  cases b with
  | false => exact (by decide : 1 ≤ 2)
  | true =>
    have h1 := lotT_len (l := List.zip (parts R t.1) (rAt B.rs k).src)
    have h2 := parts_len gr t.1
    rw [List.length_zip] at h1
    show (lotT _).length ≤ 2
    omega
theorem insT_new {F : List Th} {t : Th} (h : t ∉ F) : insT F t = F ++ [t] := if_neg h
theorem dget_t {H : Hp} {a b : Addr} {kvs : List (List Key × V)} {k : List Key} {v : V} (e : H a = some (.dT kvs)) (eb : H b = some (.tup (k.map kV))) (h : valV kvs k = some v) : DGet H a (.ref b) (some v) := .inr ⟨kvs, k, b, .inl e, rfl, eb, h.symm⟩
theorem dget_f {H : Hp} {a b : Addr} {o : Obj} {kvs : List (List Key × V)} {k : List Key} {v : V} (e : H a = some (.frz o (.dT kvs))) (eb : H b = some (.tup (k.map kV))) (h : valV kvs k = some v) : DGet H a (.ref b) (some v) := .inr ⟨kvs, k, b, .inr ⟨o, e⟩, rfl, eb, h.symm⟩
/-! all of these in the dict -/
theorem all_step {H1 H2 : Hp} {D : Addr} {U : List Th} {p : Th → Bool} {j : Nat} {u : Th} (s2 : Same H1 H2) (hD : H1 D = none) (hu : U[j]? = some u) : Same H1 (upd H2 D (.lst (((U.take j).map p).map V.bl ++ [.bl (p u)]))) ∧ (upd H2 D (.lst (((U.take j).map p).map V.bl ++ [.bl (p u)]))) D = some (.lst (((U.take (j + 1)).map p).map V.bl)) := by
  refine ⟨same_at s2 hD, ?_⟩
  rw [upd_same, List.take_add_one, hu, List.map_append, List.map_append]
  rfl
theorem all_p {zs : List Th} {p : Th → Bool} : ((zs.map p).all id) = true ↔ ∀ u ∈ zs, p u = true := by
  rw [List.all_map, List.all_eq_true]
  exact Iff.rfl
/-- the ways to t whose needs can all be made -/
noncomputable def usW (B : Bk) (R : List Row) (t : Th) : List Wy := (waysM B R t).filter fun w => (needsL B R t w).all fun u => decide (u ∈ makM B R)
theorem mem_usW {B : Bk} {R : List Row} {t : Th} {w : Wy} : w ∈ usW B R t ↔ w ∈ waysM B R t ∧ ∀ u ∈ needsM B R t w, u ∈ makM B R := by
  unfold usW
  rw [List.mem_filter, List.all_eq_true]
  exact and_congr Iff.rfl ⟨fun h u hu => of_decide_eq_true (h u (mem_needsL.mpr hu)), fun h u hu => decide_eq_true (h u (mem_needsL.mp hu))⟩
end
section
variable {P : Program} {w : World} {K : PySem.W.Frag} {mg : Str → Option Value} {base : Heap} {a : Adr}
def spLUse (K : PySem.W.Frag) : Sp := fun vs H Q _ => ∃ (p v : Addr) (B : Bk) (R : List Row), vs = [.ref p, .ref v] ∧ PR K H p v B R ∧ ∀ q kvs H', Same H H' → H q = none → H' q = some (.dT kvs) → GD K H' kvs (makM B R) (usW B R) → (∀ t l, valV kvs (kt t) = some (.ref l) → H l = none) → Q (.ref q) H'
theorem ok_law_usable (T : Txt K mg a) : FnOk P w K mg base CX0 2 a.f_law_usable a.d_law_usable ["_law_parts", "_law_values_here"] (spLUse K) := by
  have G_law_needs := ok_law_needs (P := P) (w := w) (base := base) T
  refine T.F_law_usable.ok sc_law_usable (fun vs H Q E h => ?_) (fun cdv A outer s H vs Q E hr h => ?_)
  · obtain ⟨x, y, B, R, rfl, _⟩ := h
    rfl
  obtain ⟨p, v, B, R, rfl, W, k⟩ := h
  obtain ⟨pa, pr, pm, hx, hx2, ⟨wr, hr1, hr2⟩, ⟨wm, hm1, hm2⟩⟩ := id W.b
  obtain ⟨ws, hw, hwl, hrow⟩ := id W.r
  have hk2 := W.g.k2
  have hR200 := W.l
  have hmx : R.length * B.nk ≤ 200 * 5 := Nat.mul_le_mul hR200 hk2
  refine ⟨_, (pss_cons (ps_set (i := 2) sc_law_usable.nd rfl (Or.inl rfl) pe_dnewT)
  (pss_cons (ps_for PassesOwn.never rfl (pi_range1 rfl T.z_range (pa_cons (pe_callB call_len_seq (by rfl) T.z_len PySem.boot_len (pa_cons (pv 1) pa_nil)) pa_nil)) (pg_name (i := 3) sc_law_usable.nd rfl (Or.inl rfl))
    (pss_one (ps_for PassesOwn.never rfl (pi_range1 rfl T.z_range (pa_cons (pe_ix ix_tup (pv 0) pe_int (fun _ _ => rfl)) pa_nil)) (pg_name (i := 4) sc_law_usable.nd rfl (Or.inr rfl))
    (pss_cons (ps_setLc (i := 5) (own := [("_law_at", 6)]) (g := gName 6) (tt := _) rfl sc_law_usable.nd rfl rfl (sw_true rfl rfl rfl (by decide +kernel)) (pi_range1 rfl T.z_range (pa_cons (pe_callB call_len_seq (by rfl) T.z_len PySem.boot_len (pa_cons (pe_ix ix_tup (pv 0) pe_int (fun _ _ => rfl)) pa_nil)) pa_nil)) (blkOk_by (N := ["_law_parts", "_law_values_here", "_law_giving", "_law_value", "_law_kind", "_law_some_here", "_law_at", "_law_rule", "_law_made", "_law_grown", "_law_thing", "_law_way", "_law_found", "_law_need"]) (sc := defScope s_law_usable) (by decide +kernel)) (fun _ _ _ _ _ => pg_name (i := 6) sc_law_usable.nd rfl (Or.inl rfl)) (fun _ _ _ _ _ => (pts_one (pt_cmpR op_eq (pe_ix (ixT (K := K) rfl) (pe_ix (ixT (K := K) rfl) (pe_ix (ixT (K := K) rfl) (pv 0) pe_int (fun _ _ => rfl)) (pv 6) (fun _ _ => rfl)) pe_int (fun _ _ => rfl)) (pv 4) (nomark _)))) (fun _ _ _ _ _ => (pe_tup (pa_cons pe_str (pa_cons (pv 6) pa_nil)))))
  (pss_cons (ps_for PassesOwn.never rfl (EnT.pi_enumT rfl T.z_enumerate (pa_cons (pe_ix ix_tup (pv 0) pe_int (fun _ _ => rfl)) pa_nil)) (pg_tup rfl (pgs_cons (pg_name (i := 6) sc_law_usable.nd rfl (Or.inl rfl)) (pgs_cons (pg_name (i := 7) sc_law_usable.nd rfl (Or.inl rfl)) pgs_nil)))
    (pss_one (ps_if (pt_cmpR (op_eqD hr.units) (pe_tup (pa_cons (pe_ix ix_tup (pv 7) pe_int (fun _ _ => rfl)) (pa_cons (pe_ix ix_tup (pv 7) pe_int (fun _ _ => rfl)) pa_nil))) (pe_tup (pa_cons (pe_ix ix_tup (pe_ix ix_tup (pv 1) (pv 3) (fun _ _ => rfl)) pe_int (fun _ _ => rfl)) (pa_cons (pv 4) pa_nil))) (nomark _))
    (pss_one (ps_expr (pe_bm PySem.F.plainAttrs_list PySem.F.slot_list_append PySem.F.type_list_append mt_append (pv 5) (pa_cons (pe_tup (pa_cons pe_str (pa_cons (pv 6) pa_nil))) pa_nil))))
    pss_nil)))
  (pss_one (ps_dput (hu1 hr) (pv 2) (pe_tup (pa_cons (pv 3) (pa_cons (pv 4) pa_nil))) (pv 5) rfl)))))))
  (pss_cons (ps_set (i := 8) sc_law_usable.nd rfl (Or.inr rfl) pe_dnewT)
  (pss_cons (ps_set (i := 9) sc_law_usable.nd rfl (Or.inl rfl) pe_bl)
  (pss_cons (ps_while PassesOwn.never (pt_val (pv 9))
    (pss_cons (ps_set (i := 9) sc_law_usable.nd rfl (Or.inl rfl) pe_bl)
  (pss_one (ps_lock (ps_for PassesOwn.never rfl (pi_keys (pv 2)) (pg_name (i := 10) sc_law_usable.nd rfl (Or.inl rfl))
    (pss_one (ps_for PassesOwn.never rfl (pi_list (pe_ifExp (pt_cmp (pc_dnotin (hu1 hr) (pv 10) (pv 8))) (pe_dget (hu1 hr) (pv 2) (pv 10) (fun _ _ => rfl)) (pe_lst pa_nil))) (pg_name (i := 11) sc_law_usable.nd rfl (Or.inl rfl))
    (pss_one (ps_if (pt_val (pe_callB (cr_all rfl) (by rfl) T.z_all (by decide +kernel) (pa_cons (pe_lc (own := [("_law_need", 13)]) (g := gName 13) (tt := tYes) rfl sc_law_usable.nd (pi_list (pe_call G_law_needs (hr.mono (by decide)) rfl T.g_law_needs T.k_law_needs T.b_law_needs .nil pass0 (pa_cons (pv 0) (pa_cons (pv 1) (pa_cons (pv 10) (pa_cons (pv 11) pa_nil)))))) (blkOk_by (N := ["_law_parts", "_law_values_here", "_law_giving", "_law_value", "_law_kind", "_law_some_here", "_law_at", "_law_rule", "_law_made", "_law_grown", "_law_thing", "_law_way", "_law_found", "_law_need"]) (sc := defScope s_law_usable) (by decide +kernel)) (fun _ _ _ _ _ => pg_name (i := 13) sc_law_usable.nd rfl (Or.inl rfl)) (fun _ _ _ _ _ => pts_nil) (fun _ _ _ _ _ => (pe_cmp (pc_din (hu1 hr) (pv 13) (pv 8)) rfl))) pa_nil)))
    (pss_cons (ps_dput (hu1 hr) (pv 8) (pv 10) pe_bl rfl)
  (pss_one (ps_set (i := 9) sc_law_usable.nd rfl (Or.inl rfl) pe_bl)))
    pss_nil)))))))))
  (pss_cons (ps_set (i := 12) sc_law_usable.nd rfl (Or.inl rfl) pe_dnewT)
  (pss_cons (ps_for PassesOwn.never rfl (pi_list (pe_callB cr_sortedPO (by rfl) T.z_sorted (by decide +kernel) (pa_cons (pe_callTy (call_list_dT rfl) (by rfl) T.z_list (by decide +kernel) (pa_cons (pv 8) pa_nil)) pa_nil))) (pg_name (i := 10) sc_law_usable.nd rfl (Or.inl rfl))
    (pss_cons (ps_dput (hu1 hr) (pv 12) (pv 10) (pe_lst pa_nil) rfl)
  (pss_one (ps_for PassesOwn.never rfl (pi_list (pe_dget (hu1 hr) (pv 2) (pv 10) (fun _ _ => rfl))) (pg_name (i := 11) sc_law_usable.nd rfl (Or.inl rfl))
    (pss_one (ps_if (pt_val (pe_callB (cr_all rfl) (by rfl) T.z_all (by decide +kernel) (pa_cons (pe_lc (own := [("_law_need", 13)]) (g := gName 13) (tt := tYes) rfl sc_law_usable.nd (pi_list (pe_call G_law_needs (hr.mono (by decide)) rfl T.g_law_needs T.k_law_needs T.b_law_needs .nil pass0 (pa_cons (pv 0) (pa_cons (pv 1) (pa_cons (pv 10) (pa_cons (pv 11) pa_nil)))))) (blkOk_by (N := ["_law_parts", "_law_values_here", "_law_giving", "_law_value", "_law_kind", "_law_some_here", "_law_at", "_law_rule", "_law_made", "_law_grown", "_law_thing", "_law_way", "_law_found", "_law_need"]) (sc := defScope s_law_usable) (by decide +kernel)) (fun _ _ _ _ _ => pg_name (i := 13) sc_law_usable.nd rfl (Or.inl rfl)) (fun _ _ _ _ _ => pts_nil) (fun _ _ _ _ _ => (pe_cmp (pc_din (hu1 hr) (pv 13) (pv 8)) rfl))) pa_nil)))
    (pss_one (ps_expr (pe_bm PySem.F.plainAttrs_list PySem.F.slot_list_append PySem.F.type_list_append mt_append (pe_dget (hu1 hr) (pv 12) (pv 10) (fun _ _ => rfl)) (pa_cons (pv 11) pa_nil))))
    pss_nil))))))
  (pss_one (ps_ret (pv 12)))))))))), ?_⟩
  refine fun d hd => ?_
  have s0 : Same H (upd H d (.dT [])) := same_new hd
  refine ⟨_, rfl, v, ws, rfl, .inr ((Tk.of s0).t hw), _, rfl, ?_⟩
  rw [hwl]
  refine ⟨by omega, by omega, for_range (lo := 0) (n := ((R.length : Nat) : Int).toNat) (fun i σ H' => ∃ v3 v4 v5 v6 v7 kvs ts, σ = [some (.ref p), some (.ref v), some (.ref d), v3, v4, v5, v6, v7, none, none, none, none, none, none] ∧ Same H H' ∧ H' d = some (.dT kvs) ∧ GD K H' kvs ts (waysM B R) ∧ ∀ t : Th, t ∈ ts ↔ t.1 < i ∧ t.2 < B.nk) ⟨none, none, none, none, none, [], [], rfl, s0, upd_same, GD.nil, (fun t => Iff.intro (fun h => nomatch h) fun h => absurd h.1 (Nat.not_lt_zero _))⟩ ?_ ?_⟩
  · rintro i σ H1 hi ⟨v3, v4, v5, v6, v7, kvs, ts, rfl, s1, e1, g1, m1⟩
    have hi' : i < R.length := by omega
    rw [nv0]
    refine ⟨_, rfl, p, _, _, _, rfl, rfl, (Tk.of s1).t hx, rfl, _, rfl, by omega, by omega, for_range (lo := 0) (n := ((B.nk : Nat) : Int).toNat) (fun κ σ H' => ∃ v4 v5 v6 v7 kvs ts, σ = [some (.ref p), some (.ref v), some (.ref d), some (nv i), v4, v5, v6, v7, none, none, none, none, none, none] ∧ Same H H' ∧ H' d = some (.dT kvs) ∧ GD K H' kvs ts (waysM B R) ∧ ∀ t : Th, t ∈ ts ↔ (t.1 < i ∧ t.2 < B.nk) ∨ (t.1 = i ∧ t.2 < κ)) ⟨v4, v5, v6, v7, kvs, ts, rfl, s1, e1, g1, fun t => by rw [m1]; exact ⟨Or.inl, fun h => h.elim id fun z => absurd z.2 (Nat.not_lt_zero _)⟩⟩ ?_ ?_⟩
    · rintro κ σ H2 hκ ⟨v4, v5, v6, v7, kvs, ts, rfl, s2, e2, g2, m2⟩
      have hκ' : κ < B.nk := by omega
      rw [nv0]
      obtain ⟨vr, hvr1, pR, qR, rfl, hp, hq⟩ := at_row hwl hrow hi'
      have T2 : TT K H H2 := Same_tt s2
      have hm1' := T2.t _ _ hm1
      have hr1' := T2.t _ _ hr1
      refine ⟨_, rfl, p, _, _, _, rfl, rfl, T2.t _ _ hx, rfl, pm, wm, rfl, .inr hm1', _, rfl, ?_⟩
      rw [hm2.1]
      refine ⟨by omega, by have := W.g.m1; omega, fun D hD => ?_⟩
      refine lc_range (lo := 0) (n := ((B.ms.length : Nat) : Int).toNat) (fun j H' => Same H2 H' ∧ WaysL K H' D ((fl (fun k => decide ((mAt B.ms k).kind = κ)) j).map fun k => (false, k))) ⟨same_new hD, [], upd_same, PL.nil⟩ (fun j H3 hj z => ?_) (fun H3 z => ?_)
      · obtain ⟨s3, us, eD, hpl⟩ := z
        have hj' : j < B.ms.length := by omega
        rw [nv0]
        obtain ⟨vm, hvm, pw, rfl, hpw⟩ := hm2.at (mAt_of hj')
        have T3 : TT K H2 H3 := Same_tt s3
        refine ⟨rfl, ?_⟩
        refine ⟨_, rfl, p, _, _, _, rfl, rfl, T3.t _ _ (T2.t _ _ hx), rfl, _, rfl, pm, _, _, _, rfl, rfl, T3.t _ _ hm1', atI_nat hvm, pw, _, _, _, rfl, rfl, T3.t _ _ (T2.t _ _ hpw), rfl, _, rfl, rfl, _, rfl, ite2 (fun hb => ?_) (fun hb => ?_)⟩
        · have hk : (mAt B.ms j).kind = κ := by
            have := V.int.inj (of_decide_eq_true hb)
            omega
          refine ⟨_, rfl, (by decide : 2 ≤ sizeLine), fun c hc => ?_⟩
          refine ⟨us, by rw [upd_ne (ne_of_none eD hc)]; exact eD, ?_, same_at (s3.trans (same_new hc)) hD, ?_⟩
          · rw [hpl.1, List.length_map]
            have := fl_len (fun k => decide ((mAt B.ms k).kind = κ)) j
            have := W.g.m1
            exact lt_line (by omega)
          · rw [fl_yes (decide_eq_true hk), List.map_append]
            exact ways_push (b := false) eD hpl hc
        · have hk : ¬ (mAt B.ms j).kind = κ := fun e => by
            have : decide (nv (mAt B.ms j).kind = nv κ) = true := decide_eq_true (by rw [e])
            exact hb this
          refine ⟨s3, ?_⟩
          rw [fl_no (decide_eq_false hk)]
          exact ⟨us, eD, hpl⟩
      obtain ⟨s3, L3⟩ := z
      rw [Int.toNat_natCast] at L3
      -- the rules
      refine ⟨_, rfl, p, _, _, _, rfl, rfl, (Tk.of (s2.trans s3)).t hx, rfl, pr, wr, rfl, (Tk.of s3).t hr1', for_it (EnT.walkE (xs := wr)) (fun j σ H' => ∃ v6 v7, σ = [some (.ref p), some (.ref v), some (.ref d), some (nv i), some (nv κ), some (.ref D), v6, v7, none, none, none, none, none, none] ∧ Same H2 H' ∧ WaysL K H' D ((mvs B κ).map (fun k => (false, k)) ++ (fl (fun k => decide ((rAt B.rs k).op = (rowAt R i).1) && decide ((rAt B.rs k).kind = κ)) j).map fun k => (true, k))) ⟨_, _, rfl, s3, by show WaysL K H3 D (_ ++ []); rw [List.append_nil]; exact L3⟩ (fun j σ H' _ z => ?_) ?_ ?_⟩
      · obtain ⟨_, _, _, s4, _⟩ := z
        exact (Tk.of s4).t hr1'
      · intro j y σ H4 H5 hj z hy
        obtain ⟨v6, v7, rfl, s4, us, eD, hpl⟩ := z
        obtain ⟨tt, y1, y2, rfl, ht, rfl, e1, e2⟩ := hy
        cases e1
        have hj' : j < B.rs.length := by
          rw [← hr2.1]
          exact hj
        have s5 : Same H2 (upd H4 tt (.tup [.int (j : Nat), y2])) := s4.trans (same_new ht)
        have T5 : TT K H _ := T2.trans (Same_tt s5)
        obtain ⟨pw, qw, rfl, hpw, hqw⟩ := (hr2.2 j y2 _ e2 (rAt_of hj')).tt T5
        have eD5 : (upd H4 tt (.tup [.int (j : Nat), .ref pw])) D = some (.lst us) := (same_new ht) _ _ eD
        have hpl5 := hpl.mono fun _ _ z => z.tt (tt_new (o := .tup [.int (j : Nat), .ref pw]) ht)
        refine ⟨tt, _, rfl, .inl (.inl upd_same), rfl, _, _, rfl, _, _, rfl, rfl, ?_⟩
        generalize upd H4 tt (.tup [.int (j : Nat), .ref pw]) = H5 at s5 T5 hpw hqw eD5 hpl5
        refine ⟨_, rfl, pw, _, _, _, rfl, rfl, hpw, rfl, _, rfl, pw, _, _, _, rfl, rfl, hpw, rfl, (by decide : 2 ≤ sizeLine), fun c1 hc1 => ?_⟩
        have s6 := same_new (o := .tup [nv (rAt B.rs j).op, nv (rAt B.rs j).kind]) hc1
        have T6 := T5.trans (Same_tt s6)
        refine ⟨_, rfl, _, rfl, v, _, _, _, rfl, rfl, T6.t _ _ hw, hvr1, pR, _, _, _, rfl, rfl, T6.t _ _ hp, rfl, _, rfl, (by decide : 2 ≤ sizeLine), fun c2 hc2 => ?_⟩
        have s7 := s6.trans (same_new (o := .tup [nv (rowAt R i).1, nv κ]) hc2)
        refine ⟨dTh ((rAt B.rs j).op, (rAt B.rs j).kind), dTh ((rowAt R i).1, κ), th_dp ⟨c1, rfl, (same_new hc2) _ _ upd_same⟩, th_dp ⟨c2, rfl, upd_same⟩, sh_th _, sh_th _, _, rfl, ?_⟩
        rw [eqv_th]
        have eD7 := s7 _ _ eD5
        have hpl7 := hpl5.mono fun _ _ z => z.tt (Same_tt s7)
        have s27 := s5.trans s7
        generalize upd (upd H5 c1 (.tup [nv (rAt B.rs j).op, nv (rAt B.rs j).kind])) c2 (.tup [nv (rowAt R i).1, nv κ]) = H7 at s7 eD7 hpl7 s27
        have hlen : us.length ≤ 60 := by
          rw [hpl.1, List.length_append, List.length_map, List.length_map]
          have := fl_len (fun k => decide ((rAt B.rs k).op = (rowAt R i).1) && decide ((rAt B.rs k).kind = κ)) j
          have h2 : (mvs B κ).length ≤ B.ms.length := fl_len (fun k => decide ((mAt B.ms k).kind = κ)) B.ms.length
          have := W.g.m1
          have := W.g.r1
          omega
        refine ite2 (fun hb => ?_) (fun hb => ?_)
        · have hb := Prod.mk.inj (of_decide_eq_true hb)
          refine ⟨_, rfl, .inl ⟨rfl, _, SqL.of eD7⟩, ?_⟩
          refine ⟨_, rfl, (by decide : 2 ≤ sizeLine), fun c hc => ?_⟩
          refine ⟨D, us, _, rfl, rfl, (same_new hc) _ _ eD7, lt_line (by omega), ?_⟩
          refine ⟨_, _, rfl, same_at (s27.trans (same_new hc)) hD, ?_⟩
          rw [fl_yes (both hb.1 hb.2), List.map_append, ← List.append_assoc]
          exact ways_push (b := true) eD7 hpl7 hc
        · refine ⟨_, _, rfl, s27, us, eD7, ?_⟩
          rw [fl_no]
          · exact hpl7
          · by_cases q1 : (rAt B.rs j).op = (rowAt R i).1
            · have q2 : ¬ (rAt B.rs j).kind = κ := fun q2 => hb (decide_eq_true (by rw [q1, q2]))
              rw [decide_eq_false q2, Bool.and_false]
            · rw [decide_eq_false q1, Bool.false_and]
      · rintro σ H4 ⟨v6, v7, rfl, s4, L4⟩
        rw [hr2.1] at L4
        have L4 : WaysL K H4 D (waysM B R (i, κ)) := L4
        have hnew : ((i, κ) : Th) ∉ ts := fun q => by
          have := (m2 _).mp q
          omega
        have hts : ts.length ≤ R.length * B.nk := by
          rw [← allT_len]
          exact nodup_len g2.n fun t ht => mem_allT.mpr (by have := (m2 t).mp ht; omega)
        refine ⟨_, rfl, _, rfl, _, rfl, _, rfl, (by decide : 2 ≤ sizeLine), fun c hc => ?_⟩
        have s5 := s4.trans (same_new (o := .tup [nv i, nv κ]) hc)
        have e5 := s5 _ _ e2
        have g5 := g2.tl (TL.of s5)
        have L5 := L4.same (same_new (o := .tup [nv i, nv κ]) hc)
        refine ⟨d, _, rfl, DPut.t e5 (k := kt (i, κ)) upd_same (by rw [g5.len]; exact lt_line (by omega)), ?_⟩
        refine ⟨_, _, _, _, _, ts ++ [(i, κ)], rfl, same_at (s2.trans s5) hd, upd_same, (g5.put hnew L5).tl (tl_dT e5), fun t => ?_⟩
        rw [List.mem_append, m2, List.mem_singleton]
        constructor
        · rintro (h | rfl)
          · omega
          · omega
        · intro h
          by_cases e : t = (i, κ)
          · exact Or.inr e
          · refine Or.inl ?_
            have : ¬ (t.1 = i ∧ t.2 = κ) := fun z => e (Prod.ext z.1 z.2)
            omega
    · rintro σ H2 ⟨v4, v5, v6, v7, kvs, ts, rfl, s2, e2, g2, m2⟩
      exact ⟨_, _, _, _, _, kvs, ts, rfl, s2, e2, g2, fun t => by rw [m2]; omega⟩
  rintro σ H1 ⟨v3, v4, v5, v6, v7, kvs, ts, rfl, s1, e1, g1, m1⟩
  have hbd : ∀ F, Snd B R F → F.length ≤ 1000 := fun F sF => by
    have := sF.len W.g
    omega
  refine fun d2 hd2 => ?_
  have s2 := s1.trans (same_new (o := .dT []) hd2)
  have hd20 : H d2 = none := none_of s1 hd2
  have nd : d ≠ d2 := ne_of_none e1 hd2
  refine ⟨fun m σ H' => ∃ v3 v4 v5 v6 v7 v10 v11 F g, σ = [some (.ref p), some (.ref v), some (.ref d), v3, v4, v5, v6, v7, some (.ref d2), some (.bl g), v10, v11, none, none] ∧ Same H H' ∧ H' d = some (.dT kvs) ∧ H' d2 = some (.dT (tk F)) ∧ GD K H' kvs ts (waysM B R) ∧ Snd B R F ∧ ((g = true ∧ m = 1001 - F.length) ∨ (g = false ∧ m = 0 ∧ ∀ t ∈ ts, ∀ w ∈ waysM B R t, (∀ u ∈ needsM B R t w, u ∈ F) → t ∈ F)), ⟨1001 - ([] : List Th).length, v3, v4, v5, v6, v7, none, none, [], true, rfl, s2, (same_new hd2) _ _ e1, upd_same, g1.tl (TL.of (same_new hd2)), Snd.nil, Or.inl ⟨rfl, rfl⟩⟩, ?_⟩
  rintro m σ H2 ⟨v3, v4, v5, v6, v7, v10, v11, F, g, rfl, s2, e2, f2, g2, sF, hg⟩
  refine ⟨_, rfl, _, rfl, ?_⟩
  rcases hg with ⟨rfl, rfl⟩ | ⟨rfl, rfl, hM⟩
  · refine iteT ⟨fun σ' H' => ∃ m', m' < 1001 - F.length ∧ ∃ v3 v4 v5 v6 v7 v10 v11 F g, σ' = [some (.ref p), some (.ref v), some (.ref d), v3, v4, v5, v6, v7, some (.ref d2), some (.bl g), v10, v11, none, none] ∧ Same H H' ∧ H' d = some (.dT kvs) ∧ H' d2 = some (.dT (tk F)) ∧ GD K H' kvs ts (waysM B R) ∧ Snd B R F ∧ ((g = true ∧ m' = 1001 - F.length) ∨ (g = false ∧ m' = 0 ∧ ∀ t ∈ ts, ∀ w ∈ waysM B R t, (∀ u ∈ needsM B R t w, u ∈ F) → t ∈ F)), fun _ _ z => z, ?_⟩
    refine ⟨d, _, e2, trivial, fun od => ?_⟩
    have TL2 : TL K H2 (upd H2 d (.frz od (.dT kvs))) := tl_dT e2
    refine ⟨_, rfl, d, od, rfl, .inr ⟨kvs, upd_same, for_it walk_keysT (fun j σ H' => ∃ v10 v11 F' g, σ = [some (.ref p), some (.ref v), some (.ref d), v3, v4, v5, v6, v7, some (.ref d2), some (.bl g), v10, v11, none, none] ∧ Same H H' ∧ H' d = some (.frz od (.dT kvs)) ∧ H' d2 = some (.dT (tk F')) ∧ GD K H' kvs ts (waysM B R) ∧ Snd B R F' ∧ ((g = true ∧ F.length < F'.length) ∨ (g = false ∧ F' = F ∧ ∀ t ∈ ts.take j, ∀ w ∈ waysM B R t, (∀ u ∈ needsM B R t w, u ∈ F) → t ∈ F))) ⟨v10, v11, F, false, rfl, same_at s2 hd, upd_same, by rw [upd_ne nd.symm]; exact f2, g2.tl TL2, sF, Or.inr ⟨rfl, rfl, fun _ h => nomatch h⟩⟩ (fun j σ H' _ z => ?_) ?_ ?_⟩⟩
    · obtain ⟨_, _, _, _, _, _, e, _⟩ := z
      exact e
    · intro j y σ Hx H3 hj z hy
      obtain ⟨v10, v11, F', g, rfl, s3, e3, f3, g3, sF3, hg3⟩ := z
      obtain ⟨rfl, ky, vy, q, hkv, rfl, hq⟩ := hy
      obtain ⟨t, ht, rfl⟩ : ∃ t, ts[j]? = some t ∧ ky = kt t := by
        have h1 : (kvs.map (·.1))[j]? = some ky := by rw [List.getElem?_map, hkv]; rfl
        rw [g3.ks, List.getElem?_map] at h1
        obtain ⟨t, h2, h3⟩ := Option.map_eq_some_iff.mp h1
        exact ⟨t, h2, h3.symm⟩
      have htm := List.mem_of_getElem? ht
      have ht1 : t.1 < R.length := by have := ((m1 t).mp htm).1; omega
      have htk : ts.take (j + 1) = ts.take j ++ [t] := by
        rw [List.take_add_one, ht]
        rfl
      obtain ⟨l, hv, us, eL, hpl⟩ := g3.v t htm
      refine ⟨_, rfl, _, rfl, d2, _, rfl, DGet.t f3 (k := kt t) hq, _, rfl, ?_⟩
      rw [tk_some]
      refine ite2 (fun hb => ?_) (fun hb => ?_)
      · have hnew : t ∉ F' := by
          intro z
          rw [decide_eq_true z] at hb
          exact absurd hb (by decide)
        refine ⟨_, rfl, _, rfl, d, .ref l, rfl, dget_f e3 hq hv, l, rfl, ⟨_, SqL.of eL⟩, for_list (xs := us) (fun i σ H' => ∃ v11 F'' g, σ = [some (.ref p), some (.ref v), some (.ref d), v3, v4, v5, v6, v7, some (.ref d2), some (.bl g), some (.ref q), v11, none, none] ∧ TL K H3 H' ∧ Same H H' ∧ H' d = some (.frz od (.dT kvs)) ∧ H' d2 = some (.dT (tk F'')) ∧ Snd B R F'' ∧ ((g = true ∧ F.length < F''.length) ∨ (g = false ∧ F'' = F ∧ F' = F ∧ (∀ t ∈ ts.take j, ∀ w ∈ waysM B R t, (∀ u ∈ needsM B R t w, u ∈ F) → t ∈ F) ∧ ∀ w ∈ (waysM B R t).take i, ¬ ∀ u ∈ needsM B R t w, u ∈ F))) ?_ ?_ ?_ ?_⟩
        · refine ⟨v11, F', g, rfl, TL.refl _, s3, e3, f3, sF3, ?_⟩
          rcases hg3 with h | ⟨h1, h2, h3⟩
          · exact Or.inl h
          · exact Or.inr ⟨h1, h2, h2, h3, fun w h => nomatch h⟩
        · rintro i σ H' _ ⟨_, _, _, _, x, _⟩
          exact SqL.of (x.l _ _ eL)
        · rintro i u σ H5 hu ⟨v11, F'', g, rfl, x5, s5, e5, f5, sF5, hg5⟩
          obtain ⟨wy, hw', hwv⟩ := hpl.at' hu
          obtain ⟨e, rfl, he⟩ := hwv.tt x5.t
          have hmem := List.mem_of_getElem? hw'
          refine ⟨_, rfl, _, rfl, _, rfl, _, rfl, p, v, q, e, B, R, t, wy, rfl, W.tt (Same_tt s5), x5.t.t _ _ (.inl (.inl hq)), ht1, he, hmem, fun l2 H6 s6 hl2 hL2 => ?_⟩
          have hw'0 := hw'
          obtain ⟨us2, eL2, hU2⟩ := hL2
          have f6 := s6 _ _ f5
          refine ⟨l2, rfl, ⟨_, SqL.of eL2⟩, fun D2 hD2 => ?_⟩
          refine lc_list (xs := us2) (fun n H' => Same H6 H' ∧ H' D2 = some (.lst ((((needsL B R t wy).take n).map fun u => (valV (tk F'') (kt u)).isSome).map V.bl))) ⟨same_new hD2, upd_same⟩ (fun n H' _ z => SqL.of (z.1 _ _ eL2)) (fun n v H7 hv7 z => ?_) (fun H7 z => ?_)
          · obtain ⟨s7, eD7⟩ := z
            obtain ⟨u, hu7, pu, rfl, hpu⟩ := hU2.at' hv7
            refine ⟨rfl, ?_⟩
            refine ⟨_, rfl, _, rfl, d2, _, rfl, DGet.t (s7 _ _ f6) (k := kt u) (s7 _ _ hpu), _, eD7, ?_, all_step s7 hD2 hu7⟩
            rw [List.length_map, List.length_map, List.length_take]
            have := needsL_len (B := B) W.gr (t := t) (w := wy)
            exact lt_line (by omega)
          · obtain ⟨s7, eD7⟩ := z
            rw [hU2.1, List.take_length] at eD7
            have x7 : TL K H3 H7 := x5.trans ((TL.of s6).trans (TL.of s7))
            have s7' : Same H H7 := (s5.trans s6).trans s7
            refine ⟨D2, _, rfl, .inl (.inl eD7), _, rfl, ite2 (fun hall => ?_) (fun hall => ?_)⟩
            · have hin : ∀ u ∈ needsM B R t wy, u ∈ F'' := fun u hu => by
                have := all_p.mp hall u (mem_needsL.mpr hu)
                rw [tk_some] at this
                exact of_decide_eq_true this
              have hm : Mak B R t := .mk wy ht1 hmem fun u hu => sF5.ok u (hin u hu)
              have f7 := s7 _ _ f6
              refine ⟨_, rfl, _, rfl, d2, _, rfl, DPut.t f7 (k := kt t) (x7.t.d _ _ hq) (by rw [tk_len]; exact lt_line (by have := hbd F'' sF5; omega)), ?_⟩
              refine ⟨_, insT F'' t, true, rfl, x7.trans (tl_dT f7), same_at s7' hd20, ?_, by rw [upd_same, tk_put], sF5.ins hm, Or.inl ⟨rfl, ?_⟩⟩
              · rw [upd_ne nd]
                exact s7 _ _ (s6 _ _ e5)
              · rcases hg5 with ⟨_, h⟩ | ⟨_, h, h0, h3, h4⟩
                · refine Nat.lt_of_lt_of_le h ?_
                  unfold insT
                  split
                  · exact Nat.le_refl _
                  · rw [List.length_append]
                    omega
                · have hn : t ∉ F'' := fun z => hnew (by rw [h0, ← h]; exact z)
                  rw [insT_new hn, List.length_append]
                  rw [h]
                  show _ < _ + 1
                  omega
            · refine ⟨_, F'', g, rfl, x7, s7', s7 _ _ (s6 _ _ e5), s7 _ _ f6, sF5, ?_⟩
              rcases hg5 with h | ⟨h1, h2, h0, h3, h4⟩
              · exact Or.inl h
              · refine Or.inr ⟨h1, h2, h0, h3, fun w' hw' hn => ?_⟩
                rw [List.take_add_one, hw'0, List.mem_append] at hw'
                rcases hw' with h | h
                · exact h4 w' h hn
                · rw [List.mem_singleton.mp h] at hn
                  refine hall (all_p.mpr fun u hu => ?_)
                  rw [tk_some, h2]
                  exact decide_eq_true (hn u (mem_needsL.mp hu))
        · rintro σ H5 ⟨v11, F'', g, rfl, x5, s5, e5, f5, sF5, hg5⟩
          refine ⟨_, _, F'', g, rfl, s5, e5, f5, g3.tl x5, sF5, ?_⟩
          rcases hg5 with h | ⟨h1, h2, h0, h3, h4⟩
          · exact Or.inl h
          · refine Or.inr ⟨h1, h2, fun t' ht' w' hw' hn => ?_⟩
            rw [htk] at ht'
            rcases List.mem_append.mp ht' with h | h
            · exact h3 t' h w' hw' hn
            · rw [List.mem_singleton.mp h] at hw' hn
              rw [List.take_of_length_le (by rw [hpl.1]; exact Nat.le_refl _)] at h4
              exact absurd hn (h4 w' hw')
      · have hold : t ∈ F' := Classical.byContradiction fun z => hb (by rw [decide_eq_false z]; rfl)
        refine ⟨(by decide : 0 ≤ sizeLine), fun l0 hl0 => ⟨l0, rfl, ⟨_, SqL.of upd_same⟩, for_list (xs := []) (fun i σ H' => σ = [some (.ref p), some (.ref v), some (.ref d), v3, v4, v5, v6, v7, some (.ref d2), some (.bl g), some (.ref q), v11, none, none] ∧ H' = upd H3 l0 (.lst [])) ⟨rfl, rfl⟩ ?_ ?_ ?_⟩⟩
        · rintro i σ H' _ ⟨_, rfl⟩
          exact SqL.of upd_same
        · rintro i u σ H5 hu _
          cases hu
        · rintro σ H5 ⟨rfl, rfl⟩
          have sn := same_new (o := .lst []) hl0
          refine ⟨_, _, F', g, rfl, s3.trans sn, sn _ _ e3, sn _ _ f3, g3.tl (TL.of sn), sF3, ?_⟩
          rcases hg3 with h | ⟨h1, h2, h3⟩
          · exact Or.inl h
          · refine Or.inr ⟨h1, h2, fun t' ht' w' hw' hn => ?_⟩
            rw [htk] at ht'
            rcases List.mem_append.mp ht' with h | h
            · exact h3 t' h w' hw' hn
            · rw [List.mem_singleton.mp h, ← h2]
              exact hold
    · rintro σ H3 ⟨v10, v11, F', g, rfl, s3, e3, f3, g3, sF3, hg3⟩
      rw [g3.len, List.take_length] at hg3
      have l1 := hbd F sF
      have l2 := hbd F' sF3
      refine ⟨e3, ?_⟩
      have x4 : TL K H3 (upd H3 d (.dT kvs)) := tl_frzT e3
      have f4 : (upd H3 d (.dT kvs)) d2 = some (.dT (tk F')) := by rw [upd_ne nd.symm]; exact f3
      rcases hg3 with ⟨rfl, hl⟩ | ⟨rfl, rfl, hM⟩
      · exact ⟨1001 - F'.length, by omega, _, _, _, _, _, _, _, F', true, rfl, same_at s3 hd, upd_same, f4, g3.tl x4, sF3, Or.inl ⟨rfl, rfl⟩⟩
      · exact ⟨0, by omega, _, _, _, _, _, _, _, F', false, rfl, same_at s3 hd, upd_same, f4, g3.tl x4, sF3, Or.inr ⟨rfl, rfl, hM⟩⟩
  refine iteF ?_
  have hall : ∀ {t : Th}, Mak B R t → t ∈ F := fun {t} h => by
    induction h with
    | mk w ht hw hn ih => 
      rename_i t
      exact hM t ((m1 t).mpr ⟨by omega, (Mak.lt W.g (.mk w ht hw hn)).2⟩) w hw ih
  have e3 : makM B R = lotT F := asc_uniq asc_makM asc_lotT fun t => by
    rw [mem_makM W.g, mem_lotT]
    exact ⟨hall, sF.ok t⟩
  have lM : (makM B R).length ≤ 1000 := by
    have := makM_len (B := B) (R := R)
    omega
  refine fun d3 hd3 => ?_
  have S3 := same_new (o := .dT []) hd3
  have s3 := s2.trans S3
  have hd30 : H d3 = none := none_of s2 hd3
  have n13 : d ≠ d3 := ne_of_none e2 hd3
  have f3 := S3 _ _ f2
  have c3 := S3 _ _ e2
  have g3 := g2.tl (TL.of S3)
  have x3 : (upd H2 d3 (.dT [])) d3 = some (.dT []) := upd_same
  generalize upd H2 d3 (.dT []) = H3 at s3 f3 c3 g3 x3
  refine ⟨_, rfl, d2, _, rfl, .inl f3, fun l0 bs hl0 hbs => ?_⟩
  have S4 := same_new (o := .lst (bs.map V.ref)) hl0
  have hpl : PL (ThV (upd H3 l0 (.lst (bs.map V.ref)))) (bs.map V.ref) F := (keys_ths hbs).mono fun _ _ q => q.tt (K := K) (tt_new hl0)
  have hkf : ∀ v ∈ bs.map V.ref, ∃ t, v = V.ref t ∧ (upd H3 l0 (.lst (bs.map V.ref))) t = some (.tup [.int (SoP.keyOf (upd H3 l0 (.lst (bs.map V.ref))) v).1, .int (SoP.keyOf (upd H3 l0 (.lst (bs.map V.ref))) v).2]) := fun v hv => by
    obtain ⟨j, hj⟩ := List.mem_iff_getElem?.mp hv
    obtain ⟨t', _, p', rfl, h'⟩ := hpl.at' hj
    have e' := SoP.keyed h'
    exact ⟨p', rfl, by rw [e']; exact h'⟩
  refine ⟨l0, _, SoP.keyOf (upd H3 l0 (.lst (bs.map V.ref))), rfl, SqL.of upd_same, hkf, fun ys l1 hs hb hl1 => ?_⟩
  have hP := srt_ths hpl hkf hs hb sF.nd
  have S5 := S4.trans (same_new (o := .lst ys) hl1)
  have hP5 : PL (ThV (upd (upd H3 l0 (.lst (bs.map V.ref))) l1 (.lst ys))) ys (makM B R) := by
    rw [e3]
    exact hP.mono fun _ _ q => q.tt (K := K) (tt_new hl1)
  have x5 := S5 _ _ x3
  have f5 := S5 _ _ f3
  have c5 := S5 _ _ c3
  have g5 := g3.tl (TL.of S5)
  have s5 := s3.trans S5
  have L5 : (upd (upd H3 l0 (.lst (bs.map V.ref))) l1 (.lst ys)) l1 = some (.lst ys) := upd_same
  generalize upd (upd H3 l0 (.lst (bs.map V.ref))) l1 (.lst ys) = H5 at S5 hP5 x5 f5 c5 g5 s5 L5
  refine ⟨l1, rfl, ⟨_, SqL.of L5⟩, for_list (xs := ys) (fun j σ H' => ∃ v10 v11 kvs3, σ = [some (.ref p), some (.ref v), some (.ref d), v3, v4, v5, v6, v7, some (.ref d2), some (.bl false), v10, v11, some (.ref d3), none] ∧ Same H H' ∧ TL K H5 H' ∧ H' d = some (.dT kvs) ∧ H' d2 = some (.dT (tk F)) ∧ H' d3 = some (.dT kvs3) ∧ GD K H' kvs3 ((makM B R).take j) (usW B R) ∧ ∀ t l, valV kvs3 (kt t) = some (.ref l) → H l = none) ⟨v10, v11, [], rfl, s5, TL.refl _, c5, f5, x5, GD.nil, fun _ _ h => nomatch h⟩ ?_ ?_ ?_⟩
  · rintro j σ H' _ ⟨_, _, _, _, _, x, _⟩
    exact SqL.of (x.l _ _ L5)
  · rintro j u σ H6 hu ⟨v10, v11, kvs3, rfl, s6, x6, c6, f6, d6, g6, r6⟩
    obtain ⟨t, ht, q, rfl, hq⟩ := hP5.at' hu
    have htm := List.mem_of_getElem? ht
    have hmk := (mem_makM W.g).mp htm
    have ht1 := (hmk.lt W.g).1
    have htk : (makM B R).take (j + 1) = (makM B R).take j ++ [t] := by
      rw [List.take_add_one, ht]
      rfl
    have hnew : t ∉ (makM B R).take j := fun z => by
      have h1 : ((makM B R).take j ++ [t]).Nodup := by
        rw [← htk]
        exact (asc_nodup asc_makM).sublist (List.take_sublist _ _)
      rw [List.nodup_append] at h1
      exact h1.2.2 t z t (List.mem_singleton.mpr rfl) rfl
    have hl6 : kvs3.length ≤ 1000 := by
      rw [g6.len, List.length_take]
      omega
    obtain ⟨l, hv, us, eL, hpl5⟩ := g5.v t ((m1 t).mpr ⟨by omega, (hmk.lt W.g).2⟩)
    -- found[thing] = []
    refine ⟨(by decide : 0 ≤ sizeLine), fun ln hln => ?_⟩
    have Sn := same_new (o := .lst []) hln
    have hq7 := Sn _ _ (x6.t.d _ _ hq)
    have d7 := Sn _ _ d6
    have nl3 : d3 ≠ ln := ne_of_none d6 hln
    refine ⟨_, rfl, _, rfl, d3, _, rfl, DPut.t d7 (k := kt t) hq7 (lt_line (by omega)), ?_⟩
    have x8 : TL K H6 (upd (upd H6 ln (.lst [])) d3 (.dT (putK kvs3 (kt t) (.ref ln)))) := (TL.of Sn).trans (tl_dT d7)
    have s8 : Same H (upd (upd H6 ln (.lst [])) d3 (.dT (putK kvs3 (kt t) (.ref ln)))) := same_at (s6.trans Sn) hd30
    have hln0 : H ln = none := none_of s6 hln
    have c8 : (upd (upd H6 ln (.lst [])) d3 (.dT (putK kvs3 (kt t) (.ref ln)))) d = some (.dT kvs) := by rw [upd_ne n13]; exact Sn _ _ c6
    have n23 : d2 ≠ d3 := ne_of_none f2 hd3
    have f8 : (upd (upd H6 ln (.lst [])) d3 (.dT (putK kvs3 (kt t) (.ref ln)))) d2 = some (.dT (tk F)) := by rw [upd_ne n23]; exact Sn _ _ f6
    have d8 : (upd (upd H6 ln (.lst [])) d3 (.dT (putK kvs3 (kt t) (.ref ln)))) d3 = some (.dT (putK kvs3 (kt t) (.ref ln))) := upd_same
    have L8 : (upd (upd H6 ln (.lst [])) d3 (.dT (putK kvs3 (kt t) (.ref ln)))) ln = some (.lst []) := by rw [upd_ne nl3.symm]; exact upd_same
    have hv8 : valV (putK kvs3 (kt t) (.ref ln)) (kt t) = some (.ref ln) := by rw [valV_put, if_pos rfl]
    generalize upd (upd H6 ln (.lst [])) d3 (.dT (putK kvs3 (kt t) (.ref ln))) = H8 at x8 s8 c8 f8 d8 L8
    have x58 := x6.trans x8
    have hq8 := x58.t.d _ _ hq
    have nd1 : d ≠ ln := ne_of_none c6 hln
    have nd2 : d2 ≠ ln := ne_of_none f6 hln
    -- what is kept while only ln grows
    have keep : ∀ {H'}, Fb ln ln H8 H' → TT K H8 H' := fun f => f.tl L8
    have lst8 : ∀ {b ys H'}, Fb ln ln H8 H' → H5 b = some (.lst ys) → H' b = some (.lst ys) := fun {b ys H'} f e => by
      have e6 := x6.l _ _ e
      have n : b ≠ ln := ne_of_none e6 hln
      exact f _ _ n n (x8.l _ _ e6)
    refine ⟨_, rfl, _, rfl, d, .ref l, rfl, dget_t c8 (k := kt t) hq8 hv, l, rfl, ⟨_, SqL.of (x58.l _ _ eL)⟩, for_list (xs := us) (fun i σ H' => ∃ v11, σ = [some (.ref p), some (.ref v), some (.ref d), v3, v4, v5, v6, v7, some (.ref d2), some (.bl false), some (.ref q), v11, some (.ref d3), none] ∧ Fb ln ln H8 H' ∧ Same H H' ∧ WaysL K H' ln (((waysM B R t).take i).filter fun w => (needsL B R t w).all fun u => decide (u ∈ makM B R))) ⟨v11, rfl, Fb.refl _, s8, [], L8, PL.nil⟩ ?_ ?_ ?_⟩
    · rintro i σ H' _ ⟨_, _, f, _⟩
      exact SqL.of (lst8 f eL)
    · rintro i u σ H9 hu' ⟨v11, rfl, f9, s9, wl, eN, hN⟩
      obtain ⟨wy, hw', hwv⟩ := hpl5.at' hu'
      have T9 : TT K H5 H9 := x58.t.trans (keep f9)
      obtain ⟨e, rfl, he⟩ := hwv.tt T9
      have hmem := List.mem_of_getElem? hw'
      have hi := (List.getElem?_eq_some_iff.mp hw').1
      have wlen := waysM_len (B := B) (R := R) (t := t)
      have hm1 := W.g.m1
      have hr1 := W.g.r1
      have hwk : (waysM B R t).take (i + 1) = (waysM B R t).take i ++ [wy] := by
        rw [List.take_add_one, hw']
        rfl
      refine ⟨_, rfl, _, rfl, _, rfl, _, rfl, p, v, q, e, B, R, t, wy, rfl, W.tt (Same_tt s9), .inl (.inl (T9.d _ _ hq)), ht1, he, hmem, fun l2 H10 s10 hl2 hL2 => ?_⟩
      obtain ⟨us2, eL2, hU2⟩ := hL2
      have f10 := s10 _ _ (f9 _ _ nd2 nd2 f8)
      refine ⟨l2, rfl, ⟨_, SqL.of eL2⟩, fun D2 hD2 => ?_⟩
      refine lc_list (xs := us2) (fun n H' => Same H10 H' ∧ H' D2 = some (.lst ((((needsL B R t wy).take n).map fun u => (valV (tk F) (kt u)).isSome).map V.bl))) ⟨same_new hD2, upd_same⟩ (fun n H' _ z => SqL.of (z.1 _ _ eL2)) (fun n v H11 hv7 z => ?_) (fun H11 z => ?_)
      · obtain ⟨s7, eD7⟩ := z
        obtain ⟨u, hu7, pu, rfl, hpu⟩ := hU2.at' hv7
        refine ⟨rfl, ?_⟩
        refine ⟨_, rfl, _, rfl, d2, _, rfl, DGet.t (s7 _ _ f10) (k := kt u) (s7 _ _ hpu), _, eD7, ?_, all_step s7 hD2 hu7⟩
        rw [List.length_map, List.length_map, List.length_take]
        have := needsL_len (B := B) W.gr (t := t) (w := wy)
        exact lt_line (by omega)
      · obtain ⟨s7, eD7⟩ := z
        rw [hU2.1, List.take_length] at eD7
        have S11 := s10.trans s7
        have f11 := f9.trans (Fb.of S11)
        have eN11 := S11 _ _ eN
        have hN11 := hN.mono fun _ _ z => z.tt (Same_tt S11)
        have hcond : ((needsL B R t wy).map fun u => (valV (tk F) (kt u)).isSome).all id = (needsL B R t wy).all fun u => decide (u ∈ makM B R) := by
          rw [List.all_map]
          refine List.all_congr rfl fun u => ?_
          show (valV (tk F) (kt u)).isSome = _
          rw [tk_some]
          exact decide_eq_decide.mpr (by rw [e3, mem_lotT])
        refine ⟨D2, _, rfl, .inl (.inl eD7), _, rfl, ite2 (fun hall => ?_) (fun hall => ?_)⟩
        · rw [hcond] at hall
          refine ⟨_, rfl, _, rfl, d3, .ref ln, rfl, dget_t (f11 _ _ nl3 nl3 d8) (k := kt t) ((keep f11).d _ _ hq8) hv8, .inl ⟨rfl, _, SqL.of eN11⟩, _, rfl, ln, wl, _, rfl, rfl, eN11, ?_, ?_⟩
          · rw [hN.1]
            have := List.length_filter_le (fun w => (needsL B R t w).all fun u => decide (u ∈ makM B R)) ((waysM B R t).take i)
            rw [List.length_take] at this
            exact lt_line (by omega)
          refine ⟨_, rfl, f11.trans fb_mutB, same_at (s9.trans S11) hln0, _, upd_same, ?_⟩
          rw [hwk, List.filter_append, List.filter_cons_of_pos (p := fun w => (needsL B R t w).all fun u => decide (u ∈ makM B R)) hall]
          exact (hN11.mono fun _ _ z => z.tt (tt_lst eN11)).snoc ⟨e, rfl, (tt_lst eN11).t _ _ ((Same_tt S11).t _ _ he)⟩
        · rw [hcond] at hall
          refine ⟨_, rfl, f11, s9.trans S11, _, eN11, ?_⟩
          rw [hwk, List.filter_append, List.filter_cons_of_neg (p := fun w => (needsL B R t w).all fun u => decide (u ∈ makM B R)) hall, List.filter_nil, List.append_nil]
          exact hN11
    · rintro σ H9 ⟨v11, rfl, f9, s9, wL⟩
      rw [List.take_of_length_le (by rw [hpl5.1]; exact Nat.le_refl _)] at wL
      have x9 : TL K H6 H9 := ⟨x8.t.trans (keep f9), fun b ys e => by
        have n : b ≠ ln := ne_of_none e hln
        exact f9 _ _ n n (x8.l _ _ e)⟩
      refine ⟨_, _, _, rfl, s9, x6.trans x9, f9 _ _ nd1 nd1 c8, f9 _ _ nd2 nd2 f8, f9 _ _ nl3 nl3 d8, ?_⟩
      rw [htk]
      refine ⟨(g6.tl x9).put hnew wL, fun t' l' h => ?_⟩
      rw [valV_put] at h
      split at h
      · cases h
        exact hln0
      · exact r6 t' l' h
  · rintro σ H6 ⟨v10, v11, kvs3, rfl, s6, x6, c6, f6, d6, g6, r6⟩
    rw [hP5.1, List.take_length] at g6
    exact ⟨_, rfl, k d3 kvs3 H6 s6 hd30 d6 g6 r6⟩
end
end Lk
namespace Lk
open PySem L2
section
variable {P : Program} {w : World} {K : PySem.W.Frag} {mg : Str → Option Value} {base : Heap} {a : Adr}
def spAllIn (K : PySem.W.Frag) : Sp := fun vs H Q _ => ∃ (d p : Addr) (F ts : List Th), vs = [.ref d, .ref p] ∧ H d = some (.dT (tk F)) ∧ ThsT K H p ts ∧ ts.length ≤ 10000 ∧ ∀ H', Same H H' → Q (.bl (decide (∀ u ∈ ts, u ∈ F))) H'
theorem ok_all_in (T : Txt K mg a) : FnOk P w K mg base CX0 1 a.f_all_in a.d_all_in ["made", "things"] (spAllIn K) := by
  refine T.F_all_in.ok sc_all_in (fun vs H Q E h => ?_) (fun cdv A outer s H vs Q E hr h => ?_)
  · obtain ⟨d, p, F, ts, rfl, _⟩ := h
    rfl
  obtain ⟨d, p, F, ts, rfl, hd, ⟨ws, hw, hpl⟩, hl, k⟩ := h
  refine ⟨_, (pss_one (ps_ret (pe_callB (cr_all rfl) (by rfl) T.z_all (by decide +kernel) (pa_cons (pe_lc (own := [("thing", 2)]) (g := gName 2) (tt := tYes) rfl sc_all_in.nd (pi_tup (pv 1)) (blkOk_by (N := ["made", "things", "thing"]) (sc := defScope s_all_in) (by decide +kernel)) (fun _ _ _ _ _ => pg_name (i := 2) sc_all_in.nd rfl (Or.inl rfl)) (fun _ _ _ _ _ => pts_nil) (fun _ _ _ _ _ => (pe_cmp (pc_din (hu1 hr) (pv 2) (pv 0)) rfl))) pa_nil)))), ?_⟩
  refine ⟨_, rfl, p, rfl, ⟨_, hw⟩, fun D hD => ?_⟩
  refine lc_tup (xs := ws) (fun j H' => Same H H' ∧ H' D = some (.lst (((ts.take j).map fun u => decide (u ∈ F)).map V.bl))) ⟨same_new hD, upd_same⟩ (fun j H' _ z => (Tk.of z.1).t hw) (fun j v H1 hv z => ?_) (fun H1 z => ?_)
  · obtain ⟨s1, eD⟩ := z
    obtain ⟨t, ht, hth⟩ := hpl.at' hv
    obtain ⟨pt, rfl, hpt⟩ := hth.tt (K := K) (Same_tt s1)
    have hj := (List.getElem?_eq_some_iff.mp ht).1
    refine ⟨rfl, ?_⟩
    refine ⟨_, rfl, _, rfl, d, _, rfl, DGet.t (s1 _ _ hd) (k := kt t) hpt, _, eD, ?_, same_at s1 hD, ?_⟩
    · rw [List.length_map, List.length_map, List.length_take]
      exact lt_line (by omega)
    · rw [upd_same, List.take_add_one, ht, List.map_append, List.map_append, tk_some]
      rfl
  · obtain ⟨s1, eD⟩ := z
    rw [hpl.1, List.take_length] at eD
    refine ⟨D, _, rfl, .inl (.inl eD), ?_⟩
    have e1 : ((ts.map fun u => decide (u ∈ F)).all id) = decide (∀ u ∈ ts, u ∈ F) := by
      by_cases h : ∀ u ∈ ts, u ∈ F
      · rw [decide_eq_true h]
        exact all_dec.mpr h
      · rw [decide_eq_false h]
        cases e : (ts.map fun u => decide (u ∈ F)).all id with
        | false => rfl
        | true => exact absurd (all_dec.mp e) h
    rw [e1]
    exact k H1 s1
/-- a lot of what can be made -/
structure WishV (K : PySem.W.Frag) (H : Hp) (c : Addr) (B : Bk) (R : List Row) (ts : List Th) : Prop where
  v : ThsT K H c ts
  asc : ts.Pairwise ltT
  ok : ∀ t ∈ ts, Mak B R t
theorem WishV.tt {H H' : Hp} {c : Addr} {B : Bk} {R : List Row} {ts : List Th} (x : TT K H H') (h : WishV K H c B R ts) : WishV K H' c B R ts := ⟨h.v.tt x, h.asc, h.ok⟩
theorem WishV.len {H : Hp} {c : Addr} {B : Bk} {R : List Row} {ts : List Th} (g : GoodB B) (h : WishV K H c B R ts) : ts.length ≤ R.length * B.nk := Snd.len g ⟨asc_nodup h.asc, h.ok⟩
def spIsLotOf (K : PySem.W.Frag) (a : Adr) : Sp := fun vs H Q _ => ∃ (x y d c : Addr) (B : Bk) (R : List Row) (F ts : List Th), vs = [.ref x, .ref y, .ref d, .ref c] ∧ BW K a H x y B R ∧ H d = some (.dT (tk F)) ∧ WishV K H c B R ts ∧ (∀ t ∈ ts, t ∈ F) ∧ ∀ H', Same H H' → Q (.bl true) H'
theorem ok_is_lot_of (T : Txt K mg a) : FnOk P w K mg base CX0 4 a.f_is_lot_of a.d_is_lot_of ["book", "web", "made", "thing"] (spIsLotOf K a) := by
  have G_is_thing := ok_is_thing (P := P) (w := w) (base := base) T
  refine T.F_is_lot_of.ok sc_is_lot_of (fun vs H Q E h => ?_) (fun cdv A outer s H vs Q E hr h => ?_)
  · obtain ⟨x, y, d, c, B, R, F, ts, rfl, _⟩ := h
    rfl
  obtain ⟨x, y, d, c, B, R, F, ts, rfl, W, hd, V0, hin, k⟩ := h
  have hlen := V0.len W.g
  have hR := W.l
  have hk2 := W.g.k2
  have hml : R.length * B.nk ≤ 200 * 5 := Nat.mul_le_mul hR hk2
  obtain ⟨⟨ws, hw, hpl⟩, hasc, hok⟩ := id V0
  refine ⟨_, (pss_one (ps_ret (pe_and (pe_callB call_isi (by rfl) T.z_isinstance (by decide +kernel) (pa_cons (pv 3) (pa_cons (pe_bltn (v := .ty "tuple") rfl T.z_tuple (show bootBuiltins "tuple" = some (.type "tuple") by decide +kernel) rfl) pa_nil))) (pe_and (pe_callB (cr_all rfl) (by rfl) T.z_all (by decide +kernel) (pa_cons (pe_lc (own := [("each", 4)]) (g := gName 4) (tt := tYes) rfl sc_is_lot_of.nd (pi_tup (pv 3)) (blkOk_by (N := ["book", "web", "made", "thing", "each", "at"]) (sc := defScope s_is_lot_of) (by decide +kernel)) (fun _ _ _ _ _ => pg_name (i := 4) sc_is_lot_of.nd rfl (Or.inl rfl)) (fun _ _ _ _ _ => pts_nil) (fun _ _ _ _ _ => (pe_and (pe_call G_is_thing (hr.mono (by decide)) rfl T.g_is_thing T.k_is_thing T.b_is_thing .nil pass0 (pa_cons (pv 0) (pa_cons (pv 1) (pa_cons (pv 4) pa_nil)))) (pe_one (pe_cmp (pc_din (hu1 hr) (pv 4) (pv 2)) rfl))))) pa_nil)) (pe_one (pe_callB (cr_all rfl) (by rfl) T.z_all (by decide +kernel) (pa_cons (pe_lc (own := [("at", 5)]) (g := gName 5) (tt := tYes) rfl sc_is_lot_of.nd (pi_range1 rfl T.z_range (pa_cons (pe_op op_sub (pe_callB call_len_seq (by rfl) T.z_len PySem.boot_len (pa_cons (pv 3) pa_nil)) pe_int) pa_nil)) (blkOk_by (N := ["book", "web", "made", "thing", "each", "at"]) (sc := defScope s_is_lot_of) (by decide +kernel)) (fun _ _ _ _ _ => pg_name (i := 5) sc_is_lot_of.nd rfl (Or.inl rfl)) (fun _ _ _ _ _ => pts_nil) (fun _ _ _ _ _ => (pe_cmpR (ltTK (K := K) rfl hr.units0) (pe_ix (ixT (K := K) rfl) (pv 3) (pv 5) (fun _ _ => rfl)) (pe_ix (ixT (K := K) rfl) (pv 3) (pe_op op_add (pv 5) pe_int) (fun _ _ => rfl)) (nomark _)))) pa_nil))))))), ?_⟩
  refine ⟨_, rfl, _, .ty "tuple", _, _, true, rfl, .ty "tuple", tyT hw, kit_ty (by decide +kernel), true, rfl, iteT ?_⟩
  refine ⟨_, rfl, c, rfl, ⟨_, hw⟩, fun D hD => ?_⟩
  refine lc_tup (xs := ws) (fun j H' => Same H H' ∧ H' D = some (.lst ((List.replicate j true).map V.bl))) ⟨same_new hD, upd_same⟩ (fun j H' _ z => (Tk.of z.1).t hw) (fun j v H1 hv z => ?_) (fun H1 z => ?_)
  · obtain ⟨s1, eD⟩ := z
    obtain ⟨t, ht, hth⟩ := hpl.at' hv
    obtain ⟨pt, rfl, hpt⟩ := hth.tt (K := K) (Same_tt s1)
    have hj := (List.getElem?_eq_some_iff.mp ht).1
    obtain ⟨b1, b2⟩ := (hok t (List.mem_of_getElem? ht)).lt W.g
    refine ⟨rfl, ?_⟩
    refine ⟨_, rfl, _, rfl, _, rfl, x, y, pt, B, R, t, rfl, W.same s1, .inl (.inl hpt), b1, b2, ?_⟩
    refine ⟨_, rfl, iteT ?_⟩
    refine ⟨_, rfl, _, rfl, d, _, rfl, DGet.t (s1 _ _ hd) (k := kt t) hpt, ?_⟩
    rw [tk_some, decide_eq_true (hin t (List.mem_of_getElem? ht))]
    refine ⟨_, eD, ?_, same_at s1 hD, ?_⟩
    · rw [List.length_map, List.length_replicate]
      exact lt_line (by omega)
    · rw [upd_same, List.replicate_succ', List.map_append]
      rfl
  obtain ⟨s1, eD⟩ := z
  refine ⟨D, _, rfl, .inl (.inl eD), ?_⟩
  have e1 : (List.replicate ws.length true).all id = true := by simp
  rw [e1]
  refine ⟨_, rfl, iteT ?_⟩
  have hw3 := (Tk.of s1).t hw
  -- ascending
  refine ⟨_, rfl, c, ws, rfl, .inr hw3, _, _, rfl, rfl, _, rfl, ?_⟩
  refine ⟨by omega, by rw [hpl.1]; omega, fun D3 hD3 => ?_⟩
  refine lc_range (lo := 0) (n := ((ws.length : Int) - 1).toNat) (fun j H' => Same H1 H' ∧ H' D3 = some (.lst ((List.replicate j true).map V.bl))) ⟨same_new hD3, upd_same⟩ (fun j H4 hj z => ?_) (fun H4 z => ?_)
  · obtain ⟨s4, eD3⟩ := z
    rw [nv0]
    have hj1 : j < ts.length := by rw [← hpl.1]; omega
    have hj2 : j + 1 < ts.length := by rw [← hpl.1]; omega
    have hlt : ltT ts[j] ts[j + 1] := List.pairwise_iff_getElem.mp hasc j (j + 1) hj1 hj2 (by omega)
    obtain ⟨v1, hv1, p1, rfl, hp1⟩ := hpl.at (List.getElem?_eq_getElem hj1)
    obtain ⟨v2, hv2, p2, rfl, hp2⟩ := hpl.at (List.getElem?_eq_getElem hj2)
    have t4 : TT K H H4 := Same_tt (s1.trans s4)
    have hv2' : atI ws ((j : Int) + 1) = some (.ref p2) := atI_nat (j := j + 1) hv2
    refine ⟨rfl, ?_⟩
    refine ⟨_, rfl, _, rfl, c, _, _, _, rfl, rfl, t4.t _ _ hw, atI_nat hv1, _, rfl, _, rfl, _, _, rfl, rfl, c, _, _, _, rfl, rfl, t4.t _ _ hw, hv2', p1, p2, [(ts[j].1 : Int), (ts[j].2 : Int)], [(ts[j + 1].1 : Int), (ts[j + 1].2 : Int)], rfl, rfl, .inl (.inl (t4.d _ _ hp1)), .inl (.inl (t4.d _ _ hp2)), ?_⟩
    rw [lex_th hlt]
    refine ⟨_, eD3, ?_, same_at s4 hD3, ?_⟩
    · rw [List.length_map, List.length_replicate]
      exact lt_line (by omega)
    · rw [upd_same, List.replicate_succ', List.map_append]
      rfl
  obtain ⟨s4, eD3⟩ := z
  refine ⟨D3, _, rfl, .inl (.inl eD3), ?_⟩
  have e2 : (List.replicate ((ws.length : Int) - 1).toNat true).all id = true := by simp
  rw [e2]
  exact k H4 (s1.trans s4)
def spIsWishes (K : PySem.W.Frag) (a : Adr) : Sp := fun vs H Q _ => ∃ (x y c : Addr) (B : Bk) (R : List Row) (ts : List Th), vs = [.ref x, .ref y, .ref c] ∧ BW K a H x y B R ∧ WishV K H c B R ts ∧ ∀ H', Same H H' → Q (.bl true) H'
theorem ok_is_wishes (T : Txt K mg a) : FnOk P w K mg base CX0 5 a.f_is_wishes a.d_is_wishes ["book", "web", "thing"] (spIsWishes K a) := by
  have G_makeable := ok_makeable (P := P) (w := w) (base := base) T
  have G_is_lot_of := ok_is_lot_of (P := P) (w := w) (base := base) T
  refine T.F_is_wishes.ok sc_is_wishes (fun vs H Q E h => ?_) (fun cdv A outer s H vs Q E hr h => ?_)
  · obtain ⟨x, y, c, B, R, ts, rfl, _⟩ := h
    rfl
  obtain ⟨x, y, c, B, R, ts, rfl, W, V0, k⟩ := h
  have hR := W.l
  have hk2 := W.g.k2
  have hml : R.length * B.nk ≤ 200 * 5 := Nat.mul_le_mul hR hk2
  refine ⟨_, (pss_cons (DcG.ps_setDcT (i := 3) (own := [("each", 4)]) (g := gName 4) (tt := tYes) (hu1 hr) rfl sc_is_wishes.nd rfl rfl (DcG.sw_trueD rfl rfl rfl (by decide +kernel)) (pi_tup (pe_call G_makeable (hr.mono (by decide)) rfl T.g_makeable T.k_makeable T.b_makeable .nil pass0 (pa_cons (pv 0) (pa_cons (pv 1) pa_nil)))) (blkOk_by (N := ["book", "web", "thing", "made", "each"]) (sc := defScope s_is_wishes) (by decide +kernel)) (fun _ _ _ _ _ => pg_name (i := 4) sc_is_wishes.nd rfl (Or.inl rfl)) (fun _ _ _ _ _ => pts_nil) (fun _ _ _ _ _ => pv 4) (fun _ _ _ _ _ => pe_bl))
  (pss_one (ps_ret (pe_call G_is_lot_of (hr.mono (by decide)) rfl T.g_is_lot_of T.k_is_lot_of T.b_is_lot_of .nil pass0 (pa_cons (pv 0) (pa_cons (pv 1) (pa_cons (pv 3) (pa_cons (pv 2) pa_nil)))))))), ?_⟩
  refine ⟨_, rfl, _, rfl, x, y, B, R, rfl, W, fun m H2 s2 _ hm2 => ?_⟩
  obtain ⟨wm, hwm, hplm⟩ := hm2
  refine ⟨m, rfl, ⟨_, hwm⟩, fun D2 hD2 => ?_⟩
  have hmm := makM_len (B := B) (R := R)
  refine DcG.dg_it (walk_tup (xs := wm)) (fun j H' => Same H2 H' ∧ H' D2 = some (.dT (tk (((makM B R).take j).foldl insT [])))) ⟨same_new hD2, upd_same⟩ (fun j H' _ z => (Tk.of z.1).t hwm) (fun j v H3 H4 hj z hy' => ?_) (fun H3 z => ?_)
  · obtain ⟨s3, eD2⟩ := z
    obtain ⟨e4, hv⟩ := hy'
    subst e4
    obtain ⟨t, ht, hth⟩ := hplm.at' hv
    obtain ⟨pt, rfl, hpt⟩ := hth.tt (K := K) (Same_tt s3)
    refine ⟨rfl, ?_⟩
    refine ⟨_, rfl, _, DPut.t eD2 (k := kt t) hpt ?_, same_at s3 hD2, ?_⟩
    · rw [tk_len]
      have := insTAll_len ((makM B R).take j) []
      rw [List.length_take] at this
      exact lt_line (by simp only [List.length_nil] at this; omega)
    · rw [upd_same, tk_put, take_insT ht]
  obtain ⟨s3, eD2⟩ := z
  rw [hplm.1, List.take_length] at eD2
  have S3 := s2.trans s3
  have hall : ∀ u ∈ ts, u ∈ (makM B R).foldl insT [] := fun u hu => mem_insTAll.mpr (Or.inr ((mem_makM W.g).mpr (V0.ok u hu)))
  exact ⟨_, rfl, _, rfl, _, rfl, _, rfl, x, y, D2, c, B, R, _, ts, rfl, W.same S3, eD2, V0.tt (Same_tt S3), hall, fun H4 s4 => k H4 (S3.trans s4)⟩
def spCheckWishes (K : PySem.W.Frag) (a : Adr) : Sp := fun vs H Q _ => ∃ (x y c : Addr) (B : Bk) (R : List Row) (ts : List Th), vs = [.ref x, .ref y, .ref c] ∧ BW K a H x y B R ∧ WishV K H c B R ts ∧ ∀ H', Same H H' → Q .non H'
theorem ok_check_wishes (T : Txt K mg a) : FnOk P w K mg base CX0 6 a.f_check_wishes a.d_check_wishes ["book", "web", "wishes"] (spCheckWishes K a) := by
  have G_check_web := ok_check_web (P := P) (w := w) (base := base) T
  have G_is_wishes := ok_is_wishes (P := P) (w := w) (base := base) T
  refine T.F_check_wishes.ok sc_check_wishes (fun vs H Q E h => ?_) (fun cdv A outer s H vs Q E hr h => ?_)
  · obtain ⟨x, y, c, B, R, ts, rfl, _⟩ := h
    rfl
  obtain ⟨x, y, c, B, R, ts, rfl, W, V0, k⟩ := h
  refine ⟨_, (pss_cons (ps_expr (pe_call G_check_web (hr.mono (by decide)) rfl T.g_check_web T.k_check_web T.b_check_web .nil pass0 (pa_cons (pv 0) (pa_cons (pv 1) pa_nil))))
  (pss_one (ps_if (pt_not (pt_val (pe_call G_is_wishes (hr.mono (by decide)) rfl T.g_is_wishes T.k_is_wishes T.b_is_wishes .nil pass0 (pa_cons (pv 0) (pa_cons (pv 1) (pa_cons (pv 2) pa_nil))))))
    (pss_one ps_never)
    pss_nil))), ?_⟩
  refine ⟨_, rfl, _, rfl, x, y, B, R, rfl, W, fun H1 s1 => ?_⟩
  exact ⟨_, rfl, _, rfl, _, rfl, x, y, c, B, R, ts, rfl, W.same s1, V0.tt (Same_tt s1), fun H2 s2 => ⟨_, rfl, iteF (k H2 (s1.trans s2))⟩⟩
end
end Lk
/-! an own error without arguments is made: my own rule beside the layer's for one argument and more -/
namespace ExB
open PySem PySem.Spec PyProof.Rows L2
variable {X : Cx} {C : Addr} {bmB : List Value} {B newId initId : String}
theorem pmk_bare {x : Str} {p pos : Pos} (F : ExcBaseFacts B newId initId bmB) (q : PySem.W.excIn X.K C bmB newId = true) (gC : X.mg x = some (.ref C)) (kC : PySem.W.keepIn X.K (.ref C) = true) (r : Raises X (.ref C)) (hg : Gl X x)
    (hdb : (x == ("__debug__" : Str)) = false := by decide) : PMk X (.Call (.Name x p) [] [] pos) (fun _ H Q => Q (.ref C) none H) := by
  intro pins s σ H Q I h
  refine wpAny_Call_Name_kw (ld_glob I hg gC (PySem.W.callWith_K0 I.kIn kC ?_) hdb)
  have hobj := exc_obj I.kIn q
  obtain ⟨bm, N, nm, qn, bs, hdct, sn, sub, ab, col, dd, k0, k1, k2, k3, k5, mN, hC, hN, hni, tl⟩ := hobj
  exact wpAny_call_exc_subT F tl hC hN hni (fun h' e hm => mk_of I hm r h (I.hok.gone hm.new)) (Nat.zero_le _)
end ExB
namespace Lk
open PySem L2
section
/-! plans -/
abbrev Mg := Th × Wy
def pgo (B : Bk) (R : List Row) : List Th → List Mg → Option (List Th)
  | F, [] => some F
  | F, m :: ms => if m.1 ∈ F ∨ ¬ ∀ u ∈ needsM B R m.1 m.2, u ∈ F then none else pgo B R (insT F m.1) ms
theorem pgo_app (B : Bk) (R : List Row) : ∀ (ms ns : List Mg) (F : List Th), pgo B R F (ms ++ ns) = (pgo B R F ms).bind fun G => pgo B R G ns
  | [], ns, F => rfl
  | m :: ms, ns, F => by
    show (if m.1 ∈ F ∨ ¬ ∀ u ∈ needsM B R m.1 m.2, u ∈ F then none else pgo B R (insT F m.1) (ms ++ ns)) = (if m.1 ∈ F ∨ ¬ ∀ u ∈ needsM B R m.1 m.2, u ∈ F then none else pgo B R (insT F m.1) ms).bind fun G => pgo B R G ns
    split
    · rfl
    · exact pgo_app B R ms ns (insT F m.1)
theorem pgo_none {B : Bk} {R : List Row} {ms : List Mg} {F : List Th} {j : Nat} (h : pgo B R F (ms.take j) = none) : pgo B R F ms = none := by
  rw [← List.take_append_drop j ms, pgo_app, h]
  rfl
theorem pgo_step {B : Bk} {R : List Row} {ms : List Mg} {F G : List Th} {j : Nat} {m : Mg} (h : pgo B R F (ms.take j) = some G) (hm : ms[j]? = some m) : pgo B R F (ms.take (j + 1)) = if m.1 ∈ G ∨ ¬ ∀ u ∈ needsM B R m.1 m.2, u ∈ G then none else some (insT G m.1) := by
  rw [List.take_add_one, hm, pgo_app, h]
  rfl
/-- whether the makings are a plan for these -/
def isPlan (B : Bk) (R : List Row) (ts : List Th) (ms : List Mg) : Bool := match pgo B R [] ms with
  | none => false
  | some F => decide (∀ t ∈ ts, t ∈ F)
def VMg (B : Bk) (R : List Row) (m : Mg) : Prop := m.1.1 < R.length ∧ m.1.2 < B.nk ∧ m.2 ∈ waysM B R m.1
variable {K : PySem.W.Frag}
def MgV (K : PySem.W.Frag) (H : Hp) (v : V) (m : Mg) : Prop := ∃ p q, v = .ref p ∧ H p = some (.tup [nv m.1.1, nv m.1.2, .ref q]) ∧ SqT K H q [.str (wd m.2.1), nv m.2.2]
theorem MgV.tt {H H' : Hp} {v : V} {m : Mg} (x : TT K H H') (h : MgV K H v m) : MgV K H' v m := by
  obtain ⟨p, q, e, h1, h2⟩ := h
  exact ⟨p, q, e, x.d _ _ h1, x.t _ _ h2⟩
/-- a tuple of makings -/
structure PlanV (K : PySem.W.Frag) (H : Hp) (p : Addr) (B : Bk) (R : List Row) (ms : List Mg) : Prop where
  v : ∃ vs, SqT K H p vs ∧ PL (MgV K H) vs ms
  ok : ∀ m ∈ ms, VMg B R m
  l : ms.length ≤ 1000
theorem PlanV.tt {H H' : Hp} {p : Addr} {B : Bk} {R : List Row} {ms : List Mg} (x : TT K H H') (h : PlanV K H p B R ms) : PlanV K H' p B R ms := by
  obtain ⟨⟨vs, h1, h2⟩, h3, h4⟩ := h
  exact ⟨⟨vs, x.t _ _ h1, h2.mono fun _ _ q => q.tt x⟩, h3, h4⟩
theorem insT_len (F : List Th) (t : Th) : (insT F t).length ≤ F.length + 1 := by
  have := insTAll_len [t] F
  exact this
end
section
variable {P : Program} {w : World} {K : PySem.W.Frag} {mg : Str → Option Value} {base : Heap} {a : Adr}
def spIsMaking (K : PySem.W.Frag) (a : Adr) : Sp := fun vs H Q _ => ∃ (x y : Addr) (v : V) (B : Bk) (R : List Row) (m : Mg), vs = [.ref x, .ref y, v] ∧ BW K a H x y B R ∧ MgV K H v m ∧ VMg B R m ∧ ∀ H', Same H H' → Q (.bl true) H'
theorem ok_is_making (T : Txt K mg a) : FnOk P w K mg base CX0 5 a.f_is_making a.d_is_making ["book", "web", "thing"] (spIsMaking K a) := by
  have G_is_tuple_of := ok_is_tuple_of (P := P) (w := w) (base := base) T
  have G_is_thing := ok_is_thing (P := P) (w := w) (base := base) T
  have G_is_way_to := ok_is_way_to (P := P) (w := w) (base := base) T
  refine T.F_is_making.ok sc_is_making (fun vs H Q E h => ?_) (fun cdv A outer s H vs Q E hr h => ?_)
  · obtain ⟨x, y, v, B, R, m, rfl, _⟩ := h
    rfl
  obtain ⟨x, y, v, B, R, m, rfl, W, ⟨p, q, rfl, hp0, hq⟩, ⟨b1, b2, b3⟩, k⟩ := h
  have hp : SqT K H p [nv m.1.1, nv m.1.2, .ref q] := .inl (.inl hp0)
  refine ⟨_, (pss_one (ps_ret (pe_and (pe_call G_is_tuple_of (hr.mono (by decide)) rfl T.g_is_tuple_of T.k_is_tuple_of T.b_is_tuple_of .nil pass0 (pa_cons pe_int (pa_cons pe_int (pa_cons (pv 2) pa_nil)))) (pe_and (pe_call G_is_thing (hr.mono (by decide)) rfl T.g_is_thing T.k_is_thing T.b_is_thing .nil pass0 (pa_cons (pv 0) (pa_cons (pv 1) (pa_cons (pe_slice sl_tup (pv 2) po_none (po_some pe_int)) pa_nil)))) (pe_one (pe_call G_is_way_to (hr.mono (by decide)) rfl T.g_is_way_to T.k_is_way_to T.b_is_way_to .nil pass0 (pa_cons (pv 0) (pa_cons (pv 1) (pa_cons (pe_slice sl_tup (pv 2) po_none (po_some pe_int)) (pa_cons (pe_ix ix_tup (pv 2) pe_int (fun _ _ => rfl)) pa_nil)))))))))), ?_⟩
  refine ⟨_, rfl, .ref p, "tuple", 3, 3, rfl, .tup, tyT hp, .inr ⟨p, _, rfl, rfl, hp, ?_⟩⟩
  refine ⟨_, rfl, iteT ?_⟩
  refine ⟨_, rfl, _, rfl, _, rfl, _, rfl, p, _, rfl, hp, (by show ¬ (HT.sIx 3 0 none = 0 ∧ HT.sIx 3 3 (some 2) = 3); decide), fun c hc => ?_⟩
  have s1 := same_new (o := .tup [nv m.1.1, nv m.1.2]) hc
  refine ⟨x, y, c, B, R, m.1, rfl, W.same s1, .inl (.inl upd_same), b1, b2, ?_⟩
  refine ⟨_, rfl, iteT ?_⟩
  have hp1 := (tt_new (K := K) (o := .tup [nv m.1.1, nv m.1.2]) hc).t _ _ hp
  refine ⟨_, rfl, _, rfl, _, rfl, _, rfl, p, _, rfl, hp1, (by show ¬ (HT.sIx 3 0 none = 0 ∧ HT.sIx 3 3 (some 2) = 3); decide), fun c2 hc2 => ?_⟩
  have s2 := s1.trans (same_new (o := .tup [nv m.1.1, nv m.1.2]) hc2)
  have t2 := tt_new (K := K) (o := .tup [nv m.1.1, nv m.1.2]) hc2
  refine ⟨_, rfl, p, _, _, _, rfl, rfl, t2.t _ _ hp1, rfl, x, y, c2, q, B, R, m.1, m.2, rfl, W.same s2, .inl (.inl upd_same), b1, (Same_tt s2).t _ _ hq, b3, fun H3 s3 => ?_⟩
  exact k H3 (s2.trans s3)
def spIsPlanFor (K : PySem.W.Frag) (a : Adr) : Sp := fun vs H Q _ => ∃ (x y c p : Addr) (B : Bk) (R : List Row) (ts : List Th) (ms : List Mg), vs = [.ref x, .ref y, .ref c, .ref p] ∧ BW K a H x y B R ∧ ThsT K H c ts ∧ ts.length ≤ 10000 ∧ PlanV K H p B R ms ∧ ∀ H', Same H H' → Q (.bl (isPlan B R ts ms)) H'
theorem ok_is_plan_for (T : Txt K mg a) : FnOk P w K mg base CX0 6 a.f_is_plan_for a.d_is_plan_for ["book", "web", "wishes", "thing"] (spIsPlanFor K a) := by
  have G_is_making := ok_is_making (P := P) (w := w) (base := base) T
  have G_needs_for := ok_needs_for (P := P) (w := w) (base := base) T
  have G_all_in := ok_all_in (P := P) (w := w) (base := base) T
  refine T.F_is_plan_for.ok sc_is_plan_for (fun vs H Q E h => ?_) (fun cdv A outer s H vs Q E hr h => ?_)
  · obtain ⟨x, y, c, p, B, R, ts, ms, rfl, _⟩ := h
    rfl
  obtain ⟨x, y, c, p, B, R, ts, ms, rfl, W, hts, hlt, V0, k⟩ := h
  obtain ⟨⟨ws, hw, hpl⟩, hok, hlm⟩ := id V0
  have no : ∀ j, pgo B R [] (ms.take j) = none → isPlan B R ts ms = false := fun j h => by
    unfold isPlan
    rw [pgo_none h]
  refine ⟨_, (pss_cons (ps_if (pt_not (pt_val (pe_callB call_isi (by rfl) T.z_isinstance (by decide +kernel) (pa_cons (pv 3) (pa_cons (pe_bltn (v := .ty "tuple") rfl T.z_tuple (show bootBuiltins "tuple" = some (.type "tuple") by decide +kernel) rfl) pa_nil)))))
    (pss_one (ps_ret pe_bl))
    pss_nil)
  (pss_cons (ps_set (i := 4) sc_is_plan_for.nd rfl (Or.inl rfl) pe_dnewT)
  (pss_cons (ps_for PassesOwn.never rfl (pi_tup (pv 3)) (pg_name (i := 5) sc_is_plan_for.nd rfl (Or.inl rfl))
    (pss_cons (ps_if (pt_not (pt_val (pe_call G_is_making (hr.mono (by decide)) rfl T.g_is_making T.k_is_making T.b_is_making .nil pass0 (pa_cons (pv 0) (pa_cons (pv 1) (pa_cons (pv 5) pa_nil))))))
    (pss_one (ps_ret pe_bl))
    pss_nil)
  (pss_cons (ps_set (i := 6) sc_is_plan_for.nd rfl (Or.inl rfl) (pe_slice sl_tup (pv 5) po_none (po_some pe_int)))
  (pss_cons (ps_if (PW.pt (pw_or (pt_cmp (pc_din (hu1 hr) (pv 6) (pv 4))) (pw_or1 (pt_not (pt_val (pe_call G_all_in (hr.mono (by decide)) rfl T.g_all_in T.k_all_in T.b_all_in .nil pass0 (pa_cons (pv 4) (pa_cons (pe_call G_needs_for (hr.mono (by decide)) rfl T.g_needs_for T.k_needs_for T.b_needs_for .nil pass0 (pa_cons (pv 0) (pa_cons (pv 1) (pa_cons (pv 6) (pa_cons (pe_ix ix_tup (pv 5) pe_int (fun _ _ => rfl)) pa_nil))))) pa_nil))))))))
    (pss_one (ps_ret pe_bl))
    pss_nil)
  (pss_one (ps_dput (hu1 hr) (pv 4) (pv 6) pe_bl rfl))))))
  (pss_one (ps_ret (pe_call G_all_in (hr.mono (by decide)) rfl T.g_all_in T.k_all_in T.b_all_in .nil pass0 (pa_cons (pv 4) (pa_cons (pv 2) pa_nil)))))))), ?_⟩
  refine ⟨_, rfl, _, .ty "tuple", _, _, true, rfl, .ty "tuple", tyT hw, kit_ty (by decide +kernel), true, rfl, iteF ?_⟩
  refine fun d hd => ?_
  refine ⟨_, rfl, p, rfl, ⟨_, (tt_new hd).t _ _ hw⟩, for_tup (xs := ws) (fun j σ H' => ∃ v5 v6 F, σ = [some (.ref x), some (.ref y), some (.ref c), some (.ref p), some (.ref d), v5, v6] ∧ Same H H' ∧ H' d = some (.dT (tk F)) ∧ pgo B R [] (ms.take j) = some F ∧ F.length ≤ j) ⟨none, none, [], rfl, same_new hd, upd_same, rfl, Nat.le_refl _⟩ ?_ ?_ ?_⟩
  · rintro j σ H' _ ⟨_, _, _, _, s1, _⟩
    exact (Tk.of s1).t hw
  · rintro j v σ H1 hv ⟨v5, v6, F, rfl, s1, e1, hgo, hF⟩
    obtain ⟨m, hm, hmv⟩ := hpl.at' hv
    have hj := (List.getElem?_eq_some_iff.mp hm).1
    have hmv1 := hmv.tt (K := K) (Same_tt s1)
    have hvm := hok m (List.mem_of_getElem? hm)
    have hstep := pgo_step hgo hm
    refine ⟨_, rfl, _, rfl, _, rfl, x, y, v, B, R, m, rfl, W.same s1, hmv1, hvm, fun H2 s2 => ⟨_, rfl, iteF ?_⟩⟩
    obtain ⟨pm, qm, rfl, hpm0, hqm⟩ := hmv1.tt (Same_tt s2)
    have hpm : SqT K H2 pm [nv m.1.1, nv m.1.2, .ref qm] := .inl (.inl hpm0)
    refine ⟨_, rfl, _, rfl, pm, _, rfl, hpm, (by show ¬ (HT.sIx 3 0 none = 0 ∧ HT.sIx 3 3 (some 2) = 3); decide), fun t0 ht0 => ?_⟩
    have S3 := (s1.trans s2).trans (same_new (o := .tup [nv m.1.1, nv m.1.2]) ht0)
    have e3 := (same_new (o := .tup [nv m.1.1, nv m.1.2]) ht0) _ _ (s2 _ _ e1)
    have ht3 : (upd H2 t0 (.tup [nv m.1.1, nv m.1.2])) t0 = some (.tup [nv m.1.1, nv m.1.2]) := upd_same
    have tt3 := tt_new (K := K) (o := .tup [nv m.1.1, nv m.1.2]) ht0
    have hpm3 := tt3.t _ _ hpm
    have hqm3 := tt3.t _ _ hqm
    show tSeq _ _ _ _ (upd H2 t0 (.tup [nv m.1.1, nv m.1.2]))
    generalize upd H2 t0 (.tup [nv m.1.1, nv m.1.2]) = H3 at S3 e3 ht3 hpm3 hqm3
    refine ⟨_, rfl, _, rfl, d, _, rfl, DGet.t e3 (k := kt m.1) ht3, _, rfl, ?_⟩
    rw [tk_some]
    refine ite2 (fun h1 => ?_) (fun h1 => ?_)
    · have h1 := of_decide_eq_true h1
      refine iteT ?_
      have e := k H3 S3
      rw [no (j + 1) (by rw [hstep, if_pos (Or.inl h1)])] at e
      exact e
    · have h1 : ¬ m.1 ∈ F := fun q => h1 (decide_eq_true q)
      refine ⟨_, rfl, _, rfl, _, rfl, _, rfl, _, rfl, pm, _, _, _, rfl, rfl, hpm3, rfl, x, y, t0, qm, B, R, m.1, m.2, rfl, W.same S3, .inl (.inl ht3), hvm.1, hqm3, hvm.2.2, fun q1 H4 s4 _ hn4 => ?_⟩
      have hnl := needs_len (B := B) W.gr (t := m.1) (w := m.2)
      refine ⟨d, q1, F, _, rfl, s4 _ _ e3, hn4, by omega, fun H5 s5 => ⟨_, rfl, ite2 (fun h2 => ?_) (fun h2 => ?_)⟩⟩
      · have h2 : ¬ ∀ u ∈ needsM B R m.1 m.2, u ∈ F := of_decide_eq_false (by simpa using h2)
        have e := k H5 ((S3.trans s4).trans s5)
        rw [no (j + 1) (by rw [hstep, if_pos (Or.inr h2)])] at e
        exact e
      · have h2 : ∀ u ∈ needsM B R m.1 m.2, u ∈ F := Classical.byContradiction fun q => h2 (by rw [decide_eq_false q]; rfl)
        have e5 := s5 _ _ (s4 _ _ e3)
        refine ⟨_, rfl, _, rfl, d, _, rfl, DPut.t e5 (k := kt m.1) (s5 _ _ (s4 _ _ ht3)) (by rw [tk_len]; exact lt_line (by omega)), ?_⟩
        refine ⟨_, _, insT F m.1, rfl, same_at ((S3.trans s4).trans s5) hd, by rw [upd_same, tk_put], ?_, ?_⟩
        · rw [hstep, if_neg (fun q => q.elim h1 fun z => z h2)]
        · have := insT_len F m.1
          omega
  · rintro σ H1 ⟨v5, v6, F, rfl, s1, e1, hgo, hF⟩
    rw [hpl.1, List.take_length] at hgo
    refine ⟨_, rfl, _, rfl, d, c, F, ts, rfl, e1, hts.tt (Same_tt s1), hlt, fun H2 s2 => ?_⟩
    have e := k H2 (s1.trans s2)
    unfold isPlan at e
    rw [hgo] at e
    exact e
end
end Lk
namespace Lk
open PySem L2
section
variable {P : Program} {w : World} {K : PySem.W.Frag} {mg : Str → Option Value} {base : Heap} {a : Adr}
def spCheckPlan (K : PySem.W.Frag) (a : Adr) : Sp := fun vs H Q E => ∃ (x y c p : Addr) (B : Bk) (R : List Row) (ts : List Th) (ms : List Mg), vs = [.ref x, .ref y, .ref c, .ref p] ∧ BW K a H x y B R ∧ ThsT K H c ts ∧ ts.length ≤ 10000 ∧ PlanV K H p B R ms ∧ ∀ H', Same H H' → (isPlan B R ts ms = true → Q .non H') ∧ (isPlan B R ts ms = false → E (.ref a.c_NoPlan) none H')
theorem ok_check_plan (T : Txt K mg a) : FnOk P w K mg base (L2.CX P w) 7 a.f_check_plan a.d_check_plan ["book", "web", "wishes", "plan"] (spCheckPlan K a) := by
  have G_is_plan_for := ok_is_plan_for (P := P) (w := w) (base := base) T
  refine T.F_check_plan.okX sc_check_plan (fun vs H Q E h => ?_) (fun cdv A outer s H vs Q E hr h => ?_)
  · obtain ⟨x, y, c, p, B, R, ts, ms, rfl, _⟩ := h
    rfl
  obtain ⟨x, y, c, p, B, R, ts, ms, rfl, W, hts, hlt, V0, k⟩ := h
  refine ⟨_, (pss_one (ps_if (pt_not (pt_val (pe_call G_is_plan_for (hr.mono (by decide)) rfl T.g_is_plan_for T.k_is_plan_for T.b_is_plan_for .nil pass0 (pa_cons (pv 0) (pa_cons (pv 1) (pa_cons (pv 2) (pa_cons (pv 3) pa_nil)))))))
    (pss_one (ps_raise rfl (takes_of rfl rfl rfl rfl) (ExB.pmk_bare PySem.F.excBase_ValueError T.X_NoPlan T.g_NoPlan T.K_NoPlan (raises_own T.B_NoPlan T.T_NoPlan) rfl)))
    pss_nil)), ?_⟩
  refine ⟨_, rfl, _, rfl, _, rfl, _, rfl, x, y, c, p, B, R, ts, ms, rfl, W, hts, hlt, V0, fun H1 s1 => ⟨_, rfl, ite2 (fun h => ?_) (fun h => ?_)⟩⟩
  · exact (k H1 s1).2 (by cases e : isPlan B R ts ms with
      | false => rfl
      | true => rw [e] at h; cases h)
  · exact (k H1 s1).1 (by cases e : isPlan B R ts ms with
      | true => rfl
      | false => rw [e] at h; exact absurd rfl h)
def spIsPlan (K : PySem.W.Frag) (a : Adr) : Sp := fun vs H Q _ => ∃ (x y c p : Addr) (B : Bk) (R : List Row) (ts : List Th) (ms : List Mg), vs = [.ref x, .ref y, .ref c, .ref p] ∧ BW K a H x y B R ∧ WishV K H c B R ts ∧ PlanV K H p B R ms ∧ ∀ H', Same H H' → Q (.bl (isPlan B R ts ms)) H'
theorem ok_is_plan (T : Txt K mg a) : FnOk P w K mg base CX0 8 a.f_is_plan a.d_is_plan ["book", "web", "wishes", "thing"] (spIsPlan K a) := by
  have G_check_wishes := ok_check_wishes (P := P) (w := w) (base := base) T
  have G_is_plan_for := ok_is_plan_for (P := P) (w := w) (base := base) T
  refine T.F_is_plan.ok sc_is_plan (fun vs H Q E h => ?_) (fun cdv A outer s H vs Q E hr h => ?_)
  · obtain ⟨x, y, c, p, B, R, ts, ms, rfl, _⟩ := h
    rfl
  obtain ⟨x, y, c, p, B, R, ts, ms, rfl, W, V1, V0, k⟩ := h
  have hlen := V1.len W.g
  have hml : R.length * B.nk ≤ 200 * 5 := Nat.mul_le_mul W.l W.g.k2
  refine ⟨_, (pss_cons (ps_expr (pe_call G_check_wishes (hr.mono (by decide)) rfl T.g_check_wishes T.k_check_wishes T.b_check_wishes .nil pass0 (pa_cons (pv 0) (pa_cons (pv 1) (pa_cons (pv 2) pa_nil)))))
  (pss_one (ps_ret (pe_call G_is_plan_for (hr.mono (by decide)) rfl T.g_is_plan_for T.k_is_plan_for T.b_is_plan_for .nil pass0 (pa_cons (pv 0) (pa_cons (pv 1) (pa_cons (pv 2) (pa_cons (pv 3) pa_nil)))))))), ?_⟩
  refine ⟨_, rfl, _, rfl, _, rfl, x, y, c, B, R, ts, rfl, W, V1, fun H1 s1 => ?_⟩
  exact ⟨_, rfl, _, rfl, _, rfl, _, rfl, x, y, c, p, B, R, ts, ms, rfl, W.same s1, V1.v.tt (Same_tt s1), by omega, V0.tt (Same_tt s1), fun H2 s2 => k H2 (s1.trans s2)⟩
/-- the price of a way -/
def spWayPrice (K : PySem.W.Frag) (a : Adr) : Sp := fun vs H Q _ => ∃ (x q : Addr) (B : Bk) (u : Wy), vs = [.ref x, .ref q] ∧ BookV K a.c_Book H x B ∧ SqT K H q [.str (wd u.1), nv u.2] ∧ (u.1 = false → u.2 < B.ms.length) ∧ (u.1 = true → u.2 < B.rs.length) ∧ Q (nv (priceW B u)) H
theorem ok_way_price (T : Txt K mg a) : FnOk P w K mg base CX0 1 a.f_way_price a.d_way_price ["book", "way"] (spWayPrice K a) := by
  refine T.F_way_price.ok sc_way_price (fun vs H Q E h => ?_) (fun cdv A outer s H vs Q E hr h => ?_)
  · obtain ⟨x, q, B, u, rfl, _⟩ := h
    rfl
  obtain ⟨x, q, B, ⟨b, i⟩, rfl, ⟨dx, pa, pr, pm, hx, hx2, ⟨wr, hr1, hr2⟩, ⟨wm, hm1, hm2⟩⟩, hq, c1, c2, k⟩ := h
  refine ⟨_, (pss_cons (ps_asg (pv 1) (pg_tup (by rfl) (pgs_cons (pg_name (i := 2) sc_way_price.nd rfl (Or.inl rfl)) (pgs_cons (pg_name (i := 3) sc_way_price.nd rfl (Or.inl rfl)) pgs_nil))))
  (pss_cons (ps_if (pt_cmpR op_eq (pv 2) pe_str (nomark _))
    (pss_one (ps_ret (pe_ix ix_tup (pe_ix ix_tup (pe_fld (pv 0) rfl) (pv 3) (fun _ _ => rfl)) pe_int (fun _ _ => rfl))))
    pss_nil)
  (pss_one (ps_ret (pe_ix ix_tup (pe_ix ix_tup (pe_fld (pv 0) rfl) (pv 3) (fun _ _ => rfl)) pe_int (fun _ _ => rfl)))))), ?_⟩
  refine ⟨_, rfl, q, _, rfl, hq, rfl, _, _, rfl, _, _, rfl, rfl, ?_⟩
  cases b with
  | false =>
    obtain ⟨vm, hvm, pm1, rfl, hpm⟩ := hm2.at (mAt_of (c1 rfl))
    refine ⟨_, rfl, rfl, _, rfl, iteC (decide_eq_true rfl) ?_⟩
    exact ⟨_, rfl, x, a.c_Book, dx, _, _, rfl, hx, T.C_Book, T.N_moves, rfl, _, rfl, pm, _, _, _, rfl, rfl, hm1, atI_nat hvm, pm1, _, _, _, rfl, rfl, hpm, rfl, k⟩
  | true =>
    obtain ⟨vm, hvm, pr1, qr1, rfl, hpr, hqr⟩ := hr2.at (rAt_of (c2 rfl))
    refine ⟨_, rfl, rfl, _, rfl, iteD (decide_eq_false (by intro z; exact absurd (wd_inj (b := true) (c := false) (V.str.inj z)) (by decide))) ?_⟩
    exact ⟨_, rfl, x, a.c_Book, dx, _, _, rfl, hx, T.C_Book, T.N_rules, rfl, _, rfl, pr, _, _, _, rfl, rfl, hr1, atI_nat hvm, pr1, _, _, _, rfl, rfl, hpr, rfl, k⟩
end
end Lk
namespace Lk
open PySem L2
section
theorem PL.drop {α : Type} {P : V → α → Prop} {vs : List V} {xs : List α} (h : PL P vs xs) (n : Nat) : PL P (vs.drop n) (xs.drop n) := by
  refine ⟨by rw [List.length_drop, List.length_drop, h.1], fun i v x a b => ?_⟩
  rw [List.getElem?_drop] at a b
  exact h.2 _ v x a b
/-! plans: what is come to from the wishes -/
def tgs (ms : List Mg) : List Th := ms.map (·.1)
theorem pgo_mem {B : Bk} {R : List Row} : ∀ {ms : List Mg} {F G : List Th}, pgo B R F ms = some G → ∀ t, t ∈ G ↔ t ∈ F ∨ t ∈ tgs ms
  | [], F, G, h, t => by
    cases h
    simp [tgs]
  | m :: ms, F, G, h, t => by
    have h' : (if m.1 ∈ F ∨ ¬ ∀ u ∈ needsM B R m.1 m.2, u ∈ F then none else pgo B R (insT F m.1) ms) = some G := h
    split at h'
    · cases h'
    · rw [pgo_mem h' t, mem_insT]
      show _ ↔ t ∈ F ∨ t ∈ m.1 :: tgs ms
      rw [List.mem_cons]
      exact ⟨fun q => q.elim (fun q => q.elim Or.inl fun q => Or.inr (Or.inl q)) fun q => Or.inr (Or.inr q), fun q => q.elim (fun q => Or.inl (Or.inl q)) fun q => q.elim (fun q => Or.inl (Or.inr q)) Or.inr⟩
/-- each behind what it needs, of unlike things -/
def Ord (B : Bk) (R : List Row) (ms : List Mg) : Prop := ∀ j m, ms[j]? = some m → m.1 ∉ tgs (ms.take j) ∧ ∀ u ∈ needsM B R m.1 m.2, u ∈ tgs (ms.take j)
theorem ord_pgo {B : Bk} {R : List Row} {ms : List Mg} (h : Ord B R ms) : ∀ j, ∃ G, pgo B R [] (ms.take j) = some G
  | 0 => ⟨[], rfl⟩
  | j + 1 => by
    obtain ⟨G, hG⟩ := ord_pgo h j
    cases e : ms[j]? with
    | none =>
      rw [List.take_add_one, e]
      exact ⟨G, by simpa using hG⟩
    | some m =>
      obtain ⟨a1, a2⟩ := h j m e
      have hm := pgo_mem hG
      refine ⟨insT G m.1, ?_⟩
      rw [pgo_step hG e, if_neg]
      rintro (q | q)
      · rcases (hm _).mp q with z | z
        · cases z
        · exact a1 z
      · exact q fun u hu => (hm _).mpr (Or.inr (a2 u hu))
theorem pgo_ord {B : Bk} {R : List Row} {ms : List Mg} {F : List Th} (h : pgo B R [] ms = some F) : Ord B R ms := by
  intro j m e
  cases hG : pgo B R [] (ms.take j) with
  | none => rw [pgo_none hG] at h; cases h
  | some G =>
    have hs := pgo_step hG e
    have hm := pgo_mem hG
    by_cases c : m.1 ∈ G ∨ ¬ ∀ u ∈ needsM B R m.1 m.2, u ∈ G
    · rw [if_pos c] at hs
      rw [pgo_none hs] at h
      cases h
    · refine ⟨fun q => c (Or.inl ((hm _).mpr (Or.inr q))), fun u hu => ?_⟩
      have : u ∈ G := Classical.byContradiction fun q => c (Or.inr fun z => q (z u hu))
      rcases (hm _).mp this with z | z
      · cases z
      · exact z
theorem isPlan_iff {B : Bk} {R : List Row} {ts : List Th} {ms : List Mg} : isPlan B R ts ms = true ↔ Ord B R ms ∧ ∀ t ∈ ts, t ∈ tgs ms := by
  constructor
  · intro h
    unfold isPlan at h
    cases e : pgo B R [] ms with
    | none => rw [e] at h; cases h
    | some F =>
      rw [e] at h
      refine ⟨pgo_ord e, fun t ht => ?_⟩
      rcases (pgo_mem e t).mp (of_decide_eq_true h t ht) with z | z
      · cases z
      · exact z
  · rintro ⟨h, k⟩
    obtain ⟨F, hF⟩ := ord_pgo h ms.length
    rw [List.take_length] at hF
    unfold isPlan
    rw [hF]
    exact decide_eq_true fun t ht => (pgo_mem hF t).mpr (Or.inr (k t ht))
theorem tgs_at {ms : List Mg} {j k : Nat} {m : Mg} (e : ms[k]? = some m) (h : k < j) : m.1 ∈ tgs (ms.take j) := by
  refine List.mem_map.mpr ⟨m, ?_, rfl⟩
  refine List.mem_of_getElem? (i := k) ?_
  rw [List.getElem?_take_of_lt h]
  exact e
theorem tgs_ex {ms : List Mg} {j : Nat} {t : Th} (h : t ∈ tgs (ms.take j)) : ∃ k m, k < j ∧ ms[k]? = some m ∧ m.1 = t := by
  obtain ⟨m, hm, rfl⟩ := List.mem_map.mp h
  obtain ⟨k, hk⟩ := List.mem_iff_getElem?.mp hm
  have hl := (List.getElem?_eq_some_iff.mp hk).1
  rw [List.length_take] at hl
  rw [List.getElem?_take_of_lt (by omega)] at hk
  exact ⟨k, m, by omega, hk, rfl⟩
/-- one making of a thing -/
theorem ord_inj {B : Bk} {R : List Row} {ms : List Mg} (h : Ord B R ms) {j k : Nat} {m n : Mg} (e1 : ms[j]? = some m) (e2 : ms[k]? = some n) (e : m.1 = n.1) : j = k := by
  rcases Nat.lt_trichotomy j k with q | q | q
  · exact absurd (e ▸ tgs_at e1 q) (h k n e2).1
  · exact q
  · exact absurd (e ▸ tgs_at e2 q) (h j m e1).1
inductive Rch (B : Bk) (R : List Row) (ms : List Mg) (ts : List Th) : Th → Prop where
  | wish {t : Th} : t ∈ ts → Rch B R ms ts t
  | need {m : Mg} {u : Th} : Rch B R ms ts m.1 → m ∈ ms → u ∈ needsM B R m.1 m.2 → Rch B R ms ts u
theorem Rch.made {B : Bk} {R : List Row} {ms : List Mg} {ts : List Th} (h : Ord B R ms) (hw : ∀ t ∈ ts, t ∈ tgs ms) {t : Th} (r : Rch B R ms ts t) : t ∈ tgs ms := by
  cases r with
  | wish q => exact hw _ q
  | need _ hm hu =>
    obtain ⟨j, hj⟩ := List.mem_iff_getElem?.mp hm
    obtain ⟨k, n, _, hk, e⟩ := tgs_ex ((h j _ hj).2 _ hu)
    rw [← e]
    exact List.mem_map.mpr ⟨n, List.mem_of_getElem? hk, rfl⟩
open Classical in
/-- what is left of a plan -/
noncomputable def restM (B : Bk) (R : List Row) (ts : List Th) (ms : List Mg) : List Mg := ms.filter fun m => decide (Rch B R ms ts m.1)
theorem mem_restM {B : Bk} {R : List Row} {ts : List Th} {ms : List Mg} {m : Mg} : m ∈ restM B R ts ms ↔ m ∈ ms ∧ Rch B R ms ts m.1 := by
  classical
  unfold restM
  rw [List.mem_filter, decide_eq_true_eq]
theorem rch_rest {B : Bk} {R : List Row} {ts : List Th} {ms : List Mg} {t : Th} (r : Rch B R ms ts t) : Rch B R (restM B R ts ms) ts t := by
  induction r with
  | wish q => exact .wish q
  | need r hm hu ih => exact .need ih (mem_restM.mpr ⟨hm, r⟩) hu
/-- makings in a row, as their pairs stand: any sublist of a row in order whose needs stay is in order -/
theorem ord_subN {B : Bk} {R : List Row} {p : Mg → Bool} {ms : List Mg} (h : Ord B R ms) (hp : ∀ m ∈ ms, p m = true → ∀ u ∈ needsM B R m.1 m.2, ∀ n ∈ ms, n.1 = u → p n = true) : ∀ n, Ord B R ((ms.take n).filter p)
  | 0 => fun j m e => by cases e
  | n + 1 => by
    have ih := ord_subN h hp n
    cases en : ms[n]? with
    | none =>
      rw [List.take_add_one, en]
      simpa using ih
    | some x =>
      intro j m e
      rw [List.take_add_one, en, List.filter_append] at e ⊢
      by_cases hj : j < ((ms.take n).filter p).length
      · rw [List.getElem?_append_left hj] at e
        rw [List.take_append_of_le_length (by omega)]
        exact ih j m e
      · rw [List.getElem?_append_right (by omega)] at e
        have e : ([x].filter p)[j - ((ms.take n).filter p).length]? = some m := e
        by_cases hpn : p x = true
        · rw [List.filter_cons, if_pos hpn, List.filter_nil] at e
          have hj0 : j - ((ms.take n).filter p).length = 0 := by
            have := (List.getElem?_eq_some_iff.mp e).1
            simp only [List.length_singleton] at this
            omega
          rw [hj0] at e
          cases e
          have hje : j = ((ms.take n).filter p).length := by omega
          subst hje
          rw [List.take_left]
          have hn := h n x en
          refine ⟨fun q => hn.1 ?_, fun u hu => ?_⟩
          · obtain ⟨y, hy, ey⟩ := List.mem_map.mp q
            exact List.mem_map.mpr ⟨y, (List.mem_filter.mp hy).1, ey⟩
          · obtain ⟨y, hy, ey⟩ := List.mem_map.mp (hn.2 u hu)
            exact List.mem_map.mpr ⟨y, List.mem_filter.mpr ⟨hy, hp x (List.mem_of_getElem? en) hpn u hu y (List.mem_of_mem_take hy) ey⟩, ey⟩
        · rw [List.filter_cons, if_neg hpn] at e
          cases e
theorem ord_sub {B : Bk} {R : List Row} {p : Mg → Bool} {ms : List Mg} (h : Ord B R ms) (hp : ∀ m ∈ ms, p m = true → ∀ u ∈ needsM B R m.1 m.2, ∀ n ∈ ms, n.1 = u → p n = true) : Ord B R (ms.filter p) := by
  have := ord_subN h hp ms.length
  rwa [List.take_length] at this
theorem rest_plan {B : Bk} {R : List Row} {ts : List Th} {ms : List Mg} (h : Ord B R ms) (hw : ∀ t ∈ ts, t ∈ tgs ms) : isPlan B R ts (restM B R ts ms) = true := by
  classical
  refine isPlan_iff.mpr ⟨?_, fun t ht => ?_⟩
  · unfold restM
    refine ord_sub h fun m hm hpm u hu n hn e => decide_eq_true ?_
    rw [e]
    exact .need (of_decide_eq_true hpm) hm hu
  · obtain ⟨m, hm, e⟩ := List.mem_map.mp (hw t ht)
    exact List.mem_map.mpr ⟨m, mem_restM.mpr ⟨hm, by rw [e]; exact .wish ht⟩, e⟩
/-- without any one of them they are no plan -/
theorem bare {B : Bk} {R : List Row} {ts : List Th} {ms : List Mg} (h : Ord B R ms) (hr : ∀ m ∈ ms, Rch B R ms ts m.1) {k : Nat} (hk : k < ms.length) : isPlan B R ts (ms.take k ++ ms.drop (k + 1)) = false := by
  cases e : isPlan B R ts (ms.take k ++ ms.drop (k + 1)) with
  | false => rfl
  | true =>
    obtain ⟨ho, hw⟩ := isPlan_iff.mp e
    have ek : ms[k]? = some ms[k] := List.getElem?_eq_getElem hk
    have out : ms[k].1 ∉ tgs (ms.take k ++ ms.drop (k + 1)) := fun q => by
      obtain ⟨m, hm, em⟩ := List.mem_map.mp q
      rcases List.mem_append.mp hm with z | z
      · exact (h k _ ek).1 (List.mem_map.mpr ⟨m, z, em⟩)
      · obtain ⟨i, hi⟩ := List.mem_iff_getElem?.mp z
        rw [List.getElem?_drop] at hi
        have := ord_inj h hi ek em
        omega
    have r := hr _ (List.getElem_mem hk)
    generalize hx : ms[k].1 = x at r
    cases r with
    | wish q => exact absurd (hw _ q) (hx ▸ out)
    | @need m u _ hm hu =>
      obtain ⟨i, hi⟩ := List.mem_iff_getElem?.mp hm
      have hne : i ≠ k := fun z => by
        subst z
        rw [ek] at hi
        cases hi
        exact (h i _ ek).1 (hx ▸ (h i _ ek).2 _ hu)
      have hm2 : m ∈ ms.take k ++ ms.drop (k + 1) := by
        rcases Nat.lt_or_ge i k with q | q
        · exact List.mem_append.mpr (Or.inl (List.mem_of_getElem? (i := i) (by rw [List.getElem?_take_of_lt q]; exact hi)))
        · refine List.mem_append.mpr (Or.inr (List.mem_of_getElem? (i := i - (k + 1)) ?_))
          rw [List.getElem?_drop, show k + 1 + (i - (k + 1)) = i by omega]
          exact hi
      obtain ⟨i2, hi2⟩ := List.mem_iff_getElem?.mp hm2
      have := (ho i2 m hi2).2 _ hu
      obtain ⟨z, z2, _, hz, ez⟩ := tgs_ex this
      exact absurd (List.mem_map.mpr ⟨z2, List.mem_of_getElem? hz, ez⟩) (hx ▸ out)
/-- two rows of makings, told apart by their things, ascending, of the same members are one -/
theorem mg_uniq : ∀ {l m : List Mg}, l.Pairwise (fun a b => ltT a.1 b.1) → m.Pairwise (fun a b => ltT a.1 b.1) → (∀ x, x ∈ l ↔ x ∈ m) → l = m
  | [], [], _, _, _ => rfl
  | [], b :: m, _, _, h => absurd ((h b).mpr List.mem_cons_self) (by simp)
  | a :: l, [], _, _, h => absurd ((h a).mp List.mem_cons_self) (by simp)
  | a :: l, b :: m, h1, h2, h => by
    rw [List.pairwise_cons] at h1 h2
    have e : a = b := by
      have ha := (h a).mp List.mem_cons_self
      have hb := (h b).mpr List.mem_cons_self
      rw [List.mem_cons] at ha hb
      rcases ha with ha | ha
      · exact ha
      · rcases hb with hb | hb
        · exact hb.symm
        · exact absurd (ltT_tr (h1.1 b hb) (h2.1 a ha)) ltT_ir
    subst e
    have : l = m := mg_uniq h1.2 h2.2 fun x => by
      have hx := h x
      rw [List.mem_cons, List.mem_cons] at hx
      constructor
      · intro hl
        rcases hx.mp (Or.inr hl) with e | e
        · exact absurd (e ▸ h1.1 x hl) ltT_ir
        · exact e
      · intro hm
        rcases hx.mpr (Or.inr hm) with e | e
        · exact absurd (e ▸ h2.1 x hm) ltT_ir
        · exact e
    rw [this]
/-- price of a row of makings -/
def priceP (B : Bk) (ms : List Mg) : Nat := (ms.map fun m => priceW B m.2).sum
theorem price_part (B : Bk) (p : Mg → Bool) : ∀ ms : List Mg, priceP B (ms.filter p) + priceP B (ms.filter fun m => !p m) = priceP B ms
  | [] => rfl
  | m :: ms => by
    have ih := price_part B p ms
    unfold priceP at ih ⊢
    rw [List.filter_cons, List.filter_cons]
    cases e : p m <;> simp only [e, Bool.not_true, Bool.not_false, if_true, if_false, List.map_cons, List.sum_cons, Bool.false_eq_true] <;> omega
theorem price_perm {B : Bk} {l m : List Mg} (h : l.Perm m) : priceP B l = priceP B m := (h.map _).sum_nat
end
end Lk
namespace Lk
open PySem L2
section
theorem ord_nil {B : Bk} {R : List Row} : Ord B R [] := fun j m e => by cases e
theorem tgs_snoc (ms : List Mg) (m : Mg) : tgs (ms ++ [m]) = tgs ms ++ [m.1] := by
  unfold tgs
  rw [List.map_append]
  rfl
theorem tgs_len (ms : List Mg) : (tgs ms).length = ms.length := List.length_map _
theorem ord_snoc {B : Bk} {R : List Row} {ms : List Mg} {m : Mg} (h : Ord B R ms) (h1 : m.1 ∉ tgs ms) (h2 : ∀ u ∈ needsM B R m.1 m.2, u ∈ tgs ms) : Ord B R (ms ++ [m]) := by
  intro j x e
  by_cases hj : j < ms.length
  · rw [List.getElem?_append_left hj] at e
    rw [List.take_append_of_le_length (by omega)]
    exact h j x e
  · rw [List.getElem?_append_right (by omega)] at e
    have hj0 : j - ms.length = 0 := by
      have := (List.getElem?_eq_some_iff.mp e).1
      simp only [List.length_singleton] at this
      omega
    rw [hj0] at e
    cases e
    have hje : j = ms.length := by omega
    subst hje
    rw [List.take_left]
    exact ⟨h1, h2⟩
variable {K : PySem.W.Frag}
/-- things to ways: a choice as a dict -/
structure CD (K : PySem.W.Frag) (H : Hp) (kvs : List (List Key × V)) (ms : List Mg) : Prop where
  ks : kvs.map (·.1) = (tgs ms).map kt
  v : ∀ m ∈ ms, ∃ q, valV kvs (kt m.1) = some (.ref q) ∧ SqT K H q [.str (wd m.2.1), nv m.2.2]
  n : (tgs ms).Nodup
theorem CD.nil {H : Hp} : CD K H [] [] := ⟨rfl, (fun _ h => nomatch h), List.nodup_nil⟩
theorem CD.len {H : Hp} {kvs : List (List Key × V)} {ms : List Mg} (h : CD K H kvs ms) : kvs.length = ms.length := by
  have := congrArg List.length h.ks
  rw [List.length_map, List.length_map, tgs_len] at this
  exact this
theorem CD.tt {H H' : Hp} {kvs : List (List Key × V)} {ms : List Mg} (x : TT K H H') (h : CD K H kvs ms) : CD K H' kvs ms :=
  ⟨h.ks, fun m hm => by
    obtain ⟨q, e, r⟩ := h.v m hm
    exact ⟨q, e, x.t _ _ r⟩, h.n⟩
theorem CD.new {H : Hp} {kvs : List (List Key × V)} {ms : List Mg} (h : CD K H kvs ms) {t : Th} (m : t ∉ tgs ms) : valV kvs (kt t) = none := by
  cases hv : valV kvs (kt t) with
  | none => rfl
  | some x =>
  refine absurd (valV_in hv) fun z => ?_
  rw [h.ks] at z
  obtain ⟨u, hu, e⟩ := List.mem_map.mp z
  exact m (by rw [← kt_inj e]; exact hu)
theorem CD.at {H : Hp} {kvs : List (List Key × V)} {ms : List Mg} (h : CD K H kvs ms) {t : Th} (hm : t ∈ tgs ms) : ∃ w q, (t, w) ∈ ms ∧ valV kvs (kt t) = some (.ref q) ∧ SqT K H q [.str (wd w.1), nv w.2] := by
  obtain ⟨m, hm2, rfl⟩ := List.mem_map.mp hm
  obtain ⟨q, e, r⟩ := h.v m hm2
  exact ⟨m.2, q, hm2, e, r⟩
theorem CD.some {H : Hp} {kvs : List (List Key × V)} {ms : List Mg} (h : CD K H kvs ms) {t : Th} : (valV kvs (kt t)).isSome = decide (t ∈ tgs ms) := by
  by_cases m : t ∈ tgs ms
  · obtain ⟨w, q, _, e, _⟩ := h.at m
    rw [e, decide_eq_true m]
    rfl
  · rw [h.new m, decide_eq_false m]
    rfl
theorem CD.put {H : Hp} {kvs : List (List Key × V)} {ms : List Mg} (h : CD K H kvs ms) {m : Mg} (hn : m.1 ∉ tgs ms) {q : Addr} (w : SqT K H q [.str (wd m.2.1), nv m.2.2]) : CD K H (putK kvs (kt m.1) (.ref q)) (ms ++ [m]) := by
  have hv := h.new hn
  refine ⟨?_, fun x hx => ?_, ?_⟩
  · rw [putK_new _ hv, List.map_append, h.ks, tgs_snoc, List.map_append]
    rfl
  · rw [valV_put]
    rcases List.mem_append.mp hx with h1 | h1
    · rw [if_neg (fun e => hn (by rw [← kt_inj e]; exact List.mem_map.mpr ⟨x, h1, rfl⟩))]
      exact h.v x h1
    · rw [List.mem_singleton.mp h1, if_pos rfl]
      exact ⟨q, rfl, w⟩
  · rw [tgs_snoc, List.nodup_append]
    exact ⟨h.n, by simp, fun a ha b hb e => hn (by rw [← List.mem_singleton.mp hb, ← e]; exact ha)⟩
/-- the ways whose needs are there -/
noncomputable def rdW (B : Bk) (R : List Row) (F : List Th) (t : Th) : List Wy := (usW B R t).filter fun w => (needsL B R t w).all fun u => decide (u ∈ F)
theorem mem_rdW {B : Bk} {R : List Row} {F : List Th} {t : Th} {w : Wy} : w ∈ rdW B R F t ↔ w ∈ usW B R t ∧ ∀ u ∈ needsM B R t w, u ∈ F := by
  unfold rdW
  rw [List.mem_filter, List.all_eq_true]
  exact and_congr Iff.rfl ⟨fun h u hu => of_decide_eq_true (h u (mem_needsL.mpr hu)), fun h u hu => decide_eq_true (h u (mem_needsL.mp hu))⟩
theorem usW_len {B : Bk} {R : List Row} {t : Th} : (usW B R t).length ≤ B.ms.length + B.rs.length := Nat.le_trans (List.length_filter_le _ _) waysM_len
theorem rdW_len {B : Bk} {R : List Row} {F : List Th} {t : Th} : (rdW B R F t).length ≤ B.ms.length + B.rs.length := Nat.le_trans (List.length_filter_le _ _) usW_len
theorem next_rd {B : Bk} {R : List Row} (g : GoodB B) {F : List Th} (hl : F.length < (makM B R).length) : ∃ t ∈ makM B R, t ∉ F ∧ rdW B R F t ≠ [] := by
  refine Classical.byContradiction fun h => ?_
  have hall : ∀ {t : Th}, Mak B R t → t ∈ F := fun {t} q => by
    induction q with
    | mk w ht hw hn ih =>
      rename_i t
      refine Classical.byContradiction fun z => h ⟨t, (mem_makM g).mpr (.mk w ht hw hn), z, fun e => ?_⟩
      have hm : w ∈ rdW B R F t := mem_rdW.mpr ⟨mem_usW.mpr ⟨hw, fun u hu => (mem_makM g).mpr (hn u hu)⟩, ih⟩
      rw [e] at hm
      cases hm
  have := nodup_len (asc_nodup asc_makM) (L := F) fun t ht => hall ((mem_makM g).mp ht)
  omega
theorem GD.fb {b g : Addr} {H H' : Hp} {kvs : List (List Key × V)} {ts : List Th} {f : Th → List Wy} (h : GD K H kvs ts f) (B : BagAt H b g) (x : Fb b g H H') (n : ∀ t l, valV kvs (kt t) = Option.some (.ref l) → l ≠ b ∧ l ≠ g) : GD K H' kvs ts f :=
  ⟨h.ks, fun t m => by
    obtain ⟨l, e, q⟩ := h.v t m
    obtain ⟨n1, n2⟩ := n t l e
    exact ⟨l, e, q.tt (x.tt B) fun vs z => x _ _ n1 n2 z⟩, h.n⟩
theorem none_upd {H : Hp} {d l : Addr} {o : HO} (h : (upd H d o) l = none) : H l = none ∧ l ≠ d := by
  by_cases e : l = d
  · rw [e, upd_same] at h
    cases h
  · rw [upd_ne e] at h
    exact ⟨h, e⟩
open Classical in
/-- what can be chosen next -/
noncomputable def rdT (B : Bk) (R : List Row) (F : List Th) (ts : List Th) : List Th := ts.filter fun t => decide (t ∉ F ∧ rdW B R F t ≠ [])
theorem rdT_yes {B : Bk} {R : List Row} {F ts : List Th} {t : Th} (h1 : t ∉ F) (h2 : rdW B R F t ≠ []) : rdT B R F (ts ++ [t]) = rdT B R F ts ++ [t] := by
  classical
  unfold rdT
  rw [List.filter_append, List.filter_cons_of_pos (by exact decide_eq_true ⟨h1, h2⟩)]
  rfl
theorem rdT_no {B : Bk} {R : List Row} {F ts : List Th} {t : Th} (h : ¬ (t ∉ F ∧ rdW B R F t ≠ [])) : rdT B R F (ts ++ [t]) = rdT B R F ts := by
  classical
  unfold rdT
  rw [List.filter_append, List.filter_cons_of_neg (by rw [decide_eq_true_eq]; exact h), List.filter_nil, List.append_nil]
theorem mem_rdT {B : Bk} {R : List Row} {F ts : List Th} {t : Th} : t ∈ rdT B R F ts ↔ t ∈ ts ∧ t ∉ F ∧ rdW B R F t ≠ [] := by
  classical
  unfold rdT
  rw [List.mem_filter, decide_eq_true_eq]
theorem rdT_len {B : Bk} {R : List Row} {F ts : List Th} : (rdT B R F ts).length ≤ ts.length := by
  classical
  unfold rdT
  exact List.length_filter_le _ _
/-- a choice at q -/
structure ChoV (K : PySem.W.Frag) (H : Hp) (q : Addr) (B : Bk) (R : List Row) (ms : List Mg) : Prop where
  e : ∃ kvs, H q = some (.dT kvs) ∧ CD K H kvs ms
  o : Ord B R ms
  u : ∀ m ∈ ms, m.1 ∈ makM B R ∧ m.2 ∈ usW B R m.1
  t : ∀ t ∈ makM B R, t ∈ tgs ms
/-- what is ready -/
def RdyV (K : PySem.W.Frag) (H0 : Hp) (rl : Addr) (f : Th → List Wy) (H : Hp) (v : V) (t : Th) : Prop := ∃ c q ls, v = .ref c ∧ SqT K H c [.ref q, .ref ls] ∧ H q = some (.tup [nv t.1, nv t.2]) ∧ H0 ls = none ∧ ls ≠ rl ∧ WaysL K H ls (f t)
theorem RdyV.tl {H0 H H' : Hp} {rl : Addr} {f : Th → List Wy} {v : V} {t : Th} (h : RdyV K H0 rl f H v t) (s : TL K H H') : RdyV K H0 rl f H' v t := by
  obtain ⟨c, q, ls, e, h1, h2, h3, h4, h5⟩ := h
  exact ⟨c, q, ls, e, s.t.t _ _ h1, s.t.d _ _ h2, h3, h4, h5.tl s⟩
theorem RdyV.push {H0 H : Hp} {rl : Addr} {us : List V} {o : HO} {f : Th → List Wy} {v : V} {t : Th} (h : RdyV K H0 rl f H v t) (e : H rl = some (.lst us)) : RdyV K H0 rl f (upd H rl o) v t := by
  obtain ⟨c, q, ls, e1, h1, h2, h3, h4, ws, h5, h6⟩ := h
  have x : TT K H (upd H rl o) := tt_lst e
  exact ⟨c, q, ls, e1, x.t _ _ h1, x.d _ _ h2, h3, h4, ws, by rw [upd_ne h4]; exact h5, h6.mono fun _ _ z => z.tt x⟩
end
section
variable {P : Program} {w : World} {K : PySem.W.Frag} {mg : Str → Option Value} {base : Heap} {a : Adr}
def spLDrawn (K : PySem.W.Frag) : Sp := fun vs H Q _ => ∃ (b g p v d : Addr) (B : Bk) (R : List Row) (kv0 : List (List Key × V)), vs = [.ref b, .ref p, .ref v, .ref d] ∧ BagAt H b g ∧ PR K H p v B R ∧ H d = some (.dT kv0) ∧ GD K H kv0 (makM B R) (usW B R) ∧ d ≠ b ∧ d ≠ g ∧ (∀ t l, valV kv0 (kt t) = some (.ref l) → l ≠ b ∧ l ≠ g) ∧ ∀ q ms H', Fb b g H H' → BagAt H' b g → H q = none → ChoV K H' q B R ms → Q (.ref q) H'
theorem ok_law_drawn_choice (T : Txt K mg a) : FnOk P w K mg base CX0 3 a.f_law_drawn_choice a.d_law_drawn_choice ["_law_bag_here", "_law_parts", "_law_values_here", "_law_usable_here"] (spLDrawn K) := by
  have G_law_needs := ok_law_needs (P := P) (w := w) (base := base) T
  have G_law_some := ok_law_some (P := P) (w := w) (base := base) T
  refine T.F_law_drawn_choice.ok sc_law_drawn_choice (fun vs H Q E h => ?_) (fun cdv A outer s H vs Q E hr h => ?_)
  · obtain ⟨b, g, p, v, d, B, R, kv0, rfl, _⟩ := h
    rfl
  obtain ⟨b, g, p, v, d, B, R, kv0, rfl, Bg, W, e0, g0, nb, ng, hne, k⟩ := h
  have hk2 := W.g.k2
  have hm1 := W.g.m1
  have hr1 := W.g.r1
  have hR200 := W.l
  have hmx : R.length * B.nk ≤ 200 * 5 := Nat.mul_le_mul hR200 hk2
  have lM : (makM B R).length ≤ 1000 := by
    have := makM_len (B := B) (R := R)
    omega
  refine ⟨_, (pss_cons (ps_set (i := 4) sc_law_drawn_choice.nd rfl (Or.inr rfl) pe_dnewT)
  (pss_cons (ps_for PassesOwn.never rfl (pi_range1 rfl T.z_range (pa_cons (pe_callB call_len_dT (by rfl) T.z_len PySem.boot_len (pa_cons (pv 3) pa_nil)) pa_nil)) (pg_name (i := 5) sc_law_drawn_choice.nd rfl (Or.inl rfl))
    (pss_cons (ps_set (i := 6) sc_law_drawn_choice.nd rfl (Or.inl rfl) (pe_lst pa_nil))
  (pss_cons (ps_lock (ps_for PassesOwn.never rfl (pi_keys (pv 3)) (pg_name (i := 7) sc_law_drawn_choice.nd rfl (Or.inl rfl))
    (pss_cons (ps_set (i := 8) sc_law_drawn_choice.nd rfl (Or.inl rfl) (pe_lst pa_nil))
  (pss_cons (ps_for PassesOwn.never rfl (pi_list (pe_dget (hu1 hr) (pv 3) (pv 7) (fun _ _ => rfl))) (pg_name (i := 9) sc_law_drawn_choice.nd rfl (Or.inl rfl))
    (pss_one (ps_if (pt_val (pe_callB (cr_all rfl) (by rfl) T.z_all (by decide +kernel) (pa_cons (pe_lc (own := [("_law_need", 10)]) (g := gName 10) (tt := tYes) rfl sc_law_drawn_choice.nd (pi_list (pe_call G_law_needs (hr.mono (by decide)) rfl T.g_law_needs T.k_law_needs T.b_law_needs .nil pass0 (pa_cons (pv 1) (pa_cons (pv 2) (pa_cons (pv 7) (pa_cons (pv 9) pa_nil)))))) (blkOk_by (N := ["_law_bag_here", "_law_parts", "_law_values_here", "_law_usable_here", "_law_found", "_law_turn", "_law_ready", "_law_thing", "_law_some_here", "_law_way", "_law_need"]) (sc := defScope s_law_drawn_choice) (by decide +kernel)) (fun _ _ _ _ _ => pg_name (i := 10) sc_law_drawn_choice.nd rfl (Or.inl rfl)) (fun _ _ _ _ _ => pts_nil) (fun _ _ _ _ _ => (pe_cmp (pc_din (hu1 hr) (pv 10) (pv 4)) rfl))) pa_nil)))
    (pss_one (ps_expr (pe_bm PySem.F.plainAttrs_list PySem.F.slot_list_append PySem.F.type_list_append mt_append (pv 8) (pa_cons (pv 9) pa_nil))))
    pss_nil)))
  (pss_one (ps_if (PW.pt (pw_and (pt_cmp (pc_dnotin (hu1 hr) (pv 7) (pv 4))) (pw_and1 (pt_cmpR op_gt (pe_callB call_len_seq (by rfl) T.z_len PySem.boot_len (pa_cons (pv 8) pa_nil)) pe_int (nomark _)))))
    (pss_one (ps_expr (pe_bm PySem.F.plainAttrs_list PySem.F.slot_list_append PySem.F.type_list_append mt_append (pv 6) (pa_cons (pe_tup (pa_cons (pv 7) (pa_cons (pv 8) pa_nil))) pa_nil))))
    pss_nil))))))
  (pss_cons (ps_asg (pe_call G_law_some (hr.mono (by decide)) rfl T.g_law_some T.k_law_some T.b_law_some .nil pass0 (pa_cons (pv 0) (pa_cons (pv 6) pa_nil))) (pg_tup (by rfl) (pgs_cons (pg_name (i := 7) sc_law_drawn_choice.nd rfl (Or.inl rfl)) (pgs_cons (pg_name (i := 8) sc_law_drawn_choice.nd rfl (Or.inl rfl)) pgs_nil))))
  (pss_one (ps_dput (hu1 hr) (pv 4) (pv 7) (pe_call G_law_some (hr.mono (by decide)) rfl T.g_law_some T.k_law_some T.b_law_some .nil pass0 (pa_cons (pv 0) (pa_cons (pv 8) pa_nil))) rfl))))))
  (pss_one (ps_ret (pv 4))))), ?_⟩
  refine fun d4 hd4 => ?_
  have S1 := same_new (o := .dT []) hd4
  obtain ⟨n41, n42⟩ := Bg.ne hd4
  have B1 := Bg.new (o := .dT []) hd4
  have nd : d ≠ d4 := ne_of_none e0 hd4
  have e1 := S1 _ _ e0
  refine ⟨_, rfl, d, kv0, rfl, e1, _, rfl, ?_⟩
  rw [g0.len]
  refine ⟨by omega, by omega, for_range (lo := 0) (n := (((makM B R).length : Nat) : Int).toNat) (fun j σ H' => ∃ v5 v6 v7 v8 v9 kvs ms, σ = [some (.ref b), some (.ref p), some (.ref v), some (.ref d), some (.ref d4), v5, v6, v7, v8, v9, none] ∧ Fb b g H H' ∧ BagAt H' b g ∧ H' d4 = some (.dT kvs) ∧ CD K H' kvs ms ∧ Ord B R ms ∧ (∀ m ∈ ms, m.1 ∈ makM B R ∧ m.2 ∈ usW B R m.1) ∧ ms.length = j) ⟨none, none, none, none, none, [], [], rfl, Fb.of S1, B1, upd_same, CD.nil, ord_nil, (fun _ h => nomatch h), rfl⟩ ?_ ?_⟩
  · rintro j σ H1 hj ⟨v5, v6, v7, v8, v9, kvs, ms, rfl, f1, B1, x1, c1, o1, u1, l1⟩
    have hj' : j < (makM B R).length := by omega
    rw [nv0]
    have e2 := f1 _ _ nb ng e0
    have g1 := g0.fb Bg f1 hne
    have W1 := W.tt (f1.tt Bg)
    have ndx : d4 ≠ d := nd.symm
    refine ⟨(by decide : 0 ≤ sizeLine), fun rl hrl => ?_⟩
    have nrd : rl ≠ d := fun e => by
      rw [e, e2] at hrl
      cases hrl
    have eL0 : (upd H1 rl (.lst [])) d = some (.dT kv0) := (same_new hrl) _ _ e2
    refine ⟨d, _, eL0, trivial, fun od => ?_⟩
    have xL : TL K H1 (upd H1 d (.frz od (.dT kv0))) := tl_dT e2
    have hrL : (upd H1 d (.frz od (.dT kv0))) rl = none := by rw [upd_ne nrd]; exact hrl
    have sL : Same (upd H1 d (.frz od (.dT kv0))) (upd (upd H1 rl (.lst [])) d (.frz od (.dT kv0))) := fun c o z => by
      by_cases hc : c = d
      · subst hc
        rw [upd_same] at z ⊢
        exact z
      · rw [upd_ne hc] at z ⊢
        exact (same_new hrl) _ _ z
    have back : ∀ {H'}, Same (upd H1 d (.frz od (.dT kv0))) H' → Same H1 (upd H' d (.dT kv0)) := fun s => unlock_same e2 s
    have eF : (upd H1 d (.frz od (.dT kv0))) d = some (.frz od (.dT kv0)) := upd_same
    have xF : (upd H1 d (.frz od (.dT kv0))) d4 = some (.dT kvs) := by rw [upd_ne ndx]; exact x1
    have gF := g1.tl xL
    have WF := W1.tt xL.t
    have cF := c1.tt xL.t
    have fresh : ∀ {l}, (upd H1 d (.frz od (.dT kv0))) l = none → H1 l = none := fun z => (none_upd z).1
    have erl : (upd (upd H1 rl (.lst [])) d (.frz od (.dT kv0))) rl = some (.lst []) := by rw [upd_ne nrd]; exact upd_same
    generalize upd (upd H1 rl (.lst [])) d (.frz od (.dT kv0)) = HM at sL erl
    generalize upd H1 d (.frz od (.dT kv0)) = HL at sL xL hrL back eF xF gF WF cF fresh
    refine ⟨_, rfl, d, od, rfl, .inr ⟨kv0, sL _ _ eF, for_it walk_keysT (fun i σ H' => ∃ v7 v8 v9 us, σ = [some (.ref b), some (.ref p), some (.ref v), some (.ref d), some (.ref d4), some (nv j), some (.ref rl), v7, v8, v9, none] ∧ Same HL H' ∧ H' rl = some (.lst us) ∧ PL (RdyV K H1 rl (rdW B R (tgs ms)) H') us (rdT B R (tgs ms) ((makM B R).take i))) ⟨v7, v8, v9, [], rfl, sL, erl, PL.nil⟩ (fun i σ H' _ z => ?_) ?_ ?_⟩⟩
    · obtain ⟨_, _, _, _, _, s3, _⟩ := z
      exact s3 _ _ eF
    · intro i y σ Hx H3 hi z hy
      obtain ⟨v7, v8, v9, us, rfl, s3, er3, hp3⟩ := z
      obtain ⟨rfl, ky, vy, q, hkv, rfl, hq⟩ := hy
      obtain ⟨t, ht, rfl⟩ : ∃ t, (makM B R)[i]? = some t ∧ ky = kt t := by
        have h1 : (kv0.map (·.1))[i]? = some ky := by rw [List.getElem?_map, hkv]; rfl
        rw [g0.ks, List.getElem?_map] at h1
        obtain ⟨t, h2, h3⟩ := Option.map_eq_some_iff.mp h1
        exact ⟨t, h2, h3.symm⟩
      have htm := List.mem_of_getElem? ht
      have hmk := (mem_makM W.g).mp htm
      have ht1 := (hmk.lt W.g).1
      have htk : (makM B R).take (i + 1) = (makM B R).take i ++ [t] := by
        rw [List.take_add_one, ht]
        rfl
      have hul : us.length ≤ 1000 := by
        rw [hp3.1]
        have := rdT_len (B := B) (R := R) (F := tgs ms) (ts := (makM B R).take i)
        rw [List.length_take] at this
        omega
      refine ⟨(by decide : 0 ≤ sizeLine), fun ls hls => ?_⟩
      have hls1 := fresh (none_of s3 hls)
      have nlr : ls ≠ rl := fun e => by
        rw [e, er3] at hls
        cases hls
      obtain ⟨l, hv, uw, eW, hpw⟩ := gF.v t htm
      have Sn := same_new (o := .lst []) hls
      have eW3 := s3 _ _ eW
      have q3 : ∀ {H'}, Same H3 H' → H' q = some (.tup [nv t.1, nv t.2]) := fun s => s _ _ hq
      refine ⟨_, rfl, _, rfl, d, .ref l, rfl, dget_f (Sn _ _ (s3 _ _ eF)) (k := kt t) (q3 Sn) hv, l, rfl, ⟨_, SqL.of (Sn _ _ eW3)⟩, for_list (xs := uw) (fun n σ H' => ∃ v9, σ = [some (.ref b), some (.ref p), some (.ref v), some (.ref d), some (.ref d4), some (nv j), some (.ref rl), some (.ref q), some (.ref ls), v9, none] ∧ Same H3 H' ∧ WaysL K H' ls (((usW B R t).take n).filter fun w => (needsL B R t w).all fun u => decide (u ∈ tgs ms))) ⟨v9, rfl, Sn, [], upd_same, PL.nil⟩ ?_ ?_ ?_⟩
      · rintro n σ H' _ ⟨_, _, s4, _⟩
        exact SqL.of (s4 _ _ eW3)
      · rintro n u σ H4 hu ⟨v9, rfl, s4, wl, eN, hN⟩
        obtain ⟨wy, hw', hwv⟩ := hpw.at' hu
        have T4 : TT K HL H4 := Same_tt (s3.trans s4)
        obtain ⟨e, rfl, he⟩ := hwv.tt T4
        have hmem := (mem_usW.mp (List.mem_of_getElem? hw')).1
        have hn := (List.getElem?_eq_some_iff.mp hw').1
        have wlen := usW_len (B := B) (R := R) (t := t)
        have hwk : (usW B R t).take (n + 1) = (usW B R t).take n ++ [wy] := by
          rw [List.take_add_one, hw']
          rfl
        refine ⟨_, rfl, _, rfl, _, rfl, _, rfl, p, v, q, e, B, R, t, wy, rfl, WF.tt T4, .inl (.inl (q3 s4)), ht1, he, hmem, fun l2 H5 s5 hl2 hL2 => ?_⟩
        obtain ⟨us2, eL2, hU2⟩ := hL2
        have x5 := (s3.trans (s4.trans s5)) _ _ xF
        refine ⟨l2, rfl, ⟨_, SqL.of eL2⟩, fun D2 hD2 => ?_⟩
        refine lc_list (xs := us2) (fun n H' => Same H5 H' ∧ H' D2 = some (.lst ((((needsL B R t wy).take n).map fun u => (valV kvs (kt u)).isSome).map V.bl))) ⟨same_new hD2, upd_same⟩ (fun n H' _ z => SqL.of (z.1 _ _ eL2)) (fun n v H6 hv7 z => ?_) (fun H6 z => ?_)
        · obtain ⟨s7, eD7⟩ := z
          obtain ⟨u, hu7, pu, rfl, hpu⟩ := hU2.at' hv7
          refine ⟨rfl, ?_⟩
          refine ⟨_, rfl, _, rfl, d4, _, rfl, DGet.t (s7 _ _ x5) (k := kt u) (s7 _ _ hpu), _, eD7, ?_, all_step s7 hD2 hu7⟩
          rw [List.length_map, List.length_map, List.length_take]
          have := needsL_len (B := B) W.gr (t := t) (w := wy)
          exact lt_line (by omega)
        · obtain ⟨s7, eD7⟩ := z
          rw [hU2.1, List.take_length] at eD7
          have S6 := s5.trans s7
          have eN6 := S6 _ _ eN
          have hN6 := hN.mono fun _ _ z => z.tt (Same_tt S6)
          have hcond : ((needsL B R t wy).map fun u => (valV kvs (kt u)).isSome).all id = (needsL B R t wy).all fun u => decide (u ∈ tgs ms) := by
            rw [List.all_map]
            refine List.all_congr rfl fun u => ?_
            show (valV kvs (kt u)).isSome = _
            exact c1.some
          refine ⟨D2, _, rfl, .inl (.inl eD7), _, rfl, ite2 (fun hall => ?_) (fun hall => ?_)⟩
          · rw [hcond] at hall
            refine ⟨_, rfl, .inl ⟨rfl, _, SqL.of eN6⟩, _, rfl, ls, wl, _, rfl, rfl, eN6, ?_, ?_⟩
            · rw [hN.1]
              have := List.length_filter_le (fun w => (needsL B R t w).all fun u => decide (u ∈ tgs ms)) ((usW B R t).take n)
              rw [List.length_take] at this
              exact lt_line (by omega)
            refine ⟨_, rfl, same_at (s4.trans S6) hls, _, upd_same, ?_⟩
            rw [hwk, List.filter_append, List.filter_cons_of_pos (p := fun w => (needsL B R t w).all fun u => decide (u ∈ tgs ms)) hall]
            exact (hN6.mono fun _ _ z => z.tt (tt_lst eN6)).snoc ⟨e, rfl, (tt_lst eN6).t _ _ ((Same_tt S6).t _ _ he)⟩
          · rw [hcond] at hall
            refine ⟨_, rfl, s4.trans S6, _, eN6, ?_⟩
            rw [hwk, List.filter_append, List.filter_cons_of_neg (p := fun w => (needsL B R t w).all fun u => decide (u ∈ tgs ms)) hall, List.filter_nil, List.append_nil]
            exact hN6
      · rintro σ H4 ⟨v9, rfl, s4, wL⟩
        rw [List.take_of_length_le (by rw [hpw.1]; exact Nat.le_refl _)] at wL
        have wL : WaysL K H4 ls (rdW B R (tgs ms) t) := wL
        have s34 := s3.trans s4
        have er4 := s4 _ _ er3
        have hp4 := hp3.mono fun _ _ z => z.tl (TL.of s4)
        obtain ⟨wl, eN, hN⟩ := id wL
        refine ⟨_, rfl, _, rfl, d4, _, rfl, DGet.t (s34 _ _ xF) (k := kt t) (q3 s4), _, rfl, ?_⟩
        rw [c1.some]
        refine ite2 (fun h1 => ?_) (fun h1 => ?_)
        · have hnew : t ∉ tgs ms := fun z => by
            rw [decide_eq_true z] at h1
            exact absurd h1 (by decide)
          refine ⟨_, rfl, ls, wl, rfl, .inl (SqL.of eN), _, _, rfl, rfl, _, rfl, ite2 (fun h2 => ?_) (fun h2 => ?_)⟩
          · have hpos : rdW B R (tgs ms) t ≠ [] := fun e => by
              have := of_decide_eq_true h2
              rw [hN.1, e] at this
              exact absurd this (by decide)
            refine ⟨_, rfl, .inl ⟨rfl, _, SqL.of er4⟩, _, rfl, _, rfl, (by decide : 2 ≤ sizeLine), fun c hc => ⟨rl, us, _, rfl, rfl, (same_new hc) _ _ er4, lt_line (by omega), ?_⟩⟩
            have S5 := same_new (o := .tup [.ref q, .ref ls]) hc
            refine ⟨_, _, _, _, rfl, same_at (s34.trans S5) hrL, upd_same, ?_⟩
            rw [htk, rdT_yes hnew hpos]
            refine ((hp4.mono fun _ _ z => z.tl (TL.of S5)).mono fun _ _ z => z.push (S5 _ _ er4)).snoc ?_
            exact RdyV.push ⟨c, q, ls, rfl, .inl (.inl upd_same), S5 _ _ (q3 s4), hls1, nlr, wL.same S5⟩ (S5 _ _ er4)
          · refine ⟨_, _, _, _, rfl, s34, er4, ?_⟩
            rw [htk, rdT_no]
            · exact hp4
            · rintro ⟨_, z⟩
              refine h2 (decide_eq_true ?_)
              rw [hN.1]
              have := List.length_pos_iff.mpr z
              omega
        · refine ⟨_, _, _, _, rfl, s34, er4, ?_⟩
          rw [htk, rdT_no]
          · exact hp4
          · rintro ⟨z, _⟩
            exact h1 (by rw [decide_eq_false z]; rfl)
    · rintro σ H3 ⟨v7, v8, v9, us, rfl, s3, er3, hp3⟩
      rw [g0.len, List.take_length] at hp3
      have eF3 := s3 _ _ eF
      refine ⟨eF3, ?_⟩
      have x4 : TL K H3 (upd H3 d (.dT kv0)) := tl_frzT eF3
      have S4 := back s3
      have er4 := x4.l _ _ er3
      have hp4 := hp3.mono fun _ _ z => z.tl x4
      generalize upd H3 d (.dT kv0) = H4 at x4 S4 er4 hp4
      have B4 := B1.same S4
      obtain ⟨nr1, nr2⟩ := B1.ne hrl
      have hul : us.length ≤ 1000 := by
        rw [hp4.1]
        have := rdT_len (B := B) (R := R) (F := tgs ms) (ts := makM B R)
        omega
      have hus : us ≠ [] := fun e => by
        obtain ⟨t, h1, h2, h3⟩ := next_rd W.g (F := tgs ms) (R := R) (by rw [tgs_len]; omega)
        have h4 := mem_rdT.mpr ⟨h1, h2, h3⟩
        have h5 := hp4.1
        rw [e] at h5
        rw [List.length_eq_zero_iff.mp h5.symm] at h4
        cases h4
      refine ⟨_, rfl, _, rfl, b, g, rl, us, rfl, B4, er4, nr1, nr2, hus, by omega, fun i1 w1 H5 f5 B5 hw1 => ?_⟩
      obtain ⟨t, ht, c, q, ls, rfl, hc, hq, hls0, nls, hL⟩ := hp4.at' hw1
      obtain ⟨htm, hnew, hne2⟩ := mem_rdT.mp (List.mem_of_getElem? ht)
      obtain ⟨wl, eN, hN⟩ := id hL
      obtain ⟨nl1, nl2⟩ := B1.ne hls0
      have T5 : TT K H4 H5 := f5.tt B4
      refine ⟨c, _, rfl, T5.t _ _ hc, rfl, _, _, rfl, _, _, rfl, rfl, ?_⟩
      have eN5 := f5 _ _ nl1 nl2 eN
      have hwl : wl.length ≤ 60 := by
        rw [hN.1]
        have := rdW_len (B := B) (R := R) (F := tgs ms) (t := t)
        omega
      have hwne : wl ≠ [] := fun e => by
        have h5 := hN.1
        rw [e] at h5
        exact hne2 (List.length_eq_zero_iff.mp h5.symm)
      refine ⟨_, rfl, _, rfl, b, g, ls, wl, rfl, B5, eN5, nl1, nl2, hwne, by omega, fun i2 w2 H6 f6 B6 hw2 => ?_⟩
      obtain ⟨wy, hwy, e, rfl, he⟩ := hN.at' hw2
      obtain ⟨hus1, hneed⟩ := mem_rdW.mp (List.mem_of_getElem? hwy)
      have T6 : TT K H4 H6 := T5.trans (f6.tt B5)
      have f46 := f5.trans f6
      have x6 := f46 _ _ n41 n42 (S4 _ _ x1)
      have hlk : kvs.length ≤ 1000 := by
        rw [c1.len]
        omega
      refine ⟨_, rfl, _, rfl, d4, _, rfl, DPut.t x6 (k := kt t) (T6.d _ _ hq) (lt_line (by omega)), ?_⟩
      have T7 : TT K H6 (upd H6 d4 (.dT (putK kvs (kt t) (.ref e)))) := tt_dT x6
      refine ⟨_, _, _, _, _, _, ms ++ [(t, wy)], rfl, fb_at ((f1.trans (Fb.of S4)).trans f46) hd4, B6.keep n41 n42, upd_same, ?_, ord_snoc o1 hnew hneed, fun m hm => ?_, by rw [List.length_append, l1]; rfl⟩
      · exact (c1.tt (((Same_tt S4).trans T6).trans T7)).put (m := (t, wy)) hnew ((T6.trans T7).t _ _ he)
      · rcases List.mem_append.mp hm with h | h
        · exact u1 m h
        · rw [List.mem_singleton.mp h]
          exact ⟨htm, hus1⟩
  · rintro σ H1 ⟨v5, v6, v7, v8, v9, kvs, ms, rfl, f1, B1, x1, c1, o1, u1, l1⟩
    refine ⟨_, rfl, k d4 ms H1 f1 B1 hd4 ⟨⟨kvs, x1, c1⟩, o1, u1, fun t ht => ?_⟩⟩
    refine Classical.byContradiction fun z => ?_
    have h1 : (t :: tgs ms).Nodup := List.nodup_cons.mpr ⟨z, c1.n⟩
    have h2 := nodup_len h1 (L := makM B R) fun x hx => by
      rcases List.mem_cons.mp hx with rfl | hx
      · exact ht
      · obtain ⟨m, hm, rfl⟩ := List.mem_map.mp hx
        exact (u1 m hm).1
    rw [List.length_cons, tgs_len] at h2
    omega
end
end Lk
namespace RmD
open PySem PySem.Spec PyProof.Rows L2
/-! l.remove(x), the items data of any depth: the first equal one is gone -/
def rRemD (K : PySem.W.Frag) : V → List V → Hp → VK → Prop := fun x xs H Q => ∃ (l : Addr) (us : List V) (y : V) (d : PyData) (ds : List PyData) (j : Nat) (z : PyData), x = V.ref l ∧ xs = [y] ∧ H l = some (.lst us) ∧ DpAll K H us ds ∧ Dp K H y d ∧
  SeqAt.shaped (.list ds) = true ∧ SeqAt.shaped d = true ∧ ds[j]? = some z ∧ PyData.eqv z d = true ∧ (∀ (m : Nat) (z' : PyData), m < j → ds[m]? = some z' → PyData.eqv z' d = false) ∧ Q .non (upd H l (.lst (us.eraseIdx j)))
section
variable {X : Cx}
theorem mt_removeD (hu : X.A.units + 65 < cLine) : MtM X "list.remove" (rRemD X.K) := by
  intro pins s σ H x xs v ws Q I rx rxs h
  obtain ⟨l, us, y, d, ds, j, z, rfl, rfl, hH, ha, hy, sl, sd, hz, hzj, hno, q⟩ := h
  cases rx
  obtain ⟨u, rfl, ru⟩ := rxs.one
  obtain ⟨bs, r1⟩ := Dp.reads I d y u hy ru
  have hxs : PyData.canLayAll0 ds = true := SeqAt.canLay_of_shaped sl
  have hroom : X.A.units + 1 + min (PyData.depthAll ds) d.depth < cLine := room_in_shaped sd hu
  obtain ⟨zz, its, n, r, hl, e⟩ := I.lstM hH
  obtain ⟨as, h4⟩ := Dp.readsAll I ds _ its ha r
  have hn : its.length = ds.length := SeqAt.ReadsAll.length ds its as h4
  have hp : SeqAt.dataPlace ds d = some j := by
    obtain ⟨hj, hz2⟩ := List.getElem?_eq_some_iff.mp hz
    refine List.findIdx?_eq_some_iff_getElem.mpr ⟨hj, by rw [hz2]; exact hzj, fun m hm => ?_⟩
    have := hno m _ hm (List.getElem?_eq_getElem (by omega))
    simpa using this
  refine SeqAt.remove_list_data (vs := its.toArray) (j := j) ⟨_, e, rfl, n, rfl⟩ (show ReadsAll s.heap its.toArray.toList ds as from h4) r1 (PyData.plainAll_of_canLay0 _ hxs) (PyData.plain_of_canLay0 _ (SeqAt.canLay_of_shaped sd)) hroom hp (by rw [List.size_toArray]; omega) ?_
  have rr := r.eraseIdx j
  refine ⟨.non, _, I.lset (its' := its.eraseIdx j) (t' := s.toks) hH e ?_ rr ?_, rfl, q⟩
  · show its.toArray.eraseIdxIfInBounds j = (its.eraseIdx j).toArray
    rw [List.eraseIdxIfInBounds_toArray]
  · rw [List.length_eraseIdx]
    split <;> omega
end
end RmD
namespace Lk
open PySem L2
section
/-! the walk from things to what they need -/
structure Wk (B : Bk) (R : List Row) (ts : List Th) (ms : List Mg) (Wn Wt : List Th) : Prop where
  nd : Wn.Nodup
  r1 : ∀ t ∈ Wn, Rch B R ms ts t
  r2 : ∀ t ∈ Wt, Rch B R ms ts t
  c1 : ∀ t ∈ ts, t ∈ Wn ∨ t ∈ Wt
  c2 : ∀ m ∈ ms, m.1 ∈ Wn → ∀ u ∈ needsM B R m.1 m.2, u ∈ Wn ∨ u ∈ Wt
  ll : Wt.length ≤ 1000 + 2 * Wn.length
theorem Wk.start {B : Bk} {R : List Row} {ts : List Th} {ms : List Mg} (h : ts.length ≤ 1000) : Wk B R ts ms [] ts :=
  ⟨List.nodup_nil, (fun _ h => nomatch h), fun t ht => .wish ht, fun t ht => Or.inr ht, (fun _ _ h => nomatch h), by simp only [List.length_nil]; omega⟩
theorem Wk.skip {B : Bk} {R : List Row} {ts : List Th} {ms : List Mg} {Wn Wt : List Th} {t : Th} (h : Wk B R ts ms Wn (Wt ++ [t])) (m : t ∈ Wn) : Wk B R ts ms Wn Wt := by
  have hm : ∀ x, x ∈ Wt ++ [t] ↔ x ∈ Wt ∨ x = t := fun x => by rw [List.mem_append, List.mem_singleton]
  refine ⟨h.nd, h.r1, fun x hx => h.r2 x ((hm x).mpr (Or.inl hx)), fun x hx => ?_, fun n hn hn2 u hu => ?_, ?_⟩
  · rcases h.c1 x hx with q | q
    · exact Or.inl q
    · rcases (hm x).mp q with q | q
      · exact Or.inr q
      · exact Or.inl (q ▸ m)
  · rcases h.c2 n hn hn2 u hu with q | q
    · exact Or.inl q
    · rcases (hm u).mp q with q | q
      · exact Or.inr q
      · exact Or.inl (q ▸ m)
  · have := h.ll
    rw [List.length_append] at this
    omega
theorem Wk.visit {B : Bk} {R : List Row} {ts : List Th} {ms : List Mg} {Wn Wt U : List Th} {t : Th} {w : Wy} (hO : Ord B R ms) (h : Wk B R ts ms Wn (Wt ++ [t])) (hnew : t ∉ Wn) (hm : (t, w) ∈ ms) (hU : ∀ u, u ∈ U ↔ u ∈ needsM B R t w) (hl : U.length ≤ 2) : Wk B R ts ms (Wn ++ [t]) (Wt ++ U) := by
  have hmt : ∀ x, x ∈ Wt ++ [t] ↔ x ∈ Wt ∨ x = t := fun x => by rw [List.mem_append, List.mem_singleton]
  have hRt : Rch B R ms ts t := h.r2 t ((hmt t).mpr (Or.inr rfl))
  refine ⟨?_, fun x hx => ?_, fun x hx => ?_, fun x hx => ?_, fun n hn hn2 u hu => ?_, ?_⟩
  · rw [List.nodup_append]
    exact ⟨h.nd, by simp, fun a ha b hb e => hnew (by rw [← List.mem_singleton.mp hb, ← e]; exact ha)⟩
  · rcases List.mem_append.mp hx with q | q
    · exact h.r1 x q
    · rw [List.mem_singleton.mp q]
      exact hRt
  · rcases List.mem_append.mp hx with q | q
    · exact h.r2 x ((hmt x).mpr (Or.inl q))
    · exact .need (m := (t, w)) hRt hm ((hU x).mp q)
  · rw [List.mem_append, List.mem_append, List.mem_singleton]
    rcases h.c1 x hx with q | q
    · exact Or.inl (Or.inl q)
    · rcases (hmt x).mp q with q | q
      · exact Or.inr (Or.inl q)
      · exact Or.inl (Or.inr q)
  · rw [List.mem_append, List.mem_append, List.mem_singleton]
    rcases List.mem_append.mp hn2 with q | q
    · rcases h.c2 n hn q u hu with q | q
      · exact Or.inl (Or.inl q)
      · rcases (hmt u).mp q with q | q
        · exact Or.inr (Or.inl q)
        · exact Or.inl (Or.inr q)
    · have e := List.mem_singleton.mp q
      obtain ⟨i1, h1⟩ := List.mem_iff_getElem?.mp hn
      obtain ⟨i2, h2⟩ := List.mem_iff_getElem?.mp hm
      have := ord_inj hO h1 h2 e
      subst this
      rw [h1] at h2
      cases h2
      exact Or.inr (Or.inr ((hU u).mpr hu))
  · have := h.ll
    rw [List.length_append, List.length_singleton] at this
    rw [List.length_append, List.length_append, List.length_singleton]
    omega
theorem Wk.all {B : Bk} {R : List Row} {ts : List Th} {ms : List Mg} {Wn : List Th} (h : Wk B R ts ms Wn []) {t : Th} : t ∈ Wn ↔ Rch B R ms ts t := by
  refine ⟨h.r1 t, fun r => ?_⟩
  induction r with
  | wish q => exact (h.c1 _ q).elim id fun z => nomatch z
  | need _ hm hu ih => exact (h.c2 _ hm ih _ hu).elim id fun z => nomatch z
theorem Wk.len {B : Bk} {R : List Row} {ts : List Th} {ms : List Mg} {Wn Wt : List Th} (h : Wk B R ts ms Wn Wt) (hO : Ord B R ms) (hW : ∀ t ∈ ts, t ∈ tgs ms) : Wn.length ≤ ms.length := by
  rw [← tgs_len ms]
  exact nodup_len h.nd fun t ht => (h.r1 t ht).made hO hW
variable {K : PySem.W.Frag}
theorem PL.dropLast {α : Type} {P : V → α → Prop} {vs : List V} {xs : List α} (h : PL P vs xs) : PL P vs.dropLast xs.dropLast := by
  rw [List.dropLast_eq_take, List.dropLast_eq_take, h.1]
  exact h.take _
theorem PL.last {α : Type} {P : V → α → Prop} {vs : List V} {xs : List α} (h : PL P vs xs) (hp : 0 < xs.length) : ∃ ys t y, xs = ys ++ [t] ∧ vs[vs.length - 1]? = some y ∧ P y t ∧ PL P vs.dropLast ys := by
  have hne : xs ≠ [] := List.length_pos_iff.mp hp
  have e := (List.dropLast_concat_getLast hne).symm
  have hl : xs[vs.length - 1]? = some (xs.getLast hne) := by
    rw [h.1, List.getLast_eq_getElem hne]
    exact List.getElem?_eq_getElem (by omega)
  obtain ⟨y, hy, hq⟩ := h.at hl
  exact ⟨xs.dropLast, xs.getLast hne, y, e, hy, hq, h.dropLast⟩
theorem ChoV.tt {H H' : Hp} {q : Addr} {B : Bk} {R : List Row} {ms : List Mg} (x : TT K H H') (k : ∀ kvs, H q = some (.dT kvs) → H' q = some (.dT kvs)) (h : ChoV K H q B R ms) : ChoV K H' q B R ms := by
  obtain ⟨⟨kvs, e, c⟩, o, u, t⟩ := h
  exact ⟨⟨kvs, k _ e, c.tt x⟩, o, u, t⟩
theorem ChoV.same {H H' : Hp} {q : Addr} {B : Bk} {R : List Row} {ms : List Mg} (s : Same H H') (h : ChoV K H q B R ms) : ChoV K H' q B R ms := h.tt (Same_tt s) fun _ e => s _ _ e
theorem ChoV.len {H : Hp} {q : Addr} {B : Bk} {R : List Row} {ms : List Mg} (h : ChoV K H q B R ms) (g : GoodB B) (hR : R.length ≤ 200) : ms.length ≤ 1000 := by
  obtain ⟨kvs, e, c⟩ := h.e
  have h1 := nodup_len c.n (L := makM B R) fun t ht => by
    obtain ⟨m, hm, rfl⟩ := List.mem_map.mp ht
    exact (h.u m hm).1
  rw [tgs_len] at h1
  have := makM_len (B := B) (R := R)
  have : R.length * B.nk ≤ 200 * 5 := Nat.mul_le_mul hR g.k2
  omega
end
section
variable {P : Program} {w : World} {K : PySem.W.Frag} {mg : Str → Option Value} {base : Heap} {a : Adr}
def spLNeeded (K : PySem.W.Frag) : Sp := fun vs H Q _ => ∃ (p v c q : Addr) (B : Bk) (R : List Row) (ts : List Th) (ms : List Mg), vs = [.ref p, .ref v, .ref c, .ref q] ∧ PR K H p v B R ∧ ChoV K H c B R ms ∧ ThsT K H q ts ∧ ts.length ≤ 1000 ∧ (∀ t ∈ ts, t ∈ tgs ms) ∧ ∀ d F H', Same H H' → H d = none → H' d = some (.dT (tk F)) → F.Nodup → (∀ t, t ∈ F ↔ Rch B R ms ts t) → Q (.ref d) H'
theorem ok_law_needed (T : Txt K mg a) : FnOk P w K mg base CX0 2 a.f_law_needed a.d_law_needed ["_law_parts", "_law_values_here", "_law_choice", "_law_things"] (spLNeeded K) := by
  have G_law_needs := ok_law_needs (P := P) (w := w) (base := base) T
  refine T.F_law_needed.ok sc_law_needed (fun vs H Q E h => ?_) (fun cdv A outer s H vs Q E hr h => ?_)
  · obtain ⟨p, v, c, q, B, R, ts, ms, rfl, _⟩ := h
    rfl
  obtain ⟨p, v, c, q, B, R, ts, ms, rfl, W, Ch, hts, hlt, hW, k⟩ := h
  obtain ⟨kvs, ec, cd⟩ := id Ch.e
  have hO := Ch.o
  have hms := Ch.len W.g W.l
  obtain ⟨wc, hwc, hplc⟩ := hts
  refine ⟨_, (pss_cons (ps_set (i := 4) sc_law_needed.nd rfl (Or.inl rfl) pe_dnewT)
  (pss_cons (ps_set (i := 5) sc_law_needed.nd rfl (Or.inl rfl) (pe_callTy call_list_of (by rfl) T.z_list (by decide +kernel) (pa_cons (pv 3) pa_nil)))
  (pss_cons (ps_while PassesOwn.never (pt_cmpR op_gt (pe_callB call_len_seq (by rfl) T.z_len PySem.boot_len (pa_cons (pv 5) pa_nil)) pe_int (nomark _))
    (pss_cons (ps_set (i := 6) sc_law_needed.nd rfl (Or.inl rfl) (pe_bm0 PySem.F.plainAttrs_list PySem.F.slot_list_pop PySem.F.type_list_pop mt_pop (pv 5)))
  (pss_one (ps_if (pt_cmp (pc_dnotin (hu1 hr) (pv 6) (pv 4)))
    (pss_cons (ps_dput (hu1 hr) (pv 4) (pv 6) pe_bl rfl)
  (pss_one (ps_expr (pe_bm PySem.F.plainAttrs_list PySem.F.slot_list_extend PySem.F.type_list_extend mt_extend (pv 5) (pa_cons (pe_call G_law_needs (hr.mono (by decide)) rfl T.g_law_needs T.k_law_needs T.b_law_needs .nil pass0 (pa_cons (pv 0) (pa_cons (pv 1) (pa_cons (pv 6) (pa_cons (pe_dget (hu1 hr) (pv 2) (pv 6) (fun _ _ => rfl)) pa_nil))))) pa_nil)))))
    pss_nil))))
  (pss_one (ps_ret (pv 4)))))), ?_⟩
  refine fun d hd => ?_
  have sD := same_new (o := .dT []) hd
  refine ⟨_, rfl, q, wc, rfl, .inr ((Same_tt sD).t _ _ hwc), fun wl hwl => ?_⟩
  have hwl0 : H wl = none := none_of sD hwl
  have S0 := sD.trans (same_new (o := .lst wc) hwl)
  have ndl : d ≠ wl := ne_of_none upd_same hwl
  refine ⟨fun n σ H' => ∃ v6 Wn Wt, σ = [some (.ref p), some (.ref v), some (.ref c), some (.ref q), some (.ref d), some (.ref wl), v6] ∧ Same H H' ∧ H' d = some (.dT (tk Wn)) ∧ (∃ us, H' wl = some (.lst us) ∧ PL (ThV H') us Wt) ∧ Wk B R ts ms Wn Wt ∧ n = 3 * (ms.length - Wn.length) + Wt.length, ⟨_, none, [], ts, rfl, S0, (same_new hwl) _ _ upd_same, ⟨wc, upd_same, hplc.mono fun _ _ z => z.tt (K := K) (Same_tt S0)⟩, Wk.start hlt, rfl⟩, ?_⟩
  rintro n σ H2 ⟨v6, Wn, Wt, rfl, s2, e2, ⟨us, el, hU⟩, wk, rfl⟩
  have hWl := wk.len hO hW
  refine ⟨_, rfl, wl, us, rfl, .inl (SqL.of el), _, _, rfl, rfl, _, rfl, ite2 (fun c1 => ⟨fun σ' H' => ∃ m', m' < 3 * (ms.length - Wn.length) + Wt.length ∧ ∃ v6 Wn Wt, σ' = [some (.ref p), some (.ref v), some (.ref c), some (.ref q), some (.ref d), some (.ref wl), v6] ∧ Same H H' ∧ H' d = some (.dT (tk Wn)) ∧ (∃ us, H' wl = some (.lst us) ∧ PL (ThV H') us Wt) ∧ Wk B R ts ms Wn Wt ∧ m' = 3 * (ms.length - Wn.length) + Wt.length, fun _ _ h => h, ?_⟩) (fun c1 => ?_)⟩
  · have hpos : 0 < Wt.length := by
      have := of_decide_eq_true c1
      rw [hU.1] at this
      omega
    obtain ⟨Wt', t, y, rfl, hy, ⟨pt, rfl, hpt⟩, hU'⟩ := hU.last hpos
    refine ⟨_, rfl, .inl ⟨rfl, _, SqL.of el⟩, wl, us, _, rfl, rfl, el, hy, ?_⟩
    have tP : TT K H2 (upd H2 wl (.lst us.dropLast)) := tt_lst el
    have s3 : Same H (upd H2 wl (.lst us.dropLast)) := same_at s2 hwl0
    have e3 : (upd H2 wl (.lst us.dropLast)) d = some (.dT (tk Wn)) := by rw [upd_ne ndl]; exact e2
    have el3 : (upd H2 wl (.lst us.dropLast)) wl = some (.lst us.dropLast) := upd_same
    have hU3 := hU'.mono fun _ _ z => z.tt tP
    have hpt3 := tP.d _ _ hpt
    generalize upd H2 wl (.lst us.dropLast) = H3 at s3 e3 el3 hU3 hpt3
    refine ⟨_, rfl, _, rfl, d, _, rfl, DGet.t e3 (k := kt t) hpt3, _, rfl, ?_⟩
    rw [tk_some]
    have hRt := wk.r2 t (List.mem_append.mpr (Or.inr (List.mem_singleton.mpr rfl)))
    have hlw : (Wt' ++ [t]).length = Wt'.length + 1 := by rw [List.length_append]; rfl
    refine ite2 (fun hb => ?_) (fun hb => ?_)
    · have hnew : t ∉ Wn := by
        intro z
        rw [decide_eq_true z] at hb
        exact absurd hb (by decide)
      obtain ⟨u, qq, hm, hv, hqq⟩ := cd.at (hRt.made hO hW)
      have hum := Ch.u _ hm
      have htm := (mem_makM W.g).mp hum.1
      have hwk := wk.visit hO hnew hm (U := needsL B R t u) (fun x => mem_needsL) (needsL_len W.gr)
      have hWl2 := hwk.len hO hW
      rw [List.length_append, List.length_singleton] at hWl2
      refine ⟨_, rfl, _, rfl, d, _, rfl, DPut.t e3 (k := kt t) hpt3 (by rw [tk_len]; exact lt_line (by omega)), ?_⟩
      have t4 : TT K H3 (upd H3 d (.dT (putK (tk Wn) (kt t) (.bl true)))) := tt_dT e3
      rw [tk_put, insT_new hnew] at t4 ⊢
      have s4 : Same H (upd H3 d (.dT (tk (Wn ++ [t])))) := same_at s3 hd
      have e4 : (upd H3 d (.dT (tk (Wn ++ [t])))) d = some (.dT (tk (Wn ++ [t]))) := upd_same
      have el4 : (upd H3 d (.dT (tk (Wn ++ [t])))) wl = some (.lst us.dropLast) := by rw [upd_ne ndl.symm]; exact el3
      have hU4 := hU3.mono fun _ _ z => z.tt t4
      have hpt4 := t4.d _ _ hpt3
      generalize upd H3 d (.dT (tk (Wn ++ [t]))) = H4 at s4 e4 el4 hU4 hpt4
      refine ⟨_, rfl, .inl ⟨rfl, _, SqL.of el4⟩, ?_⟩
      refine ⟨_, rfl, _, rfl, _, rfl, _, rfl, _, rfl, c, _, rfl, dget_t (s4 _ _ ec) (k := kt t) hpt4 hv, p, v, pt, qq, B, R, t, u, rfl, W.tt (Same_tt s4), .inl (.inl hpt4), (htm.lt W.g).1, (Same_tt s4).t _ _ hqq, (mem_usW.mp hum.2).1, fun l2 H5 s5 hl2 hL2 => ?_⟩
      obtain ⟨ys, hys, hply⟩ := hL2
      have hnl := needsL_len (B := B) W.gr (t := t) (w := u)
      have el5 := s5 _ _ el4
      have hll := wk.ll
      refine ⟨wl, l2, _, _, rfl, rfl, el5, hys, ?_, ?_⟩
      · have h1 := hply.1
        have h2 := hU'.1
        have : us.dropLast.length + ys.length < sizeLine := lt_line (by omega)
        omega
      have t6 : TT K H5 (upd H5 wl (.lst (us.dropLast ++ ys))) := tt_lst el5
      refine ⟨_, ?_, _, Wn ++ [t], Wt' ++ needsL B R t u, rfl, same_at (s4.trans s5) hwl0, by rw [upd_ne ndl]; exact s5 _ _ e4, ⟨_, upd_same, ?_⟩, hwk, rfl⟩
      · rw [List.length_append, List.length_append, List.length_append, List.length_singleton]
        omega
      · exact ((hU4.mono fun _ _ z => z.tt (K := K) (Same_tt s5)).app hply).mono fun _ _ z => z.tt t6
    · have hold : t ∈ Wn := Classical.byContradiction fun z => hb (by rw [decide_eq_false z]; rfl)
      exact ⟨_, by omega, _, Wn, Wt', rfl, s3, e3, ⟨_, el3, hU3⟩, wk.skip hold, rfl⟩
  · have hz : Wt = [] := by
      refine List.eq_nil_of_length_eq_zero ?_
      have : ¬ ((us.length : Int) > 0) := fun z => c1 (decide_eq_true z)
      rw [hU.1] at this
      omega
    subst hz
    exact ⟨_, rfl, k d Wn H2 s2 hd e2 wk.nd fun t => wk.all⟩
end
end Lk
namespace Lk
open PySem L2
section
/-- the way that a choice has for t -/
def wayM (ms : List Mg) (t : Th) : Wy := ((ms.find? fun m => decide (m.1 = t)).map (·.2)).getD (false, 0)
theorem wayM_of {t : Th} {w : Wy} : ∀ {ms : List Mg}, (tgs ms).Nodup → (t, w) ∈ ms → wayM ms t = w
  | m :: r, hn, h => by
    have hn' : (m.1 :: tgs r).Nodup := hn
    rw [List.nodup_cons] at hn'
    unfold wayM
    rw [List.find?_cons]
    by_cases e : m.1 = t
    · rw [decide_eq_true e]
      rcases List.mem_cons.mp h with q | q
      · rw [← q]
        rfl
      · exact absurd (List.mem_map.mpr ⟨(t, w), q, e.symm⟩) hn'.1
    · rw [decide_eq_false e]
      rcases List.mem_cons.mp h with q | q
      · exact absurd (by rw [← q]) e
      · exact wayM_of (ms := r) hn'.2 q
def costM (B : Bk) (ms : List Mg) (F : List Th) : Nat := (F.map fun t => priceW B (wayM ms t)).sum
theorem sum_nv2 : ∀ ns : List Nat, V.int (List.sum (ns.map fun n : Nat => (n : Int))) = nv ns.sum
  | [] => rfl
  | n :: ns => by
    have ih := V.int.inj (sum_nv2 ns)
    show V.int ((n : Int) + List.sum (ns.map fun n : Nat => (n : Int))) = V.int ((n + ns.sum : Nat) : Int)
    rw [ih, Int.natCast_add]
variable {K : PySem.W.Frag}
theorem ChoV.at {H : Hp} {q : Addr} {B : Bk} {R : List Row} {ms : List Mg} {kvs : List (List Key × V)} (h : ChoV K H q B R ms) (c : CD K H kvs ms) {t : Th} (ht : t ∈ tgs ms) : ∃ qq, (t, wayM ms t) ∈ ms ∧ valV kvs (kt t) = some (.ref qq) ∧ SqT K H qq [.str (wd (wayM ms t).1), nv (wayM ms t).2] ∧ t ∈ makM B R ∧ wayM ms t ∈ usW B R t ∧ wayM ms t ∈ waysM B R t := by
  obtain ⟨w, qq, hm, hv, hq⟩ := c.at ht
  have e := wayM_of c.n hm
  subst e
  have hu := h.u _ hm
  exact ⟨qq, hm, hv, hq, hu.1, hu.2, (mem_usW.mp hu.2).1⟩
end
section
variable {P : Program} {w : World} {K : PySem.W.Frag} {mg : Str → Option Value} {base : Heap} {a : Adr}
def spLCostD (K : PySem.W.Frag) : Sp := fun vs H Q _ => ∃ (p c d : Addr) (B : Bk) (R : List Row) (ms : List Mg) (F : List Th), vs = [.ref p, .ref c, .ref d] ∧ PartsV K H p B ∧ ChoV K H c B R ms ∧ c ≠ d ∧ H d = some (.dT (tk F)) ∧ F.length ≤ 1000 ∧ (∀ t ∈ F, t ∈ tgs ms) ∧ ∀ H', Same H H' → Q (nv (costM B ms F)) H'
theorem ok_law_costD (T : Txt K mg a) : FnOk P w K mg base CX0 2 a.f_law_cost a.d_law_cost ["_law_parts", "_law_choice", "_law_things"] (spLCostD K) := by
  have G_law_price := ok_law_price (P := P) (w := w) (base := base) T
  refine T.F_law_cost.ok sc_law_cost (fun vs H Q E h => ?_) (fun cdv A outer s H vs Q E hr h => ?_)
  · obtain ⟨p, c, d, B, R, ms, F, rfl, _⟩ := h
    rfl
  obtain ⟨p, c, d, B, R, ms, F, rfl, W, Ch, ncd, ed, hl, hF, k⟩ := h
  obtain ⟨kvs, ec, cd⟩ := id Ch.e
  refine ⟨_, (pss_one (ps_ret (pe_callB (cr_sum rfl) (by rfl) T.z_sum (by decide +kernel) (pa_cons (pe_lock (pe_lc (own := [("_law_thing", 3)]) (g := gName 3) (tt := tYes) rfl sc_law_cost.nd (pi_keys (pv 2)) (blkOk_by (N := ["_law_parts", "_law_choice", "_law_things", "_law_thing"]) (sc := defScope s_law_cost) (by decide +kernel)) (fun _ _ _ _ _ => pg_name (i := 3) sc_law_cost.nd rfl (Or.inl rfl)) (fun _ _ _ _ _ => pts_nil) (fun _ _ _ _ _ => (pe_call G_law_price (hr.mono (by decide)) rfl T.g_law_price T.k_law_price T.b_law_price .nil pass0 (pa_cons (pv 0) (pa_cons (pe_dget (hu1 hr) (pv 1) (pv 3) (fun _ _ => rfl)) pa_nil)))))) pa_nil)))), ?_⟩
  refine ⟨d, _, ed, trivial, fun od => ?_⟩
  have xL : TL K H (upd H d (.frz od (.dT (tk F)))) := tl_dT ed
  have back : ∀ {H'}, Same (upd H d (.frz od (.dT (tk F)))) H' → Same H (upd H' d (.dT (tk F))) := fun s => unlock_same ed s
  have eF : (upd H d (.frz od (.dT (tk F)))) d = some (.frz od (.dT (tk F))) := upd_same
  have ecF : (upd H d (.frz od (.dT (tk F)))) c = some (.dT kvs) := by rw [upd_ne ncd]; exact ec
  generalize upd H d (.frz od (.dT (tk F))) = HL at xL back eF ecF
  refine ⟨_, rfl, d, od, rfl, .inr ⟨_, eF, fun D hD => ?_⟩⟩
  refine lc_it walk_keysT (fun j H' => Same HL H' ∧ H' D = some (.lst (((F.take j).map fun t => priceW B (wayM ms t)).map nv))) ⟨same_new hD, upd_same⟩ (fun j H' _ z => z.1 _ _ eF) (fun j v H1 H2 hj z hy => ?_) (fun H1 z => ?_)
  · obtain ⟨s1, eD⟩ := z
    obtain ⟨rfl, ky, vy, q, hkv, rfl, hq⟩ := hy
    obtain ⟨t, ht, rfl⟩ : ∃ t, F[j]? = some t ∧ ky = kt t := by
      unfold tk at hkv
      rw [List.getElem?_map] at hkv
      obtain ⟨t, h2, h3⟩ := Option.map_eq_some_iff.mp hkv
      exact ⟨t, h2, (Prod.mk.inj h3).1.symm⟩
    obtain ⟨qq, hm, hv, hqq, _, _, hw⟩ := Ch.at cd (hF t (List.mem_of_getElem? ht))
    obtain ⟨c1, c2⟩ := way_lt hw
    have x1 : TL K H H2 := xL.trans (TL.of s1)
    refine ⟨rfl, ?_⟩
    refine ⟨_, rfl, _, rfl, _, rfl, c, _, rfl, dget_t (s1 _ _ ecF) (k := kt t) hq hv, p, qq, B, _, rfl, W.tt x1.t, x1.t.t _ _ hqq, c1, c2, _, eD, ?_, same_at s1 hD, ?_⟩
    · rw [List.length_map, List.length_map, List.length_take]
      exact lt_line (by omega)
    · rw [upd_same, List.take_add_one, ht, List.map_append, List.map_append]
      rfl
  · obtain ⟨s1, eD⟩ := z
    rw [tk_len, List.take_length] at eD
    refine ⟨s1 _ _ eF, ?_⟩
    have x2 : TL K H1 (upd H1 d (.dT (tk F))) := tl_frzT (s1 _ _ eF)
    refine ⟨D, (F.map fun t => priceW B (wayM ms t)).map fun n : Nat => (n : Int), rfl, ?_, ?_⟩
    · have e : ((F.map fun t => priceW B (wayM ms t)).map fun n : Nat => (n : Int)).map V.int = (F.map fun t => priceW B (wayM ms t)).map nv := by
        rw [List.map_map]
        rfl
      rw [e]
      exact SqL.of (x2.l _ _ eD)
    · rw [sum_nv2]
      exact k _ (back s1)
def spLCostL (K : PySem.W.Frag) : Sp := fun vs H Q _ => ∃ (p c l : Addr) (B : Bk) (R : List Row) (ms : List Mg) (F : List Th), vs = [.ref p, .ref c, .ref l] ∧ PartsV K H p B ∧ ChoV K H c B R ms ∧ LT K H l F ∧ F.length ≤ 1000 ∧ (∀ t ∈ F, t ∈ tgs ms) ∧ ∀ H', Same H H' → Q (nv (costM B ms F)) H'
theorem ok_law_costL (T : Txt K mg a) : FnOk P w K mg base CX0 2 a.f_law_cost a.d_law_cost ["_law_parts", "_law_choice", "_law_things"] (spLCostL K) := by
  have G_law_price := ok_law_price (P := P) (w := w) (base := base) T
  refine T.F_law_cost.ok sc_law_cost (fun vs H Q E h => ?_) (fun cdv A outer s H vs Q E hr h => ?_)
  · obtain ⟨p, c, d, B, R, ms, F, rfl, _⟩ := h
    rfl
  obtain ⟨p, c, l, B, R, ms, F, rfl, W, Ch, ⟨us, eL, hU⟩, hl, hF, k⟩ := h
  obtain ⟨kvs, ec, cd⟩ := id Ch.e
  refine ⟨_, (pss_one (ps_ret (pe_callB (cr_sum rfl) (by rfl) T.z_sum (by decide +kernel) (pa_cons (pe_lc (own := [("_law_thing", 3)]) (g := gName 3) (tt := tYes) rfl sc_law_cost.nd (pi_list (pv 2)) (blkOk_by (N := ["_law_parts", "_law_choice", "_law_things", "_law_thing"]) (sc := defScope s_law_cost) (by decide +kernel)) (fun _ _ _ _ _ => pg_name (i := 3) sc_law_cost.nd rfl (Or.inl rfl)) (fun _ _ _ _ _ => pts_nil) (fun _ _ _ _ _ => (pe_call G_law_price (hr.mono (by decide)) rfl T.g_law_price T.k_law_price T.b_law_price .nil pass0 (pa_cons (pv 0) (pa_cons (pe_dget (hu1 hr) (pv 1) (pv 3) (fun _ _ => rfl)) pa_nil))))) pa_nil)))), ?_⟩
  refine ⟨_, rfl, l, rfl, ⟨_, SqL.of eL⟩, fun D hD => ?_⟩
  refine lc_list (xs := us) (fun j H' => Same H H' ∧ H' D = some (.lst (((F.take j).map fun t => priceW B (wayM ms t)).map nv))) ⟨same_new hD, upd_same⟩ (fun j H' _ z => SqL.of (z.1 _ _ eL)) (fun j v H2 hv z => ?_) (fun H1 z => ?_)
  · obtain ⟨s1, eD⟩ := z
    obtain ⟨t, ht, q, rfl, hq⟩ := hU.at' hv
    obtain ⟨qq, hm, hv, hqq, _, _, hw⟩ := Ch.at cd (hF t (List.mem_of_getElem? ht))
    obtain ⟨c1, c2⟩ := way_lt hw
    have x1 : TL K H H2 := TL.of s1
    refine ⟨rfl, ?_⟩
    refine ⟨_, rfl, _, rfl, _, rfl, c, _, rfl, dget_t (s1 _ _ ec) (k := kt t) (s1 _ _ hq) hv, p, qq, B, _, rfl, W.tt x1.t, x1.t.t _ _ hqq, c1, c2, _, eD, ?_, same_at s1 hD, ?_⟩
    · rw [List.length_map, List.length_map, List.length_take]
      exact lt_line (by omega)
    · rw [upd_same, List.take_add_one, ht, List.map_append, List.map_append]
      rfl
  · obtain ⟨s1, eD⟩ := z
    rw [hU.1, List.take_length] at eD
    refine ⟨D, (F.map fun t => priceW B (wayM ms t)).map fun n : Nat => (n : Int), rfl, ?_, ?_⟩
    · have e : ((F.map fun t => priceW B (wayM ms t)).map fun n : Nat => (n : Int)).map V.int = (F.map fun t => priceW B (wayM ms t)).map nv := by
        rw [List.map_map]
        rfl
      rw [e]
      exact SqL.of eD
    · rw [sum_nv2]
      exact k _ s1
end
end Lk
namespace Lk
open PySem L2
section
/-! a plan, made from a choice: at each turn the first that is ready -/
abbrev PSt := List Mg × List Th
def Rdy (B : Bk) (R : List Row) (ms : List Mg) (D : List Th) (t : Th) : Prop := ∀ u ∈ needsM B R t (wayM ms t), u ∈ D
def StepP (B : Bk) (R : List Row) (ms : List Mg) (s s' : PSt) : Prop := ∃ j t, s.2[j]? = some t ∧ Rdy B R ms (tgs s.1) t ∧ (∀ m, m < j → ∀ x, s.2[m]? = some x → ¬ Rdy B R ms (tgs s.1) x) ∧ s' = (s.1 ++ [(t, wayM ms t)], s.2.eraseIdx j)
def RunN (B : Bk) (R : List Row) (ms : List Mg) (L : List Th) : Nat → PSt → Prop
  | 0, s => s = ([], L)
  | n + 1, s => ∃ s0, RunN B R ms L n s0 ∧ StepP B R ms s0 s
theorem step_det {B : Bk} {R : List Row} {ms : List Mg} {s s1 s2 : PSt} (h1 : StepP B R ms s s1) (h2 : StepP B R ms s s2) : s1 = s2 := by
  obtain ⟨j, t, a1, a2, a3, rfl⟩ := h1
  obtain ⟨k, u, b1, b2, b3, rfl⟩ := h2
  have : j = k := by
    rcases Nat.lt_trichotomy j k with q | q | q
    · exact absurd a2 (b3 j q t a1)
    · exact q
    · exact absurd b2 (a3 k q u b1)
  subst this
  rw [a1] at b1
  cases b1
  rfl
theorem run_det {B : Bk} {R : List Row} {ms : List Mg} {L : List Th} : ∀ {n : Nat} {s1 s2 : PSt}, RunN B R ms L n s1 → RunN B R ms L n s2 → s1 = s2
  | 0, _, _, h1, h2 => by
    rw [show _ = _ from h1, show _ = _ from h2]
  | n + 1, _, _, ⟨a, ha, ha2⟩, ⟨b, hb, hb2⟩ => by
    have := run_det ha hb
    subst this
    exact step_det ha2 hb2
theorem mem_eraseIdx {L : List Th} (hn : L.Nodup) {j : Nat} {t x : Th} (h : L[j]? = some t) : x ∈ L.eraseIdx j ↔ x ∈ L ∧ x ≠ t := by
  have hj := (List.getElem?_eq_some_iff.mp h).1
  have e : L = L.take j ++ t :: L.drop (j + 1) := by
    conv => lhs; rw [← List.take_append_drop j L]
    congr 1
    rw [List.drop_eq_getElem_cons hj]
    congr 1
    exact (List.getElem?_eq_some_iff.mp h).2
  have e2 : L.eraseIdx j = L.take j ++ L.drop (j + 1) := List.eraseIdx_eq_take_drop_succ ..
  rw [e] at hn
  rw [List.nodup_append, List.nodup_cons] at hn
  rw [e2]
  conv => rhs; rw [e]
  rw [List.mem_append, List.mem_append, List.mem_cons]
  constructor
  · rintro (q | q)
    · exact ⟨Or.inl q, fun z => hn.2.2 x q t List.mem_cons_self z⟩
    · exact ⟨Or.inr (Or.inr q), fun z => hn.2.1.1 (z ▸ q)⟩
  · rintro ⟨q | q | q, z⟩
    · exact Or.inl q
    · exact absurd q z
    · exact Or.inr q
/-- what a run keeps -/
structure PSI (B : Bk) (R : List Row) (ms : List Mg) (L : List Th) (n : Nat) (s : PSt) : Prop where
  l : s.1.length = n
  l2 : s.1.length + s.2.length = L.length
  n1 : s.2.Nodup
  d : ∀ t ∈ s.2, t ∉ tgs s.1
  m : ∀ t, t ∈ L ↔ t ∈ tgs s.1 ∨ t ∈ s.2
  o : Ord B R s.1
  w : ∀ x ∈ s.1, x = (x.1, wayM ms x.1)
theorem PSI.start {B : Bk} {R : List Row} {ms : List Mg} {L : List Th} (h : L.Nodup) : PSI B R ms L 0 ([], L) :=
  ⟨rfl, by simp, h, (fun _ _ z => nomatch z), fun t => ⟨Or.inr, fun q => q.elim (fun z => nomatch z) id⟩, ord_nil, fun _ z => nomatch z⟩
theorem PSI.step {B : Bk} {R : List Row} {ms : List Mg} {L : List Th} {n : Nat} {s s' : PSt} (h : PSI B R ms L n s) (hs : StepP B R ms s s') : PSI B R ms L (n + 1) s' := by
  obtain ⟨j, t, a1, a2, a3, rfl⟩ := hs
  have hm := fun x => mem_eraseIdx h.n1 (x := x) a1
  have htm := List.mem_of_getElem? a1
  have hnew := h.d t htm
  have hj := (List.getElem?_eq_some_iff.mp a1).1
  refine ⟨by rw [List.length_append, h.l]; rfl, ?_, h.n1.sublist (List.eraseIdx_sublist ..), fun x hx => ?_, fun x => ?_, ord_snoc h.o hnew a2, fun x hx => ?_⟩
  · have := h.l2
    show (s.1 ++ [_]).length + (s.2.eraseIdx j).length = _
    rw [List.length_append, List.length_singleton, List.length_eraseIdx_of_lt hj]
    omega
  · obtain ⟨q1, q2⟩ := (hm x).mp hx
    show x ∉ tgs (s.1 ++ [_])
    rw [tgs_snoc, List.mem_append, List.mem_singleton]
    rintro (z | z)
    · exact h.d x q1 z
    · exact q2 z
  · show _ ↔ x ∈ tgs (s.1 ++ [_]) ∨ x ∈ s.2.eraseIdx j
    rw [h.m x, tgs_snoc, List.mem_append, List.mem_singleton, hm x]
    constructor
    · rintro (q | q)
      · exact Or.inl (Or.inl q)
      · by_cases e : x = t
        · exact Or.inl (Or.inr e)
        · exact Or.inr ⟨q, e⟩
    · rintro ((q | q) | q)
      · exact Or.inl q
      · exact Or.inr (q ▸ htm)
      · exact Or.inr q.1
  · rcases List.mem_append.mp hx with q | q
    · exact h.w x q
    · rw [List.mem_singleton.mp q]
theorem run_psi {B : Bk} {R : List Row} {ms : List Mg} {L : List Th} (hL : L.Nodup) : ∀ {n : Nat} {s : PSt}, RunN B R ms L n s → PSI B R ms L n s
  | 0, s, h => by
    rw [show s = ([], L) from h]
    exact PSI.start hL
  | n + 1, s, ⟨s0, h0, hs⟩ => (run_psi hL h0).step hs
/-- while something is left, something is ready -/
theorem psi_rdy {B : Bk} {R : List Row} {ms : List Mg} {L : List Th} {n : Nat} {s : PSt} (h : PSI B R ms L n s) (hO : Ord B R ms) (hn : (tgs ms).Nodup) (hc : ∀ t ∈ L, t ∈ tgs ms ∧ ∀ u ∈ needsM B R t (wayM ms t), u ∈ L) (hp : s.2 ≠ []) : ∃ t ∈ s.2, Rdy B R ms (tgs s.1) t := by
  refine Classical.byContradiction fun z => hp ?_
  have none : ∀ j, ∀ t ∈ tgs (ms.take j), t ∉ s.2 := fun j => by
    induction j with
    | zero => exact fun t ht => nomatch ht
    | succ j ih =>
      intro t ht hs
      cases e : ms[j]? with
      | none =>
        rw [List.take_add_one, e] at ht
        exact ih t (by simpa using ht) hs
      | some m =>
        rw [List.take_add_one, e] at ht
        have ht : t ∈ tgs (ms.take j ++ [m]) := ht
        rw [tgs_snoc, List.mem_append, List.mem_singleton] at ht
        rcases ht with q | q
        · exact ih t q hs
        · subst q
          have hm := List.mem_of_getElem? e
          have hw : wayM ms m.1 = m.2 := wayM_of hn (t := m.1) (w := m.2) hm
          refine z ⟨m.1, hs, fun u hu => ?_⟩
          have h1 := (hc m.1 ((h.m _).mpr (Or.inr hs))).2 u hu
          rw [hw] at hu
          rcases (h.m u).mp h1 with q | q
          · exact q
          · exact absurd q (ih u ((hO j m e).2 u hu))
  refine List.eq_nil_iff_forall_not_mem.mpr fun t ht => ?_
  have h1 := (hc t ((h.m t).mpr (Or.inr ht))).1
  exact none ms.length t (by rw [List.take_length]; exact h1) ht
theorem filter_first {p : Th → Bool} : ∀ {l : List Th} {t : Th}, (l.filter p)[0]? = some t → ∃ j : Nat, l[j]? = some t ∧ p t = true ∧ ∀ (m : Nat), m < j → ∀ (x : Th), l[m]? = some x → p x = false
  | y :: l, t, h => by
    by_cases e : p y = true
    · rw [List.filter_cons_of_pos e] at h
      cases h
      exact ⟨0, rfl, e, fun m hm => absurd hm (Nat.not_lt_zero m)⟩
    · rw [List.filter_cons_of_neg e] at h
      obtain ⟨j, h1, h2, h3⟩ := filter_first h
      refine ⟨j + 1, h1, h2, fun m hm x hx => ?_⟩
      cases m with
      | zero =>
        cases hx
        exact Bool.eq_false_iff.mpr e
      | succ m => exact h3 m (by omega) x hx
variable {K : PySem.W.Frag}
theorem PL.eraseIdx {α : Type} {P : V → α → Prop} {vs : List V} {xs : List α} (h : PL P vs xs) {j : Nat} (hj : j < xs.length) : PL P (vs.eraseIdx j) (xs.eraseIdx j) := by
  refine ⟨by rw [List.length_eraseIdx_of_lt hj, List.length_eraseIdx_of_lt (by rw [h.1]; exact hj), h.1], fun i v x a b => ?_⟩
  rw [List.getElem?_eraseIdx] at a b
  split at a
  · rename_i q
    rw [if_pos q] at b
    exact h.2 i v x a b
  · rename_i q
    rw [if_neg q] at b
    exact h.2 (i + 1) v x a b
/-- l.remove(t), t at j, no thing twice -/
theorem rem_th {L : List Th} {j : Nat} {t : Th} (hn : L.Nodup) (hj : L[j]? = some t) : (L.map dTh)[j]? = some (dTh t) ∧ PyData.eqv (dTh t) (dTh t) = true ∧ ∀ (m : Nat) (z' : PyData), m < j → (L.map dTh)[m]? = some z' → PyData.eqv z' (dTh t) = false := by
  refine ⟨by rw [List.getElem?_map, hj]; rfl, by rw [eqv_th]; exact decide_eq_true rfl, fun m z hm hz => ?_⟩
  rw [List.getElem?_map] at hz
  obtain ⟨x, hx, rfl⟩ := Option.map_eq_some_iff.mp hz
  rw [eqv_th]
  refine decide_eq_false fun z => ?_
  subst z
  obtain ⟨b1, c1⟩ := List.getElem?_eq_some_iff.mp hj
  obtain ⟨b2, c2⟩ := List.getElem?_eq_some_iff.mp hx
  exact (List.pairwise_iff_getElem.mp hn) m j b2 b1 hm (by rw [c2, c1])
theorem way_needs {B : Bk} {R : List Row} {ms : List Mg} {D : List Th} {t : Th} : ((needsL B R t (wayM ms t)).all fun u => decide (u ∈ D)) = true ↔ Rdy B R ms D t := by
  rw [List.all_eq_true]
  exact ⟨fun h u hu => of_decide_eq_true (h u (mem_needsL.mpr hu)), fun h u hu => decide_eq_true (h u (mem_needsL.mp hu))⟩
end
section
variable {P : Program} {w : World} {K : PySem.W.Frag} {mg : Str → Option Value} {base : Heap} {a : Adr}
def spLPlan (K : PySem.W.Frag) : Sp := fun vs H Q _ => ∃ (p v c d : Addr) (B : Bk) (R : List Row) (ms : List Mg) (F : List Th), vs = [.ref p, .ref v, .ref c, .ref d] ∧ PR K H p v B R ∧ ChoV K H c B R ms ∧ H d = some (.dT (tk F)) ∧ F.Nodup ∧ F.length ≤ 1000 ∧ (∀ t ∈ F, t ∈ tgs ms ∧ ∀ u ∈ needsM B R t (wayM ms t), u ∈ F) ∧ ∀ q ns H', Same H H' → RunN B R ms (lotT F) F.length (ns, []) → PlanV K H' q B R ns → Q (.ref q) H'
theorem ok_law_plan (T : Txt K mg a) : FnOk P w K mg base CX0 2 a.f_law_plan a.d_law_plan ["_law_parts", "_law_values_here", "_law_choice", "_law_things"] (spLPlan K) := by
  have G_law_needs := ok_law_needs (P := P) (w := w) (base := base) T
  refine T.F_law_plan.ok sc_law_plan (fun vs H Q E h => ?_) (fun cdv A outer s H vs Q E hr h => ?_)
  · obtain ⟨p, v, c, d, B, R, ms, F, rfl, _⟩ := h
    rfl
  obtain ⟨p, v, c, d, B, R, ms, F, rfl, W, Ch, ed, hFn, hFl, hF, k⟩ := h
  obtain ⟨kvs, ec, cd⟩ := id Ch.e
  have hO := Ch.o
  refine ⟨_, (pss_cons (ps_set (i := 4) sc_law_plan.nd rfl (Or.inl rfl) (pe_lst pa_nil))
  (pss_cons (ps_set (i := 5) sc_law_plan.nd rfl (Or.inl rfl) (pe_callB cr_sortedPO (by rfl) T.z_sorted (by decide +kernel) (pa_cons (pe_callTy (call_list_dT rfl) (by rfl) T.z_list (by decide +kernel) (pa_cons (pv 3) pa_nil)) pa_nil)))
  (pss_cons (ps_set (i := 6) sc_law_plan.nd rfl (Or.inr rfl) pe_dnewT)
  (pss_cons (ps_while PassesOwn.never (pt_cmpR op_gt (pe_callB call_len_seq (by rfl) T.z_len PySem.boot_len (pa_cons (pv 5) pa_nil)) pe_int (nomark _))
    (pss_cons (ps_set (i := 7) sc_law_plan.nd rfl (Or.inl rfl) (pe_lst pa_nil))
  (pss_cons (ps_for PassesOwn.never rfl (pi_list (pv 5)) (pg_name (i := 8) sc_law_plan.nd rfl (Or.inl rfl))
    (pss_one (ps_if (pt_val (pe_callB (cr_all rfl) (by rfl) T.z_all (by decide +kernel) (pa_cons (pe_lc (own := [("_law_need", 9)]) (g := gName 9) (tt := tYes) rfl sc_law_plan.nd (pi_list (pe_call G_law_needs (hr.mono (by decide)) rfl T.g_law_needs T.k_law_needs T.b_law_needs .nil pass0 (pa_cons (pv 0) (pa_cons (pv 1) (pa_cons (pv 8) (pa_cons (pe_dget (hu1 hr) (pv 2) (pv 8) (fun _ _ => rfl)) pa_nil)))))) (blkOk_by (N := ["_law_parts", "_law_values_here", "_law_choice", "_law_things", "_law_found", "_law_left", "_law_made", "_law_ready", "_law_thing", "_law_need"]) (sc := defScope s_law_plan) (by decide +kernel)) (fun _ _ _ _ _ => pg_name (i := 9) sc_law_plan.nd rfl (Or.inl rfl)) (fun _ _ _ _ _ => pts_nil) (fun _ _ _ _ _ => (pe_cmp (pc_din (hu1 hr) (pv 9) (pv 6)) rfl))) pa_nil)))
    (pss_one (ps_expr (pe_bm PySem.F.plainAttrs_list PySem.F.slot_list_append PySem.F.type_list_append mt_append (pv 7) (pa_cons (pv 8) pa_nil))))
    pss_nil)))
  (pss_cons (ps_expr (pe_bm PySem.F.plainAttrs_list PySem.F.slot_list_append PySem.F.type_list_append mt_append (pv 4) (pa_cons (pe_op (catAK (K := K) rfl) (pe_ix ix_list (pv 7) pe_int (fun _ _ => rfl)) (pe_tup (pa_cons (pe_dget (hu1 hr) (pv 2) (pe_ix ix_list (pv 7) pe_int (fun _ _ => rfl)) (fun _ _ => rfl)) pa_nil))) pa_nil)))
  (pss_cons (ps_dput (hu1 hr) (pv 6) (pe_ix ix_list (pv 7) pe_int (fun _ _ => rfl)) pe_bl rfl)
  (pss_one (ps_expr (pe_bm PySem.F.plainAttrs_list PySem.F.slot_list_remove PySem.F.type_list_remove (RmD.mt_removeD (u65 hr)) (pv 5) (pa_cons (pe_ix ix_list (pv 7) pe_int (fun _ _ => rfl)) pa_nil)))))))))
  (pss_one (ps_ret (pe_callTy call_tuple_of (by rfl) T.z_tuple (by decide +kernel) (pa_cons (pv 4) pa_nil)))))))), ?_⟩
  refine ⟨(by decide : 0 ≤ sizeLine), fun fl hfl => ?_⟩
  have Sf := same_new (o := .lst []) hfl
  have d1 := Sf _ _ ed
  refine ⟨_, rfl, d, _, rfl, .inl d1, fun l0 bs hl0 hbs => ?_⟩
  have S4 := same_new (o := .lst (bs.map V.ref)) hl0
  have hpl : PL (ThV (upd (upd H fl (.lst [])) l0 (.lst (bs.map V.ref)))) (bs.map V.ref) F := (keys_ths hbs).mono fun _ _ q => q.tt (K := K) (tt_new hl0)
  have hkf : ∀ v ∈ bs.map V.ref, ∃ t, v = V.ref t ∧ (upd (upd H fl (.lst [])) l0 (.lst (bs.map V.ref))) t = some (.tup [.int (SoP.keyOf (upd (upd H fl (.lst [])) l0 (.lst (bs.map V.ref))) v).1, .int (SoP.keyOf (upd (upd H fl (.lst [])) l0 (.lst (bs.map V.ref))) v).2]) := fun v hv => by
    obtain ⟨j, hj⟩ := List.mem_iff_getElem?.mp hv
    obtain ⟨t', _, p', rfl, h'⟩ := hpl.at' hj
    have e' := SoP.keyed h'
    exact ⟨p', rfl, by rw [e']; exact h'⟩
  refine ⟨l0, _, SoP.keyOf (upd (upd H fl (.lst [])) l0 (.lst (bs.map V.ref))), rfl, SqL.of upd_same, hkf, fun ys ll hs hb hll => ?_⟩
  have hP := srt_ths hpl hkf hs hb hFn
  have S5 := (Sf.trans S4).trans (same_new (o := .lst ys) hll)
  have hP5 := hP.mono fun _ _ q => q.tt (K := K) (tt_new (o := .lst ys) hll)
  have f5 := (S4.trans (same_new (o := .lst ys) hll)) _ _ (upd_same (H := H) (a := fl) (o := .lst []))
  have l5 : (upd (upd (upd H fl (.lst [])) l0 (.lst (bs.map V.ref))) ll (.lst ys)) ll = some (.lst ys) := upd_same
  have nfl : fl ≠ ll := ne_of_none (S4 _ _ upd_same) hll
  have hll0 : H ll = none := none_of (Sf.trans S4) hll
  generalize upd (upd (upd H fl (.lst [])) l0 (.lst (bs.map V.ref))) ll (.lst ys) = H5 at S5 hP5 f5 l5
  have hLn : (lotT F).Nodup := asc_nodup asc_lotT
  have hLm : ∀ t, t ∈ lotT F ↔ t ∈ F := fun t => mem_lotT
  have hLl : (lotT F).length = F.length := by
    refine Nat.le_antisymm lotT_len (nodup_len hFn fun t ht => (hLm t).mpr ht)
  have hLc : ∀ t ∈ lotT F, t ∈ tgs ms ∧ ∀ u ∈ needsM B R t (wayM ms t), u ∈ lotT F := fun t ht => by
    obtain ⟨h1, h2⟩ := hF t ((hLm t).mp ht)
    exact ⟨h1, fun u hu => (hLm u).mpr (h2 u hu)⟩
  refine fun dm hdm => ?_
  have S6 := same_new (o := .dT []) hdm
  have hdm0 : H dm = none := none_of S5 hdm
  have nfd : fl ≠ dm := ne_of_none f5 hdm
  have nld : ll ≠ dm := ne_of_none l5 hdm
  refine ⟨fun m σ H' => ∃ v7 v8 n ns left us ul, σ = [some (.ref p), some (.ref v), some (.ref c), some (.ref d), some (.ref fl), some (.ref ll), some (.ref dm), v7, v8, none] ∧ Same H H' ∧ H' dm = some (.dT (tk (tgs ns))) ∧ H' fl = some (.lst us) ∧ PL (MgV K H') us ns ∧ H' ll = some (.lst ul) ∧ PL (ThV H') ul left ∧ RunN B R ms (lotT F) n (ns, left) ∧ m = left.length, ⟨_, none, none, 0, [], lotT F, [], ys, rfl, S5.trans S6, upd_same, S6 _ _ f5, PL.nil, S6 _ _ l5, hP5.mono fun _ _ q => q.tt (K := K) (tt_new hdm), rfl, rfl⟩, ?_⟩
  rintro m σ H2 ⟨v7, v8, n, ns, left, us, ul, rfl, s2, m2, f2, hp2, l2, hq2, run, rfl⟩
  have psi := run_psi hLn run
  have hll2 := psi.l2
  have hll2 : ns.length + left.length = F.length := hll2.trans hLl
  refine ⟨_, rfl, ll, ul, rfl, .inl (SqL.of l2), _, _, rfl, rfl, _, rfl, ite2 (fun c1 => ⟨fun σ' H' => ∃ m', m' < left.length ∧ ∃ v7 v8 n ns left us ul, σ' = [some (.ref p), some (.ref v), some (.ref c), some (.ref d), some (.ref fl), some (.ref ll), some (.ref dm), v7, v8, none] ∧ Same H H' ∧ H' dm = some (.dT (tk (tgs ns))) ∧ H' fl = some (.lst us) ∧ PL (MgV K H') us ns ∧ H' ll = some (.lst ul) ∧ PL (ThV H') ul left ∧ RunN B R ms (lotT F) n (ns, left) ∧ m' = left.length, fun _ _ h => h, ?_⟩) (fun c1 => ?_)⟩
  · have hpos : left ≠ [] := fun e => by
      have := of_decide_eq_true c1
      rw [hq2.1, e] at this
      exact absurd this (by decide)
    refine ⟨(by decide : 0 ≤ sizeLine), fun rl hrl => ?_⟩
    have Sr := same_new (o := .lst []) hrl
    have hrl0 : H rl = none := none_of s2 hrl
    have nrl : ll ≠ rl := ne_of_none l2 hrl
    have nrf : fl ≠ rl := ne_of_none f2 hrl
    have nrd : dm ≠ rl := ne_of_none m2 hrl
    refine ⟨_, rfl, ll, rfl, ⟨_, SqL.of (Sr _ _ l2)⟩, for_list (xs := ul) (fun j σ H' => ∃ v8 ur, σ = [some (.ref p), some (.ref v), some (.ref c), some (.ref d), some (.ref fl), some (.ref ll), some (.ref dm), some (.ref rl), v8, none] ∧ Same H2 H' ∧ H' rl = some (.lst ur) ∧ PL (ThV H') ur ((left.take j).filter fun t => (needsL B R t (wayM ms t)).all fun u => decide (u ∈ tgs ns))) ⟨v8, [], rfl, Sr, upd_same, PL.nil⟩ ?_ ?_ ?_⟩
    · rintro j σ H' _ ⟨_, _, _, s3, _⟩
      exact SqL.of (s3 _ _ l2)
    · rintro j u σ H3 hu ⟨v8, ur, rfl, s3, er, hr3⟩
      obtain ⟨t, ht, q, rfl, hq⟩ := hq2.at' hu
      have hj := (List.getElem?_eq_some_iff.mp ht).1
      have htL := (psi.m t).mpr (Or.inr (List.mem_of_getElem? ht))
      obtain ⟨qq, hm, hv, hqq, hmk, _, hw⟩ := Ch.at cd (hLc t htL).1
      have hmk := (mem_makM W.g).mp hmk
      have s23 := s2.trans s3
      have htk : left.take (j + 1) = left.take j ++ [t] := by
        rw [List.take_add_one, ht]
        rfl
      refine ⟨_, rfl, _, rfl, _, rfl, _, rfl, _, rfl, c, _, rfl, dget_t (s23 _ _ ec) (k := kt t) (s3 _ _ hq) hv, p, v, q, qq, B, R, t, _, rfl, W.tt (Same_tt s23), .inl (.inl (s3 _ _ hq)), (hmk.lt W.g).1, (Same_tt s23).t _ _ hqq, hw, fun l2 H5 s5 hl2 hL2 => ?_⟩
      obtain ⟨us2, eL2, hU2⟩ := hL2
      refine ⟨l2, rfl, ⟨_, SqL.of eL2⟩, fun D2 hD2 => ?_⟩
      refine lc_list (xs := us2) (fun n H' => Same H5 H' ∧ H' D2 = some (.lst ((((needsL B R t (wayM ms t)).take n).map fun u => (valV (tk (tgs ns)) (kt u)).isSome).map V.bl))) ⟨same_new hD2, upd_same⟩ (fun n H' _ z => SqL.of (z.1 _ _ eL2)) (fun n v H6 hv7 z => ?_) (fun H6 z => ?_)
      · obtain ⟨s7, eD7⟩ := z
        obtain ⟨u, hu7, pu, rfl, hpu⟩ := hU2.at' hv7
        refine ⟨rfl, ?_⟩
        refine ⟨_, rfl, _, rfl, dm, _, rfl, DGet.t ((s3.trans (s5.trans s7)) _ _ m2) (k := kt u) (s7 _ _ hpu), _, eD7, ?_, all_step s7 hD2 hu7⟩
        rw [List.length_map, List.length_map, List.length_take]
        have := needsL_len (B := B) W.gr (t := t) (w := wayM ms t)
        exact lt_line (by omega)
      · obtain ⟨s7, eD7⟩ := z
        rw [hU2.1, List.take_length] at eD7
        have S6 := s5.trans s7
        have er6 := S6 _ _ er
        have hr6 := hr3.mono fun _ _ z => z.tt (K := K) (Same_tt S6)
        have hcond : ((needsL B R t (wayM ms t)).map fun u => (valV (tk (tgs ns)) (kt u)).isSome).all id = (needsL B R t (wayM ms t)).all fun u => decide (u ∈ tgs ns) := by
          rw [List.all_map]
          refine List.all_congr rfl fun u => ?_
          show (valV (tk (tgs ns)) (kt u)).isSome = _
          rw [tk_some]
        refine ⟨D2, _, rfl, .inl (.inl eD7), _, rfl, ite2 (fun hall => ?_) (fun hall => ?_)⟩
        · rw [hcond] at hall
          refine ⟨_, rfl, .inl ⟨rfl, _, SqL.of er6⟩, _, rfl, rl, ur, _, rfl, rfl, er6, ?_, ?_⟩
          · rw [hr3.1]
            have := List.length_filter_le (fun t => (needsL B R t (wayM ms t)).all fun u => decide (u ∈ tgs ns)) (left.take j)
            rw [List.length_take] at this
            exact lt_line (by omega)
          refine ⟨_, _, rfl, same_at (s3.trans S6) hrl, upd_same, ?_⟩
          rw [htk, List.filter_append, List.filter_cons_of_pos (p := fun t => (needsL B R t (wayM ms t)).all fun u => decide (u ∈ tgs ns)) hall]
          have x7 : TT K _ (upd H6 rl (.lst (ur ++ [.ref q]))) := tt_lst er6
          exact (hr6.mono fun _ _ z => z.tt x7).snoc ⟨q, rfl, x7.d _ _ ((s3.trans S6) _ _ hq)⟩
        · rw [hcond] at hall
          refine ⟨_, _, rfl, s3.trans S6, er6, ?_⟩
          rw [htk, List.filter_append, List.filter_cons_of_neg (p := fun t => (needsL B R t (wayM ms t)).all fun u => decide (u ∈ tgs ns)) hall, List.filter_nil, List.append_nil]
          exact hr6
    · rintro σ H3 ⟨v8, ur, rfl, s3, er, hr3⟩
      rw [hq2.1, List.take_length] at hr3
      obtain ⟨t0, ht0, hr0⟩ := psi_rdy psi hO cd.n hLc hpos
      have hm0 : t0 ∈ left.filter fun t => (needsL B R t (wayM ms t)).all fun u => decide (u ∈ tgs ns) := List.mem_filter.mpr ⟨ht0, way_needs.mpr hr0⟩
      obtain ⟨t, hft⟩ : ∃ t, (left.filter fun t => (needsL B R t (wayM ms t)).all fun u => decide (u ∈ tgs ns))[0]? = some t := ⟨_, List.getElem?_eq_getElem (List.length_pos_of_mem hm0)⟩
      obtain ⟨y, hy, q, rfl, hq⟩ := hr3.at hft
      obtain ⟨j, hj1, hj2, hj3⟩ := filter_first hft
      have hj := (List.getElem?_eq_some_iff.mp hj1).1
      have hstep : StepP B R ms (ns, left) (ns ++ [(t, wayM ms t)], left.eraseIdx j) := ⟨j, t, hj1, way_needs.mp hj2, (fun m hm x hx z => by
        have h1 := way_needs.mpr z
        rw [hj3 m hm x hx] at h1
        cases h1), rfl⟩
      have htL := (psi.m t).mpr (Or.inr (List.mem_of_getElem? hj1))
      have hnew : t ∉ tgs ns := psi.d t (List.mem_of_getElem? hj1)
      obtain ⟨qq, hm, hv, hqq, hmk, _, hw⟩ := Ch.at cd (hLc t htL).1
      have s23 := s2.trans s3
      have f3 := s3 _ _ f2
      have hix : atI ur ((0 : Nat) : Int) = some (.ref q) := atI_nat hy
      refine ⟨_, rfl, .inl ⟨rfl, _, SqL.of f3⟩, _, rfl, rl, _, _, _, rfl, rfl, SqL.of er, hix, _, rfl, _, rfl, rl, _, _, _, rfl, rfl, SqL.of er, hix, c, _, rfl, dget_t (s23 _ _ ec) (k := kt t) hq hv, (by decide : 1 ≤ sizeLine), fun p1 hp1 => ?_⟩
      have Sp := same_new (o := .tup [.ref qq]) hp1
      refine ⟨q, p1, [nv t.1, nv t.2], [.ref qq], rfl, rfl, .inl (.inl (Sp _ _ hq)), .inl (.inl upd_same), (by decide : 3 ≤ sizeLine), (fun e => nomatch e), (fun _ e => nomatch e), fun _ _ pc hpc => ?_⟩
      have Sc := Sp.trans (same_new (o := .tup ([nv t.1, nv t.2] ++ [.ref qq])) hpc)
      have ec4 : (upd (upd H3 p1 (.tup [.ref qq])) pc (.tup ([nv t.1, nv t.2] ++ [.ref qq]))) pc = some (.tup [nv t.1, nv t.2, .ref qq]) := upd_same
      generalize upd (upd H3 p1 (.tup [.ref qq])) pc (.tup ([nv t.1, nv t.2] ++ [.ref qq])) = H4 at Sc ec4
      have s34 := s3.trans Sc
      have s24 := s2.trans s34
      have f4 := Sc _ _ f3
      refine ⟨fl, us, _, rfl, rfl, f4, ?_, ?_⟩
      · rw [hp2.1]
        exact lt_line (by omega)
      have x5 : TT K H4 (upd H4 fl (.lst (us ++ [.ref pc]))) := tt_lst f4
      have s5 : Same H (upd H4 fl (.lst (us ++ [.ref pc]))) := same_at s24 hfl
      have f5' : (upd H4 fl (.lst (us ++ [.ref pc]))) fl = some (.lst (us ++ [.ref pc])) := upd_same
      have m5 : (upd H4 fl (.lst (us ++ [.ref pc]))) dm = some (.dT (tk (tgs ns))) := by rw [upd_ne nfd.symm]; exact s34 _ _ m2
      have l5' : (upd H4 fl (.lst (us ++ [.ref pc]))) ll = some (.lst ul) := by rw [upd_ne nfl.symm]; exact s34 _ _ l2
      have r5 : (upd H4 fl (.lst (us ++ [.ref pc]))) rl = some (.lst ur) := by rw [upd_ne nrf.symm]; exact Sc _ _ er
      have q5 := x5.d _ _ (Sc _ _ hq)
      have hp5 : PL (MgV K (upd H4 fl (.lst (us ++ [.ref pc])))) (us ++ [.ref pc]) (ns ++ [(t, wayM ms t)]) := (hp2.mono fun _ _ z => z.tt ((Same_tt s34).trans x5)).snoc ⟨pc, qq, rfl, x5.d _ _ ec4, x5.t _ _ ((Same_tt s24).t _ _ hqq)⟩
      have hq5 := hq2.mono fun _ _ z => z.tt ((Same_tt s34).trans x5)
      generalize upd H4 fl (.lst (us ++ [.ref pc])) = H5 at s5 f5' m5 l5' r5 q5 hp5 hq5
      refine ⟨_, rfl, _, rfl, rl, _, _, _, rfl, rfl, SqL.of r5, hix, dm, _, rfl, DPut.t m5 (k := kt t) q5 (by rw [tk_len, tgs_len]; exact lt_line (by omega)), ?_⟩
      have x6 : TT K H5 (upd H5 dm (.dT (putK (tk (tgs ns)) (kt t) (.bl true)))) := tt_dT m5
      rw [tk_put, insT_new hnew] at x6 ⊢
      have s6 : Same H (upd H5 dm (.dT (tk (tgs ns ++ [t])))) := same_at s5 hdm0
      have m6 : (upd H5 dm (.dT (tk (tgs ns ++ [t])))) dm = some (.dT (tk (tgs ns ++ [t]))) := upd_same
      have f6 : (upd H5 dm (.dT (tk (tgs ns ++ [t])))) fl = some (.lst (us ++ [.ref pc])) := by rw [upd_ne nfd]; exact f5'
      have l6 : (upd H5 dm (.dT (tk (tgs ns ++ [t])))) ll = some (.lst ul) := by rw [upd_ne nld]; exact l5'
      have r6 : (upd H5 dm (.dT (tk (tgs ns ++ [t])))) rl = some (.lst ur) := by rw [upd_ne nrd.symm]; exact r5
      have q6 := x6.d _ _ q5
      have hp6 := hp5.mono fun _ _ z => z.tt x6
      have hq6 := hq5.mono fun _ _ z => z.tt x6
      generalize upd H5 dm (.dT (tk (tgs ns ++ [t]))) = H6 at s6 m6 f6 l6 r6 q6 hp6 hq6
      refine ⟨_, rfl, .inl ⟨rfl, _, SqL.of l6⟩, _, rfl, rl, _, _, _, rfl, rfl, SqL.of r6, hix, ?_⟩
      refine ⟨ll, ul, _, dTh t, left.map dTh, j, dTh t, rfl, rfl, l6, pl_dp hq6 (fun _ _ z => th_dp z), th_dp ⟨q, rfl, q6⟩, sh_thsL left, sh_th t, (rem_th psi.n1 hj1).1, (rem_th psi.n1 hj1).2.1, (rem_th psi.n1 hj1).2.2, ?_⟩
      have x7 : TT K H6 (upd H6 ll (.lst (ul.eraseIdx j))) := tt_lst l6
      refine ⟨(left.eraseIdx j).length, ?_, _, _, n + 1, ns ++ [(t, wayM ms t)], left.eraseIdx j, us ++ [.ref pc], ul.eraseIdx j, rfl, same_at s6 hll0, ?_, ?_, hp6.mono fun _ _ z => z.tt x7, upd_same, (hq6.mono fun _ _ z => z.tt x7).eraseIdx hj, ⟨_, run, hstep⟩, rfl⟩
      · rw [List.length_eraseIdx_of_lt hj]
        omega
      · rw [upd_ne nld.symm, tgs_snoc]
        exact m6
      · rw [upd_ne nfl]
        exact f6
  · have hz : left = [] := by
      refine List.eq_nil_of_length_eq_zero ?_
      have : ¬ ((ul.length : Int) > 0) := fun z => c1 (decide_eq_true z)
      rw [hq2.1] at this
      omega
    subst hz
    refine ⟨_, rfl, fl, us, rfl, .inl ⟨SqL.of f2, fun q hq => ?_⟩⟩
    have hn : n = F.length := by
      have := psi.l
      have : ns.length = n := this
      simp only [List.length_nil] at hll2
      omega
    subst hn
    refine k q ns _ (s2.trans (same_new hq)) run ⟨⟨us, .inl (.inl upd_same), hp2.mono fun _ _ z => z.tt (tt_new hq)⟩, fun x hx => ?_, by simp only [List.length_nil] at hll2; omega⟩
    have h1 : x.1 ∈ lotT F := (psi.m x.1).mpr (Or.inl (List.mem_map.mpr ⟨x, hx, rfl⟩))
    obtain ⟨qq, hm, hv, hqq, hmk, _, hw⟩ := Ch.at cd (hLc x.1 h1).1
    have hl := ((mem_makM W.g).mp hmk).lt W.g
    have e := psi.w x hx
    rw [e]
    exact ⟨hl.1, hl.2, hw⟩
end
end Lk
namespace Lk
open PySem L2
section
variable {K : PySem.W.Frag} {H H' : Hp}
theorem rd_same {a : Addr} {u : HO} (h : Rd H a u) (s : Same H H') : Rd H' a u := h.elim (fun e => .inl (s _ _ e)) fun ⟨o, e⟩ => .inr ⟨o, s _ _ e⟩
theorem dget_r {a b : Addr} {kvs : List (List Key × V)} {k : List Key} (e : Rd H a (.dT kvs)) (eb : H b = some (.tup (k.map kV))) : DGet H a (.ref b) (valV kvs k) := .inr ⟨kvs, k, b, e, rfl, eb, rfl⟩
theorem keys_thsK : ∀ {F : List Th} {kvs : List (List Key × V)} {bs : List Addr}, kvs.map (·.1) = F.map kt → IsKeys H kvs bs → PL (ThV H) (bs.map V.ref) F
  | [], [], _, _, h => by
    cases h
    exact PL.nil
  | [], _ :: _, _, e, _ => by cases e
  | _ :: _, [], _, e, _ => by cases e
  | t :: F, p :: kvs, _, e, h => by
    cases h with
    | cons h1 h2 =>
      obtain ⟨e1, e2⟩ := List.cons.inj e
      rw [show p.1 = kt t from e1] at h1
      exact (PL.one (P := ThV H) (x := t) ⟨_, rfl, h1⟩).app (keys_thsK e2 h2)
theorem keys_pair {F : List Th} {kvs : List (List Key × V)} (e : kvs.map (·.1) = F.map kt) : ∀ p ∈ kvs, ∃ i j : Int, p.1 = [.inl i, .inl j] := fun p hp => by
  have h : p.1 ∈ kvs.map (·.1) := List.mem_map.mpr ⟨p, hp, rfl⟩
  rw [e] at h
  obtain ⟨t, _, h2⟩ := List.mem_map.mp h
  exact ⟨_, _, h2.symm⟩
theorem BW.ti {a : Adr} {x y : Addr} {B : Bk} {R : List Row} (t : TT K H H') (i : ∀ b C dx fs, H b = some (.ins C dx fs) → H' b = some (.ins C dx fs)) (h : BW K a H x y B R) : BW K a H' x y B R := by
  obtain ⟨⟨dx, pa, pr, pm, h1, h2, h3, h4⟩, ⟨dy, q, h5, h6⟩, g, gr, f, l⟩ := h
  exact ⟨⟨dx, pa, pr, pm, i _ _ _ _ h1, t.t _ _ h2, h3.tt t, h4.tt t⟩, ⟨dy, q, i _ _ _ _ h5, h6.tt t⟩, g, gr, f, l⟩
theorem BW.lk {a : Adr} {x y d : Addr} {B : Bk} {R : List Row} {kvs : List (List Key × V)} {o : HO} (e : H d = some (.dT kvs)) (h : BW K a H x y B R) : BW K a (upd H d o) x y B R :=
  h.ti (tt_dT e) fun b C dx fs q => by
    rw [upd_ne (ne_of q e (fun z => nomatch z))]
    exact q
/-- a thing that leads back to itself by moves is in no choice -/
theorem back_lt {B : Bk} {R : List Row} {ms : List Mg} (hO : Ord B R ms) {j : Nat} {t u : Th} {w : Wy} (e : ms[j]? = some (t, w)) (hu : u ∈ needsM B R t w) : ∃ i w', i < j ∧ ms[i]? = some (u, w') := by
  obtain ⟨k, m, hk, hm, rfl⟩ := tgs_ex ((hO j _ e).2 u hu)
  exact ⟨k, m.2, hk, hm⟩
end
section
variable {P : Program} {w : World} {K : PySem.W.Frag} {mg : Str → Option Value} {base : Heap} {a : Adr}
def spAllInR (K : PySem.W.Frag) : Sp := fun vs H Q _ => ∃ (d p : Addr) (F ts : List Th), vs = [.ref d, .ref p] ∧ Rd H d (.dT (tk F)) ∧ ThsT K H p ts ∧ ts.length ≤ 10000 ∧ ∀ H', Same H H' → Q (.bl (decide (∀ u ∈ ts, u ∈ F))) H'
theorem ok_all_inR (T : Txt K mg a) : FnOk P w K mg base CX0 1 a.f_all_in a.d_all_in ["made", "things"] (spAllInR K) := by
  refine T.F_all_in.ok sc_all_in (fun vs H Q E h => ?_) (fun cdv A outer s H vs Q E hr h => ?_)
  · obtain ⟨d, p, F, ts, rfl, _⟩ := h
    rfl
  obtain ⟨d, p, F, ts, rfl, hd, ⟨ws, hw, hpl⟩, hl, k⟩ := h
  refine ⟨_, (pss_one (ps_ret (pe_callB (cr_all rfl) (by rfl) T.z_all (by decide +kernel) (pa_cons (pe_lc (own := [("thing", 2)]) (g := gName 2) (tt := tYes) rfl sc_all_in.nd (pi_tup (pv 1)) (blkOk_by (N := ["made", "things", "thing"]) (sc := defScope s_all_in) (by decide +kernel)) (fun _ _ _ _ _ => pg_name (i := 2) sc_all_in.nd rfl (Or.inl rfl)) (fun _ _ _ _ _ => pts_nil) (fun _ _ _ _ _ => (pe_cmp (pc_din (hu1 hr) (pv 2) (pv 0)) rfl))) pa_nil)))), ?_⟩
  refine ⟨_, rfl, p, rfl, ⟨_, hw⟩, fun D hD => ?_⟩
  refine lc_tup (xs := ws) (fun j H' => Same H H' ∧ H' D = some (.lst (((ts.take j).map fun u => decide (u ∈ F)).map V.bl))) ⟨same_new hD, upd_same⟩ (fun j H' _ z => (Tk.of z.1).t hw) (fun j v H1 hv z => ?_) (fun H1 z => ?_)
  · obtain ⟨s1, eD⟩ := z
    obtain ⟨t, ht, hth⟩ := hpl.at' hv
    obtain ⟨pt, rfl, hpt⟩ := hth.tt (K := K) (Same_tt s1)
    have hj := (List.getElem?_eq_some_iff.mp ht).1
    refine ⟨rfl, ?_⟩
    refine ⟨_, rfl, _, rfl, d, _, rfl, dget_r (rd_same hd s1) (k := kt t) hpt, _, eD, ?_, same_at s1 hD, ?_⟩
    · rw [List.length_map, List.length_map, List.length_take]
      exact lt_line (by omega)
    · rw [upd_same, List.take_add_one, ht, List.map_append, List.map_append, tk_some]
      rfl
  · obtain ⟨s1, eD⟩ := z
    rw [hpl.1, List.take_length] at eD
    refine ⟨D, _, rfl, .inl (.inl eD), ?_⟩
    have e1 : ((ts.map fun u => decide (u ∈ F)).all id) = decide (∀ u ∈ ts, u ∈ F) := by
      by_cases h : ∀ u ∈ ts, u ∈ F
      · rw [decide_eq_true h]
        exact all_dec.mpr h
      · rw [decide_eq_false h]
        cases e : (ts.map fun u => decide (u ∈ F)).all id with
        | false => rfl
        | true => exact absurd (all_dec.mp e) h
    rw [e1]
    exact k H1 s1
def spAllInD (K : PySem.W.Frag) : Sp := fun vs H Q _ => ∃ (c d : Addr) (kvs : List (List Key × V)) (F : List Th), vs = [.ref c, .ref d] ∧ H c = some (.dT kvs) ∧ H d = some (.dT (tk F)) ∧ c ≠ d ∧ F.length ≤ 10000 ∧ (∀ t ∈ F, (valV kvs (kt t)).isSome = true) ∧ ∀ H', Same H H' → Q (.bl true) H'
theorem ok_all_inD (T : Txt K mg a) : FnOk P w K mg base CX0 1 a.f_all_in a.d_all_in ["made", "things"] (spAllInD K) := by
  refine T.F_all_in.ok sc_all_in (fun vs H Q E h => ?_) (fun cdv A outer s H vs Q E hr h => ?_)
  · obtain ⟨d, p, F, ts, rfl, _⟩ := h
    rfl
  obtain ⟨c, d, kvs, F, rfl, ec, ed, ncd, hl, hF, k⟩ := h
  refine ⟨_, (pss_one (ps_ret (pe_callB (cr_all rfl) (by rfl) T.z_all (by decide +kernel) (pa_cons (pe_lock (pe_lc (own := [("thing", 2)]) (g := gName 2) (tt := tYes) rfl sc_all_in.nd (pi_keys (pv 1)) (blkOk_by (N := ["made", "things", "thing"]) (sc := defScope s_all_in) (by decide +kernel)) (fun _ _ _ _ _ => pg_name (i := 2) sc_all_in.nd rfl (Or.inl rfl)) (fun _ _ _ _ _ => pts_nil) (fun _ _ _ _ _ => (pe_cmp (pc_din (hu1 hr) (pv 2) (pv 0)) rfl)))) pa_nil)))), ?_⟩
  refine ⟨d, _, ed, trivial, fun od => ?_⟩
  have back : ∀ {H'}, Same (upd H d (.frz od (.dT (tk F)))) H' → Same H (upd H' d (.dT (tk F))) := fun s => unlock_same ed s
  have eF : (upd H d (.frz od (.dT (tk F)))) d = some (.frz od (.dT (tk F))) := upd_same
  have ecF : (upd H d (.frz od (.dT (tk F)))) c = some (.dT kvs) := by rw [upd_ne ncd]; exact ec
  generalize upd H d (.frz od (.dT (tk F))) = HL at back eF ecF
  refine ⟨_, rfl, d, od, rfl, .inr ⟨_, eF, fun D hD => ?_⟩⟩
  refine lc_it walk_keysT (fun j H' => Same HL H' ∧ H' D = some (.lst ((List.replicate j true).map V.bl))) ⟨same_new hD, upd_same⟩ (fun j H' _ z => z.1 _ _ eF) (fun j v H1 H2 hj z hy => ?_) (fun H1 z => ?_)
  · obtain ⟨s1, eD⟩ := z
    obtain ⟨rfl, ky, vy, q, hkv, rfl, hq⟩ := hy
    obtain ⟨t, ht, rfl⟩ : ∃ t, F[j]? = some t ∧ ky = kt t := by
      unfold tk at hkv
      rw [List.getElem?_map] at hkv
      obtain ⟨t, h2, h3⟩ := Option.map_eq_some_iff.mp hkv
      exact ⟨t, h2, (Prod.mk.inj h3).1.symm⟩
    have hjl := (List.getElem?_eq_some_iff.mp ht).1
    refine ⟨rfl, ?_⟩
    refine ⟨_, rfl, _, rfl, c, _, rfl, DGet.t (s1 _ _ ecF) (k := kt t) hq, _, eD, ?_, same_at s1 hD, ?_⟩
    · rw [List.length_map, List.length_replicate]
      exact lt_line (by omega)
    · rw [upd_same, List.replicate_succ', List.map_append, hF t (List.mem_of_getElem? ht)]
      rfl
  · obtain ⟨s1, eD⟩ := z
    refine ⟨s1 _ _ eF, ?_⟩
    have nDd : D ≠ d := fun e => by
      rw [e, s1 _ _ eF] at eD
      cases eD
    refine ⟨D, _, rfl, .inl (.inl (by rw [upd_ne nDd]; exact eD)), ?_⟩
    rw [show ((List.replicate (tk F).length true).all id) = true from by rw [List.all_eq_true]; exact fun b hb => List.eq_of_mem_replicate hb]
    exact k _ (back s1)
def spIsUsable (K : PySem.W.Frag) (a : Adr) : Sp := fun vs H Q _ => ∃ (x y d c e : Addr) (B : Bk) (R : List Row) (F : List Th) (t : Th) (u : Wy), vs = [.ref x, .ref y, .ref d, .ref c, .ref e] ∧ BW K a H x y B R ∧ Rd H d (.dT (tk F)) ∧ SqT K H c [nv t.1, nv t.2] ∧ t.1 < R.length ∧ SqT K H e [.str (wd u.1), nv u.2] ∧ u ∈ waysM B R t ∧ (∀ z ∈ needsM B R t u, z ∈ F) ∧ ∀ H', Same H H' → Q (.bl true) H'
theorem ok_is_usable (T : Txt K mg a) : FnOk P w K mg base CX0 5 a.f_is_usable a.d_is_usable ["book", "web", "made", "target", "thing"] (spIsUsable K a) := by
  have G_is_way_to := ok_is_way_to (P := P) (w := w) (base := base) T
  have G_needs_for := ok_needs_for (P := P) (w := w) (base := base) T
  have G_all_in := ok_all_inR (P := P) (w := w) (base := base) T
  refine T.F_is_usable.ok sc_is_usable (fun vs H Q E h => ?_) (fun cdv A outer s H vs Q E hr h => ?_)
  · obtain ⟨x, y, d, c, e, B, R, F, t, u, rfl, _⟩ := h
    rfl
  obtain ⟨x, y, d, c, e, B, R, F, t, u, rfl, W, hd, hc, h1, he, hu, hn, k⟩ := h
  refine ⟨_, (pss_one (ps_ret (pe_and (pe_call G_is_way_to (hr.mono (by decide)) rfl T.g_is_way_to T.k_is_way_to T.b_is_way_to .nil pass0 (pa_cons (pv 0) (pa_cons (pv 1) (pa_cons (pv 3) (pa_cons (pv 4) pa_nil))))) (pe_one (pe_call G_all_in (hr.mono (by decide)) rfl T.g_all_in T.k_all_in T.b_all_in .nil pass0 (pa_cons (pv 2) (pa_cons (pe_call G_needs_for (hr.mono (by decide)) rfl T.g_needs_for T.k_needs_for T.b_needs_for .nil pass0 (pa_cons (pv 0) (pa_cons (pv 1) (pa_cons (pv 3) (pa_cons (pv 4) pa_nil))))) pa_nil))))))), ?_⟩
  refine ⟨_, rfl, _, rfl, _, rfl, _, rfl, x, y, c, e, B, R, t, u, rfl, W, hc, h1, he, hu, fun H1 s1 => ?_⟩
  refine ⟨_, rfl, iteT ?_⟩
  refine ⟨_, rfl, _, rfl, _, rfl, _, rfl, _, rfl, x, y, c, e, B, R, t, u, rfl, W.same s1, (Tk.of s1).t hc, h1, (Tk.of s1).t he, hu, fun p H2 s2 hp hts => ?_⟩
  refine ⟨d, p, F, _, rfl, rd_same hd (s1.trans s2), hts, by have := needs_len (B := B) W.gr (t := t) (w := u); omega, fun H3 s3 => ?_⟩
  rw [decide_eq_true hn]
  exact k H3 ((s1.trans s2).trans s3)
def spReturns (K : PySem.W.Frag) (a : Adr) : Sp := fun vs H Q _ => ∃ (x c q : Addr) (B : Bk) (R : List Row) (ms : List Mg) (t : Th), vs = [.ref x, .ref c, .ref q] ∧ BookV K a.c_Book H x B ∧ GoodB B ∧ ChoV K H c B R ms ∧ SqT K H q [nv t.1, nv t.2] ∧ t ∈ tgs ms ∧ ∀ H', Same H H' → Q (.bl false) H'
theorem ok_returns (T : Txt K mg a) : FnOk P w K mg base CX0 3 a.f_returns a.d_returns ["book", "choice", "thing"] (spReturns K a) := by
  refine T.F_returns.ok sc_returns (fun vs H Q E h => ?_) (fun cdv A outer s H vs Q E hr h => ?_)
  · obtain ⟨x, c, q, B, R, ms, t, rfl, _⟩ := h
    rfl
  obtain ⟨x, c, q, B, R, ms, t, rfl, W, g, Ch, hq, ht, k⟩ := h
  obtain ⟨kvs, ec, cd⟩ := id Ch.e
  have hO := Ch.o
  have hk2 := g.k2
  obtain ⟨dx, pa, pr, pm, hx, hx2, _, ⟨wm, hm1, hm2⟩⟩ := id W
  obtain ⟨m0, hm0, e0⟩ := List.mem_map.mp ht
  obtain ⟨j0, hj0⟩ := List.mem_iff_getElem?.mp hm0
  obtain ⟨t0, w0⟩ := m0
  have e0 : t0 = t := e0
  subst e0
  refine ⟨_, (pss_cons (ps_asg (pv 2) (pg_tup (by rfl) (pgs_cons (pg_name (i := 3) sc_returns.nd rfl (Or.inl rfl)) (pgs_cons (pg_name (i := 4) sc_returns.nd rfl (Or.inl rfl)) pgs_nil))))
  (pss_cons (ps_set (i := 5) sc_returns.nd rfl (Or.inl rfl) (pv 4))
  (pss_cons (ps_for PassesOwn.never rfl (pi_range1 rfl T.z_range (pa_cons (pe_fld (pv 0) rfl) pa_nil)) (pg_name (i := 6) sc_returns.nd rfl (Or.inl rfl))
    (pss_cons (ps_asg (pe_dget (hu1 hr) (pv 1) (pe_tup (pa_cons (pv 3) (pa_cons (pv 5) pa_nil))) (fun _ _ => rfl)) (pg_tup (by rfl) (pgs_cons (pg_name (i := 7) sc_returns.nd rfl (Or.inl rfl)) (pgs_cons (pg_name (i := 8) sc_returns.nd rfl (Or.inl rfl)) pgs_nil))))
  (pss_cons (ps_if (pt_cmpR op_eq (pv 7) pe_str (nomark _))
    (pss_one (ps_ret pe_bl))
    pss_nil)
  (pss_cons (ps_set (i := 5) sc_returns.nd rfl (Or.inl rfl) (pe_ix (ixT (K := K) rfl) (pe_ix (ixT (K := K) rfl) (pe_fld (pv 0) rfl) (pv 8) (fun _ _ => rfl)) pe_int (fun _ _ => rfl)))
  (pss_one (ps_if (pt_cmpR op_eq (pv 5) (pv 4) (nomark _))
    (pss_one (ps_ret pe_bl))
    pss_nil))))))
  (pss_one (ps_ret pe_bl))))), ?_⟩
  refine ⟨_, rfl, q, _, rfl, hq, rfl, _, _, rfl, _, _, rfl, rfl, ?_⟩
  refine ⟨_, rfl, _, rfl, x, a.c_Book, dx, _, _, rfl, hx, T.C_Book, T.N_kinds, rfl, _, rfl, by omega, by omega, for_range (lo := 0) (n := ((B.nk : Nat) : Int).toNat) (fun i σ H' => ∃ v6 v7 v8 κ j w, σ = [some (.ref x), some (.ref c), some (.ref q), some (nv t0.1), some (nv t0.2), some (nv κ), v6, v7, v8] ∧ Same H H' ∧ ms[j]? = some ((t0.1, κ), w) ∧ j ≤ j0) ⟨none, none, none, t0.2, j0, w0, rfl, Same.refl H, hj0, Nat.le_refl _⟩ ?_ ?_⟩
  · rintro i σ H1 hi ⟨v6, v7, v8, κ, j, wy, rfl, s1, hj, hjj⟩
    rw [nv0]
    have hm := List.mem_of_getElem? hj
    obtain ⟨qq, hv, hqq⟩ := cd.v _ hm
    refine ⟨_, rfl, _, rfl, _, rfl, (by decide : 2 ≤ sizeLine), fun p hp => ?_⟩
    have sp := same_new (o := .tup [nv t0.1, nv κ]) hp
    have s2 := s1.trans sp
    refine ⟨c, _, rfl, dget_t (s2 _ _ ec) (k := kt (t0.1, κ)) upd_same hv, ?_⟩
    refine ⟨qq, _, rfl, (Same_tt s2).t _ _ hqq, rfl, _, _, rfl, _, _, rfl, rfl, ?_⟩
    obtain ⟨b, n⟩ := wy
    have hu := (mem_usW.mp (Ch.u _ hm).2).1
    cases b with
    | true => exact ⟨_, rfl, rfl, _, rfl, iteC (decide_eq_true rfl) (k _ s2)⟩
    | false =>
      obtain ⟨hn1, hn2⟩ := mem_waysF.mp hu
      obtain ⟨vm, hvm, pm1, rfl, hpm⟩ := hm2.at (mAt_of hn1)
      refine ⟨_, rfl, rfl, _, rfl, iteD (decide_eq_false (by intro z; exact absurd (wd_inj (b := false) (c := true) (V.str.inj z)) (by decide))) ?_⟩
      refine ⟨_, rfl, x, a.c_Book, dx, _, _, rfl, s2 _ _ hx, T.C_Book, T.N_moves, rfl, _, rfl, pm, _, _, _, rfl, rfl, (Same_tt s2).t _ _ hm1, atI_nat hvm, pm1, _, _, _, rfl, rfl, (Same_tt s2).t _ _ hpm, rfl, ?_⟩
      obtain ⟨i2, w2, hi2, hms2⟩ := back_lt hO hj (u := (t0.1, (mAt B.ms n).src)) (List.mem_singleton.mpr rfl)
      refine ⟨_, rfl, _, rfl, rfl, _, rfl, iteD (decide_eq_false (fun z => ?_)) ?_⟩
      · have h1 := V.int.inj z
        have h2 : ((t0.1, (mAt B.ms n).src) : Th) = t0 := Prod.ext rfl (by show (mAt B.ms n).src = t0.2; omega)
        have := ord_inj hO hms2 hj0 h2
        omega
      · exact ⟨_, _, _, _, i2, w2, rfl, s2, hms2, by omega⟩
  · rintro σ H1 ⟨v6, v7, v8, κ, j, w, rfl, s1, _⟩
    exact k H1 s1
def spFirstRet (K : PySem.W.Frag) (a : Adr) : Sp := fun vs H Q _ => ∃ (x c : Addr) (B : Bk) (R : List Row) (ms : List Mg), vs = [.ref x, .ref c] ∧ BookV K a.c_Book H x B ∧ GoodB B ∧ ChoV K H c B R ms ∧ ∀ H', Same H H' → Q .non H'
theorem ok_first_that_returns (T : Txt K mg a) : FnOk P w K mg base CX0 4 a.f_first_that_returns a.d_first_that_returns ["book", "choice"] (spFirstRet K a) := by
  have G_returns := ok_returns (P := P) (w := w) (base := base) T
  refine T.F_first_that_returns.ok sc_first_that_returns (fun vs H Q E h => ?_) (fun cdv A outer s H vs Q E hr h => ?_)
  · obtain ⟨x, c, B, R, ms, rfl, _⟩ := h
    rfl
  obtain ⟨x, c, B, R, ms, rfl, W, g, Ch, k⟩ := h
  obtain ⟨kvs, ec, cd⟩ := id Ch.e
  refine ⟨_, (pss_cons (ps_for PassesOwn.never rfl (pi_list (pe_callB (SoP.call_sortDP rfl) (by rfl) T.z_sorted (by decide +kernel) (pa_cons (pv 1) pa_nil))) (pg_name (i := 2) sc_first_that_returns.nd rfl (Or.inl rfl))
    (pss_one (ps_if (pt_val (pe_call G_returns (hr.mono (by decide)) rfl T.g_returns T.k_returns T.b_returns .nil pass0 (pa_cons (pv 0) (pa_cons (pv 1) (pa_cons (pv 2) pa_nil)))))
    (pss_one (ps_ret (pv 2)))
    pss_nil)))
  (pss_one (ps_ret pe_non))), ?_⟩
  refine ⟨_, rfl, c, _, rfl, .inl ec, keys_pair cd.ks, fun bs kf ys l hbs hkf hs hb hl => ?_⟩
  have hP := srt_ths (keys_thsK cd.ks hbs) hkf hs hb cd.n
  have S1 := same_new (o := .lst ys) hl
  have hP1 := hP.mono fun _ _ q => q.tt (K := K) (tt_new (o := .lst ys) hl)
  have L1 : (upd H l (.lst ys)) l = some (.lst ys) := upd_same
  generalize upd H l (.lst ys) = H1 at S1 hP1 L1
  refine ⟨l, rfl, ⟨_, SqL.of L1⟩, for_list (xs := ys) (fun j σ H' => ∃ v2, σ = [some (.ref x), some (.ref c), v2] ∧ Same H1 H') ⟨none, rfl, Same.refl _⟩ ?_ ?_ ?_⟩
  · rintro j σ H' _ ⟨_, _, s2⟩
    exact SqL.of (s2 _ _ L1)
  · rintro j u σ H2 hu ⟨v2, rfl, s2⟩
    obtain ⟨t, ht, q, rfl, hq⟩ := hP1.at' hu
    have s12 := S1.trans s2
    refine ⟨_, rfl, _, rfl, _, rfl, x, c, q, B, R, ms, t, rfl, W.tk (Tk.of s12), g, Ch.same s12, .inl (.inl (s2 _ _ hq)), mem_lotT.mp (List.mem_of_getElem? ht), fun H3 s3 => ?_⟩
    exact ⟨_, rfl, iteF ⟨_, rfl, s2.trans s3⟩⟩
  · rintro σ H2 ⟨v2, rfl, s2⟩
    exact k H2 (S1.trans s2)
end
end Lk
namespace Lk
open PySem L2
section
variable {P : Program} {w : World} {K : PySem.W.Frag} {mg : Str → Option Value} {base : Heap} {a : Adr}
theorem foldl_len {L : List Th} (h : L.Nodup) : (L.foldl insT []).length = L.length := by
  refine Nat.le_antisymm ?_ (nodup_len h fun t ht => mem_insTAll.mpr (Or.inr ht))
  exact nodup_len (nodup_insTAll List.nodup_nil) fun t ht => (mem_insTAll.mp ht).elim (fun z => nomatch z) id
def spIsChoice (K : PySem.W.Frag) (a : Adr) : Sp := fun vs H Q _ => ∃ (x y c : Addr) (B : Bk) (R : List Row) (ms : List Mg), vs = [.ref x, .ref y, .ref c] ∧ BW K a H x y B R ∧ ChoV K H c B R ms ∧ ∀ H', Same H H' → Q (.bl true) H'
theorem ok_is_choice (T : Txt K mg a) : FnOk P w K mg base CX0 6 a.f_is_choice a.d_is_choice ["book", "web", "thing"] (spIsChoice K a) := by
  have G_check_web := ok_check_web (P := P) (w := w) (base := base) T
  have G_makeable := ok_makeable (P := P) (w := w) (base := base) T
  have G_all_in := ok_all_inD (P := P) (w := w) (base := base) T
  have G_is_usable := ok_is_usable (P := P) (w := w) (base := base) T
  have G_first_that_returns := ok_first_that_returns (P := P) (w := w) (base := base) T
  refine T.F_is_choice.ok sc_is_choice (fun vs H Q E h => ?_) (fun cdv A outer s H vs Q E hr h => ?_)
  · obtain ⟨x, y, c, B, R, ms, rfl, _⟩ := h
    rfl
  obtain ⟨x, y, c, B, R, ms, rfl, W, Ch, k⟩ := h
  have hR := W.l
  have hk2 := W.g.k2
  have hml : R.length * B.nk ≤ 200 * 5 := Nat.mul_le_mul hR hk2
  have hmm := makM_len (B := B) (R := R)
  obtain ⟨kvs, ec, cd⟩ := id Ch.e
  refine ⟨_, (pss_cons (ps_expr (pe_call G_check_web (hr.mono (by decide)) rfl T.g_check_web T.k_check_web T.b_check_web .nil pass0 (pa_cons (pv 0) (pa_cons (pv 1) pa_nil))))
  (pss_cons (ps_set (i := 3) sc_is_choice.nd rfl (Or.inr rfl) <| DcG.pe_dcT (own := [("each", 5)]) (g := gName 5) (tt := tYes) (hu1 hr) rfl sc_is_choice.nd (pi_tup (pe_call G_makeable (hr.mono (by decide)) rfl T.g_makeable T.k_makeable T.b_makeable .nil pass0 (pa_cons (pv 0) (pa_cons (pv 1) pa_nil)))) (blkOk_by (N := ["book", "web", "thing", "made", "usable", "each"]) (sc := defScope s_is_choice) (by decide +kernel)) (fun _ _ _ _ _ => pg_name (i := 5) sc_is_choice.nd rfl (Or.inl rfl)) (fun _ _ _ _ _ => pts_nil) (fun _ _ _ _ _ => pv 5) (fun _ _ _ _ _ => pe_bl))
  (pss_cons (ps_if (pt_not (PW.pt (pw_and (pt_val (pe_callB call_isi (by rfl) T.z_isinstance (by decide +kernel) (pa_cons (pv 2) (pa_cons (pe_bltn (v := .ty "dict") rfl T.z_dict (show bootBuiltins "dict" = some (.type "dict") by decide +kernel) rfl) pa_nil)))) (pw_and (pt_cmpR op_eq (pe_callB call_len_dT (by rfl) T.z_len PySem.boot_len (pa_cons (pv 2) pa_nil)) (pe_callB call_len_dT (by rfl) T.z_len PySem.boot_len (pa_cons (pv 3) pa_nil)) (nomark _)) (pw_and1 (pt_val (pe_call G_all_in (hr.mono (by decide)) rfl T.g_all_in T.k_all_in T.b_all_in .nil pass0 (pa_cons (pv 2) (pa_cons (pv 3) pa_nil)))))))))
    (pss_one (ps_ret pe_bl))
    pss_nil)
  (pss_cons (ps_set (i := 4) sc_is_choice.nd rfl (Or.inl rfl) (pe_callB (cr_all rfl) (by rfl) T.z_all (by decide +kernel) (pa_cons (pe_lock (pe_lc (own := [("each", 5)]) (g := gName 5) (tt := tYes) rfl sc_is_choice.nd (pi_keys (pv 3)) (blkOk_by (N := ["book", "web", "thing", "made", "usable", "each"]) (sc := defScope s_is_choice) (by decide +kernel)) (fun _ _ _ _ _ => pg_name (i := 5) sc_is_choice.nd rfl (Or.inl rfl)) (fun _ _ _ _ _ => pts_nil) (fun _ _ _ _ _ => (pe_call G_is_usable (hr.mono (by decide)) rfl T.g_is_usable T.k_is_usable T.b_is_usable .nil pass0 (pa_cons (pv 0) (pa_cons (pv 1) (pa_cons (pv 3) (pa_cons (pv 5) (pa_cons (pe_dget (hu1 hr) (pv 2) (pv 5) (fun _ _ => rfl)) pa_nil))))))))) pa_nil)))
  (pss_one (ps_ret (pe_and (pv 4) (pe_one (pe_cmpR op_isN (pe_call G_first_that_returns (hr.mono (by decide)) rfl T.g_first_that_returns T.k_first_that_returns T.b_first_that_returns .nil pass0 (pa_cons (pv 0) (pa_cons (pv 2) pa_nil))) pe_non (nomark _)))))))))), ?_⟩
  refine ⟨_, rfl, _, rfl, x, y, B, R, rfl, W, fun H1 s1 => ?_⟩
  refine ⟨_, rfl, _, rfl, x, y, B, R, rfl, W.same s1, fun m H2 s2 _ hm2 => ?_⟩
  obtain ⟨wm, hwm, hplm⟩ := hm2
  refine ⟨m, rfl, ⟨_, hwm⟩, fun D2 hD2 => ?_⟩
  refine DcG.dg_it (walk_tup (xs := wm)) (fun j H' => Same H2 H' ∧ H' D2 = some (.dT (tk (((makM B R).take j).foldl insT [])))) ⟨same_new hD2, upd_same⟩ (fun j H' _ z => (Tk.of z.1).t hwm) (fun j v H3 H4 hj z hy' => ?_) (fun H3 z => ?_)
  · obtain ⟨s3, eD2⟩ := z
    obtain ⟨e4, hv⟩ := hy'
    subst e4
    obtain ⟨t, ht, hth⟩ := hplm.at' hv
    obtain ⟨pt, rfl, hpt⟩ := hth.tt (K := K) (Same_tt s3)
    refine ⟨rfl, ?_⟩
    refine ⟨_, rfl, _, DPut.t eD2 (k := kt t) hpt ?_, same_at s3 hD2, ?_⟩
    · rw [tk_len]
      have := insTAll_len ((makM B R).take j) []
      rw [List.length_take] at this
      exact lt_line (by simp only [List.length_nil] at this; omega)
    · rw [upd_same, tk_put, take_insT ht]
  obtain ⟨s3, eD2⟩ := z
  rw [hplm.1, List.take_length] at eD2
  have hFm : ∀ t, t ∈ (makM B R).foldl insT [] ↔ t ∈ makM B R := fun t => by rw [mem_insTAll]; simp
  have hFl := foldl_len (asc_nodup (asc_makM (B := B) (R := R)))
  have hFn : ((makM B R).foldl insT []).Nodup := nodup_insTAll List.nodup_nil
  generalize (makM B R).foldl insT [] = F at eD2 hFm hFl hFn
  have S3 := (s1.trans s2).trans s3
  have ec3 := S3 _ _ ec
  have ncd : c ≠ D2 := ne_of_none ((s1.trans s2) _ _ ec) hD2
  have hlen : kvs.length = (tk F).length := by
    rw [cd.len, tk_len, hFl, ← tgs_len]
    refine Nat.le_antisymm (nodup_len cd.n fun t ht => ?_) (nodup_len (asc_nodup asc_makM) Ch.t)
    obtain ⟨m, hm, rfl⟩ := List.mem_map.mp ht
    exact (Ch.u m hm).1
  refine ⟨_, rfl, _, .ty "dict", _, _, true, rfl, .ty "dict", .base (.dT ec3), kit_ty (by decide +kernel), true, rfl, iteT ?_⟩
  refine ⟨_, rfl, c, kvs, rfl, ec3, _, rfl, D2, _, rfl, eD2, rfl, _, rfl, iteC (decide_eq_true (by rw [hlen])) ?_⟩
  refine ⟨_, rfl, _, rfl, c, D2, kvs, F, rfl, ec3, eD2, ncd, by omega, fun t ht => ?_, fun H4 s4 => ?_⟩
  · rw [cd.some]
    exact decide_eq_true (Ch.t t ((hFm t).mp ht))
  refine ⟨_, rfl, iteF ?_⟩
  have S4 := S3.trans s4
  have eD4 := s4 _ _ eD2
  have ec4 := s4 _ _ ec3
  -- all of them usable
  refine ⟨D2, _, eD4, trivial, fun od => ?_⟩
  have back : ∀ {H'}, Same (upd H4 D2 (.frz od (.dT (tk F)))) H' → Same H4 (upd H' D2 (.dT (tk F))) := fun s => unlock_same eD4 s
  have eF : (upd H4 D2 (.frz od (.dT (tk F)))) D2 = some (.frz od (.dT (tk F))) := upd_same
  have ecF : (upd H4 D2 (.frz od (.dT (tk F)))) c = some (.dT kvs) := by rw [upd_ne ncd]; exact ec4
  have WF : BW K a (upd H4 D2 (.frz od (.dT (tk F)))) x y B R := (W.same S4).lk eD4
  have TF : TT K H4 (upd H4 D2 (.frz od (.dT (tk F)))) := tt_dT eD4
  generalize upd H4 D2 (.frz od (.dT (tk F))) = HL at back eF ecF WF TF
  refine ⟨_, rfl, D2, od, rfl, .inr ⟨_, eF, fun D hD => ?_⟩⟩
  refine lc_it walk_keysT (fun j H' => Same HL H' ∧ H' D = some (.lst ((List.replicate j true).map V.bl))) ⟨same_new hD, upd_same⟩ (fun j H' _ z => z.1 _ _ eF) (fun j v H5 H6 hj z hy => ?_) (fun H5 z => ?_)
  · obtain ⟨s5, eD⟩ := z
    obtain ⟨rfl, ky, vy, q, hkv, rfl, hq⟩ := hy
    obtain ⟨t, ht, rfl⟩ : ∃ t, F[j]? = some t ∧ ky = kt t := by
      unfold tk at hkv
      rw [List.getElem?_map] at hkv
      obtain ⟨t, h2, h3⟩ := Option.map_eq_some_iff.mp hkv
      exact ⟨t, h2, (Prod.mk.inj h3).1.symm⟩
    have hjl := (List.getElem?_eq_some_iff.mp ht).1
    have htm := (hFm t).mp (List.mem_of_getElem? ht)
    obtain ⟨qq, hm, hv, hqq, _, hus, hw⟩ := Ch.at cd (Ch.t t htm)
    have ht1 := (((mem_makM W.g).mp htm).lt W.g).1
    have T5 : TT K H H6 := ((Same_tt S4).trans TF).trans (Same_tt s5)
    refine ⟨rfl, ?_⟩
    refine ⟨_, rfl, _, rfl, _, rfl, _, rfl, _, rfl, _, rfl, c, _, rfl, dget_t (s5 _ _ ecF) (k := kt t) hq hv, x, y, D2, q, qq, B, R, F, t, _, rfl, WF.same s5, .inr ⟨od, s5 _ _ eF⟩, .inl (.inl hq), ht1, T5.t _ _ hqq, hw, fun z hz => (hFm z).mpr ((mem_usW.mp hus).2 z hz), fun H7 s7 => ?_⟩
    refine ⟨_, s7 _ _ eD, ?_, same_at (s5.trans s7) hD, ?_⟩
    · rw [List.length_map, List.length_replicate]
      exact lt_line (by omega)
    · rw [upd_same, List.replicate_succ', List.map_append]
      rfl
  · obtain ⟨s5, eD⟩ := z
    refine ⟨s5 _ _ eF, ?_⟩
    have nDd : D ≠ D2 := fun e => by
      rw [e, s5 _ _ eF] at eD
      cases eD
    have S6 := S4.trans (back s5)
    refine ⟨D, _, rfl, .inl (.inl (by rw [upd_ne nDd]; exact eD)), ?_⟩
    rw [show ((List.replicate (tk F).length true).all id) = true from by rw [List.all_eq_true]; exact fun b hb => List.eq_of_mem_replicate hb]
    refine ⟨_, rfl, _, rfl, iteT ?_⟩
    exact ⟨_, rfl, _, rfl, x, c, B, R, ms, rfl, (W.same S6).b, W.g, Ch.same S6, fun H7 s7 => ⟨rfl, k H7 (S6.trans s7)⟩⟩
def spCheckChoice (K : PySem.W.Frag) (a : Adr) : Sp := fun vs H Q _ => ∃ (x y c : Addr) (B : Bk) (R : List Row) (ms : List Mg), vs = [.ref x, .ref y, .ref c] ∧ BW K a H x y B R ∧ ChoV K H c B R ms ∧ ∀ H', Same H H' → Q .non H'
theorem ok_check_choice (T : Txt K mg a) : FnOk P w K mg base CX0 7 a.f_check_choice a.d_check_choice ["book", "web", "choice"] (spCheckChoice K a) := by
  have G_is_choice := ok_is_choice (P := P) (w := w) (base := base) T
  refine T.F_check_choice.ok sc_check_choice (fun vs H Q E h => ?_) (fun cdv A outer s H vs Q E hr h => ?_)
  · obtain ⟨x, y, c, B, R, ms, rfl, _⟩ := h
    rfl
  obtain ⟨x, y, c, B, R, ms, rfl, W, Ch, k⟩ := h
  refine ⟨_, (pss_one (ps_if (pt_not (pt_val (pe_call G_is_choice (hr.mono (by decide)) rfl T.g_is_choice T.k_is_choice T.b_is_choice .nil pass0 (pa_cons (pv 0) (pa_cons (pv 1) (pa_cons (pv 2) pa_nil))))))
    (pss_one ps_never)
    pss_nil)), ?_⟩
  exact ⟨_, rfl, _, rfl, _, rfl, x, y, c, B, R, ms, rfl, W, Ch, fun H2 s2 => ⟨_, rfl, iteF (k H2 s2)⟩⟩
end
end Lk
namespace Lk
open PySem L2
section
variable {K : PySem.W.Frag}
/-- things to what they need by the choice -/
structure LD (K : PySem.W.Frag) (H : Hp) (kvs : List (List Key × V)) (B : Bk) (R : List Row) (ms : List Mg) (ts : List Th) : Prop where
  ks : kvs.map (·.1) = ts.map kt
  v : ∀ t ∈ ts, ∃ p, valV kvs (kt t) = some (.ref p) ∧ ThsT K H p (needsM B R t (wayM ms t))
theorem LD.nil {H : Hp} {B : Bk} {R : List Row} {ms : List Mg} : LD K H [] B R ms [] := ⟨rfl, fun _ h => nomatch h⟩
theorem LD.tt {H H' : Hp} {kvs : List (List Key × V)} {B : Bk} {R : List Row} {ms : List Mg} {ts : List Th} (x : TT K H H') (h : LD K H kvs B R ms ts) : LD K H' kvs B R ms ts :=
  ⟨h.ks, fun t m => by
    obtain ⟨p, e, q⟩ := h.v t m
    exact ⟨p, e, q.tt x⟩⟩
theorem LD.len {H : Hp} {kvs : List (List Key × V)} {B : Bk} {R : List Row} {ms : List Mg} {ts : List Th} (h : LD K H kvs B R ms ts) : kvs.length = ts.length := by
  have := congrArg List.length h.ks
  rw [List.length_map, List.length_map] at this
  exact this
theorem LD.put {H : Hp} {kvs : List (List Key × V)} {B : Bk} {R : List Row} {ms : List Mg} {ts : List Th} {t : Th} {p : Addr} (h : LD K H kvs B R ms ts) (hn : t ∉ ts) (hp : ThsT K H p (needsM B R t (wayM ms t))) : LD K H (putK kvs (kt t) (.ref p)) B R ms (ts ++ [t]) := by
  have hv : valV kvs (kt t) = none := by
    cases hv : valV kvs (kt t) with
    | none => rfl
    | some x =>
      refine absurd (valV_in hv) fun z => ?_
      rw [h.ks] at z
      obtain ⟨u, hu, e⟩ := List.mem_map.mp z
      exact hn (by rw [← kt_inj e]; exact hu)
  refine ⟨?_, fun x hx => ?_⟩
  · rw [putK_new _ hv, List.map_append, h.ks, List.map_append]
    rfl
  · rw [valV_put]
    rcases List.mem_append.mp hx with h1 | h1
    · rw [if_neg (fun e => hn (by rw [← kt_inj e]; exact h1))]
      exact h.v x h1
    · rw [List.mem_singleton.mp h1, if_pos rfl]
      exact ⟨p, rfl, hp⟩
/-! the program's walk -/
structure Wj (B : Bk) (R : List Row) (ts : List Th) (ms : List Mg) (F Wt : List Th) : Prop where
  n : F.Nodup
  r : ∀ t ∈ F, Rch B R ms ts t
  l : ∀ t ∈ Wt, t ∈ F
  c1 : ∀ t ∈ ts, t ∈ F
  c2 : ∀ t ∈ F, t ∈ Wt ∨ ∀ u ∈ needsM B R t (wayM ms t), u ∈ F
  ll : Wt.length ≤ F.length
theorem Wj.all {B : Bk} {R : List Row} {ts : List Th} {ms : List Mg} {F : List Th} (hn : (tgs ms).Nodup) (h : Wj B R ts ms F []) (t : Th) : t ∈ F ↔ Rch B R ms ts t := by
  refine ⟨h.r t, fun r => ?_⟩
  induction r with
  | wish q => exact h.c1 _ q
  | @need m u _ hm hu ih =>
    have e : wayM ms m.1 = m.2 := wayM_of hn hm
    exact (h.c2 _ ih).elim (fun z => nomatch z) fun z => z u (by rw [e]; exact hu)
theorem rch_tgs {B : Bk} {R : List Row} {ts : List Th} {ms : List Mg} (hO : Ord B R ms) (hW : ∀ t ∈ ts, t ∈ tgs ms) {F : List Th} (n : F.Nodup) (r : ∀ t ∈ F, Rch B R ms ts t) : F.length ≤ ms.length := by
  rw [← tgs_len ms]
  exact nodup_len n fun t ht => (r t ht).made hO hW
end
section
variable {P : Program} {w : World} {K : PySem.W.Frag} {mg : Str → Option Value} {base : Heap} {a : Adr}
def spLinksOf (K : PySem.W.Frag) (a : Adr) : Sp := fun vs H Q _ => ∃ (x y c : Addr) (B : Bk) (R : List Row) (ms : List Mg), vs = [.ref x, .ref y, .ref c] ∧ BW K a H x y B R ∧ ChoV K H c B R ms ∧ ∀ d kvs H', Same H H' → H d = none → H' d = some (.dT kvs) → LD K H' kvs B R ms (tgs ms) → Q (.ref d) H'
theorem ok_links_of (T : Txt K mg a) : FnOk P w K mg base CX0 3 a.f_links_of a.d_links_of ["book", "web", "choice"] (spLinksOf K a) := by
  have G_needs_for := ok_needs_for (P := P) (w := w) (base := base) T
  refine T.F_links_of.ok sc_links_of (fun vs H Q E h => ?_) (fun cdv A outer s H vs Q E hr h => ?_)
  · obtain ⟨x, y, c, B, R, ms, rfl, _⟩ := h
    rfl
  obtain ⟨x, y, c, B, R, ms, rfl, W, Ch, k⟩ := h
  obtain ⟨kvs, ec, cd⟩ := id Ch.e
  have hms := Ch.len W.g W.l
  refine ⟨_, (pss_one (ps_ret (pe_lock (DcG.pe_dcT (own := [("thing", 3)]) (g := gName 3) (tt := tYes) (hu1 hr) rfl sc_links_of.nd (pi_keys (pv 2)) (blkOk_by (N := ["book", "web", "choice", "thing"]) (sc := defScope s_links_of) (by decide +kernel)) (fun _ _ _ _ _ => pg_name (i := 3) sc_links_of.nd rfl (Or.inl rfl)) (fun _ _ _ _ _ => pts_nil) (fun _ _ _ _ _ => pv 3) (fun _ _ _ _ _ => (pe_call G_needs_for (hr.mono (by decide)) rfl T.g_needs_for T.k_needs_for T.b_needs_for .nil pass0 (pa_cons (pv 0) (pa_cons (pv 1) (pa_cons (pv 3) (pa_cons (pe_dget (hu1 hr) (pv 2) (pv 3) (fun _ _ => rfl)) pa_nil)))))))))), ?_⟩
  refine ⟨c, _, ec, trivial, fun od => ?_⟩
  have back : ∀ {H'}, Same (upd H c (.frz od (.dT kvs))) H' → Same H (upd H' c (.dT kvs)) := fun s => unlock_same ec s
  have eF : (upd H c (.frz od (.dT kvs))) c = some (.frz od (.dT kvs)) := upd_same
  have WF : BW K a (upd H c (.frz od (.dT kvs))) x y B R := W.lk ec
  have TF : TT K H (upd H c (.frz od (.dT kvs))) := tt_dT ec
  have fresh : ∀ {l}, (upd H c (.frz od (.dT kvs))) l = none → H l = none := fun z => (none_upd z).1
  generalize upd H c (.frz od (.dT kvs)) = HL at back eF WF TF fresh
  refine ⟨_, rfl, c, od, rfl, .inr ⟨_, eF, fun D hD => ?_⟩⟩
  refine DcG.dg_it walk_keysT (fun j H' => Same HL H' ∧ ∃ kv, H' D = some (.dT kv) ∧ LD K H' kv B R ms ((tgs ms).take j)) ⟨same_new hD, [], upd_same, LD.nil⟩ (fun j H' _ z => z.1 _ _ eF) (fun j v H1 H2 hj z hy => ?_) (fun H1 z => ?_)
  · obtain ⟨s1, kv, eD, ld⟩ := z
    obtain ⟨rfl, ky, vy, q, hkv, rfl, hq⟩ := hy
    obtain ⟨t, ht, rfl⟩ : ∃ t, (tgs ms)[j]? = some t ∧ ky = kt t := by
      have h1 : (kvs.map (·.1))[j]? = some ky := by rw [List.getElem?_map, hkv]; rfl
      rw [cd.ks, List.getElem?_map] at h1
      obtain ⟨t, h2, h3⟩ := Option.map_eq_some_iff.mp h1
      exact ⟨t, h2, h3.symm⟩
    have htm := List.mem_of_getElem? ht
    obtain ⟨qq, hm, hv, hqq, hmk, hus, hw⟩ := Ch.at cd htm
    have ht1 := (((mem_makM W.g).mp hmk).lt W.g).1
    have T2 : TT K H H2 := TF.trans (Same_tt s1)
    have htk : (tgs ms).take (j + 1) = (tgs ms).take j ++ [t] := by
      rw [List.take_add_one, ht]
      rfl
    have hnew : t ∉ (tgs ms).take j := fun z => by
      have h1 : ((tgs ms).take j ++ [t]).Nodup := by
        rw [← htk]
        exact cd.n.sublist (List.take_sublist _ _)
      rw [List.nodup_append] at h1
      exact h1.2.2 t z t (List.mem_singleton.mpr rfl) rfl
    refine ⟨rfl, ?_⟩
    refine ⟨_, rfl, _, rfl, _, rfl, _, rfl, _, rfl, _, rfl, c, _, rfl, dget_f (s1 _ _ eF) (k := kt t) hq hv, x, y, q, qq, B, R, t, _, rfl, WF.same s1, .inl (.inl hq), ht1, T2.t _ _ hqq, hw, fun p H3 s3 hp hts => ?_⟩
    have eD3 := s3 _ _ eD
    have hll : kv.length ≤ 1000 := by
      rw [ld.len, List.length_take, tgs_len]
      omega
    refine ⟨_, DPut.t eD3 (k := kt t) (s3 _ _ hq) (lt_line (by omega)), same_at (s1.trans s3) hD, _, upd_same, ?_⟩
    rw [htk]
    exact ((ld.tt (Same_tt s3)).put hnew hts).tt (tt_dT eD3)
  · obtain ⟨s1, kv, eD, ld⟩ := z
    refine ⟨s1 _ _ eF, ?_⟩
    have nDc : D ≠ c := fun e => by
      rw [e, eF] at hD
      cases hD
    have x2 : TL K H1 (upd H1 c (.dT kvs)) := tl_frzT (s1 _ _ eF)
    rw [cd.len, ← tgs_len, List.take_length] at ld
    exact k D kv _ (back s1) (fresh hD) (by rw [upd_ne nDc]; exact eD) (ld.tt x2.t)
def spNeededBy (K : PySem.W.Frag) : Sp := fun vs H Q _ => ∃ (d q : Addr) (B : Bk) (R : List Row) (ms : List Mg) (kvs : List (List Key × V)) (ts : List Th), vs = [.ref d, .ref q] ∧ H d = some (.dT kvs) ∧ LD K H kvs B R ms (tgs ms) ∧ Ord B R ms ∧ (tgs ms).Nodup ∧ ms.length ≤ 1000 ∧ Good R ∧ ThsT K H q ts ∧ ts.length ≤ 1000 ∧ (∀ t ∈ ts, t ∈ tgs ms) ∧ ∀ l F H', Same H H' → H l = none → LT K H' l F → F.Nodup → (∀ t, t ∈ F ↔ Rch B R ms ts t) → Q (.ref l) H'
theorem ok_needed_by (T : Txt K mg a) : FnOk P w K mg base CX0 1 a.f_needed_by a.d_needed_by ["links", "things"] (spNeededBy K) := by
  refine T.F_needed_by.ok sc_needed_by (fun vs H Q E h => ?_) (fun cdv A outer s H vs Q E hr h => ?_)
  · obtain ⟨d, q, B, R, ms, kvs, ts, rfl, _⟩ := h
    rfl
  obtain ⟨d, q, B, R, ms, kvs, ts, rfl, ed, ld, hO, hn, hms, gR, ⟨wq, hwq, hpq⟩, htl, hW, k⟩ := h
  refine ⟨_, (pss_cons (DcG.ps_setDcT (i := 2) (own := [("thing", 4)]) (g := gName 4) (tt := tYes) (hu1 hr) rfl sc_needed_by.nd rfl rfl (DcG.sw_trueD rfl rfl rfl (by decide +kernel)) (pi_tup (pv 1)) (blkOk_by (N := ["links", "things", "found", "left", "thing", "need"]) (sc := defScope s_needed_by) (by decide +kernel)) (fun _ _ _ _ _ => pg_name (i := 4) sc_needed_by.nd rfl (Or.inl rfl)) (fun _ _ _ _ _ => pts_nil) (fun _ _ _ _ _ => pv 4) (fun _ _ _ _ _ => pe_bl))
  (pss_cons (ps_set (i := 3) sc_needed_by.nd rfl (Or.inl rfl) (pe_callTy (call_list_dT rfl) (by rfl) T.z_list (by decide +kernel) (pa_cons (pv 2) pa_nil)))
  (pss_cons (ps_while PassesOwn.never (pt_truth (pv 3) (by intro _; rfl))
    (pss_cons (ps_set (i := 4) sc_needed_by.nd rfl (Or.inl rfl) (pe_bm0 PySem.F.plainAttrs_list PySem.F.slot_list_pop PySem.F.type_list_pop mt_pop (pv 3)))
  (pss_one (ps_for PassesOwn.never rfl (pi_tup (pe_dget (hu1 hr) (pv 0) (pv 4) (fun _ _ => rfl))) (pg_name (i := 5) sc_needed_by.nd rfl (Or.inl rfl))
    (pss_one (ps_if (pt_cmp (pc_dnotin (hu1 hr) (pv 5) (pv 2)))
    (pss_cons (ps_dput (hu1 hr) (pv 2) (pv 5) pe_bl rfl)
  (pss_one (ps_expr (pe_bm PySem.F.plainAttrs_list PySem.F.slot_list_append PySem.F.type_list_append mt_append (pv 3) (pa_cons (pv 5) pa_nil)))))
    pss_nil))))))
  (pss_one (ps_ret (pe_callTy (call_list_dT rfl) (by rfl) T.z_list (by decide +kernel) (pa_cons (pv 2) pa_nil))))))), ?_⟩
  refine ⟨_, rfl, q, rfl, ⟨_, hwq⟩, fun D hD => ?_⟩
  refine DcG.dg_it (walk_tup (xs := wq)) (fun j H' => Same H H' ∧ H' D = some (.dT (tk ((ts.take j).foldl insT [])))) ⟨same_new hD, upd_same⟩ (fun j H' _ z => (Tk.of z.1).t hwq) (fun j v H3 H4 hj z hy' => ?_) (fun H3 z => ?_)
  · obtain ⟨s3, eD2⟩ := z
    obtain ⟨e4, hv⟩ := hy'
    subst e4
    obtain ⟨t, ht, hth⟩ := hpq.at' hv
    obtain ⟨pt, rfl, hpt⟩ := hth.tt (K := K) (Same_tt s3)
    refine ⟨rfl, ?_⟩
    refine ⟨_, rfl, _, DPut.t eD2 (k := kt t) hpt ?_, same_at s3 hD, ?_⟩
    · rw [tk_len]
      have := insTAll_len (ts.take j) []
      rw [List.length_take] at this
      exact lt_line (by simp only [List.length_nil] at this; omega)
    · rw [upd_same, tk_put, take_insT ht]
  obtain ⟨s3, eD3⟩ := z
  rw [hpq.1, List.take_length] at eD3
  have hFm : ∀ t, t ∈ ts.foldl insT [] ↔ t ∈ ts := fun t => by rw [mem_insTAll]; simp
  have hFn : (ts.foldl insT []).Nodup := nodup_insTAll List.nodup_nil
  generalize ts.foldl insT [] = F0 at eD3 hFm hFn
  refine ⟨_, rfl, D, _, rfl, .inl eD3, fun wl bs hwl hbs => ?_⟩
  have S4 := same_new (o := .lst (bs.map V.ref)) hwl
  have s4 := s3.trans S4
  have hP4 : PL (ThV (upd H3 wl (.lst (bs.map V.ref)))) (bs.map V.ref) F0 := (keys_ths hbs).mono fun _ _ q => q.tt (K := K) (tt_new hwl)
  have hwl0 : H wl = none := none_of s3 hwl
  have nDl : D ≠ wl := ne_of_none eD3 hwl
  have w0 : Wj B R ts ms F0 F0 := ⟨hFn, fun t ht => .wish ((hFm t).mp ht), fun _ h => h, fun t ht => (hFm t).mpr ht, fun t ht => Or.inl ht, Nat.le_refl _⟩
  refine ⟨fun n σ H' => ∃ v4 v5 F Wt us, σ = [some (.ref d), some (.ref q), some (.ref D), some (.ref wl), v4, v5] ∧ Same H H' ∧ H' D = some (.dT (tk F)) ∧ H' wl = some (.lst us) ∧ PL (ThV H') us Wt ∧ Wj B R ts ms F Wt ∧ n = 2 * (ms.length - F.length) + Wt.length, ⟨_, none, none, F0, F0, _, rfl, s4, S4 _ _ eD3, upd_same, hP4, w0, rfl⟩, ?_⟩
  rintro n σ H2 ⟨v4, v5, F, Wt, us, rfl, s2, e2, el, hU, wj, rfl⟩
  have hFl := rch_tgs hO hW wj.n wj.r
  refine ⟨_, rfl, !us.isEmpty, .inl ⟨us, SqL.of el, rfl⟩, ite2 (fun c1 => ⟨fun σ' H' => ∃ m', m' < 2 * (ms.length - F.length) + Wt.length ∧ ∃ v4 v5 F Wt us, σ' = [some (.ref d), some (.ref q), some (.ref D), some (.ref wl), v4, v5] ∧ Same H H' ∧ H' D = some (.dT (tk F)) ∧ H' wl = some (.lst us) ∧ PL (ThV H') us Wt ∧ Wj B R ts ms F Wt ∧ m' = 2 * (ms.length - F.length) + Wt.length, fun _ _ h => h, ?_⟩) (fun c1 => ?_)⟩
  · have hpos : 0 < Wt.length := by
      rw [← hU.1]
      cases us with
      | nil => cases c1
      | cons => exact Nat.succ_pos _
    obtain ⟨Wt', t, y, rfl, hy, ⟨pt, rfl, hpt⟩, hU'⟩ := hU.last hpos
    have htF := wj.l t (List.mem_append.mpr (Or.inr (List.mem_singleton.mpr rfl)))
    have htm := (wj.r t htF).made hO hW
    have hlw : (Wt' ++ [t]).length = Wt'.length + 1 := by rw [List.length_append]; rfl
    refine ⟨_, rfl, .inl ⟨rfl, _, SqL.of el⟩, wl, us, _, rfl, rfl, el, hy, ?_⟩
    have tP : TT K H2 (upd H2 wl (.lst us.dropLast)) := tt_lst el
    have s3 : Same H (upd H2 wl (.lst us.dropLast)) := same_at s2 hwl0
    have e3 : (upd H2 wl (.lst us.dropLast)) D = some (.dT (tk F)) := by rw [upd_ne nDl]; exact e2
    have el3 : (upd H2 wl (.lst us.dropLast)) wl = some (.lst us.dropLast) := upd_same
    have hU3 := hU'.mono fun _ _ z => z.tt tP
    have hpt3 := tP.d _ _ hpt
    generalize upd H2 wl (.lst us.dropLast) = H3 at s3 e3 el3 hU3 hpt3
    obtain ⟨p, hv, wp, hwp, hpp⟩ := ld.v t htm
    have hnl := needs_len (B := B) gR (t := t) (w := wayM ms t)
    have hwj : ∀ z ∈ needsM B R t (wayM ms t), Rch B R ms ts z := fun z hz => by
      obtain ⟨m, hm, rfl⟩ := List.mem_map.mp htm
      have e : wayM ms m.1 = m.2 := wayM_of hn hm
      rw [e] at hz
      exact .need (wj.r _ htF) hm hz
    have hll := wj.ll
    refine ⟨_, rfl, _, rfl, d, _, rfl, dget_t (s3 _ _ ed) (k := kt t) hpt3 hv, p, rfl, ⟨_, (Same_tt s3).t _ _ hwp⟩, for_tup (xs := wp) (fun j σ H' => ∃ v5 F' Wt'' us', σ = [some (.ref d), some (.ref q), some (.ref D), some (.ref wl), some (.ref pt), v5] ∧ Same H H' ∧ H' D = some (.dT (tk F')) ∧ H' wl = some (.lst us') ∧ PL (ThV H') us' Wt'' ∧ F'.Nodup ∧ (∀ t ∈ F', Rch B R ms ts t) ∧ (∀ t ∈ Wt'', t ∈ F') ∧ (∀ t ∈ F, t ∈ F') ∧ (∀ z ∈ F', z ∈ Wt'' ∨ z = t ∨ ∀ u ∈ needsM B R z (wayM ms z), u ∈ F') ∧ (∀ u ∈ (needsM B R t (wayM ms t)).take j, u ∈ F') ∧ Wt''.length + F.length = F'.length + Wt'.length) ⟨v5, F, Wt', _, rfl, s3, e3, el3, hU3, wj.n, wj.r, (fun z hz => wj.l z (List.mem_append.mpr (Or.inl hz))), (fun _ h => h), (fun z hz => ?_), (fun _ h => nomatch h), by omega⟩ ?_ ?_ ?_⟩
    · rcases wj.c2 z hz with h | h
      · rcases List.mem_append.mp h with h | h
        · exact Or.inl h
        · exact Or.inr (Or.inl (List.mem_singleton.mp h))
      · exact Or.inr (Or.inr h)
    · rintro j σ H' _ ⟨_, _, _, _, _, s4, _⟩
      exact (Same_tt s4).t _ _ hwp
    · rintro j u σ H4 hu ⟨v5, F', Wt'', us', rfl, s4, e4, el4, hU4, n4, r4, l4, i4, c4, d4, m4⟩
      obtain ⟨z, hz, hzv⟩ := hpp.at' hu
      obtain ⟨pz, rfl, hpz⟩ := hzv.tt (K := K) (Same_tt s4)
      have hzm := List.mem_of_getElem? hz
      have hF4 := rch_tgs hO hW n4 r4
      have htk : (needsM B R t (wayM ms t)).take (j + 1) = (needsM B R t (wayM ms t)).take j ++ [z] := by
        rw [List.take_add_one, hz]
        rfl
      refine ⟨_, rfl, _, rfl, D, _, rfl, DGet.t e4 (k := kt z) hpz, _, rfl, ?_⟩
      rw [tk_some]
      refine ite2 (fun hb => ?_) (fun hb => ?_)
      · have hnew : z ∉ F' := by
          intro q
          rw [decide_eq_true q] at hb
          exact absurd hb (by decide)
        have n5 : (F' ++ [z]).Nodup := by
          rw [List.nodup_append]
          exact ⟨n4, by simp, fun a ha b hb e => hnew (by rw [← List.mem_singleton.mp hb, ← e]; exact ha)⟩
        have r5 : ∀ t ∈ F' ++ [z], Rch B R ms ts t := fun x hx => by
          rcases List.mem_append.mp hx with h | h
          · exact r4 x h
          · rw [List.mem_singleton.mp h]
            exact hwj z hzm
        have hF5 := rch_tgs hO hW n5 r5
        rw [List.length_append, List.length_singleton] at hF5
        refine ⟨_, rfl, _, rfl, D, _, rfl, DPut.t e4 (k := kt z) hpz (by rw [tk_len]; exact lt_line (by omega)), ?_⟩
        have t5 : TT K H4 (upd H4 D (.dT (putK (tk F') (kt z) (.bl true)))) := tt_dT e4
        rw [tk_put, insT_new hnew] at t5 ⊢
        have s5 : Same H (upd H4 D (.dT (tk (F' ++ [z])))) := same_at s4 hD
        have e5 : (upd H4 D (.dT (tk (F' ++ [z])))) D = some (.dT (tk (F' ++ [z]))) := upd_same
        have el5 : (upd H4 D (.dT (tk (F' ++ [z])))) wl = some (.lst us') := by rw [upd_ne nDl.symm]; exact el4
        have hU5 := hU4.mono fun _ _ z => z.tt t5
        have hpz5 := t5.d _ _ hpz
        generalize upd H4 D (.dT (tk (F' ++ [z]))) = H5 at s5 e5 el5 hU5 hpz5
        refine ⟨_, rfl, .inl ⟨rfl, _, SqL.of el5⟩, _, rfl, wl, us', _, rfl, rfl, el5, ?_, ?_⟩
        · rw [hU4.1]
          exact lt_line (by omega)
        have t6 : TT K H5 (upd H5 wl (.lst (us' ++ [.ref pz]))) := tt_lst el5
        refine ⟨_, F' ++ [z], Wt'' ++ [z], _, rfl, same_at s5 hwl0, by rw [upd_ne nDl]; exact e5, upd_same, (hU5.mono fun _ _ q => q.tt t6).snoc ⟨pz, rfl, t6.d _ _ hpz5⟩, n5, r5, fun x hx => ?_, fun x hx => List.mem_append.mpr (Or.inl (i4 x hx)), fun x hx => ?_, fun x hx => ?_, ?_⟩
        · rcases List.mem_append.mp hx with h | h
          · exact List.mem_append.mpr (Or.inl (l4 x h))
          · exact List.mem_append.mpr (Or.inr h)
        · rcases List.mem_append.mp hx with h | h
          · rcases c4 x h with h | h | h
            · exact Or.inl (List.mem_append.mpr (Or.inl h))
            · exact Or.inr (Or.inl h)
            · exact Or.inr (Or.inr fun u hu => List.mem_append.mpr (Or.inl (h u hu)))
          · exact Or.inl (List.mem_append.mpr (Or.inr h))
        · rw [htk] at hx
          rcases List.mem_append.mp hx with h | h
          · exact List.mem_append.mpr (Or.inl (d4 x h))
          · exact List.mem_append.mpr (Or.inr h)
        · rw [List.length_append, List.length_append, List.length_singleton]
          omega
      · have hold : z ∈ F' := Classical.byContradiction fun q => hb (by rw [decide_eq_false q]; rfl)
        refine ⟨_, F', Wt'', us', rfl, s4, e4, el4, hU4, n4, r4, l4, i4, c4, fun x hx => ?_, m4⟩
        rw [htk] at hx
        rcases List.mem_append.mp hx with h | h
        · exact d4 x h
        · rw [List.mem_singleton.mp h]
          exact hold
    · rintro σ H4 ⟨v5, F', Wt'', us', rfl, s4, e4, el4, hU4, n4, r4, l4, i4, c4, d4, m4⟩
      rw [List.take_of_length_le (by rw [hpp.1]; exact Nat.le_refl _)] at d4
      have hF4 := rch_tgs hO hW n4 r4
      have hFF := nodup_len wj.n i4
      refine ⟨_, ?_, _, _, F', Wt'', us', rfl, s4, e4, el4, hU4, ⟨n4, r4, l4, fun x hx => i4 x (wj.c1 x hx), fun x hx => ?_, by omega⟩, rfl⟩
      · omega
      · rcases c4 x hx with h | h | h
        · exact Or.inl h
        · rw [h]
          exact Or.inr d4
        · exact Or.inr h
  · have hz : Wt = [] := by
      refine List.eq_nil_of_length_eq_zero ?_
      rw [← hU.1]
      cases us with
      | nil => rfl
      | cons => exact absurd rfl c1
    subst hz
    refine ⟨_, rfl, D, _, rfl, .inl e2, fun l bs' hl hbs' => ?_⟩
    have S5 := same_new (o := .lst (bs'.map V.ref)) hl
    exact k l F _ (s2.trans S5) (none_of s2 hl) ⟨_, upd_same, (keys_ths hbs').mono fun _ _ q => q.tt (K := K) (tt_new hl)⟩ wj.n (wj.all hn)
end
end Lk
namespace Lk
open PySem L2
section
variable {P : Program} {w : World} {K : PySem.W.Frag} {mg : Str → Option Value} {base : Heap} {a : Adr}
theorem srt_key {H : Hp} {us : List V} {F : List Th} (hU : PL (ThV H) us F) : ∀ v ∈ us, ∃ t, v = V.ref t ∧ H t = some (.tup [.int (SoP.keyOf H v).1, .int (SoP.keyOf H v).2]) := fun v hv => by
  obtain ⟨j, hj⟩ := List.mem_iff_getElem?.mp hv
  obtain ⟨t', _, p', rfl, h'⟩ := hU.at' hj
  have e' := SoP.keyed h'
  exact ⟨p', rfl, by rw [e']; exact h'⟩
def spNeeded2 (K : PySem.W.Frag) (a : Adr) : Sp := fun vs H Q _ => ∃ (x y c q : Addr) (B : Bk) (R : List Row) (ms : List Mg) (ts : List Th), vs = [.ref x, .ref y, .ref c, .ref q] ∧ BW K a H x y B R ∧ ChoV K H c B R ms ∧ WishV K H q B R ts ∧ ∀ p F H', Same H H' → H p = none → ThsT K H' p (lotT F) → F.Nodup → (∀ t, t ∈ F ↔ Rch B R ms ts t) → Q (.ref p) H'
theorem ok_needed (T : Txt K mg a) : FnOk P w K mg base CX0 8 a.f_needed a.d_needed ["book", "web", "choice", "things"] (spNeeded2 K a) := by
  have G_check_choice := ok_check_choice (P := P) (w := w) (base := base) T
  have G_check_wishes := ok_check_wishes (P := P) (w := w) (base := base) T
  have G_links_of := ok_links_of (P := P) (w := w) (base := base) T
  have G_needed_by := ok_needed_by (P := P) (w := w) (base := base) T
  refine T.F_needed.ok sc_needed (fun vs H Q E h => ?_) (fun cdv A outer s H vs Q E hr h => ?_)
  · obtain ⟨x, y, c, q, B, R, ms, ts, rfl, _⟩ := h
    rfl
  obtain ⟨x, y, c, q, B, R, ms, ts, rfl, W, Ch, V0, k⟩ := h
  have hmk := V0.len W.g
  have hml : R.length * B.nk ≤ 200 * 5 := Nat.mul_le_mul W.l W.g.k2
  have hts : ∀ t ∈ ts, t ∈ tgs ms := fun t ht => Ch.t t ((mem_makM W.g).mpr (V0.ok t ht))
  refine ⟨_, (pss_cons (ps_expr (pe_call G_check_choice (hr.mono (by decide)) rfl T.g_check_choice T.k_check_choice T.b_check_choice .nil pass0 (pa_cons (pv 0) (pa_cons (pv 1) (pa_cons (pv 2) pa_nil)))))
  (pss_cons (ps_expr (pe_call G_check_wishes (hr.mono (by decide)) rfl T.g_check_wishes T.k_check_wishes T.b_check_wishes .nil pass0 (pa_cons (pv 0) (pa_cons (pv 1) (pa_cons (pv 3) pa_nil)))))
  (pss_one (ps_ret (pe_callTy call_tuple_of (by rfl) T.z_tuple (by decide +kernel) (pa_cons (pe_callB cr_sortedPO (by rfl) T.z_sorted (by decide +kernel) (pa_cons (pe_call G_needed_by (hr.mono (by decide)) rfl T.g_needed_by T.k_needed_by T.b_needed_by .nil pass0 (pa_cons (pe_call G_links_of (hr.mono (by decide)) rfl T.g_links_of T.k_links_of T.b_links_of .nil pass0 (pa_cons (pv 0) (pa_cons (pv 1) (pa_cons (pv 2) pa_nil)))) (pa_cons (pv 3) pa_nil))) pa_nil)) pa_nil)))))), ?_⟩
  refine ⟨_, rfl, _, rfl, _, rfl, x, y, c, B, R, ms, rfl, W, Ch, fun H1 s1 => ?_⟩
  refine ⟨_, rfl, _, rfl, _, rfl, x, y, q, B, R, ts, rfl, W.same s1, V0.tt (Same_tt s1), fun H2 s2 => ?_⟩
  have s12 := s1.trans s2
  refine ⟨_, rfl, _, rfl, _, rfl, x, y, c, B, R, ms, rfl, W.same s12, Ch.same s12, fun d kvs H3 s3 hd ed ld => ?_⟩
  have s13 := s12.trans s3
  obtain ⟨kv0, e0, cd⟩ := id Ch.e
  refine ⟨_, rfl, d, q, B, R, ms, kvs, ts, rfl, ed, ld, Ch.o, cd.n, Ch.len W.g W.l, W.gr, (V0.tt (Same_tt s13)).v, by omega, hts, fun l F H4 s4 hl hL hn hm => ?_⟩
  obtain ⟨us, eL, hU⟩ := hL
  refine ⟨l, _, SoP.keyOf H4, rfl, SqL.of eL, srt_key hU, fun ys p hs hb hp5 => ?_⟩
  have s5 := same_new (o := .lst ys) hp5
  have hP := (srt_ths hU (srt_key hU) hs hb hn).mono fun _ _ q => q.tt (K := K) (tt_new (o := .lst ys) hp5)
  have ep : (upd H4 p (.lst ys)) p = some (.lst ys) := upd_same
  generalize upd H4 p (.lst ys) = H5 at s5 hP ep
  refine ⟨p, ys, rfl, .inl ⟨SqL.of ep, fun p2 hp2 => ?_⟩⟩
  have S := ((s13.trans s4).trans s5).trans (same_new (o := .tup ys) hp2)
  exact k p2 F _ S (none_of ((s13.trans s4).trans s5) hp2) (tup_of_pl hP hp2) hn hm
def spFirstReady (K : PySem.W.Frag) : Sp := fun vs H Q _ => ∃ (d m l : Addr) (B : Bk) (R : List Row) (ms ns : List Mg) (kvs : List (List Key × V)) (left : List Th) (us : List V), vs = [.ref d, .ref m, .ref l] ∧ H d = some (.dT kvs) ∧ LD K H kvs B R ms (tgs ms) ∧ Good R ∧ H m = some (.dT (tk (tgs ns))) ∧ H l = some (.lst us) ∧ PL (ThV H) us left ∧ (∀ t ∈ left, t ∈ tgs ms) ∧ (∃ t ∈ left, Rdy B R ms (tgs ns) t) ∧ ∀ (q : Addr) (j : Nat) (t : Th) (H' : Hp), Same H H' → left[j]? = some t → H' q = some (.tup [nv t.1, nv t.2]) → Rdy B R ms (tgs ns) t → (∀ (i : Nat), i < j → ∀ (x : Th), left[i]? = some x → ¬ Rdy B R ms (tgs ns) x) → Q (.ref q) H'
theorem ok_first_ready (T : Txt K mg a) : FnOk P w K mg base CX0 2 a.f_first_ready a.d_first_ready ["links", "made", "things"] (spFirstReady K) := by
  have G_all_in := ok_all_inR (P := P) (w := w) (base := base) T
  refine T.F_first_ready.ok sc_first_ready (fun vs H Q E h => ?_) (fun cdv A outer s H vs Q E hr h => ?_)
  · obtain ⟨d, m, l, B, R, ms, ns, kvs, left, us, rfl, _⟩ := h
    rfl
  obtain ⟨d, m, l, B, R, ms, ns, kvs, left, us, rfl, ed, ld, gR, em, el, hU, hin, hex, k⟩ := h
  refine ⟨_, (pss_cons (ps_for PassesOwn.never rfl (pi_list (pv 2)) (pg_name (i := 3) sc_first_ready.nd rfl (Or.inl rfl))
    (pss_one (ps_if (pt_val (pe_call G_all_in (hr.mono (by decide)) rfl T.g_all_in T.k_all_in T.b_all_in .nil pass0 (pa_cons (pv 1) (pa_cons (pe_dget (hu1 hr) (pv 0) (pv 3) (fun _ _ => rfl)) pa_nil))))
    (pss_one (ps_ret (pv 3)))
    pss_nil)))
  (pss_one (ps_ret pe_non))), ?_⟩
  refine ⟨_, rfl, l, rfl, ⟨_, SqL.of el⟩, for_list (xs := us) (fun j σ H' => ∃ v3, σ = [some (.ref d), some (.ref m), some (.ref l), v3] ∧ Same H H' ∧ ∀ (i : Nat), i < j → ∀ (x : Th), left[i]? = some x → ¬ Rdy B R ms (tgs ns) x) ⟨none, rfl, Same.refl H, fun i hi => absurd hi (Nat.not_lt_zero i)⟩ ?_ ?_ ?_⟩
  · rintro j σ H' _ ⟨_, _, s1, _⟩
    exact SqL.of (s1 _ _ el)
  · rintro j u σ H1 hu ⟨v3, rfl, s1, hno⟩
    obtain ⟨t, ht, q, rfl, hq⟩ := hU.at' hu
    obtain ⟨p, hv, hp⟩ := ld.v t (hin t (List.mem_of_getElem? ht))
    have hnl := needs_len (B := B) gR (t := t) (w := wayM ms t)
    refine ⟨_, rfl, _, rfl, _, rfl, d, _, rfl, dget_t (s1 _ _ ed) (k := kt t) (s1 _ _ hq) hv, m, p, _, _, rfl, .inl (s1 _ _ em), hp.tt (Same_tt s1), by omega, fun H2 s2 => ⟨_, rfl, ite2 (fun hb => ?_) (fun hb => ?_)⟩⟩
    · exact ⟨_, rfl, k q j t H2 (s1.trans s2) ht ((s1.trans s2) _ _ hq) (of_decide_eq_true (p := ∀ u ∈ needsM B R t (wayM ms t), u ∈ tgs ns) hb) hno⟩
    · refine ⟨_, rfl, s1.trans s2, fun i hi x hx => ?_⟩
      rcases Nat.lt_or_ge i j with h | h
      · exact hno i h x hx
      · have : i = j := by omega
        subst this
        rw [ht] at hx
        cases hx
        exact fun z => hb (decide_eq_true (p := ∀ u ∈ needsM B R t (wayM ms t), u ∈ tgs ns) z)
  · rintro σ H1 ⟨v3, rfl, s1, hno⟩
    obtain ⟨t, ht, hr⟩ := hex
    obtain ⟨i, hi⟩ := List.mem_iff_getElem?.mp ht
    have := (List.getElem?_eq_some_iff.mp hi).1
    exact absurd hr (hno i (by rw [hU.1]; exact this) t hi)
end
end Lk
namespace Lk
open PySem L2
section
variable {P : Program} {w : World} {K : PySem.W.Frag} {mg : Str → Option Value} {base : Heap} {a : Adr}
def spPlanOf (K : PySem.W.Frag) (a : Adr) : Sp := fun vs H Q _ => ∃ (x y c q : Addr) (B : Bk) (R : List Row) (ms : List Mg) (ts : List Th), vs = [.ref x, .ref y, .ref c, .ref q] ∧ BW K a H x y B R ∧ ChoV K H c B R ms ∧ WishV K H q B R ts ∧ ∀ p F ns H', Same H H' → PlanV K H' p B R ns → RunN B R ms (lotT F) F.length (ns, []) → F.Nodup → (∀ t, t ∈ F ↔ Rch B R ms ts t) → Q (.ref p) H'
theorem ok_plan_of (T : Txt K mg a) : FnOk P w K mg base CX0 4 a.f_plan_of a.d_plan_of ["book", "web", "choice", "things"] (spPlanOf K a) := by
  have G_links_of := ok_links_of (P := P) (w := w) (base := base) T
  have G_needed_by := ok_needed_by (P := P) (w := w) (base := base) T
  have G_first_ready := ok_first_ready (P := P) (w := w) (base := base) T
  refine T.F_plan_of.ok sc_plan_of (fun vs H Q E h => ?_) (fun cdv A outer s H vs Q E hr h => ?_)
  · obtain ⟨x, y, c, q, B, R, ms, ts, rfl, _⟩ := h
    rfl
  obtain ⟨x, y, c, q, B, R, ms, ts, rfl, W, Ch, V0, k⟩ := h
  have hmk := V0.len W.g
  have hml : R.length * B.nk ≤ 200 * 5 := Nat.mul_le_mul W.l W.g.k2
  have hts : ∀ t ∈ ts, t ∈ tgs ms := fun t ht => Ch.t t ((mem_makM W.g).mpr (V0.ok t ht))
  have hms := Ch.len W.g W.l
  obtain ⟨kv0, e0, cd⟩ := id Ch.e
  have hO := Ch.o
  refine ⟨_, (pss_cons (ps_set (i := 4) sc_plan_of.nd rfl (Or.inl rfl) (pe_call G_links_of (hr.mono (by decide)) rfl T.g_links_of T.k_links_of T.b_links_of .nil pass0 (pa_cons (pv 0) (pa_cons (pv 1) (pa_cons (pv 2) pa_nil)))))
  (pss_cons (ps_set (i := 5) sc_plan_of.nd rfl (Or.inl rfl) (pe_callB cr_sortedPO (by rfl) T.z_sorted (by decide +kernel) (pa_cons (pe_call G_needed_by (hr.mono (by decide)) rfl T.g_needed_by T.k_needed_by T.b_needed_by .nil pass0 (pa_cons (pv 4) (pa_cons (pv 3) pa_nil))) pa_nil)))
  (pss_cons (ps_set (i := 6) sc_plan_of.nd rfl (Or.inl rfl) pe_dnewT)
  (pss_cons (ps_while PassesOwn.never (pt_truth (pv 5) (by intro _; rfl))
    (pss_cons (ps_set (i := 7) sc_plan_of.nd rfl (Or.inl rfl) (pe_call G_first_ready (hr.mono (by decide)) rfl T.g_first_ready T.k_first_ready T.b_first_ready .nil pass0 (pa_cons (pv 4) (pa_cons (pv 6) (pa_cons (pv 5) pa_nil)))))
  (pss_cons (ps_dput (hu1 hr) (pv 6) (pv 7) pe_bl rfl)
  (pss_one (ps_expr (pe_bm PySem.F.plainAttrs_list PySem.F.slot_list_remove PySem.F.type_list_remove (RmD.mt_removeD (u65 hr)) (pv 5) (pa_cons (pv 7) pa_nil)))))))
  (pss_one (ps_ret (pe_callTy call_tuple_of (by rfl) T.z_tuple (by decide +kernel) (pa_cons (pe_lock (pe_lc (own := [("value", 8), ("kind", 9)]) (g := gTup K 2 (gCons (gName 8) (gCons (gName 9) gNil))) (tt := tYes) rfl sc_plan_of.nd (pi_keys (pv 6)) (blkOk_by (N := ["book", "web", "choice", "things", "links", "left", "made", "thing", "value", "kind"]) (sc := defScope s_plan_of) (by decide +kernel)) (fun _ _ _ _ _ => pg_tup rfl (pgs_cons (pg_name (i := 8) sc_plan_of.nd rfl (Or.inl rfl)) (pgs_cons (pg_name (i := 9) sc_plan_of.nd rfl (Or.inl rfl)) pgs_nil))) (fun _ _ _ _ _ => pts_nil) (fun _ _ _ _ _ => (pe_tup (pa_cons (pv 8) (pa_cons (pv 9) (pa_cons (pe_dget (hu1 hr) (pv 2) (pe_tup (pa_cons (pv 8) (pa_cons (pv 9) pa_nil))) (fun _ _ => rfl)) pa_nil))))))) pa_nil)))))))), ?_⟩
  refine ⟨_, rfl, _, rfl, _, rfl, x, y, c, B, R, ms, rfl, W, Ch, fun d kvs H3 s3 hd ed ld => ?_⟩
  refine ⟨_, rfl, _, rfl, d, q, B, R, ms, kvs, ts, rfl, ed, ld, hO, cd.n, hms, W.gr, (V0.tt (Same_tt s3)).v, by omega, hts, fun l F H4 s4 hl hL hn hm => ?_⟩
  obtain ⟨us, eL, hU⟩ := hL
  refine ⟨l, _, SoP.keyOf H4, rfl, SqL.of eL, srt_key hU, fun ys ll hs hb hll => ?_⟩
  have S5 := same_new (o := .lst ys) hll
  have hP := (srt_ths hU (srt_key hU) hs hb hn).mono fun _ _ q => q.tt (K := K) (tt_new (o := .lst ys) hll)
  have l5 : (upd H4 ll (.lst ys)) ll = some (.lst ys) := upd_same
  have s5 := (s3.trans s4).trans S5
  have d5 := (s4.trans S5) _ _ ed
  have ld5 := ld.tt (Same_tt (s4.trans S5))
  have hll0 : H ll = none := none_of (s3.trans s4) hll
  have ndl : d ≠ ll := ne_of_none (s4 _ _ ed) hll
  generalize upd H4 ll (.lst ys) = H5 at S5 hP l5 s5 d5 ld5
  have hLn : (lotT F).Nodup := asc_nodup asc_lotT
  have hLm : ∀ t, t ∈ lotT F ↔ t ∈ F := fun t => mem_lotT
  have hLl : (lotT F).length = F.length := by
    refine Nat.le_antisymm lotT_len (nodup_len hn fun t ht => (hLm t).mpr ht)
  have hLc : ∀ t ∈ lotT F, t ∈ tgs ms ∧ ∀ u ∈ needsM B R t (wayM ms t), u ∈ lotT F := fun t ht => by
    have h1 := (hm t).mp ((hLm t).mp ht)
    have h2 := h1.made hO hts
    refine ⟨h2, fun u hu => (hLm u).mpr ((hm u).mpr ?_)⟩
    obtain ⟨m, hmm, rfl⟩ := List.mem_map.mp h2
    have e : wayM ms m.1 = m.2 := wayM_of cd.n hmm
    rw [e] at hu
    exact .need h1 hmm hu
  have hFl : F.length ≤ ms.length := rch_tgs hO hts hn fun t ht => (hm t).mp ht
  refine fun dm hdm => ?_
  have S6 := same_new (o := .dT []) hdm
  have hdm0 : H dm = none := none_of s5 hdm
  have nld : ll ≠ dm := ne_of_none l5 hdm
  have ndd : d ≠ dm := ne_of_none d5 hdm
  -- links and left stay, made grows
  refine ⟨fun m σ H' => ∃ v7 v8 v9 n ns left ul, σ = [some (.ref x), some (.ref y), some (.ref c), some (.ref q), some (.ref d), some (.ref ll), some (.ref dm), v7, v8, v9] ∧ Same H H' ∧ H' d = some (.dT kvs) ∧ LD K H' kvs B R ms (tgs ms) ∧ H' dm = some (.dT (tk (tgs ns))) ∧ H' ll = some (.lst ul) ∧ PL (ThV H') ul left ∧ RunN B R ms (lotT F) n (ns, left) ∧ m = left.length, ⟨_, none, none, none, 0, [], lotT F, ys, rfl, s5.trans S6, S6 _ _ d5, ld5.tt (Same_tt S6), upd_same, S6 _ _ l5, hP.mono fun _ _ q => q.tt (K := K) (tt_new hdm), rfl, rfl⟩, ?_⟩
  rintro m σ H2 ⟨v7, v8, v9, n, ns, left, ul, rfl, s2, d2, ld2, m2, l2, hq2, run, rfl⟩
  have psi := run_psi hLn run
  have hll2 : ns.length + left.length = F.length := psi.l2.trans hLl
  refine ⟨_, rfl, !ul.isEmpty, .inl ⟨ul, SqL.of l2, rfl⟩, ite2 (fun c1 => ⟨fun σ' H' => ∃ m', m' < left.length ∧ ∃ v7 v8 v9 n ns left ul, σ' = [some (.ref x), some (.ref y), some (.ref c), some (.ref q), some (.ref d), some (.ref ll), some (.ref dm), v7, v8, v9] ∧ Same H H' ∧ H' d = some (.dT kvs) ∧ LD K H' kvs B R ms (tgs ms) ∧ H' dm = some (.dT (tk (tgs ns))) ∧ H' ll = some (.lst ul) ∧ PL (ThV H') ul left ∧ RunN B R ms (lotT F) n (ns, left) ∧ m' = left.length, fun _ _ h => h, ?_⟩) (fun c1 => ?_)⟩
  · have hpos : left ≠ [] := fun e => by
      have h1 := hq2.1
      rw [e] at h1
      rw [List.length_eq_zero_iff.mp h1] at c1
      cases c1
    refine ⟨_, rfl, _, rfl, _, rfl, d, dm, ll, B, R, ms, ns, kvs, left, ul, rfl, d2, ld2, W.gr, m2, l2, hq2, fun t ht => (hLc t ((psi.m t).mpr (Or.inr ht))).1, psi_rdy psi hO cd.n hLc hpos, fun qt j t H3 s23 hj hqt hrd hno => ?_⟩
    have hjl := (List.getElem?_eq_some_iff.mp hj).1
    have htm := List.mem_of_getElem? hj
    have hnew : t ∉ tgs ns := psi.d t htm
    have hstep : StepP B R ms (ns, left) (ns ++ [(t, wayM ms t)], left.eraseIdx j) := ⟨j, t, hj, hrd, hno, rfl⟩
    have s3' := s2.trans s23
    have m3 := s23 _ _ m2
    refine ⟨_, rfl, _, rfl, dm, _, rfl, DPut.t m3 (k := kt t) hqt (by rw [tk_len, tgs_len]; exact lt_line (by omega)), ?_⟩
    have x6 : TT K H3 (upd H3 dm (.dT (putK (tk (tgs ns)) (kt t) (.bl true)))) := tt_dT m3
    rw [tk_put, insT_new hnew] at x6 ⊢
    have s6 : Same H (upd H3 dm (.dT (tk (tgs ns ++ [t])))) := same_at s3' hdm0
    have m6 : (upd H3 dm (.dT (tk (tgs ns ++ [t])))) dm = some (.dT (tk (tgs ns ++ [t]))) := upd_same
    have d6 : (upd H3 dm (.dT (tk (tgs ns ++ [t])))) d = some (.dT kvs) := by rw [upd_ne ndd]; exact s23 _ _ d2
    have l6 : (upd H3 dm (.dT (tk (tgs ns ++ [t])))) ll = some (.lst ul) := by rw [upd_ne nld]; exact s23 _ _ l2
    have q6 := x6.d _ _ hqt
    have ld6 := (ld2.tt (Same_tt s23)).tt x6
    have hq6 := (hq2.mono fun _ _ z => z.tt (K := K) (Same_tt s23)).mono fun _ _ z => z.tt x6
    generalize upd H3 dm (.dT (tk (tgs ns ++ [t]))) = H6 at s6 m6 d6 l6 q6 ld6 hq6
    refine ⟨_, rfl, .inl ⟨rfl, _, SqL.of l6⟩, _, rfl, ?_⟩
    refine ⟨ll, ul, _, dTh t, left.map dTh, j, dTh t, rfl, rfl, l6, pl_dp hq6 (fun _ _ z => th_dp z), th_dp ⟨qt, rfl, q6⟩, sh_thsL left, sh_th t, (rem_th psi.n1 hj).1, (rem_th psi.n1 hj).2.1, (rem_th psi.n1 hj).2.2, ?_⟩
    have x7 : TT K H6 (upd H6 ll (.lst (ul.eraseIdx j))) := tt_lst l6
    refine ⟨(left.eraseIdx j).length, ?_, _, _, _, n + 1, ns ++ [(t, wayM ms t)], left.eraseIdx j, ul.eraseIdx j, rfl, same_at s6 hll0, ?_, ld6.tt x7, ?_, upd_same, (hq6.mono fun _ _ z => z.tt x7).eraseIdx hjl, ⟨_, run, hstep⟩, rfl⟩
    · rw [List.length_eraseIdx_of_lt hjl]
      omega
    · rw [upd_ne ndl]
      exact d6
    · rw [upd_ne nld.symm, tgs_snoc]
      exact m6
  · have hz : left = [] := by
      refine List.eq_nil_of_length_eq_zero ?_
      rw [← hq2.1]
      cases ul with
      | nil => rfl
      | cons => exact absurd rfl c1
    subst hz
    have hnF : n = F.length := by
      have : ns.length = n := psi.l
      simp only [List.length_nil] at hll2
      omega
    subst hnF
    have hw : ∀ z ∈ ns, z = (z.1, wayM ms z.1) := psi.w
    have hin : ∀ z ∈ ns, z.1 ∈ tgs ms := fun z hz => (hLc z.1 ((psi.m z.1).mpr (Or.inl (List.mem_map.mpr ⟨z, hz, rfl⟩)))).1
    -- the tuple
    have ndc : c ≠ dm := ne_of_none (s5 _ _ e0) hdm
    refine ⟨dm, _, m2, trivial, fun od => ?_⟩
    have back : ∀ {H'}, Same (upd H2 dm (.frz od (.dT (tk (tgs ns))))) H' → Same H2 (upd H' dm (.dT (tk (tgs ns)))) := fun s => unlock_same m2 s
    have eF : (upd H2 dm (.frz od (.dT (tk (tgs ns))))) dm = some (.frz od (.dT (tk (tgs ns)))) := upd_same
    have ecF : (upd H2 dm (.frz od (.dT (tk (tgs ns))))) c = some (.dT kv0) := by rw [upd_ne ndc]; exact s2 _ _ e0
    have TF : TT K H2 (upd H2 dm (.frz od (.dT (tk (tgs ns))))) := tt_dT m2
    generalize upd H2 dm (.frz od (.dT (tk (tgs ns)))) = HL at back eF ecF TF
    refine ⟨_, rfl, dm, od, rfl, .inr ⟨_, eF, fun D hD => ?_⟩⟩
    refine lc_it walk_keysT (fun j H' => Same HL H' ∧ ∃ us, H' D = some (.lst us) ∧ PL (MgV K H') us (ns.take j)) ⟨same_new hD, [], upd_same, PL.nil⟩ (fun j H' _ z => z.1 _ _ eF) (fun j v H5 H6 hj z hy => ?_) (fun H5 z => ?_)
    · obtain ⟨s5', us', eD, hp⟩ := z
      obtain ⟨rfl, ky, vy, q', hkv, rfl, hq'⟩ := hy
      obtain ⟨mg, hmg, rfl⟩ : ∃ mg, ns[j]? = some mg ∧ ky = kt mg.1 := by
        unfold tk tgs at hkv
        rw [List.map_map, List.getElem?_map] at hkv
        obtain ⟨t, h2, h3⟩ := Option.map_eq_some_iff.mp hkv
        exact ⟨t, h2, (Prod.mk.inj h3).1.symm⟩
      have hjl := (List.getElem?_eq_some_iff.mp hmg).1
      have hmm := List.mem_of_getElem? hmg
      obtain ⟨qq, hm', hv, hqq, _, _, hw'⟩ := Ch.at cd (hin mg hmm)
      have T6 : TT K H H6 := ((Same_tt s2).trans TF).trans (Same_tt s5')
      have hq' : H6 q' = some (.tup [nv mg.1.1, nv mg.1.2]) := hq'
      refine ⟨q', _, rfl, .inl (.inl hq'), rfl, _, _, rfl, _, _, rfl, rfl, ?_⟩
      refine ⟨rfl, ?_⟩
      refine ⟨_, rfl, _, rfl, _, rfl, _, rfl, _, rfl, (by decide : 2 ≤ sizeLine), fun p1 hp1 => ?_⟩
      have sp := same_new (o := .tup [nv mg.1.1, nv mg.1.2]) hp1
      refine ⟨c, _, rfl, dget_t (sp _ _ (s5' _ _ ecF)) (k := kt mg.1) upd_same hv, (by decide : 3 ≤ sizeLine), fun p2 hp2 => ?_⟩
      have S2 := sp.trans (same_new (o := .tup [nv mg.1.1, nv mg.1.2, .ref qq]) hp2)
      have eD2 := S2 _ _ eD
      have ep2 : (upd (upd H6 p1 (.tup [nv mg.1.1, nv mg.1.2])) p2 (.tup [nv mg.1.1, nv mg.1.2, .ref qq])) p2 = some (.tup [nv mg.1.1, nv mg.1.2, .ref qq]) := upd_same
      generalize upd (upd H6 p1 (.tup [nv mg.1.1, nv mg.1.2])) p2 (.tup [nv mg.1.1, nv mg.1.2, .ref qq]) = H7 at S2 eD2 ep2
      refine ⟨us', eD2, ?_, same_at (s5'.trans S2) hD, _, upd_same, ?_⟩
      · rw [hp.1, List.length_take]
        simp only [List.length_nil] at hll2
        exact lt_line (by omega)
      · rw [List.take_add_one, hmg]
        have x8 : TT K H7 (upd H7 D (.lst (us' ++ [.ref p2]))) := tt_lst eD2
        refine (hp.mono fun _ _ z => z.tt ((Same_tt S2).trans x8)).snoc ⟨p2, qq, rfl, x8.d _ _ ep2, ?_⟩
        rw [show mg.2 = wayM ms mg.1 from congrArg Prod.snd (hw mg hmm)]
        exact x8.t _ _ ((Same_tt S2).t _ _ (T6.t _ _ hqq))
    · obtain ⟨s5', us', eD, hp⟩ := z
      rw [tk_len, tgs_len, List.take_length] at hp
      refine ⟨s5' _ _ eF, ?_⟩
      have x2 : TL K H5 (upd H5 dm (.dT (tk (tgs ns)))) := tl_frzT (s5' _ _ eF)
      have S6' := s2.trans (back s5')
      have eD6 := x2.l _ _ eD
      have hp6 := hp.mono fun _ _ z => z.tt x2.t
      generalize upd H5 dm (.dT (tk (tgs ns))) = H6 at S6' eD6 hp6
      refine ⟨D, us', rfl, .inl ⟨SqL.of eD6, fun pr hpr => ?_⟩⟩
      refine k pr F ns _ (S6'.trans (same_new hpr)) ⟨⟨us', .inl (.inl upd_same), hp6.mono fun _ _ z => z.tt (tt_new hpr)⟩, fun z hz => ?_, by simp only [List.length_nil] at hll2; omega⟩ run hn hm
      obtain ⟨qq, _, _, _, hmk', _, hw'⟩ := Ch.at cd (hin z hz)
      have hl := ((mem_makM W.g).mp hmk').lt W.g
      rw [hw z hz]
      exact ⟨hl.1, hl.2, hw'⟩
def spPlanBy (K : PySem.W.Frag) (a : Adr) : Sp := spPlanOf K a
theorem ok_plan_by (T : Txt K mg a) : FnOk P w K mg base CX0 8 a.f_plan_by a.d_plan_by ["book", "web", "choice", "wishes"] (spPlanBy K a) := by
  have G_check_choice := ok_check_choice (P := P) (w := w) (base := base) T
  have G_check_wishes := ok_check_wishes (P := P) (w := w) (base := base) T
  have G_plan_of := ok_plan_of (P := P) (w := w) (base := base) T
  refine T.F_plan_by.ok sc_plan_by (fun vs H Q E h => ?_) (fun cdv A outer s H vs Q E hr h => ?_)
  · obtain ⟨x, y, c, q, B, R, ms, ts, rfl, _⟩ := h
    rfl
  obtain ⟨x, y, c, q, B, R, ms, ts, rfl, W, Ch, V0, k⟩ := h
  refine ⟨_, (pss_cons (ps_expr (pe_call G_check_choice (hr.mono (by decide)) rfl T.g_check_choice T.k_check_choice T.b_check_choice .nil pass0 (pa_cons (pv 0) (pa_cons (pv 1) (pa_cons (pv 2) pa_nil)))))
  (pss_cons (ps_expr (pe_call G_check_wishes (hr.mono (by decide)) rfl T.g_check_wishes T.k_check_wishes T.b_check_wishes .nil pass0 (pa_cons (pv 0) (pa_cons (pv 1) (pa_cons (pv 3) pa_nil)))))
  (pss_one (ps_ret (pe_call G_plan_of (hr.mono (by decide)) rfl T.g_plan_of T.k_plan_of T.b_plan_of .nil pass0 (pa_cons (pv 0) (pa_cons (pv 1) (pa_cons (pv 2) (pa_cons (pv 3) pa_nil))))))))), ?_⟩
  refine ⟨_, rfl, _, rfl, _, rfl, x, y, c, B, R, ms, rfl, W, Ch, fun H1 s1 => ?_⟩
  refine ⟨_, rfl, _, rfl, _, rfl, x, y, q, B, R, ts, rfl, W.same s1, V0.tt (Same_tt s1), fun H2 s2 => ?_⟩
  have s12 := s1.trans s2
  exact ⟨_, rfl, _, rfl, _, rfl, _, rfl, x, y, c, q, B, R, ms, ts, rfl, W.same s12, Ch.same s12, V0.tt (Same_tt s12), fun p F ns H3 s3 => k p F ns H3 (s12.trans s3)⟩
end
end Lk
namespace Lk
open PySem L2
section
variable {P : Program} {w : World} {K : PySem.W.Frag} {mg : Str → Option Value} {base : Heap} {a : Adr}
def spPlanPrice (K : PySem.W.Frag) (a : Adr) : Sp := fun vs H Q _ => ∃ (x y p : Addr) (B : Bk) (R : List Row) (ms : List Mg), vs = [.ref x, .ref y, .ref p] ∧ BW K a H x y B R ∧ PlanV K H p B R ms ∧ isPlan B R [] ms = true ∧ ∀ H', Same H H' → Q (nv (priceP B ms)) H'
theorem sum_nv (l : List Nat) : (l.map fun n : Nat => (n : Int)).sum = ((l.sum : Nat) : Int) := by
  induction l with
  | nil => rfl
  | cons x l ih =>
    rw [List.map_cons, List.sum_cons, List.sum_cons, ih]
    omega
theorem ok_price (T : Txt K mg a) : FnOk P w K mg base CX0 9 a.f_price a.d_price ["book", "web", "plan"] (spPlanPrice K a) := by
  have G_check_web := ok_check_web (P := P) (w := w) (base := base) T
  have G_check_plan := ok_check_plan (P := P) (w := w) (base := base) T
  have G_way_price := ok_way_price (P := P) (w := w) (base := base) T
  refine T.F_price.ok sc_price (fun vs H Q E h => ?_) (fun cdv A outer s H vs Q E hr h => ?_)
  · obtain ⟨x, y, p, B, R, ms, rfl, _⟩ := h
    rfl
  obtain ⟨x, y, p, B, R, ms, rfl, W, V0, hP, k⟩ := h
  have hl := V0.l
  refine ⟨_, (pss_cons (ps_expr (pe_call G_check_web (hr.mono (by decide)) rfl T.g_check_web T.k_check_web T.b_check_web .nil pass0 (pa_cons (pv 0) (pa_cons (pv 1) pa_nil))))
  (pss_cons (ps_expr (pe_callS G_check_plan (hr.mono (by decide)) rfl T.g_check_plan T.k_check_plan T.b_check_plan (fun σ => passAt takes0 σ) (pa_cons (pv 0) (pa_cons (pv 1) (pa_cons (pe_tup pa_nil) (pa_cons (pv 2) pa_nil))))))
  (pss_one (ps_ret (pe_callB (cr_sum rfl) (by rfl) T.z_sum (by decide +kernel) (pa_cons (pe_lc (own := [("_", 3), ("_", 3), ("way", 4)]) (g := gTup K 3 (gCons (gName 3) (gCons (gName 3) (gCons (gName 4) gNil)))) (tt := tYes) rfl sc_price.nd (pi_tup (pv 2)) (blkOk_by (N := ["book", "web", "plan", "_", "way"]) (sc := defScope s_price) (by decide +kernel)) (fun _ _ _ _ _ => pg_tup rfl (pgs_cons (pg_name (i := 3) sc_price.nd rfl (Or.inl rfl)) (pgs_cons (pg_name (i := 3) sc_price.nd rfl (Or.inl rfl)) (pgs_cons (pg_name (i := 4) sc_price.nd rfl (Or.inl rfl)) pgs_nil)))) (fun _ _ _ _ _ => pts_nil) (fun _ _ _ _ _ => (pe_call G_way_price (hr.mono (by decide)) rfl T.g_way_price T.k_way_price T.b_way_price .nil pass0 (pa_cons (pv 0) (pa_cons (pv 4) pa_nil))))) pa_nil)))))), ?_⟩
  refine ⟨_, rfl, _, rfl, x, y, B, R, rfl, W, fun H1 s1 => ?_⟩
  refine ⟨_, rfl, _, rfl, ⟨(by decide : 0 ≤ sizeLine), fun c hc => ?_⟩⟩
  have s2 := s1.trans (same_new (o := .tup []) hc)
  refine ⟨_, rfl, x, y, c, p, B, R, [], ms, rfl, W.same s2, ⟨[], .inl (.inl upd_same), PL.nil⟩, Nat.zero_le _, V0.tt (Same_tt s2), fun H3 s3 => ⟨fun _ => ?_, fun h => absurd (hP.symm.trans h) (by decide)⟩⟩
  have S3 := s2.trans s3
  obtain ⟨wp, hwp, hpl⟩ := V0.v
  refine ⟨_, rfl, p, rfl, ⟨_, (Same_tt S3).t _ _ hwp⟩, fun D hD => ?_⟩
  refine lc_tup (xs := wp) (fun j H' => Same H3 H' ∧ H' D = some (.lst (((ms.take j).map fun m => priceW B m.2).map nv))) ⟨same_new hD, upd_same⟩ (fun j H' _ z => (Tk.of (S3.trans z.1)).t hwp) (fun j v H4 hv z => ?_) (fun H4 z => ?_)
  · obtain ⟨s4, eD⟩ := z
    obtain ⟨m, hm, hmv⟩ := hpl.at' hv
    have hj := (List.getElem?_eq_some_iff.mp hm).1
    have hvm := V0.ok m (List.mem_of_getElem? hm)
    obtain ⟨pm, qm, rfl, hpm, hqm⟩ := hmv.tt (Same_tt (S3.trans s4))
    obtain ⟨c1, c2⟩ := way_lt hvm.2.2
    refine ⟨pm, _, rfl, .inl (.inl hpm), rfl, _, _, rfl, _, _, rfl, _, _, rfl, rfl, ?_⟩
    refine ⟨rfl, ?_⟩
    refine ⟨_, rfl, _, rfl, x, qm, B, m.2, rfl, (W.same (S3.trans s4)).b, hqm, c1, c2, _, eD, ?_, same_at s4 hD, ?_⟩
    · rw [List.length_map, List.length_map, List.length_take]
      exact lt_line (by omega)
    · rw [upd_same, List.take_add_one, hm, List.map_append, List.map_append]
      rfl
  · obtain ⟨s4, eD⟩ := z
    rw [hpl.1, List.take_length] at eD
    refine ⟨D, (ms.map fun m => priceW B m.2).map fun n : Nat => (n : Int), rfl, ?_, ?_⟩
    · have e : ((ms.map fun m => priceW B m.2).map fun n : Nat => (n : Int)).map V.int = (ms.map fun m => priceW B m.2).map nv := by
        rw [List.map_map]
        rfl
      rw [e]
      exact SqL.of eD
    · rw [sum_nv]
      exact k H4 (S3.trans s4)
def spLOwn (K : PySem.W.Frag) : Sp := fun vs H Q _ => ∃ (p e : Addr) (B : Bk) (u : Wy), vs = [.ref p, .ref e] ∧ PartsV K H p B ∧ SqT K H e [.str (wd u.1), nv u.2] ∧ (u.1 = false → u.2 < B.ms.length) ∧ (u.1 = true → u.2 < B.rs.length) ∧ Q (nv (priceW B u)) H
end
end Lk
namespace Lk
open PySem L2
section
theorem ord_nodup {B : Bk} {R : List Row} {ms : List Mg} (h : Ord B R ms) : (tgs ms).Nodup := by
  unfold List.Nodup
  rw [List.pairwise_iff_getElem]
  intro i j hi hj hij e
  have hi' : i < ms.length := by rw [← tgs_len ms]; exact hi
  have hj' : j < ms.length := by rw [← tgs_len ms]; exact hj
  have e' : (ms[i]).1 = (ms[j]).1 := by
    have a1 : (tgs ms)[i] = (ms[i]).1 := List.getElem_map ..
    have a2 : (tgs ms)[j] = (ms[j]).1 := List.getElem_map ..
    rw [← a1, ← a2]
    exact e
  have := ord_inj h (List.getElem?_eq_getElem hi') (List.getElem?_eq_getElem hj') e'
  omega
/-! what things cost, over all that is chosen -/
def sumP (f : Th → Nat) (p : Th → Bool) (L : List Th) : Nat := ((L.filter p).map f).sum
theorem sumP_cons {f : Th → Nat} {p : Th → Bool} {x : Th} {L : List Th} : sumP f p (x :: L) = (if p x = true then f x else 0) + sumP f p L := by
  unfold sumP
  by_cases h : p x = true
  · rw [List.filter_cons_of_pos h, if_pos h]
    rfl
  · rw [List.filter_cons_of_neg h, if_neg h, Nat.zero_add]
theorem sumP_or {f : Th → Nat} {p q r s : Th → Bool} : ∀ {L : List Th}, (∀ x ∈ L, r x = (p x || q x) ∧ s x = (p x && q x)) → sumP f r L + sumP f s L = sumP f p L + sumP f q L
  | [], _ => rfl
  | x :: L, h => by
    obtain ⟨h1, h2⟩ := h x List.mem_cons_self
    have ih := sumP_or (f := f) fun y hy => h y (List.mem_cons_of_mem _ hy)
    rw [sumP_cons, sumP_cons, sumP_cons, sumP_cons, h1, h2]
    cases p x <;> cases q x <;> simp <;> omega
theorem sumP_le {f : Th → Nat} {p q : Th → Bool} : ∀ {L : List Th}, (∀ x ∈ L, p x = true → q x = true) → sumP f p L ≤ sumP f q L
  | [], _ => Nat.le_refl _
  | x :: L, h => by
    have ih := sumP_le (f := f) fun y hy => h y (List.mem_cons_of_mem _ hy)
    have h1 := h x List.mem_cons_self
    rw [sumP_cons, sumP_cons]
    by_cases hp : p x = true
    · rw [if_pos hp, if_pos (h1 hp)]
      omega
    · rw [if_neg hp]
      omega
theorem cost_sum {B : Bk} {ms : List Mg} {F : List Th} (hn : (tgs ms).Nodup) (hF : F.Nodup) (hs : ∀ t ∈ F, t ∈ tgs ms) : costM B ms F = sumP (fun t => priceW B (wayM ms t)) (fun t => decide (t ∈ F)) (tgs ms) := by
  unfold costM sumP
  refine (List.Perm.map _ ?_).sum_nat
  refine (List.perm_ext_iff_of_nodup hF (hn.filter _)).mpr fun t => ?_
  rw [List.mem_filter, decide_eq_true_eq]
  exact ⟨fun h => ⟨hs t h, h⟩, fun h => h.2⟩
theorem cost_same {B : Bk} {ms : List Mg} {F G : List Th} (hF : F.Nodup) (hG : G.Nodup) (h : ∀ t, t ∈ F ↔ t ∈ G) : costM B ms F = costM B ms G :=
  (List.Perm.map _ ((List.perm_ext_iff_of_nodup hF hG).mpr h)).sum_nat
theorem plan_cost {B : Bk} {R : List Row} {ms ns : List Mg} {F : List Th} (hF : F.Nodup) (run : RunN B R ms (lotT F) F.length (ns, [])) : (ns.map fun m => priceW B m.2).sum = costM B ms F := by
  have psi := run_psi (asc_nodup asc_lotT) run
  have h1 : (ns.map fun m => priceW B m.2) = (tgs ns).map fun t => priceW B (wayM ms t) := by
    unfold tgs
    rw [List.map_map]
    refine List.map_congr_left fun m hm => ?_
    have e : m = (m.1, wayM ms m.1) := psi.w m hm
    show priceW B m.2 = priceW B (wayM ms m.1)
    rw [← show m.2 = wayM ms m.1 from congrArg Prod.snd e]
  rw [h1]
  refine cost_same (ord_nodup psi.o) hF fun t => ?_
  rw [← mem_lotT (l := F)]
  exact ⟨fun h => (psi.m t).mpr (Or.inl h), fun h => ((psi.m t).mp h).elim id fun z => nomatch z⟩
theorem rch_or {B : Bk} {R : List Row} {ms : List Mg} {ts us ws : List Th} (h : ∀ t, t ∈ ws ↔ t ∈ ts ∨ t ∈ us) {t : Th} : Rch B R ms ws t ↔ Rch B R ms ts t ∨ Rch B R ms us t := by
  constructor
  · intro r
    induction r with
    | wish q => exact ((h _).mp q).elim (fun z => Or.inl (.wish z)) fun z => Or.inr (.wish z)
    | need _ hm hu ih => exact ih.elim (fun z => Or.inl (.need z hm hu)) fun z => Or.inr (.need z hm hu)
  · rintro (r | r)
    · induction r with
      | wish q => exact .wish ((h _).mpr (Or.inl q))
      | need _ hm hu ih => exact .need ih hm hu
    · induction r with
      | wish q => exact .wish ((h _).mpr (Or.inr q))
      | need _ hm hu ih => exact .need ih hm hu
theorem rch_mono {B : Bk} {R : List Row} {ms : List Mg} {ts us : List Th} (h : ∀ t ∈ ts, t ∈ us) {t : Th} (r : Rch B R ms ts t) : Rch B R ms us t := by
  induction r with
  | wish q => exact .wish (h _ q)
  | need _ hm hu ih => exact .need ih hm hu
end
section
variable {P : Program} {w : World} {K : PySem.W.Frag} {mg : Str → Option Value} {base : Heap} {a : Adr}
def spCost (K : PySem.W.Frag) (a : Adr) : Sp := fun vs H Q _ => ∃ (x y c q : Addr) (B : Bk) (R : List Row) (ms : List Mg) (ts : List Th), vs = [.ref x, .ref y, .ref c, .ref q] ∧ BW K a H x y B R ∧ ChoV K H c B R ms ∧ WishV K H q B R ts ∧ ∀ F H', Same H H' → F.Nodup → (∀ t, t ∈ F ↔ Rch B R ms ts t) → Q (nv (costM B ms F)) H'
theorem ok_cost (T : Txt K mg a) : FnOk P w K mg base CX0 9 a.f_cost a.d_cost ["book", "web", "choice", "wishes"] (spCost K a) := by
  have G_plan_by := ok_plan_by (P := P) (w := w) (base := base) T
  have G_way_price := ok_way_price (P := P) (w := w) (base := base) T
  refine T.F_cost.ok sc_cost (fun vs H Q E h => ?_) (fun cdv A outer s H vs Q E hr h => ?_)
  · obtain ⟨x, y, c, q, B, R, ms, ts, rfl, _⟩ := h
    rfl
  obtain ⟨x, y, c, q, B, R, ms, ts, rfl, W, Ch, V0, k⟩ := h
  refine ⟨_, (pss_one (ps_ret (pe_callB (cr_sum rfl) (by rfl) T.z_sum (by decide +kernel) (pa_cons (pe_lc (own := [("_", 4), ("_", 4), ("way", 5)]) (g := gTup K 3 (gCons (gName 4) (gCons (gName 4) (gCons (gName 5) gNil)))) (tt := tYes) rfl sc_cost.nd (pi_tup (pe_call G_plan_by (hr.mono (by decide)) rfl T.g_plan_by T.k_plan_by T.b_plan_by .nil pass0 (pa_cons (pv 0) (pa_cons (pv 1) (pa_cons (pv 2) (pa_cons (pv 3) pa_nil)))))) (blkOk_by (N := ["book", "web", "choice", "wishes", "_", "way"]) (sc := defScope s_cost) (by decide +kernel)) (fun _ _ _ _ _ => pg_tup rfl (pgs_cons (pg_name (i := 4) sc_cost.nd rfl (Or.inl rfl)) (pgs_cons (pg_name (i := 4) sc_cost.nd rfl (Or.inl rfl)) (pgs_cons (pg_name (i := 5) sc_cost.nd rfl (Or.inl rfl)) pgs_nil)))) (fun _ _ _ _ _ => pts_nil) (fun _ _ _ _ _ => (pe_call G_way_price (hr.mono (by decide)) rfl T.g_way_price T.k_way_price T.b_way_price .nil pass0 (pa_cons (pv 0) (pa_cons (pv 5) pa_nil))))) pa_nil)))), ?_⟩
  refine ⟨_, rfl, _, rfl, _, rfl, _, rfl, x, y, c, q, B, R, ms, ts, rfl, W, Ch, V0, fun p F ns H1 s1 Vp run hn hm => ?_⟩
  obtain ⟨wp, hwp, hpl⟩ := Vp.v
  have hl := Vp.l
  refine ⟨p, rfl, ⟨_, hwp⟩, fun D hD => ?_⟩
  refine lc_tup (xs := wp) (fun j H' => Same H1 H' ∧ H' D = some (.lst (((ns.take j).map fun m => priceW B m.2).map nv))) ⟨same_new hD, upd_same⟩ (fun j H' _ z => (Tk.of z.1).t hwp) (fun j v H4 hv z => ?_) (fun H4 z => ?_)
  · obtain ⟨s4, eD⟩ := z
    obtain ⟨m, hm, hmv⟩ := hpl.at' hv
    have hj := (List.getElem?_eq_some_iff.mp hm).1
    have hvm := Vp.ok m (List.mem_of_getElem? hm)
    obtain ⟨pm, qm, rfl, hpm, hqm⟩ := hmv.tt (Same_tt s4)
    obtain ⟨c1, c2⟩ := way_lt hvm.2.2
    refine ⟨pm, _, rfl, .inl (.inl hpm), rfl, _, _, rfl, _, _, rfl, _, _, rfl, rfl, ?_⟩
    refine ⟨rfl, ?_⟩
    refine ⟨_, rfl, _, rfl, x, qm, B, m.2, rfl, (W.same (s1.trans s4)).b, hqm, c1, c2, _, eD, ?_, same_at s4 hD, ?_⟩
    · rw [List.length_map, List.length_map, List.length_take]
      exact lt_line (by omega)
    · rw [upd_same, List.take_add_one, hm, List.map_append, List.map_append]
      rfl
  · obtain ⟨s4, eD⟩ := z
    rw [hpl.1, List.take_length] at eD
    refine ⟨D, (ns.map fun m => priceW B m.2).map fun n : Nat => (n : Int), rfl, ?_, ?_⟩
    · have e : ((ns.map fun m => priceW B m.2).map fun n : Nat => (n : Int)).map V.int = (ns.map fun m => priceW B m.2).map nv := by
        rw [List.map_map]
        rfl
      rw [e]
      exact SqL.of eD
    · rw [sum_nv2, plan_cost hn run]
      exact k F H4 (s1.trans s4) hn hm
end
end Lk
/-! tuple(x) of whatever the layer's list(x) walks: a dict's keys, say -/
namespace TpD
open PySem PySem.Spec PyProof.Rows L2
section
variable {prog : Program} {w : World} {A : Around} {E : Value → Shared → Prop} {s : Shared} {T : String} {r d : Addr} {n : Nat} {P : Nat → Value → Prop} {OK : Heap → Prop}
/-- what is known behind the walk -/
abbrev Gath (s : Shared) (n : Nat) (P : Nat → Value → Prop) (rr : Result) (s' : Shared) : Prop :=
  rr = .ok (.ret (.ref s.heap.objs.size)) ∧ ∃ (h' : Heap) (tk : Nat) (acc : Array Value) (c' : Nat), s' = { s with heap := h', toks := tk } ∧ (∀ b o, s.heap.get? b = some o → h'.get? b = some o) ∧
    h'.get? s.heap.objs.size = some { cls := .type "list", dict := none, data := .seq acc c', slots := #[] } ∧ ItemsOf P acc n
theorem gather {Q : List Value → Shared → Prop} (S : PySem.W.KdlSrc prog w T r d n P OK) (hh : A.handled = none) (hok : OK s.heap) (hn : n ≤ sizeLine)
    (hQ : ∀ (h' : Heap) (tk : Nat) (acc : Array Value), (∀ b o, s.heap.get? b = some o → h'.get? b = some o) → ItemsOf P acc n → Q acc.toList { s with heap := h', toks := tk }) : wpAny (model prog w) A (collect (.ref r)) Q E s := by
  have lt := S.there _ hok
  unfold collect
  refine wpAny_bind (wpAny_runValue (codeAny_builtin F.entry_proto_collect ?_))
  rw [Around.under_plainId F.plain_proto_collect _]
  show wpAny _ A.in1 (newList [] >>= fun l => again (.builtin "list.__iadd__" ⟨[l, .ref r], []⟩)) _ _ s
  refine wpAny_bind (wpAny_newObj_type ?_)
  refine wpAny_pure ⟨plainId_quiet F.plain_list_iadd _, codeAny_builtin F.entry_list_iadd ?_⟩
  rw [Around.under_plainId F.plain_list_iadd _]
  show wpAny _ A.in1 (Builtin.List.listExtendWith (.ref s.heap.objs.size) (.ref r) (.ref s.heap.objs.size)) _ _ _
  refine wpAny_mono (PySem.W.kdl_extend (A := A) (R := Gath s n P) (s := { s with heap := s.heap.push { cls := .type "list", data := .seq ([] : List Value).toArray } }) S hh (S.keep _ _ hok fun b _ o e => Heap.get?_push_of_some _ e) s.heap.objs.size (Nat.ne_of_gt lt.1) (Nat.ne_of_gt lt.2) _ 0 (Heap.get?_push_size _ rfl)
    (fun h' tk acc c' hk e hi => ⟨rfl, h', tk, acc, c', rfl, fun b o q => hk b o (Nat.ne_of_lt (Heap.lt_size q)) (Heap.get?_push_of_some _ q), e, hi⟩) hn) (fun fin s' h => ?_) (fun e s' h => ?_)
  · cases fin with
    | done f =>
      obtain ⟨e, h', tk, acc, c', rfl, hk, hS', hi⟩ := h
      cases e
      show wpAny _ A (load s.heap.objs.size >>= _) _ _ _
      exact wpAny_bind (wpAny_load hS' (wpAny_pure (hQ h' tk acc hk hi)))
    | again c' =>
      refine ⟨h.1, codeAny_mono h.2 fun rr s'' hr' => ?_⟩
      obtain ⟨rfl, h', tk, acc, c', rfl, hk, hS', hi⟩ := hr'
      show wpAny _ A (load s.heap.objs.size >>= _) _ _ _
      exact wpAny_bind (wpAny_load hS' (wpAny_pure (hQ h' tk acc hk hi)))
  · exact absurd h.1 (by simp)
theorem new_of {Q₁ : Value → Shared → Prop} (S : PySem.W.KdlSrc prog w T r d n P OK) (hh : A.handled = none) (hok : OK s.heap) (hn : n ≤ sizeLine)
    (h : ∀ (h' : Heap) (tk : Nat) (acc : Array Value), (∀ b o, s.heap.get? b = some o → h'.get? b = some o) → ItemsOf P acc n → Q₁ (.ref h'.objs.size) { s with heap := h'.push { cls := .type "tuple", data := .seq acc }, toks := tk }) :
    codeAny (model prog w) A (.call (.builtin "tuple.__new__") ⟨[.type "tuple", .ref r], []⟩) (wants Q₁ E) s := by
  refine codeAny_of_tree ?_
  show wpAny _ A.in1 (do checkBuiltinCall "tuple.__new__" ⟨[.type "tuple", .ref r], []⟩; again (.builtin "tuple.__new__" ⟨[.type "tuple", .ref r], []⟩)) _ _ s
  refine wpAny_bind (wpAny_of_eq (F.newCall_tuple_1 _) (wpAny_pure ⟨plainId_quiet F.plain_tuple_new _, codeAny_builtin F.entry_tuple_new ?_⟩))
  rw [Around.under_plainId F.plain_tuple_new _]
  have hsub := sub_tuple_self
  have hinit := init_tuple_lookup
  have hmh := madeHere_tuple
  have hTI := S.type s hok
  have hnl := S.notList
  have hnt := S.notTuple
  have hh1 : A.in1.handled = none := hh
  wp_walk using wpAny_typeOf hTI, gather (A := A.in1) S hh1 hok hn
  intro h' tk acc hk hacc
  show wpAny _ _ (Builtin.Tuple.tupleExact acc.toList.toArray >>= fun v => ret v) _ _ _
  have e : acc.toList.toArray = acc := by simp
  rw [e]
  unfold Builtin.Tuple.tupleExact
  refine wpAny_bind (wpAny_newObj_type ?_ (by show acc.size ≤ sizeLine; rw [hacc.1]; exact hn))
  exact wpAny_pure (h h' tk acc hk hacc)
theorem call_of {Q : Value → Shared → Prop} (S : PySem.W.KdlSrc prog w T r d n P OK) (hh : A.handled = none) (hok : OK s.heap) (hn : n ≤ sizeLine)
    (hQ : ∀ (h' : Heap) (tk : Nat) (acc : Array Value), (∀ b o, s.heap.get? b = some o → h'.get? b = some o) → ItemsOf P acc n → Q (.ref h'.objs.size) { s with heap := h'.push { cls := .type "tuple", data := .seq acc }, toks := tk }) :
    wpAny (model prog w) A (call (.type "tuple") [.ref r]) Q E s :=
  callType_codes (Q₁ := fun obj s₁ => s₁.TypeIs obj "tuple" ∧ Q obj s₁) F.called_tuple (F.typeCall_tuple_1 _) F.entry_object_init
    (new_of (A := A.in1) S hh hok hn fun h' tk acc hk hacc => ⟨⟨_, Heap.get?_push_size _ rfl, rfl⟩, hQ h' tk acc hk hacc⟩) fun obj s₁ h₁ =>
    ⟨h₁.1, F.args_object_init_2 obj _, object_init_meets F.called_tuple.init.lookup F.called_tuple.made (by decide) prog w A.in1 _ s₁ ⟨h₁.1, rfl, h₁.2⟩⟩
end
/-- tuple(d), d's keys tuples -/
def rTupD : List V → Hp → VK → Prop := fun xs H Q => ∃ d kvs, xs = [V.ref d] ∧ Rd H d (.dT kvs) ∧ ∀ p bs, H p = none → IsKeys H kvs bs → Q (.ref p) (upd H p (.tup (bs.map V.ref)))
theorem call_tuple_dT {X : Cx} (hc : X.calm = true) : CallR X (.type "tuple") rTupD := by
  intro pins s σ H xs us Q I r h
  obtain ⟨d, kvs, rfl, hd, q⟩ := h
  obtain ⟨u, rfl, rx⟩ := r.one
  cases rx
  obtain ⟨z, hs, ks, pr, o, es, ep, ho, hx, hdt, he, hn⟩ := (show ObjOk X.prog X.w H s.heap d (.dT kvs) from hd.ok I.hok)
  have l1 : es.size = ks.length := size_of_entries he
  have l2 : kvs.length = ks.length := Paired.length pr
  refine call_of (kdl_raw hs hx hdt) (I.ok.hd hc) ho (by omega) fun h' tk acc kp it => ?_
  have eb : acc.toList = (ks.map fun x => x.2.1).map Value.ref := by
    rw [List.map_map]
    refine List.ext_getElem? fun j => ?_
    rw [List.getElem?_map]
    have hl : acc.toList.length = ks.length := by rw [Array.length_toList, it.1]; exact l1
    cases hb : ks[j]? with
    | none =>
      have h1 := List.getElem?_eq_none_iff.mp hb
      exact List.getElem?_eq_none (by omega)
    | some b =>
      have hj := (List.getElem?_eq_some_iff.mp hb).1
      have hv := List.getElem?_eq_getElem (l := acc.toList) (i := j) (by omega)
      obtain ⟨en, hen, e2⟩ := it.2 j _ (by rw [← Array.getElem?_toList]; exact hv)
      have qe := entry_at he j
      rw [hen, hb] at qe
      rw [hv, e2, show en = entryOfKey (tupleKind (mixKind X.prog X.w)) b from Option.some.inj qe]
      rfl
  have rv : Vals ((ks.map fun x => x.2.1).map V.ref) acc.toList := by rw [eb]; exact vals_refs _
  have hz : ((ks.map fun x => x.2.1).map V.ref).length ≤ sizeLine := by rw [List.length_map, List.length_map]; omega
  have I1 : Inv X pins σ H { s with heap := h', toks := tk } := I.kept (t' := tk) kp
  refine ⟨.ref h'.objs.size, _, I1.laid (t' := tk) (o := .tup ((ks.map fun x => x.2.1).map V.ref)) (fun b o e => Heap.get?_push_of_some _ e) (Nat.le_refl _) ?_, rfl, q _ _ (I1.hok.fresh (Nat.le_refl _)) (isKeys_of pr)⟩
  refine ⟨hz, acc.toList, rv, ?_⟩
  have e : acc.toList.toArray = acc := by simp
  rw [e]
  exact IsTup.new _ _
end TpD
/-! set(t), t a tuple of tuples of ints with few unlike ones, however many there are -/
namespace SeP
open PySem PySem.Spec PyProof.Rows L2
section
variable {P : Program} {w : World} {A : Around} {E : Value → Shared → Prop} {s : Shared}
/-- a set that is just made -/
abbrev sob (w : World) : Obj := { cls := .type "set", dict := none, data := .set #[] 0 (.fresh 0 0 (!w.params.followText "set-order")) }
/-- fewer than 63 unlike ones -/
def Few (ks : List (Addr × List Int)) : Prop := ∀ L : List (Addr × List Int), (∀ p ∈ L, p ∈ ks) → (L.map (·.2)).Nodup → L.length < 63
/-- the set at S holds what the first i brought -/
def Into (P : Program) (w : World) (ks : List (Addr × List Int)) (S : Addr) (i : Nat) (h : Heap) : Prop := ∃ L es ep t, SetTR P w h S L es ep t ∧ Got ks i L
theorem Into.sub {ks L : List (Addr × List Int)} {i : Nat} (g : Got ks i L) : ∀ p ∈ L, p ∈ ks := fun p hp => List.mem_of_mem_take (g.sub p hp)
theorem Into.keep {ks : List (Addr × List Int)} {S : Addr} {i : Nat} {h0 h h' : Heap} (x : Into P w ks S i h) (hk : ∀ p ∈ ks, IsT P w h0 p.2 p.1) (k0 : ∀ b o, h0.get? b = some o → h'.get? b = some o) (kS : ∀ o, h.get? S = some o → h'.get? S = some o) : Into P w ks S i h' := by
  obtain ⟨L, es, ep, t, R, g⟩ := x
  exact ⟨L, es, ep, t, R.keep (fun o e => kS o e) fun p hp => isT_keep (hk p (Into.sub g p hp)) k0, g⟩
/-- one more -/
theorem Into.add {ks : List (Addr × List Int)} {S : Addr} {i : Nat} {p : Addr × List Int} {Q : Bool → Shared → Prop} (few : Few ks) (x : Into P w ks S i s.heap) (hp : ks[i]? = some p) (hx : IsT P w s.heap p.2 p.1) (hu : A.units < cLine)
    (h : ∀ b h' tk, Heap.SameBut S s.heap h' → Into P w ks S (i + 1) h' → s.toks ≤ tk → Q b { s with heap := h', toks := tk }) : wpAny (model P w) A (setAdd S (.ref p.1)) Q E s := by
  obtain ⟨L, es, ep, t, R, g⟩ := x
  have hl := few L (Into.sub g) R.nd
  unfold setAdd
  refine wpAny_holding ?_
  refine wpAny_bind (wpAny_pyHash_tuple hu hx ?_)
  refine add_at (s := { s with toks := s.toks + (p.2.length + 1) }) R hx hu (by omega) fun b h' L' es' ep' t' hsb R2 c1 c2 => ?_
  refine h b h' _ hsb ⟨L', es', ep', t', R2, ?_⟩ (Nat.le_add_right _ _)
  rcases Classical.em (p.2 ∈ L.map (·.2)) with c | c
  · rw [c1 c]
    exact g.same hp c
  · exact g.more hp (c2 c)
/-- the loop of set.update over a walk of such tuples -/
theorem loop {I : Addr} {fp wr : List Addr} {G : Array GenState → Array GenState → Prop} {n : Nat} {Pv : Nat → Value → Prop} {St : Nat → Shared → Prop} {Z : Result → Shared → Prop}
    (W : WalksS P w A.in1 I fp wr G n Pv St) {S : Addr} (hSf : S ∉ fp) {ks : List (Addr × List Int)} (few : Few ks) (hval : ∀ i v, Pv i v → ∃ p, ks[i]? = some p ∧ v = .ref p.1)
    {h0 : Heap} (hk : ∀ p ∈ ks, IsT P w h0 p.2 p.1) (hS0 : h0.get? S = none) (hw0 : ∀ b ∈ wr, h0.get? b = none) (hu : A.in1.units < cLine) :
    ∀ (m : Nat) (s : Shared), m ≤ n → St (n - m) s → (∀ b o, h0.get? b = some o → s.heap.get? b = some o) → Into P w ks S (n - m) s.heap →
      (∀ s', Moved (S :: wr) G s s' → Into P w ks S n s'.heap → (∀ b o, h0.get? b = some o → s'.heap.get? b = some o) → Z (.ok (.ret .none)) s') →
      codeAny (model P w) A (.builtin "set.update.loop" ⟨[.ref S, .ref I], []⟩) Z s := by
  have hSw : S ∉ wr := fun h => hSf (W.sub _ h)
  have old : ∀ {s s' : Shared}, Moved wr G s s' → (∀ b o, h0.get? b = some o → s.heap.get? b = some o) → ∀ b o, h0.get? b = some o → s'.heap.get? b = some o := fun hm q b o e =>
    hm.heap b o (fun hb => by rw [hw0 b hb] at e; cases e) (q b o e)
  have up : ∀ {s s' : Shared}, Moved wr G s s' → Moved (S :: wr) G s s' := fun hm => hm.mono fun b hb => List.mem_cons_of_mem _ hb
  intro m
  induction m with
  | zero =>
    intro s _ st q x hZ
    refine codeAny_builtin F.entry_set_update_loop ?_
    rw [Around.under_plainId F.plain_set_update_loop _]
    show wpAny _ A.in1 (pyNext (.ref I) >>= _) _ _ s
    refine wpAny_bind (W.done s _ _ st fun s' hm => ?_)
    show wpAny _ A.in1 (ret Value.none) _ _ s'
    exact wpAny_pure (hZ s' (up hm) (x.keep hk (old hm q) fun o e => hm.heap S o hSw e) (old hm q))
  | succ m ih =>
    intro s hmn st q x hZ
    have e1 : n - (m + 1) + 1 = n - m := by omega
    refine codeAny_builtin F.entry_set_update_loop ?_
    rw [Around.under_plainId F.plain_set_update_loop _]
    show wpAny _ A.in1 (pyNext (.ref I) >>= _) _ _ s
    refine wpAny_bind (W.item (n - (m + 1)) s _ _ (by omega) st fun v s' hP st' hm => ?_)
    obtain ⟨p, hp, rfl⟩ := hval _ v hP
    have q' := old hm q
    show wpAny _ A.in1 (holding [Value.ref p.1] (setAdd S (.ref p.1)) >>= _) _ _ s'
    refine wpAny_bind (wpAny_holding ?_)
    refine Into.add few (x.keep hk q' fun o e => hm.heap S o hSw e) hp (isT_keep (hk p (List.mem_of_getElem? hp)) q') hu fun b h' tk sb x2 htk => ?_
    have q2 : ∀ b o, h0.get? b = some o → h'.get? b = some o := fun b o e => (sb.2 b (fun z => by rw [z, hS0] at e; cases e)).trans (q' b o e)
    rw [e1] at x2 st'
    refine wpAny_pure ⟨plainId_quiet F.plain_set_update_loop _, ih _ (by omega) (W.frame _ s' _ _ st' htk fun b hb o e => ?_) q2 x2 fun s'' hm'' x'' q'' => ?_⟩
    · rw [sb.2 b (fun h : b = S => hSf (by rw [← h]; exact hb))]
      exact e
    · refine hZ s'' (Moved.trans W.gtrans ((up hm).then_heap htk fun b o hb e => ?_) hm'') x'' q''
      rw [sb.2 b (fun h : b = S => hb (by rw [h]; exact List.mem_cons_self))]
      exact e
/-- what set(t) leaves -/
def Left (P : Program) (w : World) (s : Shared) (ks : List (Addr × List Int)) (s' : Shared) : Prop := ∃ h' tk, s' = { s with heap := h', toks := tk } ∧ Into P w ks s.heap.objs.size ks.length h' ∧ ∀ b o, s.heap.get? b = some o → h'.get? b = some o
theorem call_set_tup {l : Addr} {items : Array Value} {ks : List (Addr × List Int)} {Q : Value → Shared → Prop} (hh : A.handled = none) (hl : s.heap.IsTuple l items) (hit : items.toList = ks.map fun p => Value.ref p.1)
    (hk : ∀ p ∈ ks, IsT P w s.heap p.2 p.1) (few : Few ks) (hu : A.units + 3 < cLine) (h : ∀ s', Left P w s ks s' → Q (.ref s.heap.objs.size) s') :
    wpAny (model P w) A (call (.type "set") [.ref l]) Q E s := by
  have hisz : items.size = ks.length := by
    have q := congrArg List.length hit
    rw [Array.length_toList, List.length_map] at q
    exact q
  have above : ∀ b, s.heap.objs.size ≤ b → s.heap.get? b = none := fun b hb => by
    cases q : s.heap.get? b with
    | none => rfl
    | some o => exact absurd (Nat.lt_of_lt_of_le (Heap.lt_size q) hb) (Nat.lt_irrefl _)
  obtain ⟨c, tl, hmro⟩ := F.called_set.mro
  have hmade := F.called_set.made
  have hsub := F.called_set.sub
  refine wpAny_call (codeAny_of_tree ?_)
  show wpAny _ _ (callAny (.type "set") _) _ _ _
  refine wpAny_pure ⟨Code.quiet_builtin _ (by decide +kernel), codeAny_builtin F.entry_type_call ?_⟩
  rw [Around.under_plain (weight_type_call_type "set" [.ref l] []) rfl]
  have h1 := F.called_set.notType
  have h2 := F.called_set.canCreate
  have hct := F.typeCall_set_1 (.ref l)
  repeat (any_goals (first | assumption | wp_step))
  refine codeAny_mono (code_set_led1 (.ref l) (E := E) (Q₁ := fun obj s₁ => obj = .ref s.heap.objs.size ∧ s₁ = { s with heap := s.heap.push (sob w) }) ⟨rfl, rfl⟩) fun r s₁ hr => ?_
  cases r with
  | error e => exact hr
  | ok fl =>
    cases fl with
    | ret obj =>
      obtain ⟨rfl, rfl⟩ := hr
      have hS : (s.heap.push (sob w)).get? s.heap.objs.size = some (sob w) := Heap.get?_push_size _ rfl
      have hT : Shared.TypeIs { s with heap := s.heap.push (sob w) } (.ref s.heap.objs.size) "set" := ⟨_, hS, rfl⟩
      have hli := F.called_set.init.lookup
      have hbi := F.called_set.init.bind (.ref s.heap.objs.size)
      repeat (any_goals (first | assumption | wp_step))
      refine codeAny_mono (codeAny_call_builtin (R := wants (fun r s₂ => r = .none ∧ Left P w s ks s₂) E) F.called_set.init.plain F.entry_set_init (check_set_init_1 hT ?_)) fun r₂ s₂ hr₂ => ?_
      · obtain ⟨ol, hol, hcl, nl, hdl⟩ := hl
        obtain ⟨ocls, odict, odata, oslots⟩ := ol
        simp only at hcl hdl
        subst hcl; subst hdl
        have hol' : (s.heap.push (sob w)).get? l = some { cls := .type "tuple", dict := odict, data := .seq items nl, slots := oslots } := Heap.get?_push_of_some _ hol
        have hsls := F.sub_tuple_set
        have hslf := F.sub_tuple_frozenset
        have hne : (Value.type "tuple" == Value.type "dict") = false := by decide
        have hl1 : (s.heap.push (sob w)).IsTuple l items := ⟨_, hol', rfl, nl, rfl⟩
        unfold Builtin.«set.__init__» noKeywords Builtin.Frozenset.updateFrom
        generalize hPI : pyIter = PI
        wp_walk
        subst hPI
        refine wpAny_pyIter_tuple hl1 ?_
        refine wpAny_bind (wpAny_runValue ?_)
        have hlS : l < s.heap.objs.size := Heap.lt_size hol
        have hz1 : (s.heap.push (sob w)).objs.size = s.heap.objs.size + 1 := Heap.size_push ..
        have hW := (Walks.tuple (prog := P) (w := w) (A := A.in1.in1.in1) (by simp [hh]) (s.heap.push (sob w)).objs.size l (by rw [hz1]; exact Nat.ne_of_lt (Nat.lt_succ_of_lt hlS)) items).toS
        have hval : ∀ (i : Nat) (v : Value), items[i]? = some v → ∃ p, ks[i]? = some p ∧ v = .ref p.1 := fun i v hv => by
          have q : items.toList[i]? = some v := by rw [Array.getElem?_toList]; exact hv
          rw [hit, List.getElem?_map] at q
          obtain ⟨p, hp, e⟩ := Option.map_eq_some_iff.mp q
          exact ⟨p, hp, e.symm⟩
        have hget : ((s.heap.push (sob w)).push { cls := .type "tuple_iterator", data := .fields #[.ref l, .int 0 0] }).get? s.heap.objs.size = some (sob w) := Heap.get?_push_of_some _ hS
        refine loop hW (S := s.heap.objs.size) (fun hb => ?_) few hval hk (above _ (Nat.le_refl _)) (fun b hb => above b ?_) hu items.size _ (Nat.le_refl _) ?_ (fun b o e => Heap.get?_push_of_some _ (Heap.get?_push_of_some _ e)) ?_ (fun s' hm x q => ?_)
        · rw [hz1] at hb
          simp only [List.mem_cons, List.mem_singleton, List.not_mem_nil, or_false] at hb
          rcases hb with z | z
          · exact absurd z (Nat.ne_of_lt (Nat.lt_succ_self _))
          · exact absurd z (Nat.ne_of_gt hlS)
        · rw [List.mem_singleton.mp hb, hz1]
          exact Nat.le_succ _
        · rw [Nat.sub_self]
          exact ⟨⟨_, Heap.get?_push_size _ rfl, rfl, rfl⟩, hl1.push _⟩
        · rw [Nat.sub_self]
          exact ⟨[], #[], 0, _, setTR_fresh hget, Got.zero ks⟩
        · obtain ⟨h', g2, d', tk', os'⟩ := s'
          have eg : g2 = s.gens := hm.gens
          have ed : d' = s.drawn := hm.drawn
          have eo : os' = s.os := hm.os
          subst eg; subst ed; subst eo
          show wpAny _ _ _ _ _ _
          refine wpAny_pure ?_
          show wpAny _ _ (ret Value.none) _ _ _
          rw [hisz] at x
          exact wpAny_pure ⟨rfl, h', tk', rfl, x, q⟩
      · cases r₂ with
        | error e => exact hr₂
        | ok fl₂ =>
          cases fl₂ with
          | ret r =>
            obtain ⟨rfl, hL⟩ := hr₂
            have hL0 := id hL
            obtain ⟨h', tk, rfl, hx, hq⟩ := hL
            repeat (any_goals (first | assumption | wp_step))
            exact h _ hL0
          | _ => exact hr₂.elim
    | _ => exact hr.elim
end
/-- set(t), t a tuple of tuples of ints, fewer than 63 of them unlike -/
def rSetTup (K : PySem.W.Frag) (P : Program) (w : World) : List V → Hp → VK → Prop := fun xs H Q => ∃ (l : Addr) (ks : List (Addr × List Int)), xs = [V.ref l] ∧ SqT K H l (ks.map fun p => V.ref p.1) ∧ (∀ p ∈ ks, SqT K H p.1 (p.2.map V.int)) ∧ Few ks ∧
  ∀ a L, H a = none → (∀ p ∈ L, p ∈ ks) → (∀ p ∈ ks, p.2 ∈ L.map (·.2)) → Q (.ref a) (upd H a (SetTO P w a L))
theorem cr_setTup {X : Cx} (hc : X.calm = true) (hu : X.A.units + 64 < cLine) : CallR X (.type "set") (rSetTup X.K X.prog X.w) := by
  intro pins s σ H xs us Q I r h
  obtain ⟨l, ks, rfl, hl, hk, hf, q⟩ := h
  rw [Vals.ref1 r]
  obtain ⟨its, rv, pl, hz⟩ := I.tuple hl
  have hn : H s.heap.objs.size = none := I.hok.fresh (Nat.le_refl _)
  refine call_set_tup (P := X.prog) (w := X.w) (I.ok.hd hc) pl (by simpa using refs_of_vals rv) (fun p hp => I.isT (hk p hp)) hf (by omega) fun s' hL => ?_
  obtain ⟨h', tk, rfl, ⟨L, es, ep, t, R, g⟩, k⟩ := hL
  refine ⟨.ref s.heap.objs.size, upd H s.heap.objs.size (SetTO X.prog X.w s.heap.objs.size L), I.laid (t' := tk) k (Nat.le_refl _) (setTO_new R.t0), rfl, q _ L hn (Into.sub g) fun p hp => ?_⟩
  exact g.all p (by rw [List.take_length]; exact hp)
theorem cr_setTupK {X : Cx} {K : PySem.W.Frag} {P : Program} {w : World} (h1 : X.K = K) (h2 : X.prog = P) (h3 : X.w = w) (hc : X.calm = true) (hu : X.A.units + 64 < cLine) : CallR X (.type "set") (rSetTup K P w) := by
  subst h1 h2 h3
  exact cr_setTup hc hu
end SeP
namespace Lk
open PySem L2
section
variable {K : PySem.W.Frag}
/-! makings as data -/
def dMg (m : Mg) : PyData := .tuple [dN m.1.1, dN m.1.2, dWy m.2]
theorem mg_dp {H : Hp} {v : V} {m : Mg} (h : MgV K H v m) : Dp K H v (dMg m) := by
  obtain ⟨p, q, rfl, h1, h2⟩ := h
  exact .tup (.inl (.inl h1)) (.cons (.int _) (.cons (.int _) (.cons (way_dp ⟨q, rfl, h2⟩) .nil)))
theorem plan_dp {H : Hp} {p : Addr} {B : Bk} {R : List Row} {ms : List Mg} (h : PlanV K H p B R ms) : Dp K H (.ref p) (.tuple (ms.map dMg)) := by
  obtain ⟨vs, h1, h2⟩ := h.v
  exact .tup h1 (pl_dp h2 fun _ _ q => mg_dp q)
theorem mg_lay (m : Mg) : (dMg m).canLay0 = true := by
  obtain ⟨t, b, k⟩ := m
  show (true && (true && ((dWy (b, k)).canLay0 && true))) = true
  rw [wy_lay b k]
  rfl
theorem mgs_lay : ∀ ts : List Mg, PyData.canLayAll0 (ts.map dMg) = true
  | [] => rfl
  | m :: r => by
    show ((dMg m).canLay0 && PyData.canLayAll0 (r.map dMg)) = true
    rw [mgs_lay r, mg_lay m]
    rfl
theorem mg_depth (m : Mg) : (dMg m).depth ≤ 3 := by
  simp only [dMg, dWy, PyData.depthAll, PyData.depth, dN]
  omega
theorem mgs_depth : ∀ R : List Mg, PyData.depthAll (R.map dMg) ≤ 3
  | [] => by decide
  | r :: R => by
    have h1 := mgs_depth R
    have h2 := mg_depth r
    simp only [List.map_cons, PyData.depthAll]
    omega
theorem sh_mg (m : Mg) : SeqAt.shaped (dMg m) = true := by
  unfold SeqAt.shaped
  have h := mg_depth m
  rw [Bool.and_eq_true, decide_eq_true_eq]
  exact ⟨mg_lay m, by omega⟩
theorem sh_mgsT (R : List Mg) : SeqAt.shaped (.tuple (R.map dMg)) = true := by
  unfold SeqAt.shaped
  have h1 := mgs_lay R
  have h2 := mgs_depth R
  rw [Bool.and_eq_true, decide_eq_true_eq]
  exact ⟨h1, by show PyData.depthAll (R.map dMg) + 1 ≤ 64; omega⟩
theorem eqv_mg (m n : Mg) : PyData.eqv (dMg m) (dMg n) = decide (m = n) := by
  obtain ⟨⟨a, b⟩, u⟩ := m
  obtain ⟨⟨c, d⟩, v⟩ := n
  have e : PyData.eqv (dMg ((a, b), u)) (dMg ((c, d), v)) = (decide ((a : Int) = c) && (decide ((b : Int) = d) && (PyData.eqv (dWy u) (dWy v) && true))) := by
    simp only [PyData.eqv, PyData.eqvAll, dMg, dN, int_beq]
  rw [e, eqv_wy, Bool.and_true, ← Bool.decide_and, ← Bool.decide_and]
  refine decide_eq_decide.mpr ⟨?_, fun h => ?_⟩
  · rintro ⟨h1, h2, rfl⟩
    have h1 : a = c := by omega
    have h2 : b = d := by omega
    rw [h1, h2]
  · cases h
    exact ⟨rfl, rfl, rfl⟩
theorem eqv_ths : ∀ L : List Th, PyData.eqv (.tuple (L.map dTh)) (.tuple (L.map dTh)) = true := fun L => by
  have h : ∀ L : List Th, PyData.eqvAll (L.map dTh) (L.map dTh) = true := fun L => by
    induction L with
    | nil => rfl
    | cons t L ih =>
      show (PyData.eqv (dTh t) (dTh t) && PyData.eqvAll (L.map dTh) (L.map dTh)) = true
      rw [ih, eqv_th, decide_eq_true rfl]
      rfl
  exact h L
theorem eqv_mgs : ∀ L : List Mg, PyData.eqv (.tuple (L.map dMg)) (.tuple (L.map dMg)) = true := fun L => by
  have h : ∀ L : List Mg, PyData.eqvAll (L.map dMg) (L.map dMg) = true := fun L => by
    induction L with
    | nil => rfl
    | cons t L ih =>
      show (PyData.eqv (dMg t) (dMg t) && PyData.eqvAll (L.map dMg) (L.map dMg)) = true
      rw [ih, eqv_mg, decide_eq_true rfl]
      rfl
  exact h L
theorem inQ {K : PySem.W.Frag} {X : Cx} (h : X.K = K) (hu : X.A.units + 65 < cLine) : OpR X (compareOp .In) (rInQ K) := by
  subst h
  exact op_inQ hu
/-- what stands through a turn -/
structure LwC (K : PySem.W.Frag) (a : Adr) (H : Hp) (b g x y q t c d : Addr) (B : Bk) (R : List Row) (ms : List Mg) (kvu : List (List Key × V)) : Prop where
  bg : BagAt H b g
  W : BW K a H x y B R
  P : PR K H q t B R
  C : ChoV K H c B R ms
  U : H d = some (.dT kvu)
  k : kvu.map (·.1) = (makM B R).map kt
  nc : c ≠ b ∧ c ≠ g
  nd : d ≠ b ∧ d ≠ g
theorem LwC.fb {a : Adr} {H H' : Hp} {b g x y q t c d : Addr} {B : Bk} {R : List Row} {ms : List Mg} {kvu : List (List Key × V)} (h : LwC K a H b g x y q t c d B R ms kvu) (f : Fb b g H H') (B' : BagAt H' b g) : LwC K a H' b g x y q t c d B R ms kvu :=
  ⟨B', h.W.tk (f.tk h.bg), h.P.tt (f.tt h.bg), h.C.tt (f.tt h.bg) fun _ e => f _ _ h.nc.1 h.nc.2 e, f _ _ h.nd.1 h.nd.2 h.U, h.k, h.nc, h.nd⟩
theorem LwC.same {a : Adr} {H H' : Hp} {b g x y q t c d : Addr} {B : Bk} {R : List Row} {ms : List Mg} {kvu : List (List Key × V)} (h : LwC K a H b g x y q t c d B R ms kvu) (s : Same H H') : LwC K a H' b g x y q t c d B R ms kvu :=
  h.fb (Fb.of s) (h.bg.same s)
theorem LwC.lst {a : Adr} {H : Hp} {b g x y q t c d l : Addr} {B : Bk} {R : List Row} {ms : List Mg} {kvu : List (List Key × V)} {us : List V} {o : HO} (h : LwC K a H b g x y q t c d B R ms kvu) (e : H l = some (.lst us)) (n1 : l ≠ b) (n2 : l ≠ g) : LwC K a (upd H l o) b g x y q t c d B R ms kvu :=
  ⟨h.bg.keep n1 n2, h.W.ti (tt_lst e) (fun b' C dx fs z => by rw [upd_ne (ne_of z e (fun z => nomatch z))]; exact z), h.P.tt (tt_lst e), h.C.tt (tt_lst e) (fun kvs z => by rw [upd_ne (ne_of z e (fun z => nomatch z))]; exact z), by rw [upd_ne (ne_of h.U e (fun z => nomatch z))]; exact h.U, h.k, h.nc, h.nd⟩
/-- lots, in a list -/
def LotsV (K : PySem.W.Frag) (B : Bk) (R : List Row) (H : Hp) (v : V) (ts : List Th) : Prop := ∃ p, v = .ref p ∧ WishV K H p B R ts
theorem LotsV.tt {B : Bk} {R : List Row} {H H' : Hp} {v : V} {ts : List Th} (x : TT K H H') (h : LotsV K B R H v ts) : LotsV K B R H' v ts := by
  obtain ⟨p, e, w⟩ := h
  exact ⟨p, e, w.tt x⟩
theorem unlock_fb {b g d : Addr} {H H' : Hp} {u : HO} {od : Obj} (h : H d = some u) (f : Fb b g (upd H d (.frz od u)) H') : Fb b g H (upd H' d u) := fun c o n1 n2 e => by
  by_cases hc : c = d
  · subst hc
    rw [upd_same]
    rw [h] at e
    exact e
  · rw [upd_ne hc]
    exact f _ _ n1 n2 (by rw [upd_ne hc]; exact e)
def CostOf (B : Bk) (R : List Row) (ms : List Mg) (ts : List Th) (n : Nat) : Prop := ∃ F, F.Nodup ∧ (∀ t, t ∈ F ↔ Rch B R ms ts t) ∧ n = costM B ms F
/-! lots put together by a set -/
def kI (t : Th) : List Int := [(t.1 : Int), (t.2 : Int)]
def thI : List Int → Th
  | [a, b] => (a.toNat, b.toNat)
  | _ => (0, 0)
theorem thI_k (t : Th) : thI (kI t) = t := rfl
theorem pl_ks {H : Hp} : ∀ {us : List V} {U : List Th}, PL (ThV H) us U → ∃ ks : List (Addr × List Int), us = ks.map (fun p => V.ref p.1) ∧ ks.map (·.2) = U.map kI ∧ ∀ p ∈ ks, H p.1 = some (.tup (p.2.map V.int))
  | [], [], _ => ⟨[], rfl, rfl, fun _ h => nomatch h⟩
  | [], _ :: _, h => nomatch h.1
  | _ :: _, [], h => nomatch h.1
  | v :: us, t :: U, h => by
    obtain ⟨q, e, hq⟩ := h.2 0 v t rfl rfl
    obtain ⟨ks, h1, h2, h3⟩ := pl_ks (H := H) (us := us) (U := U) ⟨Nat.succ.inj h.1, fun i w x a b => h.2 (i + 1) w x a b⟩
    refine ⟨(q, kI t) :: ks, by rw [e, h1]; rfl, by rw [List.map_cons, List.map_cons, h2], fun p hp => ?_⟩
    rcases List.mem_cons.mp hp with z | z
    · subst z
      exact hq
    · exact h3 p z
theorem ks_k {ks : List (Addr × List Int)} {U : List Th} (h : ks.map (·.2) = U.map kI) {p : Addr × List Int} (hp : p ∈ ks) : ∃ t ∈ U, p.2 = kI t := by
  have h1 : p.2 ∈ ks.map (·.2) := List.mem_map.mpr ⟨p, hp, rfl⟩
  rw [h] at h1
  obtain ⟨t, ht, e⟩ := List.mem_map.mp h1
  exact ⟨t, ht, e.symm⟩
theorem ks_few {ks L : List (Addr × List Int)} {U M : List Th} (h : ks.map (·.2) = U.map kI) (hU : ∀ t ∈ U, t ∈ M) (hL : ∀ p ∈ L, p ∈ ks) (hn : (L.map (·.2)).Nodup) : L.length ≤ M.length := by
  have h1 := nodup_len hn (L := M.map kI) fun x hx => by
    obtain ⟨p, hp, rfl⟩ := List.mem_map.mp hx
    obtain ⟨t, ht, e⟩ := ks_k h (hL p hp)
    rw [e]
    exact List.mem_map.mpr ⟨t, hU t ht, rfl⟩
  rw [List.length_map, List.length_map] at h1
  exact h1
theorem srt_set {H : Hp} {ks L L' : List (Addr × List Int)} {U : List Th} (h1 : ks.map (·.2) = U.map kI) (hk : ∀ p ∈ ks, H p.1 = some (.tup (p.2.map V.int))) (hL : ∀ p ∈ L, p ∈ ks) (hL2 : ∀ p ∈ ks, p.2 ∈ L.map (·.2)) (pm : L'.Perm L) (nd : (L'.map (·.2)).Nodup) (pw : L'.Pairwise (fun q r => TS.code 64 q.2 ≤ TS.code 64 r.2)) (hb : ∀ t ∈ U, t.1 < 64 ∧ t.2 < 64) :
    ∃ T, T.Pairwise ltT ∧ (∀ t, t ∈ T ↔ t ∈ U) ∧ PL (ThV H) (L'.map fun q => V.ref q.1) T := by
  have hk' : ∀ p ∈ L', ∃ t ∈ U, p.2 = kI t := fun p hp => ks_k h1 (hL p (pm.mem_iff.mp hp))
  refine ⟨L'.map fun p => thI p.2, ?_, fun t => ?_, ?_, fun i v x a b => ?_⟩
  · rw [List.pairwise_map]
    have nd' : L'.Pairwise fun q r => q.2 ≠ r.2 := List.pairwise_map.mp nd
    refine List.Pairwise.imp_of_mem ?_ (pw.and nd')
    intro q r hq hr z
    obtain ⟨t, ht, e1⟩ := hk' q hq
    obtain ⟨u, hu, e2⟩ := hk' r hr
    obtain ⟨z1, z2⟩ := z
    rw [e1, e2] at z1 z2
    rw [e1, e2, thI_k, thI_k]
    have b1 := hb t ht
    have b2 := hb u hu
    have := pair_lt z1 z2 (by omega) (by omega) (by omega) (by omega)
    unfold ltT
    omega
  · constructor
    · intro h
      obtain ⟨p, hp, rfl⟩ := List.mem_map.mp h
      obtain ⟨u, hu, e⟩ := hk' p hp
      show thI p.2 ∈ U
      rw [e, thI_k]
      exact hu
    · intro h
      have h2 : kI t ∈ ks.map (·.2) := by
        rw [h1]
        exact List.mem_map.mpr ⟨t, h, rfl⟩
      obtain ⟨p, hp, e⟩ := List.mem_map.mp h2
      obtain ⟨p', hp', e'⟩ := List.mem_map.mp (hL2 p hp)
      refine List.mem_map.mpr ⟨p', pm.mem_iff.mpr hp', ?_⟩
      show thI p'.2 = t
      rw [e', e, thI_k]
  · rw [List.length_map, List.length_map]
  · rw [List.getElem?_map] at a b
    obtain ⟨p, hp, rfl⟩ := Option.map_eq_some_iff.mp a
    rw [hp] at b
    cases b
    have hm := hL p (pm.mem_iff.mp (List.mem_of_getElem? hp))
    obtain ⟨t, ht, e⟩ := ks_k h1 hm
    refine ⟨p.1, rfl, ?_⟩
    have h3 := hk p hm
    rw [e] at h3
    show H p.1 = some (.tup [nv (thI p.2).1, nv (thI p.2).2])
    rw [e, thI_k]
    exact h3
end
end Lk
namespace Lk
open PySem L2
section
variable {P : Program} {w : World} {K : PySem.W.Frag} {mg : Str → Option Value} {base : Heap} {a : Adr}
theorem iteF' {b : Bool} {A C : Prop} (h : b = false) (k : C) : if b = true then A else C := by
  rw [if_neg (by rw [h]; exact Bool.false_ne_true)]
  exact k
def spLaw (K : PySem.W.Frag) : Sp := fun vs H Q _ => ∃ (p : Addr) (ns : List Int), vs = [.ref p] ∧ SqL K H p (ns.map V.int) ∧ ns.length ≤ 63 ∧ ∀ H', Q (.bl true) H'
theorem ok_law (T : Txt K mg a) : FnOk P w K mg base CX0 16 a.f_law a.d_law ["_law_script"] (spLaw K) := by
  have G_law_bag := ok_law_bag (P := P) (w := w) (base := base) T
  have G_law_pick := ok_law_pick (P := P) (w := w) (base := base) T
  have G_law_book := ok_law_book (P := P) (w := w) (base := base) T
  have G_law_values := ok_law_values (P := P) (w := w) (base := base) T
  have G_law_usable := ok_law_usable (P := P) (w := w) (base := base) T
  have G_Book_init := ok_Book_init (P := P) (w := w) (base := base) T
  have G_Web_init := ok_Web_init (P := P) (w := w) (base := base) T
  have G_law_drawn_choice := ok_law_drawn_choice (P := P) (w := w) (base := base) T
  have G_law_needed := ok_law_needed (P := P) (w := w) (base := base) T
  have G_needed := ok_needed (P := P) (w := w) (base := base) T
  have G_plan_by := ok_plan_by (P := P) (w := w) (base := base) T
  have G_law_plan := ok_law_plan (P := P) (w := w) (base := base) T
  have G_is_plan := ok_is_plan (P := P) (w := w) (base := base) T
  have G_cost := ok_cost (P := P) (w := w) (base := base) T
  have G_law_cost := ok_law_costD (P := P) (w := w) (base := base) T
  have G_law_costL := ok_law_costL (P := P) (w := w) (base := base) T
  have G_price := ok_price (P := P) (w := w) (base := base) T
  refine T.F_law.ok sc_law (fun vs H Q E h => ?_) (fun cdv A outer s H vs Q E hr h => ?_)
  · obtain ⟨p, ns, rfl, _⟩ := h
    rfl
  obtain ⟨p, ns, rfl, hS, hn, k⟩ := h
  refine ⟨_, (pss_cons (ps_set (i := 1) sc_law.nd rfl (Or.inr rfl) (pe_call G_law_bag (hr.mono (by decide)) rfl T.g_law_bag T.k_law_bag T.b_law_bag .nil pass0 (pa_cons (pv 0) pa_nil)))
  (pss_cons (ps_for PassesOwn.never rfl (pi_range1 rfl T.z_range (pa_cons pe_int pa_nil)) (pg_name (i := 2) sc_law.nd rfl (Or.inl rfl))
    (pss_cons (ps_set (i := 3) sc_law.nd rfl (Or.inl rfl) (pe_call G_law_book (hr.mono (by decide)) rfl T.g_law_book T.k_law_book T.b_law_book .nil pass0 (pa_cons (pv 1) (pa_cons (pe_op op_add pe_int (pe_call G_law_pick (hr.mono (by decide)) rfl T.g_law_pick T.k_law_pick T.b_law_pick .nil pass0 (pa_cons (pv 1) (pa_cons pe_int pa_nil)))) (pa_cons (pe_op op_add pe_int (pe_call G_law_pick (hr.mono (by decide)) rfl T.g_law_pick T.k_law_pick T.b_law_pick .nil pass0 (pa_cons (pv 1) (pa_cons pe_int pa_nil)))) (pa_cons pe_int pa_nil))))))
  (pss_cons (ps_set (i := 4) sc_law.nd rfl (Or.inl rfl) (pe_call G_law_values (hr.mono (by decide)) rfl T.g_law_values T.k_law_values T.b_law_values .nil pass0 (pa_cons (pv 1) (pa_cons (pe_ix ix_tup (pv 3) pe_int (fun _ _ => rfl)) (pa_cons (pe_op op_add pe_int (pe_call G_law_pick (hr.mono (by decide)) rfl T.g_law_pick T.k_law_pick T.b_law_pick .nil pass0 (pa_cons (pv 1) (pa_cons pe_int pa_nil)))) pa_nil)))))
  (pss_cons (ps_set (i := 5) sc_law.nd rfl (Or.inl rfl) (pe_call G_law_usable (hr.mono (by decide)) rfl T.g_law_usable T.k_law_usable T.b_law_usable .nil pass0 (pa_cons (pv 3) (pa_cons (pv 4) pa_nil))))
  (pss_cons (ps_asg (pe_tup (pa_cons (pe_make T.M_Book G_Book_init (hr.mono (by decide)) rfl T.g_Book T.b_Book_init .nil pass0 (pa_cons (pe_ix ix_tup (pv 3) pe_int (fun _ _ => rfl)) (pa_cons (pe_ix ix_tup (pv 3) pe_int (fun _ _ => rfl)) (pa_cons (pe_ix ix_tup (pv 3) pe_int (fun _ _ => rfl)) (pa_cons (pe_ix ix_tup (pv 3) pe_int (fun _ _ => rfl)) pa_nil))))) (pa_cons (pe_make T.M_Web G_Web_init (hr.mono (by decide)) rfl T.g_Web T.b_Web_init .nil pass0 (pa_cons (pv 4) pa_nil)) pa_nil))) (pg_tup (by rfl) (pgs_cons (pg_name (i := 6) sc_law.nd rfl (Or.inr rfl)) (pgs_cons (pg_name (i := 7) sc_law.nd rfl (Or.inr rfl)) pgs_nil))))
  (pss_cons (ps_set (i := 8) sc_law.nd rfl (Or.inr rfl) (pe_call G_law_drawn_choice (hr.mono (by decide)) rfl T.g_law_drawn_choice T.k_law_drawn_choice T.b_law_drawn_choice .nil pass0 (pa_cons (pv 1) (pa_cons (pv 3) (pa_cons (pv 4) (pa_cons (pv 5) pa_nil))))))
  (pss_cons (ps_set (i := 9) sc_law.nd rfl (Or.inl rfl) (pe_lst (pa_cons (pe_tup pa_nil) (pa_cons (pe_callTy (TpD.call_tuple_dT rfl) (by rfl) T.z_tuple (by decide +kernel) (pa_cons (pv 5) pa_nil)) pa_nil))))
  (pss_cons (ps_for PassesOwn.never rfl (pi_range1 rfl T.z_range (pa_cons pe_int pa_nil)) (pg_name (i := 10) sc_law.nd rfl (Or.inl rfl))
    (pss_one (ps_expr (pe_bm PySem.F.plainAttrs_list PySem.F.slot_list_append PySem.F.type_list_append mt_append (pv 9) (pa_cons (pe_callTy call_tuple_of (by rfl) T.z_tuple (by decide +kernel) (pa_cons (pe_lock (pe_lc (own := [("_law_thing", 21)]) (g := gName 21) (tt := _) rfl sc_law.nd (pi_keys (pv 5)) (blkOk_by (N := ["_law_script", "_law_bag_here", "_law_turn", "_law_parts", "_law_values_here", "_law_usable_here", "_law_book_here", "_law_web", "_law_choice", "_law_lots", "_law_again", "_law_costs", "_law_lot", "_law_due", "_law_told", "_law_plan_here", "_law_paid", "_law_one", "_law_other", "_law_both", "_law_shared", "_law_thing"]) (sc := defScope s_law) (by decide +kernel)) (fun _ _ _ _ _ => pg_name (i := 21) sc_law.nd rfl (Or.inl rfl)) (fun _ _ _ _ _ => (pts_one (pt_cmpR op_eq (pe_call G_law_pick (hr.mono (by decide)) rfl T.g_law_pick T.k_law_pick T.b_law_pick .nil pass0 (pa_cons (pv 1) (pa_cons pe_int pa_nil))) pe_int (nomark _)))) (fun _ _ _ _ _ => pv 21))) pa_nil)) pa_nil)))))
  (pss_cons (ps_set (i := 11) sc_law.nd rfl (Or.inl rfl) (pe_lst pa_nil))
  (pss_cons (ps_for PassesOwn.never rfl (pi_list (pv 9)) (pg_name (i := 12) sc_law.nd rfl (Or.inl rfl))
    (pss_cons (ps_set (i := 13) sc_law.nd rfl (Or.inl rfl) (pe_call G_law_needed (hr.mono (by decide)) rfl T.g_law_needed T.k_law_needed T.b_law_needed .nil pass0 (pa_cons (pv 3) (pa_cons (pv 4) (pa_cons (pv 8) (pa_cons (pv 12) pa_nil))))))
  (pss_cons (ps_set (i := 14) sc_law.nd rfl (Or.inl rfl) (pe_call G_needed (hr.mono (by decide)) rfl T.g_needed T.k_needed T.b_needed .nil pass0 (pa_cons (pv 6) (pa_cons (pv 7) (pa_cons (pv 8) (pa_cons (pv 12) pa_nil))))))
  (pss_cons (ps_if (PW.pt (pw_or (pt_cmpR (op_neD hr.units) (pv 14) (pe_callTy call_tuple_of (by rfl) T.z_tuple (by decide +kernel) (pa_cons (pe_callB cr_sortedPO (by rfl) T.z_sorted (by decide +kernel) (pa_cons (pe_callTy (call_list_dT rfl) (by rfl) T.z_list (by decide +kernel) (pa_cons (pv 13) pa_nil)) pa_nil)) pa_nil)) (nomark _)) (pw_or1 (pt_not (pt_val (pe_callB call_isi (by rfl) T.z_isinstance (by decide +kernel) (pa_cons (pv 14) (pa_cons (pe_bltn (v := .ty "tuple") rfl T.z_tuple (show bootBuiltins "tuple" = some (.type "tuple") by decide +kernel) rfl) pa_nil))))))))
    (pss_one (ps_ret pe_bl))
    pss_nil)
  (pss_cons (ps_set (i := 15) sc_law.nd rfl (Or.inl rfl) (pe_call G_plan_by (hr.mono (by decide)) rfl T.g_plan_by T.k_plan_by T.b_plan_by .nil pass0 (pa_cons (pv 6) (pa_cons (pv 7) (pa_cons (pv 8) (pa_cons (pv 12) pa_nil))))))
  (pss_cons (ps_if (PW.pt (pw_or (pt_cmpR (op_neD hr.units) (pv 15) (pe_call G_law_plan (hr.mono (by decide)) rfl T.g_law_plan T.k_law_plan T.b_law_plan .nil pass0 (pa_cons (pv 3) (pa_cons (pv 4) (pa_cons (pv 8) (pa_cons (pv 13) pa_nil))))) (nomark _)) (pw_or1 (pt_cmpR op_notBl (pe_call G_is_plan (hr.mono (by decide)) rfl T.g_is_plan T.k_is_plan T.b_is_plan .nil pass0 (pa_cons (pv 6) (pa_cons (pv 7) (pa_cons (pv 12) (pa_cons (pv 15) pa_nil))))) pe_bl (nomark _)))))
    (pss_one (ps_ret pe_bl))
    pss_nil)
  (pss_cons (ps_set (i := 16) sc_law.nd rfl (Or.inl rfl) (pe_call G_cost (hr.mono (by decide)) rfl T.g_cost T.k_cost T.b_cost .nil pass0 (pa_cons (pv 6) (pa_cons (pv 7) (pa_cons (pv 8) (pa_cons (pv 12) pa_nil))))))
  (pss_cons (ps_if (PW.pt (pw_or (pt_cmpR op_ne (pv 16) (pe_call G_law_cost (hr.mono (by decide)) rfl T.g_law_cost T.k_law_cost T.b_law_cost .nil pass0 (pa_cons (pv 3) (pa_cons (pv 8) (pa_cons (pv 13) pa_nil)))) (nomark _)) (pw_or (pt_val (pe_callB call_isi (by rfl) T.z_isinstance (by decide +kernel) (pa_cons (pv 16) (pa_cons (pe_bltn (v := .ty "bool") rfl T.z_bool (show bootBuiltins "bool" = some (.type "bool") by decide +kernel) rfl) pa_nil)))) (pw_or1 (pt_cmpR op_ne (pe_call G_price (hr.mono (by decide)) rfl T.g_price T.k_price T.b_price .nil pass0 (pa_cons (pv 6) (pa_cons (pv 7) (pa_cons (pv 15) pa_nil)))) (pv 16) (nomark _))))))
    (pss_one (ps_ret pe_bl))
    pss_nil)
  (pss_one (ps_expr (pe_bm PySem.F.plainAttrs_list PySem.F.slot_list_append PySem.F.type_list_append mt_append (pv 11) (pa_cons (pv 16) pa_nil))))))))))))
  (pss_cons (ps_asg (pe_tup (pa_cons (pe_ix ix_list (pv 9) pe_int (fun _ _ => rfl)) (pa_cons (pe_ix ix_list (pv 9) pe_int (fun _ _ => rfl)) pa_nil))) (pg_tup (by rfl) (pgs_cons (pg_name (i := 17) sc_law.nd rfl (Or.inl rfl)) (pgs_cons (pg_name (i := 18) sc_law.nd rfl (Or.inr rfl)) pgs_nil))))
  (pss_cons (ps_set (i := 19) sc_law.nd rfl (Or.inl rfl) (pe_callTy call_tuple_of (by rfl) T.z_tuple (by decide +kernel) (pa_cons (pe_callB (cr_sortedT rfl) (by rfl) T.z_sorted (by decide +kernel) (pa_cons (pe_callTy (SeP.cr_setTupK (K := K) (P := P) (w := w) rfl rfl rfl rfl hr.units) (by rfl) T.z_set (by decide +kernel) (pa_cons (pe_op (catAK (K := K) rfl) (pv 17) (pv 18)) pa_nil)) pa_nil)) pa_nil)))
  (pss_cons (ps_setLc (i := 20) (own := [("_law_thing", 21)]) (g := gName 21) (tt := _) rfl sc_law.nd rfl rfl (sw_true rfl rfl rfl (by decide +kernel)) (pi_tup (pe_call G_needed (hr.mono (by decide)) rfl T.g_needed T.k_needed T.b_needed .nil pass0 (pa_cons (pv 6) (pa_cons (pv 7) (pa_cons (pv 8) (pa_cons (pv 17) pa_nil)))))) (blkOk_by (N := ["_law_script", "_law_bag_here", "_law_turn", "_law_parts", "_law_values_here", "_law_usable_here", "_law_book_here", "_law_web", "_law_choice", "_law_lots", "_law_again", "_law_costs", "_law_lot", "_law_due", "_law_told", "_law_plan_here", "_law_paid", "_law_one", "_law_other", "_law_both", "_law_shared", "_law_thing"]) (sc := defScope s_law) (by decide +kernel)) (fun _ _ _ _ _ => pg_name (i := 21) sc_law.nd rfl (Or.inl rfl)) (fun _ _ _ _ _ => (pts_one (pt_cmpR (inQ (K := K) rfl (u65 hr)) (pv 21) (pe_call G_needed (hr.mono (by decide)) rfl T.g_needed T.k_needed T.b_needed .nil pass0 (pa_cons (pv 6) (pa_cons (pv 7) (pa_cons (pv 8) (pa_cons (pv 18) pa_nil))))) rfl))) (fun _ _ _ _ _ => pv 21))
  (pss_cons (ps_if (pt_cmpR op_ne (pe_call G_cost (hr.mono (by decide)) rfl T.g_cost T.k_cost T.b_cost .nil pass0 (pa_cons (pv 6) (pa_cons (pv 7) (pa_cons (pv 8) (pa_cons (pv 19) pa_nil))))) (pe_op op_sub (pe_op op_add (pe_ix ix_list (pv 11) pe_int (fun _ _ => rfl)) (pe_ix ix_list (pv 11) pe_int (fun _ _ => rfl))) (pe_call G_law_costL (hr.mono (by decide)) rfl T.g_law_cost T.k_law_cost T.b_law_cost .nil pass0 (pa_cons (pv 3) (pa_cons (pv 8) (pa_cons (pv 20) pa_nil))))) (nomark _))
    (pss_one (ps_ret pe_bl))
    pss_nil)
  (pss_one (ps_if (pt_not (pt_chain op_le op_le (pe_callB (call_max2 rfl) (by rfl) T.z_max (by decide +kernel) (pa_cons (pe_ix ix_list (pv 11) pe_int (fun _ _ => rfl)) (pa_cons (pe_ix ix_list (pv 11) pe_int (fun _ _ => rfl)) pa_nil))) (pe_call G_cost (hr.mono (by decide)) rfl T.g_cost T.k_cost T.b_cost .nil pass0 (pa_cons (pv 6) (pa_cons (pv 7) (pa_cons (pv 8) (pa_cons (pv 19) pa_nil))))) (pe_ix ix_list (pv 11) pe_int (fun _ _ => rfl))))
    (pss_one (ps_ret pe_bl))
    pss_nil))))))))))))))))
  (pss_one (ps_ret pe_bl)))), ?_⟩
  refine ⟨_, rfl, p, ns, rfl, hS, hn, fun b g H1 s1 _ _ B1 => ?_⟩
  refine ⟨_, rfl, by decide, by decide, for_range (lo := 0) (n := 3) (fun i σ H' => ∃ v2 v3 v4 v5 v6 v7 v8 v9 v10 v11 v12 v13 v14 v15 v16 v17 v18 v19 v20, σ = [some (.ref p), some (.ref b), v2, v3, v4, v5, v6, v7, v8, v9, v10, v11, v12, v13, v14, v15, v16, v17, v18, v19, v20, none] ∧ BagAt H' b g) ⟨none, none, none, none, none, none, none, none, none, none, none, none, none, none, none, none, none, none, none, rfl, B1⟩ ?_ ?_⟩
  · rintro i σ H2 hi ⟨v2, v3, v4, v5, v6, v7, v8, v9, v10, v11, v12, v13, v14, v15, v16, v17, v18, v19, v20, rfl, B2⟩
    rw [nv0]
    -- parts
    refine ⟨_, rfl, _, rfl, b, g, 4, rfl, by decide, by decide, B2, fun r1 H3 hr1 B3 f3 => ⟨_, _, rfl, rfl, _, rfl, b, g, 4, rfl, by decide, by decide, B3, fun r2 H4 hr2 B4 f4 => ⟨_, _, rfl, rfl, ?_⟩⟩⟩
    dsimp only
    refine ⟨b, g, 2 + r1, 2 + r2, 1000, ?_, by omega, by omega, by omega, by omega, by decide, by decide, B4, fun q Bk H5 f5 B5 hP5 gB hnk hal ha0 => ?_⟩
    · rw [show V.int ((2 : Int) + (r1 : Int)) = nv (2 + r1) from nv1 2 r1, show V.int ((2 : Int) + (r2 : Int)) = nv (2 + r2) from nv1 2 r2]
      rfl
    obtain ⟨pa, pr, pm, hq5, ha5, hr5, hm5⟩ := id hP5
    -- values
    refine ⟨_, rfl, _, rfl, q, _, _, _, rfl, rfl, hq5, rfl, _, rfl, b, g, 8, rfl, by decide, by decide, B5, fun r3 H6 hr3 B6 f6 => ⟨_, _, rfl, rfl, ?_⟩⟩
    dsimp only
    have T6 : TT K H5 H6 := f6.tt B5
    refine ⟨b, g, pa, Bk.ar, 2 + r3, ?_, T6.t _ _ ha5, gB.a1, gB.a2, gB.a3, ha0, by omega, by omega, B6, fun t R H7 f7 B7 hT7 gR fA lR => ?_⟩
    · rw [show V.int ((2 : Int) + (r3 : Int)) = nv (2 + r3) from nv1 2 r3]
      rfl
    have T7 : TT K H5 H7 := T6.trans (f7.tt B6)
    have VP7 : PR K H7 q t Bk R := ⟨hP5.tt T7, hT7, gB, gR, fA, by omega⟩
    -- usable
    refine ⟨_, rfl, _, rfl, q, t, Bk, R, rfl, VP7, fun d kvu H8 s8 hd7 ed gd hfr => ?_⟩
    obtain ⟨nd1, nd2⟩ := B7.ne hd7
    have T8 : TT K H5 H8 := T7.trans (Same_tt s8)
    have hq8 := T8.t _ _ hq5
    -- Book(..), Web(..)
    refine ⟨_, rfl, q, _, _, _, rfl, rfl, hq8, rfl, _, rfl, q, _, _, _, rfl, rfl, hq8, rfl, _, rfl, q, _, _, _, rfl, rfl, hq8, rfl, _, rfl, q, _, _, _, rfl, rfl, hq8, rfl, ?_⟩
    intro x dx hx hdx ne
    have sA : Same H8 (upd (upd H8 dx (.own x)) x (.ins a.c_Book dx [])) := (same_new hdx).trans (same_new (by rw [upd_ne ne.symm]; exact hx))
    refine ⟨x, dx, pa, pr, pm, Bk, rfl, upd_same, (Tk.of sA).t (T8.t _ _ ha5), (hr5.tt T8).tt (Same_tt sA), (hm5.tt T8).tt (Same_tt sA), gB, fun H9 kp e9 => ⟨rfl, ?_⟩⟩
    have sB : Same H8 H9 := fun b o e => kp b o (sA b o e) (ne_of_none e hx)
    refine ⟨_, rfl, ?_⟩
    intro y dy hy hdy ne2
    have sC : Same H9 (upd (upd H9 dy (.own y)) y (.ins a.c_Web dy [])) := (same_new hdy).trans (same_new (by rw [upd_ne ne2.symm]; exact hy))
    refine ⟨y, dy, t, R, rfl, upd_same, (hT7.tt (Same_tt (s8.trans sB))).tt (Same_tt sC), gR, by omega, fun H10 kp2 e10 => ⟨rfl, ?_⟩⟩
    have sD : Same H9 H10 := fun b o e => kp2 b o (sC b o e) (ne_of_none e hy)
    have S10 : Same H8 H10 := sB.trans sD
    have S710 : Same H7 H10 := s8.trans S10
    have T10 : TT K H5 H10 := T8.trans (Same_tt S10)
    have W : BW K a H10 x y Bk R := ⟨⟨dx, pa, pr, pm, sD _ _ e9, T10.t _ _ ha5, hr5.tt T10, hm5.tt T10⟩, ⟨dy, t, e10, hT7.tt (Same_tt S710)⟩, gB, gR, fA, by omega⟩
    refine ⟨(by decide : 2 ≤ sizeLine), fun cc hcc => ?_⟩
    have sE := same_new (o := .tup [.ref x, .ref y]) hcc
    refine ⟨cc, _, rfl, .inl (.inl upd_same), rfl, _, _, rfl, _, _, rfl, rfl, ?_⟩
    have S11 := S710.trans sE
    have W11 := W.same sE
    generalize upd H10 cc (.tup [.ref x, .ref y]) = H11 at sE S11 W11
    have VP11 := VP7.tt (Same_tt S11)
    have B11 := B7.same S11
    have ed11 := (S10.trans sE) _ _ ed
    have gd11 := gd.tl (TL.of (S10.trans sE))
    -- the choice
    refine ⟨_, rfl, _, rfl, _, rfl, _, rfl, b, g, q, t, d, Bk, R, kvu, rfl, B11, VP11, ed11, gd11, nd1, nd2, fun t l h => B7.ne (hfr t l h), fun c ms H12 f12 B12 hc12 Ch => ?_⟩
    obtain ⟨nc1, nc2⟩ := B11.ne hc12
    have C12 : LwC K a H12 b g x y q t c d Bk R ms kvu := ⟨B12, W11.tk (f12.tk B11), VP11.tt (f12.tt B11), Ch, f12 _ _ nd1 nd2 ed11, gd.ks, ⟨nc1, nc2⟩, ⟨nd1, nd2⟩⟩
    -- the lots
    refine ⟨(by decide : 0 ≤ sizeLine), fun p0 hp0 => ?_⟩
    have S0 := same_new (o := .tup []) hp0
    have C13 := C12.same S0
    have e0 : (upd H12 p0 (.tup [])) p0 = some (.tup []) := upd_same
    generalize upd H12 p0 (.tup []) = H13 at S0 C13 e0
    refine ⟨_, rfl, d, kvu, rfl, .inl C13.U, fun pu bs hpu hbs => ?_⟩
    have S1 := same_new (o := .tup (bs.map V.ref)) hpu
    have C14 := C13.same S1
    have hu14 : WishV K (upd H13 pu (.tup (bs.map V.ref))) pu Bk R (makM Bk R) := ⟨⟨bs.map V.ref, .inl (.inl upd_same), (keys_thsK C13.k hbs).mono fun _ _ q => q.tt (K := K) (tt_new hpu)⟩, asc_makM, fun t ht => (mem_makM gB).mp ht⟩
    have h014 : WishV K (upd H13 pu (.tup (bs.map V.ref))) p0 Bk R [] := ⟨⟨[], .inl (.inl (S1 _ _ e0)), PL.nil⟩, List.Pairwise.nil, fun _ h => nomatch h⟩
    generalize upd H13 pu (.tup (bs.map V.ref)) = H14 at S1 C14 hu14 h014
    refine ⟨(by decide : 2 ≤ sizeLine), fun ll hll => ?_⟩
    obtain ⟨nl1, nl2⟩ := C14.bg.ne hll
    have S2 := same_new (o := .lst [.ref p0, .ref pu]) hll
    have C15 := C14.same S2
    have L15 : (upd H14 ll (.lst [.ref p0, .ref pu])) ll = some (.lst [.ref p0, .ref pu]) := upd_same
    have hp15 : PL (LotsV K Bk R (upd H14 ll (.lst [.ref p0, .ref pu]))) [.ref p0, .ref pu] [[], makM Bk R] := (PL.one (P := LotsV K Bk R (upd H14 ll (.lst [.ref p0, .ref pu]))) (v := .ref p0) (x := []) ⟨p0, rfl, h014.tt (Same_tt S2)⟩).app (PL.one ⟨pu, rfl, hu14.tt (Same_tt S2)⟩)
    generalize upd H14 ll (.lst [.ref p0, .ref pu]) = H15 at S2 C15 L15 hp15
    refine ⟨_, rfl, by decide, by decide, for_range (lo := 0) (n := 3) (fun j σ H' => ∃ v10 us Ts, σ = [some (.ref p), some (.ref b), some (nv i), some (.ref q), some (.ref t), some (.ref d), some (.ref x), some (.ref y), some (.ref c), some (.ref ll), v10, v11, v12, v13, v14, v15, v16, v17, v18, v19, v20, none] ∧ LwC K a H' b g x y q t c d Bk R ms kvu ∧ H' ll = some (.lst us) ∧ PL (LotsV K Bk R H') us Ts ∧ Ts.length = 2 + j ∧ Ts[1]? = some (makM Bk R)) ⟨v10, _, _, rfl, C15, L15, hp15, rfl, rfl⟩ ?_ ?_⟩
    · rintro j σ H16 hj ⟨v10, us, Ts, rfl, C16, L16, hp16, hT, hT1⟩
      rw [nv0]
      refine ⟨_, rfl, .inl ⟨rfl, _, SqL.of L16⟩, ?_⟩
      refine ⟨d, _, C16.U, trivial, fun od => ?_⟩
      have ufb : ∀ {H'}, Fb b g (upd H16 d (.frz od (.dT kvu))) H' → Fb b g H16 (upd H' d (.dT kvu)) := fun f => unlock_fb C16.U f
      have BL : BagAt (upd H16 d (.frz od (.dT kvu))) b g := C16.bg.keep nd1 nd2
      have eF : (upd H16 d (.frz od (.dT kvu))) d = some (.frz od (.dT kvu)) := upd_same
      generalize upd H16 d (.frz od (.dT kvu)) = HL at ufb BL eF
      refine ⟨_, rfl, d, od, rfl, .inr ⟨_, eF, fun D hD => ?_⟩⟩
      obtain ⟨nD1, nD2⟩ := BL.ne hD
      have nDd : D ≠ d := fun e => by
        rw [e, eF] at hD
        cases hD
      have hlM : (makM Bk R).length ≤ 1000 := by
        have h1 := makM_len (B := Bk) (R := R)
        have h2 : R.length * Bk.nk ≤ 200 * 5 := Nat.mul_le_mul (by omega) gB.k2
        omega
      refine lc_it walk_keysT (fun n H' => Fb b g HL H' ∧ BagAt H' b g ∧ ∃ xs ts, H' D = some (.lst xs) ∧ PL (ThV H') xs ts ∧ ts.Sublist ((makM Bk R).take n)) ⟨Fb.of (same_new hD), BL.new hD, [], [], upd_same, PL.nil, List.Sublist.refl _⟩ (fun n H' _ z => z.1 _ _ nd1 nd2 eF) (fun n v Hx H17 hn' z hy => ?_) (fun H17 z => ?_)
      · obtain ⟨f17, B17, xs, ts, eD, hts, hsub⟩ := z
        obtain ⟨rfl, ky, vy, q', hkv, rfl, hq'⟩ := hy
        obtain ⟨t', ht', rfl⟩ : ∃ t', (makM Bk R)[n]? = some t' ∧ ky = kt t' := by
          have h1 : (kvu.map (·.1))[n]? = some ky := by rw [List.getElem?_map, hkv]; rfl
          rw [C16.k, List.getElem?_map] at h1
          obtain ⟨t', h2, h3⟩ := Option.map_eq_some_iff.mp h1
          exact ⟨t', h2, h3.symm⟩
        have hnl := (List.getElem?_eq_some_iff.mp ht').1
        have e1 : (makM Bk R).take (n + 1) = (makM Bk R).take n ++ [t'] := by
          rw [List.take_add_one, ht']
          rfl
        have hq' : H17 q' = some (.tup [nv t'.1, nv t'.2]) := hq'
        refine ⟨rfl, ?_⟩
        refine ⟨_, rfl, b, g, 3, rfl, by decide, by decide, B17, fun r4 H18 hr4 B18 f18 => ⟨rfl, _, rfl, ite2 (fun _ => ?_) (fun _ => ?_)⟩⟩
        · have eD2 := f18 _ _ nD1 nD2 eD
          have hlt := hsub.length_le
          rw [List.length_take] at hlt
          refine ⟨_, rfl, xs, eD2, lt_line (by rw [hts.1]; omega), fb_at (f17.trans f18) hD, B18.keep nD1 nD2, _, ts ++ [t'], upd_same, ?_, ?_⟩
          · exact (hts.mono fun _ _ z => z.tt (K := K) ((f18.tt B17).trans (tt_lst eD2))).snoc ⟨q', rfl, (tt_lst (K := K) eD2).d _ _ ((f18.tt (K := K) B17).d _ _ hq')⟩
          · rw [e1]
            exact hsub.append (List.Sublist.refl _)
        · refine ⟨f17.trans f18, B18, xs, ts, f18 _ _ nD1 nD2 eD, hts.mono fun _ _ z => z.tt (K := K) (f18.tt B17), ?_⟩
          rw [e1]
          exact hsub.trans (List.sublist_append_left _ _)
      · obtain ⟨f17, B17, xs, ts, eD, hts, hsub⟩ := z
        have eF17 := f17 _ _ nd1 nd2 eF
        refine ⟨eF17, ?_⟩
        have x18 : TL K H17 (upd H17 d (.dT kvu)) := tl_frzT eF17
        have f18 := ufb f17
        have C18 := C16.fb f18 (B17.keep nd1 nd2)
        have eD18 : (upd H17 d (.dT kvu)) D = some (.lst xs) := by rw [upd_ne nDd]; exact eD
        have hts18 := hts.mono fun _ _ z => z.tt x18.t
        have T18 : TT K H16 (upd H17 d (.dT kvu)) := f18.tt C16.bg
        have L18 := f18 _ _ nl1 nl2 L16
        generalize upd H17 d (.dT kvu) = H18 at f18 C18 eD18 hts18 T18 L18
        refine ⟨D, xs, rfl, .inl ⟨SqL.of eD18, fun pt hpt => ?_⟩⟩
        have S19 := same_new (o := .tup xs) hpt
        have L19 := S19 _ _ L18
        have hs2 := hsub.trans (List.take_sublist _ _)
        have V19 : WishV K (upd H18 pt (.tup xs)) pt Bk R ts := ⟨tup_of_pl hts18 hpt, asc_makM.sublist hs2, fun t ht => (mem_makM gB).mp (hs2.subset ht)⟩
        refine ⟨ll, us, _, rfl, rfl, L19, ?_, ?_⟩
        · rw [hp16.1, hT]
          exact lt_line (by omega)
        have x20 : TT K (upd H18 pt (.tup xs)) (upd (upd H18 pt (.tup xs)) ll (.lst (us ++ [.ref pt]))) := tt_lst L19
        refine ⟨_, us ++ [.ref pt], Ts ++ [ts], rfl, (C18.same S19).lst L19 nl1 nl2, upd_same, (hp16.mono fun _ _ z => z.tt ((T18.trans (Same_tt S19)).trans x20)).snoc ⟨pt, rfl, V19.tt x20⟩, by rw [List.length_append, hT]; rfl, ?_⟩
        rw [List.getElem?_append_left (by omega)]
        exact hT1
    rintro σ H16 ⟨v10, us, Ts, rfl, C16, L16, hp16, hT, hT1⟩
    have hT : Ts.length = 5 := hT
    have hus : us.length = 5 := hp16.1.trans hT
    -- the costs
    refine ⟨(by decide : 0 ≤ sizeLine), fun lc hlc => ?_⟩
    obtain ⟨nk1, nk2⟩ := C16.bg.ne hlc
    have S3 := same_new (o := .lst []) hlc
    have C17 := C16.same S3
    have L17 := S3 _ _ L16
    have hp17 := hp16.mono fun _ _ z => z.tt (Same_tt S3)
    have nlc : ll ≠ lc := ne_of_none L16 hlc
    have K17 : (upd H16 lc (.lst [])) lc = some (.lst []) := upd_same
    generalize upd H16 lc (.lst []) = H17 at S3 C17 L17 hp17 K17
    refine ⟨_, rfl, ll, rfl, ⟨_, SqL.of L17⟩, for_list (xs := us) (fun j σ H' => ∃ v12 v13 v14 v15 v16, ∃ ns : List Nat, σ = [some (.ref p), some (.ref b), some (nv i), some (.ref q), some (.ref t), some (.ref d), some (.ref x), some (.ref y), some (.ref c), some (.ref ll), v10, some (.ref lc), v12, v13, v14, v15, v16, v17, v18, v19, v20, none] ∧ LwC K a H' b g x y q t c d Bk R ms kvu ∧ H' ll = some (.lst us) ∧ PL (LotsV K Bk R H') us Ts ∧ H' lc = some (.lst (ns.map nv)) ∧ ns.length = j ∧ ∀ m n ts, ns[m]? = some n → Ts[m]? = some ts → CostOf Bk R ms ts n) ⟨v12, v13, v14, v15, v16, [], rfl, C17, L17, hp17, K17, rfl, fun m n ts h _ => absurd (List.getElem?_eq_some_iff.mp h).1 (Nat.not_lt_zero m)⟩ ?_ ?_ ?_⟩
    · rintro j σ H' _ ⟨_, _, _, _, _, _, _, _, e, _⟩
      exact SqL.of e
    · rintro j u σ H18 hu ⟨v12, v13, v14, v15, v16, ns, rfl, C18, L18, hp18, K18, hns, hco⟩
      obtain ⟨ts, hts, p1, rfl, V1⟩ := hp18.at' hu
      have hj := (List.getElem?_eq_some_iff.mp hu).1
      have hml : R.length * Bk.nk ≤ 200 * 5 := Nat.mul_le_mul (by omega) gB.k2
      have htl : ts.length ≤ 1000 := by
        have := V1.len gB
        omega
      have hms := C18.C.len gB C18.W.l
      have hO := C18.C.o
      obtain ⟨kvc, ec18, cd⟩ := id C18.C.e
      have htm : ∀ t ∈ ts, t ∈ tgs ms := fun t ht => C18.C.t t ((mem_makM gB).mpr (V1.ok t ht))
      -- due, told
      refine ⟨_, rfl, _, rfl, _, rfl, _, rfl, q, t, c, p1, Bk, R, ts, ms, rfl, C18.P, C18.C, V1.v, htl, htm, fun dd F H19 s19 hdd edd hFn hFm => ?_⟩
      have hFl : F.length ≤ ms.length := rch_tgs hO htm hFn fun t ht => (hFm t).mp ht
      have same : ∀ {G : List Th}, (∀ t, t ∈ G ↔ Rch Bk R ms ts t) → lotT G = lotT F := fun {G} h => asc_uniq asc_lotT asc_lotT fun t => by rw [mem_lotT, mem_lotT, h, hFm]
      have ncd : c ≠ dd := ne_of_none ec18 hdd
      have C19 := C18.same s19
      refine ⟨_, rfl, _, rfl, _, rfl, _, rfl, x, y, c, p1, Bk, R, ms, ts, rfl, C19.W, C19.C, V1.tt (Same_tt s19), fun pt F2 H20 s20 hpt ht2 hF2n hF2m => ?_⟩
      rw [same hF2m] at ht2
      obtain ⟨wt, hwt, hplt⟩ := id ht2
      have edd20 := s20 _ _ edd
      have S20 := s19.trans s20
      -- told against due
      refine ⟨_, rfl, _, rfl, dd, _, rfl, .inl edd20, fun l0 bs hl0 hbs => ?_⟩
      have R1 := same_new (o := .lst (bs.map V.ref)) hl0
      have hU0 := (keys_ths hbs).mono fun _ _ q => q.tt (K := K) (tt_new (o := .lst (bs.map V.ref)) hl0)
      have e0 : (upd H20 l0 (.lst (bs.map V.ref))) l0 = some (.lst (bs.map V.ref)) := upd_same
      generalize upd H20 l0 (.lst (bs.map V.ref)) = H21 at R1 hU0 e0
      refine ⟨l0, _, SoP.keyOf H21, rfl, SqL.of e0, srt_key hU0, fun ys p9 hs hb hp9 => ?_⟩
      have R2 := same_new (o := .lst ys) hp9
      have hP9 := (srt_ths hU0 (srt_key hU0) hs hb hFn).mono fun _ _ q => q.tt (K := K) (tt_new (o := .lst ys) hp9)
      have e9 : (upd H21 p9 (.lst ys)) p9 = some (.lst ys) := upd_same
      generalize upd H21 p9 (.lst ys) = H22 at R2 hP9 e9
      refine ⟨p9, ys, rfl, .inl ⟨SqL.of e9, fun p8 hp8 => ?_⟩⟩
      have R3 := same_new (o := .tup ys) hp8
      have h8 : ThsT K (upd H22 p8 (.tup ys)) p8 (lotT F) := tup_of_pl hP9 hp8
      generalize upd H22 p8 (.tup ys) = H23 at R3 h8
      have R23 := (R1.trans R2).trans R3
      have S23 := S20.trans R23
      refine ⟨.tuple ((lotT F).map dTh), .tuple ((lotT F).map dTh), ths_dp (ht2.tt (Same_tt R23)), ths_dp h8, sh_ths _, sh_ths _, _, rfl, iteF' (by rw [eqv_ths]; rfl) ?_⟩
      refine ⟨_, rfl, _, .ty "tuple", _, _, true, rfl, .ty "tuple", tyT ((Same_tt R23).t _ _ hwt), kit_ty (by decide +kernel), true, rfl, iteF ?_⟩
      -- the plan
      have C23 := C18.same S23
      have V23 := V1.tt (Same_tt S23)
      refine ⟨_, rfl, _, rfl, _, rfl, _, rfl, x, y, c, p1, Bk, R, ms, ts, rfl, C23.W, C23.C, V23, fun pp F3 ns3 H24 s24 Vp run3 hn3 hm3 => ?_⟩
      have hlF : ∀ {G : List Th}, G.Nodup → (∀ t, t ∈ G ↔ Rch Bk R ms ts t) → G.length = F.length := fun {G} h1 h2 => Nat.le_antisymm (nodup_len h1 fun t ht => (hFm t).mpr ((h2 t).mp ht)) (nodup_len hFn fun t ht => (h2 t).mpr ((hFm t).mp ht))
      rw [same hm3, hlF hn3 hm3] at run3
      have C24 := C23.same s24
      have edd24 := (R23.trans s24) _ _ edd20
      have hcl : ∀ t ∈ F, t ∈ tgs ms ∧ ∀ u ∈ needsM Bk R t (wayM ms t), u ∈ F := fun t ht => by
        have h1 := (hFm t).mp ht
        have h2 := h1.made hO htm
        refine ⟨h2, fun u hu => (hFm u).mpr ?_⟩
        obtain ⟨m, hmm, rfl⟩ := List.mem_map.mp h2
        have e : wayM ms m.1 = m.2 := wayM_of cd.n hmm
        rw [e] at hu
        exact .need h1 hmm hu
      refine ⟨_, rfl, _, rfl, _, rfl, _, rfl, _, rfl, q, t, c, dd, Bk, R, ms, F, rfl, C24.P, C24.C, edd24, hFn, by omega, hcl, fun pq ns4 H25 s25 run4 Vq => ?_⟩
      have ens : ns4 = ns3 := congrArg Prod.fst (run_det run4 run3)
      subst ens
      have Vp25 := Vp.tt (Same_tt s25)
      refine ⟨.tuple (ns4.map dMg), .tuple (ns4.map dMg), plan_dp Vp25, plan_dp Vq, sh_mgsT _, sh_mgsT _, _, rfl, iteF' (by rw [eqv_mgs]; rfl) ?_⟩
      have C25 := C24.same s25
      have S25 := (S23.trans s24).trans s25
      have V25 := V1.tt (Same_tt S25)
      have psi := run_psi (asc_nodup asc_lotT) run3
      have hpm : ∀ t, t ∈ lotT F ↔ t ∈ tgs ns4 := fun t => by
        rw [psi.m t]
        exact ⟨fun h => h.elim id (fun z => nomatch z), Or.inl⟩
      have hisP : isPlan Bk R ts ns4 = true := isPlan_iff.mpr ⟨psi.o, fun t ht => (hpm t).mp (mem_lotT.mpr ((hFm t).mpr (.wish ht)))⟩
      refine ⟨_, rfl, _, rfl, _, rfl, _, rfl, x, y, p1, pp, Bk, R, ts, ns4, rfl, C25.W, V25, Vp25, fun H26 s26 => ?_⟩
      rw [hisP]
      refine ⟨true, true, rfl, rfl, _, rfl, iteF' (by rfl) ?_⟩
      have C26 := C25.same s26
      have S26 := S25.trans s26
      -- what is paid
      refine ⟨_, rfl, _, rfl, _, rfl, _, rfl, x, y, c, p1, Bk, R, ms, ts, rfl, C26.W, C26.C, V1.tt (Same_tt S26), fun F4 H27 s27 hn4 hm4 => ?_⟩
      have e4 : costM Bk ms F4 = costM Bk ms F := cost_same hn4 hFn fun t => by rw [hm4, hFm]
      rw [e4]
      have C27 := C26.same s27
      have edd27 := ((s25.trans s26).trans s27) _ _ edd24
      refine ⟨_, rfl, _, rfl, _, rfl, _, rfl, q, c, dd, Bk, R, ms, F, rfl, C27.P.b, C27.C, ncd, edd27, by omega, fun t ht => (hcl t ht).1, fun H28 s28 => ?_⟩
      refine ⟨rfl, _, rfl, iteF' (by simp) ?_⟩
      refine ⟨_, rfl, _, .ty "bool", _, _, false, rfl, .ty "bool", .base (.int _), kit_ty (by decide +kernel), false, rfl, iteF ?_⟩
      have C28 := C27.same s28
      have R28 := (s26.trans s27).trans s28
      have hisP0 : isPlan Bk R [] ns4 = true := isPlan_iff.mpr ⟨psi.o, fun _ h => nomatch h⟩
      refine ⟨_, rfl, _, rfl, _, rfl, x, y, pp, Bk, R, ns4, rfl, C28.W, Vp25.tt (Same_tt R28), hisP0, fun H29 s29 => ?_⟩
      have epr : priceP Bk ns4 = costM Bk ms F := plan_cost hFn run3
      rw [epr]
      refine ⟨_, rfl, rfl, _, rfl, iteF' (by simp) ?_⟩
      have S29 := ((S26.trans s27).trans s28).trans s29
      have C29 := C28.same s29
      have K29 := S29 _ _ K18
      refine ⟨_, rfl, .inl ⟨rfl, _, SqL.of K29⟩, _, rfl, lc, _, _, rfl, rfl, K29, lt_line (by rw [List.length_map]; omega), ?_⟩
      have x30 : TT K H29 (upd H29 lc (.lst (ns.map nv ++ [nv (costM Bk ms F)]))) := tt_lst K29
      refine ⟨_, _, _, _, _, ns ++ [costM Bk ms F], rfl, C29.lst K29 nk1 nk2, by rw [upd_ne nlc]; exact S29 _ _ L18, hp18.mono fun _ _ z => z.tt ((Same_tt S29).trans x30), by rw [upd_same, List.map_append]; rfl, by rw [List.length_append, hns]; rfl, fun m n ts' h1 h2 => ?_⟩
      by_cases hm : m < ns.length
      · rw [List.getElem?_append_left hm] at h1
        exact hco m n ts' h1 h2
      · rw [List.getElem?_append_right (by omega)] at h1
        have h0 := (List.getElem?_eq_some_iff.mp h1).1
        simp only [List.length_singleton] at h0
        have hmj : m = j := by omega
        rw [show m - ns.length = 0 by omega] at h1
        cases h1
        subst hmj
        rw [hts] at h2
        cases h2
        exact ⟨F, hFn, hFm, rfl⟩
    rintro σ H18 ⟨v12, v13, v14, v15, v16, ns, rfl, C18, L18, hp18, K18, hns, hco⟩
    rw [hus] at hns
    have g2 : 2 < Ts.length := by omega
    have g3 : 3 < Ts.length := by omega
    obtain ⟨ts2, hts2⟩ : ∃ ts2, Ts[2]? = some ts2 := ⟨_, List.getElem?_eq_getElem g2⟩
    obtain ⟨ts3, hts3⟩ : ∃ ts3, Ts[3]? = some ts3 := ⟨_, List.getElem?_eq_getElem g3⟩
    obtain ⟨u2, hu2, p2, rfl, V2⟩ := hp18.at hts2
    obtain ⟨u3, hu3, p3, rfl, V3⟩ := hp18.at hts3
    have k1 : 1 < ns.length := by omega
    have k2 : 2 < ns.length := by omega
    have k3 : 3 < ns.length := by omega
    obtain ⟨n1, hn1⟩ : ∃ n, ns[1]? = some n := ⟨_, List.getElem?_eq_getElem k1⟩
    obtain ⟨n2, hn2⟩ : ∃ n, ns[2]? = some n := ⟨_, List.getElem?_eq_getElem k2⟩
    obtain ⟨n3, hn3⟩ : ∃ n, ns[3]? = some n := ⟨_, List.getElem?_eq_getElem k3⟩
    obtain ⟨F1, f1n, f1m, en1⟩ := hco 1 n1 _ hn1 hT1
    obtain ⟨F2, f2n, f2m, en2⟩ := hco 2 n2 _ hn2 hts2
    obtain ⟨F3, f3n, f3m, en3⟩ := hco 3 n3 _ hn3 hts3
    have hml : R.length * Bk.nk ≤ 200 * 5 := Nat.mul_le_mul (by omega) gB.k2
    have hms := C18.C.len gB C18.W.l
    have hO := C18.C.o
    obtain ⟨kvc, ec18, cd⟩ := id C18.C.e
    have htg : ∀ {ts : List Th}, (∀ t ∈ ts, Mak Bk R t) → ∀ t ∈ ts, t ∈ tgs ms := fun h t ht => C18.C.t t ((mem_makM gB).mpr (h t ht))
    have x2 : atI us ((2 : Nat) : Int) = some (.ref p2) := atI_nat hu2
    have x3 : atI us ((3 : Nat) : Int) = some (.ref p3) := atI_nat hu3
    refine ⟨_, rfl, ll, _, _, _, rfl, rfl, SqL.of L18, x2, _, rfl, ll, _, _, _, rfl, rfl, SqL.of L18, x3, (by decide : 2 ≤ sizeLine), fun cc hcc => ?_⟩
    have sE := same_new (o := .tup [.ref p2, .ref p3]) hcc
    refine ⟨cc, _, rfl, .inl (.inl upd_same), rfl, _, _, rfl, _, _, rfl, rfl, ?_⟩
    have C19 := C18.same sE
    have V219 := V2.tt (Same_tt sE)
    have V319 := V3.tt (Same_tt sE)
    have K19 := sE _ _ K18
    generalize upd H18 cc (.tup [.ref p2, .ref p3]) = H19 at sE C19 V219 V319 K19
    -- both
    obtain ⟨w2, hw2, pl2⟩ := V219.v
    obtain ⟨w3, hw3, pl3⟩ := V319.v
    have l2 := V219.len gB
    have l3 := V319.len gB
    have nk5 := gB.k2
    have hRn : R.length * Bk.nk ≤ 9 * 5 := Nat.mul_le_mul (by omega) gB.k2
    refine ⟨_, rfl, _, rfl, ?_⟩
    refine cat_any (xs := w2) (ys := w3) hw2 hw3 (by rw [pl2.1, pl3.1]; exact Nat.le_of_lt (lt_line (by omega))) fun pc H20 s20 hpc => ?_
    have pl20 : PL (ThV H20) (w2 ++ w3) (ts2 ++ ts3) := (pl2.app pl3).mono fun _ _ z => z.tt (K := K) (Same_tt s20)
    obtain ⟨ks, ek, ek2, ek3⟩ := pl_ks pl20
    rw [ek] at hpc
    have hmk23 : ∀ t ∈ ts2 ++ ts3, Mak Bk R t := fun t ht => (List.mem_append.mp ht).elim (V2.ok t) (V3.ok t)
    have hbd : ∀ t ∈ ts2 ++ ts3, t.1 < 64 ∧ t.2 < 64 := fun t ht => by
      have := (hmk23 t ht).lt gB
      omega
    have hkl : ks.length ≤ 1000 := by
      have h1 := congrArg List.length ek2
      rw [List.length_map, List.length_map, List.length_append] at h1
      omega
    refine ⟨pc, ks, rfl, hpc, fun p' hp' => .inl (.inl (ek3 p' hp')), fun L hL hn => ?_, fun sa L hsa hL hL2 => ?_⟩
    · have h1 := ks_few ek2 (M := makM Bk R) (fun t ht => (mem_makM gB).mpr (hmk23 t ht)) hL hn
      have h2 := makM_len (B := Bk) (R := R)
      omega
    have s21 := same_new (o := SetTO P w sa L) hsa
    refine ⟨sa, L, 2, 64, rfl, upd_same, fun p' hp' => .inl (.inl (s21 _ _ (ek3 p' (hL p' hp')))), by decide, fun p' hp' => ?_, fun L' pq pm nd few pw hpq => ?_⟩
    · obtain ⟨t', ht', e'⟩ := ks_k ek2 (hL p' hp')
      have hb' := hbd t' ht'
      rw [e']
      refine ⟨rfl, fun m hm => ?_⟩
      rcases List.mem_cons.mp hm with z | z
      · omega
      · rw [List.mem_singleton.mp z]
        omega
    obtain ⟨tb, tb1, tb2, tb3⟩ := srt_set ek2 ek3 hL hL2 pm nd pw hbd
    have s22 := s21.trans (same_new (o := .lst (L'.map fun q => V.ref q.1)) hpq)
    refine ⟨pq, _, rfl, .inl ⟨SqL.of upd_same, fun pb hpb => ?_⟩⟩
    have s23 := s22.trans (same_new (o := .tup (L'.map fun q => V.ref q.1)) hpb)
    have hbt : ThsT K (upd (upd (upd H20 sa (SetTO P w sa L)) pq (.lst (L'.map fun q => V.ref q.1))) pb (.tup (L'.map fun q => V.ref q.1))) pb tb := ⟨_, .inl (.inl upd_same), tb3.mono fun _ _ z => z.tt (K := K) (Same_tt s23)⟩
    generalize upd (upd (upd H20 sa (SetTO P w sa L)) pq (.lst (L'.map fun q => V.ref q.1))) pb (.tup (L'.map fun q => V.ref q.1)) = H23 at s23 hbt
    have tb2' : ∀ t, t ∈ tb ↔ t ∈ ts2 ∨ t ∈ ts3 := fun t => by rw [tb2, List.mem_append]
    have S23 := s20.trans s23
    have C23 := C19.same S23
    have V223 := V219.tt (Same_tt S23)
    have V323 := V319.tt (Same_tt S23)
    have Vb23 : WishV K H23 pb Bk R tb := ⟨hbt, tb1, fun t ht => hmk23 t ((tb2 t).mp ht)⟩
    have K23 := S23 _ _ K19
    -- shared
    refine ⟨_, rfl, _, rfl, _, rfl, _, rfl, x, y, c, p2, Bk, R, ms, ts2, rfl, C23.W, C23.C, V223, fun pa2 G2 H24 s24 hpa2 ha2 g2n g2m => ?_⟩
    have hL2 : lotT G2 = lotT F2 := asc_uniq asc_lotT asc_lotT fun t => by rw [mem_lotT, mem_lotT, g2m, f2m]
    rw [hL2] at ha2
    obtain ⟨wa, hwa, pla⟩ := ha2
    have C24 := C23.same s24
    have V324 := V323.tt (Same_tt s24)
    have hF2s : ∀ t ∈ F2, t ∈ tgs ms := fun t ht => ((f2m t).mp ht).made hO (htg V2.ok)
    have hF3s : ∀ t ∈ F3, t ∈ tgs ms := fun t ht => ((f3m t).mp ht).made hO (htg V3.ok)
    have hF2l : F2.length ≤ 1000 := by
      have := rch_tgs hO (htg V2.ok) f2n fun t ht => (f2m t).mp ht
      omega
    have hLl : (lotT F2).length ≤ 1000 := Nat.le_trans lotT_len hF2l
    refine ⟨pa2, rfl, ⟨_, hwa⟩, fun D hD => ?_⟩
    refine lc_tup (xs := wa) (fun j H' => Same H24 H' ∧ ∃ us, H' D = some (.lst us) ∧ PL (ThV H') us (((lotT F2).take j).filter fun t => decide (t ∈ lotT F3))) ⟨same_new hD, [], upd_same, PL.nil⟩ (fun j H' _ z => (Tk.of z.1).t hwa) (fun j v H25 hv z => ?_) (fun H25 z => ?_)
    · obtain ⟨s25, uu, eD, hu⟩ := z
      obtain ⟨t', ht', hth⟩ := pla.at' hv
      obtain ⟨pt, rfl, hpt⟩ := hth.tt (K := K) (Same_tt s25)
      have hjl := (List.getElem?_eq_some_iff.mp ht').1
      have htk : (lotT F2).take (j + 1) = (lotT F2).take j ++ [t'] := by
        rw [List.take_add_one, ht']
        rfl
      have C25 := C24.same s25
      refine ⟨rfl, ?_⟩
      refine ⟨_, rfl, _, rfl, _, rfl, _, rfl, _, rfl, x, y, c, p3, Bk, R, ms, ts3, rfl, C25.W, C25.C, V324.tt (Same_tt s25), fun pa3 G3 H26 s26 hpa3 ha3 g3n g3m => ?_⟩
      have hL3 : lotT G3 = lotT F3 := asc_uniq asc_lotT asc_lotT fun t => by rw [mem_lotT, mem_lotT, g3m, f3m]
      rw [hL3] at ha3
      refine ⟨dTh t', (lotT F3).map dTh, th_dp ⟨pt, rfl, s26 _ _ hpt⟩, ths_dp ha3, sh_th _, sh_ths _, ?_⟩
      rw [any_th]
      have eD26 := s26 _ _ eD
      have hu26 := hu.mono fun _ _ z => z.tt (K := K) (Same_tt s26)
      refine ⟨_, rfl, ite2 (fun hb => ?_) (fun hb => ?_)⟩
      · have x27 : TT K H26 (upd H26 D (.lst (uu ++ [.ref pt]))) := tt_lst eD26
        refine ⟨_, rfl, uu, eD26, ?_, same_at (s25.trans s26) hD, _, upd_same, ?_⟩
        · rw [hu.1]
          have := List.length_filter_le (fun t => decide (t ∈ lotT F3)) ((lotT F2).take j)
          rw [List.length_take] at this
          exact lt_line (by omega)
        · rw [htk, List.filter_append, List.filter_cons_of_pos (p := fun t => decide (t ∈ lotT F3)) hb]
          exact (hu26.mono fun _ _ z => z.tt x27).snoc ⟨pt, rfl, x27.d _ _ (s26 _ _ hpt)⟩
      · refine ⟨s25.trans s26, uu, eD26, ?_⟩
        rw [htk, List.filter_append, List.filter_cons_of_neg (p := fun t => decide (t ∈ lotT F3)) hb, List.filter_nil, List.append_nil]
        exact hu26
    obtain ⟨s25, uu, eD, hu⟩ := z
    rw [pla.1, List.take_length] at hu
    have hSm : ∀ t, t ∈ (lotT F2).filter (fun t => decide (t ∈ lotT F3)) ↔ t ∈ F2 ∧ t ∈ F3 := fun t => by
      rw [List.mem_filter, decide_eq_true_eq, mem_lotT, mem_lotT]
    have hSn : ((lotT F2).filter (fun t => decide (t ∈ lotT F3))).Nodup := (asc_nodup asc_lotT).sublist List.filter_sublist
    have hSl : ((lotT F2).filter (fun t => decide (t ∈ lotT F3))).length ≤ 1000 := Nat.le_trans (List.length_filter_le _ _) hLl
    generalize (lotT F2).filter (fun t => decide (t ∈ lotT F3)) = Sh at hu hSm hSn hSl
    have hSs : ∀ t ∈ Sh, t ∈ tgs ms := fun t ht => hF2s t ((hSm t).mp ht).1
    have S25 := s24.trans s25
    have C25 := C23.same S25
    have Vb25 := Vb23.tt (Same_tt S25)
    have K25 := S25 _ _ K23
    -- the costs of both
    refine ⟨_, rfl, _, rfl, _, rfl, _, rfl, x, y, c, pb, Bk, R, ms, tb, rfl, C25.W, C25.C, Vb25, fun Fu H26 s26 hun hum => ?_⟩
    have C26 := C25.same s26
    have K26 := s26 _ _ K25
    have i1 : atI (ns.map nv) ((1 : Nat) : Int) = some (nv n1) := atI_nat (by rw [List.getElem?_map, hn1]; rfl)
    have i2 : atI (ns.map nv) ((2 : Nat) : Int) = some (nv n2) := atI_nat (by rw [List.getElem?_map, hn2]; rfl)
    have i3 : atI (ns.map nv) ((3 : Nat) : Int) = some (nv n3) := atI_nat (by rw [List.getElem?_map, hn3]; rfl)
    have hum' : ∀ t, t ∈ Fu ↔ t ∈ F2 ∨ t ∈ F3 := fun t => by rw [hum, rch_or tb2', f2m, f3m]
    have hus' : ∀ t ∈ Fu, t ∈ tgs ms := fun t ht => ((hum' t).mp ht).elim (hF2s t) (hF3s t)
    have hF1s : ∀ t ∈ F1, t ∈ tgs ms := fun t ht => ((f1m t).mp ht).made hO (htg fun t ht => (mem_makM gB).mp ht)
    have hsum : costM Bk ms Fu + costM Bk ms Sh = costM Bk ms F2 + costM Bk ms F3 := by
      rw [cost_sum cd.n hun hus', cost_sum cd.n hSn hSs, cost_sum cd.n f2n hF2s, cost_sum cd.n f3n hF3s]
      refine sumP_or fun t _ => ⟨?_, ?_⟩
      · rw [← Bool.decide_or]
        exact decide_eq_decide.mpr (hum' t)
      · rw [← Bool.decide_and]
        exact decide_eq_decide.mpr (hSm t)
    refine ⟨_, rfl, lc, _, _, _, rfl, rfl, SqL.of K26, i2, _, rfl, lc, _, _, _, rfl, rfl, SqL.of K26, i3, _, _, rfl, rfl, _, rfl, _, rfl, _, rfl, q, c, D, Bk, R, ms, Sh, rfl, C26.P.b, C26.C, ⟨uu, s26 _ _ eD, hu.mono fun _ _ z => z.tt (K := K) (Same_tt s26)⟩, hSl, hSs, fun H27 s27 => ⟨_, _, rfl, rfl, ?_⟩⟩
    dsimp only
    refine ⟨rfl, _, rfl, iteF' ?_ ?_⟩
    · have : V.int ((costM Bk ms Fu : Nat) : Int) = V.int ((n2 : Int) + (n3 : Int) - ((costM Bk ms Sh : Nat) : Int)) := by
        congr 1
        omega
      rw [show nv (costM Bk ms Fu) = V.int ((costM Bk ms Fu : Nat) : Int) from rfl, this]
      simp
    -- between
    have C27 := C26.same s27
    have K27 := s27 _ _ K26
    have S27 := (S25.trans s26).trans s27
    have le2 : costM Bk ms F2 ≤ costM Bk ms Fu := by
      rw [cost_sum cd.n hun hus', cost_sum cd.n f2n hF2s]
      exact sumP_le fun t _ h => decide_eq_true ((hum' t).mpr (Or.inl (of_decide_eq_true h)))
    have le3 : costM Bk ms F3 ≤ costM Bk ms Fu := by
      rw [cost_sum cd.n hun hus', cost_sum cd.n f3n hF3s]
      exact sumP_le fun t _ h => decide_eq_true ((hum' t).mpr (Or.inr (of_decide_eq_true h)))
    have le1 : costM Bk ms Fu ≤ costM Bk ms F1 := by
      rw [cost_sum cd.n hun hus', cost_sum cd.n f1n hF1s]
      exact sumP_le fun t _ h => decide_eq_true ((f1m t).mpr (rch_mono (fun z hz => (mem_makM gB).mpr (Vb25.ok z hz)) ((hum t).mp (of_decide_eq_true h))))
    refine ⟨_, rfl, lc, _, _, _, rfl, rfl, SqL.of K27, i2, _, rfl, lc, _, _, _, rfl, rfl, SqL.of K27, i3, _, _, rfl, ?_⟩
    refine ⟨_, rfl, _, rfl, _, rfl, _, rfl, x, y, c, pb, Bk, R, ms, tb, rfl, C27.W, C27.C, Vb23.tt (Same_tt S27), fun Fv H28 s28 hvn hvm => ?_⟩
    have e4 : costM Bk ms Fv = costM Bk ms Fu := cost_same hvn hun fun t => by rw [hvm, hum]
    rw [e4]
    have K28 := s28 _ _ K27
    refine ⟨_, _, rfl, rfl, _, rfl, ?_⟩
    have hmax : decide ((if (n3 : Int) > (n2 : Int) then (n3 : Int) else (n2 : Int)) ≤ ((costM Bk ms Fu : Nat) : Int)) = true := by
      refine decide_eq_true ?_
      split <;> omega
    refine iteC hmax ?_
    refine ⟨_, rfl, lc, _, _, _, rfl, rfl, SqL.of K28, i1, _, _, rfl, rfl, ?_⟩
    have hle : decide (((costM Bk ms Fu : Nat) : Int) ≤ (n1 : Int)) = true := decide_eq_true (by omega)
    refine ⟨_, rfl, iteF' (by rw [hle]; rfl) ?_⟩
    exact ⟨_, _, _, _, _, _, _, _, _, _, _, _, _, _, _, _, _, _, _, rfl, (C27.same s28).bg⟩
  · rintro σ H2 ⟨v2, v3, v4, v5, v6, v7, v8, v9, v10, v11, v12, v13, v14, v15, v16, v17, v18, v19, v20, rfl, B2⟩
    exact k H2
end
end Lk
namespace Lk
open PySem L2
theorem kit_self {K : PySem.W.Frag} {C : Addr} : PySem.W.kitOne K (.ref C) (.ref C) = some true := by
  unfold PySem.W.kitOne
  rw [if_pos (by simp)]
theorem all_mk {l : PySem.W.OpenLaw} {w : World} {K : PySem.W.Frag} {h : Heap} {mg : Str → Option Value} {fa : Addr} {f_is_integer f_is_between f_is_tuple_of f_Book_init f_check_frame f_check_rules f_check_moves f_is_rule f_is_move f_is_price f_Web_init f_is_value f_fits f_is_row_of f_check_web f_makeable f_kinds_made f_is_thing f_is_way f_is_way_to f_ways_to f_needs_for f_needs_by_parts f_all_in f_way_price f_is_plan f_price f_is_wishes f_is_lot_of f_check_wishes f_check_plan f_is_plan_for f_is_making f_is_choice f_check_choice f_is_usable f_first_that_returns f_returns f_needed f_plan_by f_cost f_links_of f_needed_by f_plan_of f_first_ready f_law_bag f_law_pick f_law_some f_law_book f_law_values f_law_price f_law_needs f_law_usable f_law_needed f_law_cost f_law_drawn_choice f_law_plan f_law : Addr} {c_NoWishes c_NoPlan c_Book c_Web : Addr} (X : K.In h) (G : h.Ns mainGlobals mg) (hfa : mg "law" = some (.ref fa))
    (a_NoWishes : PySem.W.nsIn K mainGlobals "NoWishes" = some (some (.ref c_NoWishes)))
    (a_NoPlan : PySem.W.nsIn K mainGlobals "NoPlan" = some (some (.ref c_NoPlan)))
    (a_Book : PySem.W.nsIn K mainGlobals "Book" = some (some (.ref c_Book)))
    (a_Web : PySem.W.nsIn K mainGlobals "Web" = some (some (.ref c_Web)))
    {od_is_integer an_is_integer : Option Addr} {sl_is_integer : Array (Option Value)} {oc_is_integer kV_is_integer dc_is_integer pm_is_integer cd_is_integer ct_is_integer : Value}
    (a_is_integer : PySem.W.nsIn K mainGlobals "is_integer" = some (some (.ref f_is_integer)))
    (l_is_integer : K.lookup f_is_integer = some ⟨oc_is_integer, od_is_integer, .func (PySem.W.fnOf "is_integer" "is_integer" (defArgs s_is_integer) (defBody s_is_integer) (defScope s_is_integer) .none kV_is_integer dc_is_integer pm_is_integer an_is_integer cd_is_integer ct_is_integer), sl_is_integer⟩) (c_is_integer : PySem.W.codeIn K cd_is_integer "is_integer" = true) (k_is_integer : PySem.W.keepIn K (.ref f_is_integer) = true)
    {od_is_between an_is_between : Option Addr} {sl_is_between : Array (Option Value)} {oc_is_between kV_is_between dc_is_between pm_is_between cd_is_between ct_is_between : Value}
    (a_is_between : PySem.W.nsIn K mainGlobals "is_between" = some (some (.ref f_is_between)))
    (l_is_between : K.lookup f_is_between = some ⟨oc_is_between, od_is_between, .func (PySem.W.fnOf "is_between" "is_between" (defArgs s_is_between) (defBody s_is_between) (defScope s_is_between) .none kV_is_between dc_is_between pm_is_between an_is_between cd_is_between ct_is_between), sl_is_between⟩) (c_is_between : PySem.W.codeIn K cd_is_between "is_between" = true) (k_is_between : PySem.W.keepIn K (.ref f_is_between) = true)
    {od_is_tuple_of an_is_tuple_of : Option Addr} {sl_is_tuple_of : Array (Option Value)} {oc_is_tuple_of kV_is_tuple_of dc_is_tuple_of pm_is_tuple_of cd_is_tuple_of ct_is_tuple_of : Value}
    (a_is_tuple_of : PySem.W.nsIn K mainGlobals "is_tuple_of" = some (some (.ref f_is_tuple_of)))
    (l_is_tuple_of : K.lookup f_is_tuple_of = some ⟨oc_is_tuple_of, od_is_tuple_of, .func (PySem.W.fnOf "is_tuple_of" "is_tuple_of" (defArgs s_is_tuple_of) (defBody s_is_tuple_of) (defScope s_is_tuple_of) .none kV_is_tuple_of dc_is_tuple_of pm_is_tuple_of an_is_tuple_of cd_is_tuple_of ct_is_tuple_of), sl_is_tuple_of⟩) (c_is_tuple_of : PySem.W.codeIn K cd_is_tuple_of "is_tuple_of" = true) (k_is_tuple_of : PySem.W.keepIn K (.ref f_is_tuple_of) = true)
    {od_Book_init an_Book_init : Option Addr} {sl_Book_init : Array (Option Value)} {oc_Book_init kV_Book_init dc_Book_init pm_Book_init cd_Book_init ct_Book_init : Value}
    (a_Book_init : PySem.W.findIn K (.ref c_Book) "__init__" = some (some (.ref f_Book_init)))
    (l_Book_init : K.lookup f_Book_init = some ⟨oc_Book_init, od_Book_init, .func (PySem.W.fnOf "__init__" "Book.__init__" (defArgs s_Book_init) (defBody s_Book_init) (defScope s_Book_init) .none kV_Book_init dc_Book_init pm_Book_init an_Book_init cd_Book_init ct_Book_init), sl_Book_init⟩) (c_Book_init : PySem.W.codeIn K cd_Book_init "Book.__init__" = true) (k_Book_init : PySem.W.keepIn K (.ref f_Book_init) = true)
    {od_check_frame an_check_frame : Option Addr} {sl_check_frame : Array (Option Value)} {oc_check_frame kV_check_frame dc_check_frame pm_check_frame cd_check_frame ct_check_frame : Value}
    (a_check_frame : PySem.W.nsIn K mainGlobals "_check_frame" = some (some (.ref f_check_frame)))
    (l_check_frame : K.lookup f_check_frame = some ⟨oc_check_frame, od_check_frame, .func (PySem.W.fnOf "_check_frame" "_check_frame" (defArgs s_check_frame) (defBody s_check_frame) (defScope s_check_frame) .none kV_check_frame dc_check_frame pm_check_frame an_check_frame cd_check_frame ct_check_frame), sl_check_frame⟩) (c_check_frame : PySem.W.codeIn K cd_check_frame "_check_frame" = true) (k_check_frame : PySem.W.keepIn K (.ref f_check_frame) = true)
    {od_check_rules an_check_rules : Option Addr} {sl_check_rules : Array (Option Value)} {oc_check_rules kV_check_rules dc_check_rules pm_check_rules cd_check_rules ct_check_rules : Value}
    (a_check_rules : PySem.W.nsIn K mainGlobals "_check_rules" = some (some (.ref f_check_rules)))
    (l_check_rules : K.lookup f_check_rules = some ⟨oc_check_rules, od_check_rules, .func (PySem.W.fnOf "_check_rules" "_check_rules" (defArgs s_check_rules) (defBody s_check_rules) (defScope s_check_rules) .none kV_check_rules dc_check_rules pm_check_rules an_check_rules cd_check_rules ct_check_rules), sl_check_rules⟩) (c_check_rules : PySem.W.codeIn K cd_check_rules "_check_rules" = true) (k_check_rules : PySem.W.keepIn K (.ref f_check_rules) = true)
    {od_check_moves an_check_moves : Option Addr} {sl_check_moves : Array (Option Value)} {oc_check_moves kV_check_moves dc_check_moves pm_check_moves cd_check_moves ct_check_moves : Value}
    (a_check_moves : PySem.W.nsIn K mainGlobals "_check_moves" = some (some (.ref f_check_moves)))
    (l_check_moves : K.lookup f_check_moves = some ⟨oc_check_moves, od_check_moves, .func (PySem.W.fnOf "_check_moves" "_check_moves" (defArgs s_check_moves) (defBody s_check_moves) (defScope s_check_moves) .none kV_check_moves dc_check_moves pm_check_moves an_check_moves cd_check_moves ct_check_moves), sl_check_moves⟩) (c_check_moves : PySem.W.codeIn K cd_check_moves "_check_moves" = true) (k_check_moves : PySem.W.keepIn K (.ref f_check_moves) = true)
    {od_is_rule an_is_rule : Option Addr} {sl_is_rule : Array (Option Value)} {oc_is_rule kV_is_rule dc_is_rule pm_is_rule cd_is_rule ct_is_rule : Value}
    (a_is_rule : PySem.W.nsIn K mainGlobals "_is_rule" = some (some (.ref f_is_rule)))
    (l_is_rule : K.lookup f_is_rule = some ⟨oc_is_rule, od_is_rule, .func (PySem.W.fnOf "_is_rule" "_is_rule" (defArgs s_is_rule) (defBody s_is_rule) (defScope s_is_rule) .none kV_is_rule dc_is_rule pm_is_rule an_is_rule cd_is_rule ct_is_rule), sl_is_rule⟩) (c_is_rule : PySem.W.codeIn K cd_is_rule "_is_rule" = true) (k_is_rule : PySem.W.keepIn K (.ref f_is_rule) = true)
    {od_is_move an_is_move : Option Addr} {sl_is_move : Array (Option Value)} {oc_is_move kV_is_move dc_is_move pm_is_move cd_is_move ct_is_move : Value}
    (a_is_move : PySem.W.nsIn K mainGlobals "_is_move" = some (some (.ref f_is_move)))
    (l_is_move : K.lookup f_is_move = some ⟨oc_is_move, od_is_move, .func (PySem.W.fnOf "_is_move" "_is_move" (defArgs s_is_move) (defBody s_is_move) (defScope s_is_move) .none kV_is_move dc_is_move pm_is_move an_is_move cd_is_move ct_is_move), sl_is_move⟩) (c_is_move : PySem.W.codeIn K cd_is_move "_is_move" = true) (k_is_move : PySem.W.keepIn K (.ref f_is_move) = true)
    {od_is_price an_is_price : Option Addr} {sl_is_price : Array (Option Value)} {oc_is_price kV_is_price dc_is_price pm_is_price cd_is_price ct_is_price : Value}
    (a_is_price : PySem.W.nsIn K mainGlobals "is_price" = some (some (.ref f_is_price)))
    (l_is_price : K.lookup f_is_price = some ⟨oc_is_price, od_is_price, .func (PySem.W.fnOf "is_price" "is_price" (defArgs s_is_price) (defBody s_is_price) (defScope s_is_price) .none kV_is_price dc_is_price pm_is_price an_is_price cd_is_price ct_is_price), sl_is_price⟩) (c_is_price : PySem.W.codeIn K cd_is_price "is_price" = true) (k_is_price : PySem.W.keepIn K (.ref f_is_price) = true)
    {od_Web_init an_Web_init : Option Addr} {sl_Web_init : Array (Option Value)} {oc_Web_init kV_Web_init dc_Web_init pm_Web_init cd_Web_init ct_Web_init : Value}
    (a_Web_init : PySem.W.findIn K (.ref c_Web) "__init__" = some (some (.ref f_Web_init)))
    (l_Web_init : K.lookup f_Web_init = some ⟨oc_Web_init, od_Web_init, .func (PySem.W.fnOf "__init__" "Web.__init__" (defArgs s_Web_init) (defBody s_Web_init) (defScope s_Web_init) .none kV_Web_init dc_Web_init pm_Web_init an_Web_init cd_Web_init ct_Web_init), sl_Web_init⟩) (c_Web_init : PySem.W.codeIn K cd_Web_init "Web.__init__" = true) (k_Web_init : PySem.W.keepIn K (.ref f_Web_init) = true)
    {od_is_value an_is_value : Option Addr} {sl_is_value : Array (Option Value)} {oc_is_value kV_is_value dc_is_value pm_is_value cd_is_value ct_is_value : Value}
    (a_is_value : PySem.W.nsIn K mainGlobals "_is_value" = some (some (.ref f_is_value)))
    (l_is_value : K.lookup f_is_value = some ⟨oc_is_value, od_is_value, .func (PySem.W.fnOf "_is_value" "_is_value" (defArgs s_is_value) (defBody s_is_value) (defScope s_is_value) .none kV_is_value dc_is_value pm_is_value an_is_value cd_is_value ct_is_value), sl_is_value⟩) (c_is_value : PySem.W.codeIn K cd_is_value "_is_value" = true) (k_is_value : PySem.W.keepIn K (.ref f_is_value) = true)
    {od_fits an_fits : Option Addr} {sl_fits : Array (Option Value)} {oc_fits kV_fits dc_fits pm_fits cd_fits ct_fits : Value}
    (a_fits : PySem.W.nsIn K mainGlobals "fits" = some (some (.ref f_fits)))
    (l_fits : K.lookup f_fits = some ⟨oc_fits, od_fits, .func (PySem.W.fnOf "fits" "fits" (defArgs s_fits) (defBody s_fits) (defScope s_fits) .none kV_fits dc_fits pm_fits an_fits cd_fits ct_fits), sl_fits⟩) (c_fits : PySem.W.codeIn K cd_fits "fits" = true) (k_fits : PySem.W.keepIn K (.ref f_fits) = true)
    {od_is_row_of an_is_row_of : Option Addr} {sl_is_row_of : Array (Option Value)} {oc_is_row_of kV_is_row_of dc_is_row_of pm_is_row_of cd_is_row_of ct_is_row_of : Value}
    (a_is_row_of : PySem.W.nsIn K mainGlobals "_is_row_of" = some (some (.ref f_is_row_of)))
    (l_is_row_of : K.lookup f_is_row_of = some ⟨oc_is_row_of, od_is_row_of, .func (PySem.W.fnOf "_is_row_of" "_is_row_of" (defArgs s_is_row_of) (defBody s_is_row_of) (defScope s_is_row_of) .none kV_is_row_of dc_is_row_of pm_is_row_of an_is_row_of cd_is_row_of ct_is_row_of), sl_is_row_of⟩) (c_is_row_of : PySem.W.codeIn K cd_is_row_of "_is_row_of" = true) (k_is_row_of : PySem.W.keepIn K (.ref f_is_row_of) = true)
    {od_check_web an_check_web : Option Addr} {sl_check_web : Array (Option Value)} {oc_check_web kV_check_web dc_check_web pm_check_web cd_check_web ct_check_web : Value}
    (a_check_web : PySem.W.nsIn K mainGlobals "check_web" = some (some (.ref f_check_web)))
    (l_check_web : K.lookup f_check_web = some ⟨oc_check_web, od_check_web, .func (PySem.W.fnOf "check_web" "check_web" (defArgs s_check_web) (defBody s_check_web) (defScope s_check_web) .none kV_check_web dc_check_web pm_check_web an_check_web cd_check_web ct_check_web), sl_check_web⟩) (c_check_web : PySem.W.codeIn K cd_check_web "check_web" = true) (k_check_web : PySem.W.keepIn K (.ref f_check_web) = true)
    {od_makeable an_makeable : Option Addr} {sl_makeable : Array (Option Value)} {oc_makeable kV_makeable dc_makeable pm_makeable cd_makeable ct_makeable : Value}
    (a_makeable : PySem.W.nsIn K mainGlobals "makeable" = some (some (.ref f_makeable)))
    (l_makeable : K.lookup f_makeable = some ⟨oc_makeable, od_makeable, .func (PySem.W.fnOf "makeable" "makeable" (defArgs s_makeable) (defBody s_makeable) (defScope s_makeable) .none kV_makeable dc_makeable pm_makeable an_makeable cd_makeable ct_makeable), sl_makeable⟩) (c_makeable : PySem.W.codeIn K cd_makeable "makeable" = true) (k_makeable : PySem.W.keepIn K (.ref f_makeable) = true)
    {od_kinds_made an_kinds_made : Option Addr} {sl_kinds_made : Array (Option Value)} {oc_kinds_made kV_kinds_made dc_kinds_made pm_kinds_made cd_kinds_made ct_kinds_made : Value}
    (a_kinds_made : PySem.W.nsIn K mainGlobals "_kinds_made" = some (some (.ref f_kinds_made)))
    (l_kinds_made : K.lookup f_kinds_made = some ⟨oc_kinds_made, od_kinds_made, .func (PySem.W.fnOf "_kinds_made" "_kinds_made" (defArgs s_kinds_made) (defBody s_kinds_made) (defScope s_kinds_made) .none kV_kinds_made dc_kinds_made pm_kinds_made an_kinds_made cd_kinds_made ct_kinds_made), sl_kinds_made⟩) (c_kinds_made : PySem.W.codeIn K cd_kinds_made "_kinds_made" = true) (k_kinds_made : PySem.W.keepIn K (.ref f_kinds_made) = true)
    {od_is_thing an_is_thing : Option Addr} {sl_is_thing : Array (Option Value)} {oc_is_thing kV_is_thing dc_is_thing pm_is_thing cd_is_thing ct_is_thing : Value}
    (a_is_thing : PySem.W.nsIn K mainGlobals "is_thing" = some (some (.ref f_is_thing)))
    (l_is_thing : K.lookup f_is_thing = some ⟨oc_is_thing, od_is_thing, .func (PySem.W.fnOf "is_thing" "is_thing" (defArgs s_is_thing) (defBody s_is_thing) (defScope s_is_thing) .none kV_is_thing dc_is_thing pm_is_thing an_is_thing cd_is_thing ct_is_thing), sl_is_thing⟩) (c_is_thing : PySem.W.codeIn K cd_is_thing "is_thing" = true) (k_is_thing : PySem.W.keepIn K (.ref f_is_thing) = true)
    {od_is_way an_is_way : Option Addr} {sl_is_way : Array (Option Value)} {oc_is_way kV_is_way dc_is_way pm_is_way cd_is_way ct_is_way : Value}
    (a_is_way : PySem.W.nsIn K mainGlobals "is_way" = some (some (.ref f_is_way)))
    (l_is_way : K.lookup f_is_way = some ⟨oc_is_way, od_is_way, .func (PySem.W.fnOf "is_way" "is_way" (defArgs s_is_way) (defBody s_is_way) (defScope s_is_way) .none kV_is_way dc_is_way pm_is_way an_is_way cd_is_way ct_is_way), sl_is_way⟩) (c_is_way : PySem.W.codeIn K cd_is_way "is_way" = true) (k_is_way : PySem.W.keepIn K (.ref f_is_way) = true)
    {od_is_way_to an_is_way_to : Option Addr} {sl_is_way_to : Array (Option Value)} {oc_is_way_to kV_is_way_to dc_is_way_to pm_is_way_to cd_is_way_to ct_is_way_to : Value}
    (a_is_way_to : PySem.W.nsIn K mainGlobals "is_way_to" = some (some (.ref f_is_way_to)))
    (l_is_way_to : K.lookup f_is_way_to = some ⟨oc_is_way_to, od_is_way_to, .func (PySem.W.fnOf "is_way_to" "is_way_to" (defArgs s_is_way_to) (defBody s_is_way_to) (defScope s_is_way_to) .none kV_is_way_to dc_is_way_to pm_is_way_to an_is_way_to cd_is_way_to ct_is_way_to), sl_is_way_to⟩) (c_is_way_to : PySem.W.codeIn K cd_is_way_to "is_way_to" = true) (k_is_way_to : PySem.W.keepIn K (.ref f_is_way_to) = true)
    {od_ways_to an_ways_to : Option Addr} {sl_ways_to : Array (Option Value)} {oc_ways_to kV_ways_to dc_ways_to pm_ways_to cd_ways_to ct_ways_to : Value}
    (a_ways_to : PySem.W.nsIn K mainGlobals "ways_to" = some (some (.ref f_ways_to)))
    (l_ways_to : K.lookup f_ways_to = some ⟨oc_ways_to, od_ways_to, .func (PySem.W.fnOf "ways_to" "ways_to" (defArgs s_ways_to) (defBody s_ways_to) (defScope s_ways_to) .none kV_ways_to dc_ways_to pm_ways_to an_ways_to cd_ways_to ct_ways_to), sl_ways_to⟩) (c_ways_to : PySem.W.codeIn K cd_ways_to "ways_to" = true) (k_ways_to : PySem.W.keepIn K (.ref f_ways_to) = true)
    {od_needs_for an_needs_for : Option Addr} {sl_needs_for : Array (Option Value)} {oc_needs_for kV_needs_for dc_needs_for pm_needs_for cd_needs_for ct_needs_for : Value}
    (a_needs_for : PySem.W.nsIn K mainGlobals "needs_for" = some (some (.ref f_needs_for)))
    (l_needs_for : K.lookup f_needs_for = some ⟨oc_needs_for, od_needs_for, .func (PySem.W.fnOf "needs_for" "needs_for" (defArgs s_needs_for) (defBody s_needs_for) (defScope s_needs_for) .none kV_needs_for dc_needs_for pm_needs_for an_needs_for cd_needs_for ct_needs_for), sl_needs_for⟩) (c_needs_for : PySem.W.codeIn K cd_needs_for "needs_for" = true) (k_needs_for : PySem.W.keepIn K (.ref f_needs_for) = true)
    {od_needs_by_parts an_needs_by_parts : Option Addr} {sl_needs_by_parts : Array (Option Value)} {oc_needs_by_parts kV_needs_by_parts dc_needs_by_parts pm_needs_by_parts cd_needs_by_parts ct_needs_by_parts : Value}
    (a_needs_by_parts : PySem.W.nsIn K mainGlobals "needs_by_parts" = some (some (.ref f_needs_by_parts)))
    (l_needs_by_parts : K.lookup f_needs_by_parts = some ⟨oc_needs_by_parts, od_needs_by_parts, .func (PySem.W.fnOf "needs_by_parts" "needs_by_parts" (defArgs s_needs_by_parts) (defBody s_needs_by_parts) (defScope s_needs_by_parts) .none kV_needs_by_parts dc_needs_by_parts pm_needs_by_parts an_needs_by_parts cd_needs_by_parts ct_needs_by_parts), sl_needs_by_parts⟩) (c_needs_by_parts : PySem.W.codeIn K cd_needs_by_parts "needs_by_parts" = true) (k_needs_by_parts : PySem.W.keepIn K (.ref f_needs_by_parts) = true)
    {od_all_in an_all_in : Option Addr} {sl_all_in : Array (Option Value)} {oc_all_in kV_all_in dc_all_in pm_all_in cd_all_in ct_all_in : Value}
    (a_all_in : PySem.W.nsIn K mainGlobals "all_in" = some (some (.ref f_all_in)))
    (l_all_in : K.lookup f_all_in = some ⟨oc_all_in, od_all_in, .func (PySem.W.fnOf "all_in" "all_in" (defArgs s_all_in) (defBody s_all_in) (defScope s_all_in) .none kV_all_in dc_all_in pm_all_in an_all_in cd_all_in ct_all_in), sl_all_in⟩) (c_all_in : PySem.W.codeIn K cd_all_in "all_in" = true) (k_all_in : PySem.W.keepIn K (.ref f_all_in) = true)
    {od_way_price an_way_price : Option Addr} {sl_way_price : Array (Option Value)} {oc_way_price kV_way_price dc_way_price pm_way_price cd_way_price ct_way_price : Value}
    (a_way_price : PySem.W.nsIn K mainGlobals "way_price" = some (some (.ref f_way_price)))
    (l_way_price : K.lookup f_way_price = some ⟨oc_way_price, od_way_price, .func (PySem.W.fnOf "way_price" "way_price" (defArgs s_way_price) (defBody s_way_price) (defScope s_way_price) .none kV_way_price dc_way_price pm_way_price an_way_price cd_way_price ct_way_price), sl_way_price⟩) (c_way_price : PySem.W.codeIn K cd_way_price "way_price" = true) (k_way_price : PySem.W.keepIn K (.ref f_way_price) = true)
    {od_is_plan an_is_plan : Option Addr} {sl_is_plan : Array (Option Value)} {oc_is_plan kV_is_plan dc_is_plan pm_is_plan cd_is_plan ct_is_plan : Value}
    (a_is_plan : PySem.W.nsIn K mainGlobals "is_plan" = some (some (.ref f_is_plan)))
    (l_is_plan : K.lookup f_is_plan = some ⟨oc_is_plan, od_is_plan, .func (PySem.W.fnOf "is_plan" "is_plan" (defArgs s_is_plan) (defBody s_is_plan) (defScope s_is_plan) .none kV_is_plan dc_is_plan pm_is_plan an_is_plan cd_is_plan ct_is_plan), sl_is_plan⟩) (c_is_plan : PySem.W.codeIn K cd_is_plan "is_plan" = true) (k_is_plan : PySem.W.keepIn K (.ref f_is_plan) = true)
    {od_price an_price : Option Addr} {sl_price : Array (Option Value)} {oc_price kV_price dc_price pm_price cd_price ct_price : Value}
    (a_price : PySem.W.nsIn K mainGlobals "price" = some (some (.ref f_price)))
    (l_price : K.lookup f_price = some ⟨oc_price, od_price, .func (PySem.W.fnOf "price" "price" (defArgs s_price) (defBody s_price) (defScope s_price) .none kV_price dc_price pm_price an_price cd_price ct_price), sl_price⟩) (c_price : PySem.W.codeIn K cd_price "price" = true) (k_price : PySem.W.keepIn K (.ref f_price) = true)
    {od_is_wishes an_is_wishes : Option Addr} {sl_is_wishes : Array (Option Value)} {oc_is_wishes kV_is_wishes dc_is_wishes pm_is_wishes cd_is_wishes ct_is_wishes : Value}
    (a_is_wishes : PySem.W.nsIn K mainGlobals "is_wishes" = some (some (.ref f_is_wishes)))
    (l_is_wishes : K.lookup f_is_wishes = some ⟨oc_is_wishes, od_is_wishes, .func (PySem.W.fnOf "is_wishes" "is_wishes" (defArgs s_is_wishes) (defBody s_is_wishes) (defScope s_is_wishes) .none kV_is_wishes dc_is_wishes pm_is_wishes an_is_wishes cd_is_wishes ct_is_wishes), sl_is_wishes⟩) (c_is_wishes : PySem.W.codeIn K cd_is_wishes "is_wishes" = true) (k_is_wishes : PySem.W.keepIn K (.ref f_is_wishes) = true)
    {od_is_lot_of an_is_lot_of : Option Addr} {sl_is_lot_of : Array (Option Value)} {oc_is_lot_of kV_is_lot_of dc_is_lot_of pm_is_lot_of cd_is_lot_of ct_is_lot_of : Value}
    (a_is_lot_of : PySem.W.nsIn K mainGlobals "is_lot_of" = some (some (.ref f_is_lot_of)))
    (l_is_lot_of : K.lookup f_is_lot_of = some ⟨oc_is_lot_of, od_is_lot_of, .func (PySem.W.fnOf "is_lot_of" "is_lot_of" (defArgs s_is_lot_of) (defBody s_is_lot_of) (defScope s_is_lot_of) .none kV_is_lot_of dc_is_lot_of pm_is_lot_of an_is_lot_of cd_is_lot_of ct_is_lot_of), sl_is_lot_of⟩) (c_is_lot_of : PySem.W.codeIn K cd_is_lot_of "is_lot_of" = true) (k_is_lot_of : PySem.W.keepIn K (.ref f_is_lot_of) = true)
    {od_check_wishes an_check_wishes : Option Addr} {sl_check_wishes : Array (Option Value)} {oc_check_wishes kV_check_wishes dc_check_wishes pm_check_wishes cd_check_wishes ct_check_wishes : Value}
    (a_check_wishes : PySem.W.nsIn K mainGlobals "check_wishes" = some (some (.ref f_check_wishes)))
    (l_check_wishes : K.lookup f_check_wishes = some ⟨oc_check_wishes, od_check_wishes, .func (PySem.W.fnOf "check_wishes" "check_wishes" (defArgs s_check_wishes) (defBody s_check_wishes) (defScope s_check_wishes) .none kV_check_wishes dc_check_wishes pm_check_wishes an_check_wishes cd_check_wishes ct_check_wishes), sl_check_wishes⟩) (c_check_wishes : PySem.W.codeIn K cd_check_wishes "check_wishes" = true) (k_check_wishes : PySem.W.keepIn K (.ref f_check_wishes) = true)
    {od_check_plan an_check_plan : Option Addr} {sl_check_plan : Array (Option Value)} {oc_check_plan kV_check_plan dc_check_plan pm_check_plan cd_check_plan ct_check_plan : Value}
    (a_check_plan : PySem.W.nsIn K mainGlobals "check_plan" = some (some (.ref f_check_plan)))
    (l_check_plan : K.lookup f_check_plan = some ⟨oc_check_plan, od_check_plan, .func (PySem.W.fnOf "check_plan" "check_plan" (defArgs s_check_plan) (defBody s_check_plan) (defScope s_check_plan) .none kV_check_plan dc_check_plan pm_check_plan an_check_plan cd_check_plan ct_check_plan), sl_check_plan⟩) (c_check_plan : PySem.W.codeIn K cd_check_plan "check_plan" = true) (k_check_plan : PySem.W.keepIn K (.ref f_check_plan) = true)
    {od_is_plan_for an_is_plan_for : Option Addr} {sl_is_plan_for : Array (Option Value)} {oc_is_plan_for kV_is_plan_for dc_is_plan_for pm_is_plan_for cd_is_plan_for ct_is_plan_for : Value}
    (a_is_plan_for : PySem.W.nsIn K mainGlobals "_is_plan_for" = some (some (.ref f_is_plan_for)))
    (l_is_plan_for : K.lookup f_is_plan_for = some ⟨oc_is_plan_for, od_is_plan_for, .func (PySem.W.fnOf "_is_plan_for" "_is_plan_for" (defArgs s_is_plan_for) (defBody s_is_plan_for) (defScope s_is_plan_for) .none kV_is_plan_for dc_is_plan_for pm_is_plan_for an_is_plan_for cd_is_plan_for ct_is_plan_for), sl_is_plan_for⟩) (c_is_plan_for : PySem.W.codeIn K cd_is_plan_for "_is_plan_for" = true) (k_is_plan_for : PySem.W.keepIn K (.ref f_is_plan_for) = true)
    {od_is_making an_is_making : Option Addr} {sl_is_making : Array (Option Value)} {oc_is_making kV_is_making dc_is_making pm_is_making cd_is_making ct_is_making : Value}
    (a_is_making : PySem.W.nsIn K mainGlobals "is_making" = some (some (.ref f_is_making)))
    (l_is_making : K.lookup f_is_making = some ⟨oc_is_making, od_is_making, .func (PySem.W.fnOf "is_making" "is_making" (defArgs s_is_making) (defBody s_is_making) (defScope s_is_making) .none kV_is_making dc_is_making pm_is_making an_is_making cd_is_making ct_is_making), sl_is_making⟩) (c_is_making : PySem.W.codeIn K cd_is_making "is_making" = true) (k_is_making : PySem.W.keepIn K (.ref f_is_making) = true)
    {od_is_choice an_is_choice : Option Addr} {sl_is_choice : Array (Option Value)} {oc_is_choice kV_is_choice dc_is_choice pm_is_choice cd_is_choice ct_is_choice : Value}
    (a_is_choice : PySem.W.nsIn K mainGlobals "is_choice" = some (some (.ref f_is_choice)))
    (l_is_choice : K.lookup f_is_choice = some ⟨oc_is_choice, od_is_choice, .func (PySem.W.fnOf "is_choice" "is_choice" (defArgs s_is_choice) (defBody s_is_choice) (defScope s_is_choice) .none kV_is_choice dc_is_choice pm_is_choice an_is_choice cd_is_choice ct_is_choice), sl_is_choice⟩) (c_is_choice : PySem.W.codeIn K cd_is_choice "is_choice" = true) (k_is_choice : PySem.W.keepIn K (.ref f_is_choice) = true)
    {od_check_choice an_check_choice : Option Addr} {sl_check_choice : Array (Option Value)} {oc_check_choice kV_check_choice dc_check_choice pm_check_choice cd_check_choice ct_check_choice : Value}
    (a_check_choice : PySem.W.nsIn K mainGlobals "check_choice" = some (some (.ref f_check_choice)))
    (l_check_choice : K.lookup f_check_choice = some ⟨oc_check_choice, od_check_choice, .func (PySem.W.fnOf "check_choice" "check_choice" (defArgs s_check_choice) (defBody s_check_choice) (defScope s_check_choice) .none kV_check_choice dc_check_choice pm_check_choice an_check_choice cd_check_choice ct_check_choice), sl_check_choice⟩) (c_check_choice : PySem.W.codeIn K cd_check_choice "check_choice" = true) (k_check_choice : PySem.W.keepIn K (.ref f_check_choice) = true)
    {od_is_usable an_is_usable : Option Addr} {sl_is_usable : Array (Option Value)} {oc_is_usable kV_is_usable dc_is_usable pm_is_usable cd_is_usable ct_is_usable : Value}
    (a_is_usable : PySem.W.nsIn K mainGlobals "_is_usable" = some (some (.ref f_is_usable)))
    (l_is_usable : K.lookup f_is_usable = some ⟨oc_is_usable, od_is_usable, .func (PySem.W.fnOf "_is_usable" "_is_usable" (defArgs s_is_usable) (defBody s_is_usable) (defScope s_is_usable) .none kV_is_usable dc_is_usable pm_is_usable an_is_usable cd_is_usable ct_is_usable), sl_is_usable⟩) (c_is_usable : PySem.W.codeIn K cd_is_usable "_is_usable" = true) (k_is_usable : PySem.W.keepIn K (.ref f_is_usable) = true)
    {od_first_that_returns an_first_that_returns : Option Addr} {sl_first_that_returns : Array (Option Value)} {oc_first_that_returns kV_first_that_returns dc_first_that_returns pm_first_that_returns cd_first_that_returns ct_first_that_returns : Value}
    (a_first_that_returns : PySem.W.nsIn K mainGlobals "_first_that_returns" = some (some (.ref f_first_that_returns)))
    (l_first_that_returns : K.lookup f_first_that_returns = some ⟨oc_first_that_returns, od_first_that_returns, .func (PySem.W.fnOf "_first_that_returns" "_first_that_returns" (defArgs s_first_that_returns) (defBody s_first_that_returns) (defScope s_first_that_returns) .none kV_first_that_returns dc_first_that_returns pm_first_that_returns an_first_that_returns cd_first_that_returns ct_first_that_returns), sl_first_that_returns⟩) (c_first_that_returns : PySem.W.codeIn K cd_first_that_returns "_first_that_returns" = true) (k_first_that_returns : PySem.W.keepIn K (.ref f_first_that_returns) = true)
    {od_returns an_returns : Option Addr} {sl_returns : Array (Option Value)} {oc_returns kV_returns dc_returns pm_returns cd_returns ct_returns : Value}
    (a_returns : PySem.W.nsIn K mainGlobals "_returns" = some (some (.ref f_returns)))
    (l_returns : K.lookup f_returns = some ⟨oc_returns, od_returns, .func (PySem.W.fnOf "_returns" "_returns" (defArgs s_returns) (defBody s_returns) (defScope s_returns) .none kV_returns dc_returns pm_returns an_returns cd_returns ct_returns), sl_returns⟩) (c_returns : PySem.W.codeIn K cd_returns "_returns" = true) (k_returns : PySem.W.keepIn K (.ref f_returns) = true)
    {od_needed an_needed : Option Addr} {sl_needed : Array (Option Value)} {oc_needed kV_needed dc_needed pm_needed cd_needed ct_needed : Value}
    (a_needed : PySem.W.nsIn K mainGlobals "needed" = some (some (.ref f_needed)))
    (l_needed : K.lookup f_needed = some ⟨oc_needed, od_needed, .func (PySem.W.fnOf "needed" "needed" (defArgs s_needed) (defBody s_needed) (defScope s_needed) .none kV_needed dc_needed pm_needed an_needed cd_needed ct_needed), sl_needed⟩) (c_needed : PySem.W.codeIn K cd_needed "needed" = true) (k_needed : PySem.W.keepIn K (.ref f_needed) = true)
    {od_plan_by an_plan_by : Option Addr} {sl_plan_by : Array (Option Value)} {oc_plan_by kV_plan_by dc_plan_by pm_plan_by cd_plan_by ct_plan_by : Value}
    (a_plan_by : PySem.W.nsIn K mainGlobals "plan_by" = some (some (.ref f_plan_by)))
    (l_plan_by : K.lookup f_plan_by = some ⟨oc_plan_by, od_plan_by, .func (PySem.W.fnOf "plan_by" "plan_by" (defArgs s_plan_by) (defBody s_plan_by) (defScope s_plan_by) .none kV_plan_by dc_plan_by pm_plan_by an_plan_by cd_plan_by ct_plan_by), sl_plan_by⟩) (c_plan_by : PySem.W.codeIn K cd_plan_by "plan_by" = true) (k_plan_by : PySem.W.keepIn K (.ref f_plan_by) = true)
    {od_cost an_cost : Option Addr} {sl_cost : Array (Option Value)} {oc_cost kV_cost dc_cost pm_cost cd_cost ct_cost : Value}
    (a_cost : PySem.W.nsIn K mainGlobals "cost" = some (some (.ref f_cost)))
    (l_cost : K.lookup f_cost = some ⟨oc_cost, od_cost, .func (PySem.W.fnOf "cost" "cost" (defArgs s_cost) (defBody s_cost) (defScope s_cost) .none kV_cost dc_cost pm_cost an_cost cd_cost ct_cost), sl_cost⟩) (c_cost : PySem.W.codeIn K cd_cost "cost" = true) (k_cost : PySem.W.keepIn K (.ref f_cost) = true)
    {od_links_of an_links_of : Option Addr} {sl_links_of : Array (Option Value)} {oc_links_of kV_links_of dc_links_of pm_links_of cd_links_of ct_links_of : Value}
    (a_links_of : PySem.W.nsIn K mainGlobals "links_of" = some (some (.ref f_links_of)))
    (l_links_of : K.lookup f_links_of = some ⟨oc_links_of, od_links_of, .func (PySem.W.fnOf "links_of" "links_of" (defArgs s_links_of) (defBody s_links_of) (defScope s_links_of) .none kV_links_of dc_links_of pm_links_of an_links_of cd_links_of ct_links_of), sl_links_of⟩) (c_links_of : PySem.W.codeIn K cd_links_of "links_of" = true) (k_links_of : PySem.W.keepIn K (.ref f_links_of) = true)
    {od_needed_by an_needed_by : Option Addr} {sl_needed_by : Array (Option Value)} {oc_needed_by kV_needed_by dc_needed_by pm_needed_by cd_needed_by ct_needed_by : Value}
    (a_needed_by : PySem.W.nsIn K mainGlobals "needed_by" = some (some (.ref f_needed_by)))
    (l_needed_by : K.lookup f_needed_by = some ⟨oc_needed_by, od_needed_by, .func (PySem.W.fnOf "needed_by" "needed_by" (defArgs s_needed_by) (defBody s_needed_by) (defScope s_needed_by) .none kV_needed_by dc_needed_by pm_needed_by an_needed_by cd_needed_by ct_needed_by), sl_needed_by⟩) (c_needed_by : PySem.W.codeIn K cd_needed_by "needed_by" = true) (k_needed_by : PySem.W.keepIn K (.ref f_needed_by) = true)
    {od_plan_of an_plan_of : Option Addr} {sl_plan_of : Array (Option Value)} {oc_plan_of kV_plan_of dc_plan_of pm_plan_of cd_plan_of ct_plan_of : Value}
    (a_plan_of : PySem.W.nsIn K mainGlobals "plan_of" = some (some (.ref f_plan_of)))
    (l_plan_of : K.lookup f_plan_of = some ⟨oc_plan_of, od_plan_of, .func (PySem.W.fnOf "plan_of" "plan_of" (defArgs s_plan_of) (defBody s_plan_of) (defScope s_plan_of) .none kV_plan_of dc_plan_of pm_plan_of an_plan_of cd_plan_of ct_plan_of), sl_plan_of⟩) (c_plan_of : PySem.W.codeIn K cd_plan_of "plan_of" = true) (k_plan_of : PySem.W.keepIn K (.ref f_plan_of) = true)
    {od_first_ready an_first_ready : Option Addr} {sl_first_ready : Array (Option Value)} {oc_first_ready kV_first_ready dc_first_ready pm_first_ready cd_first_ready ct_first_ready : Value}
    (a_first_ready : PySem.W.nsIn K mainGlobals "_first_ready" = some (some (.ref f_first_ready)))
    (l_first_ready : K.lookup f_first_ready = some ⟨oc_first_ready, od_first_ready, .func (PySem.W.fnOf "_first_ready" "_first_ready" (defArgs s_first_ready) (defBody s_first_ready) (defScope s_first_ready) .none kV_first_ready dc_first_ready pm_first_ready an_first_ready cd_first_ready ct_first_ready), sl_first_ready⟩) (c_first_ready : PySem.W.codeIn K cd_first_ready "_first_ready" = true) (k_first_ready : PySem.W.keepIn K (.ref f_first_ready) = true)
    {od_law_bag an_law_bag : Option Addr} {sl_law_bag : Array (Option Value)} {oc_law_bag kV_law_bag dc_law_bag pm_law_bag cd_law_bag ct_law_bag : Value}
    (a_law_bag : PySem.W.nsIn K mainGlobals "_law_bag" = some (some (.ref f_law_bag)))
    (l_law_bag : K.lookup f_law_bag = some ⟨oc_law_bag, od_law_bag, .func (PySem.W.fnOf "_law_bag" "_law_bag" (defArgs s_law_bag) (defBody s_law_bag) (defScope s_law_bag) .none kV_law_bag dc_law_bag pm_law_bag an_law_bag cd_law_bag ct_law_bag), sl_law_bag⟩) (c_law_bag : PySem.W.codeIn K cd_law_bag "_law_bag" = true) (k_law_bag : PySem.W.keepIn K (.ref f_law_bag) = true)
    {od_law_pick an_law_pick : Option Addr} {sl_law_pick : Array (Option Value)} {oc_law_pick kV_law_pick dc_law_pick pm_law_pick cd_law_pick ct_law_pick : Value}
    (a_law_pick : PySem.W.nsIn K mainGlobals "_law_pick" = some (some (.ref f_law_pick)))
    (l_law_pick : K.lookup f_law_pick = some ⟨oc_law_pick, od_law_pick, .func (PySem.W.fnOf "_law_pick" "_law_pick" (defArgs s_law_pick) (defBody s_law_pick) (defScope s_law_pick) .none kV_law_pick dc_law_pick pm_law_pick an_law_pick cd_law_pick ct_law_pick), sl_law_pick⟩) (c_law_pick : PySem.W.codeIn K cd_law_pick "_law_pick" = true) (k_law_pick : PySem.W.keepIn K (.ref f_law_pick) = true)
    {od_law_some an_law_some : Option Addr} {sl_law_some : Array (Option Value)} {oc_law_some kV_law_some dc_law_some pm_law_some cd_law_some ct_law_some : Value}
    (a_law_some : PySem.W.nsIn K mainGlobals "_law_some" = some (some (.ref f_law_some)))
    (l_law_some : K.lookup f_law_some = some ⟨oc_law_some, od_law_some, .func (PySem.W.fnOf "_law_some" "_law_some" (defArgs s_law_some) (defBody s_law_some) (defScope s_law_some) .none kV_law_some dc_law_some pm_law_some an_law_some cd_law_some ct_law_some), sl_law_some⟩) (c_law_some : PySem.W.codeIn K cd_law_some "_law_some" = true) (k_law_some : PySem.W.keepIn K (.ref f_law_some) = true)
    {od_law_book an_law_book : Option Addr} {sl_law_book : Array (Option Value)} {oc_law_book kV_law_book dc_law_book pm_law_book cd_law_book ct_law_book : Value}
    (a_law_book : PySem.W.nsIn K mainGlobals "_law_book" = some (some (.ref f_law_book)))
    (l_law_book : K.lookup f_law_book = some ⟨oc_law_book, od_law_book, .func (PySem.W.fnOf "_law_book" "_law_book" (defArgs s_law_book) (defBody s_law_book) (defScope s_law_book) .none kV_law_book dc_law_book pm_law_book an_law_book cd_law_book ct_law_book), sl_law_book⟩) (c_law_book : PySem.W.codeIn K cd_law_book "_law_book" = true) (k_law_book : PySem.W.keepIn K (.ref f_law_book) = true)
    {od_law_values an_law_values : Option Addr} {sl_law_values : Array (Option Value)} {oc_law_values kV_law_values dc_law_values pm_law_values cd_law_values ct_law_values : Value}
    (a_law_values : PySem.W.nsIn K mainGlobals "_law_values" = some (some (.ref f_law_values)))
    (l_law_values : K.lookup f_law_values = some ⟨oc_law_values, od_law_values, .func (PySem.W.fnOf "_law_values" "_law_values" (defArgs s_law_values) (defBody s_law_values) (defScope s_law_values) .none kV_law_values dc_law_values pm_law_values an_law_values cd_law_values ct_law_values), sl_law_values⟩) (c_law_values : PySem.W.codeIn K cd_law_values "_law_values" = true) (k_law_values : PySem.W.keepIn K (.ref f_law_values) = true)
    {od_law_price an_law_price : Option Addr} {sl_law_price : Array (Option Value)} {oc_law_price kV_law_price dc_law_price pm_law_price cd_law_price ct_law_price : Value}
    (a_law_price : PySem.W.nsIn K mainGlobals "_law_price" = some (some (.ref f_law_price)))
    (l_law_price : K.lookup f_law_price = some ⟨oc_law_price, od_law_price, .func (PySem.W.fnOf "_law_price" "_law_price" (defArgs s_law_price) (defBody s_law_price) (defScope s_law_price) .none kV_law_price dc_law_price pm_law_price an_law_price cd_law_price ct_law_price), sl_law_price⟩) (c_law_price : PySem.W.codeIn K cd_law_price "_law_price" = true) (k_law_price : PySem.W.keepIn K (.ref f_law_price) = true)
    {od_law_needs an_law_needs : Option Addr} {sl_law_needs : Array (Option Value)} {oc_law_needs kV_law_needs dc_law_needs pm_law_needs cd_law_needs ct_law_needs : Value}
    (a_law_needs : PySem.W.nsIn K mainGlobals "_law_needs" = some (some (.ref f_law_needs)))
    (l_law_needs : K.lookup f_law_needs = some ⟨oc_law_needs, od_law_needs, .func (PySem.W.fnOf "_law_needs" "_law_needs" (defArgs s_law_needs) (defBody s_law_needs) (defScope s_law_needs) .none kV_law_needs dc_law_needs pm_law_needs an_law_needs cd_law_needs ct_law_needs), sl_law_needs⟩) (c_law_needs : PySem.W.codeIn K cd_law_needs "_law_needs" = true) (k_law_needs : PySem.W.keepIn K (.ref f_law_needs) = true)
    {od_law_usable an_law_usable : Option Addr} {sl_law_usable : Array (Option Value)} {oc_law_usable kV_law_usable dc_law_usable pm_law_usable cd_law_usable ct_law_usable : Value}
    (a_law_usable : PySem.W.nsIn K mainGlobals "_law_usable" = some (some (.ref f_law_usable)))
    (l_law_usable : K.lookup f_law_usable = some ⟨oc_law_usable, od_law_usable, .func (PySem.W.fnOf "_law_usable" "_law_usable" (defArgs s_law_usable) (defBody s_law_usable) (defScope s_law_usable) .none kV_law_usable dc_law_usable pm_law_usable an_law_usable cd_law_usable ct_law_usable), sl_law_usable⟩) (c_law_usable : PySem.W.codeIn K cd_law_usable "_law_usable" = true) (k_law_usable : PySem.W.keepIn K (.ref f_law_usable) = true)
    {od_law_needed an_law_needed : Option Addr} {sl_law_needed : Array (Option Value)} {oc_law_needed kV_law_needed dc_law_needed pm_law_needed cd_law_needed ct_law_needed : Value}
    (a_law_needed : PySem.W.nsIn K mainGlobals "_law_needed" = some (some (.ref f_law_needed)))
    (l_law_needed : K.lookup f_law_needed = some ⟨oc_law_needed, od_law_needed, .func (PySem.W.fnOf "_law_needed" "_law_needed" (defArgs s_law_needed) (defBody s_law_needed) (defScope s_law_needed) .none kV_law_needed dc_law_needed pm_law_needed an_law_needed cd_law_needed ct_law_needed), sl_law_needed⟩) (c_law_needed : PySem.W.codeIn K cd_law_needed "_law_needed" = true) (k_law_needed : PySem.W.keepIn K (.ref f_law_needed) = true)
    {od_law_cost an_law_cost : Option Addr} {sl_law_cost : Array (Option Value)} {oc_law_cost kV_law_cost dc_law_cost pm_law_cost cd_law_cost ct_law_cost : Value}
    (a_law_cost : PySem.W.nsIn K mainGlobals "_law_cost" = some (some (.ref f_law_cost)))
    (l_law_cost : K.lookup f_law_cost = some ⟨oc_law_cost, od_law_cost, .func (PySem.W.fnOf "_law_cost" "_law_cost" (defArgs s_law_cost) (defBody s_law_cost) (defScope s_law_cost) .none kV_law_cost dc_law_cost pm_law_cost an_law_cost cd_law_cost ct_law_cost), sl_law_cost⟩) (c_law_cost : PySem.W.codeIn K cd_law_cost "_law_cost" = true) (k_law_cost : PySem.W.keepIn K (.ref f_law_cost) = true)
    {od_law_drawn_choice an_law_drawn_choice : Option Addr} {sl_law_drawn_choice : Array (Option Value)} {oc_law_drawn_choice kV_law_drawn_choice dc_law_drawn_choice pm_law_drawn_choice cd_law_drawn_choice ct_law_drawn_choice : Value}
    (a_law_drawn_choice : PySem.W.nsIn K mainGlobals "_law_drawn_choice" = some (some (.ref f_law_drawn_choice)))
    (l_law_drawn_choice : K.lookup f_law_drawn_choice = some ⟨oc_law_drawn_choice, od_law_drawn_choice, .func (PySem.W.fnOf "_law_drawn_choice" "_law_drawn_choice" (defArgs s_law_drawn_choice) (defBody s_law_drawn_choice) (defScope s_law_drawn_choice) .none kV_law_drawn_choice dc_law_drawn_choice pm_law_drawn_choice an_law_drawn_choice cd_law_drawn_choice ct_law_drawn_choice), sl_law_drawn_choice⟩) (c_law_drawn_choice : PySem.W.codeIn K cd_law_drawn_choice "_law_drawn_choice" = true) (k_law_drawn_choice : PySem.W.keepIn K (.ref f_law_drawn_choice) = true)
    {od_law_plan an_law_plan : Option Addr} {sl_law_plan : Array (Option Value)} {oc_law_plan kV_law_plan dc_law_plan pm_law_plan cd_law_plan ct_law_plan : Value}
    (a_law_plan : PySem.W.nsIn K mainGlobals "_law_plan" = some (some (.ref f_law_plan)))
    (l_law_plan : K.lookup f_law_plan = some ⟨oc_law_plan, od_law_plan, .func (PySem.W.fnOf "_law_plan" "_law_plan" (defArgs s_law_plan) (defBody s_law_plan) (defScope s_law_plan) .none kV_law_plan dc_law_plan pm_law_plan an_law_plan cd_law_plan ct_law_plan), sl_law_plan⟩) (c_law_plan : PySem.W.codeIn K cd_law_plan "_law_plan" = true) (k_law_plan : PySem.W.keepIn K (.ref f_law_plan) = true)
    {od_law an_law : Option Addr} {sl_law : Array (Option Value)} {oc_law kV_law dc_law pm_law cd_law ct_law : Value}
    (a_law : PySem.W.nsIn K mainGlobals "law" = some (some (.ref f_law)))
    (l_law : K.lookup f_law = some ⟨oc_law, od_law, .func (PySem.W.fnOf "law" "law" (defArgs s_law) (defBody s_law) (defScope s_law) .none kV_law dc_law pm_law an_law cd_law ct_law), sl_law⟩) (c_law : PySem.W.codeIn K cd_law "law" = true) (k_law : PySem.W.keepIn K (.ref f_law) = true)
    (z_abs : PySem.W.nsIn K mainGlobals "abs" = some none)
    (z_all : PySem.W.nsIn K mainGlobals "all" = some none)
    (z_bool : PySem.W.nsIn K mainGlobals "bool" = some none)
    (z_dict : PySem.W.nsIn K mainGlobals "dict" = some none)
    (z_enumerate : PySem.W.nsIn K mainGlobals "enumerate" = some none)
    (z_int : PySem.W.nsIn K mainGlobals "int" = some none)
    (z_isinstance : PySem.W.nsIn K mainGlobals "isinstance" = some none)
    (z_len : PySem.W.nsIn K mainGlobals "len" = some none)
    (z_list : PySem.W.nsIn K mainGlobals "list" = some none)
    (z_max : PySem.W.nsIn K mainGlobals "max" = some none)
    (z_min : PySem.W.nsIn K mainGlobals "min" = some none)
    (z_range : PySem.W.nsIn K mainGlobals "range" = some none)
    (z_set : PySem.W.nsIn K mainGlobals "set" = some none)
    (z_sorted : PySem.W.nsIn K mainGlobals "sorted" = some none)
    (z_str : PySem.W.nsIn K mainGlobals "str" = some none)
    (z_sum : PySem.W.nsIn K mainGlobals "sum" = some none)
    (z_tuple : PySem.W.nsIn K mainGlobals "tuple" = some none)
    (z_zip : PySem.W.nsIn K mainGlobals "zip" = some none)
    (pg_Book : PySem.W.plainGet K c_Book Str.empty = true)
    (hd_Book : PySem.W.hasDictIn K c_Book = true)
    (po_Book : PySem.W.plainOver K c_Book = true)
    (sa_Book : PySem.W.findIn K (.ref c_Book) "__setattr__" = some (some (.builtin "object.__setattr__")))
    (mk_Book : PySem.W.makesIn K c_Book = true)
    (fi_Book_init : PySem.W.isFn K (.ref f_Book_init) = true)
    (kc_Book : PySem.W.keepIn K (.ref c_Book) = true)
    (ha_Book : PySem.W.findIn K (.ref c_Book) "__class__" = some (some (.builtin "object.__class__")))
    (hm_Book : PySem.W.mroIn K c_Book (.type "object") = some true)
    (nr_arities : PySem.W.findIn K (.ref c_Book) "arities" = some none)
    (nr_kinds : PySem.W.findIn K (.ref c_Book) "kinds" = some none)
    (nr_rules : PySem.W.findIn K (.ref c_Book) "rules" = some none)
    (nr_moves : PySem.W.findIn K (.ref c_Book) "moves" = some none)
    (pg_Web : PySem.W.plainGet K c_Web Str.empty = true)
    (hd_Web : PySem.W.hasDictIn K c_Web = true)
    (po_Web : PySem.W.plainOver K c_Web = true)
    (sa_Web : PySem.W.findIn K (.ref c_Web) "__setattr__" = some (some (.builtin "object.__setattr__")))
    (mk_Web : PySem.W.makesIn K c_Web = true)
    (fi_Web_init : PySem.W.isFn K (.ref f_Web_init) = true)
    (kc_Web : PySem.W.keepIn K (.ref c_Web) = true)
    (ha_Web : PySem.W.findIn K (.ref c_Web) "__class__" = some (some (.builtin "object.__class__")))
    (hm_Web : PySem.W.mroIn K c_Web (.type "object") = some true)
    (nr_rows : PySem.W.findIn K (.ref c_Web) "rows" = some none)
    (hn_cls : PySem.W.specialIn K (.builtin "object.__class__") "__get__" = some (some (.builtin "getset_descriptor.__get__")))
    (ht_cls : PySem.W.takesIn K (.builtin "object.__class__") = some true)
    (x_NoWishes : PySem.W.excIn K c_NoWishes [.type "ValueError", .type "Exception", .type "BaseException", .type "object"] "ValueError.__new__" = true)
    (kx_NoWishes : PySem.W.keepIn K (.ref c_NoWishes) = true)
    (bx_NoWishes : PySem.W.subIn K (.ref c_NoWishes) (.type "BaseException") = some true)
    (tx_NoWishes : PySem.W.typeIn K (.ref c_NoWishes) = some (.type "type"))
    (x_NoPlan : PySem.W.excIn K c_NoPlan [.type "ValueError", .type "Exception", .type "BaseException", .type "object"] "ValueError.__new__" = true)
    (kx_NoPlan : PySem.W.keepIn K (.ref c_NoPlan) = true)
    (bx_NoPlan : PySem.W.subIn K (.ref c_NoPlan) (.type "BaseException") = some true)
    (tx_NoPlan : PySem.W.typeIn K (.ref c_NoPlan) = some (.type "type"))
    (dx_NoPlan : PySem.W.hasDictIn K c_NoPlan = true)
    (sx_NoPlan : PySem.W.subIn K (.ref c_NoPlan) (.ref c_NoPlan) = some true)
    : ∃ fd : FuncData, (∀ (s : Shared) (v : Value), BindsTo s fd ⟨[v], []⟩ [("_law_script", v)]) ∧ ∀ base : Heap, K.In base → base.Ns mainGlobals mg → FnOk l.prog w K mg base CX0 16 fa fd ["_law_script"] (spLaw K) := by
  have e := hfa.symm.trans (PySem.W.mg_of X G a_law)
  cases e
  have F_is_integer := fun_mk (st := s_is_integer) l_is_integer c_is_integer k_is_integer
  have F_is_between := fun_mk (st := s_is_between) l_is_between c_is_between k_is_between
  have F_is_tuple_of := fun_mk (st := s_is_tuple_of) l_is_tuple_of c_is_tuple_of k_is_tuple_of
  have F_Book_init := fun_mk (st := s_Book_init) l_Book_init c_Book_init k_Book_init
  have F_check_frame := fun_mk (st := s_check_frame) l_check_frame c_check_frame k_check_frame
  have F_check_rules := fun_mk (st := s_check_rules) l_check_rules c_check_rules k_check_rules
  have F_check_moves := fun_mk (st := s_check_moves) l_check_moves c_check_moves k_check_moves
  have F_is_rule := fun_mk (st := s_is_rule) l_is_rule c_is_rule k_is_rule
  have F_is_move := fun_mk (st := s_is_move) l_is_move c_is_move k_is_move
  have F_is_price := fun_mk (st := s_is_price) l_is_price c_is_price k_is_price
  have F_Web_init := fun_mk (st := s_Web_init) l_Web_init c_Web_init k_Web_init
  have F_is_value := fun_mk (st := s_is_value) l_is_value c_is_value k_is_value
  have F_fits := fun_mk (st := s_fits) l_fits c_fits k_fits
  have F_is_row_of := fun_mk (st := s_is_row_of) l_is_row_of c_is_row_of k_is_row_of
  have F_check_web := fun_mk (st := s_check_web) l_check_web c_check_web k_check_web
  have F_makeable := fun_mk (st := s_makeable) l_makeable c_makeable k_makeable
  have F_kinds_made := fun_mk (st := s_kinds_made) l_kinds_made c_kinds_made k_kinds_made
  have F_is_thing := fun_mk (st := s_is_thing) l_is_thing c_is_thing k_is_thing
  have F_is_way := fun_mk (st := s_is_way) l_is_way c_is_way k_is_way
  have F_is_way_to := fun_mk (st := s_is_way_to) l_is_way_to c_is_way_to k_is_way_to
  have F_ways_to := fun_mk (st := s_ways_to) l_ways_to c_ways_to k_ways_to
  have F_needs_for := fun_mk (st := s_needs_for) l_needs_for c_needs_for k_needs_for
  have F_needs_by_parts := fun_mk (st := s_needs_by_parts) l_needs_by_parts c_needs_by_parts k_needs_by_parts
  have F_all_in := fun_mk (st := s_all_in) l_all_in c_all_in k_all_in
  have F_way_price := fun_mk (st := s_way_price) l_way_price c_way_price k_way_price
  have F_is_plan := fun_mk (st := s_is_plan) l_is_plan c_is_plan k_is_plan
  have F_price := fun_mk (st := s_price) l_price c_price k_price
  have F_is_wishes := fun_mk (st := s_is_wishes) l_is_wishes c_is_wishes k_is_wishes
  have F_is_lot_of := fun_mk (st := s_is_lot_of) l_is_lot_of c_is_lot_of k_is_lot_of
  have F_check_wishes := fun_mk (st := s_check_wishes) l_check_wishes c_check_wishes k_check_wishes
  have F_check_plan := fun_mk (st := s_check_plan) l_check_plan c_check_plan k_check_plan
  have F_is_plan_for := fun_mk (st := s_is_plan_for) l_is_plan_for c_is_plan_for k_is_plan_for
  have F_is_making := fun_mk (st := s_is_making) l_is_making c_is_making k_is_making
  have F_is_choice := fun_mk (st := s_is_choice) l_is_choice c_is_choice k_is_choice
  have F_check_choice := fun_mk (st := s_check_choice) l_check_choice c_check_choice k_check_choice
  have F_is_usable := fun_mk (st := s_is_usable) l_is_usable c_is_usable k_is_usable
  have F_first_that_returns := fun_mk (st := s_first_that_returns) l_first_that_returns c_first_that_returns k_first_that_returns
  have F_returns := fun_mk (st := s_returns) l_returns c_returns k_returns
  have F_needed := fun_mk (st := s_needed) l_needed c_needed k_needed
  have F_plan_by := fun_mk (st := s_plan_by) l_plan_by c_plan_by k_plan_by
  have F_cost := fun_mk (st := s_cost) l_cost c_cost k_cost
  have F_links_of := fun_mk (st := s_links_of) l_links_of c_links_of k_links_of
  have F_needed_by := fun_mk (st := s_needed_by) l_needed_by c_needed_by k_needed_by
  have F_plan_of := fun_mk (st := s_plan_of) l_plan_of c_plan_of k_plan_of
  have F_first_ready := fun_mk (st := s_first_ready) l_first_ready c_first_ready k_first_ready
  have F_law_bag := fun_mk (st := s_law_bag) l_law_bag c_law_bag k_law_bag
  have F_law_pick := fun_mk (st := s_law_pick) l_law_pick c_law_pick k_law_pick
  have F_law_some := fun_mk (st := s_law_some) l_law_some c_law_some k_law_some
  have F_law_book := fun_mk (st := s_law_book) l_law_book c_law_book k_law_book
  have F_law_values := fun_mk (st := s_law_values) l_law_values c_law_values k_law_values
  have F_law_price := fun_mk (st := s_law_price) l_law_price c_law_price k_law_price
  have F_law_needs := fun_mk (st := s_law_needs) l_law_needs c_law_needs k_law_needs
  have F_law_usable := fun_mk (st := s_law_usable) l_law_usable c_law_usable k_law_usable
  have F_law_needed := fun_mk (st := s_law_needed) l_law_needed c_law_needed k_law_needed
  have F_law_cost := fun_mk (st := s_law_cost) l_law_cost c_law_cost k_law_cost
  have F_law_drawn_choice := fun_mk (st := s_law_drawn_choice) l_law_drawn_choice c_law_drawn_choice k_law_drawn_choice
  have F_law_plan := fun_mk (st := s_law_plan) l_law_plan c_law_plan k_law_plan
  have F_law := fun_mk (st := s_law) l_law c_law k_law
  let A : Adr := {
    f_is_integer := f_is_integer, d_is_integer := (PySem.W.fnOf "is_integer" "is_integer" (defArgs s_is_integer) (defBody s_is_integer) (defScope s_is_integer) .none kV_is_integer dc_is_integer pm_is_integer an_is_integer cd_is_integer ct_is_integer),
    f_is_between := f_is_between, d_is_between := (PySem.W.fnOf "is_between" "is_between" (defArgs s_is_between) (defBody s_is_between) (defScope s_is_between) .none kV_is_between dc_is_between pm_is_between an_is_between cd_is_between ct_is_between),
    f_is_tuple_of := f_is_tuple_of, d_is_tuple_of := (PySem.W.fnOf "is_tuple_of" "is_tuple_of" (defArgs s_is_tuple_of) (defBody s_is_tuple_of) (defScope s_is_tuple_of) .none kV_is_tuple_of dc_is_tuple_of pm_is_tuple_of an_is_tuple_of cd_is_tuple_of ct_is_tuple_of),
    f_Book_init := f_Book_init, d_Book_init := (PySem.W.fnOf "__init__" "Book.__init__" (defArgs s_Book_init) (defBody s_Book_init) (defScope s_Book_init) .none kV_Book_init dc_Book_init pm_Book_init an_Book_init cd_Book_init ct_Book_init),
    f_check_frame := f_check_frame, d_check_frame := (PySem.W.fnOf "_check_frame" "_check_frame" (defArgs s_check_frame) (defBody s_check_frame) (defScope s_check_frame) .none kV_check_frame dc_check_frame pm_check_frame an_check_frame cd_check_frame ct_check_frame),
    f_check_rules := f_check_rules, d_check_rules := (PySem.W.fnOf "_check_rules" "_check_rules" (defArgs s_check_rules) (defBody s_check_rules) (defScope s_check_rules) .none kV_check_rules dc_check_rules pm_check_rules an_check_rules cd_check_rules ct_check_rules),
    f_check_moves := f_check_moves, d_check_moves := (PySem.W.fnOf "_check_moves" "_check_moves" (defArgs s_check_moves) (defBody s_check_moves) (defScope s_check_moves) .none kV_check_moves dc_check_moves pm_check_moves an_check_moves cd_check_moves ct_check_moves),
    f_is_rule := f_is_rule, d_is_rule := (PySem.W.fnOf "_is_rule" "_is_rule" (defArgs s_is_rule) (defBody s_is_rule) (defScope s_is_rule) .none kV_is_rule dc_is_rule pm_is_rule an_is_rule cd_is_rule ct_is_rule),
    f_is_move := f_is_move, d_is_move := (PySem.W.fnOf "_is_move" "_is_move" (defArgs s_is_move) (defBody s_is_move) (defScope s_is_move) .none kV_is_move dc_is_move pm_is_move an_is_move cd_is_move ct_is_move),
    f_is_price := f_is_price, d_is_price := (PySem.W.fnOf "is_price" "is_price" (defArgs s_is_price) (defBody s_is_price) (defScope s_is_price) .none kV_is_price dc_is_price pm_is_price an_is_price cd_is_price ct_is_price),
    f_Web_init := f_Web_init, d_Web_init := (PySem.W.fnOf "__init__" "Web.__init__" (defArgs s_Web_init) (defBody s_Web_init) (defScope s_Web_init) .none kV_Web_init dc_Web_init pm_Web_init an_Web_init cd_Web_init ct_Web_init),
    f_is_value := f_is_value, d_is_value := (PySem.W.fnOf "_is_value" "_is_value" (defArgs s_is_value) (defBody s_is_value) (defScope s_is_value) .none kV_is_value dc_is_value pm_is_value an_is_value cd_is_value ct_is_value),
    f_fits := f_fits, d_fits := (PySem.W.fnOf "fits" "fits" (defArgs s_fits) (defBody s_fits) (defScope s_fits) .none kV_fits dc_fits pm_fits an_fits cd_fits ct_fits),
    f_is_row_of := f_is_row_of, d_is_row_of := (PySem.W.fnOf "_is_row_of" "_is_row_of" (defArgs s_is_row_of) (defBody s_is_row_of) (defScope s_is_row_of) .none kV_is_row_of dc_is_row_of pm_is_row_of an_is_row_of cd_is_row_of ct_is_row_of),
    f_check_web := f_check_web, d_check_web := (PySem.W.fnOf "check_web" "check_web" (defArgs s_check_web) (defBody s_check_web) (defScope s_check_web) .none kV_check_web dc_check_web pm_check_web an_check_web cd_check_web ct_check_web),
    f_makeable := f_makeable, d_makeable := (PySem.W.fnOf "makeable" "makeable" (defArgs s_makeable) (defBody s_makeable) (defScope s_makeable) .none kV_makeable dc_makeable pm_makeable an_makeable cd_makeable ct_makeable),
    f_kinds_made := f_kinds_made, d_kinds_made := (PySem.W.fnOf "_kinds_made" "_kinds_made" (defArgs s_kinds_made) (defBody s_kinds_made) (defScope s_kinds_made) .none kV_kinds_made dc_kinds_made pm_kinds_made an_kinds_made cd_kinds_made ct_kinds_made),
    f_is_thing := f_is_thing, d_is_thing := (PySem.W.fnOf "is_thing" "is_thing" (defArgs s_is_thing) (defBody s_is_thing) (defScope s_is_thing) .none kV_is_thing dc_is_thing pm_is_thing an_is_thing cd_is_thing ct_is_thing),
    f_is_way := f_is_way, d_is_way := (PySem.W.fnOf "is_way" "is_way" (defArgs s_is_way) (defBody s_is_way) (defScope s_is_way) .none kV_is_way dc_is_way pm_is_way an_is_way cd_is_way ct_is_way),
    f_is_way_to := f_is_way_to, d_is_way_to := (PySem.W.fnOf "is_way_to" "is_way_to" (defArgs s_is_way_to) (defBody s_is_way_to) (defScope s_is_way_to) .none kV_is_way_to dc_is_way_to pm_is_way_to an_is_way_to cd_is_way_to ct_is_way_to),
    f_ways_to := f_ways_to, d_ways_to := (PySem.W.fnOf "ways_to" "ways_to" (defArgs s_ways_to) (defBody s_ways_to) (defScope s_ways_to) .none kV_ways_to dc_ways_to pm_ways_to an_ways_to cd_ways_to ct_ways_to),
    f_needs_for := f_needs_for, d_needs_for := (PySem.W.fnOf "needs_for" "needs_for" (defArgs s_needs_for) (defBody s_needs_for) (defScope s_needs_for) .none kV_needs_for dc_needs_for pm_needs_for an_needs_for cd_needs_for ct_needs_for),
    f_needs_by_parts := f_needs_by_parts, d_needs_by_parts := (PySem.W.fnOf "needs_by_parts" "needs_by_parts" (defArgs s_needs_by_parts) (defBody s_needs_by_parts) (defScope s_needs_by_parts) .none kV_needs_by_parts dc_needs_by_parts pm_needs_by_parts an_needs_by_parts cd_needs_by_parts ct_needs_by_parts),
    f_all_in := f_all_in, d_all_in := (PySem.W.fnOf "all_in" "all_in" (defArgs s_all_in) (defBody s_all_in) (defScope s_all_in) .none kV_all_in dc_all_in pm_all_in an_all_in cd_all_in ct_all_in),
    f_way_price := f_way_price, d_way_price := (PySem.W.fnOf "way_price" "way_price" (defArgs s_way_price) (defBody s_way_price) (defScope s_way_price) .none kV_way_price dc_way_price pm_way_price an_way_price cd_way_price ct_way_price),
    f_is_plan := f_is_plan, d_is_plan := (PySem.W.fnOf "is_plan" "is_plan" (defArgs s_is_plan) (defBody s_is_plan) (defScope s_is_plan) .none kV_is_plan dc_is_plan pm_is_plan an_is_plan cd_is_plan ct_is_plan),
    f_price := f_price, d_price := (PySem.W.fnOf "price" "price" (defArgs s_price) (defBody s_price) (defScope s_price) .none kV_price dc_price pm_price an_price cd_price ct_price),
    f_is_wishes := f_is_wishes, d_is_wishes := (PySem.W.fnOf "is_wishes" "is_wishes" (defArgs s_is_wishes) (defBody s_is_wishes) (defScope s_is_wishes) .none kV_is_wishes dc_is_wishes pm_is_wishes an_is_wishes cd_is_wishes ct_is_wishes),
    f_is_lot_of := f_is_lot_of, d_is_lot_of := (PySem.W.fnOf "is_lot_of" "is_lot_of" (defArgs s_is_lot_of) (defBody s_is_lot_of) (defScope s_is_lot_of) .none kV_is_lot_of dc_is_lot_of pm_is_lot_of an_is_lot_of cd_is_lot_of ct_is_lot_of),
    f_check_wishes := f_check_wishes, d_check_wishes := (PySem.W.fnOf "check_wishes" "check_wishes" (defArgs s_check_wishes) (defBody s_check_wishes) (defScope s_check_wishes) .none kV_check_wishes dc_check_wishes pm_check_wishes an_check_wishes cd_check_wishes ct_check_wishes),
    f_check_plan := f_check_plan, d_check_plan := (PySem.W.fnOf "check_plan" "check_plan" (defArgs s_check_plan) (defBody s_check_plan) (defScope s_check_plan) .none kV_check_plan dc_check_plan pm_check_plan an_check_plan cd_check_plan ct_check_plan),
    f_is_plan_for := f_is_plan_for, d_is_plan_for := (PySem.W.fnOf "_is_plan_for" "_is_plan_for" (defArgs s_is_plan_for) (defBody s_is_plan_for) (defScope s_is_plan_for) .none kV_is_plan_for dc_is_plan_for pm_is_plan_for an_is_plan_for cd_is_plan_for ct_is_plan_for),
    f_is_making := f_is_making, d_is_making := (PySem.W.fnOf "is_making" "is_making" (defArgs s_is_making) (defBody s_is_making) (defScope s_is_making) .none kV_is_making dc_is_making pm_is_making an_is_making cd_is_making ct_is_making),
    f_is_choice := f_is_choice, d_is_choice := (PySem.W.fnOf "is_choice" "is_choice" (defArgs s_is_choice) (defBody s_is_choice) (defScope s_is_choice) .none kV_is_choice dc_is_choice pm_is_choice an_is_choice cd_is_choice ct_is_choice),
    f_check_choice := f_check_choice, d_check_choice := (PySem.W.fnOf "check_choice" "check_choice" (defArgs s_check_choice) (defBody s_check_choice) (defScope s_check_choice) .none kV_check_choice dc_check_choice pm_check_choice an_check_choice cd_check_choice ct_check_choice),
    f_is_usable := f_is_usable, d_is_usable := (PySem.W.fnOf "_is_usable" "_is_usable" (defArgs s_is_usable) (defBody s_is_usable) (defScope s_is_usable) .none kV_is_usable dc_is_usable pm_is_usable an_is_usable cd_is_usable ct_is_usable),
    f_first_that_returns := f_first_that_returns, d_first_that_returns := (PySem.W.fnOf "_first_that_returns" "_first_that_returns" (defArgs s_first_that_returns) (defBody s_first_that_returns) (defScope s_first_that_returns) .none kV_first_that_returns dc_first_that_returns pm_first_that_returns an_first_that_returns cd_first_that_returns ct_first_that_returns),
    f_returns := f_returns, d_returns := (PySem.W.fnOf "_returns" "_returns" (defArgs s_returns) (defBody s_returns) (defScope s_returns) .none kV_returns dc_returns pm_returns an_returns cd_returns ct_returns),
    f_needed := f_needed, d_needed := (PySem.W.fnOf "needed" "needed" (defArgs s_needed) (defBody s_needed) (defScope s_needed) .none kV_needed dc_needed pm_needed an_needed cd_needed ct_needed),
    f_plan_by := f_plan_by, d_plan_by := (PySem.W.fnOf "plan_by" "plan_by" (defArgs s_plan_by) (defBody s_plan_by) (defScope s_plan_by) .none kV_plan_by dc_plan_by pm_plan_by an_plan_by cd_plan_by ct_plan_by),
    f_cost := f_cost, d_cost := (PySem.W.fnOf "cost" "cost" (defArgs s_cost) (defBody s_cost) (defScope s_cost) .none kV_cost dc_cost pm_cost an_cost cd_cost ct_cost),
    f_links_of := f_links_of, d_links_of := (PySem.W.fnOf "links_of" "links_of" (defArgs s_links_of) (defBody s_links_of) (defScope s_links_of) .none kV_links_of dc_links_of pm_links_of an_links_of cd_links_of ct_links_of),
    f_needed_by := f_needed_by, d_needed_by := (PySem.W.fnOf "needed_by" "needed_by" (defArgs s_needed_by) (defBody s_needed_by) (defScope s_needed_by) .none kV_needed_by dc_needed_by pm_needed_by an_needed_by cd_needed_by ct_needed_by),
    f_plan_of := f_plan_of, d_plan_of := (PySem.W.fnOf "plan_of" "plan_of" (defArgs s_plan_of) (defBody s_plan_of) (defScope s_plan_of) .none kV_plan_of dc_plan_of pm_plan_of an_plan_of cd_plan_of ct_plan_of),
    f_first_ready := f_first_ready, d_first_ready := (PySem.W.fnOf "_first_ready" "_first_ready" (defArgs s_first_ready) (defBody s_first_ready) (defScope s_first_ready) .none kV_first_ready dc_first_ready pm_first_ready an_first_ready cd_first_ready ct_first_ready),
    f_law_bag := f_law_bag, d_law_bag := (PySem.W.fnOf "_law_bag" "_law_bag" (defArgs s_law_bag) (defBody s_law_bag) (defScope s_law_bag) .none kV_law_bag dc_law_bag pm_law_bag an_law_bag cd_law_bag ct_law_bag),
    f_law_pick := f_law_pick, d_law_pick := (PySem.W.fnOf "_law_pick" "_law_pick" (defArgs s_law_pick) (defBody s_law_pick) (defScope s_law_pick) .none kV_law_pick dc_law_pick pm_law_pick an_law_pick cd_law_pick ct_law_pick),
    f_law_some := f_law_some, d_law_some := (PySem.W.fnOf "_law_some" "_law_some" (defArgs s_law_some) (defBody s_law_some) (defScope s_law_some) .none kV_law_some dc_law_some pm_law_some an_law_some cd_law_some ct_law_some),
    f_law_book := f_law_book, d_law_book := (PySem.W.fnOf "_law_book" "_law_book" (defArgs s_law_book) (defBody s_law_book) (defScope s_law_book) .none kV_law_book dc_law_book pm_law_book an_law_book cd_law_book ct_law_book),
    f_law_values := f_law_values, d_law_values := (PySem.W.fnOf "_law_values" "_law_values" (defArgs s_law_values) (defBody s_law_values) (defScope s_law_values) .none kV_law_values dc_law_values pm_law_values an_law_values cd_law_values ct_law_values),
    f_law_price := f_law_price, d_law_price := (PySem.W.fnOf "_law_price" "_law_price" (defArgs s_law_price) (defBody s_law_price) (defScope s_law_price) .none kV_law_price dc_law_price pm_law_price an_law_price cd_law_price ct_law_price),
    f_law_needs := f_law_needs, d_law_needs := (PySem.W.fnOf "_law_needs" "_law_needs" (defArgs s_law_needs) (defBody s_law_needs) (defScope s_law_needs) .none kV_law_needs dc_law_needs pm_law_needs an_law_needs cd_law_needs ct_law_needs),
    f_law_usable := f_law_usable, d_law_usable := (PySem.W.fnOf "_law_usable" "_law_usable" (defArgs s_law_usable) (defBody s_law_usable) (defScope s_law_usable) .none kV_law_usable dc_law_usable pm_law_usable an_law_usable cd_law_usable ct_law_usable),
    f_law_needed := f_law_needed, d_law_needed := (PySem.W.fnOf "_law_needed" "_law_needed" (defArgs s_law_needed) (defBody s_law_needed) (defScope s_law_needed) .none kV_law_needed dc_law_needed pm_law_needed an_law_needed cd_law_needed ct_law_needed),
    f_law_cost := f_law_cost, d_law_cost := (PySem.W.fnOf "_law_cost" "_law_cost" (defArgs s_law_cost) (defBody s_law_cost) (defScope s_law_cost) .none kV_law_cost dc_law_cost pm_law_cost an_law_cost cd_law_cost ct_law_cost),
    f_law_drawn_choice := f_law_drawn_choice, d_law_drawn_choice := (PySem.W.fnOf "_law_drawn_choice" "_law_drawn_choice" (defArgs s_law_drawn_choice) (defBody s_law_drawn_choice) (defScope s_law_drawn_choice) .none kV_law_drawn_choice dc_law_drawn_choice pm_law_drawn_choice an_law_drawn_choice cd_law_drawn_choice ct_law_drawn_choice),
    f_law_plan := f_law_plan, d_law_plan := (PySem.W.fnOf "_law_plan" "_law_plan" (defArgs s_law_plan) (defBody s_law_plan) (defScope s_law_plan) .none kV_law_plan dc_law_plan pm_law_plan an_law_plan cd_law_plan ct_law_plan),
    f_law := fa, d_law := (PySem.W.fnOf "law" "law" (defArgs s_law) (defBody s_law) (defScope s_law) .none kV_law dc_law pm_law an_law cd_law ct_law),
    c_NoWishes := c_NoWishes,
    c_NoPlan := c_NoPlan,
    c_Book := c_Book,
    c_Web := c_Web }
  have T : Txt K mg A := {
    F_is_integer := F_is_integer, b_is_integer := F_is_integer.binds (ps := ["thing"]) (fun _ _ _ _ _ _ us hl => match us, hl with | [_], _ => rfl), k_is_integer := k_is_integer,
    g_is_integer := PySem.W.mg_of X G a_is_integer,
    F_is_between := F_is_between, b_is_between := F_is_between.binds (ps := ["low", "high", "thing"]) (fun _ _ _ _ _ _ us hl => match us, hl with | [_, _, _], _ => rfl), k_is_between := k_is_between,
    g_is_between := PySem.W.mg_of X G a_is_between,
    F_is_tuple_of := F_is_tuple_of, b_is_tuple_of := F_is_tuple_of.binds (ps := ["low", "high", "thing"]) (fun _ _ _ _ _ _ us hl => match us, hl with | [_, _, _], _ => rfl), k_is_tuple_of := k_is_tuple_of,
    g_is_tuple_of := PySem.W.mg_of X G a_is_tuple_of,
    F_Book_init := F_Book_init, b_Book_init := F_Book_init.binds (ps := ["self", "arities", "kinds", "rules", "moves"]) (fun _ _ _ _ _ _ us hl => match us, hl with | [_, _, _, _, _], _ => rfl), k_Book_init := k_Book_init,
    F_check_frame := F_check_frame, b_check_frame := F_check_frame.binds (ps := ["arities", "kinds", "rules", "moves"]) (fun _ _ _ _ _ _ us hl => match us, hl with | [_, _, _, _], _ => rfl), k_check_frame := k_check_frame,
    g_check_frame := PySem.W.mg_of X G a_check_frame,
    F_check_rules := F_check_rules, b_check_rules := F_check_rules.binds (ps := ["arities", "kinds", "rules"]) (fun _ _ _ _ _ _ us hl => match us, hl with | [_, _, _], _ => rfl), k_check_rules := k_check_rules,
    g_check_rules := PySem.W.mg_of X G a_check_rules,
    F_check_moves := F_check_moves, b_check_moves := F_check_moves.binds (ps := ["kinds", "moves"]) (fun _ _ _ _ _ _ us hl => match us, hl with | [_, _], _ => rfl), k_check_moves := k_check_moves,
    g_check_moves := PySem.W.mg_of X G a_check_moves,
    F_is_rule := F_is_rule, b_is_rule := F_is_rule.binds (ps := ["arities", "kinds", "thing"]) (fun _ _ _ _ _ _ us hl => match us, hl with | [_, _, _], _ => rfl), k_is_rule := k_is_rule,
    g_is_rule := PySem.W.mg_of X G a_is_rule,
    F_is_move := F_is_move, b_is_move := F_is_move.binds (ps := ["kinds", "thing"]) (fun _ _ _ _ _ _ us hl => match us, hl with | [_, _], _ => rfl), k_is_move := k_is_move,
    g_is_move := PySem.W.mg_of X G a_is_move,
    F_is_price := F_is_price, b_is_price := F_is_price.binds (ps := ["thing"]) (fun _ _ _ _ _ _ us hl => match us, hl with | [_], _ => rfl), k_is_price := k_is_price,
    g_is_price := PySem.W.mg_of X G a_is_price,
    F_Web_init := F_Web_init, b_Web_init := F_Web_init.binds (ps := ["self", "values"]) (fun _ _ _ _ _ _ us hl => match us, hl with | [_, _], _ => rfl), k_Web_init := k_Web_init,
    F_is_value := F_is_value, b_is_value := F_is_value.binds (ps := ["index", "thing"]) (fun _ _ _ _ _ _ us hl => match us, hl with | [_, _], _ => rfl), k_is_value := k_is_value,
    g_is_value := PySem.W.mg_of X G a_is_value,
    F_fits := F_fits, b_fits := F_fits.binds (ps := ["book", "web"]) (fun _ _ _ _ _ _ us hl => match us, hl with | [_, _], _ => rfl), k_fits := k_fits,
    g_fits := PySem.W.mg_of X G a_fits,
    F_is_row_of := F_is_row_of, b_is_row_of := F_is_row_of.binds (ps := ["book", "op", "parts"]) (fun _ _ _ _ _ _ us hl => match us, hl with | [_, _, _], _ => rfl), k_is_row_of := k_is_row_of,
    g_is_row_of := PySem.W.mg_of X G a_is_row_of,
    F_check_web := F_check_web, b_check_web := F_check_web.binds (ps := ["book", "web"]) (fun _ _ _ _ _ _ us hl => match us, hl with | [_, _], _ => rfl), k_check_web := k_check_web,
    g_check_web := PySem.W.mg_of X G a_check_web,
    F_makeable := F_makeable, b_makeable := F_makeable.binds (ps := ["book", "web"]) (fun _ _ _ _ _ _ us hl => match us, hl with | [_, _], _ => rfl), k_makeable := k_makeable,
    g_makeable := PySem.W.mg_of X G a_makeable,
    F_kinds_made := F_kinds_made, b_kinds_made := F_kinds_made.binds (ps := ["book", "web", "value", "made"]) (fun _ _ _ _ _ _ us hl => match us, hl with | [_, _, _, _], _ => rfl), k_kinds_made := k_kinds_made,
    g_kinds_made := PySem.W.mg_of X G a_kinds_made,
    F_is_thing := F_is_thing, b_is_thing := F_is_thing.binds (ps := ["book", "web", "thing"]) (fun _ _ _ _ _ _ us hl => match us, hl with | [_, _, _], _ => rfl), k_is_thing := k_is_thing,
    g_is_thing := PySem.W.mg_of X G a_is_thing,
    F_is_way := F_is_way, b_is_way := F_is_way.binds (ps := ["book", "thing"]) (fun _ _ _ _ _ _ us hl => match us, hl with | [_, _], _ => rfl), k_is_way := k_is_way,
    g_is_way := PySem.W.mg_of X G a_is_way,
    F_is_way_to := F_is_way_to, b_is_way_to := F_is_way_to.binds (ps := ["book", "web", "target", "thing"]) (fun _ _ _ _ _ _ us hl => match us, hl with | [_, _, _, _], _ => rfl), k_is_way_to := k_is_way_to,
    g_is_way_to := PySem.W.mg_of X G a_is_way_to,
    F_ways_to := F_ways_to, b_ways_to := F_ways_to.binds (ps := ["book", "web", "thing"]) (fun _ _ _ _ _ _ us hl => match us, hl with | [_, _, _], _ => rfl), k_ways_to := k_ways_to,
    g_ways_to := PySem.W.mg_of X G a_ways_to,
    F_needs_for := F_needs_for, b_needs_for := F_needs_for.binds (ps := ["book", "web", "thing", "way"]) (fun _ _ _ _ _ _ us hl => match us, hl with | [_, _, _, _], _ => rfl), k_needs_for := k_needs_for,
    g_needs_for := PySem.W.mg_of X G a_needs_for,
    F_needs_by_parts := F_needs_by_parts, b_needs_by_parts := F_needs_by_parts.binds (ps := ["book", "web", "thing", "way"]) (fun _ _ _ _ _ _ us hl => match us, hl with | [_, _, _, _], _ => rfl), k_needs_by_parts := k_needs_by_parts,
    g_needs_by_parts := PySem.W.mg_of X G a_needs_by_parts,
    F_all_in := F_all_in, b_all_in := F_all_in.binds (ps := ["made", "things"]) (fun _ _ _ _ _ _ us hl => match us, hl with | [_, _], _ => rfl), k_all_in := k_all_in,
    g_all_in := PySem.W.mg_of X G a_all_in,
    F_way_price := F_way_price, b_way_price := F_way_price.binds (ps := ["book", "way"]) (fun _ _ _ _ _ _ us hl => match us, hl with | [_, _], _ => rfl), k_way_price := k_way_price,
    g_way_price := PySem.W.mg_of X G a_way_price,
    F_is_plan := F_is_plan, b_is_plan := F_is_plan.binds (ps := ["book", "web", "wishes", "thing"]) (fun _ _ _ _ _ _ us hl => match us, hl with | [_, _, _, _], _ => rfl), k_is_plan := k_is_plan,
    g_is_plan := PySem.W.mg_of X G a_is_plan,
    F_price := F_price, b_price := F_price.binds (ps := ["book", "web", "plan"]) (fun _ _ _ _ _ _ us hl => match us, hl with | [_, _, _], _ => rfl), k_price := k_price,
    g_price := PySem.W.mg_of X G a_price,
    F_is_wishes := F_is_wishes, b_is_wishes := F_is_wishes.binds (ps := ["book", "web", "thing"]) (fun _ _ _ _ _ _ us hl => match us, hl with | [_, _, _], _ => rfl), k_is_wishes := k_is_wishes,
    g_is_wishes := PySem.W.mg_of X G a_is_wishes,
    F_is_lot_of := F_is_lot_of, b_is_lot_of := F_is_lot_of.binds (ps := ["book", "web", "made", "thing"]) (fun _ _ _ _ _ _ us hl => match us, hl with | [_, _, _, _], _ => rfl), k_is_lot_of := k_is_lot_of,
    g_is_lot_of := PySem.W.mg_of X G a_is_lot_of,
    F_check_wishes := F_check_wishes, b_check_wishes := F_check_wishes.binds (ps := ["book", "web", "wishes"]) (fun _ _ _ _ _ _ us hl => match us, hl with | [_, _, _], _ => rfl), k_check_wishes := k_check_wishes,
    g_check_wishes := PySem.W.mg_of X G a_check_wishes,
    F_check_plan := F_check_plan, b_check_plan := F_check_plan.binds (ps := ["book", "web", "wishes", "plan"]) (fun _ _ _ _ _ _ us hl => match us, hl with | [_, _, _, _], _ => rfl), k_check_plan := k_check_plan,
    g_check_plan := PySem.W.mg_of X G a_check_plan,
    F_is_plan_for := F_is_plan_for, b_is_plan_for := F_is_plan_for.binds (ps := ["book", "web", "wishes", "thing"]) (fun _ _ _ _ _ _ us hl => match us, hl with | [_, _, _, _], _ => rfl), k_is_plan_for := k_is_plan_for,
    g_is_plan_for := PySem.W.mg_of X G a_is_plan_for,
    F_is_making := F_is_making, b_is_making := F_is_making.binds (ps := ["book", "web", "thing"]) (fun _ _ _ _ _ _ us hl => match us, hl with | [_, _, _], _ => rfl), k_is_making := k_is_making,
    g_is_making := PySem.W.mg_of X G a_is_making,
    F_is_choice := F_is_choice, b_is_choice := F_is_choice.binds (ps := ["book", "web", "thing"]) (fun _ _ _ _ _ _ us hl => match us, hl with | [_, _, _], _ => rfl), k_is_choice := k_is_choice,
    g_is_choice := PySem.W.mg_of X G a_is_choice,
    F_check_choice := F_check_choice, b_check_choice := F_check_choice.binds (ps := ["book", "web", "choice"]) (fun _ _ _ _ _ _ us hl => match us, hl with | [_, _, _], _ => rfl), k_check_choice := k_check_choice,
    g_check_choice := PySem.W.mg_of X G a_check_choice,
    F_is_usable := F_is_usable, b_is_usable := F_is_usable.binds (ps := ["book", "web", "made", "target", "thing"]) (fun _ _ _ _ _ _ us hl => match us, hl with | [_, _, _, _, _], _ => rfl), k_is_usable := k_is_usable,
    g_is_usable := PySem.W.mg_of X G a_is_usable,
    F_first_that_returns := F_first_that_returns, b_first_that_returns := F_first_that_returns.binds (ps := ["book", "choice"]) (fun _ _ _ _ _ _ us hl => match us, hl with | [_, _], _ => rfl), k_first_that_returns := k_first_that_returns,
    g_first_that_returns := PySem.W.mg_of X G a_first_that_returns,
    F_returns := F_returns, b_returns := F_returns.binds (ps := ["book", "choice", "thing"]) (fun _ _ _ _ _ _ us hl => match us, hl with | [_, _, _], _ => rfl), k_returns := k_returns,
    g_returns := PySem.W.mg_of X G a_returns,
    F_needed := F_needed, b_needed := F_needed.binds (ps := ["book", "web", "choice", "things"]) (fun _ _ _ _ _ _ us hl => match us, hl with | [_, _, _, _], _ => rfl), k_needed := k_needed,
    g_needed := PySem.W.mg_of X G a_needed,
    F_plan_by := F_plan_by, b_plan_by := F_plan_by.binds (ps := ["book", "web", "choice", "wishes"]) (fun _ _ _ _ _ _ us hl => match us, hl with | [_, _, _, _], _ => rfl), k_plan_by := k_plan_by,
    g_plan_by := PySem.W.mg_of X G a_plan_by,
    F_cost := F_cost, b_cost := F_cost.binds (ps := ["book", "web", "choice", "wishes"]) (fun _ _ _ _ _ _ us hl => match us, hl with | [_, _, _, _], _ => rfl), k_cost := k_cost,
    g_cost := PySem.W.mg_of X G a_cost,
    F_links_of := F_links_of, b_links_of := F_links_of.binds (ps := ["book", "web", "choice"]) (fun _ _ _ _ _ _ us hl => match us, hl with | [_, _, _], _ => rfl), k_links_of := k_links_of,
    g_links_of := PySem.W.mg_of X G a_links_of,
    F_needed_by := F_needed_by, b_needed_by := F_needed_by.binds (ps := ["links", "things"]) (fun _ _ _ _ _ _ us hl => match us, hl with | [_, _], _ => rfl), k_needed_by := k_needed_by,
    g_needed_by := PySem.W.mg_of X G a_needed_by,
    F_plan_of := F_plan_of, b_plan_of := F_plan_of.binds (ps := ["book", "web", "choice", "things"]) (fun _ _ _ _ _ _ us hl => match us, hl with | [_, _, _, _], _ => rfl), k_plan_of := k_plan_of,
    g_plan_of := PySem.W.mg_of X G a_plan_of,
    F_first_ready := F_first_ready, b_first_ready := F_first_ready.binds (ps := ["links", "made", "things"]) (fun _ _ _ _ _ _ us hl => match us, hl with | [_, _, _], _ => rfl), k_first_ready := k_first_ready,
    g_first_ready := PySem.W.mg_of X G a_first_ready,
    F_law_bag := F_law_bag, b_law_bag := F_law_bag.binds (ps := ["_law_script"]) (fun _ _ _ _ _ _ us hl => match us, hl with | [_], _ => rfl), k_law_bag := k_law_bag,
    g_law_bag := PySem.W.mg_of X G a_law_bag,
    F_law_pick := F_law_pick, b_law_pick := F_law_pick.binds (ps := ["_law_bag_here", "_law_many"]) (fun _ _ _ _ _ _ us hl => match us, hl with | [_, _], _ => rfl), k_law_pick := k_law_pick,
    g_law_pick := PySem.W.mg_of X G a_law_pick,
    F_law_some := F_law_some, b_law_some := F_law_some.binds (ps := ["_law_bag_here", "_law_things"]) (fun _ _ _ _ _ _ us hl => match us, hl with | [_, _], _ => rfl), k_law_some := k_law_some,
    g_law_some := PySem.W.mg_of X G a_law_some,
    F_law_book := F_law_book, b_law_book := F_law_book.binds (ps := ["_law_bag_here", "_law_ops", "_law_kinds", "_law_most"]) (fun _ _ _ _ _ _ us hl => match us, hl with | [_, _, _, _], _ => rfl), k_law_book := k_law_book,
    g_law_book := PySem.W.mg_of X G a_law_book,
    F_law_values := F_law_values, b_law_values := F_law_values.binds (ps := ["_law_bag_here", "_law_arities", "_law_many"]) (fun _ _ _ _ _ _ us hl => match us, hl with | [_, _, _], _ => rfl), k_law_values := k_law_values,
    g_law_values := PySem.W.mg_of X G a_law_values,
    F_law_price := F_law_price, b_law_price := F_law_price.binds (ps := ["_law_parts", "_law_way"]) (fun _ _ _ _ _ _ us hl => match us, hl with | [_, _], _ => rfl), k_law_price := k_law_price,
    g_law_price := PySem.W.mg_of X G a_law_price,
    F_law_needs := F_law_needs, b_law_needs := F_law_needs.binds (ps := ["_law_parts", "_law_values_here", "_law_thing", "_law_way"]) (fun _ _ _ _ _ _ us hl => match us, hl with | [_, _, _, _], _ => rfl), k_law_needs := k_law_needs,
    g_law_needs := PySem.W.mg_of X G a_law_needs,
    F_law_usable := F_law_usable, b_law_usable := F_law_usable.binds (ps := ["_law_parts", "_law_values_here"]) (fun _ _ _ _ _ _ us hl => match us, hl with | [_, _], _ => rfl), k_law_usable := k_law_usable,
    g_law_usable := PySem.W.mg_of X G a_law_usable,
    F_law_needed := F_law_needed, b_law_needed := F_law_needed.binds (ps := ["_law_parts", "_law_values_here", "_law_choice", "_law_things"]) (fun _ _ _ _ _ _ us hl => match us, hl with | [_, _, _, _], _ => rfl), k_law_needed := k_law_needed,
    g_law_needed := PySem.W.mg_of X G a_law_needed,
    F_law_cost := F_law_cost, b_law_cost := F_law_cost.binds (ps := ["_law_parts", "_law_choice", "_law_things"]) (fun _ _ _ _ _ _ us hl => match us, hl with | [_, _, _], _ => rfl), k_law_cost := k_law_cost,
    g_law_cost := PySem.W.mg_of X G a_law_cost,
    F_law_drawn_choice := F_law_drawn_choice, b_law_drawn_choice := F_law_drawn_choice.binds (ps := ["_law_bag_here", "_law_parts", "_law_values_here", "_law_usable_here"]) (fun _ _ _ _ _ _ us hl => match us, hl with | [_, _, _, _], _ => rfl), k_law_drawn_choice := k_law_drawn_choice,
    g_law_drawn_choice := PySem.W.mg_of X G a_law_drawn_choice,
    F_law_plan := F_law_plan, b_law_plan := F_law_plan.binds (ps := ["_law_parts", "_law_values_here", "_law_choice", "_law_things"]) (fun _ _ _ _ _ _ us hl => match us, hl with | [_, _, _, _], _ => rfl), k_law_plan := k_law_plan,
    g_law_plan := PySem.W.mg_of X G a_law_plan,
    F_law := F_law, b_law := F_law.binds (ps := ["_law_script"]) (fun _ _ _ _ _ _ us hl => match us, hl with | [_], _ => rfl), k_law := k_law,
    g_law := PySem.W.mg_of X G a_law,
    g_NoWishes := PySem.W.mg_of X G a_NoWishes,
    g_NoPlan := PySem.W.mg_of X G a_NoPlan,
    g_Book := PySem.W.mg_of X G a_Book,
    g_Web := PySem.W.mg_of X G a_Web,
    z_abs := PySem.W.mg_none_of X G z_abs,
    z_all := PySem.W.mg_none_of X G z_all,
    z_bool := PySem.W.mg_none_of X G z_bool,
    z_dict := PySem.W.mg_none_of X G z_dict,
    z_enumerate := PySem.W.mg_none_of X G z_enumerate,
    z_int := PySem.W.mg_none_of X G z_int,
    z_isinstance := PySem.W.mg_none_of X G z_isinstance,
    z_len := PySem.W.mg_none_of X G z_len,
    z_list := PySem.W.mg_none_of X G z_list,
    z_max := PySem.W.mg_none_of X G z_max,
    z_min := PySem.W.mg_none_of X G z_min,
    z_range := PySem.W.mg_none_of X G z_range,
    z_set := PySem.W.mg_none_of X G z_set,
    z_sorted := PySem.W.mg_none_of X G z_sorted,
    z_str := PySem.W.mg_none_of X G z_str,
    z_sum := PySem.W.mg_none_of X G z_sum,
    z_tuple := PySem.W.mg_none_of X G z_tuple,
    z_zip := PySem.W.mg_none_of X G z_zip,
    C_Book := ⟨pg_Book, hd_Book, po_Book, sa_Book⟩,
    M_Book := ⟨mk_Book, a_Book_init, fi_Book_init, kc_Book⟩,
    I_Book := ⟨⟨pg_Book, hd_Book, po_Book, sa_Book⟩, ha_Book, hn_cls, ht_cls, hm_Book, kit_self⟩,
    N_arities := nr_arities,
    N_kinds := nr_kinds,
    N_rules := nr_rules,
    N_moves := nr_moves,
    C_Web := ⟨pg_Web, hd_Web, po_Web, sa_Web⟩,
    M_Web := ⟨mk_Web, a_Web_init, fi_Web_init, kc_Web⟩,
    I_Web := ⟨⟨pg_Web, hd_Web, po_Web, sa_Web⟩, ha_Web, hn_cls, ht_cls, hm_Web, kit_self⟩,
    N_rows := nr_rows,
    X_NoWishes := x_NoWishes,
    K_NoWishes := kx_NoWishes,
    B_NoWishes := bx_NoWishes,
    T_NoWishes := tx_NoWishes,
    X_NoPlan := x_NoPlan,
    K_NoPlan := kx_NoPlan,
    B_NoPlan := bx_NoPlan,
    T_NoPlan := tx_NoPlan,
    E_NoPlan := PySem.W.exm_ref bx_NoPlan dx_NoPlan tx_NoPlan sx_NoPlan }
  exact ⟨A.d_law, fun s v => .of_eq rfl, fun base _ _ => ok_law (a := A) T⟩
theorem walk {l : PySem.W.OpenLaw} {q : Program} {loose : List Str} {XP : (Str → Option Value) → Heap → Prop} {YP : World → Heap → Prop} {d : DefRec} {K : Params → PySem.W.Frag} (hn : l.most = some 63) (hdf : d.params.defaults = [])
    (hY : ∀ (w : World) (h : Heap), YP w h → (K w.params).In h)
    (F : ∀ (w : World) (mg : Str → Option Value) (fa : Addr) (h : Heap), (K w.params).In h → h.Ns mainGlobals mg → mg d.name = some (.ref fa) →
      ∃ fd : FuncData, (∀ (s : Shared) (u : Value), BindsTo s fd ⟨[u], []⟩ [("_law_script", u)]) ∧ ∀ base : Heap, (K w.params).In base → base.Ns mainGlobals mg → FnOk l.prog w (K w.params) mg base CX0 16 fa fd ["_law_script"] (spLaw (K w.params))) :
    PySem.W.WalkO q loose XP YP l.row.toRowW d [] (fun f vs => PySem.call f vs) :=
  L2.walk_of (n := 63) (k := 16) (x := "_law_script") (CX := fun _ => CX0) (sp := fun w => spLaw (K w.params)) hn (by decide) hdf ⟨rfl, by decide, by decide⟩ hY F (fun _ _ a ns hl _ hS => ⟨a, ns, rfl, hS, hl, fun _ => rfl⟩) fun _ _ _ _ _ z => z
end Lk
open PySem PySem.W PyProof.Rows
set_option maxRecDepth 100000 in
set_option maxHeartbeats 0 in
theorem PySem.Challenge.cw_lookdown_k17_whole_needed_plans_and_cost_holds : PySem.Challenge.rw_lookdown_k17_whole_needed_plans_and_cost.Holds := by
  w_on; o_law; k_head; (case hw => w_witness2)
  k_fill
  refine Lk.walk (l := PySem.Challenge.rw_lookdown_k17_whole_needed_plans_and_cost) rfl rfl (fun w h Y => PySem.W.kIn_of Y) ?F
  case F =>
    intro w mg fa h KX G hmg
    refine' Lk.all_mk KX G hmg ?a_NoWishes ?a_NoPlan ?a_Book ?a_Web ?a_is_integer ?l_is_integer ?c_is_integer ?k_is_integer ?a_is_between ?l_is_between ?c_is_between ?k_is_between ?a_is_tuple_of ?l_is_tuple_of ?c_is_tuple_of ?k_is_tuple_of ?a_Book_init ?l_Book_init ?c_Book_init ?k_Book_init ?a_check_frame ?l_check_frame ?c_check_frame ?k_check_frame ?a_check_rules ?l_check_rules ?c_check_rules ?k_check_rules ?a_check_moves ?l_check_moves ?c_check_moves ?k_check_moves ?a_is_rule ?l_is_rule ?c_is_rule ?k_is_rule ?a_is_move ?l_is_move ?c_is_move ?k_is_move ?a_is_price ?l_is_price ?c_is_price ?k_is_price ?a_Web_init ?l_Web_init ?c_Web_init ?k_Web_init ?a_is_value ?l_is_value ?c_is_value ?k_is_value ?a_fits ?l_fits ?c_fits ?k_fits ?a_is_row_of ?l_is_row_of ?c_is_row_of ?k_is_row_of ?a_check_web ?l_check_web ?c_check_web ?k_check_web ?a_makeable ?l_makeable ?c_makeable ?k_makeable ?a_kinds_made ?l_kinds_made ?c_kinds_made ?k_kinds_made ?a_is_thing ?l_is_thing ?c_is_thing ?k_is_thing ?a_is_way ?l_is_way ?c_is_way ?k_is_way ?a_is_way_to ?l_is_way_to ?c_is_way_to ?k_is_way_to ?a_ways_to ?l_ways_to ?c_ways_to ?k_ways_to ?a_needs_for ?l_needs_for ?c_needs_for ?k_needs_for ?a_needs_by_parts ?l_needs_by_parts ?c_needs_by_parts ?k_needs_by_parts ?a_all_in ?l_all_in ?c_all_in ?k_all_in ?a_way_price ?l_way_price ?c_way_price ?k_way_price ?a_is_plan ?l_is_plan ?c_is_plan ?k_is_plan ?a_price ?l_price ?c_price ?k_price ?a_is_wishes ?l_is_wishes ?c_is_wishes ?k_is_wishes ?a_is_lot_of ?l_is_lot_of ?c_is_lot_of ?k_is_lot_of ?a_check_wishes ?l_check_wishes ?c_check_wishes ?k_check_wishes ?a_check_plan ?l_check_plan ?c_check_plan ?k_check_plan ?a_is_plan_for ?l_is_plan_for ?c_is_plan_for ?k_is_plan_for ?a_is_making ?l_is_making ?c_is_making ?k_is_making ?a_is_choice ?l_is_choice ?c_is_choice ?k_is_choice ?a_check_choice ?l_check_choice ?c_check_choice ?k_check_choice ?a_is_usable ?l_is_usable ?c_is_usable ?k_is_usable ?a_first_that_returns ?l_first_that_returns ?c_first_that_returns ?k_first_that_returns ?a_returns ?l_returns ?c_returns ?k_returns ?a_needed ?l_needed ?c_needed ?k_needed ?a_plan_by ?l_plan_by ?c_plan_by ?k_plan_by ?a_cost ?l_cost ?c_cost ?k_cost ?a_links_of ?l_links_of ?c_links_of ?k_links_of ?a_needed_by ?l_needed_by ?c_needed_by ?k_needed_by ?a_plan_of ?l_plan_of ?c_plan_of ?k_plan_of ?a_first_ready ?l_first_ready ?c_first_ready ?k_first_ready ?a_law_bag ?l_law_bag ?c_law_bag ?k_law_bag ?a_law_pick ?l_law_pick ?c_law_pick ?k_law_pick ?a_law_some ?l_law_some ?c_law_some ?k_law_some ?a_law_book ?l_law_book ?c_law_book ?k_law_book ?a_law_values ?l_law_values ?c_law_values ?k_law_values ?a_law_price ?l_law_price ?c_law_price ?k_law_price ?a_law_needs ?l_law_needs ?c_law_needs ?k_law_needs ?a_law_usable ?l_law_usable ?c_law_usable ?k_law_usable ?a_law_needed ?l_law_needed ?c_law_needed ?k_law_needed ?a_law_cost ?l_law_cost ?c_law_cost ?k_law_cost ?a_law_drawn_choice ?l_law_drawn_choice ?c_law_drawn_choice ?k_law_drawn_choice ?a_law_plan ?l_law_plan ?c_law_plan ?k_law_plan ?a_law ?l_law ?c_law ?k_law ?z_abs ?z_all ?z_bool ?z_dict ?z_enumerate ?z_int ?z_isinstance ?z_len ?z_list ?z_max ?z_min ?z_range ?z_set ?z_sorted ?z_str ?z_sum ?z_tuple ?z_zip ?pg_Book ?hd_Book ?po_Book ?sa_Book ?mk_Book ?fi_Book_init ?kc_Book ?ha_Book ?hm_Book ?nr_arities ?nr_kinds ?nr_rules ?nr_moves ?pg_Web ?hd_Web ?po_Web ?sa_Web ?mk_Web ?fi_Web_init ?kc_Web ?ha_Web ?hm_Web ?nr_rows ?hn_cls ?ht_cls ?x_NoWishes ?kx_NoWishes ?bx_NoWishes ?tx_NoWishes ?x_NoPlan ?kx_NoPlan ?bx_NoPlan ?tx_NoPlan ?dx_NoPlan ?sx_NoPlan
    (case a_NoWishes => k_is)
    (case a_NoPlan => k_is)
    (case a_Book => k_is)
    (case a_Web => k_is)
    (case a_is_integer => k_is)
    (case l_is_integer => k_is)
    (case c_is_integer => k_is)
    (case k_is_integer => k_is)
    (case a_is_between => k_is)
    (case l_is_between => k_is)
    (case c_is_between => k_is)
    (case k_is_between => k_is)
    (case a_is_tuple_of => k_is)
    (case l_is_tuple_of => k_is)
    (case c_is_tuple_of => k_is)
    (case k_is_tuple_of => k_is)
    (case a_Book_init => k_is)
    (case l_Book_init => k_is)
    (case c_Book_init => k_is)
    (case k_Book_init => k_is)
    (case a_check_frame => k_is)
    (case l_check_frame => k_is)
    (case c_check_frame => k_is)
    (case k_check_frame => k_is)
    (case a_check_rules => k_is)
    (case l_check_rules => k_is)
    (case c_check_rules => k_is)
    (case k_check_rules => k_is)
    (case a_check_moves => k_is)
    (case l_check_moves => k_is)
    (case c_check_moves => k_is)
    (case k_check_moves => k_is)
    (case a_is_rule => k_is)
    (case l_is_rule => k_is)
    (case c_is_rule => k_is)
    (case k_is_rule => k_is)
    (case a_is_move => k_is)
    (case l_is_move => k_is)
    (case c_is_move => k_is)
    (case k_is_move => k_is)
    (case a_is_price => k_is)
    (case l_is_price => k_is)
    (case c_is_price => k_is)
    (case k_is_price => k_is)
    (case a_Web_init => k_is)
    (case l_Web_init => k_is)
    (case c_Web_init => k_is)
    (case k_Web_init => k_is)
    (case a_is_value => k_is)
    (case l_is_value => k_is)
    (case c_is_value => k_is)
    (case k_is_value => k_is)
    (case a_fits => k_is)
    (case l_fits => k_is)
    (case c_fits => k_is)
    (case k_fits => k_is)
    (case a_is_row_of => k_is)
    (case l_is_row_of => k_is)
    (case c_is_row_of => k_is)
    (case k_is_row_of => k_is)
    (case a_check_web => k_is)
    (case l_check_web => k_is)
    (case c_check_web => k_is)
    (case k_check_web => k_is)
    (case a_makeable => k_is)
    (case l_makeable => k_is)
    (case c_makeable => k_is)
    (case k_makeable => k_is)
    (case a_kinds_made => k_is)
    (case l_kinds_made => k_is)
    (case c_kinds_made => k_is)
    (case k_kinds_made => k_is)
    (case a_is_thing => k_is)
    (case l_is_thing => k_is)
    (case c_is_thing => k_is)
    (case k_is_thing => k_is)
    (case a_is_way => k_is)
    (case l_is_way => k_is)
    (case c_is_way => k_is)
    (case k_is_way => k_is)
    (case a_is_way_to => k_is)
    (case l_is_way_to => k_is)
    (case c_is_way_to => k_is)
    (case k_is_way_to => k_is)
    (case a_ways_to => k_is)
    (case l_ways_to => k_is)
    (case c_ways_to => k_is)
    (case k_ways_to => k_is)
    (case a_needs_for => k_is)
    (case l_needs_for => k_is)
    (case c_needs_for => k_is)
    (case k_needs_for => k_is)
    (case a_needs_by_parts => k_is)
    (case l_needs_by_parts => k_is)
    (case c_needs_by_parts => k_is)
    (case k_needs_by_parts => k_is)
    (case a_all_in => k_is)
    (case l_all_in => k_is)
    (case c_all_in => k_is)
    (case k_all_in => k_is)
    (case a_way_price => k_is)
    (case l_way_price => k_is)
    (case c_way_price => k_is)
    (case k_way_price => k_is)
    (case a_is_plan => k_is)
    (case l_is_plan => k_is)
    (case c_is_plan => k_is)
    (case k_is_plan => k_is)
    (case a_price => k_is)
    (case l_price => k_is)
    (case c_price => k_is)
    (case k_price => k_is)
    (case a_is_wishes => k_is)
    (case l_is_wishes => k_is)
    (case c_is_wishes => k_is)
    (case k_is_wishes => k_is)
    (case a_is_lot_of => k_is)
    (case l_is_lot_of => k_is)
    (case c_is_lot_of => k_is)
    (case k_is_lot_of => k_is)
    (case a_check_wishes => k_is)
    (case l_check_wishes => k_is)
    (case c_check_wishes => k_is)
    (case k_check_wishes => k_is)
    (case a_check_plan => k_is)
    (case l_check_plan => k_is)
    (case c_check_plan => k_is)
    (case k_check_plan => k_is)
    (case a_is_plan_for => k_is)
    (case l_is_plan_for => k_is)
    (case c_is_plan_for => k_is)
    (case k_is_plan_for => k_is)
    (case a_is_making => k_is)
    (case l_is_making => k_is)
    (case c_is_making => k_is)
    (case k_is_making => k_is)
    (case a_is_choice => k_is)
    (case l_is_choice => k_is)
    (case c_is_choice => k_is)
    (case k_is_choice => k_is)
    (case a_check_choice => k_is)
    (case l_check_choice => k_is)
    (case c_check_choice => k_is)
    (case k_check_choice => k_is)
    (case a_is_usable => k_is)
    (case l_is_usable => k_is)
    (case c_is_usable => k_is)
    (case k_is_usable => k_is)
    (case a_first_that_returns => k_is)
    (case l_first_that_returns => k_is)
    (case c_first_that_returns => k_is)
    (case k_first_that_returns => k_is)
    (case a_returns => k_is)
    (case l_returns => k_is)
    (case c_returns => k_is)
    (case k_returns => k_is)
    (case a_needed => k_is)
    (case l_needed => k_is)
    (case c_needed => k_is)
    (case k_needed => k_is)
    (case a_plan_by => k_is)
    (case l_plan_by => k_is)
    (case c_plan_by => k_is)
    (case k_plan_by => k_is)
    (case a_cost => k_is)
    (case l_cost => k_is)
    (case c_cost => k_is)
    (case k_cost => k_is)
    (case a_links_of => k_is)
    (case l_links_of => k_is)
    (case c_links_of => k_is)
    (case k_links_of => k_is)
    (case a_needed_by => k_is)
    (case l_needed_by => k_is)
    (case c_needed_by => k_is)
    (case k_needed_by => k_is)
    (case a_plan_of => k_is)
    (case l_plan_of => k_is)
    (case c_plan_of => k_is)
    (case k_plan_of => k_is)
    (case a_first_ready => k_is)
    (case l_first_ready => k_is)
    (case c_first_ready => k_is)
    (case k_first_ready => k_is)
    (case a_law_bag => k_is)
    (case l_law_bag => k_is)
    (case c_law_bag => k_is)
    (case k_law_bag => k_is)
    (case a_law_pick => k_is)
    (case l_law_pick => k_is)
    (case c_law_pick => k_is)
    (case k_law_pick => k_is)
    (case a_law_some => k_is)
    (case l_law_some => k_is)
    (case c_law_some => k_is)
    (case k_law_some => k_is)
    (case a_law_book => k_is)
    (case l_law_book => k_is)
    (case c_law_book => k_is)
    (case k_law_book => k_is)
    (case a_law_values => k_is)
    (case l_law_values => k_is)
    (case c_law_values => k_is)
    (case k_law_values => k_is)
    (case a_law_price => k_is)
    (case l_law_price => k_is)
    (case c_law_price => k_is)
    (case k_law_price => k_is)
    (case a_law_needs => k_is)
    (case l_law_needs => k_is)
    (case c_law_needs => k_is)
    (case k_law_needs => k_is)
    (case a_law_usable => k_is)
    (case l_law_usable => k_is)
    (case c_law_usable => k_is)
    (case k_law_usable => k_is)
    (case a_law_needed => k_is)
    (case l_law_needed => k_is)
    (case c_law_needed => k_is)
    (case k_law_needed => k_is)
    (case a_law_cost => k_is)
    (case l_law_cost => k_is)
    (case c_law_cost => k_is)
    (case k_law_cost => k_is)
    (case a_law_drawn_choice => k_is)
    (case l_law_drawn_choice => k_is)
    (case c_law_drawn_choice => k_is)
    (case k_law_drawn_choice => k_is)
    (case a_law_plan => k_is)
    (case l_law_plan => k_is)
    (case c_law_plan => k_is)
    (case k_law_plan => k_is)
    (case a_law => k_is)
    (case l_law => k_is)
    (case c_law => k_is)
    (case k_law => k_is)
    (case z_abs => k_is)
    (case z_all => k_is)
    (case z_bool => k_is)
    (case z_dict => k_is)
    (case z_enumerate => k_is)
    (case z_int => k_is)
    (case z_isinstance => k_is)
    (case z_len => k_is)
    (case z_list => k_is)
    (case z_max => k_is)
    (case z_min => k_is)
    (case z_range => k_is)
    (case z_set => k_is)
    (case z_sorted => k_is)
    (case z_str => k_is)
    (case z_sum => k_is)
    (case z_tuple => k_is)
    (case z_zip => k_is)
    (case pg_Book => k_is)
    (case hd_Book => k_is)
    (case po_Book => k_is)
    (case sa_Book => k_is)
    (case mk_Book => k_is)
    (case fi_Book_init => k_is)
    (case kc_Book => k_is)
    (case ha_Book => k_is)
    (case hm_Book => k_is)
    (case nr_arities => k_is)
    (case nr_kinds => k_is)
    (case nr_rules => k_is)
    (case nr_moves => k_is)
    (case pg_Web => k_is)
    (case hd_Web => k_is)
    (case po_Web => k_is)
    (case sa_Web => k_is)
    (case mk_Web => k_is)
    (case fi_Web_init => k_is)
    (case kc_Web => k_is)
    (case ha_Web => k_is)
    (case hm_Web => k_is)
    (case nr_rows => k_is)
    (case hn_cls => k_is)
    (case ht_cls => k_is)
    (case x_NoWishes => k_exc)
    (case kx_NoWishes => k_is)
    (case bx_NoWishes => k_is)
    (case tx_NoWishes => k_is)
    (case x_NoPlan => k_exc)
    (case kx_NoPlan => k_is)
    (case bx_NoPlan => k_is)
    (case tx_NoPlan => k_is)
    (case dx_NoPlan => k_is)
    (case sx_NoPlan => k_is)
