import PyProof.Rows.All
import Wide.All
import OpenK.AllK
import Wide.FinOn
import HandS.ForMost
import HandS.IsInst
import HandS.SortInts
import HandS.Conv
import HandS.More
import HandS.OwnEq
import HandS.Codes
import HandS.DictComp
import HandS.ListEq
import HandS.Deep
import HandS.Flow
import HandS.Walk
import KE.GoesEnum
import PySem.Challenge.RW_lookdown_k03_whole_what_values_are_made
set_option Elab.async false
set_option linter.all false
set_option maxRecDepth 100000
set_option maxHeartbeats 2000000
namespace Lk
abbrev Row := Nat × List Nat
def rowAt (R : List Row) (n : Nat) : Row := R.getD n (0, [])
abbrev parts (R : List Row) (n : Nat) : List Nat := (rowAt R n).2
/-- what a web may hold: ops below 8, at most two parts, each one earlier -/
def Good (R : List Row) : Prop := ∀ n, n < R.length → (rowAt R n).1 ≤ 7 ∧ (parts R n).length ≤ 2 ∧ ∀ p ∈ parts R n, p < n
theorem parts_out {R : List Row} {n : Nat} (h : R.length ≤ n) : parts R n = [] := by
  unfold parts rowAt
  rw [List.getD_eq_getElem?_getD, List.getElem?_eq_none h]
  rfl
theorem good_lt {R : List Row} (g : Good R) {n p : Nat} (h : p ∈ parts R n) : p < n := by
  by_cases hn : n < R.length
  · exact (g n hn).2.2 p h
  · rw [parts_out (by omega)] at h
    cases h
def ins (F : List Nat) (x : Nat) : List Nat := if x ∈ F then F else F ++ [x]
theorem mem_ins {F : List Nat} {x y : Nat} : y ∈ ins F x ↔ y ∈ F ∨ y = x := by
  unfold ins
  split
  · rename_i h
    constructor
    · exact Or.inl
    · rintro (a | rfl)
      · exact a
      · exact h
  · rw [List.mem_append, List.mem_singleton]
theorem nodup_ins {F : List Nat} {x : Nat} (h : F.Nodup) : (ins F x).Nodup := by
  unfold ins
  split
  · exact h
  · rename_i hx
    rw [List.nodup_append]
    refine ⟨h, by simp, ?_⟩
    intro a ha b hb e
    rw [List.mem_singleton] at hb
    subst hb
    subst e
    exact hx ha
theorem mem_insAll : ∀ {xs F : List Nat} {y : Nat}, y ∈ xs.foldl ins F ↔ y ∈ F ∨ y ∈ xs
  | [], F, y => by simp
  | x :: xs, F, y => by
    rw [List.foldl_cons, mem_insAll, mem_ins, List.mem_cons]
    constructor
    · rintro ((a | b) | c)
      · exact Or.inl a
      · exact Or.inr (Or.inl b)
      · exact Or.inr (Or.inr c)
    · rintro (a | b | c)
      · exact Or.inl (Or.inl a)
      · exact Or.inl (Or.inr b)
      · exact Or.inr c
theorem nodup_insAll : ∀ {xs F : List Nat}, F.Nodup → (xs.foldl ins F).Nodup
  | [], _, h => h
  | _ :: xs, _, h => nodup_insAll (xs := xs) (nodup_ins h)
def stepB (R : List Row) (F : List Nat) (n : Nat) : List Nat := if n ∈ F then (parts R n).foldl ins F else F
/-- the dict's keys behind i turns -/
def goB (R : List Row) (v : Nat) : Nat → List Nat
  | 0 => [v]
  | i + 1 => stepB R (goB R v i) (v - i)
inductive Reach (R : List Row) (v : Nat) : Nat → Prop where
  | refl : Reach R v v
  | step {n p : Nat} : Reach R v n → p ∈ parts R n → Reach R v p
theorem Reach.le {R : List Row} (g : Good R) {v x : Nat} (h : Reach R v x) : x ≤ v := by
  induction h with
  | refl => exact Nat.le_refl _
  | step _ hp ih => have := good_lt g hp; omega
theorem Reach.trans {R : List Row} {u v x : Nat} (h1 : Reach R u v) (h2 : Reach R v x) : Reach R u x := by
  induction h2 with
  | refl => exact h1
  | step _ hp ih => exact .step ih hp
theorem mem_goB {R : List Row} (g : Good R) (v : Nat) : ∀ (i : Nat), i ≤ v + 1 → ∀ x, x ∈ goB R v i ↔ x = v ∨ ∃ n, Reach R v n ∧ v < n + i ∧ x ∈ parts R n
  | 0, _, x => by
    constructor
    · intro h
      exact Or.inl (List.mem_singleton.mp h)
    · rintro (rfl | ⟨n, hr, hn, _⟩)
      · exact List.mem_singleton.mpr rfl
      · have := hr.le g
        omega
  | i + 1, hi, x => by
    have ih := mem_goB g v i (by omega)
    have key : v - i ∈ goB R v i ↔ Reach R v (v - i) := by
      rw [ih]
      constructor
      · rintro (e | ⟨n, hr, _, hp⟩)
        · rw [e]; exact .refl
        · exact .step hr hp
      · intro h
        generalize hm : v - i = m at h
        cases h with
        | refl => exact Or.inl rfl
        | @step n _ hr hp => exact Or.inr ⟨n, hr, by have := good_lt g hp; omega, hp⟩
    show x ∈ stepB R (goB R v i) (v - i) ↔ _
    unfold stepB
    split
    · rename_i hm
      rw [mem_insAll, ih]
      constructor
      · rintro ((a | ⟨n, hr, hn, hp⟩) | c)
        · exact Or.inl a
        · exact Or.inr ⟨n, hr, by omega, hp⟩
        · exact Or.inr ⟨v - i, key.mp hm, by omega, c⟩
      · rintro (a | ⟨n, hr, hn, hp⟩)
        · exact Or.inl (Or.inl a)
        · by_cases hz : v < n + i
          · exact Or.inl (Or.inr ⟨n, hr, hz, hp⟩)
          · have : n = v - i := by omega
            exact Or.inr (this ▸ hp)
    · rename_i hm
      rw [ih]
      constructor
      · rintro (a | ⟨n, hr, hn, hp⟩)
        · exact Or.inl a
        · exact Or.inr ⟨n, hr, by omega, hp⟩
      · rintro (a | ⟨n, hr, hn, hp⟩)
        · exact Or.inl a
        · by_cases hz : v < n + i
          · exact Or.inr ⟨n, hr, hz, hp⟩
          · have e : n = v - i := by omega
            exact absurd (key.mpr (e ▸ hr)) hm
theorem nodup_goB {R : List Row} {v : Nat} : ∀ i, (goB R v i).Nodup
  | 0 => by show [v].Nodup; simp
  | i + 1 => by
    show (stepB R (goB R v i) (v - i)).Nodup
    unfold stepB
    split
    · exact nodup_insAll (nodup_goB i)
    · exact nodup_goB i
theorem reach_goB {R : List Row} (g : Good R) {v x : Nat} : x ∈ goB R v (v + 1) ↔ Reach R v x := by
  rw [mem_goB g v (v + 1) (Nat.le_refl _)]
  constructor
  · rintro (rfl | ⟨n, hr, _, hp⟩)
    · exact .refl
    · exact .step hr hp
  · intro h
    cases h with
    | refl => exact Or.inl rfl
    | @step n _ hr hp => exact Or.inr ⟨n, hr, by omega, hp⟩
/-- what v is made of, ascending -/
def belowM (R : List Row) (v : Nat) : List Nat := (List.range (v + 1)).filter fun x => decide (x ∈ goB R v (v + 1))
theorem mem_belowM {R : List Row} (g : Good R) {v x : Nat} : x ∈ belowM R v ↔ Reach R v x := by
  unfold belowM
  rw [List.mem_filter, List.mem_range, decide_eq_true_eq, reach_goB g]
  exact ⟨fun h => h.2, fun h => ⟨by have := h.le g; omega, h⟩⟩
theorem sorted_belowM {R : List Row} {v : Nat} : (belowM R v).Pairwise (· < ·) := List.Pairwise.filter _ List.pairwise_lt_range
theorem nodup_of_lt {l : List Nat} (h : l.Pairwise (· < ·)) : l.Nodup := h.imp fun h => Nat.ne_of_lt h
theorem nodup_belowM {R : List Row} {v : Nat} : (belowM R v).Nodup := nodup_of_lt sorted_belowM
/-- two ascending lists of the same members are one -/
theorem eq_of_sorted : ∀ {l m : List Nat}, l.Pairwise (· < ·) → m.Pairwise (· < ·) → (∀ x, x ∈ l ↔ x ∈ m) → l = m
  | [], [], _, _, _ => rfl
  | [], b :: m, _, _, h => absurd ((h b).mpr List.mem_cons_self) (by simp)
  | a :: l, [], _, _, h => absurd ((h a).mp List.mem_cons_self) (by simp)
  | a :: l, b :: m, h1, h2, h => by
    rw [List.pairwise_cons] at h1 h2
    have e : a = b := by
      have ha := (h a).mp List.mem_cons_self
      have hb := (h b).mpr List.mem_cons_self
      rw [List.mem_cons] at ha hb
      rcases ha with ha | ha
      · exact ha
      · rcases hb with hb | hb
        · exact hb.symm
        · have := h1.1 b hb
          have := h2.1 a ha
          omega
    subst e
    have : l = m := eq_of_sorted h1.2 h2.2 fun x => by
      have hx := h x
      rw [List.mem_cons, List.mem_cons] at hx
      constructor
      · intro hl
        rcases hx.mp (Or.inr hl) with e | e
        · exact absurd (h1.1 x hl) (by omega)
        · exact e
      · intro hm
        rcases hx.mpr (Or.inr hm) with e | e
        · exact absurd (h2.1 x hm) (by omega)
        · exact e
    rw [this]
theorem sorted_int_eq : ∀ {l m : List Int}, l.Pairwise (· ≤ ·) → m.Pairwise (· ≤ ·) → l.Perm m → l = m
  | [], m, _, _, h => (List.nil_perm.mp h).symm
  | a :: l, [], _, _, h => absurd h.length_eq (by simp)
  | a :: l, b :: m, h1, h2, h => by
    rw [List.pairwise_cons] at h1 h2
    have e : a = b := by
      have ha : a ∈ b :: m := h.mem_iff.mp List.mem_cons_self
      have hb : b ∈ a :: l := h.mem_iff.mpr List.mem_cons_self
      rw [List.mem_cons] at ha hb
      rcases ha with ha | ha
      · exact ha
      · rcases hb with hb | hb
        · exact hb.symm
        · have := h1.1 b hb
          have := h2.1 a ha
          omega
    subst e
    rw [sorted_int_eq h1.2 h2.2 (List.perm_cons _ |>.mp h)]
/-- the dict's keys, sorted as ints -/
theorem sorted_keys {R : List Row} (g : Good R) {v : Nat} {ns : List Int} (hp : ns.Perm ((goB R v (v + 1)).map (fun (x : Nat) => (x : Int)))) (hs : ns.Pairwise (· ≤ ·)) : ns = (belowM R v).map (fun (x : Nat) => (x : Int)) := by
  refine sorted_int_eq hs ?_ (hp.trans (List.Perm.map _ ?_))
  · rw [List.pairwise_map]
    exact sorted_belowM.imp fun {a b} h => by omega
  · refine (List.perm_ext_iff_of_nodup (nodup_goB _) nodup_belowM).mpr fun x => ?_
    rw [reach_goB g, mem_belowM g]
theorem belowM_len {R : List Row} {v : Nat} : (belowM R v).length ≤ v + 1 := by
  have := List.length_filter_le (fun x => decide (x ∈ goB R v (v + 1))) (List.range (v + 1))
  rw [List.length_range] at this
  exact this
theorem belowM_lt {R : List Row} (g : Good R) {v x : Nat} (h : x ∈ belowM R v) : x ≤ v := ((mem_belowM g).mp h).le g
/-- the web cut out -/
def cutM (R : List Row) (v : Nat) : List Row := (belowM R v).map fun n => ((rowAt R n).1, (parts R n).map fun p => (belowM R v).idxOf p)
theorem cutM_len {R : List Row} {v : Nat} : (cutM R v).length = (belowM R v).length := List.length_map _
theorem gd {l : List Nat} {i : Nat} (h : i < l.length) : l.getD i 0 = l[i] := by
  rw [List.getD_eq_getElem?_getD, List.getElem?_eq_getElem h]
  rfl
theorem cutM_row {R : List Row} {v i : Nat} (h : i < (belowM R v).length) : rowAt (cutM R v) i = ((rowAt R ((belowM R v).getD i 0)).1, (parts R ((belowM R v).getD i 0)).map fun p => (belowM R v).idxOf p) := by
  unfold rowAt cutM
  rw [List.getD_eq_getElem?_getD, List.getElem?_map, List.getElem?_eq_getElem h]
  rw [gd h]
  rfl
theorem getD_mem {l : List Nat} {i : Nat} (h : i < l.length) : l.getD i 0 ∈ l := by
  rw [gd h]
  exact List.getElem_mem h
theorem idxOf_getD {l : List Nat} {x : Nat} (h : x ∈ l) : l.getD (l.idxOf x) 0 = x := by
  rw [gd (List.idxOf_lt_length_of_mem h)]
  exact List.getElem_idxOf (List.idxOf_lt_length_of_mem h)
theorem idxOf_of_getD {l : List Nat} (hn : l.Nodup) {i : Nat} (h : i < l.length) : l.idxOf (l.getD i 0) = i := by
  rw [gd h]
  exact List.Nodup.idxOf_getElem hn i h
theorem getD_lt {l : List Nat} (hs : l.Pairwise (· < ·)) {i j : Nat} (hij : i < j) (hj : j < l.length) : l.getD i 0 < l.getD j 0 := by
  rw [gd hj, gd (show i < l.length by omega)]
  exact List.pairwise_iff_getElem.mp hs i j (by omega) hj hij
theorem part_in {R : List Row} (g : Good R) {v n p : Nat} (hn : n ∈ belowM R v) (hp : p ∈ parts R n) : p ∈ belowM R v := (mem_belowM g).mpr (.step ((mem_belowM g).mp hn) hp)
theorem idx_lt {l : List Nat} (hs : l.Pairwise (· < ·)) {x y : Nat} (hx : x ∈ l) (hy : y ∈ l) (h : x < y) : l.idxOf x < l.idxOf y := by
  rcases Nat.lt_or_ge (l.idxOf x) (l.idxOf y) with h1 | h1
  · exact h1
  · rcases Nat.lt_or_eq_of_le h1 with h2 | h2
    · have := getD_lt hs h2 (List.idxOf_lt_length_of_mem hx)
      rw [idxOf_getD hx, idxOf_getD hy] at this
      omega
    · have e := idxOf_getD hx
      rw [← h2, idxOf_getD hy] at e
      omega
theorem good_cutM {R : List Row} (g : Good R) {v : Nat} (hv : v < R.length) : Good (cutM R v) := by
  intro i hi
  rw [cutM_len] at hi
  unfold parts
  rw [cutM_row hi]
  have hm := getD_mem hi
  have hlt : (belowM R v).getD i 0 < R.length := by have := belowM_lt g hm; omega
  obtain ⟨h1, h2, h3⟩ := g _ hlt
  refine ⟨h1, by rw [List.length_map]; exact h2, fun p hp => ?_⟩
  obtain ⟨q, hq, rfl⟩ := List.mem_map.mp hp
  have := idx_lt sorted_belowM (part_in g hm hq) hm (h3 q hq)
  rwa [idxOf_of_getD nodup_belowM hi] at this
/-- a step in the web cut out is a step in the web -/
theorem cut_part {R : List Row} (g : Good R) {v i j : Nat} (hi : i < (belowM R v).length) : j ∈ parts (cutM R v) i ↔ j < (belowM R v).length ∧ (belowM R v).getD j 0 ∈ parts R ((belowM R v).getD i 0) := by
  unfold parts
  rw [cutM_row hi]
  constructor
  · intro h
    obtain ⟨q, hq, rfl⟩ := List.mem_map.mp h
    have hm := part_in g (getD_mem hi) hq
    exact ⟨List.idxOf_lt_length_of_mem hm, by rw [idxOf_getD hm]; exact hq⟩
  · rintro ⟨hj, h⟩
    exact List.mem_map.mpr ⟨_, h, idxOf_of_getD nodup_belowM hj⟩
theorem reach_cut {R : List Row} (g : Good R) {v i j : Nat} (hi : i < (belowM R v).length) : Reach (cutM R v) i j ↔ j < (belowM R v).length ∧ Reach R ((belowM R v).getD i 0) ((belowM R v).getD j 0) := by
  constructor
  · intro h
    induction h with
    | refl => exact ⟨hi, .refl⟩
    | step _ hp ih =>
      obtain ⟨h1, h2⟩ := (cut_part g ih.1).mp hp
      exact ⟨h1, .step ih.2 h2⟩
  · rintro ⟨hj, h⟩
    generalize hx : (belowM R v).getD j 0 = x at h
    induction h generalizing j with
    | refl =>
      have e : j = i := by
        have this : (belowM R v).idxOf ((belowM R v).getD j 0) = (belowM R v).idxOf ((belowM R v).getD i 0) := congrArg (fun y => (belowM R v).idxOf y) hx
        rwa [idxOf_of_getD nodup_belowM hj, idxOf_of_getD nodup_belowM hi] at this
      rw [e]
      exact .refl
    | @step n p hr hp ih =>
      have hn : n ∈ belowM R v := (mem_belowM g).mpr (((mem_belowM g).mp (getD_mem hi)).trans hr)
      have h1 := ih (j := (belowM R v).idxOf n) (List.idxOf_lt_length_of_mem hn) (idxOf_getD hn)
      refine .step h1 ((cut_part g (List.idxOf_lt_length_of_mem hn)).mpr ⟨hj, ?_⟩)
      rw [idxOf_getD hn, hx]
      exact hp
theorem below_cut {R : List Row} (g : Good R) {v i : Nat} (hv : v < R.length) (hi : i < (belowM R v).length) :
    (belowM (cutM R v) i).map (fun j => (belowM R v).getD j 0) = belowM R ((belowM R v).getD i 0) := by
  have gc := good_cutM g hv
  refine eq_of_sorted ?_ sorted_belowM fun x => ?_
  · rw [List.pairwise_map]
    refine List.Pairwise.imp_of_mem ?_ sorted_belowM
    intro a b ha hb hab
    exact getD_lt sorted_belowM hab ((reach_cut g hi).mp ((mem_belowM gc).mp hb)).1
  · rw [mem_belowM g, List.mem_map]
    constructor
    · rintro ⟨j, hj, rfl⟩
      exact ((reach_cut g hi).mp ((mem_belowM gc).mp hj)).2
    · intro h
      have hx : x ∈ belowM R v := (mem_belowM g).mpr (((mem_belowM g).mp (getD_mem hi)).trans h)
      refine ⟨(belowM R v).idxOf x, (mem_belowM gc).mpr ((reach_cut g hi).mpr ⟨List.idxOf_lt_length_of_mem hx, ?_⟩), idxOf_getD hx⟩
      rw [idxOf_getD hx]
      exact h
theorem idxOf_map {l : List Nat} {f : Nat → Nat} {x : Nat} (hx : x ∈ l) (hf : ∀ a ∈ l, ∀ b ∈ l, f a = f b → a = b) : (l.map f).idxOf (f x) = l.idxOf x := by
  induction l with
  | nil => cases hx
  | cons a l ih =>
    rw [List.map_cons, List.idxOf_cons, List.idxOf_cons]
    by_cases e : a = x
    · subst e
      simp
    · have ne : ¬ f a = f x := fun q => e (hf a List.mem_cons_self x hx q)
      have ne' : (f a == f x) = false := by simpa using ne
      have e' : (a == x) = false := by simpa using e
      rw [ne', e']
      have hx' : x ∈ l := by
        rcases List.mem_cons.mp hx with q | q
        · exact absurd q.symm e
        · exact q
      show (l.map f).idxOf (f x) + 1 = l.idxOf x + 1
      rw [ih hx' fun a ha b hb => hf a (List.mem_cons_of_mem _ ha) b (List.mem_cons_of_mem _ hb)]
theorem cut_cut {R : List Row} (g : Good R) {v i : Nat} (hv : v < R.length) (hi : i < (belowM R v).length) : cutM (cutM R v) i = cutM R ((belowM R v).getD i 0) := by
  have gc := good_cutM g hv
  have hb := below_cut g hv hi
  show (belowM (cutM R v) i).map _ = (belowM R ((belowM R v).getD i 0)).map _
  have inj : ∀ a ∈ belowM (cutM R v) i, ∀ b ∈ belowM (cutM R v) i, (belowM R v).getD a 0 = (belowM R v).getD b 0 → a = b := fun a ha b hb e => by
    have h1 := ((reach_cut g hi).mp ((mem_belowM gc).mp ha)).1
    have h2 := ((reach_cut g hi).mp ((mem_belowM gc).mp hb)).1
    have this : (belowM R v).idxOf ((belowM R v).getD a 0) = (belowM R v).idxOf ((belowM R v).getD b 0) := congrArg (fun y => (belowM R v).idxOf y) e
    rwa [idxOf_of_getD nodup_belowM h1, idxOf_of_getD nodup_belowM h2] at this
  rw [← hb, List.map_map]
  refine List.map_congr_left fun n hn => ?_
  have hnl := ((reach_cut g hi).mp ((mem_belowM gc).mp hn)).1
  show ((rowAt (cutM R v) n).1, (parts (cutM R v) n).map _) = ((rowAt R ((belowM R v).getD n 0)).1, (parts R ((belowM R v).getD n 0)).map _)
  unfold parts
  rw [cutM_row hnl]
  refine Prod.ext rfl ?_
  show (List.map _ _).map _ = List.map _ _
  rw [List.map_map]
  refine List.map_congr_left fun p hp => ?_
  have hpB : p ∈ belowM R v := part_in g (getD_mem hnl) hp
  have hpi : (belowM R v).idxOf p ∈ belowM (cutM R v) i := by
    refine part_in gc hn ((cut_part g hnl).mpr ⟨List.idxOf_lt_length_of_mem hpB, ?_⟩)
    rw [idxOf_getD hpB]
    exact hp
  have := idxOf_map (f := fun j => (belowM R v).getD j 0) hpi inj
  rw [idxOf_getD hpB] at this
  exact this.symm
/-- the value is the last one of what it is made of -/
theorem belowM_last {R : List Row} (g : Good R) {v : Nat} : 0 < (belowM R v).length ∧ (belowM R v).getD ((belowM R v).length - 1) 0 = v := by
  have hv : v ∈ belowM R v := (mem_belowM g).mpr .refl
  have hl : 0 < (belowM R v).length := List.length_pos_of_mem hv
  refine ⟨hl, ?_⟩
  have h1 := List.idxOf_lt_length_of_mem hv
  rcases Nat.lt_or_ge ((belowM R v).idxOf v) ((belowM R v).length - 1) with h | h
  · have h2 := getD_lt (l := belowM R v) sorted_belowM h (by omega)
    rw [idxOf_getD hv] at h2
    have h3 := belowM_lt g (getD_mem (l := belowM R v) (i := (belowM R v).length - 1) (by omega))
    omega
  · have e : (belowM R v).length - 1 = (belowM R v).idxOf v := by omega
    rw [e, idxOf_getD hv]
theorem cut_again {R : List Row} (g : Good R) {v : Nat} (hv : v < R.length) : cutM (cutM R v) ((cutM R v).length - 1) = cutM R v := by
  obtain ⟨h1, h2⟩ := belowM_last g (v := v)
  rw [cutM_len, cut_cut g hv (by omega), h2]
end Lk

namespace Lk
open PySem L2
def top (i : Nat) : Stmt := PySem.Challenge.pw_lookdown_k03_whole_what_values_are_made.main.body.getD i (.Pass ⟨0, 0, 0, 0⟩)
abbrev s_is_integer : Stmt := top 1
abbrev s_is_between : Stmt := top 2
abbrev s_is_tuple_of : Stmt := top 3
abbrev s_Web_init : Stmt := inClass (top 9) 0
abbrev s_Web_eq : Stmt := inClass (top 9) 1
abbrev s_is_value : Stmt := top 10
abbrev s_web_of_rows : Stmt := top 11
abbrev s_check_value : Stmt := top 12
abbrev s_below : Stmt := top 13
abbrev s_part_web : Stmt := top 14
abbrev s_law_bag : Stmt := top 16
abbrev s_law_pick : Stmt := top 17
abbrev s_law_same : Stmt := top 18
abbrev s_law_free_values : Stmt := top 19
abbrev s_law_below : Stmt := top 20
abbrev s_law_cut : Stmt := top 21
abbrev s_law_is_cut : Stmt := top 22
abbrev s_law : Stmt := top 23
theorem sc_is_integer : FnScope ["thing"] ["thing"] (defScope s_is_integer) := ⟨rfl, rfl, rfl, by decide +kernel, rfl, by decide +kernel, by decide +kernel⟩
theorem sc_is_between : FnScope ["low", "high", "thing"] ["low", "high", "thing"] (defScope s_is_between) := ⟨rfl, rfl, rfl, by decide +kernel, rfl, by decide +kernel, by decide +kernel⟩
theorem sc_is_tuple_of : FnScope ["low", "high", "thing"] ["low", "high", "thing"] (defScope s_is_tuple_of) := ⟨rfl, rfl, rfl, by decide +kernel, rfl, by decide +kernel, by decide +kernel⟩
theorem sc_Web_init : FnScope ["self", "values", "index", "value"] ["self", "values"] (defScope s_Web_init) := ⟨rfl, rfl, rfl, by decide +kernel, rfl, by decide +kernel, by decide +kernel⟩
theorem sc_Web_eq : FnScope ["self", "other"] ["self", "other"] (defScope s_Web_eq) := ⟨rfl, rfl, rfl, by decide +kernel, rfl, by decide +kernel, by decide +kernel⟩
theorem sc_is_value : FnScope ["index", "thing", "op", "parts", "part"] ["index", "thing"] (defScope s_is_value) := ⟨rfl, rfl, rfl, by decide +kernel, rfl, by decide +kernel, by decide +kernel⟩
theorem sc_web_of_rows : FnScope ["rows", "web"] ["rows"] (defScope s_web_of_rows) := ⟨rfl, rfl, rfl, by decide +kernel, rfl, by decide +kernel, by decide +kernel⟩
theorem sc_check_value : FnScope ["web", "value"] ["web", "value"] (defScope s_check_value) := ⟨rfl, rfl, rfl, by decide +kernel, rfl, by decide +kernel, by decide +kernel⟩
theorem sc_below : FnScope ["web", "value", "found", "each", "part"] ["web", "value"] (defScope s_below) := ⟨rfl, rfl, rfl, by decide +kernel, rfl, by decide +kernel, by decide +kernel⟩
theorem sc_part_web : FnScope ["web", "value", "values", "places", "rows", "each", "op", "parts", "place", "part"] ["web", "value"] (defScope s_part_web) := ⟨rfl, rfl, rfl, by decide +kernel, rfl, by decide +kernel, by decide +kernel⟩
theorem sc_law_bag : FnScope ["_law_script", "_law_seed", "_law_cell", "_law_great", "_law_always"] ["_law_script"] (defScope s_law_bag) := ⟨rfl, rfl, rfl, by decide +kernel, rfl, by decide +kernel, by decide +kernel⟩
theorem sc_law_pick : FnScope ["_law_bag_here", "_law_many", "_law_great", "_law_digit", "_law_number"] ["_law_bag_here", "_law_many"] (defScope s_law_pick) := ⟨rfl, rfl, rfl, by decide +kernel, rfl, by decide +kernel, by decide +kernel⟩
theorem sc_law_same : FnScope ["_law_told", "_law_due", "_law_k"] ["_law_told", "_law_due"] (defScope s_law_same) := ⟨rfl, rfl, rfl, by decide +kernel, rfl, by decide +kernel, by decide +kernel⟩
theorem sc_law_free_values : FnScope ["_law_bag_here", "_law_found", "_law_k", "_law_parts", "_law_how", "_law_step", "_law_j"] ["_law_bag_here"] (defScope s_law_free_values) := ⟨rfl, rfl, rfl, by decide +kernel, rfl, by decide +kernel, by decide +kernel⟩
theorem sc_law_below : FnScope ["_law_values", "_law_value", "_law_inner", "_law_number", "_law_part"] ["_law_values", "_law_value"] (defScope s_law_below) := ⟨rfl, rfl, rfl, by decide +kernel, rfl, by decide +kernel, by decide +kernel⟩
theorem sc_law_cut : FnScope ["_law_values", "_law_value", "_law_some", "_law_places", "_law_number", "_law_part"] ["_law_values", "_law_value"] (defScope s_law_cut) := ⟨rfl, rfl, rfl, by decide +kernel, rfl, by decide +kernel, by decide +kernel⟩
theorem sc_law_is_cut : FnScope ["_law_web", "_law_value", "_law_due", "_law_cut_here", "_law_again"] ["_law_web", "_law_value", "_law_due"] (defScope s_law_is_cut) := ⟨rfl, rfl, rfl, by decide +kernel, rfl, by decide +kernel, by decide +kernel⟩
theorem sc_law : FnScope ["_law_script", "_law_bag_here", "_law_values", "_law_web", "_law_turn", "_law_value", "_law_some", "_law_due", "_law_cut_here", "_law_at", "_law_place"] ["_law_script"] (defScope s_law) := ⟨rfl, rfl, rfl, by decide +kernel, rfl, by decide +kernel, by decide +kernel⟩
structure Adr where
  f_is_integer : Addr
  d_is_integer : FuncData
  f_is_between : Addr
  d_is_between : FuncData
  f_is_tuple_of : Addr
  d_is_tuple_of : FuncData
  f_Web_init : Addr
  d_Web_init : FuncData
  f_Web_eq : Addr
  d_Web_eq : FuncData
  f_is_value : Addr
  d_is_value : FuncData
  f_web_of_rows : Addr
  d_web_of_rows : FuncData
  f_check_value : Addr
  d_check_value : FuncData
  f_below : Addr
  d_below : FuncData
  f_part_web : Addr
  d_part_web : FuncData
  f_law_bag : Addr
  d_law_bag : FuncData
  f_law_pick : Addr
  d_law_pick : FuncData
  f_law_same : Addr
  d_law_same : FuncData
  f_law_free_values : Addr
  d_law_free_values : FuncData
  f_law_below : Addr
  d_law_below : FuncData
  f_law_cut : Addr
  d_law_cut : FuncData
  f_law_is_cut : Addr
  d_law_is_cut : FuncData
  f_law : Addr
  d_law : FuncData
  c_Web : Addr
structure Txt (K : PySem.W.Frag) (mg : Str → Option Value) (a : Adr) : Prop where
  F_is_integer : Fun K "is_integer" "is_integer" s_is_integer a.f_is_integer a.d_is_integer
  b_is_integer : Binds K a.d_is_integer ["thing"] []
  k_is_integer : PySem.W.keepIn K (.ref a.f_is_integer) = true
  g_is_integer : mg "is_integer" = some (.ref a.f_is_integer)
  F_is_between : Fun K "is_between" "is_between" s_is_between a.f_is_between a.d_is_between
  b_is_between : Binds K a.d_is_between ["low", "high", "thing"] []
  k_is_between : PySem.W.keepIn K (.ref a.f_is_between) = true
  g_is_between : mg "is_between" = some (.ref a.f_is_between)
  F_is_tuple_of : Fun K "is_tuple_of" "is_tuple_of" s_is_tuple_of a.f_is_tuple_of a.d_is_tuple_of
  b_is_tuple_of : Binds K a.d_is_tuple_of ["low", "high", "thing"] []
  k_is_tuple_of : PySem.W.keepIn K (.ref a.f_is_tuple_of) = true
  g_is_tuple_of : mg "is_tuple_of" = some (.ref a.f_is_tuple_of)
  F_Web_init : Fun K "__init__" "Web.__init__" s_Web_init a.f_Web_init a.d_Web_init
  b_Web_init : Binds K a.d_Web_init ["self", "values"] []
  k_Web_init : PySem.W.keepIn K (.ref a.f_Web_init) = true
  F_Web_eq : Fun K "__eq__" "Web.__eq__" s_Web_eq a.f_Web_eq a.d_Web_eq
  b_Web_eq : Binds K a.d_Web_eq ["self", "other"] []
  k_Web_eq : PySem.W.keepIn K (.ref a.f_Web_eq) = true
  F_is_value : Fun K "_is_value" "_is_value" s_is_value a.f_is_value a.d_is_value
  b_is_value : Binds K a.d_is_value ["index", "thing"] []
  k_is_value : PySem.W.keepIn K (.ref a.f_is_value) = true
  g_is_value : mg "_is_value" = some (.ref a.f_is_value)
  F_web_of_rows : Fun K "web_of_rows" "web_of_rows" s_web_of_rows a.f_web_of_rows a.d_web_of_rows
  b_web_of_rows : Binds K a.d_web_of_rows ["rows"] []
  k_web_of_rows : PySem.W.keepIn K (.ref a.f_web_of_rows) = true
  g_web_of_rows : mg "web_of_rows" = some (.ref a.f_web_of_rows)
  F_check_value : Fun K "_check_value" "_check_value" s_check_value a.f_check_value a.d_check_value
  b_check_value : Binds K a.d_check_value ["web", "value"] []
  k_check_value : PySem.W.keepIn K (.ref a.f_check_value) = true
  g_check_value : mg "_check_value" = some (.ref a.f_check_value)
  F_below : Fun K "below" "below" s_below a.f_below a.d_below
  b_below : Binds K a.d_below ["web", "value"] []
  k_below : PySem.W.keepIn K (.ref a.f_below) = true
  g_below : mg "below" = some (.ref a.f_below)
  F_part_web : Fun K "part_web" "part_web" s_part_web a.f_part_web a.d_part_web
  b_part_web : Binds K a.d_part_web ["web", "value"] []
  k_part_web : PySem.W.keepIn K (.ref a.f_part_web) = true
  g_part_web : mg "part_web" = some (.ref a.f_part_web)
  F_law_bag : Fun K "_law_bag" "_law_bag" s_law_bag a.f_law_bag a.d_law_bag
  b_law_bag : Binds K a.d_law_bag ["_law_script"] []
  k_law_bag : PySem.W.keepIn K (.ref a.f_law_bag) = true
  g_law_bag : mg "_law_bag" = some (.ref a.f_law_bag)
  F_law_pick : Fun K "_law_pick" "_law_pick" s_law_pick a.f_law_pick a.d_law_pick
  b_law_pick : Binds K a.d_law_pick ["_law_bag_here", "_law_many"] []
  k_law_pick : PySem.W.keepIn K (.ref a.f_law_pick) = true
  g_law_pick : mg "_law_pick" = some (.ref a.f_law_pick)
  F_law_same : Fun K "_law_same" "_law_same" s_law_same a.f_law_same a.d_law_same
  b_law_same : Binds K a.d_law_same ["_law_told", "_law_due"] []
  k_law_same : PySem.W.keepIn K (.ref a.f_law_same) = true
  g_law_same : mg "_law_same" = some (.ref a.f_law_same)
  F_law_free_values : Fun K "_law_free_values" "_law_free_values" s_law_free_values a.f_law_free_values a.d_law_free_values
  b_law_free_values : Binds K a.d_law_free_values ["_law_bag_here"] []
  k_law_free_values : PySem.W.keepIn K (.ref a.f_law_free_values) = true
  g_law_free_values : mg "_law_free_values" = some (.ref a.f_law_free_values)
  F_law_below : Fun K "_law_below" "_law_below" s_law_below a.f_law_below a.d_law_below
  b_law_below : Binds K a.d_law_below ["_law_values", "_law_value"] []
  k_law_below : PySem.W.keepIn K (.ref a.f_law_below) = true
  g_law_below : mg "_law_below" = some (.ref a.f_law_below)
  F_law_cut : Fun K "_law_cut" "_law_cut" s_law_cut a.f_law_cut a.d_law_cut
  b_law_cut : Binds K a.d_law_cut ["_law_values", "_law_value"] []
  k_law_cut : PySem.W.keepIn K (.ref a.f_law_cut) = true
  g_law_cut : mg "_law_cut" = some (.ref a.f_law_cut)
  F_law_is_cut : Fun K "_law_is_cut" "_law_is_cut" s_law_is_cut a.f_law_is_cut a.d_law_is_cut
  b_law_is_cut : Binds K a.d_law_is_cut ["_law_web", "_law_value", "_law_due"] []
  k_law_is_cut : PySem.W.keepIn K (.ref a.f_law_is_cut) = true
  g_law_is_cut : mg "_law_is_cut" = some (.ref a.f_law_is_cut)
  F_law : Fun K "law" "law" s_law a.f_law a.d_law
  b_law : Binds K a.d_law ["_law_script"] []
  k_law : PySem.W.keepIn K (.ref a.f_law) = true
  g_law : mg "law" = some (.ref a.f_law)
  g_Web : mg "Web" = some (.ref a.c_Web)
  z_abs : mg "abs" = none
  z_all : mg "all" = none
  z_bool : mg "bool" = none
  z_enumerate : mg "enumerate" = none
  z_int : mg "int" = none
  z_isinstance : mg "isinstance" = none
  z_len : mg "len" = none
  z_list : mg "list" = none
  z_max : mg "max" = none
  z_range : mg "range" = none
  z_sorted : mg "sorted" = none
  z_str : mg "str" = none
  z_sum : mg "sum" = none
  z_tuple : mg "tuple" = none
  C_Web : Cls K a.c_Web
  N_rows : NoAttr K a.c_Web "rows"
  M_Web : Mk K a.c_Web a.f_Web_init
  I_Web : C8.InsC K a.c_Web
  Q_Web : PySem.W.findIn K (.ref a.c_Web) "__eq__" = some (some (.ref a.f_Web_eq))
  Q2_Web : PySem.W.isFn K (.ref a.f_Web_eq) = true
end Lk
/-! enumerate of a tuple: my own rule beside the layer's for lists -/
namespace EnT
open PySem PySem.Spec PyProof.Rows L2
theorem new1 {v : Value} {ob : Obj} {G : Heap → Prop} (B : Begins v ob G) : Meets (Builtin.«enumerate.__new__» ⟨[.type "enumerate", v], []⟩)
    (fun _ R s => G s.heap ∧ R (.ok (.ret (.ref (s.heap.push ob).objs.size))) { s with heap := (s.heap.push ob).push { cls := .type "enumerate", data := .fields #[.none, .bool false, .ref s.heap.objs.size, rawInt 0, .none, .none] } }) :=
  .of_wp fun prog w A R s hh => by
    obtain ⟨hp, gg, dd, tt, oo⟩ := s; obtain ⟨ha, hb⟩ := hh
    have hsub := sub_enumerate
    have it0 : ∀ {A' : Around} {E Q : Value → Shared → Prop}, Q (.ref hp.objs.size) ⟨hp.push ob, gg, dd, tt, oo⟩ → wpAny (model prog w) A' (pyIter v) Q E ⟨hp, gg, dd, tt, oo⟩ :=
      fun {_ _ _} q => B.iter prog w _ _ ⟨hp, gg, dd, tt, oo⟩ _ ha q
    wp_walk using it0
    refine wpAny_stack_any fun _ => wpAny_pure ?_
    split
    · rename_i c _ _ _ _ _
      cases (c == Value.type "enumerate") <;> (wp_walk using it0; exact ⟨_, rfl, hb⟩)
    · wp_walk using it0
      exact ⟨_, rfl, hb⟩
section
variable {prog : Program} {w : World} {A : Around} {E : Value → Shared → Prop} {s : Shared}
theorem call1 {v : Value} {ob : Obj} {G : Heap → Prop} {Q : Value → Shared → Prop} (B : Begins v ob G) (ha : G s.heap)
    (q : ∀ h', IsEnum h' (s.heap.objs.size + 1) s.heap.objs.size 0 .none → h'.get? s.heap.objs.size = some ob → (∀ b o, s.heap.get? b = some o → h'.get? b = some o) → Q (.ref (s.heap.objs.size + 1)) { s with heap := h' }) :
    wpAny (model prog w) A (call (.type "enumerate") [v]) Q E s := by
  refine callType_new F.called_enumerate (by decide) (F.typeCall_enumerate_1 _) (F.newCall_enumerate_1 _) (fun obj => F.args_object_init_2 obj _) F.entry_enumerate_new (new1 B) ⟨ha, ?_⟩
  have sz : (s.heap.push ob).objs.size = s.heap.objs.size + 1 := Heap.size_push ..
  show _ ∧ _
  rw [sz]
  have en : IsEnum ((s.heap.push ob).push { cls := .type "enumerate", data := .fields #[.none, .bool false, .ref s.heap.objs.size, rawInt 0, .none, .none] }) (s.heap.objs.size + 1) s.heap.objs.size 0 .none := by
    have z := Heap.get?_push_size (s.heap.push ob) (o := { cls := .type "enumerate", data := .fields #[.none, .bool false, .ref s.heap.objs.size, rawInt 0, .none, .none] }) rfl
    rw [sz] at z; exact z
  exact ⟨⟨_, en, rfl⟩, q _ en (Heap.get?_push_of_some _ (Heap.get?_push_size _ B.free)) fun b o x => Heap.get?_push_of_some _ (Heap.get?_push_of_some _ x)⟩
end
/-- the tuple at a as it stands, each item in a new pair -/
def ItE (K : PySem.W.Frag) (a : Addr) : It :=
  ⟨fun i H => ∃ (xs : List V) (x : V), SqT K H a xs ∧ xs[i]? = some x,
   fun i H v H' => ∃ T x, v = .ref T ∧ H T = none ∧ H' = upd H T (.tup [.int (i : Nat), x]) ∧ ∀ xs, SqT K H a xs → xs[i]? = some x,
   fun i H => ∃ xs : List V, SqT K H a xs ∧ xs.length = i⟩
theorem turn {P : Program} {w : World} {K : PySem.W.Frag} {elts : List Expr} {kk : Nat} {tpos : Pos} (a e it : Addr) (hai : a ≠ it) :
    Turn P w K (.Tuple elts kk tpos) (ItE K a) [e, it] e (fun i h => (∃ old, IsEnum h e it ((i : Nat) : Int) old) ∧ h.IsTupleIter it a i ∧ e ≠ it) where
  mem := by simp
  obj := by
    intro i h st b hb
    obtain ⟨⟨old, he⟩, ⟨o, ho, hc, hd⟩, _⟩ := st
    have z : b = e ∨ b = it := by simpa using hb
    rcases z with z | z
    · subst z
      exact ⟨_, he, fun v q => nomatch q⟩
    · subst z
      exact ⟨o, ho, fun v q => by rw [hd] at q; cases q⟩
  keep := by
    intro i h h' st k
    obtain ⟨⟨old, he⟩, hi, hne⟩ := st
    exact ⟨⟨old, k e (by simp) _ he⟩, hi.at fun o q => k it (by simp) o q, hne⟩
  item := by
    intro X hP hw hK hc i pins s σ H E I hf st hg
    subst hP hw hK
    obtain ⟨⟨old, he⟩, hit, hne⟩ := st
    obtain ⟨xs, x, hq, hx⟩ := hg
    obtain ⟨its, rv, p, hz⟩ := I.tuple hq
    obtain ⟨u, hu, ru⟩ := rv.get hx
    have hel : e < s.heap.objs.size := Heap.lt_size he
    have hil : it < s.heap.objs.size := by obtain ⟨_, q, _⟩ := hit; exact Heap.lt_size q
    have hlt : i < its.toArray.size := by
      have := (List.getElem?_eq_some_iff.mp hu).1
      simpa using this
    have hd : X.A.in1.handled = none := I.ok.hd hc
    have D := Draws.tuple (prog := X.prog) (w := X.w) (A := X.A.in1) hd it a hai its.toArray
    have hea : e ≠ a := by
      intro z
      obtain ⟨o, ho, hcl, _⟩ := p
      have q := Option.some.inj (ho.symm.trans (z ▸ he))
      rw [q] at hcl
      exact absurd (Value.type.inj (show Value.type "enumerate" = Value.type "tuple" from hcl)) (by decide)
    refine wpAny_pyNext_enum_itemC D he ⟨hit, p⟩ hlt hne (by simp [hne, hea]) fun y h' tk hP ho hst hT hsz hk => ?_
    have hy : y = u := by
      have q : its.toArray[i]? = some y := hP
      rw [List.getElem?_toArray, hu] at q
      exact (Option.some.inj q).symm
    subst hy
    refine ⟨_, rfl, wpAny_letOwnedTupleGo_enum (s := { s with heap := h', toks := tk + 1 }) ho fun h2 he2 sb => ?_⟩
    have hT2 : h2.get? s.heap.objs.size = some { cls := .type "tuple", data := .seq #[.int i tk, y] } := (sb.2 _ (Nat.ne_of_gt hel)).trans hT
    have new : ObjOk X.prog X.w (upd H s.heap.objs.size (.tup [.int (i : Nat), x])) h2 s.heap.objs.size (.tup [.int (i : Nat), x]) :=
      ⟨(by decide : 2 ≤ sizeLine), [.int i tk, y], .cons ⟨_, rfl⟩ (.cons ru .nil), ⟨_, hT2, rfl, _, rfl⟩⟩
    have I1 : Inv X pins σ (upd H s.heap.objs.size (.tup [.int (i : Nat), x])) { s with heap := h2, toks := tk + 1 } :=
      I.turnedNew (ch := [e, it]) (fun b ob hb q => (sb.2 b (fun z => hb (by simp [z]))).trans (hk b ob (fun z => hb (by simp [z])) (fun z => hb (by simp [z])) q)) hf (Nat.le_refl _) new
    refine ⟨.ref s.heap.objs.size, _, I1, rfl, ⟨_, x, rfl, I.hok.fresh (Nat.le_refl _), rfl, fun ys hy => by rw [I.tuple_inj hy hq]; exact hx⟩, ⟨⟨y, ?_⟩, hst.1.at fun o q => (sb.2 it (Ne.symm hne)).trans q, hne⟩, ?_⟩
    · have e1 : ((i + 1 : Nat) : Int) = (i : Int) + 1 := by omega
      rw [e1]
      exact he2
    · intro b hb
      have hb' : b < s.heap.objs.size := by
        have z : b = e ∨ b = it := by simpa using hb
        rcases z with z | z <;> rw [z] <;> assumption
      rw [upd_ne (Nat.ne_of_lt hb')]
      exact (hf b hb).1
  done := by
    intro X hP hw hK hc i pins s σ H E I hf st hg
    subst hP hw hK
    obtain ⟨⟨old, he⟩, hit, hne⟩ := st
    obtain ⟨xs, hq, hx⟩ := hg
    obtain ⟨its, rv, p, hz⟩ := I.tuple hq
    have hd : X.A.in1.handled = none := I.ok.hd hc
    have D := Draws.tuple (prog := X.prog) (w := X.w) (A := X.A.in1) hd it a hai its.toArray
    have hsz : its.toArray.size = i := by
      rw [List.size_toArray, ← rv.length, hx]
    obtain ⟨f0, f1, f2, f3, f4, f5⟩ := hf it (by simp)
    exact wpAny_pyNext_enum_endD D he ⟨hsz ▸ hit, p⟩ fun h' eb => ⟨rfl, I.turned (t' := s.toks) (fun b o hb q => eb b o hb q) f0 f1 f3 f4 f5⟩
  self := fun A i s Q E st h => let ⟨⟨_, he⟩, _⟩ := st; wpAny_pyIter_enum he h
def iEnumT (K : PySem.W.Frag) (ta : TA) : TI := fun σ H R => ta σ H fun vs H1 => ∃ a xs, vs = [.ref a] ∧ SqT K H1 a xs ∧ R (ItE K a) H1
theorem pi_enumT {X : Cx} {e : Expr} {ta : TA} {p pos tpos : Pos} {elts : List Expr} {kk : Nat} (hg : Gl X "enumerate") (hm : X.mg "enumerate" = none) (ha : PA X [e] ta)
    (hs : starEach [e] X.env = [(false, eval e X.env)] := by rfl) : PI X (.Tuple elts kk tpos) (.Call (.Name "enumerate" p) [e] [] pos) (iEnumT X.K ta) := by
  refine ⟨fun pins s σ H R I h => ?_⟩
  refine Call_ (ld_blt I hg hm boot_enumerate (PyProof.Rows.callWith_type1 (thn (ha.run pos pins s σ H _ I h) fun us s1 ⟨vs, H1, I1, r1, q1⟩ => ?_) hs rfl))
  obtain ⟨a, xs, rfl, hq, q⟩ := q1
  cases r1 with
  | cons r rr =>
    cases rr
    cases r
    obtain ⟨its, rv, p', hz⟩ := I1.tuple hq
    have hal : a < s1.heap.objs.size := by obtain ⟨o, ho, _⟩ := p'; exact Heap.lt_size ho
    refine call1 (begins_tuple a its.toArray) p' fun h' he hit hk => wpAny_pyIter_enum he ?_
    have I2 : Inv X pins σ H1 { s1 with heap := h' } := I1.kept (t' := s1.toks) hk
    refine ⟨s1.heap.objs.size + 1, [s1.heap.objs.size + 1, s1.heap.objs.size], _, _, H1, rfl, I2, turn a (s1.heap.objs.size + 1) s1.heap.objs.size (Nat.ne_of_lt hal), ⟨⟨.none, he⟩, ⟨_, hit, rfl, rfl⟩, Nat.succ_ne_self _⟩, ?_, q⟩
    intro b hb
    have z : b = s1.heap.objs.size + 1 ∨ b = s1.heap.objs.size := by simpa using hb
    have hle : s1.heap.objs.size ≤ b := by
      rcases z with z | z <;> rw [z]
      · exact Nat.le_add_right _ _
      · exact Nat.le_refl _
    exact I1.fpOk hle (I1.hok.fresh hle)
theorem walkE {K : PySem.W.Frag} {a : Addr} {xs : List V} : Walk (ItE K a) xs.length (fun H => SqT K H a xs) (YPair (fun i => some (.int (i : Nat))) (fun i => xs[i]?)) := by
  refine ⟨fun i _ hi q => ⟨xs, xs[i], q, by simp [hi]⟩, fun _ q => ⟨xs, q, rfl⟩, ?_⟩
  intro i H v H' _ q y
  obtain ⟨T, x, e1, e2, e3, e4⟩ := y
  exact ⟨T, .int (i : Nat), x, e1, e2, e3, rfl, e4 xs q⟩
/-- a dict comprehension over anything that walks -/
theorem dc_it {J : It} {n : Nat} {G : Hp → Prop} {Y : Nat → Hp → V → Hp → Prop} (w : Walk J n G Y) {g : TG} {tt : TT} {tk tv : TE} {vs : List Nat} {σ : L2.St} {H1 : Hp} {D : Addr} {Qd : Hp → Prop} (Pv : Nat → Hp → Prop)
    (h0 : Pv 0 (upd H1 D (.dK []))) (hG : ∀ i H, i ≤ n → Pv i H → G H)
    (hs : ∀ i x H H', i < n → Pv i H → Y i H x H' → g x (wipe σ vs) H' fun σ2 H2 => wipe σ2 vs = wipe σ vs ∧ tt σ2 H2 fun b H3 =>
      if b = true then tk σ2 H3 fun y H4 => tv σ2 H4 fun z H5 => ∃ kvs k, y = kV k ∧ H5 D = some (.dK kvs) ∧ kvs.length < sizeLine ∧ Pv (i + 1) (upd H5 D (.dK (putK kvs k z))) else Pv (i + 1) H3)
    (hd : ∀ H, Pv n H → Qd H) :
    ∃ W : Nat → Nat → Hp → Prop, (∃ m, W 0 m (upd H1 D (.dK []))) ∧ ∀ i m H, W i m H →
      (J.stop i H ∧ Qd H) ∨ (J.go i H ∧ ∃ Nx : Hp → Prop, (∀ H', Nx H' → ∃ m', m' < m ∧ W (i + 1) m' H') ∧ ∀ x H', J.yld i H x H' → g x (wipe σ vs) H' fun σ2 H2 => wipe σ2 vs = wipe σ vs ∧ tt σ2 H2 fun b H3 =>
        if b = true then tk σ2 H3 fun y H4 => tv σ2 H4 fun z H5 => ∃ kvs k, y = kV k ∧ H5 D = some (.dK kvs) ∧ kvs.length < sizeLine ∧ Nx (upd H5 D (.dK (putK kvs k z))) else Nx H3) := by
  refine ⟨fun i m H => m = n - i ∧ i ≤ n ∧ Pv i H, ⟨n, by simp, Nat.zero_le _, h0⟩, ?_⟩
  intro i m H hW
  obtain ⟨em, hi, p⟩ := hW
  subst em
  have q := hG i H hi p
  by_cases hlt : i < n
  · exact Or.inr ⟨w.goes i H hlt q, Pv (i + 1), fun H' p' => ⟨n - (i + 1), by omega, rfl, hlt, p'⟩, fun x H' y => hs i x H H' hlt p (w.yields i H x H' hlt q y)⟩
  · have e : i = n := by omega
    subst e
    exact Or.inl ⟨w.stops H q, hd H p⟩
end EnT
/-! sorted of a dict whose keys are ints, any number of them: my own rule beside the layer's for fewer than 64 -/
namespace SoD
open PySem PySem.Spec PyProof.Rows L2
variable {X : Cx}
def rSortDA : List V → Hp → VK → Prop := fun xs H Q => ∃ (a : Addr) (kvs : List (Key × V)) (ks : List Int), xs = [.ref a] ∧ Rd H a (.dK kvs) ∧ kvs.map (·.1) = ks.map Sum.inl ∧
  ∀ (ys : List Int) (p : Addr), ys.Perm ks → ys.Pairwise (· ≤ ·) → H p = none → Q (.ref p) (upd H p (.lst (ys.map V.int)))
theorem call_sortDA (hcalm : X.calm = true) : CallR X (.builtin "sorted") rSortDA := by
  intro pins s σ H xs us Q I r h
  obtain ⟨a, kvs, ks, rfl, hd, hks, q⟩ := h
  obtain ⟨u, rfl, rx⟩ := vals1 r
  cases rx
  obtain ⟨z, lo, vs, rel, dd⟩ := dk_rd I.hok hd
  obtain ⟨ep, hat⟩ := dd.dictAt
  have hkeys : vs.map (·.1) = ks.map Sum.inl := rel.keys.symm.trans hks
  have hl : vs.length = ks.length := by simpa using congrArg List.length hkeys
  have hkv : kvs.length = vs.length := Paired.length rel
  have h16 : vs.length ≤ sizeLine := by rw [← hkv]; exact z
  refine Calls.call_function_entry PyProof.Rows.kind_sorted PyProof.Rows.plain_sorted PyProof.Rows.entry_sorted (PyProof.Rows.args_sorted1 _) ?_
  unfold Builtin.«sorted»
  refine wpAny_bind (m := checkCount "sorted" 1 1 _) (wpAny_pure ?_)
  refine wpAny_bind (PySem.W.kdu_collect (A := X.A.in1) (PySem.W.kdl_dict (knd := mixKind X.prog X.w) (kvs := vs) (ep := ep) lo) (I.ok.hd hcalm) hat h16 fun h' tk acc hk hacc => ?_)
  have hal : acc.toList.length = ks.length := by rw [Array.length_toList, hacc.1, hl]
  have hS : IntsAre acc.toList ks := ints_each hal fun j v e => by
    obtain ⟨k, x, e1, e2⟩ := hacc.2 j v (by rw [← Array.getElem?_toList]; exact e)
    have e3 : (vs.map (·.1))[j]? = some k := by
      rw [List.getElem?_map, e1]
      rfl
    rw [hkeys, List.getElem?_map] at e3
    cases e4 : ks[j]? with
    | none =>
      rw [e4] at e3
      cases e3
    | some y =>
      rw [e4] at e3
      have e5 : Sum.inl y = k := Option.some.inj e3
      subst e5
      rcases keyIs_shape (show keyIs (Sum.inl y) v = true from e2) with ⟨i, t, ek, ev⟩ | ⟨z, t, ek, ev⟩
      · cases ek
        exact ⟨y, t, rfl, ev⟩
      · cases ek
  have I1 : Inv X pins σ H { s with heap := h', toks := tk } := I.kept hk
  have hsz : acc.toList.length ≤ sizeLine := by rw [hal, ← hl]; exact h16
  refine wpAny_bind (wpAny_newList ?_ (by simpa using hsz))
  have hoL : (h'.push (seqObj "list" acc.toList.toArray 0)).get? h'.objs.size = some (seqObj "list" acc.toList.toArray 0) := Heap.get?_push_size _ rfl
  show wpAny _ _ _ _ _ { s with heap := h'.push (seqObj "list" acc.toList.toArray 0), toks := tk }
  refine wpAny_bind (wpAny_holding (wpAny_call_entry PyProof.Rows.slot_list_sort ⟨_, hoL, rfl⟩ PyProof.Rows.entry_list_sort
    (SrtO.list_sort_ord (s := { s with heap := h'.push (seqObj "list" acc.toList.toArray 0), toks := tk }) SrtO.swo_int hoL hsz (fun h2 => SrtO.ints_sortable hS h2) fun out g1 g2 => ⟨_, rfl, ?_⟩) (PyProof.Rows.args_list_sort _)))
  obtain ⟨k1, k2, k3⟩ := SrtO.ints_out hS g1 g2
  obtain ⟨e', he'⟩ := PyProof.Rows.sortedHeap_at (vs := acc.toList) (out := out.toArray) hoL
  have hlen : ((out.map SrtO.iv).map V.int).length ≤ sizeLine := by
    rw [List.length_map, k2.length_eq, ← hal]
    exact hsz
  refine wpAny_pure ⟨_, rfl, .ref h'.objs.size, upd H h'.objs.size (.lst ((out.map SrtO.iv).map V.int)), I1.laid (t' := tk) (fun b u e => ?_) (Nat.le_refl _)
    (show ObjOk X.prog X.w _ _ _ (.lst ((out.map SrtO.iv).map V.int)) from ⟨hlen, out, e', vals_of_ints k1, he'⟩), rfl, q _ _ k2 k3 (I1.hok.fresh (Nat.le_refl _))⟩
  have hb : b < h'.objs.size := Heap.lt_size e
  rw [PyProof.Rows.sortedHeap_old (Nat.ne_of_lt hb) (by rw [size_push']; exact Nat.lt_succ_of_lt hb)]
  exact Heap.get?_push_of_some _ e
end SoD
namespace Lk
open PySem L2
section
variable {P : Program} {w : World} {K : PySem.W.Frag} {mg : Str → Option Value} {base : Heap} {a : Adr}
/-- what data may be -/
inductive DTy : String → Prop where
  | non : DTy "NoneType" | bl : DTy "bool" | int : DTy "int" | str : DTy "str" | lst : DTy "list" | tup : DTy "tuple" | dict : DTy "dict"
def spIsInteger (K : PySem.W.Frag) : Sp := fun vs H Q _ => ∃ (v : V) (n : String), vs = [v] ∧ DTy n ∧ TyX K H v (.type n) ∧ Q (.bl (n == "int")) H
theorem ok_is_integer (T : Txt K mg a) : FnOk P w K mg base CX0 1 a.f_is_integer a.d_is_integer ["thing"] (spIsInteger K) := by
  refine T.F_is_integer.ok sc_is_integer (fun vs H Q E h => ?_) (fun cdv A outer s H vs Q E hr h => ?_)
  · obtain ⟨v, n, rfl, _⟩ := h
    rfl
  obtain ⟨v, n, rfl, hn, ht, q⟩ := h
  refine ⟨_, (pss_one (ps_ret (pe_and (pe_callB call_isi (by rfl) T.z_isinstance (by decide +kernel) (pa_cons (pv 0) (pa_cons (pe_bltn (v := .ty "int") rfl T.z_int (show bootBuiltins "int" = some (.type "int") by decide +kernel) rfl) pa_nil))) (pe_one (pe_not (pe_callB call_isi (by rfl) T.z_isinstance (by decide +kernel) (pa_cons (pv 0) (pa_cons (pe_bltn (v := .ty "bool") rfl T.z_bool (show bootBuiltins "bool" = some (.type "bool") by decide +kernel) rfl) pa_nil)))))))), ?_⟩
  cases hn
  all_goals
    first
      | exact ⟨_, rfl, _, .ty "int", _, _, true, rfl, .ty "int", ht, kit_ty (by decide +kernel), true, rfl, _, rfl, _, .ty "bool", _, _, false, rfl, .ty "bool", ht, kit_ty (by decide +kernel), false, rfl, q⟩
      | exact ⟨_, rfl, _, .ty "int", _, _, true, rfl, .ty "int", ht, kit_ty (by decide +kernel), true, rfl, _, rfl, _, .ty "bool", _, _, true, rfl, .ty "bool", ht, kit_ty (by decide +kernel), true, rfl, q⟩
      | exact ⟨_, rfl, _, .ty "int", _, _, false, rfl, .ty "int", ht, kit_ty (by decide +kernel), false, rfl, q⟩
def spIsBetween (K : PySem.W.Frag) : Sp := fun vs H Q _ => ∃ (v : V) (n : String) (lo hi : Int), vs = [.int lo, .int hi, v] ∧ DTy n ∧ TyX K H v (.type n) ∧
  ((n ≠ "int" ∧ Q (.bl false) H) ∨ ∃ i, v = .int i ∧ n = "int" ∧ Q (.bl (decide (lo ≤ i) && decide (i ≤ hi))) H)
theorem ok_is_between (T : Txt K mg a) : FnOk P w K mg base CX0 2 a.f_is_between a.d_is_between ["low", "high", "thing"] (spIsBetween K) := by
  have G := ok_is_integer (P := P) (w := w) (base := base) T
  refine T.F_is_between.ok sc_is_between (fun vs H Q E h => ?_) (fun cdv A outer s H vs Q E hr h => ?_)
  · obtain ⟨v, n, lo, hi, rfl, _⟩ := h
    rfl
  obtain ⟨v, n, lo, hi, rfl, hn, ht, q⟩ := h
  refine ⟨_, (pss_one (ps_ret (pe_and (pe_call G (hr.mono (by decide)) rfl T.g_is_integer T.k_is_integer T.b_is_integer .nil pass0 (pa_cons (pv 2) pa_nil)) (pe_one (pe_chain op_le op_le (pv 0) (pv 2) (pv 1)))))), ?_⟩
  refine ⟨_, rfl, v, n, rfl, hn, ht, _, rfl, ?_⟩
  rcases q with ⟨ne, q⟩ | ⟨i, rfl, rfl, q⟩
  · have e : (n == "int") = false := by simpa using ne
    rw [e]
    exact q
  · show (if true = true then _ else _)
    refine iteT ?_
    refine ⟨_, rfl, _, rfl, _, _, rfl, rfl, ?_⟩
    refine ⟨_, rfl, ?_⟩
    by_cases h : lo ≤ i
    · rw [decide_eq_true h]
      rw [decide_eq_true h] at q
      exact iteT ⟨_, rfl, _, _, rfl, rfl, q⟩
    · rw [decide_eq_false h]
      rw [decide_eq_false h] at q
      exact iteF q
def spIsTupleOf (K : PySem.W.Frag) : Sp := fun vs H Q _ => ∃ (v : V) (n : String) (lo hi : Int), vs = [.int lo, .int hi, v] ∧ DTy n ∧ TyX K H v (.type n) ∧
  ((n ≠ "tuple" ∧ Q (.bl false) H) ∨ ∃ p xs, v = .ref p ∧ n = "tuple" ∧ SqT K H p xs ∧ Q (.bl (decide (lo ≤ (xs.length : Int)) && decide ((xs.length : Int) ≤ hi))) H)
theorem ok_is_tuple_of (T : Txt K mg a) : FnOk P w K mg base CX0 1 a.f_is_tuple_of a.d_is_tuple_of ["low", "high", "thing"] (spIsTupleOf K) := by
  refine T.F_is_tuple_of.ok sc_is_tuple_of (fun vs H Q E h => ?_) (fun cdv A outer s H vs Q E hr h => ?_)
  · obtain ⟨v, n, lo, hi, rfl, _⟩ := h
    rfl
  obtain ⟨v, n, lo, hi, rfl, hn, ht, q⟩ := h
  refine ⟨_, (pss_one (ps_ret (pe_and (pe_callB call_isi (by rfl) T.z_isinstance (by decide +kernel) (pa_cons (pv 2) (pa_cons (pe_bltn (v := .ty "tuple") rfl T.z_tuple (show bootBuiltins "tuple" = some (.type "tuple") by decide +kernel) rfl) pa_nil))) (pe_one (pe_chain op_le op_le (pv 0) (pe_callB call_len_seq (by rfl) T.z_len PySem.boot_len (pa_cons (pv 2) pa_nil)) (pv 1)))))), ?_⟩
  rcases q with ⟨ne, q⟩ | ⟨p, xs, rfl, rfl, hs, q⟩
  · cases hn
    all_goals first
      | exact ⟨_, rfl, _, .ty "tuple", _, _, false, rfl, .ty "tuple", ht, kit_ty (by decide +kernel), false, rfl, q⟩
      | exact absurd rfl ne
  · refine ⟨_, rfl, _, .ty "tuple", _, _, true, rfl, .ty "tuple", ht, kit_ty (by decide +kernel), true, rfl, ?_⟩
    refine ⟨_, rfl, _, rfl, p, xs, rfl, .inr hs, _, _, rfl, rfl, _, rfl, ?_⟩
    by_cases h : lo ≤ (xs.length : Int)
    · rw [decide_eq_true h]
      rw [decide_eq_true h] at q
      exact iteT ⟨_, rfl, _, _, rfl, rfl, q⟩
    · rw [decide_eq_false h]
      rw [decide_eq_false h] at q
      exact iteF q
end
/-! heaps: what stays, and the data of a web -/
/-- all but lists stay -/
def Tk (H H' : Hp) : Prop := ∀ c o, (∀ xs, o ≠ .lst xs) → H c = some o → H' c = some o
theorem Tk.of {H H' : Hp} (s : Same H H') : Tk H H' := fun c o _ h => s c o h
theorem Tk.trans {H H1 H2 : Hp} (x : Tk H H1) (y : Tk H1 H2) : Tk H H2 := fun c o n h => y c o n (x c o n h)
theorem Tk.refl (H : Hp) : Tk H H := fun _ _ _ h => h
theorem same_new {H : Hp} {p : Addr} {o : HO} (h : H p = none) : Same H (upd H p o) := fun b x e => by
  rw [upd_ne (ne_of_none e h)]
  exact e
theorem tk_mut {H : Hp} {p : Addr} {xs ys : List V} (h : H p = some (.lst xs)) : Tk H (upd H p (.lst ys)) := fun b x n e => by
  rw [upd_ne (ne_of e h (n xs))]
  exact e
variable {K : PySem.W.Frag}
theorem Tk.t {H H' : Hp} {p : Addr} {xs : List V} (x : Tk H H') (h : SqT K H p xs) : SqT K H' p xs := by
  rcases h with (h | ⟨o, h⟩) | h
  · exact .inl (.inl (x _ _ (fun _ z => nomatch z) h))
  · exact .inl (.inr ⟨o, x _ _ (fun _ z => nomatch z) h⟩)
  · exact .inr h
theorem tyT {H : Hp} {p : Addr} {xs : List V} (h : SqT K H p xs) : TyX K H (.ref p) (.type "tuple") := by
  rcases h with (h | ⟨o, h⟩) | ⟨o, _, _, e, c, _⟩
  · exact .base (.tup h)
  · exact .fTuple h
  · exact .kTuple e c
/-- a tuple of numbers -/
def nv (x : Nat) : V := .int (x : Int)
def IT (K : PySem.W.Frag) (H : Hp) (p : Addr) (ps : List Nat) : Prop := SqT K H p (ps.map nv)
def RowV (K : PySem.W.Frag) (H : Hp) (v : V) (r : Row) : Prop := ∃ p q, v = .ref p ∧ SqT K H p [nv r.1, .ref q] ∧ IT K H q r.2
/-- a tuple of rows -/
def RowsT (K : PySem.W.Frag) (H : Hp) (p : Addr) (R : List Row) : Prop := ∃ vs, SqT K H p vs ∧ vs.length = R.length ∧ ∀ i v, vs[i]? = some v → RowV K H v (rowAt R i)
theorem RowV.tk {H H' : Hp} {v : V} {r : Row} (x : Tk H H') (h : RowV K H v r) : RowV K H' v r := by
  obtain ⟨p, q, e, h1, h2⟩ := h
  exact ⟨p, q, e, x.t h1, x.t h2⟩
theorem RowsT.tk {H H' : Hp} {p : Addr} {R : List Row} (x : Tk H H') (h : RowsT K H p R) : RowsT K H' p R := by
  obtain ⟨vs, h1, h2, h3⟩ := h
  exact ⟨vs, x.t h1, h2, fun i v e => (h3 i v e).tk x⟩
/-- a web at p -/
def WebV (K : PySem.W.Frag) (C : Addr) (H : Hp) (p : Addr) (R : List Row) : Prop := ∃ dx q, H p = some (.ins C dx [("rows", .ref q)]) ∧ RowsT K H q R
theorem WebV.tk {C : Addr} {H H' : Hp} {p : Addr} {R : List Row} (x : Tk H H') (h : WebV K C H p R) : WebV K C H' p R := by
  obtain ⟨dx, q, h1, h2⟩ := h
  exact ⟨dx, q, x _ _ (fun _ z => nomatch z) h1, h2.tk x⟩
end Lk
namespace Lk
open PySem L2
theorem iteC {c : Bool} {A B : Prop} (e : c = true) (h : A) : if c = true then A else B := by
  rw [e]
  exact iteT h
theorem iteD {c : Bool} {A B : Prop} (e : c = false) (h : B) : if c = true then A else B := by
  rw [e]
  exact iteF h
section
variable {P : Program} {w : World} {K : PySem.W.Frag} {mg : Str → Option Value} {base : Heap} {a : Adr}
def spIsValue (K : PySem.W.Frag) : Sp := fun vs H Q _ => ∃ (i : Nat) (v : V) (r : Row), vs = [nv i, v] ∧ RowV K H v r ∧ r.1 ≤ 7 ∧ r.2.length ≤ 2 ∧ (∀ p ∈ r.2, p < i) ∧ ∀ H', Same H H' → Q (.bl true) H'
theorem ok_is_value (T : Txt K mg a) : FnOk P w K mg base CX0 3 a.f_is_value a.d_is_value ["index", "thing"] (spIsValue K) := by
  have G1 := ok_is_between (P := P) (w := w) (base := base) T
  have G2 := ok_is_tuple_of (P := P) (w := w) (base := base) T
  refine T.F_is_value.ok sc_is_value (fun vs H Q E h => ?_) (fun cdv A outer s H vs Q E hr h => ?_)
  · obtain ⟨i, v, r, rfl, _⟩ := h
    rfl
  obtain ⟨i, v, r, rfl, ⟨p, q, rfl, h1, h2⟩, b1, b2, b3, k⟩ := h
  refine ⟨_, (pss_cons (ps_if (pt_not (pt_val (pe_call G2 (hr.mono (by decide)) rfl T.g_is_tuple_of T.k_is_tuple_of T.b_is_tuple_of .nil pass0 (pa_cons pe_int (pa_cons pe_int (pa_cons (pv 1) pa_nil))))))
    (pss_one (ps_ret pe_bl))
    pss_nil)
  (pss_cons (ps_asg (pv 1) (pg_tup (by rfl) (pgs_cons (pg_name (i := 2) sc_is_value.nd rfl (Or.inl rfl)) (pgs_cons (pg_name (i := 3) sc_is_value.nd rfl (Or.inl rfl)) pgs_nil))))
  (pss_one (ps_ret (pe_and (pe_call G1 (hr.mono (by decide)) rfl T.g_is_between T.k_is_between T.b_is_between .nil pass0 (pa_cons pe_int (pa_cons pe_int (pa_cons (pv 2) pa_nil)))) (pe_and (pe_call G2 (hr.mono (by decide)) rfl T.g_is_tuple_of T.k_is_tuple_of T.b_is_tuple_of .nil pass0 (pa_cons pe_int (pa_cons pe_int (pa_cons (pv 3) pa_nil)))) (pe_one (pe_callB (cr_all rfl) (by rfl) T.z_all (by decide +kernel) (pa_cons (pe_lc (own := [("part", 4)]) (g := gName 4) (tt := tYes) rfl sc_is_value.nd (pi_tup (pv 3)) (blkOk_by (N := ["index", "thing", "op", "parts", "part"]) (sc := defScope s_is_value) (by decide +kernel)) (fun _ _ _ _ _ => pg_name (i := 4) sc_is_value.nd rfl (Or.inl rfl)) (fun _ _ _ _ _ => pts_nil) (fun _ _ _ _ _ => (pe_call G1 (hr.mono (by decide)) rfl T.g_is_between T.k_is_between T.b_is_between .nil pass0 (pa_cons pe_int (pa_cons (pe_op op_sub (pv 0) pe_int) (pa_cons (pv 4) pa_nil)))))) pa_nil))))))))), ?_⟩
  refine ⟨_, rfl, .ref p, "tuple", 2, 2, rfl, .tup, tyT h1, .inr ⟨p, _, rfl, rfl, h1, ?_⟩⟩
  refine ⟨_, rfl, iteF ?_⟩
  refine ⟨_, rfl, p, _, rfl, h1, rfl, ?_⟩
  refine ⟨_, _, rfl, _, _, rfl, rfl, _, rfl, nv r.1, "int", 0, 7, rfl, .int, .base (.int _), .inr ⟨_, rfl, rfl, ?_⟩⟩
  refine ⟨_, rfl, iteC (by simp only [Bool.and_eq_true, decide_eq_true_eq]; omega) ?_⟩
  refine ⟨_, rfl, .ref q, "tuple", 0, 2, rfl, .tup, tyT h2, .inr ⟨q, _, rfl, rfl, h2, ?_⟩⟩
  refine ⟨_, rfl, iteC (by simp only [Bool.and_eq_true, decide_eq_true_eq, List.length_map]; omega) ?_⟩
  refine ⟨_, rfl, q, rfl, ⟨_, h2⟩, fun D hD => ?_⟩
  refine lc_tup (xs := r.2.map nv) (fun j H' => Same H H' ∧ H' D = some (.lst ((List.replicate j true).map V.bl))) ⟨same_new hD, upd_same⟩ (fun j H' _ z => (Tk.of z.1).t h2) (fun j x H' hx z => ?_) (fun H' z => ?_)
  · refine ⟨rfl, ?_⟩
    rw [List.getElem?_map] at hx
    obtain ⟨y, hy, rfl⟩ := Option.map_eq_some_iff.mp hx
    have hlt := b3 y (List.mem_of_getElem? hy)
    refine ⟨_, rfl, _, _, rfl, rfl, _, rfl, nv y, "int", 0, _, rfl, .int, .base (.int _), .inr ⟨_, rfl, rfl, ?_⟩⟩
    have hj : j < r.2.length := (List.getElem?_eq_some_iff.mp hy).1
    refine ⟨_, z.2, ?_, fun b o e => ?_, ?_⟩
    · rw [List.length_map, List.length_replicate]
      exact small1000 (by omega)
    · rw [upd_ne (ne_of_none e hD)]
      exact z.1 b o e
    · rw [upd_same]
      have e1 : (decide ((0 : Int) ≤ (y : Int)) && decide ((y : Int) ≤ (i : Int) - 1)) = true := by
        simp only [Bool.and_eq_true, decide_eq_true_eq]
        omega
      rw [e1, List.replicate_succ', List.map_append]
      rfl
  · refine ⟨D, _, rfl, .inl (.inl z.2), ?_⟩
    have e1 : (List.replicate (r.2.map nv).length true).all id = true := by simp
    rw [e1]
    exact k H' z.1
end
end Lk
namespace Lk
open PySem L2
/-! data of a web as data of any depth -/
def dN (x : Nat) : PyData := .int (x : Int)
def dRow (r : Row) : PyData := .tuple [dN r.1, .tuple (r.2.map dN)]
def dRows (R : List Row) : PyData := .tuple (R.map dRow)
variable {K : PySem.W.Frag}
theorem dp_nums {H : Hp} : ∀ ps : List Nat, DpAll K H (ps.map nv) (ps.map dN)
  | [] => .nil
  | x :: r => .cons (.int _) (dp_nums r)
theorem it_dp {H : Hp} {p : Addr} {ps : List Nat} (h : IT K H p ps) : Dp K H (.ref p) (.tuple (ps.map dN)) := .tup h (dp_nums ps)
theorem row_dp {H : Hp} {v : V} {r : Row} (h : RowV K H v r) : Dp K H v (dRow r) := by
  obtain ⟨p, q, rfl, h1, h2⟩ := h
  exact .tup h1 (.cons (.int _) (.cons (it_dp h2) .nil))
theorem dpAll_of {H : Hp} : ∀ {vs : List V} {ds : List PyData}, vs.length = ds.length → (∀ (i : Nat) v d, vs[i]? = some v → ds[i]? = some d → Dp K H v d) → DpAll K H vs ds
  | [], [], _, _ => .nil
  | [], _ :: _, h, _ => absurd h (by simp)
  | _ :: _, [], h, _ => absurd h (by simp)
  | v :: vs, d :: ds, h, f => .cons (f 0 v d rfl rfl) (dpAll_of (by simpa using h) fun i v d h1 h2 => f (i + 1) v d (by simpa using h1) (by simpa using h2))
theorem rowAt_of {R : List Row} {i : Nat} (h : i < R.length) : R[i]? = some (rowAt R i) := by
  unfold rowAt
  rw [List.getD_eq_getElem?_getD, List.getElem?_eq_getElem h]
  rfl
theorem rows_dp {H : Hp} {p : Addr} {R : List Row} (h : RowsT K H p R) : Dp K H (.ref p) (dRows R) := by
  obtain ⟨vs, h1, h2, h3⟩ := h
  refine .tup h1 (dpAll_of (by rw [List.length_map, h2]) fun i v d e1 e2 => ?_)
  have hi : i < R.length := by
    rw [← h2]
    exact (List.getElem?_eq_some_iff.mp e1).1
  rw [List.getElem?_map, rowAt_of hi] at e2
  rw [← Option.some.inj e2]
  exact row_dp (h3 i v e1)
theorem nums_lay : ∀ ps : List Nat, PyData.canLayAll0 (ps.map dN) = true
  | [] => rfl
  | _ :: r => by
    show (true && PyData.canLayAll0 (r.map dN)) = true
    rw [nums_lay r]
    rfl
theorem nums_depth : ∀ ps : List Nat, PyData.depthAll (ps.map dN) ≤ 1
  | [] => by decide
  | _ :: r => by
    have := nums_depth r
    simp only [List.map_cons, PyData.depthAll, PyData.depth, dN] at this ⊢
    omega
theorem sh_nums (ps : List Nat) : SeqAt.shaped (.tuple (ps.map dN)) = true := by
  unfold SeqAt.shaped
  have h1 := nums_lay ps
  have h2 := nums_depth ps
  rw [Bool.and_eq_true, decide_eq_true_eq]
  exact ⟨h1, by show PyData.depthAll (ps.map dN) + 1 ≤ 64; omega⟩
theorem rows_lay : ∀ R : List Row, PyData.canLayAll0 (R.map dRow) = true
  | [] => rfl
  | r :: R => by
    show ((true && ((PyData.canLayAll0 (r.2.map dN)) && true)) && PyData.canLayAll0 (R.map dRow)) = true
    rw [nums_lay, rows_lay R]
    rfl
theorem rows_depth : ∀ R : List Row, PyData.depthAll (R.map dRow) ≤ 4
  | [] => by decide
  | r :: R => by
    have h1 := rows_depth R
    have h2 := nums_depth r.2
    simp only [List.map_cons, PyData.depthAll, dRow, PyData.depth, dN]
    omega
theorem sh_rows (R : List Row) : SeqAt.shaped (dRows R) = true := by
  unfold SeqAt.shaped
  have h1 := rows_lay R
  have h2 := rows_depth R
  rw [Bool.and_eq_true, decide_eq_true_eq]
  exact ⟨h1, by show PyData.depthAll (R.map dRow) + 1 ≤ 64; omega⟩
section
variable {P : Program} {w : World} {mg : Str → Option Value} {base : Heap} {a : Adr}
def spWebInit (K : PySem.W.Frag) (C : Addr) : Sp := fun vs H Q _ => ∃ (x dx q : Addr) (R : List Row), vs = [.ref x, .ref q] ∧ H x = some (.ins C dx []) ∧ RowsT K H q R ∧ Good R ∧ R.length ≤ 200 ∧
  ∀ H', (∀ b o, H b = some o → b ≠ x → H' b = some o) → H' x = some (.ins C dx [("rows", .ref q)]) → Q .non H'
theorem ok_Web_init (T : Txt K mg a) : FnOk P w K mg base CX0 4 a.f_Web_init a.d_Web_init ["self", "values"] (spWebInit K a.c_Web) := by
  have G1 := ok_is_tuple_of (P := P) (w := w) (base := base) T
  have G2 := ok_is_value (P := P) (w := w) (base := base) T
  refine T.F_Web_init.ok sc_Web_init (fun vs H Q E h => ?_) (fun cdv A outer s H vs Q E hr h => ?_)
  · obtain ⟨x, dx, q, R, rfl, _⟩ := h
    rfl
  obtain ⟨x, dx, q, R, rfl, hx, hR, g, hl, k⟩ := h
  obtain ⟨ws, hw, hwl, hrow⟩ := id hR
  refine ⟨_, (pss_cons (ps_if (pt_not (pt_val (pe_call G1 (hr.mono (by decide)) rfl T.g_is_tuple_of T.k_is_tuple_of T.b_is_tuple_of .nil pass0 (pa_cons pe_int (pa_cons pe_int (pa_cons (pv 1) pa_nil))))))
    (pss_one ps_never)
    pss_nil)
  (pss_cons (ps_for PassesOwn.never rfl (EnT.pi_enumT rfl T.z_enumerate (pa_cons (pv 1) pa_nil)) (pg_tup rfl (pgs_cons (pg_name (i := 2) sc_Web_init.nd rfl (Or.inl rfl)) (pgs_cons (pg_name (i := 3) sc_Web_init.nd rfl (Or.inl rfl)) pgs_nil)))
    (pss_one (ps_if (pt_not (pt_val (pe_call G2 (hr.mono (by decide)) rfl T.g_is_value T.k_is_value T.b_is_value .nil pass0 (pa_cons (pv 2) (pa_cons (pv 3) pa_nil)))))
    (pss_one ps_never)
    pss_nil)))
  (pss_one (ps_fld (pv 0) (pv 1) rfl)))), ?_⟩
  refine ⟨_, rfl, .ref q, "tuple", 0, 200, rfl, .tup, tyT hw, .inr ⟨q, _, rfl, rfl, hw, ?_⟩⟩
  refine ⟨_, rfl, iteD (by rw [Bool.not_eq_false', Bool.and_eq_true, decide_eq_true_eq, decide_eq_true_eq]; omega) ?_⟩
  refine ⟨_, rfl, q, ws, rfl, hw, for_it (EnT.walkE (xs := ws)) (fun i σ H' => ∃ v2 v3, σ = [some (.ref x), some (.ref q), v2, v3] ∧ Same H H') ⟨none, none, rfl, Same.refl H⟩ (fun i σ H' _ z => ?_) ?_ ?_⟩
  · obtain ⟨_, _, _, s1⟩ := z
    exact (Tk.of s1).t hw
  · intro i y σ H1 H2 hi z hy
    obtain ⟨v2, v3, rfl, s1⟩ := z
    obtain ⟨t, y1, y2, rfl, ht, rfl, e1, e2⟩ := hy
    cases e1
    have s2 : Same H (upd H1 t (.tup [.int (i : Nat), y2])) := s1.trans (same_new ht)
    have hi' : i < R.length := by omega
    obtain ⟨b1, b2, b3⟩ := g i hi'
    have hv := (hrow i y2 e2).tk (Tk.of s2)
    refine ⟨t, _, rfl, .inl (.inl upd_same), rfl, _, _, rfl, _, _, rfl, rfl, ?_⟩
    refine ⟨_, rfl, _, rfl, i, y2, rowAt R i, rfl, hv, b1, b2, b3, fun H3 s3 => ?_⟩
    exact ⟨_, rfl, iteF ⟨_, _, rfl, s2.trans s3⟩⟩
  · intro σ H1 z
    obtain ⟨v2, v3, rfl, s1⟩ := z
    refine ⟨_, rfl, _, rfl, x, a.c_Web, dx, [], rfl, s1 _ _ hx, T.C_Web, T.N_rows, (by decide), ?_⟩
    refine k _ (fun b o e ne => ?_) upd_same
    rw [upd_ne ne]
    exact s1 _ _ e
/-- two webs of the same rows -/
def REq (K : PySem.W.Frag) (C : Addr) (x y : Addr) (H : Hp) : Prop := ∃ R, WebV K C H x R ∧ WebV K C H y R
theorem ok_Web_eq (T : Txt K mg a) : FnOk P w K mg base CX0 1 a.f_Web_eq a.d_Web_eq ["self", "other"] (spEq (REq K a.c_Web)) := by
  refine T.F_Web_eq.ok sc_Web_eq (fun vs H Q E h => ?_) (fun cdv A outer s H vs Q E hr h => ?_)
  · obtain ⟨x, y, rfl, _⟩ := h
    rfl
  obtain ⟨x, y, rfl, ⟨R, ⟨dx, p, h1, h2⟩, ⟨dy, q, h3, h4⟩⟩, k⟩ := h
  refine ⟨_, (pss_one (ps_ret (pe_and (pe_callB (C8.call_isC T.I_Web) (by rfl) T.z_isinstance (by decide +kernel) (pa_cons (pv 1) (pa_cons (pe_glob (v := .ref a.c_Web) rfl T.g_Web rfl) pa_nil))) (pe_one (pe_cmpR (op_eqD hr.units) (pe_fld (pv 0) rfl) (pe_fld (pv 1) rfl) (nomark _)))))), ?_⟩
  refine ⟨_, rfl, y, dy, _, rfl, h3, _, rfl, ?_⟩
  refine ⟨_, rfl, x, a.c_Web, dx, _, _, rfl, h1, T.C_Web, T.N_rows, rfl, ?_⟩
  refine ⟨_, rfl, y, a.c_Web, dy, _, _, rfl, h3, T.C_Web, T.N_rows, rfl, ?_⟩
  refine ⟨dRows R, dRows R, rows_dp h2, rows_dp h4, sh_rows R, sh_rows R, ?_⟩
  rw [SeqAt.eqv_refl _ (SeqAt.canLay_of_shaped (sh_rows R))]
  exact k H Ext.rfl'
/-- a list of rows -/
def RowsL (K : PySem.W.Frag) (H : Hp) (p : Addr) (R : List Row) : Prop := ∃ vs, SqL K H p vs ∧ vs.length = R.length ∧ ∀ i v, vs[i]? = some v → RowV K H v (rowAt R i)
def spWebOf (K : PySem.W.Frag) (C : Addr) : Sp := fun vs H Q _ => ∃ (l : Addr) (R : List Row), vs = [.ref l] ∧ RowsL K H l R ∧ ∀ p H', Same H H' → H p = none → WebV K C H' p R → Q (.ref p) H'
theorem ok_web_of_rows (T : Txt K mg a) : FnOk P w K mg base CX0 6 a.f_web_of_rows a.d_web_of_rows ["rows"] (spWebOf K a.c_Web) := by
  have G1 := ok_Web_init (P := P) (w := w) (base := base) T
  refine T.F_web_of_rows.ok sc_web_of_rows (fun vs H Q E h => ?_) (fun cdv A outer s H vs Q E hr h => ?_)
  · obtain ⟨l, R, rfl, _⟩ := h
    rfl
  obtain ⟨l, R, rfl, ⟨ws, hw, hwl, hrow⟩, k⟩ := h
  refine ⟨_, (pss_cons (ps_set (i := 1) sc_web_of_rows.nd rfl (Or.inl rfl) (pe_make T.M_Web G1 (hr.mono (by decide)) rfl T.g_Web T.b_Web_init .nil pass0 (pa_cons (pe_tup pa_nil) pa_nil)))
  (pss_cons (ps_fld (pv 1) (pe_callTy call_tuple_of (by rfl) T.z_tuple (by decide +kernel) (pa_cons (pv 0) pa_nil)) rfl)
  (pss_one (ps_ret (pv 1))))), ?_⟩
  refine ⟨Nat.zero_le _, fun t ht => ?_⟩
  intro x dx hx hdx ne
  have s1 : Same H (upd H t (.tup [])) := same_new ht
  have s2 : Same H (upd (upd (upd H t (.tup [])) dx (.own x)) x (.ins a.c_Web dx [])) := (s1.trans (same_new hdx)).trans (same_new (by rw [upd_ne ne.symm]; exact hx))
  have htx : t ≠ x := fun e => by rw [e, upd_same] at hx; cases hx
  have htd : t ≠ dx := fun e => by rw [e, upd_same] at hdx; cases hdx
  refine ⟨x, dx, t, [], rfl, upd_same, ⟨[], .inl (.inl (by rw [upd_ne htx, upd_ne htd, upd_same])), rfl, by simp⟩, fun n h => absurd h (by simp), by decide, fun H2 kp e2 => ⟨rfl, ?_⟩⟩
  have nx : H x = none := by
    rw [upd_ne htx.symm] at hx
    exact hx
  have s3 : Same H H2 := fun b o e => kp b o (s2 b o e) (ne_of_none e nx)
  refine ⟨_, rfl, l, ws, rfl, .inl ⟨s3.seq hw, fun m hm => ?_⟩⟩
  have nm : x ≠ m := ne_of_none e2 hm
  refine ⟨_, rfl, x, a.c_Web, dx, _, rfl, (by rw [upd_ne nm]; exact e2), T.C_Web, T.N_rows, (by show 1 < 1000; decide), ?_⟩
  have s4 : Same H (upd H2 m (.tup ws)) := s3.trans (same_new hm)
  have s5 : Same H (upd (upd H2 m (.tup ws)) x (.ins a.c_Web dx [("rows", .ref m)])) := fun b o e => by
    rw [upd_ne (ne_of_none e nx)]
    exact s4 b o e
  refine ⟨_, rfl, ?_⟩
  refine k x _ s5 nx ⟨dx, m, upd_same, ws, .inl (.inl (by rw [upd_ne nm.symm, upd_same])), hwl, fun i v e => (hrow i v e).tk (Tk.of s5)⟩
def spCheck (K : PySem.W.Frag) (C : Addr) : Sp := fun vs H Q _ => ∃ (p : Addr) (R : List Row) (v : Nat), vs = [.ref p, nv v] ∧ WebV K C H p R ∧ v < R.length ∧ Q .non H
theorem ok_check_value (T : Txt K mg a) : FnOk P w K mg base CX0 3 a.f_check_value a.d_check_value ["web", "value"] (spCheck K a.c_Web) := by
  have G1 := ok_is_between (P := P) (w := w) (base := base) T
  refine T.F_check_value.ok sc_check_value (fun vs H Q E h => ?_) (fun cdv A outer s H vs Q E hr h => ?_)
  · obtain ⟨l, R, v, rfl, _⟩ := h
    rfl
  obtain ⟨p, R, v, rfl, ⟨dx, q, h1, ws, hw, hwl, hrow⟩, hv, k⟩ := h
  refine ⟨_, (pss_one (ps_if (pt_not (pt_val (pe_call G1 (hr.mono (by decide)) rfl T.g_is_between T.k_is_between T.b_is_between .nil pass0 (pa_cons pe_int (pa_cons (pe_op op_sub (pe_callB call_len_seq (by rfl) T.z_len PySem.boot_len (pa_cons (pe_fld (pv 0) rfl) pa_nil)) pe_int) (pa_cons (pv 1) pa_nil))))))
    (pss_one ps_never)
    pss_nil)), ?_⟩
  refine ⟨_, rfl, p, a.c_Web, dx, _, _, rfl, h1, T.C_Web, T.N_rows, rfl, q, ws, rfl, .inr hw, _, _, rfl, rfl, _, rfl, nv v, "int", 0, _, rfl, .int, .base (.int _), .inr ⟨_, rfl, rfl, _, rfl, ?_⟩⟩
  exact iteD (by rw [Bool.not_eq_false', Bool.and_eq_true, decide_eq_true_eq, decide_eq_true_eq]; omega) k
end
end Lk
namespace Lk
open PySem L2
/-! the dict of what was met -/
def ky (x : Nat) : Key := .inl (x : Int)
theorem ky_inj {x y : Nat} (h : ky x = ky y) : x = y := by
  have := Sum.inl.inj h
  omega
def fk (F : List Nat) : List (Key × V) := F.map fun x => (ky x, .bl true)
theorem fk_val (x : Nat) : ∀ F : List Nat, valV (fk F) (ky x) = if x ∈ F then some (.bl true) else none
  | [] => rfl
  | y :: F => by
    by_cases e : y = x
    · subst e
      rw [if_pos List.mem_cons_self]
      exact valV_pos rfl
    · rw [show valV (fk (y :: F)) (ky x) = valV (fk F) (ky x) from valV_neg fun q => e (ky_inj q), fk_val x F]
      by_cases m : x ∈ F
      · rw [if_pos m, if_pos (List.mem_cons_of_mem _ m)]
      · rw [if_neg m, if_neg (by rw [List.mem_cons]; exact fun q => q.elim (fun q => e q.symm) m)]
theorem fk_put (x : Nat) (F : List Nat) : putK (fk F) (ky x) (.bl true) = fk (ins F x) := by
  unfold ins
  by_cases m : x ∈ F
  · rw [if_pos m]
    have h : ((fk F).any fun kv => decide (kv.1 = ky x)) = true := by
      rw [valV_any, fk_val, if_pos m]
      rfl
    unfold putK
    rw [if_pos h]
    unfold fk
    rw [List.map_map]
    refine List.map_congr_left fun y _ => ?_
    show (if ky y = ky x then (ky y, V.bl true) else (ky y, V.bl true)) = _
    split <;> rfl
  · rw [if_neg m, putK_new _ (by rw [fk_val, if_neg m])]
    unfold fk
    rw [List.map_append]
    rfl
theorem fk_keys (F : List Nat) : (fk F).map (·.1) = (F.map fun (x : Nat) => (x : Int)).map Sum.inl := by
  unfold fk
  rw [List.map_map, List.map_map]
  rfl
theorem ins_len (F : List Nat) (x : Nat) : (ins F x).length ≤ F.length + 1 := by
  unfold ins
  split
  · omega
  · rw [List.length_append]
    exact Nat.le_refl _
theorem insAll_len : ∀ (xs F : List Nat), (xs.foldl ins F).length ≤ F.length + xs.length
  | [], _ => Nat.le_refl _
  | x :: xs, F => by
    have h1 := insAll_len xs (ins F x)
    have h2 := ins_len F x
    rw [List.foldl_cons, List.length_cons]
    omega
theorem parts_len {R : List Row} (g : Good R) (n : Nat) : (parts R n).length ≤ 2 := by
  by_cases h : n < R.length
  · exact (g n h).2.1
  · rw [parts_out (by omega)]
    decide
theorem goB_len {R : List Row} (g : Good R) {v : Nat} : ∀ i, (goB R v i).length ≤ 1 + 2 * i
  | 0 => Nat.le_refl _
  | i + 1 => by
    have h1 := goB_len g (v := v) i
    have h2 := insAll_len (parts R (v - i)) (goB R v i)
    have h3 := parts_len g (v - i)
    show (stepB R (goB R v i) (v - i)).length ≤ _
    unfold stepB
    split <;> omega
theorem lt_line {n : Nat} (h : n ≤ 100000) : n < sizeLine := by
  rw [sizeLine_eq]
  omega
theorem take_ins {xs F : List Nat} {j x : Nat} (h : xs[j]? = some x) : (xs.take (j + 1)).foldl ins F = ins ((xs.take j).foldl ins F) x := by
  rw [List.take_add_one, h, List.foldl_append]
  rfl
theorem at_row {K : PySem.W.Frag} {H : Hp} {vs : List V} {R : List Row} {n : Nat} (hl : vs.length = R.length) (hr : ∀ i v, vs[i]? = some v → RowV K H v (rowAt R i)) (h : n < R.length) :
    ∃ v, atI vs (n : Int) = some v ∧ RowV K H v (rowAt R n) := by
  have hn : n < vs.length := by omega
  exact ⟨vs[n], atI_nat (List.getElem?_eq_getElem hn), hr n _ (List.getElem?_eq_getElem hn)⟩
section
variable {P : Program} {w : World} {K : PySem.W.Frag} {mg : Str → Option Value} {base : Heap} {a : Adr}
def spBelow (K : PySem.W.Frag) (C : Addr) : Sp := fun vs H Q _ => ∃ (p : Addr) (R : List Row) (v : Nat), vs = [.ref p, nv v] ∧ WebV K C H p R ∧ Good R ∧ v < R.length ∧ R.length ≤ 2000 ∧
  ∀ t H', Same H H' → H t = none → IT K H' t (belowM R v) → Q (.ref t) H'
theorem ok_below (T : Txt K mg a) : FnOk P w K mg base CX0 4 a.f_below a.d_below ["web", "value"] (spBelow K a.c_Web) := by
  have G1 := ok_check_value (P := P) (w := w) (base := base) T
  refine T.F_below.ok sc_below (fun vs H Q E h => ?_) (fun cdv A outer s H vs Q E hr h => ?_)
  · obtain ⟨l, R, v, rfl, _⟩ := h
    rfl
  obtain ⟨p, R, v, rfl, hW, g, hv, hz, k⟩ := h
  obtain ⟨dx, q, h1, ws, hw, hwl, hrow⟩ := id hW
  have hu := hu_of hr
  refine ⟨_, (pss_cons (ps_expr (pe_call G1 (hr.mono (by decide)) rfl T.g_check_value T.k_check_value T.b_check_value .nil pass0 (pa_cons (pv 0) (pa_cons (pv 1) pa_nil))))
  (pss_cons (ps_set (i := 2) sc_below.nd rfl (Or.inl rfl) (pe_disp (pps_cons (pv 1) pe_bl pps_nil) (by rfl) (by rfl) (fun z => by cases z) (by decide)))
  (pss_cons (ps_for PassesOwn.never rfl (pi_range3 rfl T.z_range (pa_cons (pv 1) (pa_cons (pe_un un_neg pe_int) (pa_cons (pe_un un_neg pe_int) pa_nil)))) (pg_name (i := 3) sc_below.nd rfl (Or.inl rfl))
    (pss_one (ps_if (pt_cmp (pc_din hu (pv 3) (pv 2)))
    (pss_one (ps_for PassesOwn.never rfl (pi_tup (pe_ix ix_tup (pe_ix ix_tup (pe_fld (pv 0) rfl) (pv 3) (fun _ _ => rfl)) pe_int (fun _ _ => rfl))) (pg_name (i := 4) sc_below.nd rfl (Or.inl rfl))
    (pss_one (ps_dput hu (pv 2) (pv 4) pe_bl rfl))))
    pss_nil)))
  (pss_one (ps_ret (pe_callTy call_tuple_of (by rfl) T.z_tuple (by decide +kernel) (pa_cons (pe_callB (SoD.call_sortDA rfl) (by rfl) T.z_sorted (by decide +kernel) (pa_cons (pv 2) pa_nil)) pa_nil))))))), ?_⟩
  refine ⟨_, rfl, _, rfl, p, R, v, rfl, hW, hv, ?_⟩
  -- found = {value: True}
  intro d hd
  refine ⟨_, rfl, ?_⟩
  refine ⟨upd_same, [(ky v, .bl true)], rfl, (by show 1 ≤ 15; decide), ?_⟩
  rw [upd_upd]
  have s0 : Same H (upd H d (.dK (mergeK [] [(ky v, .bl true)]))) := same_new hd
  -- for each in range(value, -1, -1)
  refine ⟨_, rfl, _, rfl, _, rfl, v, -1, -1, v + 1, rfl, ?_, for_rangeC (lo := v) (c := -1) (n := v + 1) (fun i σ H' => ∃ v3 v4, σ = [some (.ref p), some (nv v), some (.ref d), v3, v4] ∧ Same H H' ∧ H' d = some (.dK (fk (goB R v i)))) ⟨none, none, rfl, s0, upd_same⟩ ?_ ?_⟩
  · have z := RgC.neg (i := (v : Int)) (j := -1) (by omega) (by omega) (by decide) (by decide)
    rwa [show ((v : Int) - -1).toNat = v + 1 by omega] at z
  · rintro i σ H1 hi ⟨v3, v4, rfl, s1, e1⟩
    have hn : (v : Int) + (i : Nat) * -1 = ((v - i : Nat) : Int) := by omega
    rw [hn]
    refine ⟨_, rfl, _, rfl, d, _, rfl, DGet.k (k := ky (v - i)) e1, _, rfl, ?_⟩
    have hlt : v - i < R.length := by omega
    rw [fk_val]
    by_cases m : v - i ∈ goB R v i
    · rw [if_pos m]
      refine iteT ?_
      -- for part in web.rows[each][1]
      obtain ⟨y, hy, pr, qr, rfl, hr1, hr2⟩ := at_row hwl hrow hlt
      have T1 : Tk H H1 := Tk.of s1
      refine ⟨_, rfl, p, a.c_Web, dx, _, _, rfl, s1 _ _ h1, T.C_Web, T.N_rows, rfl, _, rfl, q, ws, _, _, rfl, rfl, T1.t hw, hy, pr, _, 1, _, rfl, rfl, T1.t hr1, rfl, qr, rfl, ⟨_, T1.t hr2⟩, ?_⟩
      refine for_tup (xs := (parts R (v - i)).map nv) (fun j σ H' => ∃ v4, σ = [some (.ref p), some (nv v), some (.ref d), some (nv (v - i)), v4] ∧ Same H H' ∧ H' d = some (.dK (fk (((parts R (v - i)).take j).foldl ins (goB R v i))))) ⟨v4, rfl, s1, e1⟩ (fun j σ H' _ z => ?_) ?_ ?_
      · obtain ⟨_, _, s2, _⟩ := z
        exact (Tk.of s2).t hr2
      · rintro j x σ H2 hx ⟨v4, rfl, s2, e2⟩
        rw [List.getElem?_map] at hx
        obtain ⟨x, hx2, rfl⟩ := Option.map_eq_some_iff.mp hx
        have l1 := insAll_len ((parts R (v - i)).take j) (goB R v i)
        have l2 := goB_len g (v := v) i
        have l3 : ((parts R (v - i)).take j).length ≤ 2 := by
          rw [List.length_take]
          have := parts_len g (v - i)
          omega
        refine ⟨_, rfl, _, rfl, d, _, rfl, DPut.k (k := ky x) e2 (lt_line (by unfold fk; rw [List.length_map]; omega)), ?_⟩
        refine ⟨_, rfl, fun b o e => ?_, ?_⟩
        · rw [upd_ne (ne_of_none e hd)]
          exact s2 b o e
        · rw [upd_same, fk_put, take_ins hx2]
      · rintro σ H2 ⟨v4, rfl, s2, e2⟩
        refine ⟨_, _, rfl, s2, ?_⟩
        rw [List.length_map, List.take_length] at e2
        rw [e2]
        show _ = some (HO.dK (fk (stepB R (goB R v i) (v - i))))
        unfold stepB
        rw [if_pos m]
    · rw [if_neg m]
      refine iteF ?_
      refine ⟨_, _, rfl, s1, ?_⟩
      rw [e1]
      show _ = some (HO.dK (fk (stepB R (goB R v i) (v - i))))
      unfold stepB
      rw [if_neg m]
  · rintro σ H1 ⟨v3, v4, rfl, s1, e1⟩
    refine ⟨_, rfl, d, _, _, rfl, .inl e1, fk_keys _, fun ys s perm sorted hs => ?_⟩
    refine ⟨s, _, rfl, .inl ⟨SqL.of upd_same, fun t ht => ?_⟩⟩
    have s2 : Same H (upd (upd H1 s (.lst (ys.map V.int))) t (.tup (ys.map V.int))) := (s1.trans (same_new hs)).trans (same_new ht)
    refine k t _ s2 ?_ (.inl (.inl ?_))
    · have s3 : Same H (upd H1 s (.lst (ys.map V.int))) := s1.trans (same_new hs)
      exact s3.free ht
    · rw [upd_same, sorted_keys g perm sorted, List.map_map]
      rfl
end
end Lk
namespace Lk
open PySem L2
/-! the dict of places -/
def pl : List Nat → Nat → List (Key × V)
  | [], _ => []
  | x :: B, n => (ky x, nv n) :: pl B (n + 1)
theorem pl_len : ∀ (B : List Nat) (n : Nat), (pl B n).length = B.length
  | [], _ => rfl
  | _ :: B, n => by
    show (pl B (n + 1)).length + 1 = B.length + 1
    rw [pl_len B (n + 1)]
theorem pl_none {p : Nat} : ∀ (B : List Nat) (n : Nat), ¬ p ∈ B → valV (pl B n) (ky p) = none
  | [], _, _ => rfl
  | x :: B, n, h => by
    rw [List.mem_cons] at h
    rw [show valV (pl (x :: B) n) (ky p) = valV (pl B (n + 1)) (ky p) from valV_neg fun q => h (Or.inl (ky_inj q).symm)]
    exact pl_none B (n + 1) fun q => h (Or.inr q)
theorem pl_val {p : Nat} : ∀ (B : List Nat) (n : Nat), p ∈ B → valV (pl B n) (ky p) = some (nv (n + B.idxOf p))
  | x :: B, n, h => by
    by_cases e : x = p
    · subst e
      rw [List.idxOf_cons_self]
      exact valV_pos rfl
    · have h2 : p ∈ B := by
        rcases List.mem_cons.mp h with q | q
        · exact absurd q.symm e
        · exact q
      rw [show valV (pl (x :: B) n) (ky p) = valV (pl B (n + 1)) (ky p) from valV_neg fun q => e (ky_inj q), pl_val B (n + 1) h2, List.idxOf_cons]
      have e' : (x == p) = false := by simpa using e
      rw [e']
      show some (nv (n + 1 + B.idxOf p)) = some (nv (n + (B.idxOf p + 1)))
      rw [Nat.add_assoc, Nat.add_comm 1]
theorem pl_app (x : Nat) : ∀ (B : List Nat) (n : Nat), pl (B ++ [x]) n = pl B n ++ [(ky x, nv (n + B.length))]
  | [], n => rfl
  | y :: B, n => by
    show (ky y, nv n) :: pl (B ++ [x]) (n + 1) = (ky y, nv n) :: (pl B (n + 1) ++ _)
    rw [pl_app x B (n + 1), List.length_cons, Nat.add_assoc, Nat.add_comm 1]
theorem pl_put {B : List Nat} (hn : B.Nodup) {i x : Nat} (h : B[i]? = some x) : putK (pl (B.take i) 0) (ky x) (nv i) = pl (B.take (i + 1)) 0 := by
  have hi : i < B.length := (List.getElem?_eq_some_iff.mp h).1
  have hl : (B.take i).length = i := by
    rw [List.length_take]
    omega
  have hx : ¬ x ∈ B.take i := by
    intro q
    obtain ⟨j, hj⟩ := List.mem_iff_getElem?.mp q
    have hj2 : j < i := by
      have := (List.getElem?_eq_some_iff.mp hj).1
      omega
    rw [List.getElem?_take_of_lt hj2] at hj
    have h1 := (List.getElem?_eq_some_iff.mp hj)
    have h2 := (List.getElem?_eq_some_iff.mp h)
    have h3 := (List.getElem_inj hn (i := j) (j := i) (h₀ := h1.1) (h₁ := h2.1)).mp (h1.2.trans h2.2.symm)
    omega
  rw [putK_new _ (pl_none _ _ hx), List.take_add_one, h]
  show _ = pl (B.take i ++ [x]) 0
  rw [pl_app, hl, Nat.zero_add]
section
variable {P : Program} {w : World} {K : PySem.W.Frag} {mg : Str → Option Value} {base : Heap} {a : Adr}
def spPart (K : PySem.W.Frag) (C : Addr) : Sp := fun vs H Q _ => ∃ (p : Addr) (R : List Row) (v : Nat), vs = [.ref p, nv v] ∧ WebV K C H p R ∧ Good R ∧ v < R.length ∧ R.length ≤ 2000 ∧
  ∀ t H', Same H H' → H t = none → WebV K C H' t (cutM R v) → Q (.ref t) H'
theorem ok_part_web (T : Txt K mg a) : FnOk P w K mg base CX0 7 a.f_part_web a.d_part_web ["web", "value"] (spPart K a.c_Web) := by
  have G1 := ok_below (P := P) (w := w) (base := base) T
  have G2 := ok_web_of_rows (P := P) (w := w) (base := base) T
  refine T.F_part_web.ok sc_part_web (fun vs H Q E h => ?_) (fun cdv A outer s H vs Q E hr h => ?_)
  · obtain ⟨l, R, v, rfl, _⟩ := h
    rfl
  obtain ⟨p, R, v, rfl, hW, g, hv, hz, k⟩ := h
  obtain ⟨dx, q, h1, ws, hw, hwl, hrow⟩ := id hW
  have hu := hu_of hr
  refine ⟨_, (pss_cons (ps_set (i := 2) sc_part_web.nd rfl (Or.inl rfl) (pe_call G1 (hr.mono (by decide)) rfl T.g_below T.k_below T.b_below .nil pass0 (pa_cons (pv 0) (pa_cons (pv 1) pa_nil))))
  (pss_cons (ps_set (i := 3) sc_part_web.nd rfl (Or.inr rfl) (pe_dc (own := [("place", 8), ("each", 5)]) (g := gTup K 2 (gCons (gName 8) (gCons (gName 5) gNil))) (tt := tYes) rfl sc_part_web.nd (EnT.pi_enumT rfl T.z_enumerate (pa_cons (pv 2) pa_nil)) (blkOk_by (N := ["web", "value", "values", "places", "rows", "each", "op", "parts", "place", "part"]) (sc := defScope s_part_web) (by decide +kernel)) (fun _ _ _ _ _ => pg_tup rfl (pgs_cons (pg_name (i := 8) sc_part_web.nd rfl (Or.inl rfl)) (pgs_cons (pg_name (i := 5) sc_part_web.nd rfl (Or.inl rfl)) pgs_nil))) (fun _ _ _ _ _ => pts_nil) (fun _ _ _ _ _ => pv 5) (fun _ _ _ _ _ => pv 8)))
  (pss_cons (ps_set (i := 4) sc_part_web.nd rfl (Or.inl rfl) (pe_lst pa_nil))
  (pss_cons (ps_for PassesOwn.never rfl (pi_tup (pv 2)) (pg_name (i := 5) sc_part_web.nd rfl (Or.inl rfl))
    (pss_cons (ps_asg (pe_ix ix_tup (pe_fld (pv 0) rfl) (pv 5) (fun _ _ => rfl)) (pg_tup (by rfl) (pgs_cons (pg_name (i := 6) sc_part_web.nd rfl (Or.inl rfl)) (pgs_cons (pg_name (i := 7) sc_part_web.nd rfl (Or.inl rfl)) pgs_nil))))
  (pss_one (ps_expr (pe_bm PySem.F.plainAttrs_list PySem.F.slot_list_append PySem.F.type_list_append mt_append (pv 4) (pa_cons (pe_tup (pa_cons (pv 6) (pa_cons (pe_callTy call_tuple_of (by rfl) T.z_tuple (by decide +kernel) (pa_cons (pe_lc (own := [("part", 9)]) (g := gName 9) (tt := tYes) rfl sc_part_web.nd (pi_tup (pv 7)) (blkOk_by (N := ["web", "value", "values", "places", "rows", "each", "op", "parts", "place", "part"]) (sc := defScope s_part_web) (by decide +kernel)) (fun _ _ _ _ _ => pg_name (i := 9) sc_part_web.nd rfl (Or.inl rfl)) (fun _ _ _ _ _ => pts_nil) (fun _ _ _ _ _ => (pe_dget hu (pv 3) (pv 9) (fun _ _ => rfl)))) pa_nil)) pa_nil))) pa_nil))))))
  (pss_one (ps_ret (pe_call G2 (hr.mono (by decide)) rfl T.g_web_of_rows T.k_web_of_rows T.b_web_of_rows .nil pass0 (pa_cons (pv 4) pa_nil)))))))), ?_⟩
  have nB := nodup_belowM (R := R) (v := v)
  have lB : (belowM R v).length ≤ 2000 := by
    have := belowM_len (R := R) (v := v)
    omega
  -- values = below(web, value)
  refine ⟨_, rfl, _, rfl, p, R, v, rfl, hW, g, hv, hz, fun tB H1 s1 _ hB => ?_⟩
  -- places = {each: place for place, each in enumerate(values)}
  refine ⟨_, rfl, tB, _, rfl, hB, fun dP hP => EnT.dc_it (EnT.walkE (xs := (belowM R v).map nv)) (fun i H' => Same H1 H' ∧ H' dP = some (.dK (pl ((belowM R v).take i) 0))) ⟨same_new hP, upd_same⟩ (fun i H' _ z => (Tk.of z.1).t hB) ?_ ?_⟩
  · intro i y H2 H3 hi z hy
    obtain ⟨s2, e2⟩ := z
    obtain ⟨t, y1, y2, rfl, ht, rfl, ea, eb⟩ := hy
    cases ea
    replace eb : ((belowM R v).map nv)[i]? = some y2 := eb
    rw [List.getElem?_map] at eb
    obtain ⟨x, hx, rfl⟩ := Option.map_eq_some_iff.mp eb
    refine ⟨t, _, rfl, .inl (.inl upd_same), rfl, _, _, rfl, _, _, rfl, rfl, rfl, ?_⟩
    have nt : dP ≠ t := ne_of_none e2 ht
    refine ⟨_, rfl, _, rfl, pl ((belowM R v).take i) 0, ky x, rfl, by rw [upd_ne nt]; exact e2, lt_line (by rw [pl_len, List.length_take]; omega), fun b o e => ?_, ?_⟩
    · rw [upd_ne (ne_of_none e hP)]
      exact (s2.trans (same_new ht)) b o e
    · rw [upd_same]
      show some (HO.dK (putK (pl ((belowM R v).take i) 0) (ky x) (nv i))) = _
      rw [pl_put nB hx]
  · intro H2 z
    obtain ⟨s2, e2⟩ := z
    rw [List.length_map, List.take_length] at e2
    have s2' : Same H H2 := s1.trans s2
    -- rows = []
    refine ⟨Nat.zero_le _, fun l hl => ?_⟩
    have ndl : dP ≠ l := ne_of_none e2 hl
    have hlH : H l = none := s2'.free hl
    have hdH : H dP = none := s1.free hP
    -- for each in values
    have hB2 : SqT K H2 tB ((belowM R v).map nv) := (Tk.of s2).t hB
    refine ⟨_, rfl, tB, rfl, ⟨_, (Tk.of (same_new hl)).t hB2⟩, for_tup (xs := (belowM R v).map nv) (fun i σ H' => ∃ v5 v6 v7, σ = [some (.ref p), some (nv v), some (.ref tB), some (.ref dP), some (.ref l), v5, v6, v7, none, none] ∧ Same H2 H' ∧ H' dP = some (.dK (pl (belowM R v) 0)) ∧ ∃ us, H' l = some (.lst us) ∧ us.length = i ∧ ∀ j u, us[j]? = some u → RowV K H' u (rowAt (cutM R v) j))
      ⟨none, none, none, rfl, same_new hl, by rw [upd_ne ndl]; exact e2, [], upd_same, rfl, by simp⟩ (fun i σ H' _ z => ?_) ?_ ?_⟩
    · obtain ⟨_, _, _, _, s3, _⟩ := z
      exact (Tk.of s3).t hB2
    · rintro i x σ H3 hx ⟨v5, v6, v7, rfl, s3, e3, us, eu, lu, ru⟩
      rw [List.getElem?_map] at hx
      obtain ⟨n, hn, rfl⟩ := Option.map_eq_some_iff.mp hx
      have hi : i < (belowM R v).length := (List.getElem?_eq_some_iff.mp hn).1
      have hgd : (belowM R v).getD i 0 = n := by
        rw [gd hi]
        exact (List.getElem?_eq_some_iff.mp hn).2
      have hnB : n ∈ belowM R v := List.mem_of_getElem? hn
      have hnR : n < R.length := by
        have := belowM_lt g hnB
        omega
      have s3' : Same H H3 := s2'.trans s3
      obtain ⟨y, hy, pr, qr, rfl, hr1, hr2⟩ := at_row hwl hrow hnR
      -- op, parts = web.rows[each]
      refine ⟨_, rfl, p, a.c_Web, dx, _, _, rfl, s3' _ _ h1, T.C_Web, T.N_rows, rfl, _, rfl, q, ws, _, _, rfl, rfl, (Tk.of s3').t hw, hy, ?_⟩
      refine ⟨pr, _, rfl, (Tk.of s3').t hr1, rfl, _, _, rfl, _, _, rfl, rfl, ?_⟩
      -- rows.append((op, tuple([places[part] for part in parts])))
      refine ⟨_, rfl, .inl ⟨rfl, _, SqL.of eu⟩, _, rfl, _, rfl, qr, rfl, ⟨_, (Tk.of s3').t hr2⟩, fun D hD => ?_⟩
      have nD1 : dP ≠ D := ne_of_none e3 hD
      have nD2 : l ≠ D := ne_of_none eu hD
      refine lc_tup (xs := (parts R n).map nv) (fun j H' => Same H3 H' ∧ H' D = some (.lst (((parts R n).take j).map fun x => nv ((belowM R v).idxOf x)))) ⟨same_new hD, upd_same⟩ (fun j H' _ z => (Tk.of z.1).t ((Tk.of s3').t hr2)) (fun j x H4 hx z => ?_) (fun H4 z => ?_)
      · obtain ⟨s4, e4⟩ := z
        rw [List.getElem?_map] at hx
        obtain ⟨m, hm, rfl⟩ := Option.map_eq_some_iff.mp hx
        have hmB : m ∈ belowM R v := part_in g hnB (List.mem_of_getElem? hm)
        refine ⟨rfl, ?_⟩
        have dg := DGet.k (k := ky m) (s4 _ _ e3)
        rw [pl_val _ _ hmB, Nat.zero_add] at dg
        refine ⟨_, rfl, _, rfl, dP, _, rfl, dg, _, e4, lt_line (by rw [List.length_map, List.length_take]; have := parts_len g n; omega), fun b o e => ?_, ?_⟩
        · rw [upd_ne (ne_of_none e hD)]
          exact s4 b o e
        · rw [upd_same, List.take_add_one, hm, List.map_append]
          rfl
      · obtain ⟨s4, e4⟩ := z
        rw [List.length_map, List.take_length] at e4
        refine ⟨D, _, rfl, .inl ⟨SqL.of e4, fun t ht => ⟨by show 2 ≤ sizeLine; decide, fun c hc => ?_⟩⟩⟩
        have s5 : Same H3 (upd H4 t (.tup (List.map (fun x => nv ((belowM R v).idxOf x)) (parts R n)))) := s4.trans (same_new ht)
        have s6 : Same H3 (upd (upd H4 t (.tup (List.map (fun x => nv ((belowM R v).idxOf x)) (parts R n)))) c (.tup [nv (rowAt R n).1, .ref t])) := s5.trans (same_new hc)
        have nct : t ≠ c := ne_of_none upd_same hc
        have nlc : l ≠ c := ne_of_none (s5 _ _ eu) hc
        refine ⟨l, us, _, rfl, rfl, s6 _ _ eu, lt_line (by omega), ?_⟩
        have s7 : Same H2 (upd (upd (upd H4 t (.tup (List.map (fun x => nv ((belowM R v).idxOf x)) (parts R n)))) c (.tup [nv (rowAt R n).1, .ref t])) l (.lst (us ++ [.ref c]))) := fun b o e => by
          rw [upd_ne (ne_of_none e hl)]
          exact s6 b o (s3 b o e)
        have t7 : Tk (upd (upd H4 t (.tup (List.map (fun x => nv ((belowM R v).idxOf x)) (parts R n)))) c (.tup [nv (rowAt R n).1, .ref t])) (upd (upd (upd H4 t (.tup (List.map (fun x => nv ((belowM R v).idxOf x)) (parts R n)))) c (.tup [nv (rowAt R n).1, .ref t])) l (.lst (us ++ [.ref c]))) := tk_mut (s6 _ _ eu)
        refine ⟨_, _, _, rfl, s7, ?_, us ++ [.ref c], upd_same, by rw [List.length_append, lu]; rfl, fun j u hj => ?_⟩
        · rw [upd_ne ndl]
          exact s6 _ _ e3
        · by_cases hji : j < us.length
          · rw [List.getElem?_append_left hji] at hj
            exact (ru j u hj).tk ((Tk.of s6).trans t7)
          · have ej : j = i := by
              have := (List.getElem?_eq_some_iff.mp hj).1
              rw [List.length_append, List.length_singleton] at this
              omega
            subst ej
            rw [List.getElem?_append_right (by omega), lu, Nat.sub_self] at hj
            cases hj
            rw [cutM_row hi, hgd]
            refine ⟨c, t, rfl, t7.t (.inl (.inl upd_same)), t7.t (.inl (.inl ?_))⟩
            rw [upd_ne nct, upd_same, List.map_map]
            rfl
    · rintro σ H3 ⟨v5, v6, v7, rfl, s3, e3, us, eu, lu, ru⟩
      rw [List.length_map] at lu
      refine ⟨_, rfl, l, cutM R v, rfl, ⟨us, SqL.of eu, by rw [lu, cutM_len], ru⟩, fun c H4 s4 hc hW4 => ?_⟩
      have s3' : Same H H3 := s2'.trans s3
      exact k c H4 (s3'.trans s4) (s3'.free hc) hW4
end
end Lk
namespace Lk
open PySem L2
/-! rules with the written part told, for use within comprehensions -/
theorem ixT {K : PySem.W.Frag} {X : Cx} (h : X.K = K) : IxR X (rIxT K) := by
  subst h
  exact ix_tup
def rTupOf (K : PySem.W.Frag) : List V → Hp → VK → Prop := fun xs H Q =>
  ∃ p ys, xs = [.ref p] ∧
    ((SqL K H p ys ∧ ∀ l, H l = none → Q (.ref l) (upd H l (.tup ys))) ∨
      (SqT K H p ys ∧ Q (.ref p) H))
theorem tupOf {K : PySem.W.Frag} {X : Cx} (h : X.K = K) : CallR X (.type "tuple") (rTupOf K) := by
  subst h
  exact call_tuple_of
theorem piT {K : PySem.W.Frag} {X : Cx} {tg t : Expr} {te : TE} (h : X.K = K) (ht : PE X t te) : PI X tg t (iTup K te) := by
  subst h
  exact pi_tup ht
section
variable {P : Program} {w : World} {K : PySem.W.Frag} {mg : Str → Option Value} {base : Heap} {a : Adr}
def spLBelow (K : PySem.W.Frag) : Sp := fun vs H Q _ => ∃ (q : Addr) (R : List Row) (v : Nat), vs = [.ref q, nv v] ∧ RowsT K H q R ∧ Good R ∧ v < R.length ∧ R.length ≤ 2000 ∧
  ∀ t H', Same H H' → H t = none → H' t = some (.lst ((belowM R v).map nv)) → Q (.ref t) H'
theorem ok_law_below (T : Txt K mg a) : FnOk P w K mg base CX0 1 a.f_law_below a.d_law_below ["_law_values", "_law_value"] (spLBelow K) := by
  refine T.F_law_below.ok sc_law_below (fun vs H Q E h => ?_) (fun cdv A outer s H vs Q E hr h => ?_)
  · obtain ⟨l, R, v, rfl, _⟩ := h
    rfl
  obtain ⟨q, R, v, rfl, hR, g, hv, hz, k⟩ := h
  obtain ⟨ws, hw, hwl, hrow⟩ := id hR
  have hu := hu_of hr
  refine ⟨_, (pss_cons (ps_set (i := 2) sc_law_below.nd rfl (Or.inl rfl) (pe_disp (pps_cons (pv 1) pe_bl pps_nil) (by rfl) (by rfl) (fun z => by cases z) (by decide)))
  (pss_cons (ps_for PassesOwn.never rfl (pi_range3 rfl T.z_range (pa_cons (pv 1) (pa_cons (pe_un un_neg pe_int) (pa_cons (pe_un un_neg pe_int) pa_nil)))) (pg_name (i := 3) sc_law_below.nd rfl (Or.inl rfl))
    (pss_one (ps_if (pt_cmp (pc_din hu (pv 3) (pv 2)))
    (pss_one (ps_for PassesOwn.never rfl (pi_tup (pe_ix ix_tup (pe_ix ix_tup (pv 0) (pv 3) (fun _ _ => rfl)) pe_int (fun _ _ => rfl))) (pg_name (i := 4) sc_law_below.nd rfl (Or.inl rfl))
    (pss_one (ps_dput hu (pv 2) (pv 4) pe_bl rfl))))
    pss_nil)))
  (pss_one (ps_ret (pe_callB cr_sortedI (by rfl) T.z_sorted (by decide +kernel) (pa_cons (pe_callTy (call_list_dK rfl) (by rfl) T.z_list (by decide +kernel) (pa_cons (pv 2) pa_nil)) pa_nil)))))), ?_⟩
  intro d hd
  refine ⟨_, rfl, ?_⟩
  refine ⟨upd_same, [(ky v, .bl true)], rfl, (by show 1 ≤ 15; decide), ?_⟩
  rw [upd_upd]
  have s0 : Same H (upd H d (.dK (mergeK [] [(ky v, .bl true)]))) := same_new hd
  refine ⟨_, rfl, _, rfl, _, rfl, v, -1, -1, v + 1, rfl, ?_, for_rangeC (lo := v) (c := -1) (n := v + 1) (fun i σ H' => ∃ v3 v4, σ = [some (.ref q), some (nv v), some (.ref d), v3, v4] ∧ Same H H' ∧ H' d = some (.dK (fk (goB R v i)))) ⟨none, none, rfl, s0, upd_same⟩ ?_ ?_⟩
  · have z := RgC.neg (i := (v : Int)) (j := -1) (by omega) (by omega) (by decide) (by decide)
    rwa [show ((v : Int) - -1).toNat = v + 1 by omega] at z
  · rintro i σ H1 hi ⟨v3, v4, rfl, s1, e1⟩
    have hn : (v : Int) + (i : Nat) * -1 = ((v - i : Nat) : Int) := by omega
    rw [hn]
    refine ⟨_, rfl, _, rfl, d, _, rfl, DGet.k (k := ky (v - i)) e1, _, rfl, ?_⟩
    have hlt : v - i < R.length := by omega
    rw [fk_val]
    by_cases m : v - i ∈ goB R v i
    · rw [if_pos m]
      refine iteT ?_
      obtain ⟨y, hy, pr, qr, rfl, hr1, hr2⟩ := at_row hwl hrow hlt
      have T1 : Tk H H1 := Tk.of s1
      refine ⟨_, rfl, _, rfl, q, ws, _, _, rfl, rfl, T1.t hw, hy, pr, _, 1, _, rfl, rfl, T1.t hr1, rfl, qr, rfl, ⟨_, T1.t hr2⟩, ?_⟩
      refine for_tup (xs := (parts R (v - i)).map nv) (fun j σ H' => ∃ v4, σ = [some (.ref q), some (nv v), some (.ref d), some (nv (v - i)), v4] ∧ Same H H' ∧ H' d = some (.dK (fk (((parts R (v - i)).take j).foldl ins (goB R v i))))) ⟨v4, rfl, s1, e1⟩ (fun j σ H' _ z => ?_) ?_ ?_
      · obtain ⟨_, _, s2, _⟩ := z
        exact (Tk.of s2).t hr2
      · rintro j x σ H2 hx ⟨v4, rfl, s2, e2⟩
        rw [List.getElem?_map] at hx
        obtain ⟨x, hx2, rfl⟩ := Option.map_eq_some_iff.mp hx
        have l1 := insAll_len ((parts R (v - i)).take j) (goB R v i)
        have l2 := goB_len g (v := v) i
        have l3 : ((parts R (v - i)).take j).length ≤ 2 := by
          rw [List.length_take]
          have := parts_len g (v - i)
          omega
        refine ⟨_, rfl, _, rfl, d, _, rfl, DPut.k (k := ky x) e2 (lt_line (by unfold fk; rw [List.length_map]; omega)), ?_⟩
        refine ⟨_, rfl, fun b o e => ?_, ?_⟩
        · rw [upd_ne (ne_of_none e hd)]
          exact s2 b o e
        · rw [upd_same, fk_put, take_ins hx2]
      · rintro σ H2 ⟨v4, rfl, s2, e2⟩
        refine ⟨_, _, rfl, s2, ?_⟩
        rw [List.length_map, List.take_length] at e2
        rw [e2]
        show _ = some (HO.dK (fk (stepB R (goB R v i) (v - i))))
        unfold stepB
        rw [if_pos m]
    · rw [if_neg m]
      refine iteF ?_
      refine ⟨_, _, rfl, s1, ?_⟩
      rw [e1]
      show _ = some (HO.dK (fk (stepB R (goB R v i) (v - i))))
      unfold stepB
      rw [if_neg m]
  · rintro σ H1 ⟨v3, v4, rfl, s1, e1⟩
    refine ⟨_, rfl, d, _, rfl, e1, fun l hl => ?_⟩
    have s2 : Same H (upd H1 l (.lst ((fk (goB R v (v + 1))).map fun kv => kV kv.1))) := s1.trans (same_new hl)
    refine ⟨l, (goB R v (v + 1)).map fun (x : Nat) => (x : Int), rfl, SqL.of ?_, fun ys s perm sorted hs => ?_⟩
    · rw [upd_same]
      unfold fk
      rw [List.map_map, List.map_map]
      rfl
    · refine k s _ (s2.trans (same_new hs)) (s2.free hs) ?_
      rw [upd_same, sorted_keys g perm sorted, List.map_map]
      rfl
def spLCut (K : PySem.W.Frag) : Sp := fun vs H Q _ => ∃ (q : Addr) (R : List Row) (v : Nat), vs = [.ref q, nv v] ∧ RowsT K H q R ∧ Good R ∧ v < R.length ∧ R.length ≤ 2000 ∧
  ∀ t H', Same H H' → H t = none → RowsT K H' t (cutM R v) → Q (.ref t) H'
theorem ok_law_cut (T : Txt K mg a) : FnOk P w K mg base CX0 2 a.f_law_cut a.d_law_cut ["_law_values", "_law_value"] (spLCut K) := by
  have G1 := ok_law_below (P := P) (w := w) (base := base) T
  refine T.F_law_cut.ok sc_law_cut (fun vs H Q E h => ?_) (fun cdv A outer s H vs Q E hr h => ?_)
  · obtain ⟨l, R, v, rfl, _⟩ := h
    rfl
  obtain ⟨q, R, v, rfl, hR, g, hv, hz, k⟩ := h
  obtain ⟨ws, hw, hwl, hrow⟩ := id hR
  have hu := hu_of hr
  refine ⟨_, (pss_cons (ps_set (i := 2) sc_law_cut.nd rfl (Or.inl rfl) (pe_call G1 (hr.mono (by decide)) rfl T.g_law_below T.k_law_below T.b_law_below .nil pass0 (pa_cons (pv 0) (pa_cons (pv 1) pa_nil))))
  (pss_cons (ps_set (i := 3) sc_law_cut.nd rfl (Or.inr rfl) pe_dnewK)
  (pss_cons (ps_for PassesOwn.never rfl (pi_list (pv 2)) (pg_name (i := 4) sc_law_cut.nd rfl (Or.inl rfl))
    (pss_one (ps_dput hu (pv 3) (pv 4) (pe_callB call_lenD (by rfl) T.z_len PySem.boot_len (pa_cons (pv 3) pa_nil)) rfl)))
  (pss_one (ps_ret (pe_callTy call_tuple_of (by rfl) T.z_tuple (by decide +kernel) (pa_cons (pe_lc (own := [("_law_number", 4)]) (g := gName 4) (tt := tYes) rfl sc_law_cut.nd (pi_list (pv 2)) (blkOk_by (N := ["_law_values", "_law_value", "_law_some", "_law_places", "_law_number", "_law_part"]) (sc := defScope s_law_cut) (by decide +kernel)) (fun _ _ _ _ _ => pg_name (i := 4) sc_law_cut.nd rfl (Or.inl rfl)) (fun _ _ _ _ _ => pts_nil) (fun _ _ _ _ _ => (pe_tup (pa_cons (pe_ix (ixT (K := K) rfl) (pe_ix (ixT (K := K) rfl) (pv 0) (pv 4) (fun _ _ => rfl)) pe_int (fun _ _ => rfl)) (pa_cons (pe_callTy (tupOf (K := K) rfl) (by rfl) T.z_tuple (by decide +kernel) (pa_cons (pe_lc (own := [("_law_part", 5)]) (g := gName 5) (tt := tYes) rfl sc_law_cut.nd (piT (K := K) rfl (pe_ix (ixT (K := K) rfl) (pe_ix (ixT (K := K) rfl) (pv 0) (pv 4) (fun _ _ => rfl)) pe_int (fun _ _ => rfl))) (by show BlkOk _ (relS _ (defScope s_law_cut)) _ _; exact blkOk_by (N := ["_law_values", "_law_value", "_law_some", "_law_places", "_law_number", "_law_part"]) (by decide +kernel)) (fun _ _ _ _ _ => pg_name (i := 5) sc_law_cut.nd rfl (Or.inl rfl)) (fun _ _ _ _ _ => pts_nil) (fun _ _ _ _ _ => (pe_dget hu (pv 3) (pv 5) (fun _ _ => rfl)))) pa_nil)) pa_nil))))) pa_nil))))))), ?_⟩
  have nB := nodup_belowM (R := R) (v := v)
  have lB : (belowM R v).length ≤ 2000 := by
    have := belowM_len (R := R) (v := v)
    omega
  -- _law_some = _law_below(_law_values, _law_value)
  refine ⟨_, rfl, _, rfl, q, R, v, rfl, hR, g, hv, hz, fun tB H1 s1 _ hB => ?_⟩
  intro dP hP
  have nBd : tB ≠ dP := ne_of_none hB hP
  have hdH : H dP = none := s1.free hP
  refine ⟨_, rfl, tB, rfl, ⟨_, SqL.of (by rw [upd_ne nBd]; exact hB)⟩, for_list (K := K) (a := tB) (xs := (belowM R v).map nv) (fun i σ H' => ∃ v4, σ = [some (.ref q), some (nv v), some (.ref tB), some (.ref dP), v4, none] ∧ Same H1 H' ∧ H' dP = some (.dK (pl ((belowM R v).take i) 0)))
    ⟨none, rfl, same_new hP, upd_same⟩ (fun i σ H' _ z => ?_) ?_ ?_⟩
  · obtain ⟨_, _, s2, _⟩ := z
    exact SqL.of (s2 _ _ hB)
  · rintro i x σ H2 hx ⟨v4, rfl, s2, e2⟩
    rw [List.getElem?_map] at hx
    obtain ⟨x, hx2, rfl⟩ := Option.map_eq_some_iff.mp hx
    have hi : i < (belowM R v).length := (List.getElem?_eq_some_iff.mp hx2).1
    have hl : (pl ((belowM R v).take i) 0).length = i := by
      rw [pl_len, List.length_take]
      omega
    refine ⟨_, rfl, dP, _, rfl, e2, _, rfl, _, rfl, dP, _, rfl, DPut.k (k := ky x) e2 (lt_line (by omega)), ?_⟩
    refine ⟨_, rfl, fun b o e => ?_, ?_⟩
    · rw [upd_ne (ne_of_none e hP)]
      exact s2 b o e
    · rw [upd_same, hl]
      show some (HO.dK (putK (pl ((belowM R v).take i) 0) (ky x) (nv i))) = _
      rw [pl_put nB hx2]
  · rintro σ H2 ⟨v4, rfl, s2, e2⟩
    rw [List.length_map, List.take_length] at e2
    have s2' : Same H H2 := s1.trans s2
    refine ⟨_, rfl, tB, rfl, ⟨_, SqL.of (s2 _ _ hB)⟩, fun D hD => ?_⟩
    have hDH : H D = none := s2'.free hD
    have nDP : dP ≠ D := ne_of_none e2 hD
    refine lc_list (K := K) (a := tB) (xs := (belowM R v).map nv) (fun i H' => Same H2 H' ∧ ∃ us, H' D = some (.lst us) ∧ us.length = i ∧ ∀ j u, us[j]? = some u → RowV K H' u (rowAt (cutM R v) j)) ⟨same_new hD, [], upd_same, rfl, by simp⟩ (fun i H' _ z => SqL.of (z.1 _ _ (s2 _ _ hB))) ?_ ?_
    · intro i x H3 hx z
      obtain ⟨s3, us, eu, lu, ru⟩ := z
      rw [List.getElem?_map] at hx
      obtain ⟨n, hn, rfl⟩ := Option.map_eq_some_iff.mp hx
      have hi : i < (belowM R v).length := (List.getElem?_eq_some_iff.mp hn).1
      have hgd : (belowM R v).getD i 0 = n := by
        rw [gd hi]
        exact (List.getElem?_eq_some_iff.mp hn).2
      have hnB : n ∈ belowM R v := List.mem_of_getElem? hn
      have hnR : n < R.length := by
        have := belowM_lt g hnB
        omega
      have s3' : Same H H3 := s2'.trans s3
      have T3 : Tk H H3 := Tk.of s3'
      obtain ⟨y, hy, pr, qr, rfl, hr1, hr2⟩ := at_row hwl hrow hnR
      refine ⟨rfl, ?_⟩
      refine ⟨_, rfl, _, rfl, q, ws, _, _, rfl, rfl, T3.t hw, hy, pr, _, 0, _, rfl, rfl, T3.t hr1, rfl, ?_⟩
      refine ⟨_, rfl, _, rfl, q, ws, _, _, rfl, rfl, T3.t hw, hy, pr, _, 1, _, rfl, rfl, T3.t hr1, rfl, qr, rfl, ⟨_, T3.t hr2⟩, fun D2 hD2 => ?_⟩
      have nD1 : D ≠ D2 := ne_of_none eu hD2
      refine lc_tup (xs := (parts R n).map nv) (fun j H' => Same H3 H' ∧ H' D2 = some (.lst (((parts R n).take j).map fun x => nv ((belowM R v).idxOf x)))) ⟨same_new hD2, upd_same⟩ (fun j H' _ z => (Tk.of z.1).t (T3.t hr2)) (fun j x H4 hx z => ?_) (fun H4 z => ?_)
      · obtain ⟨s4, e4⟩ := z
        rw [List.getElem?_map] at hx
        obtain ⟨m, hm, rfl⟩ := Option.map_eq_some_iff.mp hx
        have hmB : m ∈ belowM R v := part_in g hnB (List.mem_of_getElem? hm)
        refine ⟨rfl, ?_⟩
        have dg := DGet.k (k := ky m) (s4 _ _ (s3 _ _ e2))
        rw [pl_val _ _ hmB, Nat.zero_add] at dg
        refine ⟨_, rfl, _, rfl, dP, _, rfl, dg, _, e4, lt_line (by rw [List.length_map, List.length_take]; have := parts_len g n; omega), fun b o e => ?_, ?_⟩
        · rw [upd_ne (ne_of_none e hD2)]
          exact s4 b o e
        · rw [upd_same, List.take_add_one, hm, List.map_append]
          rfl
      · obtain ⟨s4, e4⟩ := z
        rw [List.length_map, List.take_length] at e4
        refine ⟨D2, _, rfl, .inl ⟨SqL.of e4, fun t ht => ⟨by show 2 ≤ sizeLine; decide, fun c hc => ?_⟩⟩⟩
        have s5 : Same H3 (upd H4 t (.tup (List.map (fun x => nv ((belowM R v).idxOf x)) (parts R n)))) := s4.trans (same_new ht)
        have s6 : Same H3 (upd (upd H4 t (.tup (List.map (fun x => nv ((belowM R v).idxOf x)) (parts R n)))) c (.tup [nv (rowAt R n).1, .ref t])) := s5.trans (same_new hc)
        have nct : t ≠ c := ne_of_none upd_same hc
        have t7 : Tk (upd (upd H4 t (.tup (List.map (fun x => nv ((belowM R v).idxOf x)) (parts R n)))) c (.tup [nv (rowAt R n).1, .ref t])) (upd (upd (upd H4 t (.tup (List.map (fun x => nv ((belowM R v).idxOf x)) (parts R n)))) c (.tup [nv (rowAt R n).1, .ref t])) D (.lst (us ++ [.ref c]))) := tk_mut (s6 _ _ eu)
        refine ⟨us, s6 _ _ eu, lt_line (by omega), fun b o e => ?_, us ++ [.ref c], upd_same, by rw [List.length_append, lu]; rfl, fun j u hj => ?_⟩
        · rw [upd_ne (ne_of_none e hD)]
          exact s6 b o (s3 b o e)
        · by_cases hji : j < us.length
          · rw [List.getElem?_append_left hji] at hj
            exact (ru j u hj).tk ((Tk.of s6).trans t7)
          · have ej : j = i := by
              have := (List.getElem?_eq_some_iff.mp hj).1
              rw [List.length_append, List.length_singleton] at this
              omega
            subst ej
            rw [List.getElem?_append_right (by omega), lu, Nat.sub_self] at hj
            cases hj
            rw [cutM_row hi, hgd]
            refine ⟨c, t, rfl, t7.t (.inl (.inl upd_same)), t7.t (.inl (.inl ?_))⟩
            rw [upd_ne nct, upd_same, List.map_map]
            rfl
    · intro H3 z
      obtain ⟨s3, us, eu, lu, ru⟩ := z
      rw [List.length_map] at lu
      refine ⟨D, us, rfl, .inl ⟨SqL.of eu, fun t ht => ?_⟩⟩
      have s4 : Same H3 (upd H3 t (.tup us)) := same_new ht
      exact k t _ ((s2'.trans s3).trans s4) ((s2'.trans s3).free ht) ⟨us, .inl (.inl upd_same), by rw [lu, cutM_len], fun j u hj => (ru j u hj).tk (Tk.of s4)⟩
end
end Lk
namespace Lk
open PySem L2
/-! the bag of drawn numbers: a list at b, its great numbers at g -/
def BagAt (H : Hp) (b g : Addr) : Prop := ∃ (sd c : Int) (al : V) (gs : List Int), H b = some (.lst [.int sd, .int c, .ref g, al]) ∧ H g = some (.lst (gs.map V.int)) ∧ b ≠ g ∧ (al = .non ∨ ∃ n : Int, al = .int n ∧ 0 ≤ n)
/-- all but the bag stays -/
def Fb (b g : Addr) (H H' : Hp) : Prop := ∀ c o, c ≠ b → c ≠ g → H c = some o → H' c = some o
theorem Fb.refl {b g : Addr} (H : Hp) : Fb b g H H := fun _ _ _ _ h => h
theorem Fb.trans {b g : Addr} {H H1 H2 : Hp} (x : Fb b g H H1) (y : Fb b g H1 H2) : Fb b g H H2 := fun c o n m h => y c o n m (x c o n m h)
theorem Fb.of {b g : Addr} {H H' : Hp} (s : Same H H') : Fb b g H H' := fun c o _ _ h => s c o h
theorem Fb.tk {b g : Addr} {H H' : Hp} (B : BagAt H b g) (x : Fb b g H H') : Tk H H' := fun c o n h => by
  obtain ⟨_, _, _, _, h1, h2, _⟩ := B
  exact x c o (ne_of h h1 (n _)) (ne_of h h2 (n _)) h
theorem BagAt.same {b g : Addr} {H H' : Hp} (B : BagAt H b g) (s : Same H H') : BagAt H' b g := by
  obtain ⟨sd, c, al, gs, h1, h2, h3, h4⟩ := B
  exact ⟨sd, c, al, gs, s _ _ h1, s _ _ h2, h3, h4⟩
theorem BagAt.keep {b g l : Addr} {o : HO} {H : Hp} (B : BagAt H b g) (h1 : l ≠ b) (h2 : l ≠ g) : BagAt (upd H l o) b g := by
  obtain ⟨sd, c, al, gs, e1, e2, h3, h4⟩ := B
  exact ⟨sd, c, al, gs, by rw [upd_ne h1.symm]; exact e1, by rw [upd_ne h2.symm]; exact e2, h3, h4⟩
theorem fb_mutB {b g : Addr} {H : Hp} {o : HO} : Fb b g H (upd H b o) := fun c u n _ h => by
  rw [upd_ne n]
  exact h
theorem fb_mutG {b g : Addr} {H : Hp} {o : HO} : Fb b g H (upd H g o) := fun c u _ n h => by
  rw [upd_ne n]
  exact h
theorem mod_nat (x : Int) {m : Nat} (h : 0 < m) : ∃ r : Nat, x % (m : Int) = (r : Int) ∧ r < m := by
  have h1 := Int.emod_nonneg x (show (m : Int) ≠ 0 by omega)
  have h2 := Int.emod_lt_of_pos x (show (0 : Int) < (m : Int) by omega)
  exact ⟨(x % (m : Int)).toNat, by omega, by omega⟩
section
variable {P : Program} {w : World} {K : PySem.W.Frag} {mg : Str → Option Value} {base : Heap} {a : Adr}
def spPick : Sp := fun vs H Q _ => ∃ (b g : Addr) (m : Nat), vs = [.ref b, nv m] ∧ 0 < m ∧ m < 1073741824 ∧ BagAt H b g ∧ ∀ (r : Nat) H', r < m → BagAt H' b g → Fb b g H H' → Q (nv r) H'
theorem ok_law_pick (T : Txt K mg a) : FnOk P w K mg base CX0 1 a.f_law_pick a.d_law_pick ["_law_bag_here", "_law_many"] spPick := by
  refine T.F_law_pick.ok sc_law_pick (fun vs H Q E h => ?_) (fun cdv A outer s H vs Q E hr h => ?_)
  · obtain ⟨b, g, m, rfl, _⟩ := h
    rfl
  obtain ⟨b, g, m, rfl, hm0, hm1, B, k⟩ := h
  refine ⟨_, (pss_cons (ps_if (pt_cmpR op_notN (pe_ix ix_list (pv 0) pe_int (fun _ _ => rfl)) pe_non (nomark _))
    (pss_one (ps_ret (pe_op op_mod (pe_callTy call_int1 (by rfl) T.z_int (by decide +kernel) (pa_cons (pe_ix ix_list (pv 0) pe_int (fun _ _ => rfl)) pa_nil)) (pv 1))))
    pss_nil)
  (pss_cons (ps_asg (pe_op op_add (pe_ix ix_list (pv 0) pe_int (fun _ _ => rfl)) pe_int) (pg_sub (pv 0) pe_int set_list))
  (pss_cons (ps_set (i := 2) sc_law_pick.nd rfl (Or.inl rfl) (pe_ix ix_list (pv 0) pe_int (fun _ _ => rfl)))
  (pss_cons (ps_if (pt_cmpR op_gt (pe_callB call_len_seq (by rfl) T.z_len PySem.boot_len (pa_cons (pv 2) pa_nil)) pe_int (nomark _))
    (pss_cons (ps_set (i := 3) sc_law_pick.nd rfl (Or.inl rfl) (pe_op op_mod (pe_callTy call_int1 (by rfl) T.z_int (by decide +kernel) (pa_cons (pe_ix ix_list (pv 2) pe_int (fun _ _ => rfl)) pa_nil)) (pv 1)))
  (pss_cons (ps_asg (pe_op op_fdivN (pe_callTy call_int1 (by rfl) T.z_int (by decide +kernel) (pa_cons (pe_ix ix_list (pv 2) pe_int (fun _ _ => rfl)) pa_nil)) (pv 1)) (pg_sub (pv 2) pe_int set_list))
  (pss_cons (ps_if (pt_cmpR op_eq (pe_ix ix_list (pv 2) pe_int (fun _ _ => rfl)) pe_int (nomark _))
    (pss_one (ps_expr (pe_bm PySem.F.plainAttrs_list PySem.F.slot_list_pop PySem.F.type_list_pop mt_popAt (pv 2) (pa_cons pe_int pa_nil))))
    pss_nil)
  (pss_one (ps_ret (pv 3))))))
    pss_nil)
  (pss_cons (ps_set (i := 4) sc_law_pick.nd rfl (Or.inl rfl) (pe_op op_mod (pe_callTy call_int1 (by rfl) T.z_int (by decide +kernel) (pa_cons (pe_op op_mul (pe_op op_add (pe_ix ix_list (pv 0) pe_int (fun _ _ => rfl)) (pe_op op_mul pe_int (pe_ix ix_list (pv 0) pe_int (fun _ _ => rfl)))) pe_int) pa_nil)) pe_int))
  (pss_cons (ps_set (i := 4) sc_law_pick.nd rfl (Or.inl rfl) (pe_op op_mod (pe_callTy call_int1 (by rfl) T.z_int (by decide +kernel) (pa_cons (pe_op op_mul (pv 4) (pe_op op_add (pe_op op_fdivN (pv 4) pe_int) pe_int)) pa_nil)) pe_int))
  (pss_cons (ps_set (i := 4) sc_law_pick.nd rfl (Or.inl rfl) (pe_op op_mod (pe_callTy call_int1 (by rfl) T.z_int (by decide +kernel) (pa_cons (pe_op op_mul (pv 4) (pe_op op_add (pe_op op_fdivN (pv 4) pe_int) pe_int)) pa_nil)) pe_int))
  (pss_one (ps_ret (pe_op op_mod (pe_callTy call_int1 (by rfl) T.z_int (by decide +kernel) (pa_cons (pe_op op_fdivN (pv 4) pe_int) pa_nil)) (pv 1))))))))))), ?_⟩
  obtain ⟨sd, c, al, gs, hb, hg, nbg, hal⟩ := id B
  have hm : (0 : Int) < (m : Int) := by omega
  refine ⟨_, rfl, b, _, _, al, rfl, rfl, SqL.of hb, rfl, rfl, _, rfl, ?_⟩
  rcases hal with rfl | ⟨n, rfl, hn⟩
  · refine iteD (by decide) ?_
    -- bag[1] = bag[1] + 1
    refine ⟨_, rfl, b, _, 1, .int c, rfl, rfl, SqL.of hb, rfl, _, _, rfl, rfl, ?_⟩
    refine ⟨_, rfl, b, _, 1, 1, rfl, rfl, hb, rfl, ?_⟩
    have hb1 : upd H b (.lst ([.int sd, .int c, .ref g, .non].set 1 (.int (c + 1)))) b = some (.lst [.int sd, .int (c + 1), .ref g, .non]) := upd_same
    have hg1 : upd H b (.lst ([.int sd, .int c, .ref g, .non].set 1 (.int (c + 1)))) g = some (.lst (gs.map V.int)) := by
      rw [upd_ne nbg.symm]
      exact hg
    generalize hH1 : upd H b (.lst ([.int sd, .int c, .ref g, .non].set 1 (.int (c + 1)))) = H1 at hb1 hg1
    have f1 : Fb b g H H1 := hH1 ▸ fb_mutB
    refine ⟨_, rfl, b, _, 2, .ref g, rfl, rfl, SqL.of hb1, rfl, ?_⟩
    refine ⟨_, rfl, g, _, rfl, .inl (SqL.of hg1), _, _, rfl, rfl, _, rfl, ?_⟩
    cases gs with
    | nil =>
      refine iteD (by decide) ?_
      -- the seed and the count
      refine ⟨_, rfl, b, _, 0, .int sd, rfl, rfl, SqL.of hb1, rfl, ?_⟩
      refine ⟨_, rfl, b, _, 1, .int (c + 1), rfl, rfl, SqL.of hb1, rfl, _, _, rfl, rfl, .inl ⟨by decide, by decide⟩, ?_⟩
      refine ⟨_, _, rfl, rfl, _, _, rfl, rfl, .inr ⟨by decide, by decide⟩, .inl ⟨_, rfl, _, _, rfl, rfl, (by show (0 : Int) < 2147483647; decide), ?_⟩⟩
      refine ⟨_, rfl, _, rfl, _, _, rfl, rfl, ⟨by decide, by decide⟩, _, _, rfl, rfl, _, _, rfl, rfl, .inl ⟨by omega, by omega⟩, .inl ⟨_, rfl, _, _, rfl, rfl, (by show (0 : Int) < 2147483647; decide), ?_⟩⟩
      refine ⟨_, rfl, _, rfl, _, _, rfl, rfl, ⟨by decide, by decide⟩, _, _, rfl, rfl, _, _, rfl, rfl, .inl ⟨by omega, by omega⟩, .inl ⟨_, rfl, _, _, rfl, rfl, (by show (0 : Int) < 2147483399; decide), ?_⟩⟩
      refine ⟨_, rfl, _, _, rfl, rfl, ⟨by decide, by decide⟩, .inl ⟨_, rfl, _, rfl, _, _, rfl, rfl, hm, ?_⟩⟩
      exact (show ∀ y : Int, Q (.int (y % (m : Int))) H1 from fun y => by
        obtain ⟨r, e, hr⟩ := mod_nat y hm0
        rw [e]
        exact k r H1 hr ⟨sd, c + 1, .non, [], hb1, hg1, nbg, .inl rfl⟩ f1) _
    | cons x gs =>
      refine iteC (by simp) ?_
      -- a digit of the first great number
      refine ⟨_, rfl, g, _, 0, .int x, rfl, rfl, SqL.of hg1, atI_nat (j := 0) rfl, .inl ⟨_, rfl, _, rfl, _, _, rfl, rfl, hm, ?_⟩⟩
      refine ⟨_, rfl, g, _, 0, .int x, rfl, rfl, SqL.of hg1, atI_nat (j := 0) rfl, .inl ⟨_, rfl, _, rfl, _, _, rfl, rfl, ⟨by omega, by omega⟩, ?_⟩⟩
      refine ⟨_, rfl, g, _, 0, 0, rfl, rfl, hg1, by simp [ixN], ?_⟩
      have hg2 : upd H1 g (.lst (((x :: gs).map V.int).set 0 (.int (x.fdiv (m : Int))))) g = some (.lst ((x.fdiv (m : Int) :: gs).map V.int)) := upd_same
      have hb2 : upd H1 g (.lst (((x :: gs).map V.int).set 0 (.int (x.fdiv (m : Int))))) b = some (.lst [.int sd, .int (c + 1), .ref g, .non]) := by
        rw [upd_ne nbg]
        exact hb1
      have f2 : Fb b g H (upd H1 g (.lst (((x :: gs).map V.int).set 0 (.int (x.fdiv (m : Int)))))) := f1.trans fb_mutG
      obtain ⟨r, e, hr⟩ := mod_nat x hm0
      refine ⟨_, rfl, g, _, 0, .int (x.fdiv (m : Int)), rfl, rfl, SqL.of hg2, atI_nat (j := 0) rfl, rfl, _, rfl, ?_⟩
      refine ite2 (fun _ => ?_) (fun _ => ?_)
      · refine ⟨_, rfl, .inl ⟨rfl, _, SqL.of hg2⟩, g, _, 0, 0, _, rfl, rfl, hg2, by decide, by decide, ?_, rfl, ?_⟩
        · simp [PySem.seqIndex?]
        · refine ⟨_, rfl, ?_⟩
          show Q (.int (x % (m : Int))) _
          rw [e]
          refine k r _ hr ⟨sd, c + 1, .non, gs, ?_, upd_same, nbg, .inl rfl⟩ (f2.trans fb_mutG)
          rw [upd_ne nbg]
          exact hb2
      · refine ⟨_, rfl, ?_⟩
        show Q (.int (x % (m : Int))) _
        rw [e]
        exact k r _ hr ⟨sd, c + 1, .non, x.fdiv (m : Int) :: gs, hb2, hg2, nbg, .inl rfl⟩ f2
  · refine iteC (by simp) ?_
    refine ⟨_, rfl, b, _, 3, .int n, rfl, rfl, SqL.of hb, rfl, .inl ⟨n, rfl, ?_⟩⟩
    refine ⟨_, rfl, _, _, rfl, rfl, hm, ?_⟩
    obtain ⟨r, e, hr⟩ := mod_nat n hm0
    show Q (.int (n % (m : Int))) H
    rw [e]
    exact k r H hr B (Fb.refl H)
end
end Lk
namespace Lk
open PySem L2
theorem cut_ints (ns : List Int) (lo hi : Option Int) : ∃ ms : List Int, cutV (ns.map V.int) lo hi = ms.map V.int ∧ ms.length ≤ ns.length := by
  unfold cutV
  refine ⟨(ns.drop (HT.sIx (ns.map V.int).length 0 lo)).take (HT.sIx (ns.map V.int).length (ns.map V.int).length hi - HT.sIx (ns.map V.int).length 0 lo), ?_, ?_⟩
  · rw [List.map_take, List.map_drop]
  · rw [List.length_take, List.length_drop]
    omega
section
variable {P : Program} {w : World} {K : PySem.W.Frag} {mg : Str → Option Value} {base : Heap} {a : Adr}
def spBag (K : PySem.W.Frag) : Sp := fun vs H Q _ => ∃ (p : Addr) (ns : List Int), vs = [.ref p] ∧ SqL K H p (ns.map V.int) ∧ ns.length ≤ 63 ∧ ∀ b g H', Same H H' → H b = none → H g = none → BagAt H' b g → Q (.ref b) H'
theorem ok_law_bag (T : Txt K mg a) : FnOk P w K mg base CX0 1 a.f_law_bag a.d_law_bag ["_law_script"] (spBag K) := by
  refine T.F_law_bag.ok sc_law_bag (fun vs H Q E h => ?_) (fun cdv A outer s H vs Q E hr h => ?_)
  · obtain ⟨b, ns, rfl, _⟩ := h
    rfl
  obtain ⟨p, ns, rfl, hS, hn, k⟩ := h
  refine ⟨_, (pss_cons (ps_set (i := 1) sc_law_bag.nd rfl (Or.inl rfl) (pe_op op_add pe_int (pe_callB call_len_seq (by rfl) T.z_len PySem.boot_len (pa_cons (pv 0) pa_nil))))
  (pss_cons (ps_for PassesOwn.never rfl (pi_list (pe_slice sl_list (pv 0) po_none (po_some pe_int))) (pg_name (i := 2) sc_law_bag.nd rfl (Or.inl rfl))
    (pss_one (ps_set (i := 1) sc_law_bag.nd rfl (Or.inl rfl) (pe_op op_mod (pe_callTy call_int1 (by rfl) T.z_int (by decide +kernel) (pa_cons (pe_op op_add (pe_op op_add (pe_op op_mul (pv 1) pe_int) (pe_op op_mod (pe_callTy call_int1 (by rfl) T.z_int (by decide +kernel) (pa_cons (pv 2) pa_nil)) pe_int)) pe_int) pa_nil)) pe_int))))
  (pss_cons (ps_setLc (i := 3) (own := [("_law_cell", 2)]) (g := gName 2) (tt := _) rfl sc_law_bag.nd rfl rfl (sw_true rfl rfl rfl (by decide +kernel)) (pi_list (pe_slice sl_list (pv 0) po_none (po_some pe_int))) (blkOk_by (N := ["_law_script", "_law_seed", "_law_cell", "_law_great", "_law_always"]) (sc := defScope s_law_bag) (by decide +kernel)) (fun _ _ _ _ _ => pg_name (i := 2) sc_law_bag.nd rfl (Or.inl rfl)) (fun _ _ _ _ _ => (pts_one (pt_cmpR op_ge (pe_callB call_abs (by rfl) T.z_abs (by decide +kernel) (pa_cons (pe_callTy call_int1 (by rfl) T.z_int (by decide +kernel) (pa_cons (pv 2) pa_nil)) pa_nil)) (pe_op op_pow pe_int pe_int) (nomark _)))) (fun _ _ _ _ _ => (pe_callB call_abs (by rfl) T.z_abs (by decide +kernel) (pa_cons (pe_callTy call_int1 (by rfl) T.z_int (by decide +kernel) (pa_cons (pv 2) pa_nil)) pa_nil))))
  (pss_cons (ps_set (i := 4) sc_law_bag.nd rfl (Or.inl rfl) pe_non)
  (pss_cons (ps_if (PW.pt (pw_and (pt_cmpR op_lt (pe_callB call_len_seq (by rfl) T.z_len PySem.boot_len (pa_cons (pv 0) pa_nil)) pe_int (nomark _)) (pw_and1 (pt_cmpR op_eq (pe_callB call_len_seq (by rfl) T.z_len PySem.boot_len (pa_cons (pv 3) pa_nil)) pe_int (nomark _)))))
    (pss_one (ps_set (i := 4) sc_law_bag.nd rfl (Or.inl rfl) (pe_callB call_abs (by rfl) T.z_abs (by decide +kernel) (pa_cons (pe_callB (cr_sum rfl) (by rfl) T.z_sum (by decide +kernel) (pa_cons (pe_lc (own := [("_law_cell", 2)]) (g := gName 2) (tt := tYes) rfl sc_law_bag.nd (pi_list (pv 0)) (blkOk_by (N := ["_law_script", "_law_seed", "_law_cell", "_law_great", "_law_always"]) (sc := defScope s_law_bag) (by decide +kernel)) (fun _ _ _ _ _ => pg_name (i := 2) sc_law_bag.nd rfl (Or.inl rfl)) (fun _ _ _ _ _ => pts_nil) (fun _ _ _ _ _ => (pe_callTy call_int1 (by rfl) T.z_int (by decide +kernel) (pa_cons (pv 2) pa_nil)))) pa_nil)) pa_nil))))
    pss_nil)
  (pss_one (ps_ret (pe_lst (pa_cons (pv 1) (pa_cons pe_int (pa_cons (pv 3) (pa_cons (pv 4) pa_nil)))))))))))), ?_⟩
  refine ⟨_, rfl, p, _, rfl, .inl hS, _, _, rfl, rfl, ?_⟩
  obtain ⟨ms, hms, lms⟩ := cut_ints ns none (some 63)
  refine ⟨_, rfl, _, rfl, p, _, rfl, hS, fun s1 hs1 => ?_⟩
  rw [hms]
  have S1 : Same H (upd H s1 (.lst (ms.map V.int))) := same_new hs1
  -- for cell in script[:63]
  refine ⟨s1, rfl, ⟨_, SqL.of upd_same⟩, for_list (K := K) (a := s1) (xs := ms.map V.int) (fun i σ H' => ∃ (sd : Int) (v2 : Option V), σ = [some (.ref p), some (.int sd), v2, none, none] ∧ Same (upd H s1 (.lst (ms.map V.int))) H') ⟨_, none, rfl, Same.refl _⟩ (fun i σ H' _ z => ?_) ?_ ?_⟩
  · obtain ⟨_, _, _, z⟩ := z
    exact SqL.of (z _ _ upd_same)
  · rintro i x σ H1 hx ⟨sd, v2, rfl, z⟩
    rw [List.getElem?_map] at hx
    obtain ⟨x, hx2, rfl⟩ := Option.map_eq_some_iff.mp hx
    refine ⟨_, rfl, _, _, rfl, rfl, .inr ⟨by decide, by decide⟩, _, rfl, .inl ⟨_, rfl, _, _, rfl, rfl, (by show (0 : Int) < 1000003; decide), _, _, rfl, rfl, _, _, rfl, rfl, .inl ⟨_, rfl, _, _, rfl, rfl, (by show (0 : Int) < 2147483647; decide), ?_⟩⟩⟩
    exact ⟨_, _, rfl, z⟩
  rintro σ H1 ⟨sd, v2, rfl, z1⟩
  have S2 : Same H H1 := S1.trans z1
  -- great = [..]
  refine ⟨_, rfl, _, rfl, p, _, rfl, S2.seq hS, fun s2 hs2 => ?_⟩
  rw [hms]
  refine ⟨s2, rfl, ⟨_, SqL.of upd_same⟩, fun g hg => ?_⟩
  have S3 : Same H (upd H1 s2 (.lst (ms.map V.int))) := S2.trans (same_new hs2)
  have hgH : H g = none := S3.free hg
  refine lc_list (K := K) (a := s2) (xs := ms.map V.int) (fun i H' => Same (upd H1 s2 (.lst (ms.map V.int))) H' ∧ ∃ gs : List Int, H' g = some (.lst (gs.map V.int)) ∧ gs.length ≤ i) ⟨same_new hg, [], upd_same, Nat.le_refl _⟩ (fun i H' _ z => SqL.of (z.1 _ _ upd_same)) ?_ ?_
  · intro i x H2 hx z
    obtain ⟨z, gs, eg, lg⟩ := z
    rw [List.getElem?_map] at hx
    obtain ⟨x, hx2, rfl⟩ := Option.map_eq_some_iff.mp hx
    have hi : i < ms.length := (List.getElem?_eq_some_iff.mp hx2).1
    refine ⟨rfl, ?_⟩
    refine ⟨_, rfl, .inl ⟨_, rfl, _, rfl, _, _, rfl, rfl, ⟨by decide, by decide, by decide⟩, _, _, rfl, rfl, _, rfl, ?_⟩⟩
    refine ite2 (fun _ => ?_) (fun _ => ⟨z, gs, eg, by omega⟩)
    refine ⟨_, rfl, .inl ⟨_, rfl, _, rfl, _, eg, lt_line (by rw [List.length_map]; omega), fun b o e => ?_, gs ++ [if x < 0 then -x else x], ?_, ?_⟩⟩
    · rw [upd_ne (ne_of_none e hg)]
      exact z b o e
    · rw [upd_same, List.map_append]
      rfl
    · rw [List.length_append, List.length_singleton]
      omega
  intro H2 z
  obtain ⟨z2, gs, eg, lg⟩ := z
  have S4 : Same H H2 := S3.trans z2
  have fin : ∀ (H3 : Hp) (al : V), Same H2 H3 → (al = .non ∨ ∃ n : Int, al = .int n ∧ 0 ≤ n) → tRet (tLst (tCons (tVar 1) (tCons (tC (.int 1)) (tCons (tVar 3) (tCons (tVar 4) tNil))))) { nx := fun _ H' => Q .non H', rt := Q } [some (.ref p), some (.int sd), v2, some (.ref g), some al] H3 := by
    intro H3 al z3 hal
    refine ⟨_, rfl, _, rfl, _, rfl, by show 4 ≤ sizeLine; decide, fun b hb => ?_⟩
    have S5 : Same H H3 := S4.trans z3
    have ngb : g ≠ b := ne_of_none (z3 _ _ eg) hb
    exact k b g _ (S5.trans (same_new hb)) (S5.free hb) hgH ⟨sd, 1, al, gs, upd_same, by rw [upd_ne ngb]; exact z3 _ _ eg, ngb.symm, hal⟩
  -- always = None
  refine ⟨_, rfl, p, _, rfl, .inl (S4.seq hS), _, _, rfl, rfl, _, rfl, ?_⟩
  refine ite2 (fun _ => ?_) (fun _ => fin H2 .non (Same.refl _) (.inl rfl))
  refine ⟨_, rfl, g, _, rfl, .inl (SqL.of eg), rfl, _, rfl, ?_⟩
  refine ite2 (fun _ => ?_) (fun _ => fin H2 .non (Same.refl _) (.inl rfl))
  refine ⟨_, rfl, p, rfl, ⟨_, S4.seq hS⟩, fun D hD => ?_⟩
  refine lc_list (K := K) (a := p) (xs := ns.map V.int) (fun i H' => Same H2 H' ∧ H' D = some (.lst ((ns.take i).map V.int))) ⟨same_new hD, upd_same⟩ (fun i H' _ z => (S4.trans z.1).seq hS) ?_ ?_
  · intro i x H3 hx z
    obtain ⟨z, e⟩ := z
    rw [List.getElem?_map] at hx
    obtain ⟨x, hx2, rfl⟩ := Option.map_eq_some_iff.mp hx
    refine ⟨rfl, ?_⟩
    refine ⟨_, rfl, .inl ⟨_, rfl, _, e, lt_line (by rw [List.length_map, List.length_take]; omega), fun b o h => ?_, ?_⟩⟩
    · rw [upd_ne (ne_of_none h hD)]
      exact z b o h
    · rw [upd_same, List.take_add_one, hx2, List.map_append]
      rfl
  · intro H3 z
    obtain ⟨z, e⟩ := z
    rw [List.length_map, List.take_length] at e
    refine ⟨D, ns, rfl, SqL.of e, _, rfl, ?_⟩
    refine fin H3 _ z (.inr ⟨_, rfl, ?_⟩)
    split <;> omega
end
end Lk
namespace Lk
open PySem L2
theorem ixS {K : PySem.W.Frag} {X : Cx} (h : X.K = K) : IxR X (rIx K) := by
  subst h
  exact ix_seq
/-- data without dicts, of so many storeys -/
def okd : Nat → PyData → Prop
  | 0, _ => False
  | n + 1, d => match d with
    | .none | .bool _ | .int _ | .str _ => True
    | .tuple ds | .list ds => ds.length ≤ 100000 ∧ ∀ e ∈ ds, okd n e
    | .dict _ => False
variable {K : PySem.W.Frag}
theorem tyL {H : Hp} {p : Addr} {xs : List V} (h : SqL K H p xs) : TyX K H (.ref p) (.type "list") := by
  rcases h with (h | ⟨o, h⟩) | ⟨o, _, _, e, c, _⟩
  · exact .base (.lst h)
  · exact .base (.frz h)
  · exact .kList e c
theorem dpAll_len {H : Hp} : ∀ {vs : List V} {ds : List PyData}, DpAll K H vs ds → vs.length = ds.length
  | _, _, .nil => rfl
  | _, _, .cons _ r => congrArg (· + 1) (dpAll_len r)
theorem dpAll_at {H : Hp} : ∀ {vs : List V} {ds : List PyData} {i : Nat}, DpAll K H vs ds → i < ds.length → ∃ v d, vs[i]? = some v ∧ ds[i]? = some d ∧ Dp K H v d
  | _, _, i, .nil, h => absurd h (Nat.not_lt_zero i)
  | _, _, 0, .cons h _, _ => ⟨_, _, rfl, rfl, h⟩
  | _, _, i + 1, .cons _ r, h => by
    obtain ⟨v, d, h1, h2, h3⟩ := dpAll_at (i := i) r (Nat.lt_of_succ_lt_succ h)
    exact ⟨v, d, by simpa using h1, by simpa using h2, h3⟩
mutual
theorem dp_tk {H H' : Hp} (s : Same H H') : ∀ {v : V} {d : PyData}, Dp K H v d → Dp K H' v d
  | _, _, .non => .non
  | _, _, .bl b => .bl b
  | _, _, .int i => .int i
  | _, _, .str x => .str x
  | _, _, .lst h r => .lst (s.seq h) (dpAll_tk s r)
  | _, _, .tup h r => .tup ((Tk.of s).t h) (dpAll_tk s r)
theorem dpAll_tk {H H' : Hp} (s : Same H H') : ∀ {vs : List V} {ds : List PyData}, DpAll K H vs ds → DpAll K H' vs ds
  | _, _, .nil => .nil
  | _, _, .cons h r => .cons (dp_tk s h) (dpAll_tk s r)
end
section
variable {P : Program} {w : World} {mg : Str → Option Value} {base : Heap} {a : Adr}
def spSame (K : PySem.W.Frag) (n : Nat) : Sp := fun vs H Q _ => ∃ (v u : V) (d : PyData), vs = [v, u] ∧ Dp K H v d ∧ Dp K H u d ∧ okd n d ∧ ∀ H', Same H H' → Q (.bl true) H'
theorem ok_law_same0 {f : Addr} {fd : FuncData} {ps : List Str} : FnOk P w K mg base CX0 0 f fd ps (spSame K 0) := by
  have no : ∀ vs H Q E, ¬ spSame K 0 vs H Q E := fun vs H Q E h => by
    obtain ⟨v, u, d, _, _, _, h1, _⟩ := h
    exact h1
  exact ⟨fun vs H Q E h => absurd h (no vs H Q E), fun A outer s H args us vs Q E _ _ _ _ h => absurd h (no vs H Q E)⟩
theorem ok_law_same1 (T : Txt K mg a) {n : Nat} (G : FnOk P w K mg base CX0 n a.f_law_same a.d_law_same ["_law_told", "_law_due"] (spSame K n)) : FnOk P w K mg base CX0 (n + 1) a.f_law_same a.d_law_same ["_law_told", "_law_due"] (spSame K (n + 1)) := by
  refine T.F_law_same.ok sc_law_same (fun vs H Q E h => ?_) (fun cdv A outer s H vs Q E hr h => ?_)
  · obtain ⟨v, u, d, rfl, _⟩ := h
    rfl
  obtain ⟨v, u, d, rfl, h1, h2, hd, k⟩ := h
  refine ⟨_, (pss_cons (ps_if (PW.pt (pw_or (pt_val (pe_callB call_isi (by rfl) T.z_isinstance (by decide +kernel) (pa_cons (pv 1) (pa_cons (pe_bltn (v := .ty "tuple") rfl T.z_tuple (show bootBuiltins "tuple" = some (.type "tuple") by decide +kernel) rfl) pa_nil)))) (pw_or1 (pt_val (pe_callB call_isi (by rfl) T.z_isinstance (by decide +kernel) (pa_cons (pv 1) (pa_cons (pe_bltn (v := .ty "list") rfl T.z_list (show bootBuiltins "list" = some (.type "list") by decide +kernel) rfl) pa_nil)))))))
      (pss_cons (ps_if (PW.pt (pw_or (pt_cmpR op_ne (pe_callB call_isi (by rfl) T.z_isinstance (by decide +kernel) (pa_cons (pv 0) (pa_cons (pe_bltn (v := .ty "tuple") rfl T.z_tuple (show bootBuiltins "tuple" = some (.type "tuple") by decide +kernel) rfl) pa_nil))) (pe_callB call_isi (by rfl) T.z_isinstance (by decide +kernel) (pa_cons (pv 1) (pa_cons (pe_bltn (v := .ty "tuple") rfl T.z_tuple (show bootBuiltins "tuple" = some (.type "tuple") by decide +kernel) rfl) pa_nil))) (nomark _)) (pw_or1 (pt_cmpR op_ne (pe_callB call_isi (by rfl) T.z_isinstance (by decide +kernel) (pa_cons (pv 0) (pa_cons (pe_bltn (v := .ty "list") rfl T.z_list (show bootBuiltins "list" = some (.type "list") by decide +kernel) rfl) pa_nil))) (pe_callB call_isi (by rfl) T.z_isinstance (by decide +kernel) (pa_cons (pv 1) (pa_cons (pe_bltn (v := .ty "list") rfl T.z_list (show bootBuiltins "list" = some (.type "list") by decide +kernel) rfl) pa_nil))) (nomark _)))))
      (pss_one (ps_ret pe_bl))
      pss_nil)
    (pss_one (ps_ret (pe_and (pe_cmpR op_eq (pe_callB call_len_seq (by rfl) T.z_len PySem.boot_len (pa_cons (pv 0) pa_nil)) (pe_callB call_len_seq (by rfl) T.z_len PySem.boot_len (pa_cons (pv 1) pa_nil)) (nomark _)) (pe_one (pe_callB (cr_all rfl) (by rfl) T.z_all (by decide +kernel) (pa_cons (pe_lc (own := [("_law_k", 2)]) (g := gName 2) (tt := tYes) rfl sc_law_same.nd (pi_range1 rfl T.z_range (pa_cons (pe_callB call_len_seq (by rfl) T.z_len PySem.boot_len (pa_cons (pv 1) pa_nil)) pa_nil)) (blkOk_by (N := ["_law_told", "_law_due", "_law_k"]) (sc := defScope s_law_same) (by decide +kernel)) (fun _ _ _ _ _ => pg_name (i := 2) sc_law_same.nd rfl (Or.inl rfl)) (fun _ _ _ _ _ => pts_nil) (fun _ _ _ _ _ => (pe_call G hr rfl T.g_law_same T.k_law_same T.b_law_same .nil pass0 (pa_cons (pe_ix (ixS (K := K) rfl) (pv 0) (pv 2) (fun _ _ => rfl)) (pa_cons (pe_ix (ixS (K := K) rfl) (pv 1) (pv 2) (fun _ _ => rfl)) pa_nil))))) pa_nil)))))))
      pss_nil)
    (pss_cons (ps_if (pt_cmpR op_isN (pv 1) pe_non (nomark _))
      (pss_one (ps_ret (pe_cmpR op_isN (pv 0) pe_non (nomark _))))
      pss_nil)
    (pss_cons (ps_if (pt_val (pe_callB call_isi (by rfl) T.z_isinstance (by decide +kernel) (pa_cons (pv 1) (pa_cons (pe_bltn (v := .ty "bool") rfl T.z_bool (show bootBuiltins "bool" = some (.type "bool") by decide +kernel) rfl) pa_nil))))
      (pss_one (ps_ret (pe_and (pe_callB call_isi (by rfl) T.z_isinstance (by decide +kernel) (pa_cons (pv 0) (pa_cons (pe_bltn (v := .ty "bool") rfl T.z_bool (show bootBuiltins "bool" = some (.type "bool") by decide +kernel) rfl) pa_nil))) (pe_one (pe_cmpR op_eq (pv 0) (pv 1) (nomark _))))))
      pss_nil)
    (pss_cons (ps_if (pt_val (pe_callB call_isi (by rfl) T.z_isinstance (by decide +kernel) (pa_cons (pv 1) (pa_cons (pe_bltn (v := .ty "int") rfl T.z_int (show bootBuiltins "int" = some (.type "int") by decide +kernel) rfl) pa_nil))))
      (pss_one (ps_ret (pe_and (pe_callB call_isi (by rfl) T.z_isinstance (by decide +kernel) (pa_cons (pv 0) (pa_cons (pe_bltn (v := .ty "int") rfl T.z_int (show bootBuiltins "int" = some (.type "int") by decide +kernel) rfl) pa_nil))) (pe_and (pe_not (pe_callB call_isi (by rfl) T.z_isinstance (by decide +kernel) (pa_cons (pv 0) (pa_cons (pe_bltn (v := .ty "bool") rfl T.z_bool (show bootBuiltins "bool" = some (.type "bool") by decide +kernel) rfl) pa_nil)))) (pe_one (pe_cmpR op_eq (pv 0) (pv 1) (nomark _)))))))
      pss_nil)
    (pss_one (ps_ret (pe_and (pe_callB call_isi (by rfl) T.z_isinstance (by decide +kernel) (pa_cons (pv 0) (pa_cons (pe_bltn (v := .ty "str") rfl T.z_str (show bootBuiltins "str" = some (.type "str") by decide +kernel) rfl) pa_nil))) (pe_one (pe_cmpR op_eq (pv 0) (pv 1) (nomark _)))))))))), ?_⟩
  cases h1 with
  | non =>
    cases h2
    refine ⟨_, rfl, _, .ty "tuple", _, _, false, rfl, .ty "tuple", .base .non, kit_ty (by decide +kernel), false, rfl, ?_⟩
    refine iteF ?_
    refine ⟨_, rfl, _, .ty "list", _, _, false, rfl, .ty "list", .base .non, kit_ty (by decide +kernel), false, rfl, ?_⟩
    refine iteF ?_
    refine ⟨_, rfl, rfl, _, rfl, ?_⟩
    refine iteC (by decide) ?_
    exact ⟨_, rfl, rfl, k H (Same.refl H)⟩
  | bl b =>
    cases h2
    refine ⟨_, rfl, _, .ty "tuple", _, _, false, rfl, .ty "tuple", .base (.bl b), kit_ty (by decide +kernel), false, rfl, ?_⟩
    refine iteF ?_
    refine ⟨_, rfl, _, .ty "list", _, _, false, rfl, .ty "list", .base (.bl b), kit_ty (by decide +kernel), false, rfl, ?_⟩
    refine iteF ?_
    refine ⟨_, rfl, rfl, _, rfl, ?_⟩
    refine iteD (by simp) ?_
    refine ⟨_, rfl, _, .ty "bool", _, _, true, rfl, .ty "bool", .base (.bl b), kit_ty (by decide +kernel), true, rfl, ?_⟩
    refine iteT ?_
    refine ⟨_, rfl, _, .ty "bool", _, _, true, rfl, .ty "bool", .base (.bl b), kit_ty (by decide +kernel), true, rfl, ?_⟩
    refine iteT ?_
    refine ⟨_, rfl, _, rfl, rfl, ?_⟩
    rw [show decide (V.bl b = V.bl b) = true from decide_eq_true rfl]
    exact k H (Same.refl H)
  | int i =>
    cases h2
    refine ⟨_, rfl, _, .ty "tuple", _, _, false, rfl, .ty "tuple", .base (.int i), kit_ty (by decide +kernel), false, rfl, ?_⟩
    refine iteF ?_
    refine ⟨_, rfl, _, .ty "list", _, _, false, rfl, .ty "list", .base (.int i), kit_ty (by decide +kernel), false, rfl, ?_⟩
    refine iteF ?_
    refine ⟨_, rfl, rfl, _, rfl, ?_⟩
    refine iteD (by simp) ?_
    refine ⟨_, rfl, _, .ty "bool", _, _, false, rfl, .ty "bool", .base (.int i), kit_ty (by decide +kernel), false, rfl, ?_⟩
    refine iteF ?_
    refine ⟨_, rfl, _, .ty "int", _, _, true, rfl, .ty "int", .base (.int i), kit_ty (by decide +kernel), true, rfl, ?_⟩
    refine iteT ?_
    refine ⟨_, rfl, _, .ty "int", _, _, true, rfl, .ty "int", .base (.int i), kit_ty (by decide +kernel), true, rfl, ?_⟩
    refine iteT ?_
    refine ⟨_, rfl, _, .ty "bool", _, _, false, rfl, .ty "bool", .base (.int i), kit_ty (by decide +kernel), false, rfl, ?_⟩
    refine ⟨_, rfl, iteT ?_⟩
    refine ⟨_, rfl, _, rfl, rfl, ?_⟩
    rw [show decide (V.int i = V.int i) = true from decide_eq_true rfl]
    exact k H (Same.refl H)
  | str x =>
    cases h2
    refine ⟨_, rfl, _, .ty "tuple", _, _, false, rfl, .ty "tuple", .base (.str x), kit_ty (by decide +kernel), false, rfl, ?_⟩
    refine iteF ?_
    refine ⟨_, rfl, _, .ty "list", _, _, false, rfl, .ty "list", .base (.str x), kit_ty (by decide +kernel), false, rfl, ?_⟩
    refine iteF ?_
    refine ⟨_, rfl, rfl, _, rfl, ?_⟩
    refine iteD (by simp) ?_
    refine ⟨_, rfl, _, .ty "bool", _, _, false, rfl, .ty "bool", .base (.str x), kit_ty (by decide +kernel), false, rfl, ?_⟩
    refine iteF ?_
    refine ⟨_, rfl, _, .ty "int", _, _, false, rfl, .ty "int", .base (.str x), kit_ty (by decide +kernel), false, rfl, ?_⟩
    refine iteF ?_
    refine ⟨_, rfl, _, .ty "str", _, _, true, rfl, .ty "str", .base (.str x), kit_ty (by decide +kernel), true, rfl, ?_⟩
    refine iteT ?_
    refine ⟨_, rfl, _, rfl, rfl, ?_⟩
    rw [show decide (V.str x = V.str x) = true from decide_eq_true rfl]
    exact k H (Same.refl H)
  | lst h r =>
    rename_i p xs ds
    cases h2 with
    | lst h' r' =>
    rename_i p' xs'
    obtain ⟨hlen, hall⟩ := hd
    have e1 : xs.length = ds.length := dpAll_len r
    have e2 : xs'.length = ds.length := dpAll_len r'
    refine ⟨_, rfl, _, .ty "tuple", _, _, false, rfl, .ty "tuple", tyL h', kit_ty (by decide +kernel), false, rfl, ?_⟩
    refine iteF ?_
    refine ⟨_, rfl, _, .ty "list", _, _, true, rfl, .ty "list", tyL h', kit_ty (by decide +kernel), true, rfl, ?_⟩
    refine iteT ?_
    refine ⟨_, rfl, _, .ty "tuple", _, _, false, rfl, .ty "tuple", tyL h, kit_ty (by decide +kernel), _, rfl, _, .ty "tuple", _, _, false, rfl, .ty "tuple", tyL h', kit_ty (by decide +kernel), rfl, _, rfl, iteD (by decide) ?_⟩
    refine ⟨_, rfl, _, .ty "list", _, _, true, rfl, .ty "list", tyL h, kit_ty (by decide +kernel), _, rfl, _, .ty "list", _, _, true, rfl, .ty "list", tyL h', kit_ty (by decide +kernel), rfl, _, rfl, iteD (by decide) ?_⟩
    refine ⟨_, rfl, p, xs, rfl, .inl h, _, rfl, p', xs', rfl, .inl h', rfl, _, rfl, iteC (by rw [e1, e2]; simp) ?_⟩
    refine ⟨_, rfl, p', xs', rfl, .inl h', _, rfl, by omega, by omega, fun D hD => ?_⟩
    refine lc_range (lo := 0) (n := (xs'.length : Int).toNat) (fun i H' => Same H H' ∧ H' D = some (.lst ((List.replicate i true).map V.bl))) ⟨same_new hD, upd_same⟩ (fun i H1 hi z => ?_) (fun H1 z => ?_)
    · obtain ⟨s1, ed⟩ := z
      have hi' : i < ds.length := by omega
      obtain ⟨x, d1, g1, g2, g3⟩ := dpAll_at r hi'
      obtain ⟨y, d2, g4, g5, g6⟩ := dpAll_at r' hi'
      have ee : d1 = d2 := Option.some.inj (g2.symm.trans g5)
      subst ee
      have e0 : (0 : Int) + (i : Nat) = ((i : Nat) : Int) := by omega
      rw [e0]
      refine ⟨rfl, ?_⟩
      refine ⟨_, rfl, _, rfl, .inl ⟨p, xs, _, x, rfl, rfl, s1.seq h, atI_nat g1, ?_⟩⟩
      refine ⟨_, rfl, _, rfl, .inl ⟨p', xs', _, y, rfl, rfl, s1.seq h', atI_nat g4, ?_⟩⟩
      refine ⟨x, y, d1, rfl, dp_tk s1 g3, dp_tk s1 g6, hall d1 (List.mem_of_getElem? g2), fun H2 s2 => ?_⟩
      refine ⟨_, s2 _ _ ed, lt_line (by rw [List.length_map, List.length_replicate]; omega), fun b o e => ?_, ?_⟩
      · rw [upd_ne (ne_of_none e hD)]
        exact s2 b o (s1 b o e)
      · rw [upd_same, List.replicate_succ', List.map_append]
        rfl
    · refine ⟨D, _, rfl, SqL.of z.2, ?_⟩
      rw [show (List.replicate ((xs'.length : Int).toNat) true).all id = true by simp]
      exact k H1 z.1
  | tup h r =>
    rename_i p xs ds
    cases h2 with
    | tup h' r' =>
    rename_i p' xs'
    obtain ⟨hlen, hall⟩ := hd
    have e1 : xs.length = ds.length := dpAll_len r
    have e2 : xs'.length = ds.length := dpAll_len r'
    refine ⟨_, rfl, _, .ty "tuple", _, _, true, rfl, .ty "tuple", tyT h', kit_ty (by decide +kernel), true, rfl, ?_⟩
    refine iteT ?_
    refine iteT ?_
    refine ⟨_, rfl, _, .ty "tuple", _, _, true, rfl, .ty "tuple", tyT h, kit_ty (by decide +kernel), _, rfl, _, .ty "tuple", _, _, true, rfl, .ty "tuple", tyT h', kit_ty (by decide +kernel), rfl, _, rfl, iteD (by decide) ?_⟩
    refine ⟨_, rfl, _, .ty "list", _, _, false, rfl, .ty "list", tyT h, kit_ty (by decide +kernel), _, rfl, _, .ty "list", _, _, false, rfl, .ty "list", tyT h', kit_ty (by decide +kernel), rfl, _, rfl, iteD (by decide) ?_⟩
    refine ⟨_, rfl, p, xs, rfl, .inr h, _, rfl, p', xs', rfl, .inr h', rfl, _, rfl, iteC (by rw [e1, e2]; simp) ?_⟩
    refine ⟨_, rfl, p', xs', rfl, .inr h', _, rfl, by omega, by omega, fun D hD => ?_⟩
    refine lc_range (lo := 0) (n := (xs'.length : Int).toNat) (fun i H' => Same H H' ∧ H' D = some (.lst ((List.replicate i true).map V.bl))) ⟨same_new hD, upd_same⟩ (fun i H1 hi z => ?_) (fun H1 z => ?_)
    · obtain ⟨s1, ed⟩ := z
      have hi' : i < ds.length := by omega
      obtain ⟨x, d1, g1, g2, g3⟩ := dpAll_at r hi'
      obtain ⟨y, d2, g4, g5, g6⟩ := dpAll_at r' hi'
      have ee : d1 = d2 := Option.some.inj (g2.symm.trans g5)
      subst ee
      have e0 : (0 : Int) + (i : Nat) = ((i : Nat) : Int) := by omega
      rw [e0]
      refine ⟨rfl, ?_⟩
      refine ⟨_, rfl, _, rfl, .inr (.inl ⟨p, xs, _, x, rfl, rfl, (Tk.of s1).t h, atI_nat g1, ?_⟩)⟩
      refine ⟨_, rfl, _, rfl, .inr (.inl ⟨p', xs', _, y, rfl, rfl, (Tk.of s1).t h', atI_nat g4, ?_⟩)⟩
      refine ⟨x, y, d1, rfl, dp_tk s1 g3, dp_tk s1 g6, hall d1 (List.mem_of_getElem? g2), fun H2 s2 => ?_⟩
      refine ⟨_, s2 _ _ ed, lt_line (by rw [List.length_map, List.length_replicate]; omega), fun b o e => ?_, ?_⟩
      · rw [upd_ne (ne_of_none e hD)]
        exact s2 b o (s1 b o e)
      · rw [upd_same, List.replicate_succ', List.map_append]
        rfl
    · refine ⟨D, _, rfl, SqL.of z.2, ?_⟩
      rw [show (List.replicate ((xs'.length : Int).toNat) true).all id = true by simp]
      exact k H1 z.1
theorem ok_law_same (T : Txt K mg a) : ∀ n : Nat, FnOk P w K mg base CX0 n a.f_law_same a.d_law_same ["_law_told", "_law_due"] (spSame K n)
  | 0 => ok_law_same0
  | n + 1 => ok_law_same1 T (ok_law_same T n)
end
end Lk
namespace Lk
open PySem L2
variable {K : PySem.W.Frag}
/-- a list that is filled with rows -/
def RL (K : PySem.W.Frag) (H : Hp) (l : Addr) (R : List Row) : Prop := ∃ us, H l = some (.lst us) ∧ us.length = R.length ∧ ∀ j u, us[j]? = some u → RowV K H u (rowAt R j)
theorem RL.fb {b g l : Addr} {H H' : Hp} {R : List Row} (h : RL K H l R) (B : BagAt H b g) (f : Fb b g H H') (h1 : l ≠ b) (h2 : l ≠ g) : RL K H' l R := by
  obtain ⟨us, e, n, r⟩ := h
  exact ⟨us, f _ _ h1 h2 e, n, fun j u hj => (r j u hj).tk (f.tk B)⟩
theorem rowAt_old {R : List Row} {r : Row} {j : Nat} (h : j < R.length) : rowAt (R ++ [r]) j = rowAt R j := by
  unfold rowAt
  rw [List.getD_eq_getElem?_getD, List.getD_eq_getElem?_getD, List.getElem?_append_left h]
theorem rowAt_new {R : List Row} {r : Row} : rowAt (R ++ [r]) R.length = r := by
  unfold rowAt
  rw [List.getD_eq_getElem?_getD, List.getElem?_append_right (Nat.le_refl _), Nat.sub_self]
  rfl
theorem RL.push {H : Hp} {l c : Addr} {us : List V} {R : List Row} {r : Row} (e : H l = some (.lst us)) (n : us.length = R.length) (h : ∀ j u, us[j]? = some u → RowV K H u (rowAt R j)) (hr : RowV K H (.ref c) r) : RL K (upd H l (.lst (us ++ [.ref c]))) l (R ++ [r]) := by
  have t : Tk H (upd H l (.lst (us ++ [.ref c]))) := tk_mut e
  refine ⟨us ++ [.ref c], upd_same, by rw [List.length_append, List.length_append, n]; rfl, fun j u hj => ?_⟩
  by_cases hji : j < us.length
  · rw [List.getElem?_append_left hji] at hj
    rw [rowAt_old (by omega)]
    exact (h j u hj).tk t
  · have ej : j = R.length := by
      have := (List.getElem?_eq_some_iff.mp hj).1
      rw [List.length_append, List.length_singleton] at this
      omega
    subst ej
    rw [List.getElem?_append_right (by omega), n, Nat.sub_self] at hj
    cases hj
    rw [rowAt_new]
    exact hr.tk t
theorem Good.push {R : List Row} {r : Row} (g : Good R) (h1 : r.1 ≤ 7) (h2 : r.2.length ≤ 2) (h3 : ∀ p ∈ r.2, p < R.length) : Good (R ++ [r]) := by
  intro n hn
  rw [List.length_append, List.length_singleton] at hn
  unfold parts
  by_cases h : n < R.length
  · rw [rowAt_old h]
    exact g n h
  · have e : n = R.length := by omega
    subst e
    rw [rowAt_new]
    exact ⟨h1, h2, h3⟩
theorem good_nil : Good [] := fun n h => absurd h (Nat.not_lt_zero n)
theorem BagAt.ne {b g l : Addr} {H : Hp} (B : BagAt H b g) (h : H l = none) : l ≠ b ∧ l ≠ g := by
  obtain ⟨_, _, _, _, e1, e2, _⟩ := B
  exact ⟨(ne_of_none e1 h).symm, (ne_of_none e2 h).symm⟩
/-- numbers drawn into a new list -/
def NL (H : Hp) (D : Addr) (k n : Nat) : Prop := ∃ qs : List Nat, H D = some (.lst (qs.map nv)) ∧ qs.length = n ∧ ∀ q ∈ qs, q < k
section
variable {P : Program} {w : World} {mg : Str → Option Value} {base : Heap} {a : Adr}
def spFree (K : PySem.W.Frag) : Sp := fun vs H Q _ => ∃ (b g : Addr), vs = [.ref b] ∧ BagAt H b g ∧ ∀ t R H', Fb b g H H' → BagAt H' b g → RowsT K H' t R → Good R → 1 ≤ R.length → R.length ≤ 200 → Q (.ref t) H'
theorem ok_law_free_values (T : Txt K mg a) : FnOk P w K mg base CX0 2 a.f_law_free_values a.d_law_free_values ["_law_bag_here"] (spFree K) := by
  have G := ok_law_pick (P := P) (w := w) (base := base) T
  refine T.F_law_free_values.ok sc_law_free_values (fun vs H Q E h => ?_) (fun cdv A outer s H vs Q E hr h => ?_)
  · obtain ⟨b, g, rfl, _⟩ := h
    rfl
  obtain ⟨b, g, rfl, B, k⟩ := h
  refine ⟨_, (pss_cons (ps_if (pt_cmpR op_ne (pe_call G (hr.mono (by decide)) rfl T.g_law_pick T.k_law_pick T.b_law_pick .nil pass0 (pa_cons (pv 0) (pa_cons pe_int pa_nil))) pe_int (nomark _))
      (pss_cons (ps_set (i := 1) sc_law_free_values.nd rfl (Or.inl rfl) (pe_lst pa_nil))
    (pss_cons (ps_for PassesOwn.never rfl (pi_range1 rfl T.z_range (pa_cons (pe_op op_add pe_int (pe_call G (hr.mono (by decide)) rfl T.g_law_pick T.k_law_pick T.b_law_pick .nil pass0 (pa_cons (pv 0) (pa_cons pe_int pa_nil)))) pa_nil)) (pg_name (i := 2) sc_law_free_values.nd rfl (Or.inr rfl))
      (C8.pss_cut (ps_set (i := 3) sc_law_free_values.nd rfl (Or.inl rfl) (pe_ifExp (pt_cmpR op_gt (pv 2) pe_int (nomark _)) (pe_call G (hr.mono (by decide)) rfl T.g_law_pick T.k_law_pick T.b_law_pick .nil pass0 (pa_cons (pv 0) (pa_cons pe_int pa_nil))) pe_int))
    (pss_one (ps_expr (pe_bm PySem.F.plainAttrs_list PySem.F.slot_list_append PySem.F.type_list_append mt_append (pv 1) (pa_cons (pe_tup (pa_cons (pe_call G (hr.mono (by decide)) rfl T.g_law_pick T.k_law_pick T.b_law_pick .nil pass0 (pa_cons (pv 0) (pa_cons pe_int pa_nil))) (pa_cons (pe_callTy call_tuple_of (by rfl) T.z_tuple (by decide +kernel) (pa_cons (pe_lc (own := [("_law_j", 6)]) (g := gName 6) (tt := tYes) rfl sc_law_free_values.nd (pi_range1 rfl T.z_range (pa_cons (pv 3) pa_nil)) (blkOk_by (N := ["_law_bag_here", "_law_found", "_law_k", "_law_parts", "_law_how", "_law_step", "_law_j"]) (sc := defScope s_law_free_values) (by decide +kernel)) (fun _ _ _ _ _ => pg_name (i := 6) sc_law_free_values.nd rfl (Or.inl rfl)) (fun _ _ _ _ _ => pts_nil) (fun _ _ _ _ _ => (pe_call G (hr.mono (by decide)) rfl T.g_law_pick T.k_law_pick T.b_law_pick .nil pass0 (pa_cons (pv 0) (pa_cons (pv 2) pa_nil))))) pa_nil)) pa_nil))) pa_nil))))))
    (pss_one (ps_ret (pe_callTy call_tuple_of (by rfl) T.z_tuple (by decide +kernel) (pa_cons (pv 1) pa_nil))))))
      pss_nil)
    (pss_cons (ps_set (i := 4) sc_law_free_values.nd rfl (Or.inl rfl) (pe_call G (hr.mono (by decide)) rfl T.g_law_pick T.k_law_pick T.b_law_pick .nil pass0 (pa_cons (pv 0) (pa_cons pe_int pa_nil))))
    (pss_cons (ps_set (i := 5) sc_law_free_values.nd rfl (Or.inr rfl) (pe_op op_add pe_int (pe_call G (hr.mono (by decide)) rfl T.g_law_pick T.k_law_pick T.b_law_pick .nil pass0 (pa_cons (pv 0) (pa_cons pe_int pa_nil)))))
    (pss_cons (ps_set (i := 1) sc_law_free_values.nd rfl (Or.inl rfl) (pe_lst (pa_cons (pe_tup (pa_cons pe_int (pa_cons (pe_tup pa_nil) pa_nil))) pa_nil)))
    (pss_cons (ps_for PassesOwn.never rfl (pi_range2 rfl T.z_range (pa_cons pe_int (pa_cons (pe_op op_add pe_int (pe_call G (hr.mono (by decide)) rfl T.g_law_pick T.k_law_pick T.b_law_pick .nil pass0 (pa_cons (pv 0) (pa_cons pe_int pa_nil)))) pa_nil))) (pg_name (i := 2) sc_law_free_values.nd rfl (Or.inr rfl))
      (C8.pss_cut (ps_set (i := 3) sc_law_free_values.nd rfl (Or.inl rfl) (pe_ix ix_tup (pe_tup (pa_cons pe_int (pa_cons (pe_op op_add pe_int (pe_op op_mod (pv 2) pe_int)) (pa_cons pe_int pa_nil)))) (pv 4) (fun _ _ => rfl)))
    (pss_one (ps_expr (pe_bm PySem.F.plainAttrs_list PySem.F.slot_list_append PySem.F.type_list_append mt_append (pv 1) (pa_cons (pe_tup (pa_cons (pe_op op_mod (pv 2) pe_int) (pa_cons (pe_callTy call_tuple_of (by rfl) T.z_tuple (by decide +kernel) (pa_cons (pe_lc (own := [("_law_j", 6)]) (g := gName 6) (tt := tYes) rfl sc_law_free_values.nd (pi_range1 rfl T.z_range (pa_cons (pv 3) pa_nil)) (blkOk_by (N := ["_law_bag_here", "_law_found", "_law_k", "_law_parts", "_law_how", "_law_step", "_law_j"]) (sc := defScope s_law_free_values) (by decide +kernel)) (fun _ _ _ _ _ => pg_name (i := 6) sc_law_free_values.nd rfl (Or.inl rfl)) (fun _ _ _ _ _ => pts_nil) (fun _ _ _ _ _ => (pe_callB (call_max2 rfl) (by rfl) T.z_max (by decide +kernel) (pa_cons pe_int (pa_cons (pe_op op_sub (pe_op op_sub (pv 2) pe_int) (pe_op op_mul (pv 6) (pv 5))) pa_nil))))) pa_nil)) pa_nil))) pa_nil))))))
    (pss_one (ps_ret (pe_callTy call_tuple_of (by rfl) T.z_tuple (by decide +kernel) (pa_cons (pv 1) pa_nil))))))))), ?_⟩
  -- if pick(bag, 8) != 7
  refine ⟨_, rfl, b, g, 8, rfl, by decide, by decide, B, fun r0 H0 hr0 B0 f0 => ?_⟩
  refine ⟨rfl, _, rfl, ite2 (fun _ => ?_) (fun _ => ?_)⟩
  · -- found = []
    refine ⟨Nat.zero_le _, fun l hl => ?_⟩
    obtain ⟨nlb, nlg⟩ := B0.ne hl
    have hl' : H l = none := by
      cases e : H l with
      | none => rfl
      | some o =>
        have := f0 _ _ nlb nlg e
        rw [hl] at this
        cases this
    have B1 : BagAt (upd H0 l (.lst [])) b g := B0.keep nlb nlg
    have f1 : Fb b g H (upd H0 l (.lst [])) := f0.trans (Fb.of (same_new hl))
    refine ⟨_, rfl, b, g, 12, rfl, by decide, by decide, B1, fun r1 H1 hr1 B1' f1' => ?_⟩
    refine ⟨_, _, rfl, rfl, _, rfl, by omega, by omega, for_range (lo := 0) (n := ((1 : Int) + (r1 : Int)).toNat) (fun i σ H' => ∃ v2 v3 R, σ = [some (.ref b), some (.ref l), v2, v3, none, none, none] ∧ Fb b g H H' ∧ BagAt H' b g ∧ RL K H' l R ∧ Good R ∧ R.length = i) ?_ ?_ ?_⟩
    · exact ⟨none, none, [], rfl, f1.trans f1', B1', ⟨[], f1' _ _ nlb nlg upd_same, rfl, by simp⟩, good_nil, rfl⟩
    · rintro i σ H2 hi ⟨v2, v3, R, rfl, f2, B2, rl, gR, lR⟩
      rw [show (0 : Int) + (i : Nat) = ((i : Nat) : Int) by omega]
      -- parts = pick(bag, 3) if k > 0 else 0
      refine ⟨fun σ H' => ∃ np : Nat, σ = [some (.ref b), some (.ref l), some (nv i), some (nv np), none, none, none] ∧ np ≤ 2 ∧ (0 < np → 0 < i) ∧ Fb b g H H' ∧ BagAt H' b g ∧ RL K H' l R, ?_, ?_⟩
      · refine ⟨_, rfl, _, _, rfl, rfl, _, rfl, ite2 (fun c => ?_) (fun _ => ?_)⟩
        · have c' : (0 : Int) < (i : Int) := of_decide_eq_true c
          refine ⟨_, rfl, b, g, 3, rfl, by decide, by decide, B2, fun np H3 hr3 B3 f3 => ?_⟩
          exact ⟨np, rfl, by omega, fun _ => by omega, f2.trans f3, B3, rl.fb B2 f3 nlb nlg⟩
        · exact ⟨0, rfl, by omega, fun h => absurd h (by omega), f2, B2, rl⟩
      · rintro σ H3 ⟨np, rfl, hnp, hnk, f3, B3, us, eu, nu, ru⟩
        -- found.append((pick(bag, 8), tuple([pick(bag, k) for j in range(parts)])))
        refine ⟨_, rfl, .inl ⟨rfl, _, SqL.of eu⟩, ?_⟩
        refine ⟨_, rfl, b, g, 8, rfl, by decide, by decide, B3, fun op H4 hop B4 f4 => ?_⟩
        refine ⟨_, rfl, _, rfl, by omega, by omega, fun D hD => ?_⟩
        obtain ⟨nDb, nDg⟩ := B4.ne hD
        refine lc_range (lo := 0) (n := ((np : Nat) : Int).toNat) (fun j H' => Fb b g H4 H' ∧ BagAt H' b g ∧ NL H' D i j) ⟨Fb.of (same_new hD), B4.keep nDb nDg, [], upd_same, rfl, by simp⟩ (fun j H5 hj z => ?_) (fun H5 z => ?_)
        · obtain ⟨f5, B5, qs, eq, lq, hq⟩ := z
          refine ⟨rfl, ?_⟩
          refine ⟨_, rfl, _, rfl, b, g, i, rfl, hnk (by omega), by omega, B5, fun x H6 hx B6 f6 => ?_⟩
          refine ⟨_, f6 _ _ nDb nDg eq, lt_line (by rw [List.length_map]; omega), ?_, B6.keep nDb nDg, qs ++ [x], ?_, ?_, ?_⟩
          · intro c o n1 n2 h
            rw [upd_ne (ne_of_none h hD)]
            exact f6 c o n1 n2 (f5 c o n1 n2 h)
          · rw [upd_same, List.map_append]
            rfl
          · rw [List.length_append, lq]
            rfl
          · intro q hq'
            rcases List.mem_append.mp hq' with h | h
            · exact hq q h
            · rw [List.mem_singleton.mp h]
              exact hx
        · obtain ⟨f5, B5, qs, eq, lq, hq⟩ := z
          refine ⟨D, _, rfl, .inl ⟨SqL.of eq, fun t ht => ⟨by show 2 ≤ sizeLine; decide, fun c hc => ?_⟩⟩⟩
          have sA : Same H5 (upd (upd H5 t (.tup (qs.map nv))) c (.tup [nv op, .ref t])) := (same_new ht).trans (same_new hc)
          have f7 : Fb b g H3 (upd (upd H5 t (.tup (qs.map nv))) c (.tup [nv op, .ref t])) := (f4.trans f5).trans (Fb.of sA)
          have B7 : BagAt (upd (upd H5 t (.tup (qs.map nv))) c (.tup [nv op, .ref t])) b g := B5.same sA
          have eu' := f7 _ _ nlb nlg eu
          have nct : t ≠ c := ne_of_none upd_same hc
          refine ⟨l, us, _, rfl, rfl, eu', lt_line (by omega), ?_⟩
          refine ⟨_, _, R ++ [(op, qs)], rfl, ?_, B7.keep nlb nlg, RL.push eu' nu (fun j u hj => (ru j u hj).tk (f7.tk B3)) ⟨c, t, rfl, .inl (.inl upd_same), .inl (.inl ?_)⟩, gR.push (by show op ≤ 7; omega) (by show qs.length ≤ 2; omega) (fun q h => by have := hq q h; omega), by rw [List.length_append, lR]; rfl⟩
          · intro y o n1 n2 h
            rw [upd_ne (ne_of_none h hl')]
            exact (f3.trans f7) y o n1 n2 h
          · rw [upd_ne nct, upd_same]
    · rintro σ H2 ⟨v2, v3, R, rfl, f2, B2, ⟨us, eu, nu, ru⟩, gR, lR⟩
      refine ⟨_, rfl, l, us, rfl, .inl ⟨SqL.of eu, fun t ht => ?_⟩⟩
      have sA : Same H2 (upd H2 t (.tup us)) := same_new ht
      exact k t R _ (f2.trans (Fb.of sA)) (B2.same sA) ⟨us, .inl (.inl upd_same), nu, fun j u hj => (ru j u hj).tk (Tk.of sA)⟩ gR (by omega) (by omega)
  · -- chains
    refine ⟨_, rfl, b, g, 3, rfl, by decide, by decide, B0, fun hw H1 hhw B1 f1 => ?_⟩
    refine ⟨_, rfl, b, g, 3, rfl, by decide, by decide, B1, fun st H2 hst B2 f2 => ⟨_, _, rfl, rfl, ?_⟩⟩
    refine ⟨Nat.zero_le _, fun t ht => ⟨by show 2 ≤ sizeLine; decide, fun c hc => ⟨by show 1 ≤ sizeLine; decide, fun l hl => ?_⟩⟩⟩
    have f02 : Fb b g H H2 := (f0.trans f1).trans f2
    have sA : Same H2 (upd (upd H2 t (.tup [])) c (.tup [.int 0, .ref t])) := (same_new ht).trans (same_new hc)
    have sB : Same H2 (upd (upd (upd H2 t (.tup [])) c (.tup [.int 0, .ref t])) l (.lst [.ref c])) := sA.trans (same_new hl)
    have hl2 : H2 l = none := sA.free hl
    have B3 := B2.same sB
    obtain ⟨nlb, nlg⟩ := B2.ne hl2
    have hl' : H l = none := by
      cases e : H l with
      | none => rfl
      | some o =>
        have := f02 _ _ nlb nlg e
        rw [hl2] at this
        cases this
    have nct : t ≠ c := ne_of_none upd_same hc
    have nlc : c ≠ l := ne_of_none upd_same hl
    have nlt : t ≠ l := ne_of_none (by rw [upd_ne nct]; exact upd_same) hl
    have rl0 : RL K (upd (upd (upd H2 t (.tup [])) c (.tup [.int 0, .ref t])) l (.lst [.ref c])) l [(0, [])] := by
      refine ⟨[.ref c], upd_same, rfl, fun j u hj => ?_⟩
      cases j with
      | zero =>
        cases hj
        exact ⟨c, t, rfl, .inl (.inl (by rw [upd_ne nlc, upd_same]; rfl)), .inl (.inl (by rw [upd_ne nlt, upd_ne nct, upd_same]; rfl))⟩
      | succ j => cases hj
    have g0 : Good [((0 : Nat), ([] : List Nat))] := good_nil.push (by decide) (by decide) (by simp)
    refine ⟨_, rfl, b, g, 71, rfl, by decide, by decide, B3, fun r H4 hr4 B4 f4 => ⟨_, _, rfl, rfl, 1, _, rfl, ⟨by omega, by omega, by omega, by omega⟩, ?_⟩⟩
    refine for_range (lo := 1) (n := ((60 : Int) + (r : Int) - 1).toNat) (fun i σ H' => ∃ v2 v3 R, σ = [some (.ref b), some (.ref l), v2, v3, some (nv hw), some (.int (1 + (st : Int))), none] ∧ Fb b g H H' ∧ BagAt H' b g ∧ RL K H' l R ∧ Good R ∧ R.length = i + 1) ?_ ?_ ?_
    · exact ⟨none, none, [(0, [])], rfl, (f02.trans (Fb.of sB)).trans f4, B4, rl0.fb B3 f4 nlb nlg, g0, rfl⟩
    · rintro i σ H5 hi ⟨v2, v3, R, rfl, f5, B5, rl, gR, lR⟩
      rw [show (1 : Int) + (i : Nat) = ((i + 1 : Nat) : Int) by omega]
      refine ⟨fun σ H' => ∃ np : Nat, σ = [some (.ref b), some (.ref l), some (nv (i + 1)), some (nv np), some (nv hw), some (.int (1 + (st : Int))), none] ∧ np ≤ 2 ∧ Fb b g H H' ∧ BagAt H' b g ∧ RL K H' l R, ?_, ?_⟩
      · refine ⟨_, rfl, _, _, rfl, rfl, by show (0 : Int) < 2; decide, _, _, rfl, rfl, by show 3 ≤ sizeLine; decide, fun u hu => ?_⟩
        have sC : Same H5 (upd H5 u (.tup [.int 1, .int (1 + ((i + 1 : Nat) : Int) % 2), .int 2])) := same_new hu
        have fC := f5.trans (Fb.of (b := b) (g := g) sC)
        have BC := B5.same sC
        have rC := rl.fb B5 (Fb.of sC) nlb nlg
        have h3 : hw = 0 ∨ hw = 1 ∨ hw = 2 := by omega
        rcases h3 with rfl | rfl | rfl
        · exact ⟨_, rfl, u, _, _, _, rfl, rfl, SqT.of upd_same, rfl, 1, rfl, by decide, fC, BC, rC⟩
        · refine ⟨_, rfl, u, _, _, _, rfl, rfl, SqT.of upd_same, rfl, 1 + (i + 1) % 2, ?_, by omega, fC, BC, rC⟩
          have e : (1 : Int) + ((i + 1 : Nat) : Int) % 2 = ((1 + (i + 1) % 2 : Nat) : Int) := by omega
          exact congrArg (fun y => [some (V.ref b), some (V.ref l), some (nv (i + 1)), some (V.int y), some (nv 1), some (V.int (1 + (st : Int))), none]) e
        · exact ⟨_, rfl, u, _, _, _, rfl, rfl, SqT.of upd_same, rfl, 2, rfl, by decide, fC, BC, rC⟩
      · rintro σ H6 ⟨np, rfl, hnp, f6, B6, us, eu, nu, ru⟩
        refine ⟨_, rfl, .inl ⟨rfl, _, SqL.of eu⟩, ?_⟩
        refine ⟨_, rfl, _, _, rfl, rfl, by show (0 : Int) < 8; decide, ?_⟩
        refine ⟨_, rfl, _, rfl, by omega, by omega, fun D hD => ?_⟩
        refine lc_range (lo := 0) (n := ((np : Nat) : Int).toNat) (fun j H' => Same H6 H' ∧ NL H' D (i + 1) j) ⟨same_new hD, [], upd_same, rfl, by simp⟩ (fun j H7 hj z => ?_) (fun H7 z => ?_)
        · obtain ⟨s7, qs, eq, lq, hq⟩ := z
          refine ⟨rfl, ?_⟩
          refine ⟨_, rfl, _, _, rfl, rfl, _, rfl, _, rfl, _, _, rfl, rfl, .inl ⟨by omega, by omega⟩, _, _, rfl, rfl, _, _, rfl, ?_⟩
          have hx : ∀ y : Int, y ≤ (i : Int) → ∃ x : Nat, (if y > 0 then y else 0) = (x : Int) ∧ x < i + 1 := by
            intro y hy
            refine ⟨y.toNat, ?_, by omega⟩
            split <;> omega
          have hz : (0 : Int) ≤ ((0 : Int) + (j : Nat)) * (1 + (st : Int)) := Int.mul_nonneg (by omega) (by omega)
          obtain ⟨x, ex, hx⟩ := hx (((i + 1 : Nat) : Int) - 1 - ((0 : Int) + (j : Nat)) * (1 + (st : Int))) (by omega)
          rw [ex]
          refine ⟨_, eq, lt_line (by rw [List.length_map]; omega), ?_, qs ++ [x], ?_, ?_, ?_⟩
          · intro c o h
            rw [upd_ne (ne_of_none h hD)]
            exact s7 c o h
          · rw [upd_same, List.map_append]
            rfl
          · rw [List.length_append, lq]
            rfl
          · intro q hq'
            rcases List.mem_append.mp hq' with h | h
            · exact hq q h
            · rw [List.mem_singleton.mp h]
              exact hx
        · obtain ⟨s7, qs, eq, lq, hq⟩ := z
          refine ⟨D, _, rfl, .inl ⟨SqL.of eq, fun t ht => ⟨by show 2 ≤ sizeLine; decide, fun c hc => ?_⟩⟩⟩
          have e8 : ((i + 1 : Nat) : Int) % 8 = (((i + 1) % 8 : Nat) : Int) := by omega
          have sD : Same H6 (upd (upd H7 t (.tup (qs.map nv))) c (.tup [.int (((i + 1 : Nat) : Int) % 8), .ref t])) := (s7.trans (same_new ht)).trans (same_new hc)
          have B8 := B6.same sD
          have eu' := sD _ _ eu
          have nct : t ≠ c := ne_of_none upd_same hc
          refine ⟨l, us, _, rfl, rfl, eu', lt_line (by omega), ?_⟩
          refine ⟨_, _, R ++ [((i + 1) % 8, qs)], rfl, ?_, B8.keep nlb nlg, RL.push eu' nu (fun j u hj => (ru j u hj).tk (Tk.of sD)) ⟨c, t, rfl, .inl (.inl (by rw [upd_same]; exact congrArg (fun y => some (HO.tup [V.int y, V.ref t])) e8)), .inl (.inl ?_)⟩, gR.push (by show (i + 1) % 8 ≤ 7; omega) (by show qs.length ≤ 2; omega) (fun q h => by have := hq q h; omega), by rw [List.length_append, lR]; rfl⟩
          · intro y o n1 n2 h
            rw [upd_ne (ne_of_none h hl')]
            exact (f6.trans (Fb.of sD)) y o n1 n2 h
          · rw [upd_ne nct, upd_same]
    · rintro σ H5 ⟨v2, v3, R, rfl, f5, B5, ⟨us, eu, nu, ru⟩, gR, lR⟩
      refine ⟨_, rfl, l, us, rfl, .inl ⟨SqL.of eu, fun t ht => ?_⟩⟩
      have sE : Same H5 (upd H5 t (.tup us)) := same_new ht
      exact k t R _ (f5.trans (Fb.of sE)) (B5.same sE) ⟨us, .inl (.inl upd_same), nu, fun j u hj => (ru j u hj).tk (Tk.of sE)⟩ gR (by omega) (by omega)
end
end Lk
namespace Lk
open PySem L2
variable {K : PySem.W.Frag}
theorem okd_nums {ps : List Nat} (h : ps.length ≤ 100000) : okd 2 (.tuple (ps.map dN)) := by
  refine ⟨by rw [List.length_map]; exact h, fun e he => ?_⟩
  obtain ⟨x, _, rfl⟩ := List.mem_map.mp he
  exact trivial
theorem okd_up : ∀ {n : Nat} {d : PyData}, okd n d → okd (n + 1) d
  | 0, _, h => h.elim
  | n + 1, d, h => by
    cases d with
    | none | bool _ | int _ | str _ => trivial
    | dict _ => exact h.elim
    | list ds => exact ⟨h.1, fun e he => okd_up (h.2 e he)⟩
    | tuple ds => exact ⟨h.1, fun e he => okd_up (h.2 e he)⟩
theorem okd_rows {R : List Row} (g : Good R) (h : R.length ≤ 100000) : okd 4 (dRows R) := by
  refine ⟨by rw [List.length_map]; exact h, fun e he => ?_⟩
  obtain ⟨r, hr, rfl⟩ := List.mem_map.mp he
  refine ⟨by show 2 ≤ 100000; decide, fun e he => ?_⟩
  have hl : r.2.length ≤ 100000 := by
    obtain ⟨i, hi⟩ := List.mem_iff_getElem?.mp hr
    have hlt := (List.getElem?_eq_some_iff.mp hi).1
    have := (g i hlt).2.1
    unfold parts at this
    rw [rowAt_of hlt] at hi
    cases hi
    omega
  rcases List.mem_cons.mp he with rfl | he
  · exact trivial
  · rw [List.mem_singleton.mp he]
    exact okd_nums hl
section
variable {P : Program} {w : World} {mg : Str → Option Value} {base : Heap} {a : Adr}
def spIsCut (K : PySem.W.Frag) (C : Addr) : Sp := fun vs H Q _ => ∃ (p t : Addr) (R : List Row) (v : Nat), vs = [.ref p, nv v, .ref t] ∧ WebV K C H p R ∧ Good R ∧ v < R.length ∧ R.length ≤ 200 ∧ RowsT K H t (cutM R v) ∧ ∀ H', Same H H' → Q (.bl true) H'
theorem ok_law_is_cut (T : Txt K mg a) : FnOk P w K mg base CX0 8 a.f_law_is_cut a.d_law_is_cut ["_law_web", "_law_value", "_law_due"] (spIsCut K a.c_Web) := by
  have G_part_web := ok_part_web (P := P) (w := w) (base := base) T
  have G_law_same := ok_law_same (P := P) (w := w) (base := base) T 4
  have G_Web_init := ok_Web_init (P := P) (w := w) (base := base) T
  have G_Web_eq := ok_Web_eq (P := P) (w := w) (base := base) T
  refine T.F_law_is_cut.ok sc_law_is_cut (fun vs H Q E h => ?_) (fun cdv A outer s H vs Q E hr h => ?_)
  · obtain ⟨p, t, R, v, rfl, _⟩ := h
    rfl
  obtain ⟨p, t, R, v, rfl, hW, g, hv, hz, hD, k⟩ := h
  have gc := good_cutM g hv
  have lc : (cutM R v).length ≤ 200 := by
    have := belowM_len (R := R) (v := v)
    rw [cutM_len]
    omega
  have l1 : 1 ≤ (cutM R v).length := by
    have := (belowM_last g (v := v)).1
    rw [cutM_len]
    omega
  have ok4 := okd_rows gc (by omega)
  refine ⟨_, (pss_cons (ps_set (i := 3) sc_law_is_cut.nd rfl (Or.inl rfl) (pe_call G_part_web (hr.mono (by decide)) rfl T.g_part_web T.k_part_web T.b_part_web .nil pass0 (pa_cons (pv 0) (pa_cons (pv 1) pa_nil))))
    (pss_cons (ps_if (PW.pt (pw_or (pt_not (pt_val (pe_callB (C8.call_isC T.I_Web) (by rfl) T.z_isinstance (by decide +kernel) (pa_cons (pv 3) (pa_cons (pe_glob (v := .ref a.c_Web) rfl T.g_Web rfl) pa_nil))))) (pw_or (pt_not (pt_val (pe_call G_law_same (hr.mono (by decide)) rfl T.g_law_same T.k_law_same T.b_law_same .nil pass0 (pa_cons (pe_fld (pv 3) rfl) (pa_cons (pv 2) pa_nil))))) (pw_or1 (pt_not (pt_cmpR (op_eqG (rcG_ins G_Web_eq T.Q_Web T.Q2_Web T.b_Web_eq pass0) (hr.mono (by decide))) (pv 3) (pe_make T.M_Web G_Web_init (hr.mono (by decide)) rfl T.g_Web T.b_Web_init .nil pass0 (pa_cons (pv 2) pa_nil)) (nomark _)))))))
      (pss_one (ps_ret pe_bl))
      pss_nil)
    (pss_cons (ps_set (i := 4) sc_law_is_cut.nd rfl (Or.inl rfl) (pe_call G_part_web (hr.mono (by decide)) rfl T.g_part_web T.k_part_web T.b_part_web .nil pass0 (pa_cons (pv 3) (pa_cons (pe_op op_sub (pe_callB call_len_seq (by rfl) T.z_len PySem.boot_len (pa_cons (pv 2) pa_nil)) pe_int) pa_nil))))
    (pss_one (ps_ret (pe_and (pe_callB (C8.call_isC T.I_Web) (by rfl) T.z_isinstance (by decide +kernel) (pa_cons (pv 4) (pa_cons (pe_glob (v := .ref a.c_Web) rfl T.g_Web rfl) pa_nil))) (pe_and (pe_call G_law_same (hr.mono (by decide)) rfl T.g_law_same T.k_law_same T.b_law_same .nil pass0 (pa_cons (pe_fld (pv 4) rfl) (pa_cons (pv 2) pa_nil))) (pe_one (pe_call G_law_same (hr.mono (by decide)) rfl T.g_law_same T.k_law_same T.b_law_same .nil pass0 (pa_cons (pe_fld (pv 3) rfl) (pa_cons (pv 2) pa_nil))))))))))), ?_⟩
  refine ⟨_, rfl, _, rfl, p, R, v, rfl, hW, g, hv, by omega, fun c H1 s1 _ hc => ?_⟩
  obtain ⟨dc, qc, hc1, hc2⟩ := id hc
  have hD1 : RowsT K H1 t (cutM R v) := hD.tk (Tk.of s1)
  refine ⟨_, rfl, c, dc, _, rfl, hc1, _, rfl, iteF ?_⟩
  refine ⟨_, rfl, c, a.c_Web, dc, _, _, rfl, hc1, T.C_Web, T.N_rows, rfl, _, rfl, _, _, dRows (cutM R v), rfl, rows_dp hc2, rows_dp hD1, ok4, fun H2 s2 => ⟨_, rfl, iteF ?_⟩⟩
  -- cut_here == Web(due)
  refine ⟨_, rfl, _, rfl, ?_⟩
  intro x dx hx hdx ne
  have hD2 : RowsT K H2 t (cutM R v) := hD1.tk (Tk.of s2)
  have sA : Same H2 (upd (upd H2 dx (.own x)) x (.ins a.c_Web dx [])) := (same_new hdx).trans (same_new (by rw [upd_ne ne.symm]; exact hx))
  refine ⟨x, dx, t, cutM R v, rfl, upd_same, hD2.tk (Tk.of sA), gc, lc, fun H3 kp e3 => ⟨rfl, ?_⟩⟩
  have sB : Same H2 H3 := fun b o e => kp b o (sA b o e) (ne_of_none e hx)
  have hc3 : WebV K a.c_Web H3 c (cutM R v) := hc.tk (Tk.of (s2.trans sB))
  have hx3 : WebV K a.c_Web H3 x (cutM R v) := ⟨dx, t, e3, hD2.tk (Tk.of sB)⟩
  refine ⟨⟨c, x, _, _, _, _, rfl, rfl, hc3.choose_spec.choose_spec.1, e3, cutM R v, hc3, hx3⟩, fun H4 s4 => ⟨_, rfl, iteF ?_⟩⟩
  have sC : Same H1 H4 := (s2.trans sB).trans s4
  have hD4 : RowsT K H4 t (cutM R v) := hD1.tk (Tk.of sC)
  obtain ⟨ds, d1, d2, d3⟩ := id hD4
  -- again
  refine ⟨_, rfl, _, rfl, t, ds, rfl, .inr d1, _, _, rfl, rfl, c, cutM R v, (cutM R v).length - 1, ?_, hc.tk (Tk.of sC), gc, by omega, by omega, fun c2 H5 s5 _ hc5 => ?_⟩
  · rw [d2]
    have e : (((cutM R v).length : Nat) : Int) - 1 = (((cutM R v).length - 1 : Nat) : Int) := by omega
    exact congrArg (fun y => [V.ref c, V.int y]) e
  rw [cut_again g hv] at hc5
  obtain ⟨dx2, q2, f1, f2⟩ := id hc5
  have sD : Same H1 H5 := sC.trans s5
  have hc5' := hc.tk (Tk.of sD)
  have hD5 := hD1.tk (Tk.of sD)
  refine ⟨_, rfl, c2, dx2, _, rfl, f1, _, rfl, iteT ?_⟩
  refine ⟨_, rfl, c2, a.c_Web, dx2, _, _, rfl, f1, T.C_Web, T.N_rows, rfl, _, rfl, _, _, dRows (cutM R v), rfl, rows_dp f2, rows_dp hD5, ok4, fun H6 s6 => ⟨_, rfl, iteT ?_⟩⟩
  obtain ⟨dc6, qc6, g1, g2⟩ := hc5'.tk (Tk.of s6)
  refine ⟨_, rfl, c, a.c_Web, dc6, _, _, rfl, g1, T.C_Web, T.N_rows, rfl, _, rfl, _, _, dRows (cutM R v), rfl, rows_dp g2, rows_dp (hD5.tk (Tk.of s6)), ok4, fun H7 s7 => ?_⟩
  exact k H7 ((s1.trans sD).trans (s6.trans s7))
def spLaw (K : PySem.W.Frag) : Sp := fun vs H Q _ => ∃ (p : Addr) (ns : List Int), vs = [.ref p] ∧ SqL K H p (ns.map V.int) ∧ ns.length ≤ 63 ∧ ∀ H', Q (.bl true) H'
theorem ok_law (T : Txt K mg a) : FnOk P w K mg base CX0 9 a.f_law a.d_law ["_law_script"] (spLaw K) := by
  have G_part_web := ok_part_web (P := P) (w := w) (base := base) T
  have G_below := ok_below (P := P) (w := w) (base := base) T
  have G_law_same := ok_law_same (P := P) (w := w) (base := base) T 4
  have G_Web_init := ok_Web_init (P := P) (w := w) (base := base) T
  have G_law_is_cut := ok_law_is_cut (P := P) (w := w) (base := base) T
  have G_law_cut := ok_law_cut (P := P) (w := w) (base := base) T
  have G_law_below := ok_law_below (P := P) (w := w) (base := base) T
  have G_law_pick := ok_law_pick (P := P) (w := w) (base := base) T
  have G_law_bag := ok_law_bag (P := P) (w := w) (base := base) T
  have G_law_free_values := ok_law_free_values (P := P) (w := w) (base := base) T
  refine T.F_law.ok sc_law (fun vs H Q E h => ?_) (fun cdv A outer s H vs Q E hr h => ?_)
  · obtain ⟨p, ns, rfl, _⟩ := h
    rfl
  obtain ⟨p, ns, rfl, hS, hn, k⟩ := h
  refine ⟨_, (pss_cons (ps_set (i := 1) sc_law.nd rfl (Or.inl rfl) (pe_call G_law_bag (hr.mono (by decide)) rfl T.g_law_bag T.k_law_bag T.b_law_bag .nil pass0 (pa_cons (pv 0) pa_nil)))
    (pss_cons (ps_set (i := 2) sc_law.nd rfl (Or.inl rfl) (pe_call G_law_free_values (hr.mono (by decide)) rfl T.g_law_free_values T.k_law_free_values T.b_law_free_values .nil pass0 (pa_cons (pv 1) pa_nil)))
    (pss_cons (ps_set (i := 3) sc_law.nd rfl (Or.inl rfl) (pe_make T.M_Web G_Web_init (hr.mono (by decide)) rfl T.g_Web T.b_Web_init .nil pass0 (pa_cons (pv 2) pa_nil)))
    (pss_cons (ps_for PassesOwn.never rfl (pi_range1 rfl T.z_range (pa_cons pe_int pa_nil)) (pg_name (i := 4) sc_law.nd rfl (Or.inl rfl))
      (pss_cons (ps_set (i := 5) sc_law.nd rfl (Or.inl rfl) (pe_op op_sub (pe_callB call_len_seq (by rfl) T.z_len PySem.boot_len (pa_cons (pv 2) pa_nil)) pe_int))
    (C8.pss_cut (ps_if (pt_cmpR op_gt (pv 4) pe_int (nomark _))
      (pss_one (ps_set (i := 5) sc_law.nd rfl (Or.inl rfl) (pe_call G_law_pick (hr.mono (by decide)) rfl T.g_law_pick T.k_law_pick T.b_law_pick .nil pass0 (pa_cons (pv 1) (pa_cons (pe_callB call_len_seq (by rfl) T.z_len PySem.boot_len (pa_cons (pv 2) pa_nil)) pa_nil)))))
      pss_nil)
    (pss_cons (ps_set (i := 6) sc_law.nd rfl (Or.inr rfl) (pe_callTy call_tuple_of (by rfl) T.z_tuple (by decide +kernel) (pa_cons (pe_call G_law_below (hr.mono (by decide)) rfl T.g_law_below T.k_law_below T.b_law_below .nil pass0 (pa_cons (pv 2) (pa_cons (pv 5) pa_nil))) pa_nil)))
    (pss_cons (ps_if (pt_not (pt_val (pe_call G_law_same (hr.mono (by decide)) rfl T.g_law_same T.k_law_same T.b_law_same .nil pass0 (pa_cons (pe_call G_below (hr.mono (by decide)) rfl T.g_below T.k_below T.b_below .nil pass0 (pa_cons (pv 3) (pa_cons (pv 5) pa_nil))) (pa_cons (pv 6) pa_nil)))))
      (pss_one (ps_ret pe_bl))
      pss_nil)
    (pss_cons (ps_set (i := 7) sc_law.nd rfl (Or.inl rfl) (pe_call G_law_cut (hr.mono (by decide)) rfl T.g_law_cut T.k_law_cut T.b_law_cut .nil pass0 (pa_cons (pv 2) (pa_cons (pv 5) pa_nil))))
    (pss_cons (ps_if (PW.pt (pw_or (pt_not (pt_val (pe_call G_law_is_cut (hr.mono (by decide)) rfl T.g_law_is_cut T.k_law_is_cut T.b_law_is_cut .nil pass0 (pa_cons (pv 3) (pa_cons (pv 5) (pa_cons (pv 7) pa_nil)))))) (pw_or1 (pt_cmpR op_ne (pe_callB call_len_seq (by rfl) T.z_len PySem.boot_len (pa_cons (pv 7) pa_nil)) (pe_callB call_len_seq (by rfl) T.z_len PySem.boot_len (pa_cons (pv 6) pa_nil)) (nomark _)))))
      (pss_one (ps_ret pe_bl))
      pss_nil)
    (pss_cons (ps_set (i := 8) sc_law.nd rfl (Or.inl rfl) (pe_call G_part_web (hr.mono (by decide)) rfl T.g_part_web T.k_part_web T.b_part_web .nil pass0 (pa_cons (pv 3) (pa_cons (pv 5) pa_nil))))
    (pss_cons (ps_set (i := 9) sc_law.nd rfl (Or.inl rfl) (pe_call G_law_pick (hr.mono (by decide)) rfl T.g_law_pick T.k_law_pick T.b_law_pick .nil pass0 (pa_cons (pv 1) (pa_cons (pe_callB call_len_seq (by rfl) T.z_len PySem.boot_len (pa_cons (pv 6) pa_nil)) pa_nil))))
    (pss_cons (ps_if (pt_not (pt_val (pe_call G_law_is_cut (hr.mono (by decide)) rfl T.g_law_is_cut T.k_law_is_cut T.b_law_is_cut .nil pass0 (pa_cons (pv 8) (pa_cons (pv 9) (pa_cons (pe_call G_law_cut (hr.mono (by decide)) rfl T.g_law_cut T.k_law_cut T.b_law_cut .nil pass0 (pa_cons (pv 2) (pa_cons (pe_ix ix_tup (pv 6) (pv 9) (fun _ _ => rfl)) pa_nil))) pa_nil))))))
      (pss_one (ps_ret pe_bl))
      pss_nil)
    (pss_one (ps_if (pt_not (pt_val (pe_call G_law_same (hr.mono (by decide)) rfl T.g_law_same T.k_law_same T.b_law_same .nil pass0 (pa_cons (pe_callTy call_tuple_of (by rfl) T.z_tuple (by decide +kernel) (pa_cons (pe_lc (own := [("_law_place", 10)]) (g := gName 10) (tt := tYes) rfl sc_law.nd (pi_tup (pe_call G_below (hr.mono (by decide)) rfl T.g_below T.k_below T.b_below .nil pass0 (pa_cons (pv 8) (pa_cons (pv 9) pa_nil)))) (blkOk_by (N := ["_law_script", "_law_bag_here", "_law_values", "_law_web", "_law_turn", "_law_value", "_law_some", "_law_due", "_law_cut_here", "_law_at", "_law_place"]) (sc := defScope s_law) (by decide +kernel)) (fun _ _ _ _ _ => pg_name (i := 10) sc_law.nd rfl (Or.inl rfl)) (fun _ _ _ _ _ => pts_nil) (fun _ _ _ _ _ => (pe_ix (ixT (K := K) rfl) (pv 6) (pv 10) (fun _ _ => rfl)))) pa_nil)) (pa_cons (pe_callTy call_tuple_of (by rfl) T.z_tuple (by decide +kernel) (pa_cons (pe_call G_law_below (hr.mono (by decide)) rfl T.g_law_below T.k_law_below T.b_law_below .nil pass0 (pa_cons (pv 2) (pa_cons (pe_ix ix_tup (pv 6) (pv 9) (fun _ _ => rfl)) pa_nil))) pa_nil)) pa_nil)))))
      (pss_one (ps_ret pe_bl))
      pss_nil))))))))))))
    (pss_one (ps_ret (pe_call G_law_same (hr.mono (by decide)) rfl T.g_law_same T.k_law_same T.b_law_same .nil pass0 (pa_cons (pe_fld (pv 3) rfl) (pa_cons (pv 2) pa_nil))))))))), ?_⟩
  refine ⟨_, rfl, p, ns, rfl, hS, hn, fun b g H1 s1 _ _ B1 => ?_⟩
  refine ⟨_, rfl, b, g, rfl, B1, fun t R H2 f2 B2 hT2 gR l1 l2 => ?_⟩
  -- web = Web(values)
  refine ⟨_, rfl, ?_⟩
  intro x dx hx hdx ne
  have sA : Same H2 (upd (upd H2 dx (.own x)) x (.ins a.c_Web dx [])) := (same_new hdx).trans (same_new (by rw [upd_ne ne.symm]; exact hx))
  refine ⟨x, dx, t, R, rfl, upd_same, hT2.tk (Tk.of sA), gR, l2, fun H3 kp e3 => ⟨rfl, ?_⟩⟩
  have sB : Same H2 H3 := fun b o e => kp b o (sA b o e) (ne_of_none e hx)
  refine ⟨_, rfl, by decide, by decide, for_range (lo := 0) (n := 4) (fun i σ H' => ∃ v4 v5 v6 v7 v8 v9, σ = [some (.ref p), some (.ref b), some (.ref t), some (.ref x), v4, v5, v6, v7, v8, v9, none] ∧ BagAt H' b g ∧ WebV K a.c_Web H' x R ∧ RowsT K H' t R) ?_ ?_ ?_⟩
  · exact ⟨none, none, none, none, none, none, rfl, B2.same sB, ⟨dx, t, e3, hT2.tk (Tk.of sB)⟩, hT2.tk (Tk.of sB)⟩
  · rintro i σ H4 hi ⟨v4, v5, v6, v7, v8, v9, rfl, B4, hW4, hT4⟩
    obtain ⟨ts, t1, t2, _⟩ := id hT4
    -- value = len(values) - 1
    refine ⟨_, rfl, t, ts, rfl, .inr t1, _, _, rfl, rfl, ?_⟩
    refine ⟨fun σ H' => ∃ v : Nat, σ = [some (.ref p), some (.ref b), some (.ref t), some (.ref x), some (.int (0 + (i : Nat))), some (nv v), v6, v7, v8, v9, none] ∧ v < R.length ∧ BagAt H' b g ∧ WebV K a.c_Web H' x R ∧ RowsT K H' t R, ?_, ?_⟩
    · refine ⟨_, rfl, _, _, rfl, rfl, _, rfl, ite2 (fun _ => ?_) (fun _ => ?_)⟩
      · refine ⟨_, rfl, _, rfl, t, ts, rfl, .inr t1, b, g, R.length, ?_, by omega, by omega, B4, fun r H5 hr5 B5 f5 => ?_⟩
        · show [V.ref b, V.int ((ts.length : Nat) : Int)] = [V.ref b, nv R.length]
          rw [t2]
          rfl
        · exact ⟨r, rfl, hr5, B5, hW4.tk (f5.tk B4), hT4.tk (f5.tk B4)⟩
      · refine ⟨R.length - 1, ?_, by omega, B4, hW4, hT4⟩
        have e : ((ts.length : Nat) : Int) - 1 = ((R.length - 1 : Nat) : Int) := by omega
        exact congrArg (fun y => [some (V.ref p), some (V.ref b), some (V.ref t), some (V.ref x), some (V.int (0 + (i : Nat))), some (V.int y), v6, v7, v8, v9, none]) e
    · rintro σ H5 ⟨v, rfl, hv, B5, hW5, hT5⟩
      have lB : (belowM R v).length ≤ 200 := by
        have := belowM_len (R := R) (v := v)
        omega
      have gc := good_cutM gR hv
      have okB : okd 4 (.tuple ((belowM R v).map dN)) := okd_up (okd_up (okd_nums (by omega)))
      -- some = tuple(_law_below(values, value))
      refine ⟨_, rfl, _, rfl, t, R, v, rfl, hT5, gR, hv, by omega, fun l H6 s6 _ hl6 => ⟨l, _, rfl, .inl ⟨SqL.of hl6, fun q hq => ?_⟩⟩⟩
      have S7 : Same H5 (upd H6 q (.tup ((belowM R v).map nv))) := s6.trans (same_new hq)
      have hq7 : IT K (upd H6 q (.tup ((belowM R v).map nv))) q (belowM R v) := .inl (.inl upd_same)
      generalize upd H6 q (.tup ((belowM R v).map nv)) = H7 at S7 hq7
      -- same(below(web, value), some)
      refine ⟨_, rfl, _, rfl, x, R, v, rfl, hW5.tk (Tk.of S7), gR, hv, by omega, fun u H8 s8 _ hu8 => ?_⟩
      refine ⟨_, rfl, _, _, _, rfl, it_dp hu8, it_dp ((Tk.of s8).t hq7), okB, fun H9 s9 => ⟨_, rfl, iteF ?_⟩⟩
      have S9 : Same H7 H9 := s8.trans s9
      -- due = _law_cut(values, value)
      refine ⟨_, rfl, _, rfl, t, R, v, rfl, hT5.tk (Tk.of (S7.trans S9)), gR, hv, by omega, fun dd H10 s10 _ hd10 => ?_⟩
      have S10 : Same H7 H10 := S9.trans s10
      refine ⟨_, rfl, _, rfl, _, rfl, x, dd, R, v, rfl, hW5.tk (Tk.of (S7.trans S10)), gR, hv, l2, hd10, fun H11 s11 => ⟨_, rfl, iteF ?_⟩⟩
      have S11 : Same H7 H11 := S10.trans s11
      obtain ⟨ds, d1, d2, _⟩ := hd10.tk (Tk.of s11)
      refine ⟨_, rfl, dd, ds, rfl, .inr d1, _, rfl, q, _, rfl, .inr ((Tk.of S11).t hq7), rfl, _, rfl, iteD ?_ ?_⟩
      · rw [d2, cutM_len, List.length_map]
        simp
      -- cut_here = part_web(web, value)
      refine ⟨_, rfl, _, rfl, x, R, v, rfl, hW5.tk (Tk.of (S7.trans S11)), gR, hv, by omega, fun c H12 s12 _ hc12 => ?_⟩
      have S12 : Same H7 H12 := S11.trans s12
      have T12 : Tk H5 H12 := Tk.of (S7.trans S12)
      have B12 : BagAt H12 b g := B5.same (S7.trans S12)
      have hq12 : IT K H12 q (belowM R v) := (Tk.of S12).t hq7
      have hB0 := (belowM_last gR (v := v)).1
      -- at = pick(bag, len(some))
      refine ⟨_, rfl, _, rfl, q, _, rfl, .inr hq12, b, g, (belowM R v).length, ?_, hB0, by omega, B12, fun at_ H13 hat B13 f13 => ?_⟩
      · rw [List.length_map]
        rfl
      have T13 : Tk H12 H13 := f13.tk B12
      have hq13 : IT K H13 q (belowM R v) := T13.t hq12
      have hT13 : RowsT K H13 t R := (hT5.tk T12).tk T13
      have hW13 : WebV K a.c_Web H13 x R := (hW5.tk T12).tk T13
      have hc13 : WebV K a.c_Web H13 c (cutM R v) := hc12.tk T13
      have hatB : ((belowM R v).map nv)[at_]? = some (nv ((belowM R v).getD at_ 0)) := by
        rw [List.getElem?_map, List.getElem?_eq_getElem hat, gd hat]
        rfl
      have hbl : (belowM R v).getD at_ 0 < R.length := by
        have := belowM_lt gR (getD_mem hat)
        omega
      have lc : (cutM R v).length ≤ 200 := by
        rw [cutM_len]
        exact lB
      have hatc : at_ < (cutM R v).length := by
        rw [cutM_len]
        exact hat
      -- is_cut(cut_here, at, _law_cut(values, some[at]))
      refine ⟨_, rfl, _, rfl, _, rfl, _, rfl, _, rfl, q, _, _, _, rfl, rfl, hq13, atI_nat hatB, t, R, (belowM R v).getD at_ 0, rfl, hT13, gR, hbl, by omega, fun d2 H14 s14 _ hd14 => ?_⟩
      rw [← cut_cut gR hv hat] at hd14
      refine ⟨c, d2, cutM R v, at_, rfl, hc13.tk (Tk.of s14), gc, hatc, lc, hd14, fun H15 s15 => ⟨_, rfl, iteF ?_⟩⟩
      have S15 : Same H13 H15 := s14.trans s15
      -- the places below
      refine ⟨_, rfl, _, rfl, c, cutM R v, at_, rfl, hc13.tk (Tk.of S15), gc, hatc, by omega, fun u H16 s16 _ hu16 => ⟨u, rfl, ⟨_, hu16⟩, fun D hD => ?_⟩⟩
      have S16 : Same H13 H16 := S15.trans s16
      refine lc_tup (xs := (belowM (cutM R v) at_).map nv) (fun j H' => Same H16 H' ∧ H' D = some (.lst ((((belowM (cutM R v) at_).take j).map fun y => (belowM R v).getD y 0).map nv))) ⟨same_new hD, upd_same⟩ (fun j H' _ z => (Tk.of z.1).t hu16) (fun j y H17 hy z => ?_) (fun H17 z => ?_)
      · obtain ⟨z1, z2⟩ := z
        rw [List.getElem?_map] at hy
        obtain ⟨y, hy2, rfl⟩ := Option.map_eq_some_iff.mp hy
        have hyl : y < (belowM R v).length := ((reach_cut gR hat).mp ((mem_belowM gc).mp (List.mem_of_getElem? hy2))).1
        have hjl : j < (belowM (cutM R v) at_).length := (List.getElem?_eq_some_iff.mp hy2).1
        have hjl2 : (belowM (cutM R v) at_).length ≤ 201 := by
          have := belowM_len (R := cutM R v) (v := at_)
          omega
        have hyB : ((belowM R v).map nv)[y]? = some (nv ((belowM R v).getD y 0)) := by
          rw [List.getElem?_map, List.getElem?_eq_getElem hyl, gd hyl]
          rfl
        refine ⟨rfl, ?_⟩
        refine ⟨_, rfl, _, rfl, q, _, _, _, rfl, rfl, (Tk.of (S16.trans z1)).t hq13, atI_nat hyB, ?_⟩
        refine ⟨_, z2, lt_line (by rw [List.length_map, List.length_map, List.length_take]; omega), fun b o e => ?_, ?_⟩
        · rw [upd_ne (ne_of_none e hD)]
          exact z1 b o e
        · rw [upd_same, List.take_add_one, hy2, List.map_append, List.map_append]
          rfl
      · obtain ⟨z1, z2⟩ := z
        rw [List.length_map, List.take_length, below_cut gR hv hat] at z2
        refine ⟨D, _, rfl, .inl ⟨SqL.of z2, fun e1 he1 => ?_⟩⟩
        have S18 : Same H13 (upd H17 e1 (.tup ((belowM R ((belowM R v).getD at_ 0)).map nv))) := (S16.trans z1).trans (same_new he1)
        have he18 : IT K (upd H17 e1 (.tup ((belowM R ((belowM R v).getD at_ 0)).map nv))) e1 (belowM R ((belowM R v).getD at_ 0)) := .inl (.inl upd_same)
        generalize upd H17 e1 (.tup ((belowM R ((belowM R v).getD at_ 0)).map nv)) = H18 at S18 he18
        refine ⟨_, rfl, _, rfl, _, rfl, q, _, _, _, rfl, rfl, (Tk.of S18).t hq13, atI_nat hatB, t, R, (belowM R v).getD at_ 0, rfl, hT13.tk (Tk.of S18), gR, hbl, by omega, fun l2 H19 s19 _ hl19 => ⟨l2, _, rfl, .inl ⟨SqL.of hl19, fun e2 he2 => ?_⟩⟩⟩
        have S20 : Same H18 (upd H19 e2 (.tup ((belowM R ((belowM R v).getD at_ 0)).map nv))) := s19.trans (same_new he2)
        have he20 : IT K (upd H19 e2 (.tup ((belowM R ((belowM R v).getD at_ 0)).map nv))) e2 (belowM R ((belowM R v).getD at_ 0)) := .inl (.inl upd_same)
        have okC : okd 4 (.tuple ((belowM R ((belowM R v).getD at_ 0)).map dN)) := by
          have := belowM_len (R := R) (v := (belowM R v).getD at_ 0)
          exact okd_up (okd_up (okd_nums (by omega)))
        refine ⟨_, _, _, rfl, it_dp ((Tk.of S20).t he18), it_dp he20, okC, fun H21 s21 => ⟨_, rfl, iteF ?_⟩⟩
        have S21 : Same H13 H21 := (S18.trans S20).trans s21
        exact ⟨_, _, _, _, _, _, rfl, B13.same S21, hW13.tk (Tk.of S21), hT13.tk (Tk.of S21)⟩
  · rintro σ H4 ⟨v4, v5, v6, v7, v8, v9, rfl, B4, ⟨dy, q, e1, e2⟩, hT4⟩
    refine ⟨_, rfl, x, a.c_Web, dy, _, _, rfl, e1, T.C_Web, T.N_rows, rfl, _, rfl, _, _, _, rfl, rows_dp e2, rows_dp hT4, okd_rows gR (by omega), fun H5 _ => k H5⟩
end
end Lk
namespace Lk
open PySem L2
theorem kit_self {K : PySem.W.Frag} {C : Addr} : PySem.W.kitOne K (.ref C) (.ref C) = some true := by
  unfold PySem.W.kitOne
  rw [if_pos (by simp)]
theorem all_mk {l : PySem.W.OpenLaw} {w : World} {K : PySem.W.Frag} {h : Heap} {mg : Str → Option Value} {fa : Addr} {f_is_integer f_is_between f_is_tuple_of f_Web_init f_Web_eq f_is_value f_web_of_rows f_check_value f_below f_part_web f_law_bag f_law_pick f_law_same f_law_free_values f_law_below f_law_cut f_law_is_cut f_law : Addr} {c_Web : Addr} (X : K.In h) (G : h.Ns mainGlobals mg) (hfa : mg "law" = some (.ref fa))
    (a_Web : PySem.W.nsIn K mainGlobals "Web" = some (some (.ref c_Web)))
    {od_is_integer an_is_integer : Option Addr} {sl_is_integer : Array (Option Value)} {oc_is_integer kV_is_integer dc_is_integer pm_is_integer cd_is_integer ct_is_integer : Value}
    (a_is_integer : PySem.W.nsIn K mainGlobals "is_integer" = some (some (.ref f_is_integer)))
    (l_is_integer : K.lookup f_is_integer = some ⟨oc_is_integer, od_is_integer, .func (PySem.W.fnOf "is_integer" "is_integer" (defArgs s_is_integer) (defBody s_is_integer) (defScope s_is_integer) .none kV_is_integer dc_is_integer pm_is_integer an_is_integer cd_is_integer ct_is_integer), sl_is_integer⟩) (c_is_integer : PySem.W.codeIn K cd_is_integer "is_integer" = true) (k_is_integer : PySem.W.keepIn K (.ref f_is_integer) = true)
    {od_is_between an_is_between : Option Addr} {sl_is_between : Array (Option Value)} {oc_is_between kV_is_between dc_is_between pm_is_between cd_is_between ct_is_between : Value}
    (a_is_between : PySem.W.nsIn K mainGlobals "is_between" = some (some (.ref f_is_between)))
    (l_is_between : K.lookup f_is_between = some ⟨oc_is_between, od_is_between, .func (PySem.W.fnOf "is_between" "is_between" (defArgs s_is_between) (defBody s_is_between) (defScope s_is_between) .none kV_is_between dc_is_between pm_is_between an_is_between cd_is_between ct_is_between), sl_is_between⟩) (c_is_between : PySem.W.codeIn K cd_is_between "is_between" = true) (k_is_between : PySem.W.keepIn K (.ref f_is_between) = true)
    {od_is_tuple_of an_is_tuple_of : Option Addr} {sl_is_tuple_of : Array (Option Value)} {oc_is_tuple_of kV_is_tuple_of dc_is_tuple_of pm_is_tuple_of cd_is_tuple_of ct_is_tuple_of : Value}
    (a_is_tuple_of : PySem.W.nsIn K mainGlobals "is_tuple_of" = some (some (.ref f_is_tuple_of)))
    (l_is_tuple_of : K.lookup f_is_tuple_of = some ⟨oc_is_tuple_of, od_is_tuple_of, .func (PySem.W.fnOf "is_tuple_of" "is_tuple_of" (defArgs s_is_tuple_of) (defBody s_is_tuple_of) (defScope s_is_tuple_of) .none kV_is_tuple_of dc_is_tuple_of pm_is_tuple_of an_is_tuple_of cd_is_tuple_of ct_is_tuple_of), sl_is_tuple_of⟩) (c_is_tuple_of : PySem.W.codeIn K cd_is_tuple_of "is_tuple_of" = true) (k_is_tuple_of : PySem.W.keepIn K (.ref f_is_tuple_of) = true)
    {od_Web_init an_Web_init : Option Addr} {sl_Web_init : Array (Option Value)} {oc_Web_init kV_Web_init dc_Web_init pm_Web_init cd_Web_init ct_Web_init : Value}
    (a_Web_init : PySem.W.findIn K (.ref c_Web) "__init__" = some (some (.ref f_Web_init)))
    (l_Web_init : K.lookup f_Web_init = some ⟨oc_Web_init, od_Web_init, .func (PySem.W.fnOf "__init__" "Web.__init__" (defArgs s_Web_init) (defBody s_Web_init) (defScope s_Web_init) .none kV_Web_init dc_Web_init pm_Web_init an_Web_init cd_Web_init ct_Web_init), sl_Web_init⟩) (c_Web_init : PySem.W.codeIn K cd_Web_init "Web.__init__" = true) (k_Web_init : PySem.W.keepIn K (.ref f_Web_init) = true)
    {od_Web_eq an_Web_eq : Option Addr} {sl_Web_eq : Array (Option Value)} {oc_Web_eq kV_Web_eq dc_Web_eq pm_Web_eq cd_Web_eq ct_Web_eq : Value}
    (a_Web_eq : PySem.W.findIn K (.ref c_Web) "__eq__" = some (some (.ref f_Web_eq)))
    (l_Web_eq : K.lookup f_Web_eq = some ⟨oc_Web_eq, od_Web_eq, .func (PySem.W.fnOf "__eq__" "Web.__eq__" (defArgs s_Web_eq) (defBody s_Web_eq) (defScope s_Web_eq) .none kV_Web_eq dc_Web_eq pm_Web_eq an_Web_eq cd_Web_eq ct_Web_eq), sl_Web_eq⟩) (c_Web_eq : PySem.W.codeIn K cd_Web_eq "Web.__eq__" = true) (k_Web_eq : PySem.W.keepIn K (.ref f_Web_eq) = true)
    {od_is_value an_is_value : Option Addr} {sl_is_value : Array (Option Value)} {oc_is_value kV_is_value dc_is_value pm_is_value cd_is_value ct_is_value : Value}
    (a_is_value : PySem.W.nsIn K mainGlobals "_is_value" = some (some (.ref f_is_value)))
    (l_is_value : K.lookup f_is_value = some ⟨oc_is_value, od_is_value, .func (PySem.W.fnOf "_is_value" "_is_value" (defArgs s_is_value) (defBody s_is_value) (defScope s_is_value) .none kV_is_value dc_is_value pm_is_value an_is_value cd_is_value ct_is_value), sl_is_value⟩) (c_is_value : PySem.W.codeIn K cd_is_value "_is_value" = true) (k_is_value : PySem.W.keepIn K (.ref f_is_value) = true)
    {od_web_of_rows an_web_of_rows : Option Addr} {sl_web_of_rows : Array (Option Value)} {oc_web_of_rows kV_web_of_rows dc_web_of_rows pm_web_of_rows cd_web_of_rows ct_web_of_rows : Value}
    (a_web_of_rows : PySem.W.nsIn K mainGlobals "web_of_rows" = some (some (.ref f_web_of_rows)))
    (l_web_of_rows : K.lookup f_web_of_rows = some ⟨oc_web_of_rows, od_web_of_rows, .func (PySem.W.fnOf "web_of_rows" "web_of_rows" (defArgs s_web_of_rows) (defBody s_web_of_rows) (defScope s_web_of_rows) .none kV_web_of_rows dc_web_of_rows pm_web_of_rows an_web_of_rows cd_web_of_rows ct_web_of_rows), sl_web_of_rows⟩) (c_web_of_rows : PySem.W.codeIn K cd_web_of_rows "web_of_rows" = true) (k_web_of_rows : PySem.W.keepIn K (.ref f_web_of_rows) = true)
    {od_check_value an_check_value : Option Addr} {sl_check_value : Array (Option Value)} {oc_check_value kV_check_value dc_check_value pm_check_value cd_check_value ct_check_value : Value}
    (a_check_value : PySem.W.nsIn K mainGlobals "_check_value" = some (some (.ref f_check_value)))
    (l_check_value : K.lookup f_check_value = some ⟨oc_check_value, od_check_value, .func (PySem.W.fnOf "_check_value" "_check_value" (defArgs s_check_value) (defBody s_check_value) (defScope s_check_value) .none kV_check_value dc_check_value pm_check_value an_check_value cd_check_value ct_check_value), sl_check_value⟩) (c_check_value : PySem.W.codeIn K cd_check_value "_check_value" = true) (k_check_value : PySem.W.keepIn K (.ref f_check_value) = true)
    {od_below an_below : Option Addr} {sl_below : Array (Option Value)} {oc_below kV_below dc_below pm_below cd_below ct_below : Value}
    (a_below : PySem.W.nsIn K mainGlobals "below" = some (some (.ref f_below)))
    (l_below : K.lookup f_below = some ⟨oc_below, od_below, .func (PySem.W.fnOf "below" "below" (defArgs s_below) (defBody s_below) (defScope s_below) .none kV_below dc_below pm_below an_below cd_below ct_below), sl_below⟩) (c_below : PySem.W.codeIn K cd_below "below" = true) (k_below : PySem.W.keepIn K (.ref f_below) = true)
    {od_part_web an_part_web : Option Addr} {sl_part_web : Array (Option Value)} {oc_part_web kV_part_web dc_part_web pm_part_web cd_part_web ct_part_web : Value}
    (a_part_web : PySem.W.nsIn K mainGlobals "part_web" = some (some (.ref f_part_web)))
    (l_part_web : K.lookup f_part_web = some ⟨oc_part_web, od_part_web, .func (PySem.W.fnOf "part_web" "part_web" (defArgs s_part_web) (defBody s_part_web) (defScope s_part_web) .none kV_part_web dc_part_web pm_part_web an_part_web cd_part_web ct_part_web), sl_part_web⟩) (c_part_web : PySem.W.codeIn K cd_part_web "part_web" = true) (k_part_web : PySem.W.keepIn K (.ref f_part_web) = true)
    {od_law_bag an_law_bag : Option Addr} {sl_law_bag : Array (Option Value)} {oc_law_bag kV_law_bag dc_law_bag pm_law_bag cd_law_bag ct_law_bag : Value}
    (a_law_bag : PySem.W.nsIn K mainGlobals "_law_bag" = some (some (.ref f_law_bag)))
    (l_law_bag : K.lookup f_law_bag = some ⟨oc_law_bag, od_law_bag, .func (PySem.W.fnOf "_law_bag" "_law_bag" (defArgs s_law_bag) (defBody s_law_bag) (defScope s_law_bag) .none kV_law_bag dc_law_bag pm_law_bag an_law_bag cd_law_bag ct_law_bag), sl_law_bag⟩) (c_law_bag : PySem.W.codeIn K cd_law_bag "_law_bag" = true) (k_law_bag : PySem.W.keepIn K (.ref f_law_bag) = true)
    {od_law_pick an_law_pick : Option Addr} {sl_law_pick : Array (Option Value)} {oc_law_pick kV_law_pick dc_law_pick pm_law_pick cd_law_pick ct_law_pick : Value}
    (a_law_pick : PySem.W.nsIn K mainGlobals "_law_pick" = some (some (.ref f_law_pick)))
    (l_law_pick : K.lookup f_law_pick = some ⟨oc_law_pick, od_law_pick, .func (PySem.W.fnOf "_law_pick" "_law_pick" (defArgs s_law_pick) (defBody s_law_pick) (defScope s_law_pick) .none kV_law_pick dc_law_pick pm_law_pick an_law_pick cd_law_pick ct_law_pick), sl_law_pick⟩) (c_law_pick : PySem.W.codeIn K cd_law_pick "_law_pick" = true) (k_law_pick : PySem.W.keepIn K (.ref f_law_pick) = true)
    {od_law_same an_law_same : Option Addr} {sl_law_same : Array (Option Value)} {oc_law_same kV_law_same dc_law_same pm_law_same cd_law_same ct_law_same : Value}
    (a_law_same : PySem.W.nsIn K mainGlobals "_law_same" = some (some (.ref f_law_same)))
    (l_law_same : K.lookup f_law_same = some ⟨oc_law_same, od_law_same, .func (PySem.W.fnOf "_law_same" "_law_same" (defArgs s_law_same) (defBody s_law_same) (defScope s_law_same) .none kV_law_same dc_law_same pm_law_same an_law_same cd_law_same ct_law_same), sl_law_same⟩) (c_law_same : PySem.W.codeIn K cd_law_same "_law_same" = true) (k_law_same : PySem.W.keepIn K (.ref f_law_same) = true)
    {od_law_free_values an_law_free_values : Option Addr} {sl_law_free_values : Array (Option Value)} {oc_law_free_values kV_law_free_values dc_law_free_values pm_law_free_values cd_law_free_values ct_law_free_values : Value}
    (a_law_free_values : PySem.W.nsIn K mainGlobals "_law_free_values" = some (some (.ref f_law_free_values)))
    (l_law_free_values : K.lookup f_law_free_values = some ⟨oc_law_free_values, od_law_free_values, .func (PySem.W.fnOf "_law_free_values" "_law_free_values" (defArgs s_law_free_values) (defBody s_law_free_values) (defScope s_law_free_values) .none kV_law_free_values dc_law_free_values pm_law_free_values an_law_free_values cd_law_free_values ct_law_free_values), sl_law_free_values⟩) (c_law_free_values : PySem.W.codeIn K cd_law_free_values "_law_free_values" = true) (k_law_free_values : PySem.W.keepIn K (.ref f_law_free_values) = true)
    {od_law_below an_law_below : Option Addr} {sl_law_below : Array (Option Value)} {oc_law_below kV_law_below dc_law_below pm_law_below cd_law_below ct_law_below : Value}
    (a_law_below : PySem.W.nsIn K mainGlobals "_law_below" = some (some (.ref f_law_below)))
    (l_law_below : K.lookup f_law_below = some ⟨oc_law_below, od_law_below, .func (PySem.W.fnOf "_law_below" "_law_below" (defArgs s_law_below) (defBody s_law_below) (defScope s_law_below) .none kV_law_below dc_law_below pm_law_below an_law_below cd_law_below ct_law_below), sl_law_below⟩) (c_law_below : PySem.W.codeIn K cd_law_below "_law_below" = true) (k_law_below : PySem.W.keepIn K (.ref f_law_below) = true)
    {od_law_cut an_law_cut : Option Addr} {sl_law_cut : Array (Option Value)} {oc_law_cut kV_law_cut dc_law_cut pm_law_cut cd_law_cut ct_law_cut : Value}
    (a_law_cut : PySem.W.nsIn K mainGlobals "_law_cut" = some (some (.ref f_law_cut)))
    (l_law_cut : K.lookup f_law_cut = some ⟨oc_law_cut, od_law_cut, .func (PySem.W.fnOf "_law_cut" "_law_cut" (defArgs s_law_cut) (defBody s_law_cut) (defScope s_law_cut) .none kV_law_cut dc_law_cut pm_law_cut an_law_cut cd_law_cut ct_law_cut), sl_law_cut⟩) (c_law_cut : PySem.W.codeIn K cd_law_cut "_law_cut" = true) (k_law_cut : PySem.W.keepIn K (.ref f_law_cut) = true)
    {od_law_is_cut an_law_is_cut : Option Addr} {sl_law_is_cut : Array (Option Value)} {oc_law_is_cut kV_law_is_cut dc_law_is_cut pm_law_is_cut cd_law_is_cut ct_law_is_cut : Value}
    (a_law_is_cut : PySem.W.nsIn K mainGlobals "_law_is_cut" = some (some (.ref f_law_is_cut)))
    (l_law_is_cut : K.lookup f_law_is_cut = some ⟨oc_law_is_cut, od_law_is_cut, .func (PySem.W.fnOf "_law_is_cut" "_law_is_cut" (defArgs s_law_is_cut) (defBody s_law_is_cut) (defScope s_law_is_cut) .none kV_law_is_cut dc_law_is_cut pm_law_is_cut an_law_is_cut cd_law_is_cut ct_law_is_cut), sl_law_is_cut⟩) (c_law_is_cut : PySem.W.codeIn K cd_law_is_cut "_law_is_cut" = true) (k_law_is_cut : PySem.W.keepIn K (.ref f_law_is_cut) = true)
    {od_law an_law : Option Addr} {sl_law : Array (Option Value)} {oc_law kV_law dc_law pm_law cd_law ct_law : Value}
    (a_law : PySem.W.nsIn K mainGlobals "law" = some (some (.ref f_law)))
    (l_law : K.lookup f_law = some ⟨oc_law, od_law, .func (PySem.W.fnOf "law" "law" (defArgs s_law) (defBody s_law) (defScope s_law) .none kV_law dc_law pm_law an_law cd_law ct_law), sl_law⟩) (c_law : PySem.W.codeIn K cd_law "law" = true) (k_law : PySem.W.keepIn K (.ref f_law) = true)
    (z_abs : PySem.W.nsIn K mainGlobals "abs" = some none)
    (z_all : PySem.W.nsIn K mainGlobals "all" = some none)
    (z_bool : PySem.W.nsIn K mainGlobals "bool" = some none)
    (z_enumerate : PySem.W.nsIn K mainGlobals "enumerate" = some none)
    (z_int : PySem.W.nsIn K mainGlobals "int" = some none)
    (z_isinstance : PySem.W.nsIn K mainGlobals "isinstance" = some none)
    (z_len : PySem.W.nsIn K mainGlobals "len" = some none)
    (z_list : PySem.W.nsIn K mainGlobals "list" = some none)
    (z_max : PySem.W.nsIn K mainGlobals "max" = some none)
    (z_range : PySem.W.nsIn K mainGlobals "range" = some none)
    (z_sorted : PySem.W.nsIn K mainGlobals "sorted" = some none)
    (z_str : PySem.W.nsIn K mainGlobals "str" = some none)
    (z_sum : PySem.W.nsIn K mainGlobals "sum" = some none)
    (z_tuple : PySem.W.nsIn K mainGlobals "tuple" = some none)
    (pg_Web : PySem.W.plainGet K c_Web Str.empty = true)
    (hd_Web : PySem.W.hasDictIn K c_Web = true)
    (po_Web : PySem.W.plainOver K c_Web = true)
    (sa_Web : PySem.W.findIn K (.ref c_Web) "__setattr__" = some (some (.builtin "object.__setattr__")))
    (nr_Web : PySem.W.findIn K (.ref c_Web) "rows" = some none)
    (mk_Web : PySem.W.makesIn K c_Web = true)
    (fi_Web_init : PySem.W.isFn K (.ref f_Web_init) = true)
    (kc_Web : PySem.W.keepIn K (.ref c_Web) = true)
    (ha_Web : PySem.W.findIn K (.ref c_Web) "__class__" = some (some (.builtin "object.__class__")))
    (hn_Web : PySem.W.specialIn K (.builtin "object.__class__") "__get__" = some (some (.builtin "getset_descriptor.__get__")))
    (ht_Web : PySem.W.takesIn K (.builtin "object.__class__") = some true)
    (hm_Web : PySem.W.mroIn K c_Web (.type "object") = some true)
    (fe_Web_eq : PySem.W.isFn K (.ref f_Web_eq) = true)
    : ∃ fd : FuncData, (∀ (s : Shared) (v : Value), BindsTo s fd ⟨[v], []⟩ [("_law_script", v)]) ∧ ∀ base : Heap, K.In base → base.Ns mainGlobals mg → FnOk l.prog w K mg base CX0 9 fa fd ["_law_script"] (spLaw K) := by
  have e := hfa.symm.trans (PySem.W.mg_of X G a_law)
  cases e
  have F_is_integer := fun_mk (st := s_is_integer) l_is_integer c_is_integer k_is_integer
  have F_is_between := fun_mk (st := s_is_between) l_is_between c_is_between k_is_between
  have F_is_tuple_of := fun_mk (st := s_is_tuple_of) l_is_tuple_of c_is_tuple_of k_is_tuple_of
  have F_Web_init := fun_mk (st := s_Web_init) l_Web_init c_Web_init k_Web_init
  have F_Web_eq := fun_mk (st := s_Web_eq) l_Web_eq c_Web_eq k_Web_eq
  have F_is_value := fun_mk (st := s_is_value) l_is_value c_is_value k_is_value
  have F_web_of_rows := fun_mk (st := s_web_of_rows) l_web_of_rows c_web_of_rows k_web_of_rows
  have F_check_value := fun_mk (st := s_check_value) l_check_value c_check_value k_check_value
  have F_below := fun_mk (st := s_below) l_below c_below k_below
  have F_part_web := fun_mk (st := s_part_web) l_part_web c_part_web k_part_web
  have F_law_bag := fun_mk (st := s_law_bag) l_law_bag c_law_bag k_law_bag
  have F_law_pick := fun_mk (st := s_law_pick) l_law_pick c_law_pick k_law_pick
  have F_law_same := fun_mk (st := s_law_same) l_law_same c_law_same k_law_same
  have F_law_free_values := fun_mk (st := s_law_free_values) l_law_free_values c_law_free_values k_law_free_values
  have F_law_below := fun_mk (st := s_law_below) l_law_below c_law_below k_law_below
  have F_law_cut := fun_mk (st := s_law_cut) l_law_cut c_law_cut k_law_cut
  have F_law_is_cut := fun_mk (st := s_law_is_cut) l_law_is_cut c_law_is_cut k_law_is_cut
  have F_law := fun_mk (st := s_law) l_law c_law k_law
  let A : Adr := {
    f_is_integer := f_is_integer, d_is_integer := (PySem.W.fnOf "is_integer" "is_integer" (defArgs s_is_integer) (defBody s_is_integer) (defScope s_is_integer) .none kV_is_integer dc_is_integer pm_is_integer an_is_integer cd_is_integer ct_is_integer),
    f_is_between := f_is_between, d_is_between := (PySem.W.fnOf "is_between" "is_between" (defArgs s_is_between) (defBody s_is_between) (defScope s_is_between) .none kV_is_between dc_is_between pm_is_between an_is_between cd_is_between ct_is_between),
    f_is_tuple_of := f_is_tuple_of, d_is_tuple_of := (PySem.W.fnOf "is_tuple_of" "is_tuple_of" (defArgs s_is_tuple_of) (defBody s_is_tuple_of) (defScope s_is_tuple_of) .none kV_is_tuple_of dc_is_tuple_of pm_is_tuple_of an_is_tuple_of cd_is_tuple_of ct_is_tuple_of),
    f_Web_init := f_Web_init, d_Web_init := (PySem.W.fnOf "__init__" "Web.__init__" (defArgs s_Web_init) (defBody s_Web_init) (defScope s_Web_init) .none kV_Web_init dc_Web_init pm_Web_init an_Web_init cd_Web_init ct_Web_init),
    f_Web_eq := f_Web_eq, d_Web_eq := (PySem.W.fnOf "__eq__" "Web.__eq__" (defArgs s_Web_eq) (defBody s_Web_eq) (defScope s_Web_eq) .none kV_Web_eq dc_Web_eq pm_Web_eq an_Web_eq cd_Web_eq ct_Web_eq),
    f_is_value := f_is_value, d_is_value := (PySem.W.fnOf "_is_value" "_is_value" (defArgs s_is_value) (defBody s_is_value) (defScope s_is_value) .none kV_is_value dc_is_value pm_is_value an_is_value cd_is_value ct_is_value),
    f_web_of_rows := f_web_of_rows, d_web_of_rows := (PySem.W.fnOf "web_of_rows" "web_of_rows" (defArgs s_web_of_rows) (defBody s_web_of_rows) (defScope s_web_of_rows) .none kV_web_of_rows dc_web_of_rows pm_web_of_rows an_web_of_rows cd_web_of_rows ct_web_of_rows),
    f_check_value := f_check_value, d_check_value := (PySem.W.fnOf "_check_value" "_check_value" (defArgs s_check_value) (defBody s_check_value) (defScope s_check_value) .none kV_check_value dc_check_value pm_check_value an_check_value cd_check_value ct_check_value),
    f_below := f_below, d_below := (PySem.W.fnOf "below" "below" (defArgs s_below) (defBody s_below) (defScope s_below) .none kV_below dc_below pm_below an_below cd_below ct_below),
    f_part_web := f_part_web, d_part_web := (PySem.W.fnOf "part_web" "part_web" (defArgs s_part_web) (defBody s_part_web) (defScope s_part_web) .none kV_part_web dc_part_web pm_part_web an_part_web cd_part_web ct_part_web),
    f_law_bag := f_law_bag, d_law_bag := (PySem.W.fnOf "_law_bag" "_law_bag" (defArgs s_law_bag) (defBody s_law_bag) (defScope s_law_bag) .none kV_law_bag dc_law_bag pm_law_bag an_law_bag cd_law_bag ct_law_bag),
    f_law_pick := f_law_pick, d_law_pick := (PySem.W.fnOf "_law_pick" "_law_pick" (defArgs s_law_pick) (defBody s_law_pick) (defScope s_law_pick) .none kV_law_pick dc_law_pick pm_law_pick an_law_pick cd_law_pick ct_law_pick),
    f_law_same := f_law_same, d_law_same := (PySem.W.fnOf "_law_same" "_law_same" (defArgs s_law_same) (defBody s_law_same) (defScope s_law_same) .none kV_law_same dc_law_same pm_law_same an_law_same cd_law_same ct_law_same),
    f_law_free_values := f_law_free_values, d_law_free_values := (PySem.W.fnOf "_law_free_values" "_law_free_values" (defArgs s_law_free_values) (defBody s_law_free_values) (defScope s_law_free_values) .none kV_law_free_values dc_law_free_values pm_law_free_values an_law_free_values cd_law_free_values ct_law_free_values),
    f_law_below := f_law_below, d_law_below := (PySem.W.fnOf "_law_below" "_law_below" (defArgs s_law_below) (defBody s_law_below) (defScope s_law_below) .none kV_law_below dc_law_below pm_law_below an_law_below cd_law_below ct_law_below),
    f_law_cut := f_law_cut, d_law_cut := (PySem.W.fnOf "_law_cut" "_law_cut" (defArgs s_law_cut) (defBody s_law_cut) (defScope s_law_cut) .none kV_law_cut dc_law_cut pm_law_cut an_law_cut cd_law_cut ct_law_cut),
    f_law_is_cut := f_law_is_cut, d_law_is_cut := (PySem.W.fnOf "_law_is_cut" "_law_is_cut" (defArgs s_law_is_cut) (defBody s_law_is_cut) (defScope s_law_is_cut) .none kV_law_is_cut dc_law_is_cut pm_law_is_cut an_law_is_cut cd_law_is_cut ct_law_is_cut),
    f_law := fa, d_law := (PySem.W.fnOf "law" "law" (defArgs s_law) (defBody s_law) (defScope s_law) .none kV_law dc_law pm_law an_law cd_law ct_law),
    c_Web := c_Web }
  have T : Txt K mg A := {
    F_is_integer := F_is_integer, b_is_integer := F_is_integer.binds (ps := ["thing"]) (fun _ _ _ _ _ _ us hl => match us, hl with | [_], _ => rfl), k_is_integer := k_is_integer,
    g_is_integer := PySem.W.mg_of X G a_is_integer,
    F_is_between := F_is_between, b_is_between := F_is_between.binds (ps := ["low", "high", "thing"]) (fun _ _ _ _ _ _ us hl => match us, hl with | [_, _, _], _ => rfl), k_is_between := k_is_between,
    g_is_between := PySem.W.mg_of X G a_is_between,
    F_is_tuple_of := F_is_tuple_of, b_is_tuple_of := F_is_tuple_of.binds (ps := ["low", "high", "thing"]) (fun _ _ _ _ _ _ us hl => match us, hl with | [_, _, _], _ => rfl), k_is_tuple_of := k_is_tuple_of,
    g_is_tuple_of := PySem.W.mg_of X G a_is_tuple_of,
    F_Web_init := F_Web_init, b_Web_init := F_Web_init.binds (ps := ["self", "values"]) (fun _ _ _ _ _ _ us hl => match us, hl with | [_, _], _ => rfl), k_Web_init := k_Web_init,
    F_Web_eq := F_Web_eq, b_Web_eq := F_Web_eq.binds (ps := ["self", "other"]) (fun _ _ _ _ _ _ us hl => match us, hl with | [_, _], _ => rfl), k_Web_eq := k_Web_eq,
    F_is_value := F_is_value, b_is_value := F_is_value.binds (ps := ["index", "thing"]) (fun _ _ _ _ _ _ us hl => match us, hl with | [_, _], _ => rfl), k_is_value := k_is_value,
    g_is_value := PySem.W.mg_of X G a_is_value,
    F_web_of_rows := F_web_of_rows, b_web_of_rows := F_web_of_rows.binds (ps := ["rows"]) (fun _ _ _ _ _ _ us hl => match us, hl with | [_], _ => rfl), k_web_of_rows := k_web_of_rows,
    g_web_of_rows := PySem.W.mg_of X G a_web_of_rows,
    F_check_value := F_check_value, b_check_value := F_check_value.binds (ps := ["web", "value"]) (fun _ _ _ _ _ _ us hl => match us, hl with | [_, _], _ => rfl), k_check_value := k_check_value,
    g_check_value := PySem.W.mg_of X G a_check_value,
    F_below := F_below, b_below := F_below.binds (ps := ["web", "value"]) (fun _ _ _ _ _ _ us hl => match us, hl with | [_, _], _ => rfl), k_below := k_below,
    g_below := PySem.W.mg_of X G a_below,
    F_part_web := F_part_web, b_part_web := F_part_web.binds (ps := ["web", "value"]) (fun _ _ _ _ _ _ us hl => match us, hl with | [_, _], _ => rfl), k_part_web := k_part_web,
    g_part_web := PySem.W.mg_of X G a_part_web,
    F_law_bag := F_law_bag, b_law_bag := F_law_bag.binds (ps := ["_law_script"]) (fun _ _ _ _ _ _ us hl => match us, hl with | [_], _ => rfl), k_law_bag := k_law_bag,
    g_law_bag := PySem.W.mg_of X G a_law_bag,
    F_law_pick := F_law_pick, b_law_pick := F_law_pick.binds (ps := ["_law_bag_here", "_law_many"]) (fun _ _ _ _ _ _ us hl => match us, hl with | [_, _], _ => rfl), k_law_pick := k_law_pick,
    g_law_pick := PySem.W.mg_of X G a_law_pick,
    F_law_same := F_law_same, b_law_same := F_law_same.binds (ps := ["_law_told", "_law_due"]) (fun _ _ _ _ _ _ us hl => match us, hl with | [_, _], _ => rfl), k_law_same := k_law_same,
    g_law_same := PySem.W.mg_of X G a_law_same,
    F_law_free_values := F_law_free_values, b_law_free_values := F_law_free_values.binds (ps := ["_law_bag_here"]) (fun _ _ _ _ _ _ us hl => match us, hl with | [_], _ => rfl), k_law_free_values := k_law_free_values,
    g_law_free_values := PySem.W.mg_of X G a_law_free_values,
    F_law_below := F_law_below, b_law_below := F_law_below.binds (ps := ["_law_values", "_law_value"]) (fun _ _ _ _ _ _ us hl => match us, hl with | [_, _], _ => rfl), k_law_below := k_law_below,
    g_law_below := PySem.W.mg_of X G a_law_below,
    F_law_cut := F_law_cut, b_law_cut := F_law_cut.binds (ps := ["_law_values", "_law_value"]) (fun _ _ _ _ _ _ us hl => match us, hl with | [_, _], _ => rfl), k_law_cut := k_law_cut,
    g_law_cut := PySem.W.mg_of X G a_law_cut,
    F_law_is_cut := F_law_is_cut, b_law_is_cut := F_law_is_cut.binds (ps := ["_law_web", "_law_value", "_law_due"]) (fun _ _ _ _ _ _ us hl => match us, hl with | [_, _, _], _ => rfl), k_law_is_cut := k_law_is_cut,
    g_law_is_cut := PySem.W.mg_of X G a_law_is_cut,
    F_law := F_law, b_law := F_law.binds (ps := ["_law_script"]) (fun _ _ _ _ _ _ us hl => match us, hl with | [_], _ => rfl), k_law := k_law,
    g_law := PySem.W.mg_of X G a_law,
    g_Web := PySem.W.mg_of X G a_Web,
    z_abs := PySem.W.mg_none_of X G z_abs,
    z_all := PySem.W.mg_none_of X G z_all,
    z_bool := PySem.W.mg_none_of X G z_bool,
    z_enumerate := PySem.W.mg_none_of X G z_enumerate,
    z_int := PySem.W.mg_none_of X G z_int,
    z_isinstance := PySem.W.mg_none_of X G z_isinstance,
    z_len := PySem.W.mg_none_of X G z_len,
    z_list := PySem.W.mg_none_of X G z_list,
    z_max := PySem.W.mg_none_of X G z_max,
    z_range := PySem.W.mg_none_of X G z_range,
    z_sorted := PySem.W.mg_none_of X G z_sorted,
    z_str := PySem.W.mg_none_of X G z_str,
    z_sum := PySem.W.mg_none_of X G z_sum,
    z_tuple := PySem.W.mg_none_of X G z_tuple,
    C_Web := ⟨pg_Web, hd_Web, po_Web, sa_Web⟩,
    N_rows := nr_Web,
    M_Web := ⟨mk_Web, a_Web_init, fi_Web_init, kc_Web⟩,
    I_Web := ⟨⟨pg_Web, hd_Web, po_Web, sa_Web⟩, ha_Web, hn_Web, ht_Web, hm_Web, kit_self⟩,
    Q_Web := a_Web_eq,
    Q2_Web := fe_Web_eq }
  exact ⟨A.d_law, fun s v => .of_eq rfl, fun base _ _ => ok_law (a := A) T⟩
theorem walk {l : PySem.W.OpenLaw} {q : Program} {loose : List Str} {XP : (Str → Option Value) → Heap → Prop} {YP : World → Heap → Prop} {d : DefRec} {K : Params → PySem.W.Frag} (hn : l.most = some 63) (hdf : d.params.defaults = [])
    (hY : ∀ (w : World) (h : Heap), YP w h → (K w.params).In h)
    (F : ∀ (w : World) (mg : Str → Option Value) (fa : Addr) (h : Heap), (K w.params).In h → h.Ns mainGlobals mg → mg d.name = some (.ref fa) →
      ∃ fd : FuncData, (∀ (s : Shared) (u : Value), BindsTo s fd ⟨[u], []⟩ [("_law_script", u)]) ∧ ∀ base : Heap, (K w.params).In base → base.Ns mainGlobals mg → FnOk l.prog w (K w.params) mg base CX0 9 fa fd ["_law_script"] (spLaw (K w.params))) :
    PySem.W.WalkO q loose XP YP l.row.toRowW d [] (fun f vs => PySem.call f vs) :=
  L2.walk_of (n := 63) (k := 9) (x := "_law_script") (CX := fun _ => CX0) (sp := fun w => spLaw (K w.params)) hn (by decide) hdf ⟨rfl, by decide, by decide⟩ hY F (fun _ _ a ns hl _ hS => ⟨a, ns, rfl, hS, hl, fun _ => rfl⟩) fun _ _ _ _ _ z => z
end Lk
open PySem PySem.W PyProof.Rows
set_option maxRecDepth 100000 in
set_option maxHeartbeats 0 in
theorem PySem.Challenge.cw_lookdown_k03_whole_what_values_are_made_holds : PySem.Challenge.rw_lookdown_k03_whole_what_values_are_made.Holds := by
  w_on; o_law; k_head; (case hw => w_witness2)
  k_fill
  refine Lk.walk (l := PySem.Challenge.rw_lookdown_k03_whole_what_values_are_made) rfl rfl (fun w h Y => PySem.W.kIn_of Y) ?F
  case F =>
    intro w mg fa h KX G hmg
    refine' Lk.all_mk KX G hmg ?a_Web ?a_is_integer ?l_is_integer ?c_is_integer ?k_is_integer ?a_is_between ?l_is_between ?c_is_between ?k_is_between ?a_is_tuple_of ?l_is_tuple_of ?c_is_tuple_of ?k_is_tuple_of ?a_Web_init ?l_Web_init ?c_Web_init ?k_Web_init ?a_Web_eq ?l_Web_eq ?c_Web_eq ?k_Web_eq ?a_is_value ?l_is_value ?c_is_value ?k_is_value ?a_web_of_rows ?l_web_of_rows ?c_web_of_rows ?k_web_of_rows ?a_check_value ?l_check_value ?c_check_value ?k_check_value ?a_below ?l_below ?c_below ?k_below ?a_part_web ?l_part_web ?c_part_web ?k_part_web ?a_law_bag ?l_law_bag ?c_law_bag ?k_law_bag ?a_law_pick ?l_law_pick ?c_law_pick ?k_law_pick ?a_law_same ?l_law_same ?c_law_same ?k_law_same ?a_law_free_values ?l_law_free_values ?c_law_free_values ?k_law_free_values ?a_law_below ?l_law_below ?c_law_below ?k_law_below ?a_law_cut ?l_law_cut ?c_law_cut ?k_law_cut ?a_law_is_cut ?l_law_is_cut ?c_law_is_cut ?k_law_is_cut ?a_law ?l_law ?c_law ?k_law ?z_abs ?z_all ?z_bool ?z_enumerate ?z_int ?z_isinstance ?z_len ?z_list ?z_max ?z_range ?z_sorted ?z_str ?z_sum ?z_tuple ?pg_Web ?hd_Web ?po_Web ?sa_Web ?nr_Web ?mk_Web ?fi_Web_init ?kc_Web ?ha_Web ?hn_Web ?ht_Web ?hm_Web ?fe_Web_eq
    (case a_Web => k_is)
    (case a_is_integer => k_is)
    (case l_is_integer => k_is)
    (case c_is_integer => k_is)
    (case k_is_integer => k_is)
    (case a_is_between => k_is)
    (case l_is_between => k_is)
    (case c_is_between => k_is)
    (case k_is_between => k_is)
    (case a_is_tuple_of => k_is)
    (case l_is_tuple_of => k_is)
    (case c_is_tuple_of => k_is)
    (case k_is_tuple_of => k_is)
    (case a_Web_init => k_is)
    (case l_Web_init => k_is)
    (case c_Web_init => k_is)
    (case k_Web_init => k_is)
    (case a_Web_eq => k_is)
    (case l_Web_eq => k_is)
    (case c_Web_eq => k_is)
    (case k_Web_eq => k_is)
    (case a_is_value => k_is)
    (case l_is_value => k_is)
    (case c_is_value => k_is)
    (case k_is_value => k_is)
    (case a_web_of_rows => k_is)
    (case l_web_of_rows => k_is)
    (case c_web_of_rows => k_is)
    (case k_web_of_rows => k_is)
    (case a_check_value => k_is)
    (case l_check_value => k_is)
    (case c_check_value => k_is)
    (case k_check_value => k_is)
    (case a_below => k_is)
    (case l_below => k_is)
    (case c_below => k_is)
    (case k_below => k_is)
    (case a_part_web => k_is)
    (case l_part_web => k_is)
    (case c_part_web => k_is)
    (case k_part_web => k_is)
    (case a_law_bag => k_is)
    (case l_law_bag => k_is)
    (case c_law_bag => k_is)
    (case k_law_bag => k_is)
    (case a_law_pick => k_is)
    (case l_law_pick => k_is)
    (case c_law_pick => k_is)
    (case k_law_pick => k_is)
    (case a_law_same => k_is)
    (case l_law_same => k_is)
    (case c_law_same => k_is)
    (case k_law_same => k_is)
    (case a_law_free_values => k_is)
    (case l_law_free_values => k_is)
    (case c_law_free_values => k_is)
    (case k_law_free_values => k_is)
    (case a_law_below => k_is)
    (case l_law_below => k_is)
    (case c_law_below => k_is)
    (case k_law_below => k_is)
    (case a_law_cut => k_is)
    (case l_law_cut => k_is)
    (case c_law_cut => k_is)
    (case k_law_cut => k_is)
    (case a_law_is_cut => k_is)
    (case l_law_is_cut => k_is)
    (case c_law_is_cut => k_is)
    (case k_law_is_cut => k_is)
    (case a_law => k_is)
    (case l_law => k_is)
    (case c_law => k_is)
    (case k_law => k_is)
    (case z_abs => k_is)
    (case z_all => k_is)
    (case z_bool => k_is)
    (case z_enumerate => k_is)
    (case z_int => k_is)
    (case z_isinstance => k_is)
    (case z_len => k_is)
    (case z_list => k_is)
    (case z_max => k_is)
    (case z_range => k_is)
    (case z_sorted => k_is)
    (case z_str => k_is)
    (case z_sum => k_is)
    (case z_tuple => k_is)
    (case pg_Web => k_is)
    (case hd_Web => k_is)
    (case po_Web => k_is)
    (case sa_Web => k_is)
    (case nr_Web => k_is)
    (case mk_Web => k_is)
    (case fi_Web_init => k_is)
    (case kc_Web => k_is)
    (case ha_Web => k_is)
    (case hn_Web => k_is)
    (case ht_Web => k_is)
    (case hm_Web => k_is)
    (case fe_Web_eq => k_is)
