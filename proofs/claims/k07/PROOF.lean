import PyProof.Rows.All
import Wide.All
import OpenK.AllK
import Wide.FinOn
import HandS.ForMost
import HandS.IsInst
import HandS.SortInts
import HandS.Conv
import HandS.More
import HandS.OwnEq
import HandS.Codes
import HandS.DictComp
import HandS.ListEq
import HandS.Deep
import HandS.Flow
import HandS.Walk
import KE.GoesEnum
import KE.KeyNested
import HandS.Zip
import KE.KDictZip
import HandS.SortRule
import HandS.Comp
import PyProof.ListNew
import KE.KItemsList
import HandS.ListItems
import HandS.TupMul
import HandS.TupAny
import HandS.Style
import PySem.Challenge.RW_lookdown_k07_whole_ways_needs_and_what_c
set_option Elab.async false
set_option linter.all false
set_option maxRecDepth 100000
set_option maxHeartbeats 2000000
namespace Lk
abbrev Row := Nat × List Nat
def rowAt (R : List Row) (n : Nat) : Row := R.getD n (0, [])
abbrev parts (R : List Row) (n : Nat) : List Nat := (rowAt R n).2
/-- what a web may hold: ops below 8, at most two parts, each one earlier -/
def Good (R : List Row) : Prop := ∀ n, n < R.length → (rowAt R n).1 ≤ 7 ∧ (parts R n).length ≤ 2 ∧ ∀ p ∈ parts R n, p < n
theorem parts_out {R : List Row} {n : Nat} (h : R.length ≤ n) : parts R n = [] := by
  unfold parts rowAt
  rw [List.getD_eq_getElem?_getD, List.getElem?_eq_none h]
  rfl
theorem good_lt {R : List Row} (g : Good R) {n p : Nat} (h : p ∈ parts R n) : p < n := by
  by_cases hn : n < R.length
  · exact (g n hn).2.2 p h
  · rw [parts_out (by omega)] at h
    cases h
def ins (F : List Nat) (x : Nat) : List Nat := if x ∈ F then F else F ++ [x]
theorem mem_ins {F : List Nat} {x y : Nat} : y ∈ ins F x ↔ y ∈ F ∨ y = x := by
  unfold ins
  split
  · rename_i h
    constructor
    · exact Or.inl
    · rintro (a | rfl)
      · exact a
      · exact h
  · rw [List.mem_append, List.mem_singleton]
theorem nodup_ins {F : List Nat} {x : Nat} (h : F.Nodup) : (ins F x).Nodup := by
  unfold ins
  split
  · exact h
  · rename_i hx
    rw [List.nodup_append]
    refine ⟨h, by simp, ?_⟩
    intro a ha b hb e
    rw [List.mem_singleton] at hb
    subst hb
    subst e
    exact hx ha
theorem mem_insAll : ∀ {xs F : List Nat} {y : Nat}, y ∈ xs.foldl ins F ↔ y ∈ F ∨ y ∈ xs
  | [], F, y => by simp
  | x :: xs, F, y => by
    rw [List.foldl_cons, mem_insAll, mem_ins, List.mem_cons]
    constructor
    · rintro ((a | b) | c)
      · exact Or.inl a
      · exact Or.inr (Or.inl b)
      · exact Or.inr (Or.inr c)
    · rintro (a | b | c)
      · exact Or.inl (Or.inl a)
      · exact Or.inl (Or.inr b)
      · exact Or.inr c
theorem nodup_insAll : ∀ {xs F : List Nat}, F.Nodup → (xs.foldl ins F).Nodup
  | [], _, h => h
  | _ :: xs, _, h => nodup_insAll (xs := xs) (nodup_ins h)
def stepB (R : List Row) (F : List Nat) (n : Nat) : List Nat := if n ∈ F then (parts R n).foldl ins F else F
/-- the dict's keys behind i turns -/
def goB (R : List Row) (v : Nat) : Nat → List Nat
  | 0 => [v]
  | i + 1 => stepB R (goB R v i) (v - i)
inductive Reach (R : List Row) (v : Nat) : Nat → Prop where
  | refl : Reach R v v
  | step {n p : Nat} : Reach R v n → p ∈ parts R n → Reach R v p
theorem Reach.le {R : List Row} (g : Good R) {v x : Nat} (h : Reach R v x) : x ≤ v := by
  induction h with
  | refl => exact Nat.le_refl _
  | step _ hp ih => have := good_lt g hp; omega
theorem Reach.trans {R : List Row} {u v x : Nat} (h1 : Reach R u v) (h2 : Reach R v x) : Reach R u x := by
  induction h2 with
  | refl => exact h1
  | step _ hp ih => exact .step ih hp
theorem mem_goB {R : List Row} (g : Good R) (v : Nat) : ∀ (i : Nat), i ≤ v + 1 → ∀ x, x ∈ goB R v i ↔ x = v ∨ ∃ n, Reach R v n ∧ v < n + i ∧ x ∈ parts R n
  | 0, _, x => by
    constructor
    · intro h
      exact Or.inl (List.mem_singleton.mp h)
    · rintro (rfl | ⟨n, hr, hn, _⟩)
      · exact List.mem_singleton.mpr rfl
      · have := hr.le g
        omega
  | i + 1, hi, x => by
    have ih := mem_goB g v i (by omega)
    have key : v - i ∈ goB R v i ↔ Reach R v (v - i) := by
      rw [ih]
      constructor
      · rintro (e | ⟨n, hr, _, hp⟩)
        · rw [e]; exact .refl
        · exact .step hr hp
      · intro h
        generalize hm : v - i = m at h
        cases h with
        | refl => exact Or.inl rfl
        | @step n _ hr hp => exact Or.inr ⟨n, hr, by have := good_lt g hp; omega, hp⟩
    show x ∈ stepB R (goB R v i) (v - i) ↔ _
    unfold stepB
    split
    · rename_i hm
      rw [mem_insAll, ih]
      constructor
      · rintro ((a | ⟨n, hr, hn, hp⟩) | c)
        · exact Or.inl a
        · exact Or.inr ⟨n, hr, by omega, hp⟩
        · exact Or.inr ⟨v - i, key.mp hm, by omega, c⟩
      · rintro (a | ⟨n, hr, hn, hp⟩)
        · exact Or.inl (Or.inl a)
        · by_cases hz : v < n + i
          · exact Or.inl (Or.inr ⟨n, hr, hz, hp⟩)
          · have : n = v - i := by omega
            exact Or.inr (this ▸ hp)
    · rename_i hm
      rw [ih]
      constructor
      · rintro (a | ⟨n, hr, hn, hp⟩)
        · exact Or.inl a
        · exact Or.inr ⟨n, hr, by omega, hp⟩
      · rintro (a | ⟨n, hr, hn, hp⟩)
        · exact Or.inl a
        · by_cases hz : v < n + i
          · exact Or.inr ⟨n, hr, hz, hp⟩
          · have e : n = v - i := by omega
            exact absurd (key.mpr (e ▸ hr)) hm
theorem nodup_goB {R : List Row} {v : Nat} : ∀ i, (goB R v i).Nodup
  | 0 => by show [v].Nodup; simp
  | i + 1 => by
    show (stepB R (goB R v i) (v - i)).Nodup
    unfold stepB
    split
    · exact nodup_insAll (nodup_goB i)
    · exact nodup_goB i
theorem reach_goB {R : List Row} (g : Good R) {v x : Nat} : x ∈ goB R v (v + 1) ↔ Reach R v x := by
  rw [mem_goB g v (v + 1) (Nat.le_refl _)]
  constructor
  · rintro (rfl | ⟨n, hr, _, hp⟩)
    · exact .refl
    · exact .step hr hp
  · intro h
    cases h with
    | refl => exact Or.inl rfl
    | @step n _ hr hp => exact Or.inr ⟨n, hr, by omega, hp⟩
/-- what v is made of, ascending -/
def belowM (R : List Row) (v : Nat) : List Nat := (List.range (v + 1)).filter fun x => decide (x ∈ goB R v (v + 1))
theorem mem_belowM {R : List Row} (g : Good R) {v x : Nat} : x ∈ belowM R v ↔ Reach R v x := by
  unfold belowM
  rw [List.mem_filter, List.mem_range, decide_eq_true_eq, reach_goB g]
  exact ⟨fun h => h.2, fun h => ⟨by have := h.le g; omega, h⟩⟩
theorem sorted_belowM {R : List Row} {v : Nat} : (belowM R v).Pairwise (· < ·) := List.Pairwise.filter _ List.pairwise_lt_range
theorem nodup_of_lt {l : List Nat} (h : l.Pairwise (· < ·)) : l.Nodup := h.imp fun h => Nat.ne_of_lt h
theorem nodup_belowM {R : List Row} {v : Nat} : (belowM R v).Nodup := nodup_of_lt sorted_belowM
/-- two ascending lists of the same members are one -/
theorem eq_of_sorted : ∀ {l m : List Nat}, l.Pairwise (· < ·) → m.Pairwise (· < ·) → (∀ x, x ∈ l ↔ x ∈ m) → l = m
  | [], [], _, _, _ => rfl
  | [], b :: m, _, _, h => absurd ((h b).mpr List.mem_cons_self) (by simp)
  | a :: l, [], _, _, h => absurd ((h a).mp List.mem_cons_self) (by simp)
  | a :: l, b :: m, h1, h2, h => by
    rw [List.pairwise_cons] at h1 h2
    have e : a = b := by
      have ha := (h a).mp List.mem_cons_self
      have hb := (h b).mpr List.mem_cons_self
      rw [List.mem_cons] at ha hb
      rcases ha with ha | ha
      · exact ha
      · rcases hb with hb | hb
        · exact hb.symm
        · have := h1.1 b hb
          have := h2.1 a ha
          omega
    subst e
    have : l = m := eq_of_sorted h1.2 h2.2 fun x => by
      have hx := h x
      rw [List.mem_cons, List.mem_cons] at hx
      constructor
      · intro hl
        rcases hx.mp (Or.inr hl) with e | e
        · exact absurd (h1.1 x hl) (by omega)
        · exact e
      · intro hm
        rcases hx.mpr (Or.inr hm) with e | e
        · exact absurd (h2.1 x hm) (by omega)
        · exact e
    rw [this]
theorem sorted_int_eq : ∀ {l m : List Int}, l.Pairwise (· ≤ ·) → m.Pairwise (· ≤ ·) → l.Perm m → l = m
  | [], m, _, _, h => (List.nil_perm.mp h).symm
  | a :: l, [], _, _, h => absurd h.length_eq (by simp)
  | a :: l, b :: m, h1, h2, h => by
    rw [List.pairwise_cons] at h1 h2
    have e : a = b := by
      have ha : a ∈ b :: m := h.mem_iff.mp List.mem_cons_self
      have hb : b ∈ a :: l := h.mem_iff.mpr List.mem_cons_self
      rw [List.mem_cons] at ha hb
      rcases ha with ha | ha
      · exact ha
      · rcases hb with hb | hb
        · exact hb.symm
        · have := h1.1 b hb
          have := h2.1 a ha
          omega
    subst e
    rw [sorted_int_eq h1.2 h2.2 (List.perm_cons _ |>.mp h)]
/-- the dict's keys, sorted as ints -/
theorem sorted_keys {R : List Row} (g : Good R) {v : Nat} {ns : List Int} (hp : ns.Perm ((goB R v (v + 1)).map (fun (x : Nat) => (x : Int)))) (hs : ns.Pairwise (· ≤ ·)) : ns = (belowM R v).map (fun (x : Nat) => (x : Int)) := by
  refine sorted_int_eq hs ?_ (hp.trans (List.Perm.map _ ?_))
  · rw [List.pairwise_map]
    exact sorted_belowM.imp fun {a b} h => by omega
  · refine (List.perm_ext_iff_of_nodup (nodup_goB _) nodup_belowM).mpr fun x => ?_
    rw [reach_goB g, mem_belowM g]
theorem belowM_len {R : List Row} {v : Nat} : (belowM R v).length ≤ v + 1 := by
  have := List.length_filter_le (fun x => decide (x ∈ goB R v (v + 1))) (List.range (v + 1))
  rw [List.length_range] at this
  exact this
theorem belowM_lt {R : List Row} (g : Good R) {v x : Nat} (h : x ∈ belowM R v) : x ≤ v := ((mem_belowM g).mp h).le g
/-- the web cut out -/
def cutM (R : List Row) (v : Nat) : List Row := (belowM R v).map fun n => ((rowAt R n).1, (parts R n).map fun p => (belowM R v).idxOf p)
theorem cutM_len {R : List Row} {v : Nat} : (cutM R v).length = (belowM R v).length := List.length_map _
theorem gd {l : List Nat} {i : Nat} (h : i < l.length) : l.getD i 0 = l[i] := by
  rw [List.getD_eq_getElem?_getD, List.getElem?_eq_getElem h]
  rfl
theorem cutM_row {R : List Row} {v i : Nat} (h : i < (belowM R v).length) : rowAt (cutM R v) i = ((rowAt R ((belowM R v).getD i 0)).1, (parts R ((belowM R v).getD i 0)).map fun p => (belowM R v).idxOf p) := by
  unfold rowAt cutM
  rw [List.getD_eq_getElem?_getD, List.getElem?_map, List.getElem?_eq_getElem h]
  rw [gd h]
  rfl
theorem getD_mem {l : List Nat} {i : Nat} (h : i < l.length) : l.getD i 0 ∈ l := by
  rw [gd h]
  exact List.getElem_mem h
theorem idxOf_getD {l : List Nat} {x : Nat} (h : x ∈ l) : l.getD (l.idxOf x) 0 = x := by
  rw [gd (List.idxOf_lt_length_of_mem h)]
  exact List.getElem_idxOf (List.idxOf_lt_length_of_mem h)
theorem idxOf_of_getD {l : List Nat} (hn : l.Nodup) {i : Nat} (h : i < l.length) : l.idxOf (l.getD i 0) = i := by
  rw [gd h]
  exact List.Nodup.idxOf_getElem hn i h
theorem getD_lt {l : List Nat} (hs : l.Pairwise (· < ·)) {i j : Nat} (hij : i < j) (hj : j < l.length) : l.getD i 0 < l.getD j 0 := by
  rw [gd hj, gd (show i < l.length by omega)]
  exact List.pairwise_iff_getElem.mp hs i j (by omega) hj hij
theorem part_in {R : List Row} (g : Good R) {v n p : Nat} (hn : n ∈ belowM R v) (hp : p ∈ parts R n) : p ∈ belowM R v := (mem_belowM g).mpr (.step ((mem_belowM g).mp hn) hp)
theorem idx_lt {l : List Nat} (hs : l.Pairwise (· < ·)) {x y : Nat} (hx : x ∈ l) (hy : y ∈ l) (h : x < y) : l.idxOf x < l.idxOf y := by
  rcases Nat.lt_or_ge (l.idxOf x) (l.idxOf y) with h1 | h1
  · exact h1
  · rcases Nat.lt_or_eq_of_le h1 with h2 | h2
    · have := getD_lt hs h2 (List.idxOf_lt_length_of_mem hx)
      rw [idxOf_getD hx, idxOf_getD hy] at this
      omega
    · have e := idxOf_getD hx
      rw [← h2, idxOf_getD hy] at e
      omega
theorem good_cutM {R : List Row} (g : Good R) {v : Nat} (hv : v < R.length) : Good (cutM R v) := by
  intro i hi
  rw [cutM_len] at hi
  unfold parts
  rw [cutM_row hi]
  have hm := getD_mem hi
  have hlt : (belowM R v).getD i 0 < R.length := by have := belowM_lt g hm; omega
  obtain ⟨h1, h2, h3⟩ := g _ hlt
  refine ⟨h1, by rw [List.length_map]; exact h2, fun p hp => ?_⟩
  obtain ⟨q, hq, rfl⟩ := List.mem_map.mp hp
  have := idx_lt sorted_belowM (part_in g hm hq) hm (h3 q hq)
  rwa [idxOf_of_getD nodup_belowM hi] at this
/-- a step in the web cut out is a step in the web -/
theorem cut_part {R : List Row} (g : Good R) {v i j : Nat} (hi : i < (belowM R v).length) : j ∈ parts (cutM R v) i ↔ j < (belowM R v).length ∧ (belowM R v).getD j 0 ∈ parts R ((belowM R v).getD i 0) := by
  unfold parts
  rw [cutM_row hi]
  constructor
  · intro h
    obtain ⟨q, hq, rfl⟩ := List.mem_map.mp h
    have hm := part_in g (getD_mem hi) hq
    exact ⟨List.idxOf_lt_length_of_mem hm, by rw [idxOf_getD hm]; exact hq⟩
  · rintro ⟨hj, h⟩
    exact List.mem_map.mpr ⟨_, h, idxOf_of_getD nodup_belowM hj⟩
theorem reach_cut {R : List Row} (g : Good R) {v i j : Nat} (hi : i < (belowM R v).length) : Reach (cutM R v) i j ↔ j < (belowM R v).length ∧ Reach R ((belowM R v).getD i 0) ((belowM R v).getD j 0) := by
  constructor
  · intro h
    induction h with
    | refl => exact ⟨hi, .refl⟩
    | step _ hp ih =>
      obtain ⟨h1, h2⟩ := (cut_part g ih.1).mp hp
      exact ⟨h1, .step ih.2 h2⟩
  · rintro ⟨hj, h⟩
    generalize hx : (belowM R v).getD j 0 = x at h
    induction h generalizing j with
    | refl =>
      have e : j = i := by
        have this : (belowM R v).idxOf ((belowM R v).getD j 0) = (belowM R v).idxOf ((belowM R v).getD i 0) := congrArg (fun y => (belowM R v).idxOf y) hx
        rwa [idxOf_of_getD nodup_belowM hj, idxOf_of_getD nodup_belowM hi] at this
      rw [e]
      exact .refl
    | @step n p hr hp ih =>
      have hn : n ∈ belowM R v := (mem_belowM g).mpr (((mem_belowM g).mp (getD_mem hi)).trans hr)
      have h1 := ih (j := (belowM R v).idxOf n) (List.idxOf_lt_length_of_mem hn) (idxOf_getD hn)
      refine .step h1 ((cut_part g (List.idxOf_lt_length_of_mem hn)).mpr ⟨hj, ?_⟩)
      rw [idxOf_getD hn, hx]
      exact hp
theorem below_cut {R : List Row} (g : Good R) {v i : Nat} (hv : v < R.length) (hi : i < (belowM R v).length) :
    (belowM (cutM R v) i).map (fun j => (belowM R v).getD j 0) = belowM R ((belowM R v).getD i 0) := by
  have gc := good_cutM g hv
  refine eq_of_sorted ?_ sorted_belowM fun x => ?_
  · rw [List.pairwise_map]
    refine List.Pairwise.imp_of_mem ?_ sorted_belowM
    intro a b ha hb hab
    exact getD_lt sorted_belowM hab ((reach_cut g hi).mp ((mem_belowM gc).mp hb)).1
  · rw [mem_belowM g, List.mem_map]
    constructor
    · rintro ⟨j, hj, rfl⟩
      exact ((reach_cut g hi).mp ((mem_belowM gc).mp hj)).2
    · intro h
      have hx : x ∈ belowM R v := (mem_belowM g).mpr (((mem_belowM g).mp (getD_mem hi)).trans h)
      refine ⟨(belowM R v).idxOf x, (mem_belowM gc).mpr ((reach_cut g hi).mpr ⟨List.idxOf_lt_length_of_mem hx, ?_⟩), idxOf_getD hx⟩
      rw [idxOf_getD hx]
      exact h
theorem idxOf_map {l : List Nat} {f : Nat → Nat} {x : Nat} (hx : x ∈ l) (hf : ∀ a ∈ l, ∀ b ∈ l, f a = f b → a = b) : (l.map f).idxOf (f x) = l.idxOf x := by
  induction l with
  | nil => cases hx
  | cons a l ih =>
    rw [List.map_cons, List.idxOf_cons, List.idxOf_cons]
    by_cases e : a = x
    · subst e
      simp
    · have ne : ¬ f a = f x := fun q => e (hf a List.mem_cons_self x hx q)
      have ne' : (f a == f x) = false := by simpa using ne
      have e' : (a == x) = false := by simpa using e
      rw [ne', e']
      have hx' : x ∈ l := by
        rcases List.mem_cons.mp hx with q | q
        · exact absurd q.symm e
        · exact q
      show (l.map f).idxOf (f x) + 1 = l.idxOf x + 1
      rw [ih hx' fun a ha b hb => hf a (List.mem_cons_of_mem _ ha) b (List.mem_cons_of_mem _ hb)]
theorem cut_cut {R : List Row} (g : Good R) {v i : Nat} (hv : v < R.length) (hi : i < (belowM R v).length) : cutM (cutM R v) i = cutM R ((belowM R v).getD i 0) := by
  have gc := good_cutM g hv
  have hb := below_cut g hv hi
  show (belowM (cutM R v) i).map _ = (belowM R ((belowM R v).getD i 0)).map _
  have inj : ∀ a ∈ belowM (cutM R v) i, ∀ b ∈ belowM (cutM R v) i, (belowM R v).getD a 0 = (belowM R v).getD b 0 → a = b := fun a ha b hb e => by
    have h1 := ((reach_cut g hi).mp ((mem_belowM gc).mp ha)).1
    have h2 := ((reach_cut g hi).mp ((mem_belowM gc).mp hb)).1
    have this : (belowM R v).idxOf ((belowM R v).getD a 0) = (belowM R v).idxOf ((belowM R v).getD b 0) := congrArg (fun y => (belowM R v).idxOf y) e
    rwa [idxOf_of_getD nodup_belowM h1, idxOf_of_getD nodup_belowM h2] at this
  rw [← hb, List.map_map]
  refine List.map_congr_left fun n hn => ?_
  have hnl := ((reach_cut g hi).mp ((mem_belowM gc).mp hn)).1
  show ((rowAt (cutM R v) n).1, (parts (cutM R v) n).map _) = ((rowAt R ((belowM R v).getD n 0)).1, (parts R ((belowM R v).getD n 0)).map _)
  unfold parts
  rw [cutM_row hnl]
  refine Prod.ext rfl ?_
  show (List.map _ _).map _ = List.map _ _
  rw [List.map_map]
  refine List.map_congr_left fun p hp => ?_
  have hpB : p ∈ belowM R v := part_in g (getD_mem hnl) hp
  have hpi : (belowM R v).idxOf p ∈ belowM (cutM R v) i := by
    refine part_in gc hn ((cut_part g hnl).mpr ⟨List.idxOf_lt_length_of_mem hpB, ?_⟩)
    rw [idxOf_getD hpB]
    exact hp
  have := idxOf_map (f := fun j => (belowM R v).getD j 0) hpi inj
  rw [idxOf_getD hpB] at this
  exact this.symm
/-- the value is the last one of what it is made of -/
theorem belowM_last {R : List Row} (g : Good R) {v : Nat} : 0 < (belowM R v).length ∧ (belowM R v).getD ((belowM R v).length - 1) 0 = v := by
  have hv : v ∈ belowM R v := (mem_belowM g).mpr .refl
  have hl : 0 < (belowM R v).length := List.length_pos_of_mem hv
  refine ⟨hl, ?_⟩
  have h1 := List.idxOf_lt_length_of_mem hv
  rcases Nat.lt_or_ge ((belowM R v).idxOf v) ((belowM R v).length - 1) with h | h
  · have h2 := getD_lt (l := belowM R v) sorted_belowM h (by omega)
    rw [idxOf_getD hv] at h2
    have h3 := belowM_lt g (getD_mem (l := belowM R v) (i := (belowM R v).length - 1) (by omega))
    omega
  · have e : (belowM R v).length - 1 = (belowM R v).idxOf v := by omega
    rw [e, idxOf_getD hv]
theorem cut_again {R : List Row} (g : Good R) {v : Nat} (hv : v < R.length) : cutM (cutM R v) ((cutM R v).length - 1) = cutM R v := by
  obtain ⟨h1, h2⟩ := belowM_last g (v := v)
  rw [cutM_len, cut_cut g hv (by omega), h2]
end Lk
/-! enumerate of a tuple: my own rule beside the layer's for lists -/
namespace EnT
open PySem PySem.Spec PyProof.Rows L2
theorem new1 {v : Value} {ob : Obj} {G : Heap → Prop} (B : Begins v ob G) : Meets (Builtin.«enumerate.__new__» ⟨[.type "enumerate", v], []⟩)
    (fun _ R s => G s.heap ∧ R (.ok (.ret (.ref (s.heap.push ob).objs.size))) { s with heap := (s.heap.push ob).push { cls := .type "enumerate", data := .fields #[.none, .bool false, .ref s.heap.objs.size, rawInt 0, .none, .none] } }) :=
  .of_wp fun prog w A R s hh => by
    obtain ⟨hp, gg, dd, tt, oo⟩ := s; obtain ⟨ha, hb⟩ := hh
    have hsub := sub_enumerate
    have it0 : ∀ {A' : Around} {E Q : Value → Shared → Prop}, Q (.ref hp.objs.size) ⟨hp.push ob, gg, dd, tt, oo⟩ → wpAny (model prog w) A' (pyIter v) Q E ⟨hp, gg, dd, tt, oo⟩ :=
      fun {_ _ _} q => B.iter prog w _ _ ⟨hp, gg, dd, tt, oo⟩ _ ha q
    wp_walk using it0
    refine wpAny_stack_any fun _ => wpAny_pure ?_
    split
    · rename_i c _ _ _ _ _
      cases (c == Value.type "enumerate") <;> (wp_walk using it0; exact ⟨_, rfl, hb⟩)
    · wp_walk using it0
      exact ⟨_, rfl, hb⟩
section
variable {prog : Program} {w : World} {A : Around} {E : Value → Shared → Prop} {s : Shared}
theorem call1 {v : Value} {ob : Obj} {G : Heap → Prop} {Q : Value → Shared → Prop} (B : Begins v ob G) (ha : G s.heap)
    (q : ∀ h', IsEnum h' (s.heap.objs.size + 1) s.heap.objs.size 0 .none → h'.get? s.heap.objs.size = some ob → (∀ b o, s.heap.get? b = some o → h'.get? b = some o) → Q (.ref (s.heap.objs.size + 1)) { s with heap := h' }) :
    wpAny (model prog w) A (call (.type "enumerate") [v]) Q E s := by
  refine callType_new F.called_enumerate (by decide) (F.typeCall_enumerate_1 _) (F.newCall_enumerate_1 _) (fun obj => F.args_object_init_2 obj _) F.entry_enumerate_new (new1 B) ⟨ha, ?_⟩
  have sz : (s.heap.push ob).objs.size = s.heap.objs.size + 1 := Heap.size_push ..
  show _ ∧ _
  rw [sz]
  have en : IsEnum ((s.heap.push ob).push { cls := .type "enumerate", data := .fields #[.none, .bool false, .ref s.heap.objs.size, rawInt 0, .none, .none] }) (s.heap.objs.size + 1) s.heap.objs.size 0 .none := by
    have z := Heap.get?_push_size (s.heap.push ob) (o := { cls := .type "enumerate", data := .fields #[.none, .bool false, .ref s.heap.objs.size, rawInt 0, .none, .none] }) rfl
    rw [sz] at z; exact z
  exact ⟨⟨_, en, rfl⟩, q _ en (Heap.get?_push_of_some _ (Heap.get?_push_size _ B.free)) fun b o x => Heap.get?_push_of_some _ (Heap.get?_push_of_some _ x)⟩
end
/-- the tuple at a as it stands, each item in a new pair -/
def ItE (K : PySem.W.Frag) (a : Addr) : It :=
  ⟨fun i H => ∃ (xs : List V) (x : V), SqT K H a xs ∧ xs[i]? = some x,
   fun i H v H' => ∃ T x, v = .ref T ∧ H T = none ∧ H' = upd H T (.tup [.int (i : Nat), x]) ∧ ∀ xs, SqT K H a xs → xs[i]? = some x,
   fun i H => ∃ xs : List V, SqT K H a xs ∧ xs.length = i⟩
theorem turn {P : Program} {w : World} {K : PySem.W.Frag} {elts : List Expr} {kk : Nat} {tpos : Pos} (a e it : Addr) (hai : a ≠ it) :
    Turn P w K (.Tuple elts kk tpos) (ItE K a) [e, it] e (fun i h => (∃ old, IsEnum h e it ((i : Nat) : Int) old) ∧ h.IsTupleIter it a i ∧ e ≠ it) where
  mem := by simp
  obj := by
    intro i h st b hb
    obtain ⟨⟨old, he⟩, ⟨o, ho, hc, hd⟩, _⟩ := st
    have z : b = e ∨ b = it := by simpa using hb
    rcases z with z | z
    · subst z
      exact ⟨_, he, fun v q => nomatch q⟩
    · subst z
      exact ⟨o, ho, fun v q => by rw [hd] at q; cases q⟩
  keep := by
    intro i h h' st k
    obtain ⟨⟨old, he⟩, hi, hne⟩ := st
    exact ⟨⟨old, k e (by simp) _ he⟩, hi.at fun o q => k it (by simp) o q, hne⟩
  item := by
    intro X hP hw hK hc i pins s σ H E I hf st hg
    subst hP hw hK
    obtain ⟨⟨old, he⟩, hit, hne⟩ := st
    obtain ⟨xs, x, hq, hx⟩ := hg
    obtain ⟨its, rv, p, hz⟩ := I.tuple hq
    obtain ⟨u, hu, ru⟩ := rv.get hx
    have hel : e < s.heap.objs.size := Heap.lt_size he
    have hil : it < s.heap.objs.size := by obtain ⟨_, q, _⟩ := hit; exact Heap.lt_size q
    have hlt : i < its.toArray.size := by
      have := (List.getElem?_eq_some_iff.mp hu).1
      simpa using this
    have hd : X.A.in1.handled = none := I.ok.hd hc
    have D := Draws.tuple (prog := X.prog) (w := X.w) (A := X.A.in1) hd it a hai its.toArray
    have hea : e ≠ a := by
      intro z
      obtain ⟨o, ho, hcl, _⟩ := p
      have q := Option.some.inj (ho.symm.trans (z ▸ he))
      rw [q] at hcl
      exact absurd (Value.type.inj (show Value.type "enumerate" = Value.type "tuple" from hcl)) (by decide)
    refine wpAny_pyNext_enum_itemC D he ⟨hit, p⟩ hlt hne (by simp [hne, hea]) fun y h' tk hP ho hst hT hsz hk => ?_
    have hy : y = u := by
      have q : its.toArray[i]? = some y := hP
      rw [List.getElem?_toArray, hu] at q
      exact (Option.some.inj q).symm
    subst hy
    refine ⟨_, rfl, wpAny_letOwnedTupleGo_enum (s := { s with heap := h', toks := tk + 1 }) ho fun h2 he2 sb => ?_⟩
    have hT2 : h2.get? s.heap.objs.size = some { cls := .type "tuple", data := .seq #[.int i tk, y] } := (sb.2 _ (Nat.ne_of_gt hel)).trans hT
    have new : ObjOk X.prog X.w (upd H s.heap.objs.size (.tup [.int (i : Nat), x])) h2 s.heap.objs.size (.tup [.int (i : Nat), x]) :=
      ⟨(by decide : 2 ≤ sizeLine), [.int i tk, y], .cons ⟨_, rfl⟩ (.cons ru .nil), ⟨_, hT2, rfl, _, rfl⟩⟩
    have I1 : Inv X pins σ (upd H s.heap.objs.size (.tup [.int (i : Nat), x])) { s with heap := h2, toks := tk + 1 } :=
      I.turnedNew (ch := [e, it]) (fun b ob hb q => (sb.2 b (fun z => hb (by simp [z]))).trans (hk b ob (fun z => hb (by simp [z])) (fun z => hb (by simp [z])) q)) hf (Nat.le_refl _) new
    refine ⟨.ref s.heap.objs.size, _, I1, rfl, ⟨_, x, rfl, I.hok.fresh (Nat.le_refl _), rfl, fun ys hy => by rw [I.tuple_inj hy hq]; exact hx⟩, ⟨⟨y, ?_⟩, hst.1.at fun o q => (sb.2 it (Ne.symm hne)).trans q, hne⟩, ?_⟩
    · have e1 : ((i + 1 : Nat) : Int) = (i : Int) + 1 := by omega
      rw [e1]
      exact he2
    · intro b hb
      have hb' : b < s.heap.objs.size := by
        have z : b = e ∨ b = it := by simpa using hb
        rcases z with z | z <;> rw [z] <;> assumption
      rw [upd_ne (Nat.ne_of_lt hb')]
      exact (hf b hb).1
  done := by
    intro X hP hw hK hc i pins s σ H E I hf st hg
    subst hP hw hK
    obtain ⟨⟨old, he⟩, hit, hne⟩ := st
    obtain ⟨xs, hq, hx⟩ := hg
    obtain ⟨its, rv, p, hz⟩ := I.tuple hq
    have hd : X.A.in1.handled = none := I.ok.hd hc
    have D := Draws.tuple (prog := X.prog) (w := X.w) (A := X.A.in1) hd it a hai its.toArray
    have hsz : its.toArray.size = i := by
      rw [List.size_toArray, ← rv.length, hx]
    obtain ⟨f0, f1, f2, f3, f4, f5⟩ := hf it (by simp)
    exact wpAny_pyNext_enum_endD D he ⟨hsz ▸ hit, p⟩ fun h' eb => ⟨rfl, I.turned (t' := s.toks) (fun b o hb q => eb b o hb q) f0 f1 f3 f4 f5⟩
  self := fun A i s Q E st h => let ⟨⟨_, he⟩, _⟩ := st; wpAny_pyIter_enum he h
def iEnumT (K : PySem.W.Frag) (ta : TA) : TI := fun σ H R => ta σ H fun vs H1 => ∃ a xs, vs = [.ref a] ∧ SqT K H1 a xs ∧ R (ItE K a) H1
theorem pi_enumT {X : Cx} {e : Expr} {ta : TA} {p pos tpos : Pos} {elts : List Expr} {kk : Nat} (hg : Gl X "enumerate") (hm : X.mg "enumerate" = none) (ha : PA X [e] ta)
    (hs : starEach [e] X.env = [(false, eval e X.env)] := by rfl) : PI X (.Tuple elts kk tpos) (.Call (.Name "enumerate" p) [e] [] pos) (iEnumT X.K ta) := by
  refine ⟨fun pins s σ H R I h => ?_⟩
  refine Call_ (ld_blt I hg hm boot_enumerate (PyProof.Rows.callWith_type1 (thn (ha.run pos pins s σ H _ I h) fun us s1 ⟨vs, H1, I1, r1, q1⟩ => ?_) hs rfl))
  obtain ⟨a, xs, rfl, hq, q⟩ := q1
  cases r1 with
  | cons r rr =>
    cases rr
    cases r
    obtain ⟨its, rv, p', hz⟩ := I1.tuple hq
    have hal : a < s1.heap.objs.size := by obtain ⟨o, ho, _⟩ := p'; exact Heap.lt_size ho
    refine call1 (begins_tuple a its.toArray) p' fun h' he hit hk => wpAny_pyIter_enum he ?_
    have I2 : Inv X pins σ H1 { s1 with heap := h' } := I1.kept (t' := s1.toks) hk
    refine ⟨s1.heap.objs.size + 1, [s1.heap.objs.size + 1, s1.heap.objs.size], _, _, H1, rfl, I2, turn a (s1.heap.objs.size + 1) s1.heap.objs.size (Nat.ne_of_lt hal), ⟨⟨.none, he⟩, ⟨_, hit, rfl, rfl⟩, Nat.succ_ne_self _⟩, ?_, q⟩
    intro b hb
    have z : b = s1.heap.objs.size + 1 ∨ b = s1.heap.objs.size := by simpa using hb
    have hle : s1.heap.objs.size ≤ b := by
      rcases z with z | z <;> rw [z]
      · exact Nat.le_add_right _ _
      · exact Nat.le_refl _
    exact I1.fpOk hle (I1.hok.fresh hle)
theorem walkE {K : PySem.W.Frag} {a : Addr} {xs : List V} : Walk (ItE K a) xs.length (fun H => SqT K H a xs) (YPair (fun i => some (.int (i : Nat))) (fun i => xs[i]?)) := by
  refine ⟨fun i _ hi q => ⟨xs, xs[i], q, by simp [hi]⟩, fun _ q => ⟨xs, q, rfl⟩, ?_⟩
  intro i H v H' _ q y
  obtain ⟨T, x, e1, e2, e3, e4⟩ := y
  exact ⟨T, .int (i : Nat), x, e1, e2, e3, rfl, e4 xs q⟩
/-- a dict comprehension over anything that walks -/
theorem dc_it {J : It} {n : Nat} {G : Hp → Prop} {Y : Nat → Hp → V → Hp → Prop} (w : Walk J n G Y) {g : TG} {tt : TT} {tk tv : TE} {vs : List Nat} {σ : L2.St} {H1 : Hp} {D : Addr} {Qd : Hp → Prop} (Pv : Nat → Hp → Prop)
    (h0 : Pv 0 (upd H1 D (.dK []))) (hG : ∀ i H, i ≤ n → Pv i H → G H)
    (hs : ∀ i x H H', i < n → Pv i H → Y i H x H' → g x (wipe σ vs) H' fun σ2 H2 => wipe σ2 vs = wipe σ vs ∧ tt σ2 H2 fun b H3 =>
      if b = true then tk σ2 H3 fun y H4 => tv σ2 H4 fun z H5 => ∃ kvs k, y = kV k ∧ H5 D = some (.dK kvs) ∧ kvs.length < sizeLine ∧ Pv (i + 1) (upd H5 D (.dK (putK kvs k z))) else Pv (i + 1) H3)
    (hd : ∀ H, Pv n H → Qd H) :
    ∃ W : Nat → Nat → Hp → Prop, (∃ m, W 0 m (upd H1 D (.dK []))) ∧ ∀ i m H, W i m H →
      (J.stop i H ∧ Qd H) ∨ (J.go i H ∧ ∃ Nx : Hp → Prop, (∀ H', Nx H' → ∃ m', m' < m ∧ W (i + 1) m' H') ∧ ∀ x H', J.yld i H x H' → g x (wipe σ vs) H' fun σ2 H2 => wipe σ2 vs = wipe σ vs ∧ tt σ2 H2 fun b H3 =>
        if b = true then tk σ2 H3 fun y H4 => tv σ2 H4 fun z H5 => ∃ kvs k, y = kV k ∧ H5 D = some (.dK kvs) ∧ kvs.length < sizeLine ∧ Nx (upd H5 D (.dK (putK kvs k z))) else Nx H3) := by
  refine ⟨fun i m H => m = n - i ∧ i ≤ n ∧ Pv i H, ⟨n, by simp, Nat.zero_le _, h0⟩, ?_⟩
  intro i m H hW
  obtain ⟨em, hi, p⟩ := hW
  subst em
  have q := hG i H hi p
  by_cases hlt : i < n
  · exact Or.inr ⟨w.goes i H hlt q, Pv (i + 1), fun H' p' => ⟨n - (i + 1), by omega, rfl, hlt, p'⟩, fun x H' y => hs i x H H' hlt p (w.yields i H x H' hlt q y)⟩
  · have e : i = n := by omega
    subst e
    exact Or.inl ⟨w.stops H q, hd H p⟩
end EnT
/-! sorted of a dict whose keys are ints, any number of them: my own rule beside the layer's for fewer than 64 -/
namespace SoD
open PySem PySem.Spec PyProof.Rows L2
variable {X : Cx}
def rSortDA : List V → Hp → VK → Prop := fun xs H Q => ∃ (a : Addr) (kvs : List (Key × V)) (ks : List Int), xs = [.ref a] ∧ Rd H a (.dK kvs) ∧ kvs.map (·.1) = ks.map Sum.inl ∧
  ∀ (ys : List Int) (p : Addr), ys.Perm ks → ys.Pairwise (· ≤ ·) → H p = none → Q (.ref p) (upd H p (.lst (ys.map V.int)))
theorem call_sortDA (hcalm : X.calm = true) : CallR X (.builtin "sorted") rSortDA := by
  intro pins s σ H xs us Q I r h
  obtain ⟨a, kvs, ks, rfl, hd, hks, q⟩ := h
  obtain ⟨u, rfl, rx⟩ := vals1 r
  cases rx
  obtain ⟨z, lo, vs, rel, dd⟩ := dk_rd I.hok hd
  obtain ⟨ep, hat⟩ := dd.dictAt
  have hkeys : vs.map (·.1) = ks.map Sum.inl := rel.keys.symm.trans hks
  have hl : vs.length = ks.length := by simpa using congrArg List.length hkeys
  have hkv : kvs.length = vs.length := Paired.length rel
  have h16 : vs.length ≤ sizeLine := by rw [← hkv]; exact z
  refine Calls.call_function_entry PyProof.Rows.kind_sorted PyProof.Rows.plain_sorted PyProof.Rows.entry_sorted (PyProof.Rows.args_sorted1 _) ?_
  unfold Builtin.«sorted»
  refine wpAny_bind (m := checkCount "sorted" 1 1 _) (wpAny_pure ?_)
  refine wpAny_bind (PySem.W.kdu_collect (A := X.A.in1) (PySem.W.kdl_dict (knd := mixKind X.prog X.w) (kvs := vs) (ep := ep) lo) (I.ok.hd hcalm) hat h16 fun h' tk acc hk hacc => ?_)
  have hal : acc.toList.length = ks.length := by rw [Array.length_toList, hacc.1, hl]
  have hS : IntsAre acc.toList ks := ints_each hal fun j v e => by
    obtain ⟨k, x, e1, e2⟩ := hacc.2 j v (by rw [← Array.getElem?_toList]; exact e)
    have e3 : (vs.map (·.1))[j]? = some k := by
      rw [List.getElem?_map, e1]
      rfl
    rw [hkeys, List.getElem?_map] at e3
    cases e4 : ks[j]? with
    | none =>
      rw [e4] at e3
      cases e3
    | some y =>
      rw [e4] at e3
      have e5 : Sum.inl y = k := Option.some.inj e3
      subst e5
      rcases keyIs_shape (show keyIs (Sum.inl y) v = true from e2) with ⟨i, t, ek, ev⟩ | ⟨z, t, ek, ev⟩
      · cases ek
        exact ⟨y, t, rfl, ev⟩
      · cases ek
  have I1 : Inv X pins σ H { s with heap := h', toks := tk } := I.kept hk
  have hsz : acc.toList.length ≤ sizeLine := by rw [hal, ← hl]; exact h16
  refine wpAny_bind (wpAny_newList ?_ (by simpa using hsz))
  have hoL : (h'.push (seqObj "list" acc.toList.toArray 0)).get? h'.objs.size = some (seqObj "list" acc.toList.toArray 0) := Heap.get?_push_size _ rfl
  show wpAny _ _ _ _ _ { s with heap := h'.push (seqObj "list" acc.toList.toArray 0), toks := tk }
  refine wpAny_bind (wpAny_holding (wpAny_call_entry PyProof.Rows.slot_list_sort ⟨_, hoL, rfl⟩ PyProof.Rows.entry_list_sort
    (SrtO.list_sort_ord (s := { s with heap := h'.push (seqObj "list" acc.toList.toArray 0), toks := tk }) SrtO.swo_int hoL hsz (fun h2 => SrtO.ints_sortable hS h2) fun out g1 g2 => ⟨_, rfl, ?_⟩) (PyProof.Rows.args_list_sort _)))
  obtain ⟨k1, k2, k3⟩ := SrtO.ints_out hS g1 g2
  obtain ⟨e', he'⟩ := PyProof.Rows.sortedHeap_at (vs := acc.toList) (out := out.toArray) hoL
  have hlen : ((out.map SrtO.iv).map V.int).length ≤ sizeLine := by
    rw [List.length_map, k2.length_eq, ← hal]
    exact hsz
  refine wpAny_pure ⟨_, rfl, .ref h'.objs.size, upd H h'.objs.size (.lst ((out.map SrtO.iv).map V.int)), I1.laid (t' := tk) (fun b u e => ?_) (Nat.le_refl _)
    (show ObjOk X.prog X.w _ _ _ (.lst ((out.map SrtO.iv).map V.int)) from ⟨hlen, out, e', vals_of_ints k1, he'⟩), rfl, q _ _ k2 k3 (I1.hok.fresh (Nat.le_refl _))⟩
  have hb : b < h'.objs.size := Heap.lt_size e
  rw [PyProof.Rows.sortedHeap_old (Nat.ne_of_lt hb) (by rw [size_push']; exact Nat.lt_succ_of_lt hb)]
  exact Heap.get?_push_of_some _ e
end SoD
/-! dicts whose keys are tuples of any depth: my own rules beside the layer's for flat ones -/
namespace NeD
open PySem PySem.Spec PyProof.Rows L2
mutual
/-- the value is this key, by what the heap tells -/
inductive NK (K : PySem.W.Frag) (H : Hp) : V → NestedKey → Prop
  | non : NK K H .non .none
  | int (i : Int) : NK K H (.int i) (.num i)
  | str (x : Str) : NK K H (.str x) (.text x)
  | tup {b : Addr} {ys : List V} {ks : List NestedKey} : SqT K H b ys → NKs K H ys ks → NK K H (.ref b) (.tup ks)
inductive NKs (K : PySem.W.Frag) (H : Hp) : List V → List NestedKey → Prop
  | nil : NKs K H [] []
  | cons {v : V} {vs : List V} {k : NestedKey} {ks : List NestedKey} : NK K H v k → NKs K H vs ks → NKs K H (v :: vs) (k :: ks)
end
mutual
theorem NK.mono {K : PySem.W.Frag} {H H' : Hp} (t : ∀ b ys, SqT K H b ys → SqT K H' b ys) : ∀ {v : V} {k : NestedKey}, NK K H v k → NK K H' v k
  | _, _, .non => .non
  | _, _, .int i => .int i
  | _, _, .str x => .str x
  | _, _, .tup h r => .tup (t _ _ h) (NKs.mono t r)
theorem NKs.mono {K : PySem.W.Frag} {H H' : Hp} (t : ∀ b ys, SqT K H b ys → SqT K H' b ys) : ∀ {vs : List V} {ks : List NestedKey}, NKs K H vs ks → NKs K H' vs ks
  | _, _, .nil => .nil
  | _, _, .cons h r => .cons (NK.mono t h) (NKs.mono t r)
end
section
variable {X : Cx} {pins : List (Addr × Obj)} {σ : L2.St} {H : Hp} {s : Shared}
mutual
theorem NK.is (I : Inv X pins σ H s) : ∀ (k : NestedKey) (v : V) (u : Value), NK X.K H v k → RelV v u → NestedIs s.heap k u
  | .none, _, _, .non, r => by
    cases (show _ = Value.none from r)
    exact .none
  | .num _, _, _, .int _, r => by
    obtain ⟨t, e⟩ := (show ∃ t, _ = Value.int _ t from r)
    subst e
    exact .int _ _
  | .text _, _, _, .str _, r => by
    obtain ⟨t, e⟩ := (show ∃ t, _ = Value.str _ t from r)
    subst e
    exact .text _ _
  | .tup ks, _, _, .tup h rs, r => by
    cases (show _ = Value.ref _ from r)
    obtain ⟨its, rv, ⟨o, ho, hc, n, hd⟩, _⟩ := I.tuple h
    exact .tup ho hc hd (by simpa using NKs.is I ks _ its rs rv)
theorem NKs.is (I : Inv X pins σ H s) : ∀ (ks : List NestedKey) (vs : List V) (us : List Value), NKs X.K H vs ks → Vals vs us → NestedAll s.heap ks us
  | [], _, _, .nil, r => by
    cases r
    exact .nil
  | _ :: ks, _, _, .cons h rs, r => by
    cases r with
    | cons r1 r2 => exact .cons (NK.is I _ _ _ h r1) (NKs.is I ks _ _ rs r2)
end
end
abbrev Ent := NestedKey × Addr × V
abbrev KX : List Ent → List (NestedKey × Addr × Value) → Prop := Paired fun p q => p.1 = q.1 ∧ p.2.1 = q.2.1 ∧ RelV p.2.2 q.2.2
/-- the dict at a, as an object -/
def dno (P : Program) (w : World) (a : Addr) (xs : List Ent) : HO := .ext fun h => (a == sysModules) = false ∧ ∃ vs o es ep, KX xs vs ∧ h.get? a = some o ∧ o.ExactDict ∧ o.data = .dict es ep ∧ es.toList = vs.map (entryOfKey (nestedKind P w))
/-- the dict at a holds these pairs -/
def ND (K : PySem.W.Frag) (P : Program) (w : World) (H : Hp) (a : Addr) (kvs : List (NestedKey × V)) : Prop :=
  ∃ xs : List Ent, H a = some (dno P w a xs) ∧ kvs = xs.map (fun x => (x.1, x.2.2)) ∧ (∀ x ∈ xs, NK K H (.ref x.2.1) x.1 ∧ x.1.depth ≤ 8) ∧ (xs.map (·.1)).Nodup ∧ xs.length ≤ sizeLine
theorem dno_ne {P : Program} {w : World} {a : Addr} {xs : List Ent} {o : HO} (h : ∀ φ, o ≠ .ext φ) : dno P w a xs ≠ o := fun e => h _ e.symm
theorem dno_ok {P : Program} {w : World} {H : Hp} {h : Heap} {a : Addr} {xs : List Ent} {vs : List (NestedKey × Addr × Value)} {o : Obj} {es : Array DictEntry} {ep : Nat} (hs : (a == sysModules) = false) (r : KX xs vs) (ho : h.get? a = some o) (he : o.ExactDict) (hd : o.data = .dict es ep) (hm : es.toList = vs.map (entryOfKey (nestedKind P w))) : ObjOk P w H h a (dno P w a xs) :=
  ⟨⟨hs, vs, o, es, ep, r, ho, he, hd, hm⟩, ⟨o, ho⟩, fun _ _ z k => by
    obtain ⟨z1, vs, o, es, ep, r, q, z2⟩ := z
    exact ⟨z1, vs, o, es, ep, r, k _ q, z2⟩⟩
theorem KX.keys {xs : List Ent} {vs : List (NestedKey × Addr × Value)} (r : KX xs vs) : vs.map (·.1) = xs.map (·.1) := by
  induction r with
  | nil => rfl
  | cons h _ ih => rw [List.map_cons, List.map_cons, ih, h.1]
theorem KX.val {xs : List Ent} {vs : List (NestedKey × Addr × Value)} (r : KX xs vs) (k : NestedKey) : RelO (valV (xs.map fun x => (x.1, x.2.2)) k) ((atKey vs k).map (·.2)) := by
  induction r with
  | nil => exact True.intro
  | @cons p q ps qs h t ih =>
    obtain ⟨h1, _, h2⟩ := h
    rw [List.map_cons]
    by_cases e : p.1 = k
    · have b : atKey (q :: qs) k = some q.2 := by simp [atKey, List.find?_cons, h1.symm.trans e]
      rw [valV_pos (p := (p.1, p.2.2)) e, b]
      exact h2
    · have e' : ¬ q.1 = k := fun z => e (h1.trans z)
      have b : atKey (q :: qs) k = atKey qs k := by simp [atKey, List.find?_cons, e']
      rw [valV_neg (p := (p.1, p.2.2)) e, b]
      exact ih
/-- the entries behind a store -/
def putX (xs : List Ent) (k : NestedKey) (b : Addr) (y : V) : List Ent :=
  if (xs.any fun x => decide (x.1 = k)) = true then xs.map (fun x => if x.1 = k then (x.1, x.2.1, y) else x) else xs ++ [(k, b, y)]
theorem putX_put (xs : List Ent) (k : NestedKey) (b : Addr) (y : V) : (putX xs k b y).map (fun x => (x.1, x.2.2)) = putK (xs.map fun x => (x.1, x.2.2)) k y := by
  have ha : ((xs.map fun x => (x.1, x.2.2)).any fun kv => decide (kv.1 = k)) = (xs.any fun x => decide (x.1 = k)) := by
    rw [List.any_map]
    rfl
  unfold putX putK
  rw [ha]
  split
  · rw [List.map_map, List.map_map]
    refine List.map_congr_left fun x _ => ?_
    show (fun x : Ent => (x.1, x.2.2)) (if x.1 = k then (x.1, x.2.1, y) else x) = if x.1 = k then (x.1, y) else (x.1, x.2.2)
    split <;> rfl
  · rw [List.map_append]
    rfl
theorem putX_rel {xs : List Ent} {vs : List (NestedKey × Addr × Value)} (r : KX xs vs) (k : NestedKey) (b : Addr) {y : V} {u : Value} (ry : RelV y u) : KX (putX xs k b y) (storedH vs k b u) := by
  have e : (xs.any fun x => decide (x.1 = k)) = (atKey vs k).isSome := by
    have h1 := (r.val k).isSome_eq
    rw [Option.isSome_map, ← valV_any] at h1
    rw [← h1, List.any_map]
    rfl
  unfold putX storedH
  rw [e]
  split
  · rename_i hq
    clear hq e
    induction r with
    | nil => exact .nil
    | @cons p q ps qs h t ih =>
      rw [List.map_cons, List.map_cons]
      refine .cons ?_ ih
      obtain ⟨h1, h2, h3⟩ := h
      unfold putAt
      by_cases e : p.1 = k
      · rw [if_pos e, if_pos (h1.symm.trans e)]
        exact ⟨h1, h2, ry⟩
      · rw [if_neg e, if_neg (fun z => e (h1.trans z))]
        exact ⟨h1, h2, h3⟩
  · exact Paired.snoc r ⟨rfl, rfl, ry⟩
theorem putX_mem {xs : List Ent} {k : NestedKey} {b : Addr} {y : V} {z : Ent} (h : z ∈ putX xs k b y) : (∃ x ∈ xs, z.1 = x.1 ∧ z.2.1 = x.2.1) ∨ (z.1 = k ∧ z.2.1 = b) := by
  unfold putX at h
  split at h
  · obtain ⟨x, hx, e⟩ := List.mem_map.mp h
    refine Or.inl ⟨x, hx, ?_⟩
    subst e
    split <;> exact ⟨rfl, rfl⟩
  · rcases List.mem_append.mp h with h | h
    · exact Or.inl ⟨z, h, rfl, rfl⟩
    · rw [List.mem_singleton.mp h]
      exact Or.inr ⟨rfl, rfl⟩
theorem putX_nodup {xs : List Ent} {k : NestedKey} {b : Addr} {y : V} (h : (xs.map (·.1)).Nodup) : ((putX xs k b y).map (·.1)).Nodup := by
  unfold putX
  split
  · rw [List.map_map]
    have e : ((fun x : Ent => x.1) ∘ fun x : Ent => if x.1 = k then (x.1, x.2.1, y) else x) = fun x => x.1 := by
      funext x
      show (if x.1 = k then (x.1, x.2.1, y) else x : Ent).1 = x.1
      split <;> rfl
    rw [e]
    exact h
  · rename_i hn
    rw [List.map_append, List.map_singleton]
    refine nd_snoc h fun hm => hn ?_
    obtain ⟨x, hx, e⟩ := List.mem_map.mp hm
    exact List.any_eq_true.mpr ⟨x, hx, by simpa using e⟩
theorem putX_len (xs : List Ent) (k : NestedKey) (b : Addr) (y : V) : (putX xs k b y).length ≤ xs.length + 1 := by
  unfold putX
  split
  · rw [List.length_map]
    omega
  · rw [List.length_append, List.length_singleton]
    exact Nat.le_refl _
section
variable {X : Cx} {pins : List (Addr × Obj)} {σ : L2.St} {H : Hp} {s : Shared} {a : Addr} {kvs : List (NestedKey × V)} {k : NestedKey} {A : Around} {E : Value → Shared → Prop}
theorem ND.at (I : Inv X pins σ H s) {xs : List Ent} (e : H a = some (dno X.prog X.w a xs)) (hk : ∀ x ∈ xs, NK X.K H (.ref x.2.1) x.1 ∧ x.1.depth ≤ 8) (hn : (xs.map (·.1)).Nodup) :
    (a == sysModules) = false ∧ ∃ vs, KX xs vs ∧ s.heap.DictOfH (nestedKind X.prog X.w) a vs := by
  have ok : ObjOk X.prog X.w H s.heap a (.ext fun h => (a == sysModules) = false ∧ ∃ vs o es ep, KX xs vs ∧ h.get? a = some o ∧ o.ExactDict ∧ o.data = .dict es ep ∧ es.toList = vs.map (entryOfKey (nestedKind X.prog X.w))) := I.hok a _ e
  obtain ⟨⟨hs, vs, o, es, ep, r, ho, he, hd, hm⟩, zz⟩ := ok
  clear zz
  refine ⟨hs, vs, r, o, es, ep, ho, he, hd, hm, ?_, by rw [r.keys]; exact hn⟩
  clear hm he hd hn e
  induction r with
  | nil => exact fun x hx => nomatch hx
  | @cons p q ps qs h t ih =>
    intro x hx
    rcases List.mem_cons.mp hx with z | hx
    · subst z
      have hp := hk p List.mem_cons_self
      rw [h.1, h.2.1] at hp
      exact ⟨NK.is I _ _ _ hp.1 rfl, hp.2⟩
    · exact ih (fun y hy => hk y (List.mem_cons_of_mem _ hy)) x hx
theorem nd_in {b : Addr} {Q : Value → Shared → Prop} (hu : A.units + 9 < cLine) (I : Inv X pins σ H s) (D : ND X.K X.prog X.w H a kvs) (hb : NK X.K H (.ref b) k) (hd : k.depth ≤ 8) (h : ∀ s', Inv X pins σ H s' → Q (.bool (valV kvs k).isSome) s') :
    wpAny (model X.prog X.w) A (compareOp .In (.ref b) (.ref a)) Q E s := by
  obtain ⟨xs, e, ek, hk, hn, hz⟩ := D
  obtain ⟨hs, vs, r, dd⟩ := ND.at I e hk hn
  refine wpAny_in_heap (knd := nestedKind X.prog X.w) (show A.units + 1 + 8 < cLine by omega) ⟨NK.is I _ _ _ hb rfl, hd⟩ hs dd ?_
  have q := (r.val k).isSome_eq
  rw [Option.isSome_map, ← ek] at q
  rw [← q]
  exact h _ (I.tok _)
theorem nd_notIn {b : Addr} {Q : Value → Shared → Prop} (hu : A.units + 9 < cLine) (I : Inv X pins σ H s) (D : ND X.K X.prog X.w H a kvs) (hb : NK X.K H (.ref b) k) (hd : k.depth ≤ 8) (h : ∀ s', Inv X pins σ H s' → Q (.bool (!(valV kvs k).isSome)) s') :
    wpAny (model X.prog X.w) A (compareOp .NotIn (.ref b) (.ref a)) Q E s := by
  obtain ⟨xs, e, ek, hk, hn, hz⟩ := D
  obtain ⟨hs, vs, r, dd⟩ := ND.at I e hk hn
  refine wpAny_notIn_heap (knd := nestedKind X.prog X.w) (show A.units + 1 + 8 < cLine by omega) ⟨NK.is I _ _ _ hb rfl, hd⟩ hs dd ?_
  have q := (r.val k).isSome_eq
  rw [Option.isSome_map, ← ek] at q
  rw [← q]
  exact h _ (I.tok _)
theorem nd_put {b : Addr} {y : V} {u : Value} {Q : Unit → Shared → Prop} (hu : A.units + 9 < cLine) (I : Inv X pins σ H s) (D : ND X.K X.prog X.w H a kvs) (hb : NK X.K H (.ref b) k) (hd : k.depth ≤ 8) (hl : kvs.length < sizeLine) (ry : RelV y u)
    (h : ∀ o s', ND X.K X.prog X.w (upd H a o) a (putK kvs k y) → Inv X pins σ (upd H a o) s' → Q () s') : wpAny (model X.prog X.w) A (setItem (.ref a) (.ref b) u) Q E s := by
  obtain ⟨xs, e, ek, hk, hn, hz⟩ := D
  obtain ⟨hs, vs, r, dd⟩ := ND.at I e hk hn
  have hlx : xs.length < sizeLine := by rw [ek, List.length_map] at hl; exact hl
  refine wpAny_setItem_heap (knd := nestedKind X.prog X.w) (hsz := by rw [← Paired.length r]; exact hz) (show A.units + 1 + 8 < cLine by omega) ⟨NK.is I _ _ _ hb rfl, hd⟩ dd fun h' dd' sb => ?_
  obtain ⟨o, es, ep, ho, he, hdd, hm, _, _⟩ := dd'
  have tk : ∀ c ys, SqT X.K H c ys → SqT X.K (upd H a (dno X.prog X.w a (putX xs k b y))) c ys := fun c ys q => by
    rcases q with (q | ⟨o', q⟩) | q
    · exact .inl (.inl (by rw [upd_ne (ne_of q e (fun z => nomatch z))]; exact q))
    · exact .inl (.inr ⟨o', by rw [upd_ne (ne_of q e (fun z => nomatch z))]; exact q⟩)
    · exact .inr q
  refine h (dno X.prog X.w a (putX xs k b y)) _ ⟨putX xs k b y, upd_same, by rw [putX_put, ek], fun z hz' => ?_, putX_nodup hn, by have := putX_len xs k b y; omega⟩
    (d_write I (by rw [e]; exact True.intro) sb ⟨o, ho⟩ (dno_ok hs (putX_rel r k b ry) ho he hdd hm))
  rcases putX_mem hz' with ⟨x, hx, e1, e2⟩ | ⟨e1, e2⟩
  · rw [e1, e2]
    exact ⟨(hk x hx).1.mono tk, (hk x hx).2⟩
  · rw [e1, e2]
    exact ⟨hb.mono tk, hd⟩
theorem nd_get {b : Addr} {y : V} {Q : Value → Shared → Prop} (hu : A.units + 9 < cLine) (I : Inv X pins σ H s) (D : ND X.K X.prog X.w H a kvs) (hb : NK X.K H (.ref b) k) (hd : k.depth ≤ 8) (hv : valV kvs k = some y) (h : ∀ u s', Inv X pins σ H s' → RelV y u → Q u s') :
    wpAny (model X.prog X.w) A (getItem (.ref a) (.ref b)) Q E s := by
  obtain ⟨xs, e, ek, hk, hn, hz⟩ := D
  obtain ⟨hs, vs, r, dd⟩ := ND.at I e hk hn
  have q := r.val k
  rw [← ek, hv] at q
  obtain ⟨u, eu, ru⟩ := RelO.some_of (v := y) (o := (atKey vs k).map (·.2)) (by exact q)
  obtain ⟨p, hp, hp2⟩ := Option.map_eq_some_iff.mp eu
  refine wpAny_getItem_heap (knd := nestedKind X.prog X.w) (show A.units + 1 + 8 < cLine by omega) ⟨NK.is I _ _ _ hb rfl, hd⟩ dd hp ?_
  rw [hp2]
  exact h u _ (I.tok _) ru
theorem nd_type (I : Inv X pins σ H s) (D : ND X.K X.prog X.w H a kvs) : s.TypeIs (.ref a) "dict" := by
  obtain ⟨xs, e, ek, hk, hn, hz⟩ := D
  obtain ⟨hs, vs, r, dd⟩ := ND.at I e hk hn
  exact dd.typeIs
end
/-- y in d, y not in d, d[y], d[y] = v, {} : y a tuple -/
def tIn (K : PySem.W.Frag) (P : Program) (w : World) (neg : Bool) (ty td : TE) : TE := fun σ H Q => ty σ H fun y H1 => td σ H1 fun x H2 => ∃ b a kvs k, y = .ref b ∧ x = .ref a ∧ ND K P w H2 a kvs ∧ NK K H2 (.ref b) k ∧ k.depth ≤ 8 ∧ Q (.bl (if neg then !(valV kvs k).isSome else (valV kvs k).isSome)) H2
def tGet (K : PySem.W.Frag) (P : Program) (w : World) (td ty : TE) : TE := fun σ H Q => td σ H fun x H1 => ty σ H1 fun y H2 => ∃ b a kvs k v, y = .ref b ∧ x = .ref a ∧ ND K P w H2 a kvs ∧ NK K H2 (.ref b) k ∧ k.depth ≤ 8 ∧ valV kvs k = some v ∧ Q v H2
def sPut (K : PySem.W.Frag) (P : Program) (w : World) (td ty tv : TE) : TS := fun D σ H => tv σ H fun v H1 => td σ H1 fun x H2 => ty σ H2 fun y H3 => ∃ b a kvs k, y = .ref b ∧ x = .ref a ∧ ND K P w H3 a kvs ∧ NK K H3 (.ref b) k ∧ k.depth ≤ 8 ∧ kvs.length < sizeLine ∧
  ∀ o, ND K P w (upd H3 a o) a (putK kvs k v) → D.nx σ (upd H3 a o)
def tNew (P : Program) (w : World) : TE := fun _ H Q => ∀ p, H p = none → Q (.ref p) (upd H p (dno P w p []))
theorem nd_new {K : PySem.W.Frag} {P : Program} {w : World} {H : Hp} {p : Addr} : ND K P w (upd H p (dno P w p [])) p [] := ⟨[], upd_same, rfl, fun _ h => absurd h (by simp), List.nodup_nil, Nat.zero_le _⟩
section
variable {X : Cx} {o i value : Expr} {td ty tv : TE} {pos pos' : Pos}
theorem pc_in (hu : X.A.units + 64 < cLine) (hi : PE X i ty) (ho : PE X o td) : PC X .In i o (tIn X.K X.prog X.w false ty td) := by
  refine ⟨fun pins s σ H Q I h => ?_⟩
  refine thn (hi.run pins s σ H _ I h) fun iv s1 ⟨y, H1, I1, ry, q1⟩ => thn (ho.run pins s1 σ H1 _ I1 q1) fun u s2 ⟨x, H2, I2, rx, b, a, kvs, k, ey, ex, D, hb, hd, q2⟩ => ?_
  subst ex ey
  obtain rfl : u = Value.ref a := rx
  obtain rfl : iv = Value.ref b := ry
  exact nd_in (by omega) I2 D hb hd fun s3 I3 => ⟨.bl _, H2, I3, rfl, q2⟩
theorem pc_notin (hu : X.A.units + 64 < cLine) (hi : PE X i ty) (ho : PE X o td) : PC X .NotIn i o (tIn X.K X.prog X.w true ty td) := by
  refine ⟨fun pins s σ H Q I h => ?_⟩
  refine thn (hi.run pins s σ H _ I h) fun iv s1 ⟨y, H1, I1, ry, q1⟩ => thn (ho.run pins s1 σ H1 _ I1 q1) fun u s2 ⟨x, H2, I2, rx, b, a, kvs, k, ey, ex, D, hb, hd, q2⟩ => ?_
  subst ex ey
  obtain rfl : u = Value.ref a := rx
  obtain rfl : iv = Value.ref b := ry
  exact nd_notIn (by omega) I2 D hb hd fun s3 I3 => ⟨.bl _, H2, I3, rfl, q2⟩
theorem pe_get (hu : X.A.units + 64 < cLine) (ho : PE X o td) (hi : PE X i ty) (hs : NoSl i) : PE X (.Subscript o i pos) (tGet X.K X.prog X.w td ty) := by
  refine ⟨fun pins s σ H Q I h => ?_⟩
  refine subD_of PySem.F.slot_dict_getitem.lookup hs (thn (ho.run pins s σ H _ I h) fun u s1 ⟨x, H1, I1, rx, q1⟩ => thn (hi.run pins s1 σ H1 _ I1 q1) fun iv s2 ⟨y, H2, I2, ry, b, a, kvs, k, v, ey, ex, D, hb, hd, hv, q2⟩ => ?_)
  subst ex ey
  obtain rfl : u = Value.ref a := rx
  obtain rfl : iv = Value.ref b := ry
  exact ⟨nd_type I2 D, nd_get (by omega) I2 D hb hd hv fun w' s3 I3 rw' => ⟨v, H2, I3, rw', q2⟩⟩
theorem ps_put (hu : X.A.units + 64 < cLine) (ho : PE X o td) (hi : PE X i ty) (hv : PE X value tv) (hs : swapsWith value (some (.Subscript o i pos')) pos.line X.env = pure false) :
    PS X (.Assign [.Subscript o i pos'] value pos) (sPut X.K X.prog X.w td ty tv) := by
  refine ⟨fun pins s σ H D I h => ?_⟩
  refine wpAny_Assign_Subscript (thn (hv.run pins s σ H _ I h) fun r s1 ⟨v, H1, I1, rv, q1⟩ => thn (ho.run pins s1 σ H1 _ I1 q1) fun u s2 ⟨x, H2, I2, rx, q2⟩ => thn (hi.run pins s2 σ H2 _ I2 q2) fun iv s3 ⟨y, H3, I3, ry, b, a, kvs, k, ey, ex, N, hb, hd, hl, q3⟩ => ?_) hs
  subst ex ey
  obtain rfl : u = Value.ref a := rx
  obtain rfl : iv = Value.ref b := ry
  exact nd_put (by omega) I3 N hb hd hl rv fun ob s4 N4 I4 => ⟨σ, _, I4, q3 ob N4⟩
theorem pe_new : PE X (.Dict [] [] pos) (tNew X.prog X.w) := ⟨fun pins s σ H Q I h =>
  wpAny_Dict_empty ⟨.ref s.heap.objs.size, _, I.laid (a := s.heap.objs.size) (o := dno X.prog X.w s.heap.objs.size []) (t' := s.toks) (fun _ _ q => Heap.get?_push_of_some _ q) (Nat.le_refl _)
    (dno_ok (vs := []) (beq_eq_false_iff_ne.mpr (Ne.symm (Nat.ne_of_lt I.big))) .nil (Heap.get?_push_size _ rfl) ⟨rfl, rfl, rfl⟩ rfl rfl), rfl, h _ (I.hok.fresh (Nat.le_refl _))⟩⟩
end
end NeD

namespace Lk
open PySem L2
section
/-! heaps: what stays, and the data of a web -/
/-- all but lists stay -/
def Tk (H H' : Hp) : Prop := ∀ c o, (∀ xs, o ≠ .lst xs) → H c = some o → H' c = some o
theorem Tk.of {H H' : Hp} (s : Same H H') : Tk H H' := fun c o _ h => s c o h
theorem Tk.trans {H H1 H2 : Hp} (x : Tk H H1) (y : Tk H1 H2) : Tk H H2 := fun c o n h => y c o n (x c o n h)
theorem Tk.refl (H : Hp) : Tk H H := fun _ _ _ h => h
theorem same_new {H : Hp} {p : Addr} {o : HO} (h : H p = none) : Same H (upd H p o) := fun b x e => by
  rw [upd_ne (ne_of_none e h)]
  exact e
theorem tk_mut {H : Hp} {p : Addr} {xs ys : List V} (h : H p = some (.lst xs)) : Tk H (upd H p (.lst ys)) := fun b x n e => by
  rw [upd_ne (ne_of e h (n xs))]
  exact e
variable {K : PySem.W.Frag}
theorem Tk.t {H H' : Hp} {p : Addr} {xs : List V} (x : Tk H H') (h : SqT K H p xs) : SqT K H' p xs := by
  rcases h with (h | ⟨o, h⟩) | h
  · exact .inl (.inl (x _ _ (fun _ z => nomatch z) h))
  · exact .inl (.inr ⟨o, x _ _ (fun _ z => nomatch z) h⟩)
  · exact .inr h
theorem tyT {H : Hp} {p : Addr} {xs : List V} (h : SqT K H p xs) : TyX K H (.ref p) (.type "tuple") := by
  rcases h with (h | ⟨o, h⟩) | ⟨o, _, _, e, c, _⟩
  · exact .base (.tup h)
  · exact .fTuple h
  · exact .kTuple e c
/-- a tuple of numbers -/
def nv (x : Nat) : V := .int (x : Int)
def IT (K : PySem.W.Frag) (H : Hp) (p : Addr) (ps : List Nat) : Prop := SqT K H p (ps.map nv)
def RowV (K : PySem.W.Frag) (H : Hp) (v : V) (r : Row) : Prop := ∃ p q, v = .ref p ∧ SqT K H p [nv r.1, .ref q] ∧ IT K H q r.2
/-- a tuple of rows -/
def RowsT (K : PySem.W.Frag) (H : Hp) (p : Addr) (R : List Row) : Prop := ∃ vs, SqT K H p vs ∧ vs.length = R.length ∧ ∀ i v, vs[i]? = some v → RowV K H v (rowAt R i)
theorem RowV.tk {H H' : Hp} {v : V} {r : Row} (x : Tk H H') (h : RowV K H v r) : RowV K H' v r := by
  obtain ⟨p, q, e, h1, h2⟩ := h
  exact ⟨p, q, e, x.t h1, x.t h2⟩
theorem RowsT.tk {H H' : Hp} {p : Addr} {R : List Row} (x : Tk H H') (h : RowsT K H p R) : RowsT K H' p R := by
  obtain ⟨vs, h1, h2, h3⟩ := h
  exact ⟨vs, x.t h1, h2, fun i v e => (h3 i v e).tk x⟩
/-- a web at p -/
def WebV (K : PySem.W.Frag) (C : Addr) (H : Hp) (p : Addr) (R : List Row) : Prop := ∃ dx q, H p = some (.ins C dx [("rows", .ref q)]) ∧ RowsT K H q R
theorem WebV.tk {C : Addr} {H H' : Hp} {p : Addr} {R : List Row} (x : Tk H H') (h : WebV K C H p R) : WebV K C H' p R := by
  obtain ⟨dx, q, h1, h2⟩ := h
  exact ⟨dx, q, x _ _ (fun _ z => nomatch z) h1, h2.tk x⟩
end
section
theorem iteC {c : Bool} {A B : Prop} (e : c = true) (h : A) : if c = true then A else B := by
  rw [e]
  exact iteT h
theorem iteD {c : Bool} {A B : Prop} (e : c = false) (h : B) : if c = true then A else B := by
  rw [e]
  exact iteF h
end
section
/-! data of a web as data of any depth -/
def dN (x : Nat) : PyData := .int (x : Int)
def dRow (r : Row) : PyData := .tuple [dN r.1, .tuple (r.2.map dN)]
def dRows (R : List Row) : PyData := .tuple (R.map dRow)
variable {K : PySem.W.Frag}
theorem dp_nums {H : Hp} : ∀ ps : List Nat, DpAll K H (ps.map nv) (ps.map dN)
  | [] => .nil
  | x :: r => .cons (.int _) (dp_nums r)
theorem it_dp {H : Hp} {p : Addr} {ps : List Nat} (h : IT K H p ps) : Dp K H (.ref p) (.tuple (ps.map dN)) := .tup h (dp_nums ps)
theorem row_dp {H : Hp} {v : V} {r : Row} (h : RowV K H v r) : Dp K H v (dRow r) := by
  obtain ⟨p, q, rfl, h1, h2⟩ := h
  exact .tup h1 (.cons (.int _) (.cons (it_dp h2) .nil))
theorem dpAll_of {H : Hp} : ∀ {vs : List V} {ds : List PyData}, vs.length = ds.length → (∀ (i : Nat) v d, vs[i]? = some v → ds[i]? = some d → Dp K H v d) → DpAll K H vs ds
  | [], [], _, _ => .nil
  | [], _ :: _, h, _ => absurd h (by simp)
  | _ :: _, [], h, _ => absurd h (by simp)
  | v :: vs, d :: ds, h, f => .cons (f 0 v d rfl rfl) (dpAll_of (by simpa using h) fun i v d h1 h2 => f (i + 1) v d (by simpa using h1) (by simpa using h2))
theorem rowAt_of {R : List Row} {i : Nat} (h : i < R.length) : R[i]? = some (rowAt R i) := by
  unfold rowAt
  rw [List.getD_eq_getElem?_getD, List.getElem?_eq_getElem h]
  rfl
theorem rows_dp {H : Hp} {p : Addr} {R : List Row} (h : RowsT K H p R) : Dp K H (.ref p) (dRows R) := by
  obtain ⟨vs, h1, h2, h3⟩ := h
  refine .tup h1 (dpAll_of (by rw [List.length_map, h2]) fun i v d e1 e2 => ?_)
  have hi : i < R.length := by
    rw [← h2]
    exact (List.getElem?_eq_some_iff.mp e1).1
  rw [List.getElem?_map, rowAt_of hi] at e2
  rw [← Option.some.inj e2]
  exact row_dp (h3 i v e1)
theorem nums_lay : ∀ ps : List Nat, PyData.canLayAll0 (ps.map dN) = true
  | [] => rfl
  | _ :: r => by
    show (true && PyData.canLayAll0 (r.map dN)) = true
    rw [nums_lay r]
    rfl
theorem nums_depth : ∀ ps : List Nat, PyData.depthAll (ps.map dN) ≤ 1
  | [] => by decide
  | _ :: r => by
    have := nums_depth r
    simp only [List.map_cons, PyData.depthAll, PyData.depth, dN] at this ⊢
    omega
theorem sh_nums (ps : List Nat) : SeqAt.shaped (.tuple (ps.map dN)) = true := by
  unfold SeqAt.shaped
  have h1 := nums_lay ps
  have h2 := nums_depth ps
  rw [Bool.and_eq_true, decide_eq_true_eq]
  exact ⟨h1, by show PyData.depthAll (ps.map dN) + 1 ≤ 64; omega⟩
theorem rows_lay : ∀ R : List Row, PyData.canLayAll0 (R.map dRow) = true
  | [] => rfl
  | r :: R => by
    show ((true && ((PyData.canLayAll0 (r.2.map dN)) && true)) && PyData.canLayAll0 (R.map dRow)) = true
    rw [nums_lay, rows_lay R]
    rfl
theorem rows_depth : ∀ R : List Row, PyData.depthAll (R.map dRow) ≤ 4
  | [] => by decide
  | r :: R => by
    have h1 := rows_depth R
    have h2 := nums_depth r.2
    simp only [List.map_cons, PyData.depthAll, dRow, PyData.depth, dN]
    omega
theorem sh_rows (R : List Row) : SeqAt.shaped (dRows R) = true := by
  unfold SeqAt.shaped
  have h1 := rows_lay R
  have h2 := rows_depth R
  rw [Bool.and_eq_true, decide_eq_true_eq]
  exact ⟨h1, by show PyData.depthAll (R.map dRow) + 1 ≤ 64; omega⟩
end
section
/-! the dict of what was met -/
def ky (x : Nat) : Key := .inl (x : Int)
theorem ky_inj {x y : Nat} (h : ky x = ky y) : x = y := by
  have := Sum.inl.inj h
  omega
def fk (F : List Nat) : List (Key × V) := F.map fun x => (ky x, .bl true)
theorem fk_val (x : Nat) : ∀ F : List Nat, valV (fk F) (ky x) = if x ∈ F then some (.bl true) else none
  | [] => rfl
  | y :: F => by
    by_cases e : y = x
    · subst e
      rw [if_pos List.mem_cons_self]
      exact valV_pos rfl
    · rw [show valV (fk (y :: F)) (ky x) = valV (fk F) (ky x) from valV_neg fun q => e (ky_inj q), fk_val x F]
      by_cases m : x ∈ F
      · rw [if_pos m, if_pos (List.mem_cons_of_mem _ m)]
      · rw [if_neg m, if_neg (by rw [List.mem_cons]; exact fun q => q.elim (fun q => e q.symm) m)]
theorem fk_put (x : Nat) (F : List Nat) : putK (fk F) (ky x) (.bl true) = fk (ins F x) := by
  unfold ins
  by_cases m : x ∈ F
  · rw [if_pos m]
    have h : ((fk F).any fun kv => decide (kv.1 = ky x)) = true := by
      rw [valV_any, fk_val, if_pos m]
      rfl
    unfold putK
    rw [if_pos h]
    unfold fk
    rw [List.map_map]
    refine List.map_congr_left fun y _ => ?_
    show (if ky y = ky x then (ky y, V.bl true) else (ky y, V.bl true)) = _
    split <;> rfl
  · rw [if_neg m, putK_new _ (by rw [fk_val, if_neg m])]
    unfold fk
    rw [List.map_append]
    rfl
theorem fk_keys (F : List Nat) : (fk F).map (·.1) = (F.map fun (x : Nat) => (x : Int)).map Sum.inl := by
  unfold fk
  rw [List.map_map, List.map_map]
  rfl
theorem ins_len (F : List Nat) (x : Nat) : (ins F x).length ≤ F.length + 1 := by
  unfold ins
  split
  · omega
  · rw [List.length_append]
    exact Nat.le_refl _
theorem insAll_len : ∀ (xs F : List Nat), (xs.foldl ins F).length ≤ F.length + xs.length
  | [], _ => Nat.le_refl _
  | x :: xs, F => by
    have h1 := insAll_len xs (ins F x)
    have h2 := ins_len F x
    rw [List.foldl_cons, List.length_cons]
    omega
theorem parts_len {R : List Row} (g : Good R) (n : Nat) : (parts R n).length ≤ 2 := by
  by_cases h : n < R.length
  · exact (g n h).2.1
  · rw [parts_out (by omega)]
    decide
theorem goB_len {R : List Row} (g : Good R) {v : Nat} : ∀ i, (goB R v i).length ≤ 1 + 2 * i
  | 0 => Nat.le_refl _
  | i + 1 => by
    have h1 := goB_len g (v := v) i
    have h2 := insAll_len (parts R (v - i)) (goB R v i)
    have h3 := parts_len g (v - i)
    show (stepB R (goB R v i) (v - i)).length ≤ _
    unfold stepB
    split <;> omega
theorem lt_line {n : Nat} (h : n ≤ 100000) : n < sizeLine := by
  rw [sizeLine_eq]
  omega
theorem take_ins {xs F : List Nat} {j x : Nat} (h : xs[j]? = some x) : (xs.take (j + 1)).foldl ins F = ins ((xs.take j).foldl ins F) x := by
  rw [List.take_add_one, h, List.foldl_append]
  rfl
theorem at_row {K : PySem.W.Frag} {H : Hp} {vs : List V} {R : List Row} {n : Nat} (hl : vs.length = R.length) (hr : ∀ i v, vs[i]? = some v → RowV K H v (rowAt R i)) (h : n < R.length) :
    ∃ v, atI vs (n : Int) = some v ∧ RowV K H v (rowAt R n) := by
  have hn : n < vs.length := by omega
  exact ⟨vs[n], atI_nat (List.getElem?_eq_getElem hn), hr n _ (List.getElem?_eq_getElem hn)⟩
end
section
/-! the dict of places -/
def pl : List Nat → Nat → List (Key × V)
  | [], _ => []
  | x :: B, n => (ky x, nv n) :: pl B (n + 1)
theorem pl_len : ∀ (B : List Nat) (n : Nat), (pl B n).length = B.length
  | [], _ => rfl
  | _ :: B, n => by
    show (pl B (n + 1)).length + 1 = B.length + 1
    rw [pl_len B (n + 1)]
theorem pl_none {p : Nat} : ∀ (B : List Nat) (n : Nat), ¬ p ∈ B → valV (pl B n) (ky p) = none
  | [], _, _ => rfl
  | x :: B, n, h => by
    rw [List.mem_cons] at h
    rw [show valV (pl (x :: B) n) (ky p) = valV (pl B (n + 1)) (ky p) from valV_neg fun q => h (Or.inl (ky_inj q).symm)]
    exact pl_none B (n + 1) fun q => h (Or.inr q)
theorem pl_val {p : Nat} : ∀ (B : List Nat) (n : Nat), p ∈ B → valV (pl B n) (ky p) = some (nv (n + B.idxOf p))
  | x :: B, n, h => by
    by_cases e : x = p
    · subst e
      rw [List.idxOf_cons_self]
      exact valV_pos rfl
    · have h2 : p ∈ B := by
        rcases List.mem_cons.mp h with q | q
        · exact absurd q.symm e
        · exact q
      rw [show valV (pl (x :: B) n) (ky p) = valV (pl B (n + 1)) (ky p) from valV_neg fun q => e (ky_inj q), pl_val B (n + 1) h2, List.idxOf_cons]
      have e' : (x == p) = false := by simpa using e
      rw [e']
      show some (nv (n + 1 + B.idxOf p)) = some (nv (n + (B.idxOf p + 1)))
      rw [Nat.add_assoc, Nat.add_comm 1]
theorem pl_app (x : Nat) : ∀ (B : List Nat) (n : Nat), pl (B ++ [x]) n = pl B n ++ [(ky x, nv (n + B.length))]
  | [], n => rfl
  | y :: B, n => by
    show (ky y, nv n) :: pl (B ++ [x]) (n + 1) = (ky y, nv n) :: (pl B (n + 1) ++ _)
    rw [pl_app x B (n + 1), List.length_cons, Nat.add_assoc, Nat.add_comm 1]
theorem pl_put {B : List Nat} (hn : B.Nodup) {i x : Nat} (h : B[i]? = some x) : putK (pl (B.take i) 0) (ky x) (nv i) = pl (B.take (i + 1)) 0 := by
  have hi : i < B.length := (List.getElem?_eq_some_iff.mp h).1
  have hl : (B.take i).length = i := by
    rw [List.length_take]
    omega
  have hx : ¬ x ∈ B.take i := by
    intro q
    obtain ⟨j, hj⟩ := List.mem_iff_getElem?.mp q
    have hj2 : j < i := by
      have := (List.getElem?_eq_some_iff.mp hj).1
      omega
    rw [List.getElem?_take_of_lt hj2] at hj
    have h1 := (List.getElem?_eq_some_iff.mp hj)
    have h2 := (List.getElem?_eq_some_iff.mp h)
    have h3 := (List.getElem_inj hn (i := j) (j := i) (h₀ := h1.1) (h₁ := h2.1)).mp (h1.2.trans h2.2.symm)
    omega
  rw [putK_new _ (pl_none _ _ hx), List.take_add_one, h]
  show _ = pl (B.take i ++ [x]) 0
  rw [pl_app, hl, Nat.zero_add]
end
section
/-! rules with the written part told, for use within comprehensions -/
theorem ixT {K : PySem.W.Frag} {X : Cx} (h : X.K = K) : IxR X (rIxT K) := by
  subst h
  exact ix_tup
def rTupOf (K : PySem.W.Frag) : List V → Hp → VK → Prop := fun xs H Q =>
  ∃ p ys, xs = [.ref p] ∧
    ((SqL K H p ys ∧ ∀ l, H l = none → Q (.ref l) (upd H l (.tup ys))) ∨
      (SqT K H p ys ∧ Q (.ref p) H))
theorem tupOf {K : PySem.W.Frag} {X : Cx} (h : X.K = K) : CallR X (.type "tuple") (rTupOf K) := by
  subst h
  exact call_tuple_of
theorem piT {K : PySem.W.Frag} {X : Cx} {tg t : Expr} {te : TE} (h : X.K = K) (ht : PE X t te) : PI X tg t (iTup K te) := by
  subst h
  exact pi_tup ht
end
section
/-! the bag of drawn numbers: a list at b, its great numbers at g -/
def BagAt (H : Hp) (b g : Addr) : Prop := ∃ (sd c : Int) (al : V) (gs : List Int), H b = some (.lst [.int sd, .int c, .ref g, al]) ∧ H g = some (.lst (gs.map V.int)) ∧ b ≠ g ∧ (al = .non ∨ ∃ n : Int, al = .int n ∧ 0 ≤ n)
/-- all but the bag stays -/
def Fb (b g : Addr) (H H' : Hp) : Prop := ∀ c o, c ≠ b → c ≠ g → H c = some o → H' c = some o
theorem Fb.refl {b g : Addr} (H : Hp) : Fb b g H H := fun _ _ _ _ h => h
theorem Fb.trans {b g : Addr} {H H1 H2 : Hp} (x : Fb b g H H1) (y : Fb b g H1 H2) : Fb b g H H2 := fun c o n m h => y c o n m (x c o n m h)
theorem Fb.of {b g : Addr} {H H' : Hp} (s : Same H H') : Fb b g H H' := fun c o _ _ h => s c o h
theorem Fb.tk {b g : Addr} {H H' : Hp} (B : BagAt H b g) (x : Fb b g H H') : Tk H H' := fun c o n h => by
  obtain ⟨_, _, _, _, h1, h2, _⟩ := B
  exact x c o (ne_of h h1 (n _)) (ne_of h h2 (n _)) h
theorem BagAt.same {b g : Addr} {H H' : Hp} (B : BagAt H b g) (s : Same H H') : BagAt H' b g := by
  obtain ⟨sd, c, al, gs, h1, h2, h3, h4⟩ := B
  exact ⟨sd, c, al, gs, s _ _ h1, s _ _ h2, h3, h4⟩
theorem BagAt.keep {b g l : Addr} {o : HO} {H : Hp} (B : BagAt H b g) (h1 : l ≠ b) (h2 : l ≠ g) : BagAt (upd H l o) b g := by
  obtain ⟨sd, c, al, gs, e1, e2, h3, h4⟩ := B
  exact ⟨sd, c, al, gs, by rw [upd_ne h1.symm]; exact e1, by rw [upd_ne h2.symm]; exact e2, h3, h4⟩
theorem fb_mutB {b g : Addr} {H : Hp} {o : HO} : Fb b g H (upd H b o) := fun c u n _ h => by
  rw [upd_ne n]
  exact h
theorem fb_mutG {b g : Addr} {H : Hp} {o : HO} : Fb b g H (upd H g o) := fun c u _ n h => by
  rw [upd_ne n]
  exact h
theorem mod_nat (x : Int) {m : Nat} (h : 0 < m) : ∃ r : Nat, x % (m : Int) = (r : Int) ∧ r < m := by
  have h1 := Int.emod_nonneg x (show (m : Int) ≠ 0 by omega)
  have h2 := Int.emod_lt_of_pos x (show (0 : Int) < (m : Int) by omega)
  exact ⟨(x % (m : Int)).toNat, by omega, by omega⟩
end
section
theorem cut_ints (ns : List Int) (lo hi : Option Int) : ∃ ms : List Int, cutV (ns.map V.int) lo hi = ms.map V.int ∧ ms.length ≤ ns.length := by
  unfold cutV
  refine ⟨(ns.drop (HT.sIx (ns.map V.int).length 0 lo)).take (HT.sIx (ns.map V.int).length (ns.map V.int).length hi - HT.sIx (ns.map V.int).length 0 lo), ?_, ?_⟩
  · rw [List.map_take, List.map_drop]
  · rw [List.length_take, List.length_drop]
    omega
end
section
theorem ixS {K : PySem.W.Frag} {X : Cx} (h : X.K = K) : IxR X (rIx K) := by
  subst h
  exact ix_seq
/-- data without dicts, of so many storeys -/
def okd : Nat → PyData → Prop
  | 0, _ => False
  | n + 1, d => match d with
    | .none | .bool _ | .int _ | .str _ => True
    | .tuple ds | .list ds => ds.length ≤ 100000 ∧ ∀ e ∈ ds, okd n e
    | .dict _ => False
variable {K : PySem.W.Frag}
theorem tyL {H : Hp} {p : Addr} {xs : List V} (h : SqL K H p xs) : TyX K H (.ref p) (.type "list") := by
  rcases h with (h | ⟨o, h⟩) | ⟨o, _, _, e, c, _⟩
  · exact .base (.lst h)
  · exact .base (.frz h)
  · exact .kList e c
theorem dpAll_len {H : Hp} : ∀ {vs : List V} {ds : List PyData}, DpAll K H vs ds → vs.length = ds.length
  | _, _, .nil => rfl
  | _, _, .cons _ r => congrArg (· + 1) (dpAll_len r)
theorem dpAll_at {H : Hp} : ∀ {vs : List V} {ds : List PyData} {i : Nat}, DpAll K H vs ds → i < ds.length → ∃ v d, vs[i]? = some v ∧ ds[i]? = some d ∧ Dp K H v d
  | _, _, i, .nil, h => absurd h (Nat.not_lt_zero i)
  | _, _, 0, .cons h _, _ => ⟨_, _, rfl, rfl, h⟩
  | _, _, i + 1, .cons _ r, h => by
    obtain ⟨v, d, h1, h2, h3⟩ := dpAll_at (i := i) r (Nat.lt_of_succ_lt_succ h)
    exact ⟨v, d, by simpa using h1, by simpa using h2, h3⟩
mutual
theorem dp_tk {H H' : Hp} (s : Same H H') : ∀ {v : V} {d : PyData}, Dp K H v d → Dp K H' v d
  | _, _, .non => .non
  | _, _, .bl b => .bl b
  | _, _, .int i => .int i
  | _, _, .str x => .str x
  | _, _, .lst h r => .lst (s.seq h) (dpAll_tk s r)
  | _, _, .tup h r => .tup ((Tk.of s).t h) (dpAll_tk s r)
theorem dpAll_tk {H H' : Hp} (s : Same H H') : ∀ {vs : List V} {ds : List PyData}, DpAll K H vs ds → DpAll K H' vs ds
  | _, _, .nil => .nil
  | _, _, .cons h r => .cons (dp_tk s h) (dpAll_tk s r)
end
end
section
variable {K : PySem.W.Frag}
/-- a list that is filled with rows -/
def RL (K : PySem.W.Frag) (H : Hp) (l : Addr) (R : List Row) : Prop := ∃ us, H l = some (.lst us) ∧ us.length = R.length ∧ ∀ j u, us[j]? = some u → RowV K H u (rowAt R j)
theorem RL.fb {b g l : Addr} {H H' : Hp} {R : List Row} (h : RL K H l R) (B : BagAt H b g) (f : Fb b g H H') (h1 : l ≠ b) (h2 : l ≠ g) : RL K H' l R := by
  obtain ⟨us, e, n, r⟩ := h
  exact ⟨us, f _ _ h1 h2 e, n, fun j u hj => (r j u hj).tk (f.tk B)⟩
theorem rowAt_old {R : List Row} {r : Row} {j : Nat} (h : j < R.length) : rowAt (R ++ [r]) j = rowAt R j := by
  unfold rowAt
  rw [List.getD_eq_getElem?_getD, List.getD_eq_getElem?_getD, List.getElem?_append_left h]
theorem rowAt_new {R : List Row} {r : Row} : rowAt (R ++ [r]) R.length = r := by
  unfold rowAt
  rw [List.getD_eq_getElem?_getD, List.getElem?_append_right (Nat.le_refl _), Nat.sub_self]
  rfl
theorem RL.push {H : Hp} {l c : Addr} {us : List V} {R : List Row} {r : Row} (e : H l = some (.lst us)) (n : us.length = R.length) (h : ∀ j u, us[j]? = some u → RowV K H u (rowAt R j)) (hr : RowV K H (.ref c) r) : RL K (upd H l (.lst (us ++ [.ref c]))) l (R ++ [r]) := by
  have t : Tk H (upd H l (.lst (us ++ [.ref c]))) := tk_mut e
  refine ⟨us ++ [.ref c], upd_same, by rw [List.length_append, List.length_append, n]; rfl, fun j u hj => ?_⟩
  by_cases hji : j < us.length
  · rw [List.getElem?_append_left hji] at hj
    rw [rowAt_old (by omega)]
    exact (h j u hj).tk t
  · have ej : j = R.length := by
      have := (List.getElem?_eq_some_iff.mp hj).1
      rw [List.length_append, List.length_singleton] at this
      omega
    subst ej
    rw [List.getElem?_append_right (by omega), n, Nat.sub_self] at hj
    cases hj
    rw [rowAt_new]
    exact hr.tk t
theorem Good.push {R : List Row} {r : Row} (g : Good R) (h1 : r.1 ≤ 7) (h2 : r.2.length ≤ 2) (h3 : ∀ p ∈ r.2, p < R.length) : Good (R ++ [r]) := by
  intro n hn
  rw [List.length_append, List.length_singleton] at hn
  unfold parts
  by_cases h : n < R.length
  · rw [rowAt_old h]
    exact g n h
  · have e : n = R.length := by omega
    subst e
    rw [rowAt_new]
    exact ⟨h1, h2, h3⟩
theorem good_nil : Good [] := fun n h => absurd h (Nat.not_lt_zero n)
theorem BagAt.ne {b g l : Addr} {H : Hp} (B : BagAt H b g) (h : H l = none) : l ≠ b ∧ l ≠ g := by
  obtain ⟨_, _, _, _, e1, e2, _⟩ := B
  exact ⟨(ne_of_none e1 h).symm, (ne_of_none e2 h).symm⟩
/-- numbers drawn into a new list -/
def NL (H : Hp) (D : Addr) (k n : Nat) : Prop := ∃ qs : List Nat, H D = some (.lst (qs.map nv)) ∧ qs.length = n ∧ ∀ q ∈ qs, q < k
end
section
variable {K : PySem.W.Frag}
theorem okd_nums {ps : List Nat} (h : ps.length ≤ 100000) : okd 2 (.tuple (ps.map dN)) := by
  refine ⟨by rw [List.length_map]; exact h, fun e he => ?_⟩
  obtain ⟨x, _, rfl⟩ := List.mem_map.mp he
  exact trivial
theorem okd_up : ∀ {n : Nat} {d : PyData}, okd n d → okd (n + 1) d
  | 0, _, h => h.elim
  | n + 1, d, h => by
    cases d with
    | none | bool _ | int _ | str _ => trivial
    | dict _ => exact h.elim
    | list ds => exact ⟨h.1, fun e he => okd_up (h.2 e he)⟩
    | tuple ds => exact ⟨h.1, fun e he => okd_up (h.2 e he)⟩
theorem okd_rows {R : List Row} (g : Good R) (h : R.length ≤ 100000) : okd 4 (dRows R) := by
  refine ⟨by rw [List.length_map]; exact h, fun e he => ?_⟩
  obtain ⟨r, hr, rfl⟩ := List.mem_map.mp he
  refine ⟨by show 2 ≤ 100000; decide, fun e he => ?_⟩
  have hl : r.2.length ≤ 100000 := by
    obtain ⟨i, hi⟩ := List.mem_iff_getElem?.mp hr
    have hlt := (List.getElem?_eq_some_iff.mp hi).1
    have := (g i hlt).2.1
    unfold parts at this
    rw [rowAt_of hlt] at hi
    cases hi
    omega
  rcases List.mem_cons.mp he with rfl | he
  · exact trivial
  · rw [List.mem_singleton.mp he]
    exact okd_nums hl
end
end Lk
namespace Lk
open PySem L2
def top (i : Nat) : Stmt := PySem.Challenge.pw_lookdown_k07_whole_ways_needs_and_what_c.main.body.getD i (.Pass ⟨0, 0, 0, 0⟩)
abbrev s_is_integer : Stmt := top 1
abbrev s_is_between : Stmt := top 2
abbrev s_is_tuple_of : Stmt := top 3
abbrev s_Book_init : Stmt := inClass (top 12) 0
abbrev s_check_frame : Stmt := top 13
abbrev s_check_rules : Stmt := top 14
abbrev s_check_moves : Stmt := top 15
abbrev s_is_rule : Stmt := top 16
abbrev s_is_move : Stmt := top 17
abbrev s_is_price : Stmt := top 18
abbrev s_Web_init : Stmt := inClass (top 20) 0
abbrev s_is_value : Stmt := top 21
abbrev s_fits : Stmt := top 22
abbrev s_is_row_of : Stmt := top 23
abbrev s_check_web : Stmt := top 24
abbrev s_ways : Stmt := top 26
abbrev s_needs : Stmt := top 27
abbrev s_makeable : Stmt := top 28
abbrev s_kinds_made : Stmt := top 29
abbrev s_is_thing : Stmt := top 30
abbrev s_check_thing : Stmt := top 31
abbrev s_is_way : Stmt := top 32
abbrev s_is_way_to : Stmt := top 33
abbrev s_ways_to : Stmt := top 34
abbrev s_needs_for : Stmt := top 35
abbrev s_needs_by_parts : Stmt := top 36
abbrev s_law_bag : Stmt := top 38
abbrev s_law_pick : Stmt := top 39
abbrev s_law_price : Stmt := top 40
abbrev s_law_arities : Stmt := top 41
abbrev s_law_rules : Stmt := top 42
abbrev s_law_moves : Stmt := top 43
abbrev s_law_book : Stmt := top 44
abbrev s_law_values : Stmt := top 45
abbrev s_law_same : Stmt := top 46
abbrev s_law_great_book : Stmt := top 47
abbrev s_law_ways : Stmt := top 48
abbrev s_law_needs : Stmt := top 49
abbrev s_law_are_in : Stmt := top 50
abbrev s_law_makeable : Stmt := top 51
abbrev s_law_size : Stmt := top 52
abbrev s_law_sound_book : Stmt := top 53
abbrev s_law_are_told : Stmt := top 54
abbrev s_law : Stmt := top 55
theorem sc_is_integer : FnScope ["thing"] ["thing"] (defScope s_is_integer) := ⟨rfl, rfl, rfl, by decide +kernel, rfl, by decide +kernel, by decide +kernel⟩
theorem sc_is_between : FnScope ["low", "high", "thing"] ["low", "high", "thing"] (defScope s_is_between) := ⟨rfl, rfl, rfl, by decide +kernel, rfl, by decide +kernel, by decide +kernel⟩
theorem sc_is_tuple_of : FnScope ["low", "high", "thing"] ["low", "high", "thing"] (defScope s_is_tuple_of) := ⟨rfl, rfl, rfl, by decide +kernel, rfl, by decide +kernel, by decide +kernel⟩
theorem sc_Book_init : FnScope ["self", "arities", "kinds", "rules", "moves"] ["self", "arities", "kinds", "rules", "moves"] (defScope s_Book_init) := ⟨rfl, rfl, rfl, by decide +kernel, rfl, by decide +kernel, by decide +kernel⟩
theorem sc_check_frame : FnScope ["arities", "kinds", "rules", "moves", "arity"] ["arities", "kinds", "rules", "moves"] (defScope s_check_frame) := ⟨rfl, rfl, rfl, by decide +kernel, rfl, by decide +kernel, by decide +kernel⟩
theorem sc_check_rules : FnScope ["arities", "kinds", "rules", "seen", "k", "rule"] ["arities", "kinds", "rules"] (defScope s_check_rules) := ⟨rfl, rfl, rfl, by decide +kernel, rfl, by decide +kernel, by decide +kernel⟩
theorem sc_check_moves : FnScope ["kinds", "moves", "seen", "k", "move"] ["kinds", "moves"] (defScope s_check_moves) := ⟨rfl, rfl, rfl, by decide +kernel, rfl, by decide +kernel, by decide +kernel⟩
theorem sc_is_rule : FnScope ["arities", "kinds", "thing", "op", "sources", "kind", "cost", "source"] ["arities", "kinds", "thing"] (defScope s_is_rule) := ⟨rfl, rfl, rfl, by decide +kernel, rfl, by decide +kernel, by decide +kernel⟩
theorem sc_is_move : FnScope ["kinds", "thing", "source", "kind", "cost"] ["kinds", "thing"] (defScope s_is_move) := ⟨rfl, rfl, rfl, by decide +kernel, rfl, by decide +kernel, by decide +kernel⟩
theorem sc_is_price : FnScope ["thing"] ["thing"] (defScope s_is_price) := ⟨rfl, rfl, rfl, by decide +kernel, rfl, by decide +kernel, by decide +kernel⟩
theorem sc_Web_init : FnScope ["self", "values", "index", "value"] ["self", "values"] (defScope s_Web_init) := ⟨rfl, rfl, rfl, by decide +kernel, rfl, by decide +kernel, by decide +kernel⟩
theorem sc_is_value : FnScope ["index", "thing", "op", "parts", "part"] ["index", "thing"] (defScope s_is_value) := ⟨rfl, rfl, rfl, by decide +kernel, rfl, by decide +kernel, by decide +kernel⟩
theorem sc_fits : FnScope ["book", "web", "op", "parts"] ["book", "web"] (defScope s_fits) := ⟨rfl, rfl, rfl, by decide +kernel, rfl, by decide +kernel, by decide +kernel⟩
theorem sc_is_row_of : FnScope ["book", "op", "parts"] ["book", "op", "parts"] (defScope s_is_row_of) := ⟨rfl, rfl, rfl, by decide +kernel, rfl, by decide +kernel, by decide +kernel⟩
theorem sc_check_web : FnScope ["book", "web"] ["book", "web"] (defScope s_check_web) := ⟨rfl, rfl, rfl, by decide +kernel, rfl, by decide +kernel, by decide +kernel⟩
theorem sc_ways : FnScope ["book", "web", "thing"] ["book", "web", "thing"] (defScope s_ways) := ⟨rfl, rfl, rfl, by decide +kernel, rfl, by decide +kernel, by decide +kernel⟩
theorem sc_needs : FnScope ["book", "web", "thing", "way"] ["book", "web", "thing", "way"] (defScope s_needs) := ⟨rfl, rfl, rfl, by decide +kernel, rfl, by decide +kernel, by decide +kernel⟩
theorem sc_makeable : FnScope ["book", "web", "made", "value", "kind"] ["book", "web"] (defScope s_makeable) := ⟨rfl, rfl, rfl, by decide +kernel, rfl, by decide +kernel, by decide +kernel⟩
theorem sc_kinds_made : FnScope ["book", "web", "value", "made", "op", "parts", "reached", "rule_op", "sources", "kind", "_", "grown", "source", "need"] ["book", "web", "value", "made"] (defScope s_kinds_made) := ⟨rfl, rfl, rfl, by decide +kernel, rfl, by decide +kernel, by decide +kernel⟩
theorem sc_is_thing : FnScope ["book", "web", "thing"] ["book", "web", "thing"] (defScope s_is_thing) := ⟨rfl, rfl, rfl, by decide +kernel, rfl, by decide +kernel, by decide +kernel⟩
theorem sc_check_thing : FnScope ["book", "web", "thing"] ["book", "web", "thing"] (defScope s_check_thing) := ⟨rfl, rfl, rfl, by decide +kernel, rfl, by decide +kernel, by decide +kernel⟩
theorem sc_is_way : FnScope ["book", "thing"] ["book", "thing"] (defScope s_is_way) := ⟨rfl, rfl, rfl, by decide +kernel, rfl, by decide +kernel, by decide +kernel⟩
theorem sc_is_way_to : FnScope ["book", "web", "target", "thing"] ["book", "web", "target", "thing"] (defScope s_is_way_to) := ⟨rfl, rfl, rfl, by decide +kernel, rfl, by decide +kernel, by decide +kernel⟩
theorem sc_ways_to : FnScope ["book", "web", "thing", "value", "wanted", "op", "by_move", "by_rule", "k", "move", "rule"] ["book", "web", "thing"] (defScope s_ways_to) := ⟨rfl, rfl, rfl, by decide +kernel, rfl, by decide +kernel, by decide +kernel⟩
theorem sc_needs_for : FnScope ["book", "web", "thing", "way", "needed_once", "need"] ["book", "web", "thing", "way"] (defScope s_needs_for) := ⟨rfl, rfl, rfl, by decide +kernel, rfl, by decide +kernel, by decide +kernel⟩
theorem sc_needs_by_parts : FnScope ["book", "web", "thing", "way", "value", "word", "k"] ["book", "web", "thing", "way"] (defScope s_needs_by_parts) := ⟨rfl, rfl, rfl, by decide +kernel, rfl, by decide +kernel, by decide +kernel⟩
theorem sc_law_bag : FnScope ["_law_script", "_law_seed", "_law_cell", "_law_great", "_law_always"] ["_law_script"] (defScope s_law_bag) := ⟨rfl, rfl, rfl, by decide +kernel, rfl, by decide +kernel, by decide +kernel⟩
theorem sc_law_pick : FnScope ["_law_bag_here", "_law_many", "_law_great", "_law_digit", "_law_number"] ["_law_bag_here", "_law_many"] (defScope s_law_pick) := ⟨rfl, rfl, rfl, by decide +kernel, rfl, by decide +kernel, by decide +kernel⟩
theorem sc_law_price : FnScope ["_law_bag_here"] ["_law_bag_here"] (defScope s_law_price) := ⟨rfl, rfl, rfl, by decide +kernel, rfl, by decide +kernel, by decide +kernel⟩
theorem sc_law_arities : FnScope ["_law_bag_here", "_law_many", "_law_menu", "_law_found", "_law_k"] ["_law_bag_here"] (defScope s_law_arities) := ⟨rfl, rfl, rfl, by decide +kernel, rfl, by decide +kernel, by decide +kernel⟩
theorem sc_law_rules : FnScope ["_law_bag_here", "_law_arities_here", "_law_kinds", "_law_wanted", "_law_known", "_law_found", "_law_k", "_law_op", "_law_sources", "_law_kind", "_law_j"] ["_law_bag_here", "_law_arities_here", "_law_kinds", "_law_wanted"] (defScope s_law_rules) := ⟨rfl, rfl, rfl, by decide +kernel, rfl, by decide +kernel, by decide +kernel⟩
theorem sc_law_moves : FnScope ["_law_bag_here", "_law_kinds", "_law_wanted", "_law_known", "_law_found", "_law_k", "_law_source", "_law_kind"] ["_law_bag_here", "_law_kinds", "_law_wanted"] (defScope s_law_moves) := ⟨rfl, rfl, rfl, by decide +kernel, rfl, by decide +kernel, by decide +kernel⟩
theorem sc_law_book : FnScope ["_law_bag_here", "_law_arities_here", "_law_kinds", "_law_wanted", "_law_rules_here"] ["_law_bag_here"] (defScope s_law_book) := ⟨rfl, rfl, rfl, by decide +kernel, rfl, by decide +kernel, by decide +kernel⟩
theorem sc_law_values : FnScope ["_law_bag_here", "_law_arities_here", "_law_wanted", "_law_found", "_law_k", "_law_ops", "_law_op", "_law_j"] ["_law_bag_here", "_law_arities_here", "_law_wanted"] (defScope s_law_values) := ⟨rfl, rfl, rfl, by decide +kernel, rfl, by decide +kernel, by decide +kernel⟩
theorem sc_law_same : FnScope ["_law_told", "_law_due", "_law_k"] ["_law_told", "_law_due"] (defScope s_law_same) := ⟨rfl, rfl, rfl, by decide +kernel, rfl, by decide +kernel, by decide +kernel⟩
theorem sc_law_great_book : FnScope ["_law_bag_here", "_law_many", "_law_how", "_law_arities_here", "_law_rules_here", "_law_moves_here", "_law_k"] ["_law_bag_here"] (defScope s_law_great_book) := ⟨rfl, rfl, rfl, by decide +kernel, rfl, by decide +kernel, by decide +kernel⟩
theorem sc_law_ways : FnScope ["_law_parts", "_law_values_here", "_law_thing", "_law_rules_here", "_law_moves_here", "_law_op", "_law_found", "_law_k"] ["_law_parts", "_law_values_here", "_law_thing"] (defScope s_law_ways) := ⟨rfl, rfl, rfl, by decide +kernel, rfl, by decide +kernel, by decide +kernel⟩
theorem sc_law_needs : FnScope ["_law_parts", "_law_values_here", "_law_thing", "_law_way", "_law_some", "_law_sources", "_law_found", "_law_k"] ["_law_parts", "_law_values_here", "_law_thing", "_law_way"] (defScope s_law_needs) := ⟨rfl, rfl, rfl, by decide +kernel, rfl, by decide +kernel, by decide +kernel⟩
theorem sc_law_are_in : FnScope ["_law_things", "_law_found", "_law_thing"] ["_law_things", "_law_found"] (defScope s_law_are_in) := ⟨rfl, rfl, rfl, by decide +kernel, rfl, by decide +kernel, by decide +kernel⟩
theorem sc_law_makeable : FnScope ["_law_parts", "_law_values_here", "_law_found", "_law_value", "_law_turn", "_law_kind", "_law_way"] ["_law_parts", "_law_values_here"] (defScope s_law_makeable) := ⟨rfl, rfl, rfl, by decide +kernel, rfl, by decide +kernel, by decide +kernel⟩
theorem sc_law_size : FnScope ["_law_bag_here", "_law_many"] ["_law_bag_here"] (defScope s_law_size) := ⟨rfl, rfl, rfl, by decide +kernel, rfl, by decide +kernel, by decide +kernel⟩
theorem sc_law_sound_book : FnScope ["_law_bag_here", "_law_arities_here", "_law_kinds", "_law_rules_here", "_law_moves_here"] ["_law_bag_here"] (defScope s_law_sound_book) := ⟨rfl, rfl, rfl, by decide +kernel, rfl, by decide +kernel, by decide +kernel⟩
theorem sc_law_are_told : FnScope ["_law_book_here", "_law_web", "_law_parts", "_law_values_here", "_law_value", "_law_kind", "_law_due", "_law_told", "_law_way"] ["_law_book_here", "_law_web", "_law_parts", "_law_values_here"] (defScope s_law_are_told) := ⟨rfl, rfl, rfl, by decide +kernel, rfl, by decide +kernel, by decide +kernel⟩
theorem sc_law : FnScope ["_law_script", "_law_bag_here", "_law_turn", "_law_parts", "_law_values_here", "_law_book_here", "_law_web", "_law_due", "_law_value", "_law_kind", "_law_thing", "_law_many", "_law_way"] ["_law_script"] (defScope s_law) := ⟨rfl, rfl, rfl, by decide +kernel, rfl, by decide +kernel, by decide +kernel⟩
structure Adr where
  f_is_integer : Addr
  d_is_integer : FuncData
  f_is_between : Addr
  d_is_between : FuncData
  f_is_tuple_of : Addr
  d_is_tuple_of : FuncData
  f_Book_init : Addr
  d_Book_init : FuncData
  f_check_frame : Addr
  d_check_frame : FuncData
  f_check_rules : Addr
  d_check_rules : FuncData
  f_check_moves : Addr
  d_check_moves : FuncData
  f_is_rule : Addr
  d_is_rule : FuncData
  f_is_move : Addr
  d_is_move : FuncData
  f_is_price : Addr
  d_is_price : FuncData
  f_Web_init : Addr
  d_Web_init : FuncData
  f_is_value : Addr
  d_is_value : FuncData
  f_fits : Addr
  d_fits : FuncData
  f_is_row_of : Addr
  d_is_row_of : FuncData
  f_check_web : Addr
  d_check_web : FuncData
  f_ways : Addr
  d_ways : FuncData
  f_needs : Addr
  d_needs : FuncData
  f_makeable : Addr
  d_makeable : FuncData
  f_kinds_made : Addr
  d_kinds_made : FuncData
  f_is_thing : Addr
  d_is_thing : FuncData
  f_check_thing : Addr
  d_check_thing : FuncData
  f_is_way : Addr
  d_is_way : FuncData
  f_is_way_to : Addr
  d_is_way_to : FuncData
  f_ways_to : Addr
  d_ways_to : FuncData
  f_needs_for : Addr
  d_needs_for : FuncData
  f_needs_by_parts : Addr
  d_needs_by_parts : FuncData
  f_law_bag : Addr
  d_law_bag : FuncData
  f_law_pick : Addr
  d_law_pick : FuncData
  f_law_price : Addr
  d_law_price : FuncData
  f_law_arities : Addr
  d_law_arities : FuncData
  f_law_rules : Addr
  d_law_rules : FuncData
  f_law_moves : Addr
  d_law_moves : FuncData
  f_law_book : Addr
  d_law_book : FuncData
  f_law_values : Addr
  d_law_values : FuncData
  f_law_same : Addr
  d_law_same : FuncData
  f_law_great_book : Addr
  d_law_great_book : FuncData
  f_law_ways : Addr
  d_law_ways : FuncData
  f_law_needs : Addr
  d_law_needs : FuncData
  f_law_are_in : Addr
  d_law_are_in : FuncData
  f_law_makeable : Addr
  d_law_makeable : FuncData
  f_law_size : Addr
  d_law_size : FuncData
  f_law_sound_book : Addr
  d_law_sound_book : FuncData
  f_law_are_told : Addr
  d_law_are_told : FuncData
  f_law : Addr
  d_law : FuncData
  c_Book : Addr
  c_Web : Addr
structure Txt (K : PySem.W.Frag) (mg : Str → Option Value) (a : Adr) : Prop where
  F_is_integer : Fun K "is_integer" "is_integer" s_is_integer a.f_is_integer a.d_is_integer
  b_is_integer : Binds K a.d_is_integer ["thing"] []
  k_is_integer : PySem.W.keepIn K (.ref a.f_is_integer) = true
  g_is_integer : mg "is_integer" = some (.ref a.f_is_integer)
  F_is_between : Fun K "is_between" "is_between" s_is_between a.f_is_between a.d_is_between
  b_is_between : Binds K a.d_is_between ["low", "high", "thing"] []
  k_is_between : PySem.W.keepIn K (.ref a.f_is_between) = true
  g_is_between : mg "is_between" = some (.ref a.f_is_between)
  F_is_tuple_of : Fun K "is_tuple_of" "is_tuple_of" s_is_tuple_of a.f_is_tuple_of a.d_is_tuple_of
  b_is_tuple_of : Binds K a.d_is_tuple_of ["low", "high", "thing"] []
  k_is_tuple_of : PySem.W.keepIn K (.ref a.f_is_tuple_of) = true
  g_is_tuple_of : mg "is_tuple_of" = some (.ref a.f_is_tuple_of)
  F_Book_init : Fun K "__init__" "Book.__init__" s_Book_init a.f_Book_init a.d_Book_init
  b_Book_init : Binds K a.d_Book_init ["self", "arities", "kinds", "rules", "moves"] []
  k_Book_init : PySem.W.keepIn K (.ref a.f_Book_init) = true
  F_check_frame : Fun K "_check_frame" "_check_frame" s_check_frame a.f_check_frame a.d_check_frame
  b_check_frame : Binds K a.d_check_frame ["arities", "kinds", "rules", "moves"] []
  k_check_frame : PySem.W.keepIn K (.ref a.f_check_frame) = true
  g_check_frame : mg "_check_frame" = some (.ref a.f_check_frame)
  F_check_rules : Fun K "_check_rules" "_check_rules" s_check_rules a.f_check_rules a.d_check_rules
  b_check_rules : Binds K a.d_check_rules ["arities", "kinds", "rules"] []
  k_check_rules : PySem.W.keepIn K (.ref a.f_check_rules) = true
  g_check_rules : mg "_check_rules" = some (.ref a.f_check_rules)
  F_check_moves : Fun K "_check_moves" "_check_moves" s_check_moves a.f_check_moves a.d_check_moves
  b_check_moves : Binds K a.d_check_moves ["kinds", "moves"] []
  k_check_moves : PySem.W.keepIn K (.ref a.f_check_moves) = true
  g_check_moves : mg "_check_moves" = some (.ref a.f_check_moves)
  F_is_rule : Fun K "_is_rule" "_is_rule" s_is_rule a.f_is_rule a.d_is_rule
  b_is_rule : Binds K a.d_is_rule ["arities", "kinds", "thing"] []
  k_is_rule : PySem.W.keepIn K (.ref a.f_is_rule) = true
  g_is_rule : mg "_is_rule" = some (.ref a.f_is_rule)
  F_is_move : Fun K "_is_move" "_is_move" s_is_move a.f_is_move a.d_is_move
  b_is_move : Binds K a.d_is_move ["kinds", "thing"] []
  k_is_move : PySem.W.keepIn K (.ref a.f_is_move) = true
  g_is_move : mg "_is_move" = some (.ref a.f_is_move)
  F_is_price : Fun K "is_price" "is_price" s_is_price a.f_is_price a.d_is_price
  b_is_price : Binds K a.d_is_price ["thing"] []
  k_is_price : PySem.W.keepIn K (.ref a.f_is_price) = true
  g_is_price : mg "is_price" = some (.ref a.f_is_price)
  F_Web_init : Fun K "__init__" "Web.__init__" s_Web_init a.f_Web_init a.d_Web_init
  b_Web_init : Binds K a.d_Web_init ["self", "values"] []
  k_Web_init : PySem.W.keepIn K (.ref a.f_Web_init) = true
  F_is_value : Fun K "_is_value" "_is_value" s_is_value a.f_is_value a.d_is_value
  b_is_value : Binds K a.d_is_value ["index", "thing"] []
  k_is_value : PySem.W.keepIn K (.ref a.f_is_value) = true
  g_is_value : mg "_is_value" = some (.ref a.f_is_value)
  F_fits : Fun K "fits" "fits" s_fits a.f_fits a.d_fits
  b_fits : Binds K a.d_fits ["book", "web"] []
  k_fits : PySem.W.keepIn K (.ref a.f_fits) = true
  g_fits : mg "fits" = some (.ref a.f_fits)
  F_is_row_of : Fun K "_is_row_of" "_is_row_of" s_is_row_of a.f_is_row_of a.d_is_row_of
  b_is_row_of : Binds K a.d_is_row_of ["book", "op", "parts"] []
  k_is_row_of : PySem.W.keepIn K (.ref a.f_is_row_of) = true
  g_is_row_of : mg "_is_row_of" = some (.ref a.f_is_row_of)
  F_check_web : Fun K "check_web" "check_web" s_check_web a.f_check_web a.d_check_web
  b_check_web : Binds K a.d_check_web ["book", "web"] []
  k_check_web : PySem.W.keepIn K (.ref a.f_check_web) = true
  g_check_web : mg "check_web" = some (.ref a.f_check_web)
  F_ways : Fun K "ways" "ways" s_ways a.f_ways a.d_ways
  b_ways : Binds K a.d_ways ["book", "web", "thing"] []
  k_ways : PySem.W.keepIn K (.ref a.f_ways) = true
  g_ways : mg "ways" = some (.ref a.f_ways)
  F_needs : Fun K "needs" "needs" s_needs a.f_needs a.d_needs
  b_needs : Binds K a.d_needs ["book", "web", "thing", "way"] []
  k_needs : PySem.W.keepIn K (.ref a.f_needs) = true
  g_needs : mg "needs" = some (.ref a.f_needs)
  F_makeable : Fun K "makeable" "makeable" s_makeable a.f_makeable a.d_makeable
  b_makeable : Binds K a.d_makeable ["book", "web"] []
  k_makeable : PySem.W.keepIn K (.ref a.f_makeable) = true
  g_makeable : mg "makeable" = some (.ref a.f_makeable)
  F_kinds_made : Fun K "_kinds_made" "_kinds_made" s_kinds_made a.f_kinds_made a.d_kinds_made
  b_kinds_made : Binds K a.d_kinds_made ["book", "web", "value", "made"] []
  k_kinds_made : PySem.W.keepIn K (.ref a.f_kinds_made) = true
  g_kinds_made : mg "_kinds_made" = some (.ref a.f_kinds_made)
  F_is_thing : Fun K "is_thing" "is_thing" s_is_thing a.f_is_thing a.d_is_thing
  b_is_thing : Binds K a.d_is_thing ["book", "web", "thing"] []
  k_is_thing : PySem.W.keepIn K (.ref a.f_is_thing) = true
  g_is_thing : mg "is_thing" = some (.ref a.f_is_thing)
  F_check_thing : Fun K "_check_thing" "_check_thing" s_check_thing a.f_check_thing a.d_check_thing
  b_check_thing : Binds K a.d_check_thing ["book", "web", "thing"] []
  k_check_thing : PySem.W.keepIn K (.ref a.f_check_thing) = true
  g_check_thing : mg "_check_thing" = some (.ref a.f_check_thing)
  F_is_way : Fun K "is_way" "is_way" s_is_way a.f_is_way a.d_is_way
  b_is_way : Binds K a.d_is_way ["book", "thing"] []
  k_is_way : PySem.W.keepIn K (.ref a.f_is_way) = true
  g_is_way : mg "is_way" = some (.ref a.f_is_way)
  F_is_way_to : Fun K "is_way_to" "is_way_to" s_is_way_to a.f_is_way_to a.d_is_way_to
  b_is_way_to : Binds K a.d_is_way_to ["book", "web", "target", "thing"] []
  k_is_way_to : PySem.W.keepIn K (.ref a.f_is_way_to) = true
  g_is_way_to : mg "is_way_to" = some (.ref a.f_is_way_to)
  F_ways_to : Fun K "ways_to" "ways_to" s_ways_to a.f_ways_to a.d_ways_to
  b_ways_to : Binds K a.d_ways_to ["book", "web", "thing"] []
  k_ways_to : PySem.W.keepIn K (.ref a.f_ways_to) = true
  g_ways_to : mg "ways_to" = some (.ref a.f_ways_to)
  F_needs_for : Fun K "needs_for" "needs_for" s_needs_for a.f_needs_for a.d_needs_for
  b_needs_for : Binds K a.d_needs_for ["book", "web", "thing", "way"] []
  k_needs_for : PySem.W.keepIn K (.ref a.f_needs_for) = true
  g_needs_for : mg "needs_for" = some (.ref a.f_needs_for)
  F_needs_by_parts : Fun K "needs_by_parts" "needs_by_parts" s_needs_by_parts a.f_needs_by_parts a.d_needs_by_parts
  b_needs_by_parts : Binds K a.d_needs_by_parts ["book", "web", "thing", "way"] []
  k_needs_by_parts : PySem.W.keepIn K (.ref a.f_needs_by_parts) = true
  g_needs_by_parts : mg "needs_by_parts" = some (.ref a.f_needs_by_parts)
  F_law_bag : Fun K "_law_bag" "_law_bag" s_law_bag a.f_law_bag a.d_law_bag
  b_law_bag : Binds K a.d_law_bag ["_law_script"] []
  k_law_bag : PySem.W.keepIn K (.ref a.f_law_bag) = true
  g_law_bag : mg "_law_bag" = some (.ref a.f_law_bag)
  F_law_pick : Fun K "_law_pick" "_law_pick" s_law_pick a.f_law_pick a.d_law_pick
  b_law_pick : Binds K a.d_law_pick ["_law_bag_here", "_law_many"] []
  k_law_pick : PySem.W.keepIn K (.ref a.f_law_pick) = true
  g_law_pick : mg "_law_pick" = some (.ref a.f_law_pick)
  F_law_price : Fun K "_law_price" "_law_price" s_law_price a.f_law_price a.d_law_price
  b_law_price : Binds K a.d_law_price ["_law_bag_here"] []
  k_law_price : PySem.W.keepIn K (.ref a.f_law_price) = true
  g_law_price : mg "_law_price" = some (.ref a.f_law_price)
  F_law_arities : Fun K "_law_arities" "_law_arities" s_law_arities a.f_law_arities a.d_law_arities
  b_law_arities : Binds K a.d_law_arities ["_law_bag_here"] []
  k_law_arities : PySem.W.keepIn K (.ref a.f_law_arities) = true
  g_law_arities : mg "_law_arities" = some (.ref a.f_law_arities)
  F_law_rules : Fun K "_law_rules" "_law_rules" s_law_rules a.f_law_rules a.d_law_rules
  b_law_rules : Binds K a.d_law_rules ["_law_bag_here", "_law_arities_here", "_law_kinds", "_law_wanted"] []
  k_law_rules : PySem.W.keepIn K (.ref a.f_law_rules) = true
  g_law_rules : mg "_law_rules" = some (.ref a.f_law_rules)
  F_law_moves : Fun K "_law_moves" "_law_moves" s_law_moves a.f_law_moves a.d_law_moves
  b_law_moves : Binds K a.d_law_moves ["_law_bag_here", "_law_kinds", "_law_wanted"] []
  k_law_moves : PySem.W.keepIn K (.ref a.f_law_moves) = true
  g_law_moves : mg "_law_moves" = some (.ref a.f_law_moves)
  F_law_book : Fun K "_law_book" "_law_book" s_law_book a.f_law_book a.d_law_book
  b_law_book : Binds K a.d_law_book ["_law_bag_here"] []
  k_law_book : PySem.W.keepIn K (.ref a.f_law_book) = true
  g_law_book : mg "_law_book" = some (.ref a.f_law_book)
  F_law_values : Fun K "_law_values" "_law_values" s_law_values a.f_law_values a.d_law_values
  b_law_values : Binds K a.d_law_values ["_law_bag_here", "_law_arities_here", "_law_wanted"] []
  k_law_values : PySem.W.keepIn K (.ref a.f_law_values) = true
  g_law_values : mg "_law_values" = some (.ref a.f_law_values)
  F_law_same : Fun K "_law_same" "_law_same" s_law_same a.f_law_same a.d_law_same
  b_law_same : Binds K a.d_law_same ["_law_told", "_law_due"] []
  k_law_same : PySem.W.keepIn K (.ref a.f_law_same) = true
  g_law_same : mg "_law_same" = some (.ref a.f_law_same)
  F_law_great_book : Fun K "_law_great_book" "_law_great_book" s_law_great_book a.f_law_great_book a.d_law_great_book
  b_law_great_book : Binds K a.d_law_great_book ["_law_bag_here"] []
  k_law_great_book : PySem.W.keepIn K (.ref a.f_law_great_book) = true
  g_law_great_book : mg "_law_great_book" = some (.ref a.f_law_great_book)
  F_law_ways : Fun K "_law_ways" "_law_ways" s_law_ways a.f_law_ways a.d_law_ways
  b_law_ways : Binds K a.d_law_ways ["_law_parts", "_law_values_here", "_law_thing"] []
  k_law_ways : PySem.W.keepIn K (.ref a.f_law_ways) = true
  g_law_ways : mg "_law_ways" = some (.ref a.f_law_ways)
  F_law_needs : Fun K "_law_needs" "_law_needs" s_law_needs a.f_law_needs a.d_law_needs
  b_law_needs : Binds K a.d_law_needs ["_law_parts", "_law_values_here", "_law_thing", "_law_way"] []
  k_law_needs : PySem.W.keepIn K (.ref a.f_law_needs) = true
  g_law_needs : mg "_law_needs" = some (.ref a.f_law_needs)
  F_law_are_in : Fun K "_law_are_in" "_law_are_in" s_law_are_in a.f_law_are_in a.d_law_are_in
  b_law_are_in : Binds K a.d_law_are_in ["_law_things", "_law_found"] []
  k_law_are_in : PySem.W.keepIn K (.ref a.f_law_are_in) = true
  g_law_are_in : mg "_law_are_in" = some (.ref a.f_law_are_in)
  F_law_makeable : Fun K "_law_makeable" "_law_makeable" s_law_makeable a.f_law_makeable a.d_law_makeable
  b_law_makeable : Binds K a.d_law_makeable ["_law_parts", "_law_values_here"] []
  k_law_makeable : PySem.W.keepIn K (.ref a.f_law_makeable) = true
  g_law_makeable : mg "_law_makeable" = some (.ref a.f_law_makeable)
  F_law_size : Fun K "_law_size" "_law_size" s_law_size a.f_law_size a.d_law_size
  b_law_size : Binds K a.d_law_size ["_law_bag_here"] []
  k_law_size : PySem.W.keepIn K (.ref a.f_law_size) = true
  g_law_size : mg "_law_size" = some (.ref a.f_law_size)
  F_law_sound_book : Fun K "_law_sound_book" "_law_sound_book" s_law_sound_book a.f_law_sound_book a.d_law_sound_book
  b_law_sound_book : Binds K a.d_law_sound_book ["_law_bag_here"] []
  k_law_sound_book : PySem.W.keepIn K (.ref a.f_law_sound_book) = true
  g_law_sound_book : mg "_law_sound_book" = some (.ref a.f_law_sound_book)
  F_law_are_told : Fun K "_law_are_told" "_law_are_told" s_law_are_told a.f_law_are_told a.d_law_are_told
  b_law_are_told : Binds K a.d_law_are_told ["_law_book_here", "_law_web", "_law_parts", "_law_values_here"] []
  k_law_are_told : PySem.W.keepIn K (.ref a.f_law_are_told) = true
  g_law_are_told : mg "_law_are_told" = some (.ref a.f_law_are_told)
  F_law : Fun K "law" "law" s_law a.f_law a.d_law
  b_law : Binds K a.d_law ["_law_script"] []
  k_law : PySem.W.keepIn K (.ref a.f_law) = true
  g_law : mg "law" = some (.ref a.f_law)
  g_Book : mg "Book" = some (.ref a.c_Book)
  g_Web : mg "Web" = some (.ref a.c_Web)
  z_abs : mg "abs" = none
  z_all : mg "all" = none
  z_bool : mg "bool" = none
  z_enumerate : mg "enumerate" = none
  z_int : mg "int" = none
  z_isinstance : mg "isinstance" = none
  z_len : mg "len" = none
  z_list : mg "list" = none
  z_max : mg "max" = none
  z_range : mg "range" = none
  z_sorted : mg "sorted" = none
  z_str : mg "str" = none
  z_sum : mg "sum" = none
  z_tuple : mg "tuple" = none
  z_zip : mg "zip" = none
  C_Book : Cls K a.c_Book
  M_Book : Mk K a.c_Book a.f_Book_init
  I_Book : C8.InsC K a.c_Book
  N_arities : NoAttr K a.c_Book "arities"
  N_kinds : NoAttr K a.c_Book "kinds"
  N_rules : NoAttr K a.c_Book "rules"
  N_moves : NoAttr K a.c_Book "moves"
  C_Web : Cls K a.c_Web
  M_Web : Mk K a.c_Web a.f_Web_init
  I_Web : C8.InsC K a.c_Web
  N_rows : NoAttr K a.c_Web "rows"
end Lk
namespace Lk
open PySem L2
section
variable {P : Program} {w : World} {K : PySem.W.Frag} {mg : Str → Option Value} {base : Heap} {a : Adr}
/-- what data may be -/
inductive DTy : String → Prop where
  | non : DTy "NoneType" | bl : DTy "bool" | int : DTy "int" | str : DTy "str" | lst : DTy "list" | tup : DTy "tuple" | dict : DTy "dict"
def spIsInteger (K : PySem.W.Frag) : Sp := fun vs H Q _ => ∃ (v : V) (n : String), vs = [v] ∧ DTy n ∧ TyX K H v (.type n) ∧ Q (.bl (n == "int")) H
theorem ok_is_integer (T : Txt K mg a) : FnOk P w K mg base CX0 1 a.f_is_integer a.d_is_integer ["thing"] (spIsInteger K) := by
  refine T.F_is_integer.ok sc_is_integer (fun vs H Q E h => ?_) (fun cdv A outer s H vs Q E hr h => ?_)
  · obtain ⟨v, n, rfl, _⟩ := h
    rfl
  obtain ⟨v, n, rfl, hn, ht, q⟩ := h
  refine ⟨_, (pss_one (ps_ret (pe_and (pe_callB call_isi (by rfl) T.z_isinstance (by decide +kernel) (pa_cons (pv 0) (pa_cons (pe_bltn (v := .ty "int") rfl T.z_int (show bootBuiltins "int" = some (.type "int") by decide +kernel) rfl) pa_nil))) (pe_one (pe_not (pe_callB call_isi (by rfl) T.z_isinstance (by decide +kernel) (pa_cons (pv 0) (pa_cons (pe_bltn (v := .ty "bool") rfl T.z_bool (show bootBuiltins "bool" = some (.type "bool") by decide +kernel) rfl) pa_nil)))))))), ?_⟩
  cases hn
  all_goals
    first
      | exact ⟨_, rfl, _, .ty "int", _, _, true, rfl, .ty "int", ht, kit_ty (by decide +kernel), true, rfl, _, rfl, _, .ty "bool", _, _, false, rfl, .ty "bool", ht, kit_ty (by decide +kernel), false, rfl, q⟩
      | exact ⟨_, rfl, _, .ty "int", _, _, true, rfl, .ty "int", ht, kit_ty (by decide +kernel), true, rfl, _, rfl, _, .ty "bool", _, _, true, rfl, .ty "bool", ht, kit_ty (by decide +kernel), true, rfl, q⟩
      | exact ⟨_, rfl, _, .ty "int", _, _, false, rfl, .ty "int", ht, kit_ty (by decide +kernel), false, rfl, q⟩
def spIsBetween (K : PySem.W.Frag) : Sp := fun vs H Q _ => ∃ (v : V) (n : String) (lo hi : Int), vs = [.int lo, .int hi, v] ∧ DTy n ∧ TyX K H v (.type n) ∧
  ((n ≠ "int" ∧ Q (.bl false) H) ∨ ∃ i, v = .int i ∧ n = "int" ∧ Q (.bl (decide (lo ≤ i) && decide (i ≤ hi))) H)
theorem ok_is_between (T : Txt K mg a) : FnOk P w K mg base CX0 2 a.f_is_between a.d_is_between ["low", "high", "thing"] (spIsBetween K) := by
  have G := ok_is_integer (P := P) (w := w) (base := base) T
  refine T.F_is_between.ok sc_is_between (fun vs H Q E h => ?_) (fun cdv A outer s H vs Q E hr h => ?_)
  · obtain ⟨v, n, lo, hi, rfl, _⟩ := h
    rfl
  obtain ⟨v, n, lo, hi, rfl, hn, ht, q⟩ := h
  refine ⟨_, (pss_one (ps_ret (pe_and (pe_call G (hr.mono (by decide)) rfl T.g_is_integer T.k_is_integer T.b_is_integer .nil pass0 (pa_cons (pv 2) pa_nil)) (pe_one (pe_chain op_le op_le (pv 0) (pv 2) (pv 1)))))), ?_⟩
  refine ⟨_, rfl, v, n, rfl, hn, ht, _, rfl, ?_⟩
  rcases q with ⟨ne, q⟩ | ⟨i, rfl, rfl, q⟩
  · have e : (n == "int") = false := by simpa using ne
    rw [e]
    exact q
  · show (if true = true then _ else _)
    refine iteT ?_
    refine ⟨_, rfl, _, rfl, _, _, rfl, rfl, ?_⟩
    refine ⟨_, rfl, ?_⟩
    by_cases h : lo ≤ i
    · rw [decide_eq_true h]
      rw [decide_eq_true h] at q
      exact iteT ⟨_, rfl, _, _, rfl, rfl, q⟩
    · rw [decide_eq_false h]
      rw [decide_eq_false h] at q
      exact iteF q
def spIsTupleOf (K : PySem.W.Frag) : Sp := fun vs H Q _ => ∃ (v : V) (n : String) (lo hi : Int), vs = [.int lo, .int hi, v] ∧ DTy n ∧ TyX K H v (.type n) ∧
  ((n ≠ "tuple" ∧ Q (.bl false) H) ∨ ∃ p xs, v = .ref p ∧ n = "tuple" ∧ SqT K H p xs ∧ Q (.bl (decide (lo ≤ (xs.length : Int)) && decide ((xs.length : Int) ≤ hi))) H)
theorem ok_is_tuple_of (T : Txt K mg a) : FnOk P w K mg base CX0 1 a.f_is_tuple_of a.d_is_tuple_of ["low", "high", "thing"] (spIsTupleOf K) := by
  refine T.F_is_tuple_of.ok sc_is_tuple_of (fun vs H Q E h => ?_) (fun cdv A outer s H vs Q E hr h => ?_)
  · obtain ⟨v, n, lo, hi, rfl, _⟩ := h
    rfl
  obtain ⟨v, n, lo, hi, rfl, hn, ht, q⟩ := h
  refine ⟨_, (pss_one (ps_ret (pe_and (pe_callB call_isi (by rfl) T.z_isinstance (by decide +kernel) (pa_cons (pv 2) (pa_cons (pe_bltn (v := .ty "tuple") rfl T.z_tuple (show bootBuiltins "tuple" = some (.type "tuple") by decide +kernel) rfl) pa_nil))) (pe_one (pe_chain op_le op_le (pv 0) (pe_callB call_len_seq (by rfl) T.z_len PySem.boot_len (pa_cons (pv 2) pa_nil)) (pv 1)))))), ?_⟩
  rcases q with ⟨ne, q⟩ | ⟨p, xs, rfl, rfl, hs, q⟩
  · cases hn
    all_goals first
      | exact ⟨_, rfl, _, .ty "tuple", _, _, false, rfl, .ty "tuple", ht, kit_ty (by decide +kernel), false, rfl, q⟩
      | exact absurd rfl ne
  · refine ⟨_, rfl, _, .ty "tuple", _, _, true, rfl, .ty "tuple", ht, kit_ty (by decide +kernel), true, rfl, ?_⟩
    refine ⟨_, rfl, _, rfl, p, xs, rfl, .inr hs, _, _, rfl, rfl, _, rfl, ?_⟩
    by_cases h : lo ≤ (xs.length : Int)
    · rw [decide_eq_true h]
      rw [decide_eq_true h] at q
      exact iteT ⟨_, rfl, _, _, rfl, rfl, q⟩
    · rw [decide_eq_false h]
      rw [decide_eq_false h] at q
      exact iteF q
end
section
variable {P : Program} {w : World} {K : PySem.W.Frag} {mg : Str → Option Value} {base : Heap} {a : Adr}
def spIsValue (K : PySem.W.Frag) : Sp := fun vs H Q _ => ∃ (i : Nat) (v : V) (r : Row), vs = [nv i, v] ∧ RowV K H v r ∧ r.1 ≤ 7 ∧ r.2.length ≤ 2 ∧ (∀ p ∈ r.2, p < i) ∧ ∀ H', Same H H' → Q (.bl true) H'
theorem ok_is_value (T : Txt K mg a) : FnOk P w K mg base CX0 3 a.f_is_value a.d_is_value ["index", "thing"] (spIsValue K) := by
  have G1 := ok_is_between (P := P) (w := w) (base := base) T
  have G2 := ok_is_tuple_of (P := P) (w := w) (base := base) T
  refine T.F_is_value.ok sc_is_value (fun vs H Q E h => ?_) (fun cdv A outer s H vs Q E hr h => ?_)
  · obtain ⟨i, v, r, rfl, _⟩ := h
    rfl
  obtain ⟨i, v, r, rfl, ⟨p, q, rfl, h1, h2⟩, b1, b2, b3, k⟩ := h
  refine ⟨_, (pss_cons (ps_if (pt_not (pt_val (pe_call G2 (hr.mono (by decide)) rfl T.g_is_tuple_of T.k_is_tuple_of T.b_is_tuple_of .nil pass0 (pa_cons pe_int (pa_cons pe_int (pa_cons (pv 1) pa_nil))))))
    (pss_one (ps_ret pe_bl))
    pss_nil)
  (pss_cons (ps_asg (pv 1) (pg_tup (by rfl) (pgs_cons (pg_name (i := 2) sc_is_value.nd rfl (Or.inl rfl)) (pgs_cons (pg_name (i := 3) sc_is_value.nd rfl (Or.inl rfl)) pgs_nil))))
  (pss_one (ps_ret (pe_and (pe_call G1 (hr.mono (by decide)) rfl T.g_is_between T.k_is_between T.b_is_between .nil pass0 (pa_cons pe_int (pa_cons pe_int (pa_cons (pv 2) pa_nil)))) (pe_and (pe_call G2 (hr.mono (by decide)) rfl T.g_is_tuple_of T.k_is_tuple_of T.b_is_tuple_of .nil pass0 (pa_cons pe_int (pa_cons pe_int (pa_cons (pv 3) pa_nil)))) (pe_one (pe_callB (cr_all rfl) (by rfl) T.z_all (by decide +kernel) (pa_cons (pe_lc (own := [("part", 4)]) (g := gName 4) (tt := tYes) rfl sc_is_value.nd (pi_tup (pv 3)) (blkOk_by (N := ["index", "thing", "op", "parts", "part"]) (sc := defScope s_is_value) (by decide +kernel)) (fun _ _ _ _ _ => pg_name (i := 4) sc_is_value.nd rfl (Or.inl rfl)) (fun _ _ _ _ _ => pts_nil) (fun _ _ _ _ _ => (pe_call G1 (hr.mono (by decide)) rfl T.g_is_between T.k_is_between T.b_is_between .nil pass0 (pa_cons pe_int (pa_cons (pe_op op_sub (pv 0) pe_int) (pa_cons (pv 4) pa_nil)))))) pa_nil))))))))), ?_⟩
  refine ⟨_, rfl, .ref p, "tuple", 2, 2, rfl, .tup, tyT h1, .inr ⟨p, _, rfl, rfl, h1, ?_⟩⟩
  refine ⟨_, rfl, iteF ?_⟩
  refine ⟨_, rfl, p, _, rfl, h1, rfl, ?_⟩
  refine ⟨_, _, rfl, _, _, rfl, rfl, _, rfl, nv r.1, "int", 0, 7, rfl, .int, .base (.int _), .inr ⟨_, rfl, rfl, ?_⟩⟩
  refine ⟨_, rfl, iteC (by simp only [Bool.and_eq_true, decide_eq_true_eq]; omega) ?_⟩
  refine ⟨_, rfl, .ref q, "tuple", 0, 2, rfl, .tup, tyT h2, .inr ⟨q, _, rfl, rfl, h2, ?_⟩⟩
  refine ⟨_, rfl, iteC (by simp only [Bool.and_eq_true, decide_eq_true_eq, List.length_map]; omega) ?_⟩
  refine ⟨_, rfl, q, rfl, ⟨_, h2⟩, fun D hD => ?_⟩
  refine lc_tup (xs := r.2.map nv) (fun j H' => Same H H' ∧ H' D = some (.lst ((List.replicate j true).map V.bl))) ⟨same_new hD, upd_same⟩ (fun j H' _ z => (Tk.of z.1).t h2) (fun j x H' hx z => ?_) (fun H' z => ?_)
  · refine ⟨rfl, ?_⟩
    rw [List.getElem?_map] at hx
    obtain ⟨y, hy, rfl⟩ := Option.map_eq_some_iff.mp hx
    have hlt := b3 y (List.mem_of_getElem? hy)
    refine ⟨_, rfl, _, _, rfl, rfl, _, rfl, nv y, "int", 0, _, rfl, .int, .base (.int _), .inr ⟨_, rfl, rfl, ?_⟩⟩
    have hj : j < r.2.length := (List.getElem?_eq_some_iff.mp hy).1
    refine ⟨_, z.2, ?_, fun b o e => ?_, ?_⟩
    · rw [List.length_map, List.length_replicate]
      exact small1000 (by omega)
    · rw [upd_ne (ne_of_none e hD)]
      exact z.1 b o e
    · rw [upd_same]
      have e1 : (decide ((0 : Int) ≤ (y : Int)) && decide ((y : Int) ≤ (i : Int) - 1)) = true := by
        simp only [Bool.and_eq_true, decide_eq_true_eq]
        omega
      rw [e1, List.replicate_succ', List.map_append]
      rfl
  · refine ⟨D, _, rfl, .inl (.inl z.2), ?_⟩
    have e1 : (List.replicate (r.2.map nv).length true).all id = true := by simp
    rw [e1]
    exact k H' z.1
end
section
variable {P : Program} {w : World} {mg : Str → Option Value} {base : Heap} {a : Adr}
def spWebInit (K : PySem.W.Frag) (C : Addr) : Sp := fun vs H Q _ => ∃ (x dx q : Addr) (R : List Row), vs = [.ref x, .ref q] ∧ H x = some (.ins C dx []) ∧ RowsT K H q R ∧ Good R ∧ R.length ≤ 200 ∧
  ∀ H', (∀ b o, H b = some o → b ≠ x → H' b = some o) → H' x = some (.ins C dx [("rows", .ref q)]) → Q .non H'
theorem ok_Web_init (T : Txt K mg a) : FnOk P w K mg base CX0 4 a.f_Web_init a.d_Web_init ["self", "values"] (spWebInit K a.c_Web) := by
  have G1 := ok_is_tuple_of (P := P) (w := w) (base := base) T
  have G2 := ok_is_value (P := P) (w := w) (base := base) T
  refine T.F_Web_init.ok sc_Web_init (fun vs H Q E h => ?_) (fun cdv A outer s H vs Q E hr h => ?_)
  · obtain ⟨x, dx, q, R, rfl, _⟩ := h
    rfl
  obtain ⟨x, dx, q, R, rfl, hx, hR, g, hl, k⟩ := h
  obtain ⟨ws, hw, hwl, hrow⟩ := id hR
  refine ⟨_, (pss_cons (ps_if (pt_not (pt_val (pe_call G1 (hr.mono (by decide)) rfl T.g_is_tuple_of T.k_is_tuple_of T.b_is_tuple_of .nil pass0 (pa_cons pe_int (pa_cons pe_int (pa_cons (pv 1) pa_nil))))))
    (pss_one ps_never)
    pss_nil)
  (pss_cons (ps_for PassesOwn.never rfl (EnT.pi_enumT rfl T.z_enumerate (pa_cons (pv 1) pa_nil)) (pg_tup rfl (pgs_cons (pg_name (i := 2) sc_Web_init.nd rfl (Or.inl rfl)) (pgs_cons (pg_name (i := 3) sc_Web_init.nd rfl (Or.inl rfl)) pgs_nil)))
    (pss_one (ps_if (pt_not (pt_val (pe_call G2 (hr.mono (by decide)) rfl T.g_is_value T.k_is_value T.b_is_value .nil pass0 (pa_cons (pv 2) (pa_cons (pv 3) pa_nil)))))
    (pss_one ps_never)
    pss_nil)))
  (pss_one (ps_fld (pv 0) (pv 1) rfl)))), ?_⟩
  refine ⟨_, rfl, .ref q, "tuple", 0, 200, rfl, .tup, tyT hw, .inr ⟨q, _, rfl, rfl, hw, ?_⟩⟩
  refine ⟨_, rfl, iteD (by rw [Bool.not_eq_false', Bool.and_eq_true, decide_eq_true_eq, decide_eq_true_eq]; omega) ?_⟩
  refine ⟨_, rfl, q, ws, rfl, hw, for_it (EnT.walkE (xs := ws)) (fun i σ H' => ∃ v2 v3, σ = [some (.ref x), some (.ref q), v2, v3] ∧ Same H H') ⟨none, none, rfl, Same.refl H⟩ (fun i σ H' _ z => ?_) ?_ ?_⟩
  · obtain ⟨_, _, _, s1⟩ := z
    exact (Tk.of s1).t hw
  · intro i y σ H1 H2 hi z hy
    obtain ⟨v2, v3, rfl, s1⟩ := z
    obtain ⟨t, y1, y2, rfl, ht, rfl, e1, e2⟩ := hy
    cases e1
    have s2 : Same H (upd H1 t (.tup [.int (i : Nat), y2])) := s1.trans (same_new ht)
    have hi' : i < R.length := by omega
    obtain ⟨b1, b2, b3⟩ := g i hi'
    have hv := (hrow i y2 e2).tk (Tk.of s2)
    refine ⟨t, _, rfl, .inl (.inl upd_same), rfl, _, _, rfl, _, _, rfl, rfl, ?_⟩
    refine ⟨_, rfl, _, rfl, i, y2, rowAt R i, rfl, hv, b1, b2, b3, fun H3 s3 => ?_⟩
    exact ⟨_, rfl, iteF ⟨_, _, rfl, s2.trans s3⟩⟩
  · intro σ H1 z
    obtain ⟨v2, v3, rfl, s1⟩ := z
    refine ⟨_, rfl, _, rfl, x, a.c_Web, dx, [], rfl, s1 _ _ hx, T.C_Web, T.N_rows, (by decide), ?_⟩
    refine k _ (fun b o e ne => ?_) upd_same
    rw [upd_ne ne]
    exact s1 _ _ e
end
section
variable {P : Program} {w : World} {K : PySem.W.Frag} {mg : Str → Option Value} {base : Heap} {a : Adr}
def spPick : Sp := fun vs H Q _ => ∃ (b g : Addr) (m : Nat), vs = [.ref b, nv m] ∧ 0 < m ∧ m < 1073741824 ∧ BagAt H b g ∧ ∀ (r : Nat) H', r < m → BagAt H' b g → Fb b g H H' → Q (nv r) H'
theorem ok_law_pick (T : Txt K mg a) : FnOk P w K mg base CX0 1 a.f_law_pick a.d_law_pick ["_law_bag_here", "_law_many"] spPick := by
  refine T.F_law_pick.ok sc_law_pick (fun vs H Q E h => ?_) (fun cdv A outer s H vs Q E hr h => ?_)
  · obtain ⟨b, g, m, rfl, _⟩ := h
    rfl
  obtain ⟨b, g, m, rfl, hm0, hm1, B, k⟩ := h
  refine ⟨_, (pss_cons (ps_if (pt_cmpR op_notN (pe_ix ix_list (pv 0) pe_int (fun _ _ => rfl)) pe_non (nomark _))
    (pss_one (ps_ret (pe_op op_mod (pe_callTy call_int1 (by rfl) T.z_int (by decide +kernel) (pa_cons (pe_ix ix_list (pv 0) pe_int (fun _ _ => rfl)) pa_nil)) (pv 1))))
    pss_nil)
  (pss_cons (ps_asg (pe_op op_add (pe_ix ix_list (pv 0) pe_int (fun _ _ => rfl)) pe_int) (pg_sub (pv 0) pe_int set_list))
  (pss_cons (ps_set (i := 2) sc_law_pick.nd rfl (Or.inl rfl) (pe_ix ix_list (pv 0) pe_int (fun _ _ => rfl)))
  (pss_cons (ps_if (pt_cmpR op_gt (pe_callB call_len_seq (by rfl) T.z_len PySem.boot_len (pa_cons (pv 2) pa_nil)) pe_int (nomark _))
    (pss_cons (ps_set (i := 3) sc_law_pick.nd rfl (Or.inl rfl) (pe_op op_mod (pe_callTy call_int1 (by rfl) T.z_int (by decide +kernel) (pa_cons (pe_ix ix_list (pv 2) pe_int (fun _ _ => rfl)) pa_nil)) (pv 1)))
  (pss_cons (ps_asg (pe_op op_fdivN (pe_callTy call_int1 (by rfl) T.z_int (by decide +kernel) (pa_cons (pe_ix ix_list (pv 2) pe_int (fun _ _ => rfl)) pa_nil)) (pv 1)) (pg_sub (pv 2) pe_int set_list))
  (pss_cons (ps_if (pt_cmpR op_eq (pe_ix ix_list (pv 2) pe_int (fun _ _ => rfl)) pe_int (nomark _))
    (pss_one (ps_expr (pe_bm PySem.F.plainAttrs_list PySem.F.slot_list_pop PySem.F.type_list_pop mt_popAt (pv 2) (pa_cons pe_int pa_nil))))
    pss_nil)
  (pss_one (ps_ret (pv 3))))))
    pss_nil)
  (pss_cons (ps_set (i := 4) sc_law_pick.nd rfl (Or.inl rfl) (pe_op op_mod (pe_callTy call_int1 (by rfl) T.z_int (by decide +kernel) (pa_cons (pe_op op_mul (pe_op op_add (pe_ix ix_list (pv 0) pe_int (fun _ _ => rfl)) (pe_op op_mul pe_int (pe_ix ix_list (pv 0) pe_int (fun _ _ => rfl)))) pe_int) pa_nil)) pe_int))
  (pss_cons (ps_set (i := 4) sc_law_pick.nd rfl (Or.inl rfl) (pe_op op_mod (pe_callTy call_int1 (by rfl) T.z_int (by decide +kernel) (pa_cons (pe_op op_mul (pv 4) (pe_op op_add (pe_op op_fdivN (pv 4) pe_int) pe_int)) pa_nil)) pe_int))
  (pss_cons (ps_set (i := 4) sc_law_pick.nd rfl (Or.inl rfl) (pe_op op_mod (pe_callTy call_int1 (by rfl) T.z_int (by decide +kernel) (pa_cons (pe_op op_mul (pv 4) (pe_op op_add (pe_op op_fdivN (pv 4) pe_int) pe_int)) pa_nil)) pe_int))
  (pss_one (ps_ret (pe_op op_mod (pe_callTy call_int1 (by rfl) T.z_int (by decide +kernel) (pa_cons (pe_op op_fdivN (pv 4) pe_int) pa_nil)) (pv 1))))))))))), ?_⟩
  obtain ⟨sd, c, al, gs, hb, hg, nbg, hal⟩ := id B
  have hm : (0 : Int) < (m : Int) := by omega
  refine ⟨_, rfl, b, _, _, al, rfl, rfl, SqL.of hb, rfl, rfl, _, rfl, ?_⟩
  rcases hal with rfl | ⟨n, rfl, hn⟩
  · refine iteD (by decide) ?_
    -- bag[1] = bag[1] + 1
    refine ⟨_, rfl, b, _, 1, .int c, rfl, rfl, SqL.of hb, rfl, _, _, rfl, rfl, ?_⟩
    refine ⟨_, rfl, b, _, 1, 1, rfl, rfl, hb, rfl, ?_⟩
    have hb1 : upd H b (.lst ([.int sd, .int c, .ref g, .non].set 1 (.int (c + 1)))) b = some (.lst [.int sd, .int (c + 1), .ref g, .non]) := upd_same
    have hg1 : upd H b (.lst ([.int sd, .int c, .ref g, .non].set 1 (.int (c + 1)))) g = some (.lst (gs.map V.int)) := by
      rw [upd_ne nbg.symm]
      exact hg
    generalize hH1 : upd H b (.lst ([.int sd, .int c, .ref g, .non].set 1 (.int (c + 1)))) = H1 at hb1 hg1
    have f1 : Fb b g H H1 := hH1 ▸ fb_mutB
    refine ⟨_, rfl, b, _, 2, .ref g, rfl, rfl, SqL.of hb1, rfl, ?_⟩
    refine ⟨_, rfl, g, _, rfl, .inl (SqL.of hg1), _, _, rfl, rfl, _, rfl, ?_⟩
    cases gs with
    | nil =>
      refine iteD (by decide) ?_
      -- the seed and the count
      refine ⟨_, rfl, b, _, 0, .int sd, rfl, rfl, SqL.of hb1, rfl, ?_⟩
      refine ⟨_, rfl, b, _, 1, .int (c + 1), rfl, rfl, SqL.of hb1, rfl, _, _, rfl, rfl, .inl ⟨by decide, by decide⟩, ?_⟩
      refine ⟨_, _, rfl, rfl, _, _, rfl, rfl, .inr ⟨by decide, by decide⟩, .inl ⟨_, rfl, _, _, rfl, rfl, (by show (0 : Int) < 2147483647; decide), ?_⟩⟩
      refine ⟨_, rfl, _, rfl, _, _, rfl, rfl, ⟨by decide, by decide⟩, _, _, rfl, rfl, _, _, rfl, rfl, .inl ⟨by omega, by omega⟩, .inl ⟨_, rfl, _, _, rfl, rfl, (by show (0 : Int) < 2147483647; decide), ?_⟩⟩
      refine ⟨_, rfl, _, rfl, _, _, rfl, rfl, ⟨by decide, by decide⟩, _, _, rfl, rfl, _, _, rfl, rfl, .inl ⟨by omega, by omega⟩, .inl ⟨_, rfl, _, _, rfl, rfl, (by show (0 : Int) < 2147483399; decide), ?_⟩⟩
      refine ⟨_, rfl, _, _, rfl, rfl, ⟨by decide, by decide⟩, .inl ⟨_, rfl, _, rfl, _, _, rfl, rfl, hm, ?_⟩⟩
      exact (show ∀ y : Int, Q (.int (y % (m : Int))) H1 from fun y => by
        obtain ⟨r, e, hr⟩ := mod_nat y hm0
        rw [e]
        exact k r H1 hr ⟨sd, c + 1, .non, [], hb1, hg1, nbg, .inl rfl⟩ f1) _
    | cons x gs =>
      refine iteC (by simp) ?_
      -- a digit of the first great number
      refine ⟨_, rfl, g, _, 0, .int x, rfl, rfl, SqL.of hg1, atI_nat (j := 0) rfl, .inl ⟨_, rfl, _, rfl, _, _, rfl, rfl, hm, ?_⟩⟩
      refine ⟨_, rfl, g, _, 0, .int x, rfl, rfl, SqL.of hg1, atI_nat (j := 0) rfl, .inl ⟨_, rfl, _, rfl, _, _, rfl, rfl, ⟨by omega, by omega⟩, ?_⟩⟩
      refine ⟨_, rfl, g, _, 0, 0, rfl, rfl, hg1, by simp [ixN], ?_⟩
      have hg2 : upd H1 g (.lst (((x :: gs).map V.int).set 0 (.int (x.fdiv (m : Int))))) g = some (.lst ((x.fdiv (m : Int) :: gs).map V.int)) := upd_same
      have hb2 : upd H1 g (.lst (((x :: gs).map V.int).set 0 (.int (x.fdiv (m : Int))))) b = some (.lst [.int sd, .int (c + 1), .ref g, .non]) := by
        rw [upd_ne nbg]
        exact hb1
      have f2 : Fb b g H (upd H1 g (.lst (((x :: gs).map V.int).set 0 (.int (x.fdiv (m : Int)))))) := f1.trans fb_mutG
      obtain ⟨r, e, hr⟩ := mod_nat x hm0
      refine ⟨_, rfl, g, _, 0, .int (x.fdiv (m : Int)), rfl, rfl, SqL.of hg2, atI_nat (j := 0) rfl, rfl, _, rfl, ?_⟩
      refine ite2 (fun _ => ?_) (fun _ => ?_)
      · refine ⟨_, rfl, .inl ⟨rfl, _, SqL.of hg2⟩, g, _, 0, 0, _, rfl, rfl, hg2, by decide, by decide, ?_, rfl, ?_⟩
        · simp [PySem.seqIndex?]
        · refine ⟨_, rfl, ?_⟩
          show Q (.int (x % (m : Int))) _
          rw [e]
          refine k r _ hr ⟨sd, c + 1, .non, gs, ?_, upd_same, nbg, .inl rfl⟩ (f2.trans fb_mutG)
          rw [upd_ne nbg]
          exact hb2
      · refine ⟨_, rfl, ?_⟩
        show Q (.int (x % (m : Int))) _
        rw [e]
        exact k r _ hr ⟨sd, c + 1, .non, x.fdiv (m : Int) :: gs, hb2, hg2, nbg, .inl rfl⟩ f2
  · refine iteC (by simp) ?_
    refine ⟨_, rfl, b, _, 3, .int n, rfl, rfl, SqL.of hb, rfl, .inl ⟨n, rfl, ?_⟩⟩
    refine ⟨_, rfl, _, _, rfl, rfl, hm, ?_⟩
    obtain ⟨r, e, hr⟩ := mod_nat n hm0
    show Q (.int (n % (m : Int))) H
    rw [e]
    exact k r H hr B (Fb.refl H)
end
section
variable {P : Program} {w : World} {K : PySem.W.Frag} {mg : Str → Option Value} {base : Heap} {a : Adr}
def spBag (K : PySem.W.Frag) : Sp := fun vs H Q _ => ∃ (p : Addr) (ns : List Int), vs = [.ref p] ∧ SqL K H p (ns.map V.int) ∧ ns.length ≤ 63 ∧ ∀ b g H', Same H H' → H b = none → H g = none → BagAt H' b g → Q (.ref b) H'
theorem ok_law_bag (T : Txt K mg a) : FnOk P w K mg base CX0 1 a.f_law_bag a.d_law_bag ["_law_script"] (spBag K) := by
  refine T.F_law_bag.ok sc_law_bag (fun vs H Q E h => ?_) (fun cdv A outer s H vs Q E hr h => ?_)
  · obtain ⟨b, ns, rfl, _⟩ := h
    rfl
  obtain ⟨p, ns, rfl, hS, hn, k⟩ := h
  refine ⟨_, (pss_cons (ps_set (i := 1) sc_law_bag.nd rfl (Or.inl rfl) (pe_op op_add pe_int (pe_callB call_len_seq (by rfl) T.z_len PySem.boot_len (pa_cons (pv 0) pa_nil))))
  (pss_cons (ps_for PassesOwn.never rfl (pi_list (pe_slice sl_list (pv 0) po_none (po_some pe_int))) (pg_name (i := 2) sc_law_bag.nd rfl (Or.inl rfl))
    (pss_one (ps_set (i := 1) sc_law_bag.nd rfl (Or.inl rfl) (pe_op op_mod (pe_callTy call_int1 (by rfl) T.z_int (by decide +kernel) (pa_cons (pe_op op_add (pe_op op_add (pe_op op_mul (pv 1) pe_int) (pe_op op_mod (pe_callTy call_int1 (by rfl) T.z_int (by decide +kernel) (pa_cons (pv 2) pa_nil)) pe_int)) pe_int) pa_nil)) pe_int))))
  (pss_cons (ps_setLc (i := 3) (own := [("_law_cell", 2)]) (g := gName 2) (tt := _) rfl sc_law_bag.nd rfl rfl (sw_true rfl rfl rfl (by decide +kernel)) (pi_list (pe_slice sl_list (pv 0) po_none (po_some pe_int))) (blkOk_by (N := ["_law_script", "_law_seed", "_law_cell", "_law_great", "_law_always"]) (sc := defScope s_law_bag) (by decide +kernel)) (fun _ _ _ _ _ => pg_name (i := 2) sc_law_bag.nd rfl (Or.inl rfl)) (fun _ _ _ _ _ => (pts_one (pt_cmpR op_ge (pe_callB call_abs (by rfl) T.z_abs (by decide +kernel) (pa_cons (pe_callTy call_int1 (by rfl) T.z_int (by decide +kernel) (pa_cons (pv 2) pa_nil)) pa_nil)) (pe_op op_pow pe_int pe_int) (nomark _)))) (fun _ _ _ _ _ => (pe_callB call_abs (by rfl) T.z_abs (by decide +kernel) (pa_cons (pe_callTy call_int1 (by rfl) T.z_int (by decide +kernel) (pa_cons (pv 2) pa_nil)) pa_nil))))
  (pss_cons (ps_set (i := 4) sc_law_bag.nd rfl (Or.inl rfl) pe_non)
  (pss_cons (ps_if (PW.pt (pw_and (pt_cmpR op_lt (pe_callB call_len_seq (by rfl) T.z_len PySem.boot_len (pa_cons (pv 0) pa_nil)) pe_int (nomark _)) (pw_and1 (pt_cmpR op_eq (pe_callB call_len_seq (by rfl) T.z_len PySem.boot_len (pa_cons (pv 3) pa_nil)) pe_int (nomark _)))))
    (pss_one (ps_set (i := 4) sc_law_bag.nd rfl (Or.inl rfl) (pe_callB call_abs (by rfl) T.z_abs (by decide +kernel) (pa_cons (pe_callB (cr_sum rfl) (by rfl) T.z_sum (by decide +kernel) (pa_cons (pe_lc (own := [("_law_cell", 2)]) (g := gName 2) (tt := tYes) rfl sc_law_bag.nd (pi_list (pv 0)) (blkOk_by (N := ["_law_script", "_law_seed", "_law_cell", "_law_great", "_law_always"]) (sc := defScope s_law_bag) (by decide +kernel)) (fun _ _ _ _ _ => pg_name (i := 2) sc_law_bag.nd rfl (Or.inl rfl)) (fun _ _ _ _ _ => pts_nil) (fun _ _ _ _ _ => (pe_callTy call_int1 (by rfl) T.z_int (by decide +kernel) (pa_cons (pv 2) pa_nil)))) pa_nil)) pa_nil))))
    pss_nil)
  (pss_one (ps_ret (pe_lst (pa_cons (pv 1) (pa_cons pe_int (pa_cons (pv 3) (pa_cons (pv 4) pa_nil)))))))))))), ?_⟩
  refine ⟨_, rfl, p, _, rfl, .inl hS, _, _, rfl, rfl, ?_⟩
  obtain ⟨ms, hms, lms⟩ := cut_ints ns none (some 63)
  refine ⟨_, rfl, _, rfl, p, _, rfl, hS, fun s1 hs1 => ?_⟩
  rw [hms]
  have S1 : Same H (upd H s1 (.lst (ms.map V.int))) := same_new hs1
  -- for cell in script[:63]
  refine ⟨s1, rfl, ⟨_, SqL.of upd_same⟩, for_list (K := K) (a := s1) (xs := ms.map V.int) (fun i σ H' => ∃ (sd : Int) (v2 : Option V), σ = [some (.ref p), some (.int sd), v2, none, none] ∧ Same (upd H s1 (.lst (ms.map V.int))) H') ⟨_, none, rfl, Same.refl _⟩ (fun i σ H' _ z => ?_) ?_ ?_⟩
  · obtain ⟨_, _, _, z⟩ := z
    exact SqL.of (z _ _ upd_same)
  · rintro i x σ H1 hx ⟨sd, v2, rfl, z⟩
    rw [List.getElem?_map] at hx
    obtain ⟨x, hx2, rfl⟩ := Option.map_eq_some_iff.mp hx
    refine ⟨_, rfl, _, _, rfl, rfl, .inr ⟨by decide, by decide⟩, _, rfl, .inl ⟨_, rfl, _, _, rfl, rfl, (by show (0 : Int) < 1000003; decide), _, _, rfl, rfl, _, _, rfl, rfl, .inl ⟨_, rfl, _, _, rfl, rfl, (by show (0 : Int) < 2147483647; decide), ?_⟩⟩⟩
    exact ⟨_, _, rfl, z⟩
  rintro σ H1 ⟨sd, v2, rfl, z1⟩
  have S2 : Same H H1 := S1.trans z1
  -- great = [..]
  refine ⟨_, rfl, _, rfl, p, _, rfl, S2.seq hS, fun s2 hs2 => ?_⟩
  rw [hms]
  refine ⟨s2, rfl, ⟨_, SqL.of upd_same⟩, fun g hg => ?_⟩
  have S3 : Same H (upd H1 s2 (.lst (ms.map V.int))) := S2.trans (same_new hs2)
  have hgH : H g = none := S3.free hg
  refine lc_list (K := K) (a := s2) (xs := ms.map V.int) (fun i H' => Same (upd H1 s2 (.lst (ms.map V.int))) H' ∧ ∃ gs : List Int, H' g = some (.lst (gs.map V.int)) ∧ gs.length ≤ i) ⟨same_new hg, [], upd_same, Nat.le_refl _⟩ (fun i H' _ z => SqL.of (z.1 _ _ upd_same)) ?_ ?_
  · intro i x H2 hx z
    obtain ⟨z, gs, eg, lg⟩ := z
    rw [List.getElem?_map] at hx
    obtain ⟨x, hx2, rfl⟩ := Option.map_eq_some_iff.mp hx
    have hi : i < ms.length := (List.getElem?_eq_some_iff.mp hx2).1
    refine ⟨rfl, ?_⟩
    refine ⟨_, rfl, .inl ⟨_, rfl, _, rfl, _, _, rfl, rfl, ⟨by decide, by decide, by decide⟩, _, _, rfl, rfl, _, rfl, ?_⟩⟩
    refine ite2 (fun _ => ?_) (fun _ => ⟨z, gs, eg, by omega⟩)
    refine ⟨_, rfl, .inl ⟨_, rfl, _, rfl, _, eg, lt_line (by rw [List.length_map]; omega), fun b o e => ?_, gs ++ [if x < 0 then -x else x], ?_, ?_⟩⟩
    · rw [upd_ne (ne_of_none e hg)]
      exact z b o e
    · rw [upd_same, List.map_append]
      rfl
    · rw [List.length_append, List.length_singleton]
      omega
  intro H2 z
  obtain ⟨z2, gs, eg, lg⟩ := z
  have S4 : Same H H2 := S3.trans z2
  have fin : ∀ (H3 : Hp) (al : V), Same H2 H3 → (al = .non ∨ ∃ n : Int, al = .int n ∧ 0 ≤ n) → tRet (tLst (tCons (tVar 1) (tCons (tC (.int 1)) (tCons (tVar 3) (tCons (tVar 4) tNil))))) { nx := fun _ H' => Q .non H', rt := Q } [some (.ref p), some (.int sd), v2, some (.ref g), some al] H3 := by
    intro H3 al z3 hal
    refine ⟨_, rfl, _, rfl, _, rfl, by show 4 ≤ sizeLine; decide, fun b hb => ?_⟩
    have S5 : Same H H3 := S4.trans z3
    have ngb : g ≠ b := ne_of_none (z3 _ _ eg) hb
    exact k b g _ (S5.trans (same_new hb)) (S5.free hb) hgH ⟨sd, 1, al, gs, upd_same, by rw [upd_ne ngb]; exact z3 _ _ eg, ngb.symm, hal⟩
  -- always = None
  refine ⟨_, rfl, p, _, rfl, .inl (S4.seq hS), _, _, rfl, rfl, _, rfl, ?_⟩
  refine ite2 (fun _ => ?_) (fun _ => fin H2 .non (Same.refl _) (.inl rfl))
  refine ⟨_, rfl, g, _, rfl, .inl (SqL.of eg), rfl, _, rfl, ?_⟩
  refine ite2 (fun _ => ?_) (fun _ => fin H2 .non (Same.refl _) (.inl rfl))
  refine ⟨_, rfl, p, rfl, ⟨_, S4.seq hS⟩, fun D hD => ?_⟩
  refine lc_list (K := K) (a := p) (xs := ns.map V.int) (fun i H' => Same H2 H' ∧ H' D = some (.lst ((ns.take i).map V.int))) ⟨same_new hD, upd_same⟩ (fun i H' _ z => (S4.trans z.1).seq hS) ?_ ?_
  · intro i x H3 hx z
    obtain ⟨z, e⟩ := z
    rw [List.getElem?_map] at hx
    obtain ⟨x, hx2, rfl⟩ := Option.map_eq_some_iff.mp hx
    refine ⟨rfl, ?_⟩
    refine ⟨_, rfl, .inl ⟨_, rfl, _, e, lt_line (by rw [List.length_map, List.length_take]; omega), fun b o h => ?_, ?_⟩⟩
    · rw [upd_ne (ne_of_none h hD)]
      exact z b o h
    · rw [upd_same, List.take_add_one, hx2, List.map_append]
      rfl
  · intro H3 z
    obtain ⟨z, e⟩ := z
    rw [List.length_map, List.take_length] at e
    refine ⟨D, ns, rfl, SqL.of e, _, rfl, ?_⟩
    refine fin H3 _ z (.inr ⟨_, rfl, ?_⟩)
    split <;> omega
end
section
variable {P : Program} {w : World} {mg : Str → Option Value} {base : Heap} {a : Adr}
def spSame (K : PySem.W.Frag) (n : Nat) : Sp := fun vs H Q _ => ∃ (v u : V) (d : PyData), vs = [v, u] ∧ Dp K H v d ∧ Dp K H u d ∧ okd n d ∧ ∀ H', Same H H' → Q (.bl true) H'
theorem ok_law_same0 {f : Addr} {fd : FuncData} {ps : List Str} : FnOk P w K mg base CX0 0 f fd ps (spSame K 0) := by
  have no : ∀ vs H Q E, ¬ spSame K 0 vs H Q E := fun vs H Q E h => by
    obtain ⟨v, u, d, _, _, _, h1, _⟩ := h
    exact h1
  exact ⟨fun vs H Q E h => absurd h (no vs H Q E), fun A outer s H args us vs Q E _ _ _ _ h => absurd h (no vs H Q E)⟩
theorem ok_law_same1 (T : Txt K mg a) {n : Nat} (G : FnOk P w K mg base CX0 n a.f_law_same a.d_law_same ["_law_told", "_law_due"] (spSame K n)) : FnOk P w K mg base CX0 (n + 1) a.f_law_same a.d_law_same ["_law_told", "_law_due"] (spSame K (n + 1)) := by
  refine T.F_law_same.ok sc_law_same (fun vs H Q E h => ?_) (fun cdv A outer s H vs Q E hr h => ?_)
  · obtain ⟨v, u, d, rfl, _⟩ := h
    rfl
  obtain ⟨v, u, d, rfl, h1, h2, hd, k⟩ := h
  refine ⟨_, (pss_cons (ps_if (PW.pt (pw_or (pt_val (pe_callB call_isi (by rfl) T.z_isinstance (by decide +kernel) (pa_cons (pv 1) (pa_cons (pe_bltn (v := .ty "tuple") rfl T.z_tuple (show bootBuiltins "tuple" = some (.type "tuple") by decide +kernel) rfl) pa_nil)))) (pw_or1 (pt_val (pe_callB call_isi (by rfl) T.z_isinstance (by decide +kernel) (pa_cons (pv 1) (pa_cons (pe_bltn (v := .ty "list") rfl T.z_list (show bootBuiltins "list" = some (.type "list") by decide +kernel) rfl) pa_nil)))))))
      (pss_cons (ps_if (PW.pt (pw_or (pt_cmpR op_ne (pe_callB call_isi (by rfl) T.z_isinstance (by decide +kernel) (pa_cons (pv 0) (pa_cons (pe_bltn (v := .ty "tuple") rfl T.z_tuple (show bootBuiltins "tuple" = some (.type "tuple") by decide +kernel) rfl) pa_nil))) (pe_callB call_isi (by rfl) T.z_isinstance (by decide +kernel) (pa_cons (pv 1) (pa_cons (pe_bltn (v := .ty "tuple") rfl T.z_tuple (show bootBuiltins "tuple" = some (.type "tuple") by decide +kernel) rfl) pa_nil))) (nomark _)) (pw_or1 (pt_cmpR op_ne (pe_callB call_isi (by rfl) T.z_isinstance (by decide +kernel) (pa_cons (pv 0) (pa_cons (pe_bltn (v := .ty "list") rfl T.z_list (show bootBuiltins "list" = some (.type "list") by decide +kernel) rfl) pa_nil))) (pe_callB call_isi (by rfl) T.z_isinstance (by decide +kernel) (pa_cons (pv 1) (pa_cons (pe_bltn (v := .ty "list") rfl T.z_list (show bootBuiltins "list" = some (.type "list") by decide +kernel) rfl) pa_nil))) (nomark _)))))
      (pss_one (ps_ret pe_bl))
      pss_nil)
    (pss_one (ps_ret (pe_and (pe_cmpR op_eq (pe_callB call_len_seq (by rfl) T.z_len PySem.boot_len (pa_cons (pv 0) pa_nil)) (pe_callB call_len_seq (by rfl) T.z_len PySem.boot_len (pa_cons (pv 1) pa_nil)) (nomark _)) (pe_one (pe_callB (cr_all rfl) (by rfl) T.z_all (by decide +kernel) (pa_cons (pe_lc (own := [("_law_k", 2)]) (g := gName 2) (tt := tYes) rfl sc_law_same.nd (pi_range1 rfl T.z_range (pa_cons (pe_callB call_len_seq (by rfl) T.z_len PySem.boot_len (pa_cons (pv 1) pa_nil)) pa_nil)) (blkOk_by (N := ["_law_told", "_law_due", "_law_k"]) (sc := defScope s_law_same) (by decide +kernel)) (fun _ _ _ _ _ => pg_name (i := 2) sc_law_same.nd rfl (Or.inl rfl)) (fun _ _ _ _ _ => pts_nil) (fun _ _ _ _ _ => (pe_call G hr rfl T.g_law_same T.k_law_same T.b_law_same .nil pass0 (pa_cons (pe_ix (ixS (K := K) rfl) (pv 0) (pv 2) (fun _ _ => rfl)) (pa_cons (pe_ix (ixS (K := K) rfl) (pv 1) (pv 2) (fun _ _ => rfl)) pa_nil))))) pa_nil)))))))
      pss_nil)
    (pss_cons (ps_if (pt_cmpR op_isN (pv 1) pe_non (nomark _))
      (pss_one (ps_ret (pe_cmpR op_isN (pv 0) pe_non (nomark _))))
      pss_nil)
    (pss_cons (ps_if (pt_val (pe_callB call_isi (by rfl) T.z_isinstance (by decide +kernel) (pa_cons (pv 1) (pa_cons (pe_bltn (v := .ty "bool") rfl T.z_bool (show bootBuiltins "bool" = some (.type "bool") by decide +kernel) rfl) pa_nil))))
      (pss_one (ps_ret (pe_and (pe_callB call_isi (by rfl) T.z_isinstance (by decide +kernel) (pa_cons (pv 0) (pa_cons (pe_bltn (v := .ty "bool") rfl T.z_bool (show bootBuiltins "bool" = some (.type "bool") by decide +kernel) rfl) pa_nil))) (pe_one (pe_cmpR op_eq (pv 0) (pv 1) (nomark _))))))
      pss_nil)
    (pss_cons (ps_if (pt_val (pe_callB call_isi (by rfl) T.z_isinstance (by decide +kernel) (pa_cons (pv 1) (pa_cons (pe_bltn (v := .ty "int") rfl T.z_int (show bootBuiltins "int" = some (.type "int") by decide +kernel) rfl) pa_nil))))
      (pss_one (ps_ret (pe_and (pe_callB call_isi (by rfl) T.z_isinstance (by decide +kernel) (pa_cons (pv 0) (pa_cons (pe_bltn (v := .ty "int") rfl T.z_int (show bootBuiltins "int" = some (.type "int") by decide +kernel) rfl) pa_nil))) (pe_and (pe_not (pe_callB call_isi (by rfl) T.z_isinstance (by decide +kernel) (pa_cons (pv 0) (pa_cons (pe_bltn (v := .ty "bool") rfl T.z_bool (show bootBuiltins "bool" = some (.type "bool") by decide +kernel) rfl) pa_nil)))) (pe_one (pe_cmpR op_eq (pv 0) (pv 1) (nomark _)))))))
      pss_nil)
    (pss_one (ps_ret (pe_and (pe_callB call_isi (by rfl) T.z_isinstance (by decide +kernel) (pa_cons (pv 0) (pa_cons (pe_bltn (v := .ty "str") rfl T.z_str (show bootBuiltins "str" = some (.type "str") by decide +kernel) rfl) pa_nil))) (pe_one (pe_cmpR op_eq (pv 0) (pv 1) (nomark _)))))))))), ?_⟩
  cases h1 with
  | non =>
    cases h2
    refine ⟨_, rfl, _, .ty "tuple", _, _, false, rfl, .ty "tuple", .base .non, kit_ty (by decide +kernel), false, rfl, ?_⟩
    refine iteF ?_
    refine ⟨_, rfl, _, .ty "list", _, _, false, rfl, .ty "list", .base .non, kit_ty (by decide +kernel), false, rfl, ?_⟩
    refine iteF ?_
    refine ⟨_, rfl, rfl, _, rfl, ?_⟩
    refine iteC (by decide) ?_
    exact ⟨_, rfl, rfl, k H (Same.refl H)⟩
  | bl b =>
    cases h2
    refine ⟨_, rfl, _, .ty "tuple", _, _, false, rfl, .ty "tuple", .base (.bl b), kit_ty (by decide +kernel), false, rfl, ?_⟩
    refine iteF ?_
    refine ⟨_, rfl, _, .ty "list", _, _, false, rfl, .ty "list", .base (.bl b), kit_ty (by decide +kernel), false, rfl, ?_⟩
    refine iteF ?_
    refine ⟨_, rfl, rfl, _, rfl, ?_⟩
    refine iteD (by simp) ?_
    refine ⟨_, rfl, _, .ty "bool", _, _, true, rfl, .ty "bool", .base (.bl b), kit_ty (by decide +kernel), true, rfl, ?_⟩
    refine iteT ?_
    refine ⟨_, rfl, _, .ty "bool", _, _, true, rfl, .ty "bool", .base (.bl b), kit_ty (by decide +kernel), true, rfl, ?_⟩
    refine iteT ?_
    refine ⟨_, rfl, _, rfl, rfl, ?_⟩
    rw [show decide (V.bl b = V.bl b) = true from decide_eq_true rfl]
    exact k H (Same.refl H)
  | int i =>
    cases h2
    refine ⟨_, rfl, _, .ty "tuple", _, _, false, rfl, .ty "tuple", .base (.int i), kit_ty (by decide +kernel), false, rfl, ?_⟩
    refine iteF ?_
    refine ⟨_, rfl, _, .ty "list", _, _, false, rfl, .ty "list", .base (.int i), kit_ty (by decide +kernel), false, rfl, ?_⟩
    refine iteF ?_
    refine ⟨_, rfl, rfl, _, rfl, ?_⟩
    refine iteD (by simp) ?_
    refine ⟨_, rfl, _, .ty "bool", _, _, false, rfl, .ty "bool", .base (.int i), kit_ty (by decide +kernel), false, rfl, ?_⟩
    refine iteF ?_
    refine ⟨_, rfl, _, .ty "int", _, _, true, rfl, .ty "int", .base (.int i), kit_ty (by decide +kernel), true, rfl, ?_⟩
    refine iteT ?_
    refine ⟨_, rfl, _, .ty "int", _, _, true, rfl, .ty "int", .base (.int i), kit_ty (by decide +kernel), true, rfl, ?_⟩
    refine iteT ?_
    refine ⟨_, rfl, _, .ty "bool", _, _, false, rfl, .ty "bool", .base (.int i), kit_ty (by decide +kernel), false, rfl, ?_⟩
    refine ⟨_, rfl, iteT ?_⟩
    refine ⟨_, rfl, _, rfl, rfl, ?_⟩
    rw [show decide (V.int i = V.int i) = true from decide_eq_true rfl]
    exact k H (Same.refl H)
  | str x =>
    cases h2
    refine ⟨_, rfl, _, .ty "tuple", _, _, false, rfl, .ty "tuple", .base (.str x), kit_ty (by decide +kernel), false, rfl, ?_⟩
    refine iteF ?_
    refine ⟨_, rfl, _, .ty "list", _, _, false, rfl, .ty "list", .base (.str x), kit_ty (by decide +kernel), false, rfl, ?_⟩
    refine iteF ?_
    refine ⟨_, rfl, rfl, _, rfl, ?_⟩
    refine iteD (by simp) ?_
    refine ⟨_, rfl, _, .ty "bool", _, _, false, rfl, .ty "bool", .base (.str x), kit_ty (by decide +kernel), false, rfl, ?_⟩
    refine iteF ?_
    refine ⟨_, rfl, _, .ty "int", _, _, false, rfl, .ty "int", .base (.str x), kit_ty (by decide +kernel), false, rfl, ?_⟩
    refine iteF ?_
    refine ⟨_, rfl, _, .ty "str", _, _, true, rfl, .ty "str", .base (.str x), kit_ty (by decide +kernel), true, rfl, ?_⟩
    refine iteT ?_
    refine ⟨_, rfl, _, rfl, rfl, ?_⟩
    rw [show decide (V.str x = V.str x) = true from decide_eq_true rfl]
    exact k H (Same.refl H)
  | lst h r =>
    rename_i p xs ds
    cases h2 with
    | lst h' r' =>
    rename_i p' xs'
    obtain ⟨hlen, hall⟩ := hd
    have e1 : xs.length = ds.length := dpAll_len r
    have e2 : xs'.length = ds.length := dpAll_len r'
    refine ⟨_, rfl, _, .ty "tuple", _, _, false, rfl, .ty "tuple", tyL h', kit_ty (by decide +kernel), false, rfl, ?_⟩
    refine iteF ?_
    refine ⟨_, rfl, _, .ty "list", _, _, true, rfl, .ty "list", tyL h', kit_ty (by decide +kernel), true, rfl, ?_⟩
    refine iteT ?_
    refine ⟨_, rfl, _, .ty "tuple", _, _, false, rfl, .ty "tuple", tyL h, kit_ty (by decide +kernel), _, rfl, _, .ty "tuple", _, _, false, rfl, .ty "tuple", tyL h', kit_ty (by decide +kernel), rfl, _, rfl, iteD (by decide) ?_⟩
    refine ⟨_, rfl, _, .ty "list", _, _, true, rfl, .ty "list", tyL h, kit_ty (by decide +kernel), _, rfl, _, .ty "list", _, _, true, rfl, .ty "list", tyL h', kit_ty (by decide +kernel), rfl, _, rfl, iteD (by decide) ?_⟩
    refine ⟨_, rfl, p, xs, rfl, .inl h, _, rfl, p', xs', rfl, .inl h', rfl, _, rfl, iteC (by rw [e1, e2]; simp) ?_⟩
    refine ⟨_, rfl, p', xs', rfl, .inl h', _, rfl, by omega, by omega, fun D hD => ?_⟩
    refine lc_range (lo := 0) (n := (xs'.length : Int).toNat) (fun i H' => Same H H' ∧ H' D = some (.lst ((List.replicate i true).map V.bl))) ⟨same_new hD, upd_same⟩ (fun i H1 hi z => ?_) (fun H1 z => ?_)
    · obtain ⟨s1, ed⟩ := z
      have hi' : i < ds.length := by omega
      obtain ⟨x, d1, g1, g2, g3⟩ := dpAll_at r hi'
      obtain ⟨y, d2, g4, g5, g6⟩ := dpAll_at r' hi'
      have ee : d1 = d2 := Option.some.inj (g2.symm.trans g5)
      subst ee
      have e0 : (0 : Int) + (i : Nat) = ((i : Nat) : Int) := by omega
      rw [e0]
      refine ⟨rfl, ?_⟩
      refine ⟨_, rfl, _, rfl, .inl ⟨p, xs, _, x, rfl, rfl, s1.seq h, atI_nat g1, ?_⟩⟩
      refine ⟨_, rfl, _, rfl, .inl ⟨p', xs', _, y, rfl, rfl, s1.seq h', atI_nat g4, ?_⟩⟩
      refine ⟨x, y, d1, rfl, dp_tk s1 g3, dp_tk s1 g6, hall d1 (List.mem_of_getElem? g2), fun H2 s2 => ?_⟩
      refine ⟨_, s2 _ _ ed, lt_line (by rw [List.length_map, List.length_replicate]; omega), fun b o e => ?_, ?_⟩
      · rw [upd_ne (ne_of_none e hD)]
        exact s2 b o (s1 b o e)
      · rw [upd_same, List.replicate_succ', List.map_append]
        rfl
    · refine ⟨D, _, rfl, SqL.of z.2, ?_⟩
      rw [show (List.replicate ((xs'.length : Int).toNat) true).all id = true by simp]
      exact k H1 z.1
  | tup h r =>
    rename_i p xs ds
    cases h2 with
    | tup h' r' =>
    rename_i p' xs'
    obtain ⟨hlen, hall⟩ := hd
    have e1 : xs.length = ds.length := dpAll_len r
    have e2 : xs'.length = ds.length := dpAll_len r'
    refine ⟨_, rfl, _, .ty "tuple", _, _, true, rfl, .ty "tuple", tyT h', kit_ty (by decide +kernel), true, rfl, ?_⟩
    refine iteT ?_
    refine iteT ?_
    refine ⟨_, rfl, _, .ty "tuple", _, _, true, rfl, .ty "tuple", tyT h, kit_ty (by decide +kernel), _, rfl, _, .ty "tuple", _, _, true, rfl, .ty "tuple", tyT h', kit_ty (by decide +kernel), rfl, _, rfl, iteD (by decide) ?_⟩
    refine ⟨_, rfl, _, .ty "list", _, _, false, rfl, .ty "list", tyT h, kit_ty (by decide +kernel), _, rfl, _, .ty "list", _, _, false, rfl, .ty "list", tyT h', kit_ty (by decide +kernel), rfl, _, rfl, iteD (by decide) ?_⟩
    refine ⟨_, rfl, p, xs, rfl, .inr h, _, rfl, p', xs', rfl, .inr h', rfl, _, rfl, iteC (by rw [e1, e2]; simp) ?_⟩
    refine ⟨_, rfl, p', xs', rfl, .inr h', _, rfl, by omega, by omega, fun D hD => ?_⟩
    refine lc_range (lo := 0) (n := (xs'.length : Int).toNat) (fun i H' => Same H H' ∧ H' D = some (.lst ((List.replicate i true).map V.bl))) ⟨same_new hD, upd_same⟩ (fun i H1 hi z => ?_) (fun H1 z => ?_)
    · obtain ⟨s1, ed⟩ := z
      have hi' : i < ds.length := by omega
      obtain ⟨x, d1, g1, g2, g3⟩ := dpAll_at r hi'
      obtain ⟨y, d2, g4, g5, g6⟩ := dpAll_at r' hi'
      have ee : d1 = d2 := Option.some.inj (g2.symm.trans g5)
      subst ee
      have e0 : (0 : Int) + (i : Nat) = ((i : Nat) : Int) := by omega
      rw [e0]
      refine ⟨rfl, ?_⟩
      refine ⟨_, rfl, _, rfl, .inr (.inl ⟨p, xs, _, x, rfl, rfl, (Tk.of s1).t h, atI_nat g1, ?_⟩)⟩
      refine ⟨_, rfl, _, rfl, .inr (.inl ⟨p', xs', _, y, rfl, rfl, (Tk.of s1).t h', atI_nat g4, ?_⟩)⟩
      refine ⟨x, y, d1, rfl, dp_tk s1 g3, dp_tk s1 g6, hall d1 (List.mem_of_getElem? g2), fun H2 s2 => ?_⟩
      refine ⟨_, s2 _ _ ed, lt_line (by rw [List.length_map, List.length_replicate]; omega), fun b o e => ?_, ?_⟩
      · rw [upd_ne (ne_of_none e hD)]
        exact s2 b o (s1 b o e)
      · rw [upd_same, List.replicate_succ', List.map_append]
        rfl
    · refine ⟨D, _, rfl, SqL.of z.2, ?_⟩
      rw [show (List.replicate ((xs'.length : Int).toNat) true).all id = true by simp]
      exact k H1 z.1
theorem ok_law_same (T : Txt K mg a) : ∀ n : Nat, FnOk P w K mg base CX0 n a.f_law_same a.d_law_same ["_law_told", "_law_due"] (spSame K n)
  | 0 => ok_law_same0
  | n + 1 => ok_law_same1 T (ok_law_same T n)
end
end Lk
/-! books, ways, needs, what can be made: plain mathematics -/
namespace Lk
structure Rl where
  op : Nat
  src : List Nat
  kind : Nat
  cost : Nat
structure Mv where
  src : Nat
  kind : Nat
  cost : Nat
structure Bk where
  ar : List Nat
  nk : Nat
  rs : List Rl
  ms : List Mv
instance : Inhabited Rl := ⟨⟨0, [], 0, 0⟩⟩
instance : Inhabited Mv := ⟨⟨0, 0, 0⟩⟩
def rAt (rs : List Rl) (k : Nat) : Rl := rs.getD k default
def mAt (ms : List Mv) (k : Nat) : Mv := ms.getD k default
def rkey (r : Rl) : Nat × List Nat × Nat := (r.op, r.src, r.kind)
def mkey (m : Mv) : Nat × Nat := (m.src, m.kind)
abbrev Th := Nat × Nat
abbrev Wy := Bool × Nat
def RlOk (ar : List Nat) (nk : Nat) (r : Rl) : Prop := r.op < ar.length ∧ r.src.length = ar.getD r.op 0 ∧ (∀ s ∈ r.src, s < nk) ∧ r.kind < nk ∧ 1 ≤ r.cost ∧ r.cost ≤ 1000
def MvOk (nk : Nat) (m : Mv) : Prop := m.src < nk ∧ m.kind < nk ∧ m.src ≠ m.kind ∧ 1 ≤ m.cost ∧ m.cost ≤ 1000
/-- what a book holds -/
structure GoodB (B : Bk) : Prop where
  a1 : 1 ≤ B.ar.length
  a2 : B.ar.length ≤ 8
  a3 : ∀ x ∈ B.ar, x ≤ 2
  k1 : 1 ≤ B.nk
  k2 : B.nk ≤ 5
  r1 : B.rs.length ≤ 40
  m1 : B.ms.length ≤ 20
  r2 : ∀ r ∈ B.rs, RlOk B.ar B.nk r
  m2 : ∀ m ∈ B.ms, MvOk B.nk m
  r3 : (B.rs.map rkey).Nodup
  m3 : (B.ms.map mkey).Nodup
def FitsM (B : Bk) (R : List Row) : Prop := ∀ n, n < R.length → (rowAt R n).1 < B.ar.length ∧ B.ar.getD (rowAt R n).1 0 = (parts R n).length
theorem rAt_of {rs : List Rl} {k : Nat} (h : k < rs.length) : rs[k]? = some (rAt rs k) := by
  unfold rAt
  rw [List.getD_eq_getElem?_getD, List.getElem?_eq_getElem h]
  rfl
theorem mAt_of {ms : List Mv} {k : Nat} (h : k < ms.length) : ms[k]? = some (mAt ms k) := by
  unfold mAt
  rw [List.getD_eq_getElem?_getD, List.getElem?_eq_getElem h]
  rfl
theorem rAt_mem {rs : List Rl} {k : Nat} (h : k < rs.length) : rAt rs k ∈ rs := List.mem_of_getElem? (rAt_of h)
theorem mAt_mem {ms : List Mv} {k : Nat} (h : k < ms.length) : mAt ms k ∈ ms := List.mem_of_getElem? (mAt_of h)
def mvs (B : Bk) (κ : Nat) : List Nat := (List.range B.ms.length).filter fun k => decide ((mAt B.ms k).kind = κ)
def rls (B : Bk) (o κ : Nat) : List Nat := (List.range B.rs.length).filter fun k => decide ((rAt B.rs k).op = o) && decide ((rAt B.rs k).kind = κ)
/-- the ways of a thing: moves, then rules -/
def waysM (B : Bk) (R : List Row) (t : Th) : List Wy := (mvs B t.2).map (fun k => (false, k)) ++ (rls B (rowAt R t.1).1 t.2).map (fun k => (true, k))
theorem mem_waysF {B : Bk} {R : List Row} {t : Th} {k : Nat} : (false, k) ∈ waysM B R t ↔ k < B.ms.length ∧ (mAt B.ms k).kind = t.2 := by
  unfold waysM mvs rls
  simp [List.mem_append, List.mem_map, List.mem_filter, List.mem_range]
theorem mem_waysT {B : Bk} {R : List Row} {t : Th} {k : Nat} : (true, k) ∈ waysM B R t ↔ k < B.rs.length ∧ (rAt B.rs k).op = (rowAt R t.1).1 ∧ (rAt B.rs k).kind = t.2 := by
  unfold waysM mvs rls
  simp [List.mem_append, List.mem_map, List.mem_filter, List.mem_range]
theorem waysM_len {B : Bk} {R : List Row} {t : Th} : (waysM B R t).length ≤ B.ms.length + B.rs.length := by
  unfold waysM mvs rls
  rw [List.length_append, List.length_map, List.length_map]
  have h1 := List.length_filter_le (fun k => decide ((mAt B.ms k).kind = t.2)) (List.range B.ms.length)
  have h2 := List.length_filter_le (fun k => decide ((rAt B.rs k).op = (rowAt R t.1).1) && decide ((rAt B.rs k).kind = t.2)) (List.range B.rs.length)
  rw [List.length_range] at h1 h2
  omega
/-! lots of things -/
def ltT (x y : Th) : Prop := x.1 < y.1 ∨ (x.1 = y.1 ∧ x.2 < y.2)
instance {x y : Th} : Decidable (ltT x y) := inferInstanceAs (Decidable (_ ∨ _))
theorem ltT_ir {x : Th} : ¬ ltT x x := by unfold ltT; omega
theorem ltT_tr {x y z : Th} (h1 : ltT x y) (h2 : ltT y z) : ltT x z := by unfold ltT at *; omega
theorem ltT_tot {x y : Th} (h1 : ¬ ltT x y) (h2 : x ≠ y) : ltT y x := by
  unfold ltT at *
  have : ¬ (x.1 = y.1 ∧ x.2 = y.2) := fun q => h2 (Prod.ext q.1 q.2)
  omega
def insU (x : Th) : List Th → List Th
  | [] => [x]
  | y :: l => if ltT x y then x :: y :: l else if x = y then y :: l else y :: insU x l
def lotT (l : List Th) : List Th := l.foldr insU []
theorem mem_insU {x z : Th} : ∀ {l : List Th}, z ∈ insU x l ↔ z = x ∨ z ∈ l
  | [] => by simp [insU]
  | y :: l => by
    unfold insU
    split
    · rw [List.mem_cons]
    · split
      · rename_i e
        subst e
        rw [List.mem_cons]
        constructor
        · exact Or.inr
        · rintro (q | q)
          · exact Or.inl q
          · exact q
      · rw [List.mem_cons, mem_insU, List.mem_cons]
        constructor
        · rintro (q | q | q)
          · exact Or.inr (Or.inl q)
          · exact Or.inl q
          · exact Or.inr (Or.inr q)
        · rintro (q | q | q)
          · exact Or.inr (Or.inl q)
          · exact Or.inl q
          · exact Or.inr (Or.inr q)
theorem asc_insU {x : Th} : ∀ {l : List Th}, l.Pairwise ltT → (insU x l).Pairwise ltT
  | [], _ => by simp [insU]
  | y :: l, h => by
    unfold insU
    have h' := List.pairwise_cons.mp h
    split
    · rename_i e
      refine List.pairwise_cons.mpr ⟨fun z hz => ?_, h⟩
      rcases List.mem_cons.mp hz with rfl | hz
      · exact e
      · exact ltT_tr e (h'.1 z hz)
    · split
      · exact h
      · rename_i e1 e2
        refine List.pairwise_cons.mpr ⟨fun z hz => ?_, asc_insU h'.2⟩
        rcases mem_insU.mp hz with rfl | hz
        · exact ltT_tot e1 e2
        · exact h'.1 z hz
theorem mem_lotT {z : Th} : ∀ {l : List Th}, z ∈ lotT l ↔ z ∈ l
  | [] => Iff.rfl
  | x :: l => by
    show z ∈ insU x (lotT l) ↔ _
    rw [mem_insU, mem_lotT, List.mem_cons]
theorem asc_lotT : ∀ {l : List Th}, (lotT l).Pairwise ltT
  | [] => List.Pairwise.nil
  | x :: l => asc_insU (asc_lotT (l := l))
theorem asc_uniq : ∀ {l m : List Th}, l.Pairwise ltT → m.Pairwise ltT → (∀ x, x ∈ l ↔ x ∈ m) → l = m
  | [], [], _, _, _ => rfl
  | [], b :: m, _, _, h => absurd ((h b).mpr List.mem_cons_self) (by simp)
  | a :: l, [], _, _, h => absurd ((h a).mp List.mem_cons_self) (by simp)
  | a :: l, b :: m, h1, h2, h => by
    rw [List.pairwise_cons] at h1 h2
    have e : a = b := by
      have ha := (h a).mp List.mem_cons_self
      have hb := (h b).mpr List.mem_cons_self
      rw [List.mem_cons] at ha hb
      rcases ha with ha | ha
      · exact ha
      · rcases hb with hb | hb
        · exact hb.symm
        · exact absurd (ltT_tr (h1.1 b hb) (h2.1 a ha)) ltT_ir
    subst e
    have : l = m := asc_uniq h1.2 h2.2 fun x => by
      have hx := h x
      rw [List.mem_cons, List.mem_cons] at hx
      constructor
      · intro hl
        rcases hx.mp (Or.inr hl) with e | e
        · exact absurd (e ▸ h1.1 x hl) ltT_ir
        · exact e
      · intro hm
        rcases hx.mpr (Or.inr hm) with e | e
        · exact absurd (e ▸ h2.1 x hm) ltT_ir
        · exact e
    rw [this]
theorem asc_nodup {l : List Th} (h : l.Pairwise ltT) : l.Nodup := List.Pairwise.imp (R := ltT) (S := fun a b => a ≠ b) (fun {a b} q e => by rw [e] at q; exact ltT_ir q) h
theorem insU_len {x : Th} : ∀ {l : List Th}, (insU x l).length ≤ l.length + 1
  | [] => Nat.le_refl _
  | y :: l => by
    unfold insU
    split
    · exact Nat.le_refl _
    · split
      · simp
      · rw [List.length_cons, List.length_cons]
        have := insU_len (x := x) (l := l)
        omega
theorem lotT_len : ∀ {l : List Th}, (lotT l).length ≤ l.length
  | [] => Nat.le_refl _
  | x :: l => by
    have h1 := lotT_len (l := l)
    have h2 := insU_len (x := x) (l := lotT l)
    show (insU x (lotT l)).length ≤ l.length + 1
    omega
/-- what a way of a thing needs -/
def needsM (B : Bk) (R : List Row) (t : Th) (w : Wy) : List Th := match w with
  | (false, k) => [(t.1, (mAt B.ms k).src)]
  | (true, k) => lotT (List.zip (parts R t.1) (rAt B.rs k).src)
/-- what can be made -/
inductive Mak (B : Bk) (R : List Row) : Th → Prop where
  | mk {t : Th} (w : Wy) : t.1 < R.length → w ∈ waysM B R t → (∀ u ∈ needsM B R t w, Mak B R u) → Mak B R t
theorem Mak.lt {B : Bk} {R : List Row} {t : Th} (g : GoodB B) (h : Mak B R t) : t.1 < R.length ∧ t.2 < B.nk := by
  cases h with
  | mk w h1 h2 _ =>
    refine ⟨h1, ?_⟩
    obtain ⟨b, k⟩ := w
    cases b with
    | false =>
      obtain ⟨a1, a2⟩ := mem_waysF.mp h2
      rw [← a2]
      exact (g.m2 _ (mAt_mem a1)).2.1
    | true =>
      obtain ⟨a1, _, a2⟩ := mem_waysT.mp h2
      rw [← a2]
      exact (g.r2 _ (rAt_mem a1)).2.2.2.1
theorem need_part {B : Bk} {R : List Row} (gr : Good R) {t u : Th} {k : Nat} (h : u ∈ needsM B R t (true, k)) : u.1 < t.1 := by
  have h1 := mem_lotT.mp h
  exact good_lt gr (List.of_mem_zip h1).1
def allT (R : List Row) (nk : Nat) : List Th := (List.range R.length).flatMap fun n => (List.range nk).map fun κ => (n, κ)
theorem mem_allT {R : List Row} {nk : Nat} {t : Th} : t ∈ allT R nk ↔ t.1 < R.length ∧ t.2 < nk := by
  unfold allT
  rw [List.mem_flatMap]
  constructor
  · rintro ⟨n, hn, h⟩
    obtain ⟨κ, hκ, rfl⟩ := List.mem_map.mp h
    exact ⟨List.mem_range.mp hn, List.mem_range.mp hκ⟩
  · rintro ⟨h1, h2⟩
    exact ⟨t.1, List.mem_range.mpr h1, List.mem_map.mpr ⟨t.2, List.mem_range.mpr h2, rfl⟩⟩
theorem asc_rows {nk : Nat} : ∀ {l : List Nat}, l.Pairwise (· < ·) → (l.flatMap fun n => (List.range nk).map fun κ => ((n, κ) : Th)).Pairwise ltT
  | [], _ => List.Pairwise.nil
  | n :: l, h => by
    obtain ⟨h1, h2⟩ := List.pairwise_cons.mp h
    rw [List.flatMap_cons, List.pairwise_append]
    refine ⟨?_, asc_rows h2, fun x hx y hy => ?_⟩
    · rw [List.pairwise_map]
      exact List.pairwise_lt_range.imp fun q => Or.inr ⟨rfl, q⟩
    · obtain ⟨κ, _, rfl⟩ := List.mem_map.mp hx
      obtain ⟨m, hm, hy⟩ := List.mem_flatMap.mp hy
      obtain ⟨κ', _, rfl⟩ := List.mem_map.mp hy
      exact Or.inl (h1 m hm)
theorem asc_allT {R : List Row} {nk : Nat} : (allT R nk).Pairwise ltT := asc_rows List.pairwise_lt_range
open Classical in
/-- the lot of all makeable things -/
noncomputable def makM (B : Bk) (R : List Row) : List Th := (allT R B.nk).filter fun t => decide (Mak B R t)
theorem mem_makM {B : Bk} {R : List Row} (g : GoodB B) {t : Th} : t ∈ makM B R ↔ Mak B R t := by
  classical
  unfold makM
  rw [List.mem_filter, decide_eq_true_eq, mem_allT]
  exact ⟨fun h => h.2, fun h => ⟨h.lt g, h⟩⟩
theorem asc_makM {B : Bk} {R : List Row} : (makM B R).Pairwise ltT := List.Pairwise.filter _ asc_allT
theorem rows_flat_len {nk : Nat} : ∀ {l : List Nat}, (l.flatMap fun n => (List.range nk).map fun κ => ((n, κ) : Th)).length = l.length * nk
  | [] => by simp
  | n :: l => by
    rw [List.flatMap_cons, List.length_append, rows_flat_len, List.length_map, List.length_range, List.length_cons, Nat.add_mul]
    omega
theorem allT_len {R : List Row} {nk : Nat} : (allT R nk).length = R.length * nk := by
  unfold allT
  rw [rows_flat_len, List.length_range]
theorem makM_len {B : Bk} {R : List Row} : (makM B R).length ≤ R.length * B.nk := by
  rw [← allT_len]
  exact List.length_filter_le ..
theorem nodup_len {α : Type} [DecidableEq α] : ∀ {F L : List α}, F.Nodup → (∀ x ∈ F, x ∈ L) → F.length ≤ L.length
  | [], _, _, _ => Nat.zero_le _
  | a :: F, L, h, s => by
    obtain ⟨h1, h2⟩ := List.nodup_cons.mp h
    have ha := s a List.mem_cons_self
    have := nodup_len (F := F) (L := L.erase a) h2 fun x hx => (List.mem_erase_of_ne (fun e => h1 (by rw [← e]; exact hx))).mpr (s x (List.mem_cons_of_mem _ hx))
    rw [List.length_erase_of_mem ha] at this
    have := List.length_pos_of_mem ha
    rw [List.length_cons]
    omega
/-! the keys of a dict of things -/
def insT (F : List Th) (x : Th) : List Th := if x ∈ F then F else F ++ [x]
theorem mem_insT {F : List Th} {x y : Th} : y ∈ insT F x ↔ y ∈ F ∨ y = x := by
  unfold insT
  split
  · rename_i h
    constructor
    · exact Or.inl
    · rintro (a | rfl)
      · exact a
      · exact h
  · rw [List.mem_append, List.mem_singleton]
theorem nodup_insT {F : List Th} {x : Th} (h : F.Nodup) : (insT F x).Nodup := by
  unfold insT
  split
  · exact h
  · rename_i hx
    rw [List.nodup_append]
    refine ⟨h, by simp, ?_⟩
    intro a ha b hb e
    rw [List.mem_singleton] at hb
    subst hb
    subst e
    exact hx ha
/-- only what can be made, each once -/
structure Snd (B : Bk) (R : List Row) (F : List Th) : Prop where
  nd : F.Nodup
  ok : ∀ t ∈ F, Mak B R t
theorem Snd.len {B : Bk} {R : List Row} (g : GoodB B) {F : List Th} (s : Snd B R F) : F.length ≤ R.length * B.nk := by
  rw [← allT_len]
  exact nodup_len s.nd fun t ht => mem_allT.mpr ((s.ok t ht).lt g)
theorem Snd.ins {B : Bk} {R : List Row} {F : List Th} (s : Snd B R F) {t : Th} (h : Mak B R t) : Snd B R (insT F t) := ⟨nodup_insT s.nd, fun u hu => by
  rcases mem_insT.mp hu with q | rfl
  · exact s.ok u q
  · exact h⟩
theorem Snd.nil {B : Bk} {R : List Row} : Snd B R [] := ⟨List.nodup_nil, fun _ h => nomatch h⟩
/-- all of the values below n -/
def Cpl (B : Bk) (R : List Row) (n : Nat) (F : List Th) : Prop := ∀ t : Th, t.1 < n → Mak B R t → t ∈ F
theorem Snd.fin {B : Bk} {R : List Row} (g : GoodB B) {F ys : List Th} (s : Snd B R F) (c : Cpl B R R.length F) (hp : ys.Perm F) (ha : ys.Pairwise ltT) : ys = makM B R :=
  asc_uniq ha asc_makM fun t => by
    rw [hp.mem_iff, mem_makM g]
    exact ⟨s.ok t, fun h => c t (h.lt g).1 h⟩
/-! kinds of one value, by moves -/
structure KSnd (B : Bk) (R : List Row) (n : Nat) (A : List Nat) : Prop where
  nd : A.Nodup
  ok : ∀ κ ∈ A, Mak B R (n, κ)
theorem KSnd.len {B : Bk} {R : List Row} (g : GoodB B) {n : Nat} {A : List Nat} (s : KSnd B R n A) : A.length ≤ B.nk := by
  have := nodup_len (L := List.range B.nk) s.nd fun κ hκ => List.mem_range.mpr ((s.ok κ hκ).lt g).2
  rwa [List.length_range] at this
theorem KSnd.ins {B : Bk} {R : List Row} {n : Nat} {A : List Nat} (s : KSnd B R n A) {κ : Nat} (h : Mak B R (n, κ)) : KSnd B R n (ins A κ) := ⟨nodup_ins s.nd, fun u hu => by
  rcases mem_ins.mp hu with q | rfl
  · exact s.ok u q
  · exact h⟩
def RulesIn (B : Bk) (R : List Row) (n : Nat) (F : List Th) (A : List Nat) (i : Nat) : Prop := ∀ k, k < i → k < B.rs.length → (rAt B.rs k).op = (rowAt R n).1 → (∀ u ∈ List.zip (parts R n) (rAt B.rs k).src, u ∈ F) → (rAt B.rs k).kind ∈ A
def MovesIn (B : Bk) (A : List Nat) (i : Nat) : Prop := ∀ k, k < i → k < B.ms.length → (mAt B.ms k).src ∈ A → (mAt B.ms k).kind ∈ A
theorem kinds_all {B : Bk} {R : List Row} (gr : Good R) {n : Nat} {F : List Th} {A : List Nat} (c : Cpl B R n F) (hr : RulesIn B R n F A B.rs.length) (hm : MovesIn B A B.ms.length) : ∀ {t : Th}, Mak B R t → t.1 = n → t.2 ∈ A := by
  intro t h
  induction h with
  | @mk t w h1 h2 h3 ih =>
    intro e
    obtain ⟨b, k⟩ := w
    cases b with
    | false =>
      obtain ⟨a1, a2⟩ := mem_waysF.mp h2
      have := ih (t.1, (mAt B.ms k).src) (List.mem_singleton.mpr rfl) e
      rw [← a2]
      exact hm k a1 a1 this
    | true =>
      obtain ⟨a1, a2, a3⟩ := mem_waysT.mp h2
      rw [← a3]
      refine hr k a1 a1 (by rw [a2, e]) fun u hu => ?_
      have hu' : u ∈ needsM B R t (true, k) := mem_lotT.mpr (by rw [e]; exact hu)
      exact c u (by have := need_part gr hu'; omega) (h3 u hu')
theorem mak_rule {B : Bk} {R : List Row} {n k : Nat} {F : List Th} (hn : n < R.length) (s : ∀ t ∈ F, Mak B R t) (hk : k < B.rs.length) (ho : (rAt B.rs k).op = (rowAt R n).1) (h : ∀ u ∈ List.zip (parts R n) (rAt B.rs k).src, u ∈ F) : Mak B R (n, (rAt B.rs k).kind) :=
  .mk (true, k) hn (mem_waysT.mpr ⟨hk, ho, rfl⟩) fun u hu => s u (h u (mem_lotT.mp hu))
theorem mak_move {B : Bk} {R : List Row} {n k : Nat} (hn : n < R.length) (hk : k < B.ms.length) (h : Mak B R (n, (mAt B.ms k).src)) : Mak B R (n, (mAt B.ms k).kind) :=
  .mk (false, k) hn (mem_waysF.mpr ⟨hk, rfl⟩) fun u hu => by
    rw [List.mem_singleton.mp hu]
    exact h
/-! by rounds -/
def cnt (nk n : Nat) (F : List Th) : Nat := ((List.range nk).filter fun κ => decide ((n, κ) ∈ F)).length
theorem filter_le {α : Type} {p q : α → Bool} : ∀ {l : List α}, (∀ x ∈ l, p x = true → q x = true) → (l.filter p).length ≤ (l.filter q).length
  | [], _ => Nat.le_refl _
  | a :: l, h => by
    have ih := filter_le (l := l) fun x hx => h x (List.mem_cons_of_mem _ hx)
    have ha := h a List.mem_cons_self
    rw [List.filter_cons, List.filter_cons]
    by_cases hp : p a = true
    · rw [if_pos hp, if_pos (ha hp), List.length_cons, List.length_cons]
      omega
    · rw [if_neg hp]
      split
      · rw [List.length_cons]
        omega
      · exact ih
theorem filter_lt {α : Type} {p q : α → Bool} : ∀ {l : List α} {a : α}, (∀ x ∈ l, p x = true → q x = true) → a ∈ l → q a = true → p a = false → (l.filter p).length < (l.filter q).length
  | b :: l, a, h, ha, hq, hp => by
    have hl : ∀ x ∈ l, p x = true → q x = true := fun x hx => h x (List.mem_cons_of_mem _ hx)
    rw [List.filter_cons, List.filter_cons]
    rcases List.mem_cons.mp ha with rfl | ha
    · rw [if_neg (by rw [hp]; decide), if_pos hq, List.length_cons]
      have := filter_le hl
      omega
    · have ih := filter_lt hl ha hq hp
      have hb := h b List.mem_cons_self
      by_cases hpb : p b = true
      · rw [if_pos hpb, if_pos (hb hpb), List.length_cons, List.length_cons]
        omega
      · rw [if_neg hpb]
        split
        · rw [List.length_cons]
          omega
        · exact ih
theorem cnt_full {nk n : Nat} {F : List Th} (h : nk ≤ cnt nk n F) {κ : Nat} (hκ : κ < nk) : (n, κ) ∈ F := by
  unfold cnt at h
  have h1 := List.length_filter_le (fun κ => decide ((n, κ) ∈ F)) (List.range nk)
  rw [List.length_range] at h1
  have h2 : ((List.range nk).filter fun κ => decide ((n, κ) ∈ F)).length = (List.range nk).length := by rw [List.length_range]; omega
  have h3 := List.length_filter_eq_length_iff.mp h2 κ (List.mem_range.mpr hκ)
  exact of_decide_eq_true h3
def Cp1 (B : Bk) (R : List Row) (n : Nat) (F : List Th) : Prop := ∀ κ, Mak B R (n, κ) → (n, κ) ∈ F
theorem next_one {B : Bk} {R : List Row} (gr : Good R) {n : Nat} {F : List Th} (c : Cpl B R n F) {t : Th} (h : Mak B R t) : t.1 = n → t ∉ F → ∃ κ w, (n, κ) ∉ F ∧ Mak B R (n, κ) ∧ w ∈ waysM B R (n, κ) ∧ ∀ u ∈ needsM B R (n, κ) w, u ∈ F := by
  induction h with
  | @mk t w h1 h2 h3 ih =>
    intro e hn
    obtain ⟨m, κ⟩ := t
    have e' : m = n := e
    subst e'
    by_cases hall : ∀ u ∈ needsM B R (m, κ) w, u ∈ F
    · exact ⟨κ, w, hn, .mk w h1 h2 h3, h2, hall⟩
    · obtain ⟨u, hu⟩ := Classical.not_forall.mp hall
      obtain ⟨hu1, hu2⟩ := Classical.not_imp.mp hu
      refine ih u hu1 ?_ hu2
      obtain ⟨b, k⟩ := w
      cases b with
      | false =>
        rw [List.mem_singleton.mp hu1]
      | true => exact absurd (c u (need_part gr hu1) (h3 u hu1)) hu2
/-- one round -/
theorem turn_step {B : Bk} {R : List Row} (g : GoodB B) (gr : Good R) {n τ : Nat} {F F' : List Th} (c : Cpl B R n F) (h : Cp1 B R n F ∨ τ ≤ cnt B.nk n F) (hs : ∀ t ∈ F, t ∈ F')
    (hc : ∀ κ, κ < B.nk → ∀ w ∈ waysM B R (n, κ), (∀ u ∈ needsM B R (n, κ) w, u ∈ F) → (n, κ) ∈ F') : Cp1 B R n F' ∨ τ + 1 ≤ cnt B.nk n F' := by
  rcases Classical.em (Cp1 B R n F) with q | q
  · exact Or.inl fun κ m => hs _ (q κ m)
  · have h := h.resolve_left q
    obtain ⟨κ, hκ⟩ := Classical.not_forall.mp q
    obtain ⟨h1, h2⟩ := Classical.not_imp.mp hκ
    obtain ⟨κ', w, n1, n2, n3, n4⟩ := next_one gr c h1 rfl h2
    have l := (n2.lt g).2
    have := filter_lt (l := List.range B.nk) (p := fun κ => decide ((n, κ) ∈ F)) (q := fun κ => decide ((n, κ) ∈ F')) (a := κ') (fun x _ hx => decide_eq_true (hs _ (of_decide_eq_true hx))) (List.mem_range.mpr l) (decide_eq_true (hc κ' l w n3 n4)) (decide_eq_false n1)
    refine Or.inr ?_
    unfold cnt at h ⊢
    omega
theorem turns_end {B : Bk} {R : List Row} (g : GoodB B) {n : Nat} {F : List Th} (c : Cpl B R n F) (h : Cp1 B R n F ∨ B.nk ≤ cnt B.nk n F) : Cpl B R (n + 1) F := by
  have h' : Cp1 B R n F := by
    rcases h with h | h
    · exact h
    · exact fun κ m => cnt_full h (m.lt g).2
  intro t ht m
  rcases Nat.lt_or_ge t.1 n with q | q
  · exact c t q m
  · have e : t = (n, t.2) := Prod.ext (by omega) rfl
    rw [e] at m ⊢
    exact h' _ m
/-- a thing can be made just if one of its ways can -/
theorem mak_iff {B : Bk} {R : List Row} {t : Th} (ht : t.1 < R.length) : Mak B R t ↔ ∃ w ∈ waysM B R t, ∀ u ∈ needsM B R t w, Mak B R u :=
  ⟨fun h => by
    cases h with
    | mk w h1 h2 h3 => exact ⟨w, h2, h3⟩, fun ⟨w, h2, h3⟩ => .mk w ht h2 h3⟩
end Lk
/-! dict comprehensions whose keys are tuples: my own rule beside the layer's for ints and texts -/
namespace DcG
open PySem PySem.Spec PyProof.Rows L2
theorem put_any {X : Cx} {pins : List (Addr × Obj)} {σ : L2.St} {H H' : Hp} {s : Shared} {E : Value → Shared → Prop} {D : Addr} {y v : V} {u r : Value} {Q : Unit → Shared → Prop} (hu : X.A.units + 1 < cLine) (I : Inv X pins σ H s) (g : DPut H D y v H')
    (ry : RelV y u) (rv : RelV v r) (q : ∀ s', Inv X pins σ H' s' → Q () s') : wpAny (model X.prog X.w) X.A (dictSet D u r) Q E s := by
  rcases g with ⟨kvs, k, e, ey, l, eH⟩ | ⟨kvs, k, b, e, ey, eb, l, eH⟩
  · subst ey eH
    exact d_dictSet I e l ry rv q
  · subst ey eH
    cases (show u = Value.ref b from ry)
    obtain ⟨z, hd, xs, rel, dd⟩ := dt_of I.hok e
    have z1 : xs.length ≤ sizeLine := by rw [← Paired.length rel]; exact z
    have z2 : (putK kvs k v).length ≤ sizeLine := by
      have := length_putK kvs k v
      omega
    refine wpAny_dictSet_heap (knd := tupleKind (mixKind X.prog X.w)) (hsz := z1) (show X.A.units < cLine by omega) (key_of I.hok eb) dd fun h' dd' hs => q _ ?_
    obtain ⟨ob, es, ep, g1, g2, g3, g4, _, g5⟩ := dd'
    refine d_write I (by rw [e]; exact True.intro) hs ⟨ob, g1⟩ ⟨z2, hd, _, (rel.put k eb rv).keeps fun c ys ec => ?_, ob, es, ep, g1, g2, g3, g4, g5⟩
    rw [upd_ne (ne_of ec e (fun z => nomatch z))]
    exact ec
/-- {k: v for target in iter if ..} with a new dict that begins as o0; each pair is put as DPut says -/
def tDg (o0 : HO) (wi : TI) (g : TG) (tt : TT) (tk tv : TE) (vs : List Nat) : TE := fun σ H Q =>
  wi σ H fun J H1 => ∀ D, H1 D = none → ∃ W : Nat → Nat → Hp → Prop, (∃ m, W 0 m (upd H1 D o0)) ∧ ∀ i m H, W i m H →
    (J.stop i H ∧ Q (.ref D) H) ∨ (J.go i H ∧ ∃ Nx : Hp → Prop, (∀ H', Nx H' → ∃ m', m' < m ∧ W (i + 1) m' H') ∧
      ∀ x H', J.yld i H x H' → g x (wipe σ vs) H' fun σ2 H2 => wipe σ2 vs = wipe σ vs ∧ tt σ2 H2 fun b H3 =>
        if b = true then tk σ2 H3 fun y H4 => tv σ2 H4 fun z H5 => ∃ H6, DPut H5 D y z H6 ∧ Nx H6 else Nx H3)
section
variable {X : Cx}
theorem core {o0 : HO} (emp : ∀ (P : Program) (w : World) (H : Hp) (h : Heap), sysModules < h.objs.size → ObjOk P w H (h.push { cls := .type "dict", data := .dict #[] }) h.objs.size o0)
    {pins : List (Addr × Obj)} {s : Shared} {σ : L2.St} {H : Hp} {Q : VK} {kx vx tg it0 : Expr} {ifs : List Expr} {scp : Scope} {own : List (Str × Nat)} {pos pos' : Pos} {wi : TI} {g : TG} {tt : TT} {tk tv : TE} {use : Option (Value → Sem Unit)} {Qf : Value → Shared → Prop}
    (hu : X.A.units + 1 < cLine) (hc : X.calm = true) (hN : X.N.Nodup) (I : Inv X pins σ H s) (hi : PI X tg it0 wi) (ok : BlkOk X.N X.env.scope scp own)
    (hg : ∀ (s : Shared) (H : Hp) (C : Addr) (cl : List (Str × Addr)) (fp : List Addr), PG (X.blk s H scp (compEnvC scp cl C X.env) fp) tg g)
    (ht : ∀ (s : Shared) (H : Hp) (C : Addr) (cl : List (Str × Addr)) (fp : List Addr), PTs (X.blk s H scp (compEnvC scp cl C X.env) fp) ifs tt)
    (hk : ∀ (s : Shared) (H : Hp) (C : Addr) (cl : List (Str × Addr)) (fp : List Addr), PE (X.blk s H scp (compEnvC scp cl C X.env) fp) kx tk)
    (he : ∀ (s : Shared) (H : Hp) (C : Addr) (cl : List (Str × Addr)) (fp : List Addr), PE (X.blk s H scp (compEnvC scp cl C X.env) fp) vx tv) (hs : ∀ x, foldedSetIterable it0 X.env x = pure x)
    (h : tDg o0 wi g tt tk tv (own.map (·.2)) σ H Q)
    (back : ∀ D C s' m H', Inv X pins σ H' s' → Q (.ref D) H' → s'.heap.Ns C m → FpOk X pins H' C → compPost (model X.prog X.w) X.A X.xe use Qf (.ref D) C (.ok .next) s') :
    wpAny (model X.prog X.w) X.A (comprehension (.DictComp kx vx [⟨tg, it0, ifs, 0⟩] scp pos) scp X.env pos' newDict false (eval it0 X.env) use) Qf X.xe s := by
  have fr : ∀ y ∈ scp.names, y.2 = .free → ∃ c, X.env.cells.lookup y.1 = some c := by
    intro y hy e
    rcases ok.free y hy e with k | k
    · exact I.ok.has _ (Or.inl k)
    · exact I.ok.has _ (Or.inr k)
  refine wpAny_comprehension_free (use := use) rfl hs (closure_ok fr) ok.kind (fun y hy e => by rw [ok.uniq y hy, e]) (thn (hi.run pins s σ H _ I h) fun xv a1 hx => thn hx fun itv a2 h2 => ?_)
  obtain ⟨it, fp, tn, J, Ha, rfl, Ia, T, sta, fa, q⟩ := h2
  refine wpAny_newObj_type (newEnv_comp ?_)
  obtain ⟨D, hD⟩ : ∃ D, a2.heap.objs.size = D := ⟨_, rfl⟩
  rw [hD]
  obtain ⟨W, ⟨m0, w0⟩, turn⟩ := q D (Ia.hok.fresh (Nat.le_of_eq hD))
  obtain ⟨a3, hs3⟩ : ∃ a3 : Shared, ({ a2 with heap := a2.heap.push { cls := .type "dict", data := .dict #[] } } : Shared) = a3 := ⟨_, rfl⟩
  rw [hs3]
  have Ib : Inv X pins σ (upd Ha D o0) a3 := by
    rw [← hs3]
    refine Ia.laid (t' := a2.toks) (fun b o e => Heap.get?_push_of_some _ e) (Nat.le_of_eq hD) ?_
    rw [← hD]
    exact emp _ _ _ a2.heap Ia.big
  have hh3 : a3.heap = a2.heap.push { cls := .type "dict", data := .dict #[] } := by rw [← hs3]
  have sz : ∀ b ∈ fp, b < a2.heap.objs.size := by
    intro b hb
    obtain ⟨o, e, _⟩ := T.obj _ _ sta b hb
    exact Heap.lt_size e
  have fb : ∀ b ∈ fp, FpOk X pins (upd Ha D o0) b ∧ b < a3.heap.objs.size := by
    intro b hb
    have hlt := sz b hb
    refine ⟨⟨?_, (fa b hb).2⟩, by rw [hh3, Heap.size_push]; exact Nat.lt_succ_of_lt hlt⟩
    rw [upd_ne (by rw [← hD]; exact Nat.ne_of_lt hlt)]
    exact (fa b hb).1
  have stb : tn 0 a3.heap := T.keep _ _ _ sta fun b _ o e => by
    rw [hh3]
    exact Heap.get?_push_of_some _ e
  have Ic := block_start Ib ok hN fb
  have rg := hg a3 (upd Ha D o0) a3.heap.objs.size (cellsFrom (a3.heap.objs.size + 1) scp.names (cloFrom X.env.cells scp.names [])) fp
  have rt := ht a3 (upd Ha D o0) a3.heap.objs.size (cellsFrom (a3.heap.objs.size + 1) scp.names (cloFrom X.env.cells scp.names [])) fp
  have rk := hk a3 (upd Ha D o0) a3.heap.objs.size (cellsFrom (a3.heap.objs.size + 1) scp.names (cloFrom X.env.cells scp.names [])) fp
  have rv := he a3 (upd Ha D o0) a3.heap.objs.size (cellsFrom (a3.heap.objs.size + 1) scp.names (cloFrom X.env.cells scp.names [])) fp
  show codeAny _ _ (.compStart (.DictComp kx vx [⟨tg, it0, ifs, 0⟩] scp pos) 0 (.ref it) (.ref D) (compEnvC scp (cellsFrom (a3.heap.objs.size + 1) scp.names (cloFrom X.env.cells scp.names [])) a3.heap.objs.size X.env))
    (compPost (model X.prog X.w) X.A X.xe use Qf (.ref D) a3.heap.objs.size) { a3 with heap := pushCells (a3.heap.push { cls := .type "dict", data := .dict #[] }) scp.names }
  have nb : ∀ b ∈ fp, (upd Ha D o0) b = none := fun b hb => (fb b hb).1.1
  generalize hce : compEnvC scp (cellsFrom (a3.heap.objs.size + 1) scp.names (cloFrom X.env.cells scp.names [])) a3.heap.objs.size X.env = ce at Ic rg rt rk rv ⊢
  have cl : ce.locals = a3.heap.objs.size := by
    subst hce
    rfl
  generalize hHb : upd Ha D o0 = Hb at Ib Ic rg rt rk rv w0 nb fb
  generalize hs4 : ({ a3 with heap := pushCells (a3.heap.push { cls := .type "dict", data := .dict #[] }) scp.names } : Shared) = a4 at Ic ⊢
  have stc : tn 0 a4.heap := T.keep _ _ _ stb fun b _ o e => by
    rw [← hs4]
    exact pushCells_keeps _ _ _ _ (Heap.get?_push_of_some _ e)
  have stat : ∀ {σ' : L2.St} {H' : Hp} {s' : Shared}, Inv (X.blk a3 Hb scp ce fp) [] σ' H' s' → (∀ b ∈ fp, H' b = none) → ∀ b ∈ fp, FpOk (X.blk a3 Hb scp ce fp) [] H' b := by
    intro σ' H' s' I' hn b hb
    exact ⟨hn b hb, (I'.ok.exf b hb).1, I'.ok.exfs b hb, .inl hb, fun x c e => (I'.ok.exf b hb).2 x c e, fun p hp => absurd (show p ∈ ([] : List (Addr × Obj)) ++ [] from hp) (by simp)⟩
  have loop : codeAny (model X.prog X.w) X.A (.compLoop (.DictComp kx vx [⟨tg, it0, ifs, 0⟩] scp pos) 0 (.ref it) (.ref D) ce) (compPost (model X.prog X.w) X.A X.xe use Qf (.ref D) a3.heap.objs.size) a4 := by
    refine compLoop_anyD (fun n s' => ∃ i H', Inv (X.blk a3 Hb scp ce fp) [] (wipe σ (own.map (·.2))) H' s' ∧ tn i s'.heap ∧ (∀ b ∈ fp, H' b = none) ∧ W i n H') ?_ m0 ⟨0, Hb, Ic, stc, nb, w0⟩
    intro n a5 hall
    obtain ⟨i, H5, I5, st5, n5, w5⟩ := hall
    rcases turn i n H5 w5 with ⟨stop, qq⟩ | ⟨go, Nx, hNx, step⟩
    · refine thnF (T.done (X.blk a3 Hb scp ce fp) rfl rfl rfl hc i [] a5 _ H5 (fun _ _ => False) I5 (stat I5 n5) st5 stop) fun r a6 z => ?_
      obtain ⟨rfl, I6⟩ := z
      have I7 : Inv X pins σ H5 a6 := Ib.call' (ch := fp) I6.os I6.base I6.hok I6.bare fun b hb => ⟨(fb b hb).1.2.2.2.1, (fb b hb).1.2.1, (fb b hb).1.2.2.2.2.1, (fb b hb).1.2.2.2.2.2⟩
      have nC : H5 a3.heap.objs.size = none := cl ▸ (show H5 ce.locals = none from I6.free)
      obtain ⟨m, hn, _⟩ := I6.loc
      have hn : a6.heap.Ns ce.locals m := hn
      rw [cl] at hn
      exact back D a3.heap.objs.size a6 m H5 I7 qq hn (Ib.fpOk (Nat.le_refl _) nC)
    · refine thnF (T.item (X.blk a3 Hb scp ce fp) rfl rfl rfl hc i [] a5 _ H5 (fun _ _ => False) I5 (stat I5 n5) st5 go) fun r a6 z => ?_
      obtain ⟨u, rfl, h6⟩ := z
      refine thnF h6 fun _ a7 z => ?_
      obtain ⟨x, H7, I7, r7, y7, st7, n7⟩ := z
      have I7p := I7.pinned (stat I7 n7) (T.obj _ _ st7)
      refine thnF (rg.run _ a7 _ H7 x u _ I7p r7 (step x H7 y7)) fun _ a8 z => ?_
      obtain ⟨σ8, H8, I8, hw8, q8⟩ := z
      refine thnF (rt.run _ a8 σ8 H8 _ I8 q8) fun b a9 z => ?_
      obtain ⟨H9, I9, q9⟩ := z
      have fin : ∀ {s' : Shared} {H' : Hp}, Inv (X.blk a3 Hb scp ce fp) ([] ++ pinsAt fp a7.heap) σ8 H' s' → Nx H' → ∃ m, m < n ∧ ∃ i H', Inv (X.blk a3 Hb scp ce fp) [] (wipe σ (own.map (·.2))) H' s' ∧ tn i s'.heap ∧ (∀ b ∈ fp, H' b = none) ∧ W i m H' := by
        intro s' H' I' nx
        obtain ⟨m', hm, w'⟩ := hNx H' nx
        have pin : ∀ b ∈ fp, ∀ o, a7.heap.get? b = some o → s'.heap.get? b = some o ∧ H' b = none := by
          intro b hb o e
          have z := I'.pin (b, o) (List.mem_append_right _ (List.mem_append_right _ (mem_pinsAt hb e)))
          exact ⟨z.1, z.2.1⟩
        have hl : (wipe σ (own.map (·.2))).length = σ8.length := by rw [← hw8, wipe_length]
        refine ⟨m', hm, i + 1, H', (I'.unpinned (pins := [])).weak hl (fun j v e => ?_), T.keep _ _ _ st7 fun b hb o e => (pin b hb o e).1, fun b hb => ?_, w'⟩
        · rw [← hw8] at e
          exact (wipe_some e).1
        · obtain ⟨o, e, _⟩ := T.obj _ _ st7 b hb
          exact (pin b hb o e).2
      cases b with
      | false =>
        simp only [Bool.false_eq_true, if_false] at q9 ⊢
        exact fin I9 q9
      | true =>
        simp only [if_true] at q9 ⊢
        refine thnF (rk.run _ a9 σ8 H9 _ I9 q9) fun z aa zz => ?_
        obtain ⟨yk, Hc, Icc, rc, qc⟩ := zz
        refine thnF (rv.run _ aa σ8 Hc _ Icc qc) fun z2 ab zz => ?_
        obtain ⟨yv, Hd, Idd, rd, He, dp, nx⟩ := zz
        exact put_any (X := X.blk a3 Hb scp ce fp) hu Idd dp rc rd fun ac Iac => fin Iac nx
  exact codeAny_compStart_dict loop (T.self X.A 0 _ _ _ stc loop)
theorem pe_dcT {kx vx tg it0 : Expr} {ifs : List Expr} {scp : Scope} {own : List (Str × Nat)} {pos : Pos} {wi : TI} {g : TG} {tt : TT} {tk tv : TE} (hu : X.A.units + 1 < cLine) (hc : X.calm = true) (hN : X.N.Nodup) (hi : PI X tg it0 wi) (ok : BlkOk X.N X.env.scope scp own)
    (hg : ∀ (s : Shared) (H : Hp) (C : Addr) (cl : List (Str × Addr)) (fp : List Addr), PG (X.blk s H scp (compEnvC scp cl C X.env) fp) tg g)
    (ht : ∀ (s : Shared) (H : Hp) (C : Addr) (cl : List (Str × Addr)) (fp : List Addr), PTs (X.blk s H scp (compEnvC scp cl C X.env) fp) ifs tt)
    (hk : ∀ (s : Shared) (H : Hp) (C : Addr) (cl : List (Str × Addr)) (fp : List Addr), PE (X.blk s H scp (compEnvC scp cl C X.env) fp) kx tk)
    (he : ∀ (s : Shared) (H : Hp) (C : Addr) (cl : List (Str × Addr)) (fp : List Addr), PE (X.blk s H scp (compEnvC scp cl C X.env) fp) vx tv) (hs : ∀ x, foldedSetIterable it0 X.env x = pure x := by intro _; rfl) :
    PE X (.DictComp kx vx [⟨tg, it0, ifs, 0⟩] scp pos) (tDg (.dT []) wi g tt tk tv (own.map (·.2))) := by
  refine ⟨fun pins s σ H Q I h => ?_⟩
  rw [arm_eval_DictComp]
  refine core (fun _ _ _ h hb => dt_empty h hb) hu hc hN I hi ok hg ht hk he hs h fun D C s' m H' I' q hn f => ⟨m, hn, fun h2 sb => ?_⟩
  obtain ⟨f0, f1, f2, f3, f4, f5⟩ := f
  exact ⟨.ref D, H', I'.turned (t' := s'.toks) (fun b o hb e => (sb.2 b hb).trans e) f0 f1 f3 f4 f5, rfl, q⟩
end
theorem dg_it {o0 : HO} {J : It} {n : Nat} {G : Hp → Prop} {Y : Nat → Hp → V → Hp → Prop} (w : Walk J n G Y) {g : TG} {tt : TT} {tk tv : TE} {vs : List Nat} {σ : L2.St} {H1 : Hp} {D : Addr} {Qd : Hp → Prop} (Pv : Nat → Hp → Prop) (h0 : Pv 0 (upd H1 D o0)) (hG : ∀ i H, i ≤ n → Pv i H → G H)
    (hs : ∀ i x H H', i < n → Pv i H → Y i H x H' → g x (wipe σ vs) H' fun σ2 H2 => wipe σ2 vs = wipe σ vs ∧ tt σ2 H2 fun b H3 => if b = true then tk σ2 H3 fun y H4 => tv σ2 H4 fun z H5 => ∃ H6, DPut H5 D y z H6 ∧ Pv (i + 1) H6 else Pv (i + 1) H3) (hd : ∀ H, Pv n H → Qd H) :
    ∃ W : Nat → Nat → Hp → Prop, (∃ m, W 0 m (upd H1 D o0)) ∧ ∀ i m H, W i m H → (J.stop i H ∧ Qd H) ∨ (J.go i H ∧ ∃ Nx : Hp → Prop, (∀ H', Nx H' → ∃ m', m' < m ∧ W (i + 1) m' H') ∧
      ∀ x H', J.yld i H x H' → g x (wipe σ vs) H' fun σ2 H2 => wipe σ2 vs = wipe σ vs ∧ tt σ2 H2 fun b H3 => if b = true then tk σ2 H3 fun y H4 => tv σ2 H4 fun z H5 => ∃ H6, DPut H5 D y z H6 ∧ Nx H6 else Nx H3) := by
  refine ⟨fun i m H => m = n - i ∧ i ≤ n ∧ Pv i H, ⟨n, by simp, Nat.zero_le _, h0⟩, ?_⟩
  intro i m H hW
  obtain ⟨em, hi, p⟩ := hW
  subst em
  by_cases hlt : i < n
  · exact Or.inr ⟨w.goes i H hlt (hG i H hi p), Pv (i + 1), fun H' p' => ⟨n - (i + 1), by omega, rfl, hlt, p'⟩, fun x H' y => hs i x H H' hlt p (w.yields i H x H' hlt (hG i H hi p) y)⟩
  · have e : i = n := by omega
    subst e
    exact Or.inl ⟨w.stops H (hG i H hi p), hd H p⟩
end DcG
/-! zip of two tuples whose pairs are kept by a name: my own rule beside the layer's for pairs that are unpacked -/
namespace ZpN
open PySem PySem.Spec PyProof.Rows L2
/-- a zip that may have a pair of its own out -/
def At (h : Heap) (z TI TO : Addr) : Prop := ∃ (o1 : Value) (f : Bool), (o1 = .none ∨ ∃ T : Addr, o1 = rawInt T) ∧ h.get? z = some { cls := .type "zip", dict := none, data := .fields #[o1, .bool f, .bool false, .ref TI, .ref TO], slots := #[] }
section
variable {prog : Program} {w : World} {A : Around} {E : Value → Shared → Prop} {s : Shared}
theorem alive {a : Addr} {Q : Option Obj → Shared → Prop} (q : Q (s.heap.get? a) s) : wpAny (model prog w) A (loadIfAlive a) Q E s := fun _ _ _ => q
theorem isFree {z TI TO : Addr} {Q : Bool → Shared → Prop} (hz : At s.heap z TI TO) (q1 : Q true s) (q2 : ∀ h', At h' z TI TO → Heap.SameBut z s.heap h' → Q false { s with heap := h' }) :
    wpAny (model prog w) A (Builtin.SmallTypes.ownedTupleIsFree (.ref z)) Q E s := by
  obtain ⟨o1, f, ho, hz⟩ := hz
  unfold Builtin.SmallTypes.ownedTupleIsFree
  refine wpAny_bind (wpAny_field hz rfl (x := o1) rfl ?_)
  rcases ho with rfl | ⟨T, rfl⟩
  · exact wpAny_pure q1
  · show wpAny _ _ (loadIfAlive ((T : Int).toNat) >>= _) _ _ _
    rw [Int.toNat_natCast]
    refine wpAny_bind (alive ?_)
    cases s.heap.get? T with
    | none =>
      simp only [Option.isNone_none, if_true]
      exact wpAny_pure q1
    | some oT =>
      simp only [Option.isNone_some, Bool.false_eq_true, if_false]
      refine wpAny_bind (wpAny_field hz rfl (x := .bool f) rfl ?_)
      cases f with
      | true =>
        rw [if_neg (show ¬ ((Value.bool true != Value.bool true) = true) from Bool.false_ne_true)]
        exact wpAny_pure (q2 s.heap ⟨_, _, Or.inr ⟨T, rfl⟩, hz⟩ (Heap.SameBut.refl _ _))
      | false =>
        rw [if_pos (show (Value.bool false != Value.bool true) = true from rfl)]
        exact wpAny_bind (wpAny_setField_rec hz (by simp) fun h1 hz1 hs1 => wpAny_pure (q2 h1 ⟨_, _, Or.inr ⟨T, rfl⟩, hz1⟩ hs1))
/-- the next pair, a new tuple -/
theorem next1 {z TI TO i1 i2 l1 l2 : Addr} {k1 k2 : Nat} {xs ys : Array Value} {x y a b : Value} {Q : Value → Shared → Prop} (D : ZipApart z TI TO i1 i2 l1 l2)
    (hz : At s.heap z TI TO) (hTI : IsPair s.heap TI (.ref i1) (.ref i2)) (hTO : IsPair s.heap TO a b) (h1 : s.heap.IsTupleIter i1 l1 k1) (h2 : s.heap.IsTupleIter i2 l2 k2)
    (hl1 : s.heap.IsTuple l1 xs) (hl2 : s.heap.IsTuple l2 ys) (hx : xs[k1]? = some x) (hy : ys[k2]? = some y)
    (q : ∀ h', At h' z TI TO → (∃ a b, IsPair h' TO a b) → h'.IsTupleIter i1 l1 (k1 + 1) → h'.IsTupleIter i2 l2 (k2 + 1) → IsPair h' s.heap.objs.size x y → h'.objs.size = s.heap.objs.size + 1 →
      (∀ c o, c ≠ z → c ≠ TO → c ≠ i1 → c ≠ i2 → s.heap.get? c = some o → h'.get? c = some o) → Q (.ref s.heap.objs.size) { s with heap := h' }) :
    wpAny (model prog w) A (Builtin.«zip.__next__» ⟨[.ref z], []⟩) (fun fin s' => ∃ v, fin = .done (.ret v) ∧ Q v s') E s := by
  obtain ⟨o1, f, ho, hzz⟩ := id hz
  show wpAny _ _ (field (.ref z) 2 >>= _) _ _ _
  refine wpAny_bind (wpAny_field hzz rfl (x := .bool false) rfl ?_)
  show wpAny _ _ (field (.ref z) 3 >>= _) _ _ _
  refine wpAny_bind (wpAny_field hzz rfl (x := .ref TI) rfl ?_)
  refine wpAny_bind (wpAny_seqItems hTI rfl ?_)
  show wpAny _ _ (Builtin.SmallTypes.ownedTupleIsFree (.ref z) >>= _) _ _ _
  refine wpAny_bind (isFree hz ?_ fun g1 hz1 sb1 => ?_)
  · simp only [if_true]
    refine wpAny_bind (wpAny_rule (wpAny_bind (wpAny_field hzz rfl (x := .ref TO) rfl (wpAny_bind (wpAny_setField_rec hzz (by simp) fun g1 hz1 sb1 => ?_)))))
    refine wpAny_bind ?_
    simp only [List.zipIdx_cons, List.zipIdx_nil, List.forIn_cons, List.forIn_nil]
    refine wpAny_bind (wpAny_bind (wpAny_onRaise ?_))
    show wpAny _ _ (Builtin.SmallTypes.nextOf (.ref i1) >>= _) _ _ _
    refine wpAny_bind (wpAny_nextOf_tuple_item (h1.extBut sb1.extBut D.i1z) (hl1.extBut sb1.extBut D.l1z) hx fun g2 n1 sb2 => wpAny_pure ?_)
    have t2 : IsPair g2 TO a b := sb2.extBut _ _ D.TOi1 (sb1.extBut _ _ D.TOz hTO)
    refine wpAny_bind (wpAny_seqItems t2 rfl (wpAny_bind (wpAny_updateSeq_pair t2 fun g3 t3 sb3 => wpAny_bind (wpAny_letGo (wpAny_pure ?_)))))
    replace t3 : IsPair g3 TO x b := t3
    refine wpAny_bind (wpAny_bind (wpAny_onRaise ?_))
    show wpAny _ _ (Builtin.SmallTypes.nextOf (.ref i2) >>= _) _ _ _
    refine wpAny_bind (wpAny_nextOf_tuple_item (((h2.extBut sb1.extBut D.i2z).extBut sb2.extBut D.i12.symm).extBut sb3.extBut D.TOi2.symm) (((hl2.extBut sb1.extBut D.l2z).extBut sb2.extBut D.l2i1).extBut sb3.extBut D.l2TO) hy fun g4 n2 sb4 => wpAny_pure ?_)
    have t4 : IsPair g4 TO x b := sb4.extBut _ _ D.TOi2 t3
    refine wpAny_bind (wpAny_seqItems t4 rfl (wpAny_bind (wpAny_updateSeq_pair t4 fun g5 t5 sb5 => wpAny_bind (wpAny_letGo (wpAny_pure (wpAny_pure ?_))))))
    replace t5 : IsPair g5 TO x y := t5
    refine wpAny_bind (wpAny_seqItems t5 rfl (wpAny_bind (wpAny_newTuple ?_)))
    have sz : g5.objs.size = s.heap.objs.size := by rw [sb5.1, sb4.1, sb3.1, sb2.1, sb1.1]
    have z5 := sb5.extBut _ _ D.TOz.symm (sb4.extBut _ _ D.i2z.symm (sb3.extBut _ _ D.TOz.symm (sb2.extBut _ _ D.i1z.symm hz1)))
    have k5 : ∀ c o, c ≠ z → c ≠ TO → c ≠ i1 → c ≠ i2 → s.heap.get? c = some o → g5.get? c = some o := fun c o c1 c2 c3 c4 e =>
      sb5.extBut _ _ c2 (sb4.extBut _ _ c4 (sb3.extBut _ _ c2 (sb2.extBut _ _ c3 (sb1.extBut _ _ c1 e))))
    have m1 : g5.IsTupleIter i1 l1 (k1 + 1) := ((n1.extBut sb3.extBut D.TOi1.symm).extBut sb4.extBut D.i12).extBut sb5.extBut D.TOi1.symm
    have m2 : g5.IsTupleIter i2 l2 (k2 + 1) := n2.extBut sb5.extBut D.TOi2.symm
    have zl : z < g5.objs.size := Heap.lt_size z5
    show wpAny _ _ (Builtin.SmallTypes.ownedTupleHandOut (.ref z) (.ref g5.objs.size) >>= _) _ _ _
    refine wpAny_bind ?_
    unfold Builtin.SmallTypes.ownedTupleHandOut
    have z6 := Heap.get?_push_of_some (h := g5) { cls := .type "tuple", data := .seq #[x, y] } z5
    refine wpAny_bind (wpAny_setField_rec z6 (by simp) fun g7 z7 sb7 => wpAny_setField_rec z7 (by simp) fun g8 z8 sb8 => wpAny_pure ⟨_, rfl, ?_⟩)
    have up : ∀ c o, c ≠ z → g5.get? c = some o → g8.get? c = some o := fun c o c1 e => sb8.extBut _ _ c1 (sb7.extBut _ _ c1 (Heap.get?_push_of_some _ e))
    have T8 : IsPair g8 g5.objs.size x y := sb8.extBut _ _ (Nat.ne_of_gt zl) (sb7.extBut _ _ (Nat.ne_of_gt zl) (Heap.get?_push_size _ rfl))
    have s8 : g8.objs.size = g5.objs.size + 1 := by rw [sb8.1, sb7.1, Heap.size_push]
    rw [sz] at T8 s8
    show Q (.ref g5.objs.size) _
    rw [sz]
    exact q g8 ⟨_, _, Or.inr ⟨_, rfl⟩, z8⟩ ⟨_, _, up _ _ D.TOz t5⟩ (m1.at fun o e => up _ o D.i1z e) (m2.at fun o e => up _ o D.i2z e) T8 s8 fun c o c1 c2 c3 c4 e => up c o c1 (k5 c o c1 c2 c3 c4 e)
  · simp only [Bool.false_eq_true, if_false]
    refine wpAny_bind ?_
    rw [← Array.forIn_toList]
    simp only [List.forIn_cons, List.forIn_nil]
    refine wpAny_bind (wpAny_bind (wpAny_holding ?_))
    show wpAny _ _ (Builtin.SmallTypes.nextOf (.ref i1) >>= _) _ _ _
    refine wpAny_bind (wpAny_nextOf_tuple_item (s := { s with heap := g1 }) (h1.extBut sb1.extBut D.i1z) (hl1.extBut sb1.extBut D.l1z) hx fun g2 n1 sb2 => wpAny_pure (wpAny_pure ?_))
    refine wpAny_bind (wpAny_bind (wpAny_holding ?_))
    show wpAny _ _ (Builtin.SmallTypes.nextOf (.ref i2) >>= _) _ _ _
    refine wpAny_bind (wpAny_nextOf_tuple_item (s := { s with heap := g2 }) ((h2.extBut sb1.extBut D.i2z).extBut sb2.extBut D.i12.symm) ((hl2.extBut sb1.extBut D.l2z).extBut sb2.extBut D.l2i1) hy fun g3 n2 sb3 => wpAny_pure (wpAny_pure (wpAny_pure ?_)))
    show wpAny _ _ (newTuple [x, y] >>= _) _ _ _
    refine wpAny_bind (wpAny_newTuple ?_)
    have sz : g3.objs.size = s.heap.objs.size := by rw [sb3.1, sb2.1, sb1.1]
    have k3 : ∀ c o, c ≠ z → c ≠ i1 → c ≠ i2 → s.heap.get? c = some o → g3.get? c = some o := fun c o c1 c3 c4 e => sb3.extBut _ _ c4 (sb2.extBut _ _ c3 (sb1.extBut _ _ c1 e))
    obtain ⟨p1, f1, hp1, z1⟩ := hz1
    have z3 := sb3.extBut _ _ D.i2z.symm (sb2.extBut _ _ D.i1z.symm z1)
    have hp : IsPair (g3.push { cls := .type "tuple", data := .seq #[x, y] }) g3.objs.size x y := Heap.get?_push_size _ rfl
    have s4 : (g3.push { cls := .type "tuple", data := .seq #[x, y] }).objs.size = g3.objs.size + 1 := Heap.size_push ..
    refine wpAny_pure ⟨_, rfl, ?_⟩
    show Q (.ref g3.objs.size) _
    rw [sz] at hp s4 ⊢
    exact q _ ⟨p1, f1, hp1, Heap.get?_push_of_some _ z3⟩ ⟨_, _, Heap.get?_push_of_some _ (k3 _ _ D.TOz D.TOi1 D.TOi2 hTO)⟩ ((n1.extBut sb3.extBut D.i12).at fun o e => Heap.get?_push_of_some _ e) (n2.at fun o e => Heap.get?_push_of_some _ e) hp s4
      fun c o c1 _ c3 c4 e => Heap.get?_push_of_some _ (k3 c o c1 c3 c4 e)
/-- no further pair -/
theorem end1 {z TI TO i1 i2 l1 l2 : Addr} {k1 k2 : Nat} {xs ys : Array Value} {a b : Value} {Q : Fin → Shared → Prop} (hh : A.handled = none) (D : ZipApart z TI TO i1 i2 l1 l2)
    (hz : At s.heap z TI TO) (hTI : IsPair s.heap TI (.ref i1) (.ref i2)) (hTO : IsPair s.heap TO a b) (h1 : s.heap.IsTupleIter i1 l1 k1) (h2 : s.heap.IsTupleIter i2 l2 k2)
    (hl1 : s.heap.IsTuple l1 xs) (hl2 : s.heap.IsTuple l2 ys) (hend : xs[k1]? = none ∨ ys[k2]? = none)
    (qE : ∀ h' e, (∀ c o, c ≠ z → c ≠ TO → c ≠ i1 → c ≠ i2 → s.heap.get? c = some o → h'.get? c = some o) → (∃ o, h'.get? e = some o ∧ o.cls = .type "StopIteration") → E (.ref e) { s with heap := h' }) :
    wpAny (model prog w) A (Builtin.«zip.__next__» ⟨[.ref z], []⟩) Q E s := by
  obtain ⟨o1, f, ho, hzz⟩ := id hz
  show wpAny _ _ (field (.ref z) 2 >>= _) _ _ _
  refine wpAny_bind (wpAny_field hzz rfl (x := .bool false) rfl ?_)
  show wpAny _ _ (field (.ref z) 3 >>= _) _ _ _
  refine wpAny_bind (wpAny_field hzz rfl (x := .ref TI) rfl ?_)
  refine wpAny_bind (wpAny_seqItems hTI rfl ?_)
  show wpAny _ _ (Builtin.SmallTypes.ownedTupleIsFree (.ref z) >>= _) _ _ _
  refine wpAny_bind (isFree hz ?_ fun g1 hz1 sb1 => ?_)
  · simp only [if_true]
    refine wpAny_bind (wpAny_rule (wpAny_bind (wpAny_field hzz rfl (x := .ref TO) rfl (wpAny_bind (wpAny_setField_rec hzz (by simp) fun g1 hz1 sb1 => ?_)))))
    refine wpAny_bind ?_
    simp only [List.zipIdx_cons, List.zipIdx_nil, List.forIn_cons, List.forIn_nil]
    refine wpAny_bind (wpAny_bind (wpAny_onRaise ?_))
    show wpAny _ _ (Builtin.SmallTypes.nextOf (.ref i1) >>= _) _ _ _
    cases hx : xs[k1]? with
    | none =>
      refine wpAny_bind (wpAny_nextOf_tuple_end hh (h1.extBut sb1.extBut D.i1z) (hl1.extBut sb1.extBut D.l1z) hx fun g2 e sb2 he => ?_)
      obtain ⟨oe, hoe, hce⟩ := he
      have z2 := sb2 _ _ D.i1z.symm hz1
      have ez : e ≠ z := fun x => by
        subst x
        rw [z2] at hoe
        cases hoe
        exact absurd (Value.type.inj hce) (by decide)
      exact wpAny_setField_rec z2 (by simp) fun g3 _ sb3 => qE g3 e (fun c o c1 _ c3 _ x => sb3.extBut _ _ c1 (sb2 _ _ c3 (sb1.extBut _ _ c1 x))) ⟨oe, sb3.extBut _ _ ez hoe, hce⟩
    | some x =>
      have hy : ys[k2]? = none := by
        rcases hend with h | h
        · rw [hx] at h
          cases h
        · exact h
      refine wpAny_bind (wpAny_nextOf_tuple_item (h1.extBut sb1.extBut D.i1z) (hl1.extBut sb1.extBut D.l1z) hx fun g2 n1 sb2 => wpAny_pure ?_)
      have t2 : IsPair g2 TO a b := sb2.extBut _ _ D.TOi1 (sb1.extBut _ _ D.TOz hTO)
      refine wpAny_bind (wpAny_seqItems t2 rfl (wpAny_bind (wpAny_updateSeq_pair t2 fun g3 t3 sb3 => wpAny_bind (wpAny_letGo (wpAny_pure ?_)))))
      refine wpAny_bind (wpAny_bind (wpAny_onRaise ?_))
      show wpAny _ _ (Builtin.SmallTypes.nextOf (.ref i2) >>= _) _ _ _
      refine wpAny_bind (wpAny_nextOf_tuple_end hh (((h2.extBut sb1.extBut D.i2z).extBut sb2.extBut D.i12.symm).extBut sb3.extBut D.TOi2.symm) (((hl2.extBut sb1.extBut D.l2z).extBut sb2.extBut D.l2i1).extBut sb3.extBut D.l2TO) hy fun g4 e sb4 he => ?_)
      obtain ⟨oe, hoe, hce⟩ := he
      have z4 := sb4 _ _ D.i2z.symm (sb3.extBut _ _ D.TOz.symm (sb2.extBut _ _ D.i1z.symm hz1))
      have ez : e ≠ z := fun x => by
        subst x
        rw [z4] at hoe
        cases hoe
        exact absurd (Value.type.inj hce) (by decide)
      exact wpAny_setField_rec z4 (by simp) fun g5 _ sb5 => qE g5 e (fun c o c1 c2 c3 c4 x => sb5.extBut _ _ c1 (sb4 _ _ c4 (sb3.extBut _ _ c2 (sb2.extBut _ _ c3 (sb1.extBut _ _ c1 x))))) ⟨oe, sb5.extBut _ _ ez hoe, hce⟩
  · simp only [Bool.false_eq_true, if_false]
    refine wpAny_bind ?_
    rw [← Array.forIn_toList]
    simp only [List.forIn_cons, List.forIn_nil]
    refine wpAny_bind (wpAny_bind (wpAny_holding ?_))
    show wpAny _ _ (Builtin.SmallTypes.nextOf (.ref i1) >>= _) _ _ _
    cases hx : xs[k1]? with
    | none => exact wpAny_bind (wpAny_nextOf_tuple_end (s := { s with heap := g1 }) hh (h1.extBut sb1.extBut D.i1z) (hl1.extBut sb1.extBut D.l1z) hx fun g2 e sb2 he => qE g2 e (fun c o c1 _ c3 _ x => sb2 _ _ c3 (sb1.extBut _ _ c1 x)) he)
    | some x =>
      have hy : ys[k2]? = none := by
        rcases hend with h | h
        · rw [hx] at h
          cases h
        · exact h
      refine wpAny_bind (wpAny_nextOf_tuple_item (s := { s with heap := g1 }) (h1.extBut sb1.extBut D.i1z) (hl1.extBut sb1.extBut D.l1z) hx fun g2 n1 sb2 => wpAny_pure (wpAny_pure ?_))
      refine wpAny_bind (wpAny_bind (wpAny_holding ?_))
      show wpAny _ _ (Builtin.SmallTypes.nextOf (.ref i2) >>= _) _ _ _
      exact wpAny_bind (wpAny_nextOf_tuple_end (s := { s with heap := g2 }) hh ((h2.extBut sb1.extBut D.i2z).extBut sb2.extBut D.i12.symm) ((hl2.extBut sb1.extBut D.l2z).extBut sb2.extBut D.l2i1) hy
        fun g3 e sb3 he => qE g3 e (fun c o c1 _ c3 c4 x => sb3 _ _ c4 (sb2.extBut _ _ c3 (sb1.extBut _ _ c1 x))) he)
theorem nextP {z TI TO i1 i2 l1 l2 : Addr} {k1 k2 : Nat} {xs ys : Array Value} {x y a b : Value} {Q : Option Value → Shared → Prop} (D : ZipApart z TI TO i1 i2 l1 l2)
    (hz : At s.heap z TI TO) (hTI : IsPair s.heap TI (.ref i1) (.ref i2)) (hTO : IsPair s.heap TO a b) (h1 : s.heap.IsTupleIter i1 l1 k1) (h2 : s.heap.IsTupleIter i2 l2 k2)
    (hl1 : s.heap.IsTuple l1 xs) (hl2 : s.heap.IsTuple l2 ys) (hx : xs[k1]? = some x) (hy : ys[k2]? = some y)
    (q : ∀ h', At h' z TI TO → (∃ a b, IsPair h' TO a b) → h'.IsTupleIter i1 l1 (k1 + 1) → h'.IsTupleIter i2 l2 (k2 + 1) → IsPair h' s.heap.objs.size x y → h'.objs.size = s.heap.objs.size + 1 →
      (∀ c o, c ≠ z → c ≠ TO → c ≠ i1 → c ≠ i2 → s.heap.get? c = some o → h'.get? c = some o) → Q (some (.ref s.heap.objs.size)) { s with heap := h' }) :
    wpAny (model prog w) A (pyNext (.ref z)) Q E s := by
  have ty : s.TypeIs (.ref z) "zip" := by
    obtain ⟨_, _, _, e⟩ := hz
    exact ⟨_, e, rfl⟩
  unfold pyNext
  exact wpAny_bind (wpAny_attempt (wpAny_callSpecial?_slot (name := Str.ofString "__next__") ty F.slot_zip_next (wpAny_call_entry F.slot_zip_next ty F.entry_zip_next
    (next1 D hz hTI hTO h1 h2 hl1 hl2 hx hy fun h' a1 a2 a3 a4 a5 a6 a7 => wpAny_pure (q h' a1 a2 a3 a4 a5 a6 a7)) (F.args_zip_next_1 _))))
theorem endP {z TI TO i1 i2 l1 l2 : Addr} {k1 k2 : Nat} {xs ys : Array Value} {a b : Value} {Q : Option Value → Shared → Prop} (hh : A.handled = none) (D : ZipApart z TI TO i1 i2 l1 l2)
    (hz : At s.heap z TI TO) (hTI : IsPair s.heap TI (.ref i1) (.ref i2)) (hTO : IsPair s.heap TO a b) (h1 : s.heap.IsTupleIter i1 l1 k1) (h2 : s.heap.IsTupleIter i2 l2 k2)
    (hl1 : s.heap.IsTuple l1 xs) (hl2 : s.heap.IsTuple l2 ys) (hend : xs[k1]? = none ∨ ys[k2]? = none)
    (q : ∀ h', (∀ c o, c ≠ z → c ≠ TO → c ≠ i1 → c ≠ i2 → s.heap.get? c = some o → h'.get? c = some o) → Q none { s with heap := h' }) : wpAny (model prog w) A (pyNext (.ref z)) Q E s := by
  have ty : s.TypeIs (.ref z) "zip" := by
    obtain ⟨_, _, _, e⟩ := hz
    exact ⟨_, e, rfl⟩
  unfold pyNext
  refine wpAny_bind (wpAny_attempt (wpAny_callSpecial?_slot (name := Str.ofString "__next__") ty F.slot_zip_next (wpAny_call_entry F.slot_zip_next ty F.entry_zip_next
    (end1 hh D hz hTI hTO h1 h2 hl1 hl2 hend fun h' e hk he => ?_) (F.args_zip_next_1 _))))
  obtain ⟨o, ho, hc⟩ := he
  exact wpAny_bind (wpAny_isInstance (T := "StopIteration") (b := true) ⟨o, ho, hc⟩ isSubtype_stop (wpAny_pure (q _ hk)))
end
theorem iterZ {prog : Program} {w : World} {A : Around} {E : Value → Shared → Prop} {s : Shared} {z TI TO : Addr} {o1 : Value} {f : Bool} {Q : Value → Shared → Prop}
    (hz : s.heap.get? z = some { cls := .type "zip", dict := none, data := .fields #[o1, .bool f, .bool false, .ref TI, .ref TO], slots := #[] }) (h : Q (.ref z) s) : wpAny (model prog w) A (pyIter (.ref z)) Q E s := by
  have ty : s.TypeIs (.ref z) "zip" := ⟨_, hz, rfl⟩
  refine wpAny_pyIter_slot ty F.slot_zip_iter (wpAny_call_entry F.slot_zip_iter ty F.entry_zip_iter ?_ (F.args_zip_iter_1 _))
  exact wpAny_pure ⟨_, rfl, "zip", _, ty, F.slot_zip_next.lookup, h⟩
/-- the turns, each pair kept whole by a name -/
theorem turnN {P : Program} {w : World} {K : PySem.W.Frag} {n : Str} {npos : Pos} {a b z TI TO i1 i2 : Addr} (D : ZipApart z TI TO i1 i2 a b) :
    Turn P w K (.Name n npos) (RZ.ItzT K a b) [z, TI, TO, i1, i2] z (fun i h => At h z TI TO ∧ IsPair h TI (.ref i1) (.ref i2) ∧ (∃ x y, IsPair h TO x y) ∧ h.IsTupleIter i1 a i ∧ h.IsTupleIter i2 b i) where
  mem := by simp
  obj := by
    intro i h st c hc
    obtain ⟨⟨_, _, _, hz⟩, hTI, ⟨x, y, hTO⟩, ⟨o1, e1, _, d1⟩, ⟨o2, e2, _, d2⟩⟩ := st
    have z : c = z ∨ c = TI ∨ c = TO ∨ c = i1 ∨ c = i2 := by simpa using hc
    rcases z with q | q | q | q | q <;> subst q
    · exact ⟨_, hz, fun v q => nomatch q⟩
    · exact ⟨_, hTI, fun v q => nomatch q⟩
    · exact ⟨_, hTO, fun v q => nomatch q⟩
    · exact ⟨o1, e1, fun v q => by rw [d1] at q; cases q⟩
    · exact ⟨o2, e2, fun v q => by rw [d2] at q; cases q⟩
  keep := by
    intro i h h' st k
    obtain ⟨⟨o1, f, ho, hz⟩, hTI, ⟨x, y, hTO⟩, h1, h2⟩ := st
    exact ⟨⟨o1, f, ho, k z (by simp) _ hz⟩, k TI (by simp) _ hTI, ⟨x, y, k TO (by simp) _ hTO⟩, h1.at fun o q => k i1 (by simp) o q, h2.at fun o q => k i2 (by simp) o q⟩
  item := by
    intro X hP hw hK hc i pins s σ H E I hf st hg
    subst hP hw hK
    obtain ⟨hz, hTI, ⟨x0, y0, hTO⟩, h1, h2⟩ := st
    obtain ⟨xs, ys, x, y, hqx, hqy, hx, hy⟩ := hg
    obtain ⟨its, rv, p, _⟩ := I.tuple hqx
    obtain ⟨its2, rv2, p2, _⟩ := I.tuple hqy
    obtain ⟨u, hu, ru⟩ := rv.get hx
    obtain ⟨u2, hu2, ru2⟩ := rv2.get hy
    have zl : z < s.heap.objs.size := by
      obtain ⟨_, _, _, e⟩ := hz
      exact Heap.lt_size e
    refine nextP D hz hTI hTO h1 h2 p p2 (x := u) (y := u2) (by simpa using hu) (by simpa using hu2) fun h' z' TO' h1' h2' hT hsz hk => ?_
    have new : ObjOk X.prog X.w (upd H s.heap.objs.size (.tup [x, y])) h' s.heap.objs.size (.tup [x, y]) := ⟨(by decide : 2 ≤ sizeLine), [u, u2], .cons ru (.cons ru2 .nil), ⟨_, hT, rfl, _, rfl⟩⟩
    have I1 : Inv X pins σ (upd H s.heap.objs.size (.tup [x, y])) { s with heap := h' } :=
      I.turnedNew (t' := s.toks) (ch := [z, TI, TO, i1, i2]) (fun c o hb q => hk c o (fun q' => hb (by simp [q'])) (fun q' => hb (by simp [q'])) (fun q' => hb (by simp [q'])) (fun q' => hb (by simp [q'])) q) hf (Nat.le_refl _) new
    refine ⟨_, rfl, ?_⟩
    refine wpAny_pure ⟨.ref s.heap.objs.size, _, I1, rfl, ⟨_, x, y, rfl, I.hok.fresh (Nat.le_refl _), rfl, fun l hl => by rw [I.tuple_inj hl hqx]; exact hx, fun l hl => by rw [I.tuple_inj hl hqy]; exact hy⟩, ⟨z', hk _ _ D.TIz D.TITO D.TIi1 D.TIi2 hTI, TO', h1', h2'⟩, fun c hcm => ?_⟩
    have hlt : c < s.heap.objs.size := by
      have e : c = z ∨ c = TI ∨ c = TO ∨ c = i1 ∨ c = i2 := by simpa using hcm
      rcases e with q | q | q | q | q <;> rw [q]
      · exact zl
      · exact Heap.lt_size hTI
      · exact Heap.lt_size hTO
      · obtain ⟨_, e1, _⟩ := h1
        exact Heap.lt_size e1
      · obtain ⟨_, e2, _⟩ := h2
        exact Heap.lt_size e2
    rw [upd_ne (Nat.ne_of_lt hlt)]
    exact (hf c hcm).1
  done := by
    intro X hP hw hK hc i pins s σ H E I hf st hg
    subst hP hw hK
    obtain ⟨hz, hTI, ⟨x0, y0, hTO⟩, h1, h2⟩ := st
    obtain ⟨xs, ys, hqx, hqy, hend⟩ := hg
    obtain ⟨its, rv, p, _⟩ := I.tuple hqx
    obtain ⟨its2, rv2, p2, _⟩ := I.tuple hqy
    have e1 := rv.length
    have e2 := rv2.length
    have he : its.toArray[i]? = none ∨ its2.toArray[i]? = none := by
      rcases hend with q | q
      · exact .inl (by simp; omega)
      · exact .inr (by simp; omega)
    exact endP (I.ok.hd hc) D hz hTI hTO h1 h2 p p2 he fun h' hk => ⟨rfl, I.turnedL (t' := s.toks) (ch := [z, TI, TO, i1, i2]) (fun c o hb q =>
      hk c o (fun q' => hb (by simp [q'])) (fun q' => hb (by simp [q'])) (fun q' => hb (by simp [q'])) (fun q' => hb (by simp [q'])) q) hf⟩
  self := by
    intro A i s Q E st h
    obtain ⟨⟨o1, f, ho, hz⟩, _⟩ := st
    exact iterZ hz h
def iZipN (K : PySem.W.Frag) (ta : TA) : TI := fun σ H R => ta σ H fun vs H1 => ∃ a b xs ys, vs = [.ref a, .ref b] ∧ SqT K H1 a xs ∧ SqT K H1 b ys ∧ R (RZ.ItzT K a b) H1
theorem pi_zipN {X : Cx} {e e2 : Expr} {ta : TA} {p pos npos : Pos} {n : Str} (hg : Gl X "zip") (hm : X.mg "zip" = none) (ha : PA X [e, e2] ta)
    (hs : starEach [e, e2] X.env = (false, eval e X.env) :: starEach [e2] X.env := by rfl) (hpl : (backTo pos (starEach [e2] X.env)).any (·.1) = false := by rfl) :
    PI X (.Name n npos) (.Call (.Name "zip" p) [e, e2] [] pos) (iZipN X.K ta) := by
  refine ⟨fun pins s σ H R I h => ?_⟩
  refine Call_ (ld_blt I hg hm PyProof.Rows.boot_zip (PyProof.Rows.callWith_type1 (thn (ha.run pos pins s σ H _ I h) fun us s1 ⟨vs, H1, I1, r1, q1⟩ => ?_) hs hpl))
  obtain ⟨a, b, xs, ys, rfl, hqx, hqy, q⟩ := q1
  obtain ⟨u1, u2, rfl, r, r'⟩ := vals2 r1
  cases r
  cases r'
  have fr : ∀ c, c ∈ [s1.heap.objs.size + 4, s1.heap.objs.size + 2, s1.heap.objs.size + 3, s1.heap.objs.size, s1.heap.objs.size + 1] → FpOk X pins H1 c := by
    intro c hcm
    have e : c = s1.heap.objs.size + 4 ∨ c = s1.heap.objs.size + 2 ∨ c = s1.heap.objs.size + 3 ∨ c = s1.heap.objs.size ∨ c = s1.heap.objs.size + 1 := by simpa using hcm
    have hle : s1.heap.objs.size ≤ c := by
      rcases e with z | z | z | z | z <;> rw [z]
      · exact Nat.le_add_right _ _
      · exact Nat.le_add_right _ _
      · exact Nat.le_add_right _ _
      · exact Nat.le_refl _
      · exact Nat.le_add_right _ _
    exact I1.fpOk hle (I1.hok.fresh hle)
  obtain ⟨its, rv, p1, _⟩ := I1.tuple hqx
  obtain ⟨its2, rv2, p2, _⟩ := I1.tuple hqy
  obtain ⟨o1, ho1, _⟩ := id p1
  obtain ⟨o2, ho2, _⟩ := id p2
  refine RZ.call_zipT (show s1.heap.IsTuple a its.toArray from p1) (show s1.heap.IsTuple b its2.toArray from p2) fun h' hz hTI hTO h1 h2 hsz hk => wpAny_pyIter_zip hz ?_
  have I2 : Inv X pins σ H1 { s1 with heap := h' } := I1.kept (t' := s1.toks) hk
  exact ⟨s1.heap.objs.size + 4, [s1.heap.objs.size + 4, s1.heap.objs.size + 2, s1.heap.objs.size + 3, s1.heap.objs.size, s1.heap.objs.size + 1], _, _, H1, rfl, I2, turnN (PySem.W.ktu_apart s1.heap.objs.size a b (Heap.lt_size ho1) (Heap.lt_size ho2)),
    ⟨⟨_, _, Or.inl rfl, hz⟩, hTI, ⟨_, _, hTO⟩, h1, h2⟩, fr, q⟩
theorem walkT {K : PySem.W.Frag} {a b : Addr} {xs ys : List V} (hl : xs.length = ys.length) : Walk (RZ.ItzT K a b) xs.length (fun H => SqT K H a xs ∧ SqT K H b ys) (YPair (fun i => xs[i]?) (fun i => ys[i]?)) := by
  refine ⟨fun i _ hi q => ?_, fun _ q => ⟨xs, ys, q.1, q.2, Or.inl (Nat.le_refl _)⟩, fun i H v H' _ q y => ?_⟩
  · have h2 : i < ys.length := by omega
    exact ⟨xs, ys, xs[i], ys[i], q.1, q.2, List.getElem?_eq_getElem hi, List.getElem?_eq_getElem h2⟩
  · obtain ⟨T, x, y, e1, e2, e3, e4, e5⟩ := y
    exact ⟨T, x, y, e1, e2, e3, e4 xs q.1, e5 ys q.2⟩
end ZpN
/-! sorted of a dict whose keys are pairs of ints: my own rule beside the layer's list(d) and sorted(xs) -/
namespace SoP
open PySem PySem.Spec PyProof.Rows L2
variable {X : Cx}
def rSortDP : List V → Hp → VK → Prop := fun xs H Q => ∃ (a : Addr) (kvs : List (List Key × V)), xs = [.ref a] ∧ Rd H a (.dT kvs) ∧ (∀ e ∈ kvs, ∃ i j : Int, e.1 = [.inl i, .inl j]) ∧
  ∀ (bs : List Addr) (kf : V → Int × Int) (ys : List V) (p : Addr), IsKeys H kvs bs → (∀ v ∈ bs.map V.ref, ∃ t, v = V.ref t ∧ H t = some (.tup [.int (kf v).1, .int (kf v).2])) → SrtO.Srtd (ltP kf) ys → SrtO.Stb (ltP kf) ys (bs.map V.ref) → H p = none → Q (.ref p) (upd H p (.lst ys))
def keyOf (H : Hp) (v : V) : Int × Int := match v with
  | .ref t => match H t with
    | some (.tup [.int i, .int j]) => (i, j)
    | _ => (0, 0)
  | _ => (0, 0)
theorem keyed {H : Hp} {t : Addr} {i j : Int} (h : H t = some (.tup [.int i, .int j])) : keyOf H (.ref t) = (i, j) := by
  show (match H t with
    | some (.tup [.int i, .int j]) => (i, j)
    | _ => (0, 0)) = _
  rw [h]
theorem all_keyed {H : Hp} : ∀ {kvs : List (List Key × V)} {bs : List Addr}, IsKeys H kvs bs → (∀ e ∈ kvs, ∃ i j : Int, e.1 = [.inl i, .inl j]) → ∀ v ∈ bs.map V.ref, ∃ t, v = V.ref t ∧ H t = some (.tup [.int (keyOf H v).1, .int (keyOf H v).2])
  | _, _, .nil, _, v, hv => absurd hv (by simp)
  | _, _, .cons (a := e) (b := b) hb r, hk, v, hv => by
    rcases List.mem_cons.mp hv with rfl | hv
    · obtain ⟨i, j, ek⟩ := hk e List.mem_cons_self
      rw [ek] at hb
      have hb' : H b = some (.tup [.int i, .int j]) := hb
      refine ⟨b, rfl, ?_⟩
      rw [keyed hb']
      exact hb'
    · exact all_keyed r (fun e he => hk e (List.mem_cons_of_mem _ he)) v hv
theorem call_sortDP (hc : X.calm = true) : CallR X (.builtin "sorted") rSortDP := by
  intro pins s σ H xs us Q I r h
  obtain ⟨a, kvs, rfl, hd, hks, q⟩ := h
  obtain ⟨u, rfl, rx⟩ := vals1 r
  cases rx
  obtain ⟨z, hs, ks, pr, o, es, ep, ho, hx, hdt, he, hn⟩ := (show ObjOk X.prog X.w H s.heap a (.dT kvs) from hd.ok I.hok)
  have l1 : es.size = ks.length := size_of_entries he
  have l2 : kvs.length = ks.length := Paired.length pr
  refine Calls.call_function_entry PyProof.Rows.kind_sorted PyProof.Rows.plain_sorted PyProof.Rows.entry_sorted (PyProof.Rows.args_sorted1 _) ?_
  unfold Builtin.«sorted»
  refine wpAny_bind (m := checkCount "sorted" 1 1 _) (wpAny_pure ?_)
  refine wpAny_bind (PySem.W.kdu_collect (A := X.A.in1) (kdl_raw hs hx hdt) (I.ok.hd hc) ho (by omega) fun h' tk acc hk hacc => ?_)
  have ea : acc.toList = ks.map fun x => Value.ref x.2.1 := by
    have hl : acc.toList.length = ks.length := by rw [Array.length_toList, hacc.1]; exact l1
    apply List.ext_getElem?
    intro j
    rw [List.getElem?_map]
    cases hj : acc.toList[j]? with
    | none =>
      have h1 := List.getElem?_eq_none_iff.mp hj
      rw [List.getElem?_eq_none (by omega)]
      all_goals rfl
    | some v =>
      obtain ⟨en, hen, hv⟩ := hacc.2 j v (by rw [← Array.getElem?_toList]; exact hj)
      have qe := entry_at he j
      rw [hen] at qe
      cases hb : ks[j]? with
      | none =>
        rw [hb] at qe
        exact nomatch (show some en = none from qe)
      | some b =>
        rw [hb] at qe
        have e2 : en = entryOfKey (tupleKind (mixKind X.prog X.w)) b := Option.some.inj qe
        rw [hv, e2]
        all_goals rfl
  have eb : acc.toList = (ks.map fun x => x.2.1).map Value.ref := by rw [ea, List.map_map]; all_goals rfl
  have hK : IsKeys H kvs (ks.map fun x => x.2.1) := isKeys_of pr
  have hkf := all_keyed hK hks
  have I1 : Inv X pins σ H { s with heap := h', toks := tk } := I.kept hk
  have hal : acc.toList.length = kvs.length := by rw [eb, List.length_map, List.length_map, l2]
  have hsz : acc.toList.length ≤ sizeLine := by rw [hal]; exact z
  have back : ∀ v ∈ acc.toList, ∃ t, v = Value.ref t ∧ V.ref t ∈ (ks.map fun x => x.2.1).map V.ref := fun v hv => by
    rw [eb] at hv
    obtain ⟨t, ht, rfl⟩ := List.mem_map.mp hv
    exact ⟨t, rfl, List.mem_map.mpr ⟨t, ht, rfl⟩⟩
  have hp : ∀ v ∈ acc.toList, Srt.IsPair h' v (keyOf H (backV v)).1 (keyOf H (backV v)).2 := fun v hv => by
    obtain ⟨t, rfl, hm⟩ := back v hv
    obtain ⟨t', e, ht⟩ := hkf _ hm
    cases e
    obtain ⟨_, its2, r2, o, ho, hc, n, hd⟩ := I1.hok _ _ ht
    obtain ⟨u1, u2, rfl, ri, rj⟩ := vals2 r2
    obtain ⟨t1, rfl⟩ := ri
    obtain ⟨t2, rfl⟩ := rj
    exact ⟨t, o, t1, t2, n, rfl, ho, hc, hd⟩
  refine wpAny_bind (wpAny_newList ?_ (by simpa using hsz))
  have hoL : (h'.push (seqObj "list" acc.toList.toArray 0)).get? h'.objs.size = some (seqObj "list" acc.toList.toArray 0) := Heap.get?_push_size _ rfl
  show wpAny _ _ _ _ _ { s with heap := h'.push (seqObj "list" acc.toList.toArray 0), toks := tk }
  refine wpAny_bind (wpAny_holding (wpAny_call_entry PyProof.Rows.slot_list_sort ⟨_, hoL, rfl⟩ PyProof.Rows.entry_list_sort
    (SrtO.list_sort_ord (s := { s with heap := h'.push (seqObj "list" acc.toList.toArray 0), toks := tk }) (SrtO.swo_lex fun u => keyOf H (backV u)) hoL hsz (fun h2 => ?_) fun out g1 g2 => ⟨_, rfl, ?_⟩) (PyProof.Rows.args_list_sort _)))
  · refine SrtO.pairs_sortableO (s := { s with heap := h'.push (seqObj "list" acc.toList.toArray 0), toks := tk }) (by omega) (fun v hm => (hp v hm).keeps fun b o e _ => Heap.get?_push_of_some _ e) fun o e => ?_
    have e' : some o = some (seqObj "list" acc.toList.toArray 0) := e.symm.trans hoL
    cases e'
    intro c
    exact absurd (Value.type.inj c) (by decide)
  have h3 : ∀ u ∈ out, ∃ a, u = Value.ref a := fun u hu => by
    obtain ⟨t, e, _⟩ := back u (g2.perm.mem_iff.mp hu)
    exact ⟨t, e⟩
  have ebk : (ks.map fun x => x.2.1).map V.ref = acc.toList.map backV := by
    rw [eb]
    simp only [List.map_map]
    exact List.map_congr_left fun _ _ => rfl
  have hb : SrtO.Stb (ltP (keyOf H)) (out.map backV) ((ks.map fun x => x.2.1).map V.ref) := by
    rw [ebk]
    exact SrtO.Stb.map (ltP_swo (keyOf H)) backV g2
  obtain ⟨e', he'⟩ := PyProof.Rows.sortedHeap_at (vs := acc.toList) (out := out.toArray) hoL
  have hlen : (out.map backV).length ≤ sizeLine := by
    rw [List.length_map, g2.len]
    exact hsz
  refine wpAny_pure ⟨_, rfl, .ref h'.objs.size, upd H h'.objs.size (.lst (out.map backV)), I1.laid (t' := tk) (fun b u e => ?_) (Nat.le_refl _)
    (show ObjOk X.prog X.w _ _ _ (.lst (out.map backV)) from ⟨hlen, out, e', vals_back h3, he'⟩), rfl, q _ _ _ _ hK hkf (SrtO.srtd_map g1) hb (I1.hok.fresh (Nat.le_refl _))⟩
  have hb : b < h'.objs.size := Heap.lt_size e
  rw [PyProof.Rows.sortedHeap_old (Nat.ne_of_lt hb) (by rw [size_push']; exact Nat.lt_succ_of_lt hb)]
  exact Heap.get?_push_of_some _ e
end SoP
namespace Lk
open PySem PySem.Spec PyProof.Rows L2
section
/-! x in xs, xs a list or a tuple of data; two rules for one comparison -/
variable {X : Cx}
def rInQ (K : PySem.W.Frag) : R2 := fun x y H Q => ∃ d ds, Dp K H x d ∧ Dp K H y (.tuple ds) ∧ SeqAt.shaped d = true ∧ SeqAt.shaped (.tuple ds) = true ∧ Q (.bl (ds.any fun z => PyData.eqv z d)) H
def rNotInQ (K : PySem.W.Frag) : R2 := fun x y H Q => ∃ d ds, Dp K H x d ∧ Dp K H y (.tuple ds) ∧ SeqAt.shaped d = true ∧ SeqAt.shaped (.tuple ds) = true ∧ Q (.bl (!ds.any fun z => PyData.eqv z d)) H
theorem op_inQ (hu : X.A.units + 65 < cLine) : OpR X (compareOp .In) (rInQ X.K) := by
  intro pins s σ H x y v u Q I rx ry h
  obtain ⟨d, ds, hd, he, sd, se, q⟩ := h
  obtain ⟨as, r1⟩ := Dp.reads I d x v hd rx
  obtain ⟨bs, r2⟩ := Dp.reads I (.tuple ds) y u he ry
  exact SeqAt.in_tuple_reads r2 r1 (SeqAt.canLay_of_shaped se) (SeqAt.canLay_of_shaped sd) (room_in_shaped sd hu) ⟨.bl _, H, I, rfl, q⟩
theorem op_notInQ (hu : X.A.units + 65 < cLine) : OpR X (compareOp .NotIn) (rNotInQ X.K) := by
  intro pins s σ H x y v u Q I rx ry h
  obtain ⟨d, ds, hd, he, sd, se, q⟩ := h
  obtain ⟨as, r1⟩ := Dp.reads I d x v hd rx
  obtain ⟨bs, r2⟩ := Dp.reads I (.tuple ds) y u he ry
  exact SeqAt.notIn_tuple_reads r2 r1 (SeqAt.canLay_of_shaped se) (SeqAt.canLay_of_shaped sd) (room_in_shaped sd hu) ⟨.bl _, H, I, rfl, q⟩
theorem pc_both {i o : Expr} {op : CmpOp} {t1 t2 : TE} (h1 : PC X op i o t1) (h2 : PC X op i o t2) : PC X op i o (fun σ H Q => t1 σ H Q ∨ t2 σ H Q) :=
  ⟨fun pins s σ H Q I h => h.elim (h1.run pins s σ H Q I) (h2.run pins s σ H Q I)⟩
end
section
/-! tuples stay -/
variable {K : PySem.W.Frag}
structure TT (K : PySem.W.Frag) (H H' : Hp) : Prop where
  d : ∀ b ys, H b = some (.tup ys) → H' b = some (.tup ys)
  t : ∀ b ys, SqT K H b ys → SqT K H' b ys
theorem TT.refl (H : Hp) : TT K H H := ⟨fun _ _ h => h, fun _ _ h => h⟩
theorem TT.trans {H H1 H2 : Hp} (x : TT K H H1) (y : TT K H1 H2) : TT K H H2 := ⟨fun b ys h => y.d b ys (x.d b ys h), fun b ys h => y.t b ys (x.t b ys h)⟩
theorem Tk.tt {H H' : Hp} (x : Tk H H') : TT K H H' := ⟨fun b ys h => x _ _ (fun _ z => nomatch z) h, fun _ _ h => x.t h⟩
theorem Same_tt {H H' : Hp} (x : Same H H') : TT K H H' := (Tk.of x).tt
theorem tt_upd {H : Hp} {p : Addr} {u o : HO} (h : H p = some u) (n1 : ∀ ys, HO.tup ys ≠ u) (n2 : ∀ o' v, HO.frz o' v ≠ u) : TT K H (upd H p o) where
  d := fun b ys q => by rw [upd_ne (ne_of q h (n1 _))]; exact q
  t := fun b ys q => by
    rcases q with (q | ⟨o', q⟩) | q
    · exact .inl (.inl (by rw [upd_ne (ne_of q h (n1 _))]; exact q))
    · exact .inl (.inr ⟨o', by rw [upd_ne (ne_of q h (n2 _ _))]; exact q⟩)
    · exact .inr q
theorem tt_dT {H : Hp} {p : Addr} {kvs : List (List Key × V)} {o : HO} (h : H p = some (.dT kvs)) : TT K H (upd H p o) := tt_upd h (fun _ z => nomatch z) (fun _ _ z => nomatch z)
theorem tt_dK {H : Hp} {p : Addr} {kvs : List (Key × V)} {o : HO} (h : H p = some (.dK kvs)) : TT K H (upd H p o) := tt_upd h (fun _ z => nomatch z) (fun _ _ z => nomatch z)
theorem tt_lst {H : Hp} {p : Addr} {xs : List V} {o : HO} (h : H p = some (.lst xs)) : TT K H (upd H p o) := tt_upd h (fun _ z => nomatch z) (fun _ _ z => nomatch z)
theorem tt_new {H : Hp} {p : Addr} {o : HO} (h : H p = none) : TT K H (upd H p o) := Same_tt (same_new h)
/-! items one by one -/
def PL {α : Type} (P : V → α → Prop) (vs : List V) (xs : List α) : Prop := vs.length = xs.length ∧ ∀ (i : Nat) v x, vs[i]? = some v → xs[i]? = some x → P v x
variable {α : Type} {P P' : V → α → Prop} {vs ws : List V} {xs ys : List α}
theorem PL.nil : PL P [] [] := ⟨rfl, fun _ _ _ h => nomatch h⟩
theorem PL.mono (h : PL P vs xs) (m : ∀ v x, P v x → P' v x) : PL P' vs xs := ⟨h.1, fun i v x a b => m v x (h.2 i v x a b)⟩
theorem PL.at (h : PL P vs xs) {i : Nat} {x : α} (hx : xs[i]? = some x) : ∃ v, vs[i]? = some v ∧ P v x := by
  have hi := (List.getElem?_eq_some_iff.mp hx).1
  have hi' : i < vs.length := by rw [h.1]; exact hi
  exact ⟨vs[i], List.getElem?_eq_getElem hi', h.2 i _ _ (List.getElem?_eq_getElem hi') hx⟩
theorem PL.at' (h : PL P vs xs) {i : Nat} {v : V} (hv : vs[i]? = some v) : ∃ x, xs[i]? = some x ∧ P v x := by
  have hi := (List.getElem?_eq_some_iff.mp hv).1
  have hi' : i < xs.length := by rw [← h.1]; exact hi
  exact ⟨xs[i], List.getElem?_eq_getElem hi', h.2 i _ _ hv (List.getElem?_eq_getElem hi')⟩
theorem PL.app (h : PL P vs xs) (k : PL P ws ys) : PL P (vs ++ ws) (xs ++ ys) := by
  refine ⟨by rw [List.length_append, List.length_append, h.1, k.1], fun i v x a b => ?_⟩
  by_cases hi : i < vs.length
  · rw [List.getElem?_append_left hi] at a
    rw [List.getElem?_append_left (by rw [← h.1]; exact hi)] at b
    exact h.2 i v x a b
  · rw [List.getElem?_append_right (by omega)] at a
    rw [List.getElem?_append_right (by rw [← h.1]; omega), ← h.1] at b
    exact k.2 _ v x a b
theorem PL.one {v : V} {x : α} (h : P v x) : PL P [v] [x] := ⟨rfl, fun i u y a b => by
  cases i with
  | zero =>
    cases a
    cases b
    exact h
  | succ i => exact nomatch (show ([] : List V)[i]? = some u from a)⟩
theorem PL.snoc {v : V} {x : α} (h : PL P vs xs) (k : P v x) : PL P (vs ++ [v]) (xs ++ [x]) := h.app (.one k)
theorem PL.take (h : PL P vs xs) (n : Nat) : PL P (vs.take n) (xs.take n) := by
  refine ⟨by rw [List.length_take, List.length_take, h.1], fun i v x a b => ?_⟩
  by_cases hi : i < n
  · rw [List.getElem?_take_of_lt hi] at a b
    exact h.2 i v x a b
  · rw [List.getElem?_take_eq_none (by omega)] at a
    cases a
/-! the data of books, things, ways -/
def wd (b : Bool) : Str := if b = true then "rule" else "move"
def RuleV (K : PySem.W.Frag) (H : Hp) (v : V) (r : Rl) : Prop := ∃ p q, v = .ref p ∧ SqT K H p [nv r.op, .ref q, nv r.kind, nv r.cost] ∧ IT K H q r.src
def MoveV (K : PySem.W.Frag) (H : Hp) (v : V) (m : Mv) : Prop := ∃ p, v = .ref p ∧ SqT K H p [nv m.src, nv m.kind, nv m.cost]
def WayV (K : PySem.W.Frag) (H : Hp) (v : V) (w : Wy) : Prop := ∃ p, v = .ref p ∧ SqT K H p [.str (wd w.1), nv w.2]
def ThV (H : Hp) (v : V) (t : Th) : Prop := ∃ p, v = .ref p ∧ H p = some (.tup [nv t.1, nv t.2])
theorem RuleV.tt {H H' : Hp} {v : V} {r : Rl} (x : TT K H H') (h : RuleV K H v r) : RuleV K H' v r := by
  obtain ⟨p, q, e, h1, h2⟩ := h
  exact ⟨p, q, e, x.t _ _ h1, x.t _ _ h2⟩
theorem MoveV.tt {H H' : Hp} {v : V} {r : Mv} (x : TT K H H') (h : MoveV K H v r) : MoveV K H' v r := by
  obtain ⟨p, e, h1⟩ := h
  exact ⟨p, e, x.t _ _ h1⟩
theorem WayV.tt {H H' : Hp} {v : V} {r : Wy} (x : TT K H H') (h : WayV K H v r) : WayV K H' v r := by
  obtain ⟨p, e, h1⟩ := h
  exact ⟨p, e, x.t _ _ h1⟩
theorem ThV.tt {H H' : Hp} {v : V} {r : Th} (x : TT K H H') (h : ThV H v r) : ThV H' v r := by
  obtain ⟨p, e, h1⟩ := h
  exact ⟨p, e, x.d _ _ h1⟩
def RulesT (K : PySem.W.Frag) (H : Hp) (p : Addr) (rs : List Rl) : Prop := ∃ vs, SqT K H p vs ∧ PL (RuleV K H) vs rs
def MovesT (K : PySem.W.Frag) (H : Hp) (p : Addr) (ms : List Mv) : Prop := ∃ vs, SqT K H p vs ∧ PL (MoveV K H) vs ms
def ThsT (K : PySem.W.Frag) (H : Hp) (p : Addr) (ts : List Th) : Prop := ∃ vs, SqT K H p vs ∧ PL (ThV H) vs ts
def WaysL (K : PySem.W.Frag) (H : Hp) (l : Addr) (ws : List Wy) : Prop := ∃ vs, H l = some (.lst vs) ∧ PL (WayV K H) vs ws
theorem RulesT.tt {H H' : Hp} {p : Addr} {rs : List Rl} (x : TT K H H') (h : RulesT K H p rs) : RulesT K H' p rs := by
  obtain ⟨vs, h1, h2⟩ := h
  exact ⟨vs, x.t _ _ h1, h2.mono fun _ _ q => q.tt x⟩
theorem MovesT.tt {H H' : Hp} {p : Addr} {rs : List Mv} (x : TT K H H') (h : MovesT K H p rs) : MovesT K H' p rs := by
  obtain ⟨vs, h1, h2⟩ := h
  exact ⟨vs, x.t _ _ h1, h2.mono fun _ _ q => q.tt x⟩
theorem ThsT.tt {H H' : Hp} {p : Addr} {rs : List Th} (x : TT K H H') (h : ThsT K H p rs) : ThsT K H' p rs := by
  obtain ⟨vs, h1, h2⟩ := h
  exact ⟨vs, x.t _ _ h1, h2.mono fun _ _ q => q.tt x⟩
theorem WaysL.tt {H H' : Hp} {l : Addr} {rs : List Wy} (x : TT K H H') (e : ∀ vs, H l = some (.lst vs) → H' l = some (.lst vs)) (h : WaysL K H l rs) : WaysL K H' l rs := by
  obtain ⟨vs, h1, h2⟩ := h
  exact ⟨vs, e _ h1, h2.mono fun _ _ q => q.tt x⟩
theorem WaysL.same {H H' : Hp} {l : Addr} {rs : List Wy} (x : Same H H') (h : WaysL K H l rs) : WaysL K H' l rs := h.tt (Same_tt x) fun _ q => x _ _ q
theorem RowV.tt {H H' : Hp} {v : V} {r : Row} (x : TT K H H') (h : RowV K H v r) : RowV K H' v r := by
  obtain ⟨p, q, e, h1, h2⟩ := h
  exact ⟨p, q, e, x.t _ _ h1, x.t _ _ h2⟩
theorem RowsT.tt {H H' : Hp} {p : Addr} {R : List Row} (x : TT K H H') (h : RowsT K H p R) : RowsT K H' p R := by
  obtain ⟨vs, h1, h2, h3⟩ := h
  exact ⟨vs, x.t _ _ h1, h2, fun i v e => (h3 i v e).tt x⟩
/-- a book at x -/
def BookV (K : PySem.W.Frag) (C : Addr) (H : Hp) (x : Addr) (B : Bk) : Prop := ∃ dx pa pr pm, H x = some (.ins C dx [("arities", .ref pa), ("kinds", nv B.nk), ("rules", .ref pr), ("moves", .ref pm)]) ∧ IT K H pa B.ar ∧ RulesT K H pr B.rs ∧ MovesT K H pm B.ms
/-- its parts, in a tuple -/
def PartsV (K : PySem.W.Frag) (H : Hp) (p : Addr) (B : Bk) : Prop := ∃ pa pr pm, SqT K H p [.ref pa, nv B.nk, .ref pr, .ref pm] ∧ IT K H pa B.ar ∧ RulesT K H pr B.rs ∧ MovesT K H pm B.ms
theorem BookV.tk {C : Addr} {H H' : Hp} {x : Addr} {B : Bk} (s : Tk H H') (h : BookV K C H x B) : BookV K C H' x B := by
  obtain ⟨dx, pa, pr, pm, h1, h2, h3, h4⟩ := h
  exact ⟨dx, pa, pr, pm, s _ _ (fun _ z => nomatch z) h1, s.t h2, h3.tt s.tt, h4.tt s.tt⟩
theorem PartsV.tt {H H' : Hp} {p : Addr} {B : Bk} (x : TT K H H') (h : PartsV K H p B) : PartsV K H' p B := by
  obtain ⟨pa, pr, pm, h1, h2, h3, h4⟩ := h
  exact ⟨pa, pr, pm, x.t _ _ h1, x.t _ _ h2, h3.tt x, h4.tt x⟩
end
section
/-! as data of any depth -/
variable {K : PySem.W.Frag}
def dTh (t : Th) : PyData := .tuple [dN t.1, dN t.2]
def dWy (w : Wy) : PyData := .tuple [.str (wd w.1), dN w.2]
theorem pl_dp {α : Type} {P : V → α → Prop} {f : α → PyData} {H : Hp} {vs : List V} {xs : List α} (h : PL P vs xs) (m : ∀ v x, P v x → Dp K H v (f x)) : DpAll K H vs (xs.map f) :=
  dpAll_of (by rw [List.length_map, h.1]) fun i v d a b => by
    rw [List.getElem?_map] at b
    obtain ⟨x, hx, rfl⟩ := Option.map_eq_some_iff.mp b
    exact m v x (h.2 i v x a hx)
theorem th_dp {H : Hp} {v : V} {t : Th} (h : ThV H v t) : Dp K H v (dTh t) := by
  obtain ⟨p, rfl, h1⟩ := h
  exact .tup (.inl (.inl h1)) (.cons (.int _) (.cons (.int _) .nil))
theorem way_dp {H : Hp} {v : V} {t : Wy} (h : WayV K H v t) : Dp K H v (dWy t) := by
  obtain ⟨p, rfl, h1⟩ := h
  exact .tup h1 (.cons (.str _) (.cons (.int _) .nil))
theorem ths_dp {H : Hp} {p : Addr} {ts : List Th} (h : ThsT K H p ts) : Dp K H (.ref p) (.tuple (ts.map dTh)) := by
  obtain ⟨vs, h1, h2⟩ := h
  exact .tup h1 (pl_dp h2 fun _ _ q => th_dp q)
theorem ways_dp {H : Hp} {p : Addr} {ts : List Wy} (h : WaysL K H p ts) : Dp K H (.ref p) (.list (ts.map dWy)) := by
  obtain ⟨vs, h1, h2⟩ := h
  exact .lst (SqL.of h1) (pl_dp h2 fun _ _ q => way_dp q)
theorem okd_ths {ts : List Th} (h : ts.length ≤ 100000) : okd 4 (.tuple (ts.map dTh)) := by
  refine ⟨by rw [List.length_map]; exact h, fun e he => ?_⟩
  obtain ⟨t, _, rfl⟩ := List.mem_map.mp he
  refine ⟨by show 2 ≤ 100000; decide, fun e he => ?_⟩
  rcases List.mem_cons.mp he with rfl | he
  · exact trivial
  · rw [List.mem_singleton.mp he]
    exact trivial
theorem okd_ways {ts : List Wy} (h : ts.length ≤ 100000) : okd 4 (.list (ts.map dWy)) := by
  refine ⟨by rw [List.length_map]; exact h, fun e he => ?_⟩
  obtain ⟨t, _, rfl⟩ := List.mem_map.mp he
  refine ⟨by show 2 ≤ 100000; decide, fun e he => ?_⟩
  rcases List.mem_cons.mp he with rfl | he
  · exact trivial
  · rw [List.mem_singleton.mp he]
    exact trivial
theorem ths_lay : ∀ ts : List Th, PyData.canLayAll0 (ts.map dTh) = true
  | [] => rfl
  | t :: r => by
    show ((true && (true && true)) && PyData.canLayAll0 (r.map dTh)) = true
    rw [ths_lay r]
    rfl
theorem wd_lay (b : Bool) : (PyData.str (wd b)).canLay0 = true := by
  cases b
  · exact (by decide +kernel : (PyData.str "move").canLay0 = true)
  · exact (by decide +kernel : (PyData.str "rule").canLay0 = true)
theorem wy_lay (b : Bool) (k : Nat) : (dWy (b, k)).canLay0 = true := by
  show ((PyData.str (wd b)).canLay0 && (true && true)) = true
  rw [wd_lay b]
  rfl
theorem ways_lay : ∀ ts : List Wy, PyData.canLayAll0 (ts.map dWy) = true
  | [] => rfl
  | (b, k) :: r => by
    have e : (dWy (b, k)).canLay0 = true := wy_lay b k
    show ((dWy (b, k)).canLay0 && PyData.canLayAll0 (r.map dWy)) = true
    rw [ways_lay r, e]
    rfl
theorem ths_depth : ∀ R : List Th, PyData.depthAll (R.map dTh) ≤ 2
  | [] => by decide
  | r :: R => by
    have h1 := ths_depth R
    simp only [List.map_cons, PyData.depthAll, dTh, PyData.depth, dN]
    omega
theorem ways_depth : ∀ R : List Wy, PyData.depthAll (R.map dWy) ≤ 2
  | [] => by decide
  | r :: R => by
    have h1 := ways_depth R
    simp only [List.map_cons, PyData.depthAll, dWy, PyData.depth, dN]
    omega
theorem sh_ths (R : List Th) : SeqAt.shaped (.tuple (R.map dTh)) = true := by
  unfold SeqAt.shaped
  have h1 := ths_lay R
  have h2 := ths_depth R
  rw [Bool.and_eq_true, decide_eq_true_eq]
  exact ⟨h1, by show PyData.depthAll (R.map dTh) + 1 ≤ 64; omega⟩
theorem sh_thsL (R : List Th) : SeqAt.shaped (.list (R.map dTh)) = true := by
  unfold SeqAt.shaped
  have h1 := ths_lay R
  have h2 := ths_depth R
  rw [Bool.and_eq_true, decide_eq_true_eq]
  exact ⟨h1, by show PyData.depthAll (R.map dTh) + 1 ≤ 64; omega⟩
theorem sh_ways (R : List Wy) : SeqAt.shaped (.list (R.map dWy)) = true := by
  unfold SeqAt.shaped
  have h1 := ways_lay R
  have h2 := ways_depth R
  rw [Bool.and_eq_true, decide_eq_true_eq]
  exact ⟨h1, by show PyData.depthAll (R.map dWy) + 1 ≤ 64; omega⟩
theorem sh_th (t : Th) : SeqAt.shaped (dTh t) = true := by
  unfold SeqAt.shaped
  rw [Bool.and_eq_true, decide_eq_true_eq]
  refine ⟨rfl, ?_⟩
  simp only [dTh, PyData.depth, PyData.depthAll, dN]
  omega
theorem sh_wy (t : Wy) : SeqAt.shaped (dWy t) = true := by
  unfold SeqAt.shaped
  rw [Bool.and_eq_true, decide_eq_true_eq]
  refine ⟨wy_lay t.1 t.2, ?_⟩
  simp only [dWy, PyData.depth, PyData.depthAll, dN]
  omega
theorem int_beq (x y : Int) : (x == y) = decide (x = y) := rfl
theorem eqv_th (t u : Th) : PyData.eqv (dTh t) (dTh u) = decide (t = u) := by
  obtain ⟨a, b⟩ := t
  obtain ⟨c, d⟩ := u
  have e : PyData.eqv (dTh (a, b)) (dTh (c, d)) = (decide ((a : Int) = c) && (decide ((b : Int) = d) && true)) := by
    simp only [PyData.eqv, PyData.eqvAll, dTh, dN, int_beq, Bool.and_true]
  rw [e, Bool.and_true, ← Bool.decide_and]
  refine decide_eq_decide.mpr ?_
  rw [Prod.mk.injEq]
  omega
theorem any_th (u : Th) : ∀ ts : List Th, ((ts.map dTh).any fun z => PyData.eqv z (dTh u)) = decide (u ∈ ts)
  | [] => rfl
  | t :: ts => by
    rw [List.map_cons, List.any_cons, eqv_th, any_th u ts, ← Bool.decide_or]
    refine decide_eq_decide.mpr ?_
    rw [List.mem_cons]
    exact or_congr eq_comm Iff.rfl
theorem str_beq (x y : Str) : (x == y) = decide (x = y) := by
  by_cases h : x = y
  · rw [decide_eq_true h]
    exact beq_iff_eq.mpr h
  · rw [decide_eq_false h]
    exact beq_eq_false_iff_ne.mpr h
theorem wd_inj {b c : Bool} (h : wd b = wd c) : b = c := by
  cases b <;> cases c <;> first | rfl | exact absurd h (by decide)
theorem eqv_wy (t u : Wy) : PyData.eqv (dWy t) (dWy u) = decide (t = u) := by
  obtain ⟨a, b⟩ := t
  obtain ⟨c, d⟩ := u
  have e : PyData.eqv (dWy (a, b)) (dWy (c, d)) = (decide (wd a = wd c) && (decide ((b : Int) = d) && true)) := by
    simp only [PyData.eqv, PyData.eqvAll, dWy, dN, int_beq, Bool.and_true, str_beq]
  rw [e, Bool.and_true, ← Bool.decide_and]
  refine decide_eq_decide.mpr ?_
  rw [Prod.mk.injEq]
  constructor
  · rintro ⟨h1, h2⟩
    exact ⟨wd_inj h1, by omega⟩
  · rintro ⟨rfl, rfl⟩
    exact ⟨rfl, rfl⟩
theorem any_wy (u : Wy) : ∀ ts : List Wy, ((ts.map dWy).any fun z => PyData.eqv z (dWy u)) = decide (u ∈ ts)
  | [] => rfl
  | t :: ts => by
    rw [List.map_cons, List.any_cons, eqv_wy, any_wy u ts, ← Bool.decide_or]
    refine decide_eq_decide.mpr ?_
    rw [List.mem_cons]
    exact or_congr eq_comm Iff.rfl
end
section
/-! dicts whose keys are things -/
def kt (t : Th) : List Key := [.inl (t.1 : Int), .inl (t.2 : Int)]
theorem kt_inj {x y : Th} (h : kt x = kt y) : x = y := by
  unfold kt at h
  have h1 := (List.cons.inj h).1
  have h2 := (List.cons.inj (List.cons.inj h).2).1
  have h1' := Sum.inl.inj h1
  have h2' := Sum.inl.inj h2
  exact Prod.ext (by omega) (by omega)
theorem kt_v (t : Th) : (kt t).map kV = [nv t.1, nv t.2] := rfl
def tk (F : List Th) : List (List Key × V) := F.map fun t => (kt t, .bl true)
theorem tk_len (F : List Th) : (tk F).length = F.length := List.length_map _
theorem tk_val (x : Th) : ∀ F : List Th, valV (tk F) (kt x) = if x ∈ F then some (.bl true) else none
  | [] => rfl
  | y :: F => by
    by_cases e : y = x
    · subst e
      rw [if_pos List.mem_cons_self]
      exact valV_pos rfl
    · rw [show valV (tk (y :: F)) (kt x) = valV (tk F) (kt x) from valV_neg fun q => e (kt_inj q), tk_val x F]
      by_cases m : x ∈ F
      · rw [if_pos m, if_pos (List.mem_cons_of_mem _ m)]
      · rw [if_neg m, if_neg (by rw [List.mem_cons]; exact fun q => q.elim (fun q => e q.symm) m)]
theorem tk_some (x : Th) (F : List Th) : (valV (tk F) (kt x)).isSome = decide (x ∈ F) := by
  rw [tk_val]
  by_cases m : x ∈ F
  · rw [if_pos m, decide_eq_true m]
    rfl
  · rw [if_neg m, decide_eq_false m]
    rfl
theorem tk_put (x : Th) (F : List Th) : putK (tk F) (kt x) (.bl true) = tk (insT F x) := by
  unfold insT
  by_cases m : x ∈ F
  · rw [if_pos m]
    have h : ((tk F).any fun kv => decide (kv.1 = kt x)) = true := by
      rw [valV_any, tk_some, decide_eq_true m]
    unfold putK
    rw [if_pos h]
    unfold tk
    rw [List.map_map]
    refine List.map_congr_left fun y _ => ?_
    show (if kt y = kt x then (kt y, V.bl true) else (kt y, V.bl true)) = _
    split <;> rfl
  · rw [if_neg m, putK_new _ (by rw [tk_val, if_neg m])]
    unfold tk
    rw [List.map_append]
    rfl
theorem tk_keys {F : List Th} : ∀ e ∈ tk F, ∃ i j : Int, e.1 = [.inl i, .inl j] := fun e he => by
  obtain ⟨t, _, rfl⟩ := List.mem_map.mp he
  exact ⟨_, _, rfl⟩
/-- the keys of such a dict, sorted -/
theorem keys_ths {H : Hp} : ∀ {F : List Th} {bs : List Addr}, IsKeys H (tk F) bs → PL (ThV H) (bs.map V.ref) F
  | [], _, h => by
    cases h
    exact PL.nil
  | t :: F, _, h => by
    cases h with
    | cons h1 h2 => exact (PL.one (P := ThV H) (x := t) ⟨_, rfl, h1⟩).app (keys_ths h2)
end
section
/-! sorted lists of things -/
def thOf (kf : V → Int × Int) (v : V) : Th := ((kf v).1.toNat, (kf v).2.toNat)
theorem srt_ths {H : Hp} {F : List Th} {ys vs : List V} {kf : V → Int × Int} (hP : PL (ThV H) vs F) (hk : ∀ v ∈ vs, ∃ t, v = V.ref t ∧ H t = some (.tup [.int (kf v).1, .int (kf v).2])) (hs : SrtO.Srtd (ltP kf) ys) (hb : SrtO.Stb (ltP kf) ys vs) (hn : F.Nodup) : PL (ThV H) ys (lotT F) := by
  have one : ∀ v t, v ∈ vs → ThV H v t → (kf v).1 = (t.1 : Int) ∧ (kf v).2 = (t.2 : Int) := fun v t hv h => by
    obtain ⟨p, e, h1⟩ := h
    obtain ⟨q, e2, h2⟩ := hk v hv
    rw [e] at e2
    cases e2
    rw [h1] at h2
    have h3 := HO.tup.inj (Option.some.inj h2)
    have h4 := V.int.inj (List.cons.inj h3).1
    have h5 := V.int.inj (List.cons.inj (List.cons.inj h3).2).1
    exact ⟨h4.symm, h5.symm⟩
  have hg : vs.map (thOf kf) = F := by
    refine List.ext_getElem? fun i => ?_
    rw [List.getElem?_map]
    cases e : F[i]? with
    | none =>
      have := List.getElem?_eq_none_iff.mp e
      rw [List.getElem?_eq_none (by rw [hP.1]; exact this)]
      rfl
    | some t =>
      obtain ⟨v, e2, h2⟩ := hP.at e
      rw [e2]
      obtain ⟨h3, h4⟩ := one v t (List.mem_of_getElem? e2) h2
      show some (thOf kf v) = some t
      unfold thOf
      rw [h3, h4]
      rfl
  have hv : ∀ v ∈ vs, ThV H v (thOf kf v) := fun v m => by
    obtain ⟨i, hi⟩ := List.mem_iff_getElem?.mp m
    obtain ⟨t, _, h2⟩ := hP.at' hi
    obtain ⟨h3, h4⟩ := one v t m h2
    have e : thOf kf v = t := by
      unfold thOf
      rw [h3, h4]
      rfl
    rw [e]
    exact h2
  have hp : (ys.map (thOf kf)).Perm F := by
    rw [← hg]
    exact hb.perm.map _
  have hnd : (ys.map (thOf kf)).Nodup := hp.nodup_iff.mpr hn
  have hle : ys.Pairwise fun x y => SrtO.lexB (kf y) (kf x) = false := hs
  have hlt : (ys.map (thOf kf)).Pairwise ltT := by
    rw [List.pairwise_map]
    have h2 : ys.Pairwise fun x y => thOf kf x ≠ thOf kf y := List.pairwise_map.mp hnd
    refine List.Pairwise.imp_of_mem ?_ (hle.and h2)
    intro x y hx hy q
    have kx := hv x (hb.perm.mem_iff.mp hx)
    have ky := hv y (hb.perm.mem_iff.mp hy)
    obtain ⟨x1, x2⟩ := one x _ (hb.perm.mem_iff.mp hx) kx
    obtain ⟨y1, y2⟩ := one y _ (hb.perm.mem_iff.mp hy) ky
    have l := SrtO.lexB_no.mp q.1
    rw [x1, x2, y1, y2] at l
    have ne := q.2
    generalize thOf kf x = u at *
    generalize thOf kf y = v at *
    have ne' : ¬ (u.1 = v.1 ∧ u.2 = v.2) := fun z => ne (Prod.ext z.1 z.2)
    unfold ltT
    omega
  have e : ys.map (thOf kf) = lotT F := asc_uniq hlt asc_lotT fun x => by rw [mem_lotT, hp.mem_iff]
  rw [← e]
  refine ⟨(List.length_map _).symm, fun i v x h1 h2 => ?_⟩
  rw [List.getElem?_map, h1] at h2
  rw [← Option.some.inj h2]
  exact hv v (hb.perm.mem_iff.mp (List.mem_of_getElem? h1))
end
end Lk
namespace Lk
open PySem L2
theorem u1 {n : Nat} (h : n + 64 < cLine) : n + 1 < cLine := by omega
theorem both {a b : Prop} [Decidable a] [Decidable b] (h1 : a) (h2 : b) : (decide a && decide b) = true := by
  rw [decide_eq_true h1, decide_eq_true h2]
  rfl
section
/-! the keys of a book's check -/
open NeD
def nkR (r : Rl) : NestedKey := .tup [.num r.op, .tup (r.src.map fun (x : Nat) => .num (x : Int)), .num r.kind]
def nkM (m : Mv) : NestedKey := .tup [.num m.src, .num m.kind]
theorem nums_depth2 : ∀ xs : List Nat, NestedKey.depthAll (xs.map fun (x : Nat) => .num (x : Int)) ≤ 1
  | [] => by decide
  | x :: r => by
    have := nums_depth2 r
    simp only [List.map_cons, NestedKey.depthAll, NestedKey.depth]
    omega
theorem nkR_depth (r : Rl) : (nkR r).depth ≤ 8 := by
  have := nums_depth2 r.src
  simp only [nkR, NestedKey.depthAll, NestedKey.depth]
  omega
theorem nkM_depth (r : Mv) : (nkM r).depth ≤ 8 := by
  simp only [nkM, NestedKey.depthAll, NestedKey.depth]
  omega
theorem _root_.NeD.ND.same {K : PySem.W.Frag} {P : Program} {w : World} {H H' : Hp} {a : Addr} {kvs : List (NestedKey × V)} (h : ND K P w H a kvs) (s : Same H H') : ND K P w H' a kvs := by
  obtain ⟨xs, e, ek, hk, hn, hz⟩ := h
  exact ⟨xs, s _ _ e, ek, fun x hx => ⟨(hk x hx).1.mono fun _ _ q => (Tk.of s).t q, (hk x hx).2⟩, hn, hz⟩
def ndR (rs : List Rl) : List (NestedKey × V) := rs.map fun r => (nkR r, .bl true)
def ndM (ms : List Mv) : List (NestedKey × V) := ms.map fun r => (nkM r, .bl true)
theorem nums_nk {K : PySem.W.Frag} {H : Hp} : ∀ xs : List Nat, NKs K H (xs.map nv) (xs.map fun (x : Nat) => .num (x : Int))
  | [] => .nil
  | x :: r => .cons (.int _) (nums_nk r)
theorem nkR_inj {r s : Rl} (h : nkR r = nkR s) : rkey r = rkey s := by
  unfold nkR at h
  simp only [NestedKey.tup.injEq, List.cons.injEq, NestedKey.num.injEq, and_true] at h
  obtain ⟨h1, h2, h3⟩ := h
  have e : r.src = s.src := by
    have inj : ∀ {a b : List Nat}, (a.map fun (x : Nat) => NestedKey.num (x : Int)) = (b.map fun (x : Nat) => NestedKey.num (x : Int)) → a = b := by
      intro a
      induction a with
      | nil =>
        intro b h
        cases b with
        | nil => rfl
        | cons => cases h
      | cons x a ih =>
        intro b h
        cases b with
        | nil => cases h
        | cons y b =>
          rw [List.map_cons, List.map_cons] at h
          have q := List.cons.inj h
          have q1 := NestedKey.num.inj q.1
          rw [ih q.2]
          congr 1
          omega
    exact inj h2
  unfold rkey
  rw [e]
  congr 1
  · omega
  · congr 1
    omega
theorem nkM_inj {r s : Mv} (h : nkM r = nkM s) : mkey r = mkey s := by
  unfold nkM at h
  simp only [NestedKey.tup.injEq, List.cons.injEq, NestedKey.num.injEq, and_true] at h
  unfold mkey
  congr 1 <;> omega
theorem val_none {α β : Type} [DecidableEq β] (f : α → β) {x : β} : ∀ {l : List α}, (∀ y ∈ l, f y ≠ x) → valV (l.map fun y => (f y, V.bl true)) x = none
  | [], _ => rfl
  | y :: l, h => by
    rw [List.map_cons, valV_neg (h y List.mem_cons_self)]
    exact val_none f fun z hz => h z (List.mem_cons_of_mem _ hz)
theorem nodup_take {α β : Type} {f : α → β} {l : List α} {i : Nat} {x : α} (h : (l.map f).Nodup) (hx : l[i]? = some x) : ∀ y ∈ l.take i, f y ≠ f x := by
  intro y hy e
  obtain ⟨j, hj⟩ := List.mem_iff_getElem?.mp hy
  have hji : j < i := by
    have := (List.getElem?_eq_some_iff.mp hj).1
    rw [List.length_take] at this
    omega
  rw [List.getElem?_take_of_lt hji] at hj
  have h1 : (l.map f)[j]? = some (f y) := by rw [List.getElem?_map, hj]; rfl
  have h2 : (l.map f)[i]? = some (f x) := by rw [List.getElem?_map, hx]; rfl
  have h3 := List.getElem?_eq_some_iff.mp h1
  have h4 := List.getElem?_eq_some_iff.mp h2
  have := (List.getElem_inj h (h₀ := h3.1) (h₁ := h4.1)).mp (h3.2.trans (e.trans h4.2.symm))
  omega
theorem ndR_none {rs : List Rl} {i : Nat} {r : Rl} (h : (rs.map rkey).Nodup) (hx : rs[i]? = some r) : valV (ndR (rs.take i)) (nkR r) = none := val_none nkR fun y hy e => nodup_take h hx y hy (nkR_inj e)
theorem ndM_none {rs : List Mv} {i : Nat} {r : Mv} (h : (rs.map mkey).Nodup) (hx : rs[i]? = some r) : valV (ndM (rs.take i)) (nkM r) = none := val_none nkM fun y hy e => nodup_take h hx y hy (nkM_inj e)
theorem ndR_put {rs : List Rl} {i : Nat} {r : Rl} (h : (rs.map rkey).Nodup) (hx : rs[i]? = some r) : putK (ndR (rs.take i)) (nkR r) (.bl true) = ndR (rs.take (i + 1)) := by
  rw [putK_new _ (ndR_none h hx), List.take_add_one, hx]
  unfold ndR
  rw [List.map_append]
  rfl
theorem ndM_put {rs : List Mv} {i : Nat} {r : Mv} (h : (rs.map mkey).Nodup) (hx : rs[i]? = some r) : putK (ndM (rs.take i)) (nkM r) (.bl true) = ndM (rs.take (i + 1)) := by
  rw [putK_new _ (ndM_none h hx), List.take_add_one, hx]
  unfold ndM
  rw [List.map_append]
  rfl
end
section
variable {P : Program} {w : World} {K : PySem.W.Frag} {mg : Str → Option Value} {base : Heap} {a : Adr}
def spIsPrice : Sp := fun vs H Q _ => ∃ c : Nat, vs = [nv c] ∧ 1 ≤ c ∧ c ≤ 1000 ∧ Q (.bl true) H
theorem ok_is_price (T : Txt K mg a) : FnOk P w K mg base CX0 3 a.f_is_price a.d_is_price ["thing"] spIsPrice := by
  have G_is_between := ok_is_between (P := P) (w := w) (base := base) T
  refine T.F_is_price.ok sc_is_price (fun vs H Q E h => ?_) (fun cdv A outer s H vs Q E hr h => ?_)
  · obtain ⟨c, rfl, _⟩ := h
    rfl
  obtain ⟨c, rfl, h1, h2, q⟩ := h
  refine ⟨_, (pss_one (ps_ret (pe_call G_is_between (hr.mono (by decide)) rfl T.g_is_between T.k_is_between T.b_is_between .nil pass0 (pa_cons pe_int (pa_cons pe_int (pa_cons (pv 0) pa_nil)))))), ?_⟩
  refine ⟨_, rfl, nv c, "int", 1, 1000, rfl, .int, .base (.int _), .inr ⟨_, rfl, rfl, ?_⟩⟩
  rw [both (by omega) (by omega)]
  exact q
def spIsMove (K : PySem.W.Frag) : Sp := fun vs H Q _ => ∃ (nk : Nat) (v : V) (m : Mv), vs = [nv nk, v] ∧ MoveV K H v m ∧ MvOk nk m ∧ Q (.bl true) H
theorem ok_is_move (T : Txt K mg a) : FnOk P w K mg base CX0 4 a.f_is_move a.d_is_move ["kinds", "thing"] (spIsMove K) := by
  have G_is_between := ok_is_between (P := P) (w := w) (base := base) T
  have G_is_tuple_of := ok_is_tuple_of (P := P) (w := w) (base := base) T
  have G_is_price := ok_is_price (P := P) (w := w) (base := base) T
  refine T.F_is_move.ok sc_is_move (fun vs H Q E h => ?_) (fun cdv A outer s H vs Q E hr h => ?_)
  · obtain ⟨nk, v, m, rfl, _⟩ := h
    rfl
  obtain ⟨nk, v, m, rfl, ⟨p, rfl, h1⟩, ⟨b1, b2, b3, b4, b5⟩, q⟩ := h
  refine ⟨_, (pss_cons (ps_if (pt_not (pt_val (pe_call G_is_tuple_of (hr.mono (by decide)) rfl T.g_is_tuple_of T.k_is_tuple_of T.b_is_tuple_of .nil pass0 (pa_cons pe_int (pa_cons pe_int (pa_cons (pv 1) pa_nil))))))
    (pss_one (ps_ret pe_bl))
    pss_nil)
  (pss_cons (ps_asg (pv 1) (pg_tup (by rfl) (pgs_cons (pg_name (i := 2) sc_is_move.nd rfl (Or.inl rfl)) (pgs_cons (pg_name (i := 3) sc_is_move.nd rfl (Or.inl rfl)) (pgs_cons (pg_name (i := 4) sc_is_move.nd rfl (Or.inl rfl)) pgs_nil)))))
  (pss_one (ps_ret (pe_and (pe_call G_is_between (hr.mono (by decide)) rfl T.g_is_between T.k_is_between T.b_is_between .nil pass0 (pa_cons pe_int (pa_cons (pe_op op_sub (pv 0) pe_int) (pa_cons (pv 2) pa_nil)))) (pe_and (pe_call G_is_between (hr.mono (by decide)) rfl T.g_is_between T.k_is_between T.b_is_between .nil pass0 (pa_cons pe_int (pa_cons (pe_op op_sub (pv 0) pe_int) (pa_cons (pv 3) pa_nil)))) (pe_and (pe_cmpR op_ne (pv 2) (pv 3) (nomark _)) (pe_one (pe_call G_is_price (hr.mono (by decide)) rfl T.g_is_price T.k_is_price T.b_is_price .nil pass0 (pa_cons (pv 4) pa_nil)))))))))), ?_⟩
  refine ⟨_, rfl, .ref p, "tuple", 3, 3, rfl, .tup, tyT h1, .inr ⟨p, _, rfl, rfl, h1, ?_⟩⟩
  refine ⟨_, rfl, iteF ?_⟩
  refine ⟨_, rfl, p, _, rfl, h1, rfl, ?_⟩
  refine ⟨_, _, rfl, _, _, rfl, _, _, rfl, rfl, ?_⟩
  refine ⟨_, rfl, _, _, rfl, rfl, _, rfl, nv m.src, "int", 0, _, rfl, .int, .base (.int _), .inr ⟨_, rfl, rfl, ?_⟩⟩
  refine ⟨_, rfl, iteC (both (by omega) (by omega)) ?_⟩
  refine ⟨_, rfl, _, _, rfl, rfl, _, rfl, nv m.kind, "int", 0, _, rfl, .int, .base (.int _), .inr ⟨_, rfl, rfl, ?_⟩⟩
  refine ⟨_, rfl, iteC (both (by omega) (by omega)) ?_⟩
  refine ⟨_, rfl, _, rfl, rfl, _, rfl, ?_⟩
  refine iteC (by rw [Bool.not_eq_true', decide_eq_false_iff_not]; exact fun e => b3 (by have := V.int.inj e; omega)) ?_
  refine ⟨_, rfl, m.cost, rfl, b4, b5, q⟩
def spIsRule (K : PySem.W.Frag) : Sp := fun vs H Q _ => ∃ (pa : Addr) (ar : List Nat) (nk : Nat) (v : V) (r : Rl), vs = [.ref pa, nv nk, v] ∧ IT K H pa ar ∧ RuleV K H v r ∧ RlOk ar nk r ∧ r.src.length ≤ 2 ∧ ∀ H', Same H H' → Q (.bl true) H'
theorem ok_is_rule (T : Txt K mg a) : FnOk P w K mg base CX0 4 a.f_is_rule a.d_is_rule ["arities", "kinds", "thing"] (spIsRule K) := by
  have G_is_between := ok_is_between (P := P) (w := w) (base := base) T
  have G_is_tuple_of := ok_is_tuple_of (P := P) (w := w) (base := base) T
  have G_is_price := ok_is_price (P := P) (w := w) (base := base) T
  refine T.F_is_rule.ok sc_is_rule (fun vs H Q E h => ?_) (fun cdv A outer s H vs Q E hr h => ?_)
  · obtain ⟨pa, ar, nk, v, m, rfl, _⟩ := h
    rfl
  obtain ⟨pa, ar, nk, v, r, rfl, ha, ⟨p, q, rfl, h1, h2⟩, ⟨b1, b2, b3, b4, b5, b6⟩, hl, k⟩ := h
  have hix : atI (ar.map nv) (r.op : Int) = some (nv (ar.getD r.op 0)) := atI_nat (by rw [List.getElem?_map, List.getElem?_eq_getElem b1, gd b1]; rfl)
  refine ⟨_, (pss_cons (ps_if (pt_not (pt_val (pe_call G_is_tuple_of (hr.mono (by decide)) rfl T.g_is_tuple_of T.k_is_tuple_of T.b_is_tuple_of .nil pass0 (pa_cons pe_int (pa_cons pe_int (pa_cons (pv 2) pa_nil))))))
    (pss_one (ps_ret pe_bl))
    pss_nil)
  (pss_cons (ps_asg (pv 2) (pg_tup (by rfl) (pgs_cons (pg_name (i := 3) sc_is_rule.nd rfl (Or.inl rfl)) (pgs_cons (pg_name (i := 4) sc_is_rule.nd rfl (Or.inl rfl)) (pgs_cons (pg_name (i := 5) sc_is_rule.nd rfl (Or.inl rfl)) (pgs_cons (pg_name (i := 6) sc_is_rule.nd rfl (Or.inl rfl)) pgs_nil))))))
  (pss_one (ps_ret (pe_and (pe_call G_is_between (hr.mono (by decide)) rfl T.g_is_between T.k_is_between T.b_is_between .nil pass0 (pa_cons pe_int (pa_cons (pe_op op_sub (pe_callB call_len_seq (by rfl) T.z_len PySem.boot_len (pa_cons (pv 0) pa_nil)) pe_int) (pa_cons (pv 3) pa_nil)))) (pe_and (pe_call G_is_tuple_of (hr.mono (by decide)) rfl T.g_is_tuple_of T.k_is_tuple_of T.b_is_tuple_of .nil pass0 (pa_cons (pe_ix ix_tup (pv 0) (pv 3) (fun _ _ => rfl)) (pa_cons (pe_ix ix_tup (pv 0) (pv 3) (fun _ _ => rfl)) (pa_cons (pv 4) pa_nil)))) (pe_and (pe_callB (cr_all rfl) (by rfl) T.z_all (by decide +kernel) (pa_cons (pe_lc (own := [("source", 7)]) (g := gName 7) (tt := tYes) rfl sc_is_rule.nd (pi_tup (pv 4)) (blkOk_by (N := ["arities", "kinds", "thing", "op", "sources", "kind", "cost", "source"]) (sc := defScope s_is_rule) (by decide +kernel)) (fun _ _ _ _ _ => pg_name (i := 7) sc_is_rule.nd rfl (Or.inl rfl)) (fun _ _ _ _ _ => pts_nil) (fun _ _ _ _ _ => (pe_call G_is_between (hr.mono (by decide)) rfl T.g_is_between T.k_is_between T.b_is_between .nil pass0 (pa_cons pe_int (pa_cons (pe_op op_sub (pv 1) pe_int) (pa_cons (pv 7) pa_nil)))))) pa_nil)) (pe_and (pe_call G_is_between (hr.mono (by decide)) rfl T.g_is_between T.k_is_between T.b_is_between .nil pass0 (pa_cons pe_int (pa_cons (pe_op op_sub (pv 1) pe_int) (pa_cons (pv 5) pa_nil)))) (pe_one (pe_call G_is_price (hr.mono (by decide)) rfl T.g_is_price T.k_is_price T.b_is_price .nil pass0 (pa_cons (pv 6) pa_nil))))))))))), ?_⟩
  refine ⟨_, rfl, .ref p, "tuple", 4, 4, rfl, .tup, tyT h1, .inr ⟨p, _, rfl, rfl, h1, ?_⟩⟩
  refine ⟨_, rfl, iteF ?_⟩
  refine ⟨_, rfl, p, _, rfl, h1, rfl, ?_⟩
  refine ⟨_, _, rfl, _, _, rfl, _, _, rfl, _, _, rfl, rfl, ?_⟩
  refine ⟨_, rfl, pa, _, rfl, .inr ha, _, _, rfl, rfl, _, rfl, nv r.op, "int", 0, _, rfl, .int, .base (.int _), .inr ⟨_, rfl, rfl, ?_⟩⟩
  refine ⟨_, rfl, iteC (both (by omega) (by rw [List.length_map]; omega)) ?_⟩
  refine ⟨_, rfl, _, rfl, pa, _, _, _, rfl, rfl, ha, hix, _, rfl, _, rfl, pa, _, _, _, rfl, rfl, ha, hix, _, rfl, .ref q, "tuple", _, _, rfl, .tup, tyT h2, .inr ⟨q, _, rfl, rfl, h2, ?_⟩⟩
  refine ⟨_, rfl, iteC (both (by rw [List.length_map]; omega) (by rw [List.length_map]; omega)) ?_⟩
  refine ⟨_, rfl, q, rfl, ⟨_, h2⟩, fun D hD => ?_⟩
  refine lc_tup (xs := r.src.map nv) (fun j H' => Same H H' ∧ H' D = some (.lst ((List.replicate j true).map V.bl))) ⟨same_new hD, upd_same⟩ (fun j H' _ z => (Tk.of z.1).t h2) (fun j x H' hx z => ?_) (fun H' z => ?_)
  · refine ⟨rfl, ?_⟩
    rw [List.getElem?_map] at hx
    obtain ⟨y, hy, rfl⟩ := Option.map_eq_some_iff.mp hx
    have hlt := b3 y (List.mem_of_getElem? hy)
    refine ⟨_, rfl, _, _, rfl, rfl, _, rfl, nv y, "int", 0, _, rfl, .int, .base (.int _), .inr ⟨_, rfl, rfl, ?_⟩⟩
    have hj : j < r.src.length := (List.getElem?_eq_some_iff.mp hy).1
    refine ⟨_, z.2, ?_, fun b o e => ?_, ?_⟩
    · rw [List.length_map, List.length_replicate]
      exact small1000 (by omega)
    · rw [upd_ne (ne_of_none e hD)]
      exact z.1 b o e
    · rw [upd_same]
      rw [both (by omega) (by omega), List.replicate_succ', List.map_append]
      rfl
  · refine ⟨D, _, rfl, .inl (.inl z.2), ?_⟩
    have e1 : (List.replicate (r.src.map nv).length true).all id = true := by simp
    rw [e1]
    refine ⟨_, rfl, iteT ?_⟩
    refine ⟨_, rfl, _, _, rfl, rfl, _, rfl, nv r.kind, "int", 0, _, rfl, .int, .base (.int _), .inr ⟨_, rfl, rfl, ?_⟩⟩
    refine ⟨_, rfl, iteC (both (by omega) (by omega)) ?_⟩
    exact ⟨_, rfl, r.cost, rfl, b5, b6, k H' z.1⟩
def spFrame (K : PySem.W.Frag) : Sp := fun vs H Q _ => ∃ (pa pr pm : Addr) (B : Bk), vs = [.ref pa, nv B.nk, .ref pr, .ref pm] ∧ IT K H pa B.ar ∧ RulesT K H pr B.rs ∧ MovesT K H pm B.ms ∧ GoodB B ∧ ∀ H', Same H H' → Q .non H'
theorem ok_check_frame (T : Txt K mg a) : FnOk P w K mg base CX0 3 a.f_check_frame a.d_check_frame ["arities", "kinds", "rules", "moves"] (spFrame K) := by
  have G_is_between := ok_is_between (P := P) (w := w) (base := base) T
  have G_is_tuple_of := ok_is_tuple_of (P := P) (w := w) (base := base) T
  refine T.F_check_frame.ok sc_check_frame (fun vs H Q E h => ?_) (fun cdv A outer s H vs Q E hr h => ?_)
  · obtain ⟨pa, pr, pm, B, rfl, _⟩ := h
    rfl
  obtain ⟨pa, pr, pm, B, rfl, ha, ⟨vr, hr1, hr2⟩, ⟨vm, hm1, hm2⟩, g, k⟩ := h
  obtain ⟨g1, g2, g3, g4, g5, g6, g7, _, _, _, _⟩ := id g
  refine ⟨_, (pss_cons (ps_if (pt_not (PW.pt (pw_and (pt_val (pe_call G_is_tuple_of (hr.mono (by decide)) rfl T.g_is_tuple_of T.k_is_tuple_of T.b_is_tuple_of .nil pass0 (pa_cons pe_int (pa_cons pe_int (pa_cons (pv 0) pa_nil))))) (pw_and1 (pt_val (pe_callB (cr_all rfl) (by rfl) T.z_all (by decide +kernel) (pa_cons (pe_lc (own := [("arity", 4)]) (g := gName 4) (tt := tYes) rfl sc_check_frame.nd (pi_tup (pv 0)) (blkOk_by (N := ["arities", "kinds", "rules", "moves", "arity"]) (sc := defScope s_check_frame) (by decide +kernel)) (fun _ _ _ _ _ => pg_name (i := 4) sc_check_frame.nd rfl (Or.inl rfl)) (fun _ _ _ _ _ => pts_nil) (fun _ _ _ _ _ => (pe_call G_is_between (hr.mono (by decide)) rfl T.g_is_between T.k_is_between T.b_is_between .nil pass0 (pa_cons pe_int (pa_cons pe_int (pa_cons (pv 4) pa_nil)))))) pa_nil)))))))
    (pss_one ps_never)
    pss_nil)
  (pss_cons (ps_if (pt_not (pt_val (pe_call G_is_between (hr.mono (by decide)) rfl T.g_is_between T.k_is_between T.b_is_between .nil pass0 (pa_cons pe_int (pa_cons pe_int (pa_cons (pv 1) pa_nil))))))
    (pss_one ps_never)
    pss_nil)
  (pss_cons (ps_if (pt_not (pt_val (pe_call G_is_tuple_of (hr.mono (by decide)) rfl T.g_is_tuple_of T.k_is_tuple_of T.b_is_tuple_of .nil pass0 (pa_cons pe_int (pa_cons pe_int (pa_cons (pv 2) pa_nil))))))
    (pss_one ps_never)
    pss_nil)
  (pss_one (ps_if (pt_not (pt_val (pe_call G_is_tuple_of (hr.mono (by decide)) rfl T.g_is_tuple_of T.k_is_tuple_of T.b_is_tuple_of .nil pass0 (pa_cons pe_int (pa_cons pe_int (pa_cons (pv 3) pa_nil))))))
    (pss_one ps_never)
    pss_nil))))), ?_⟩
  refine ⟨_, rfl, .ref pa, "tuple", 1, 8, rfl, .tup, tyT ha, .inr ⟨pa, _, rfl, rfl, ha, ?_⟩⟩
  refine ⟨_, rfl, iteC (both (by rw [List.length_map]; omega) (by rw [List.length_map]; omega)) ?_⟩
  refine ⟨_, rfl, pa, rfl, ⟨_, ha⟩, fun D hD => ?_⟩
  refine lc_tup (xs := B.ar.map nv) (fun j H' => Same H H' ∧ H' D = some (.lst ((List.replicate j true).map V.bl))) ⟨same_new hD, upd_same⟩ (fun j H' _ z => (Tk.of z.1).t ha) (fun j x H' hx z => ?_) (fun H' z => ?_)
  · refine ⟨rfl, ?_⟩
    rw [List.getElem?_map] at hx
    obtain ⟨y, hy, rfl⟩ := Option.map_eq_some_iff.mp hx
    have hlt := g3 y (List.mem_of_getElem? hy)
    refine ⟨_, rfl, nv y, "int", 0, 2, rfl, .int, .base (.int _), .inr ⟨_, rfl, rfl, ?_⟩⟩
    have hj : j < B.ar.length := (List.getElem?_eq_some_iff.mp hy).1
    refine ⟨_, z.2, ?_, fun b o e => ?_, ?_⟩
    · rw [List.length_map, List.length_replicate]
      exact small1000 (by omega)
    · rw [upd_ne (ne_of_none e hD)]
      exact z.1 b o e
    · rw [upd_same]
      rw [both (by omega) (by omega), List.replicate_succ', List.map_append]
      rfl
  · refine ⟨D, _, rfl, .inl (.inl z.2), ?_⟩
    have e1 : (List.replicate (B.ar.map nv).length true).all id = true := by simp
    rw [e1]
    refine ⟨_, rfl, iteF ?_⟩
    refine ⟨_, rfl, nv B.nk, "int", 1, 5, rfl, .int, .base (.int _), .inr ⟨_, rfl, rfl, ?_⟩⟩
    refine ⟨_, rfl, iteD (by rw [both (by omega) (by omega)]; rfl) ?_⟩
    have t := Tk.of z.1
    refine ⟨_, rfl, .ref pr, "tuple", 0, 40, rfl, .tup, tyT (t.t hr1), .inr ⟨pr, _, rfl, rfl, t.t hr1, ?_⟩⟩
    refine ⟨_, rfl, iteD (by rw [both (by omega) (by rw [hr2.1]; omega)]; rfl) ?_⟩
    refine ⟨_, rfl, .ref pm, "tuple", 0, 20, rfl, .tup, tyT (t.t hm1), .inr ⟨pm, _, rfl, rfl, t.t hm1, ?_⟩⟩
    refine ⟨_, rfl, iteD (by rw [both (by omega) (by rw [hm2.1]; omega)]; rfl) ?_⟩
    exact k H' z.1
/-! the keys of a book's check -/
open NeD in
theorem rule_key {H : Hp} {c q : Addr} {r : Rl} (h : SqT K H c [nv r.op, .ref q, nv r.kind]) (h2 : IT K H q r.src) : NK K H (.ref c) (nkR r) := .tup h (.cons (.int _) (.cons (.tup h2 (nums_nk r.src)) (.cons (.int _) .nil)))
open NeD in
theorem move_key {H : Hp} {c : Addr} {m : Mv} (h : SqT K H c [nv m.src, nv m.kind]) : NK K H (.ref c) (nkM m) := .tup h (.cons (.int _) (.cons (.int _) .nil))
def spChkR (K : PySem.W.Frag) : Sp := fun vs H Q _ => ∃ (pa pr : Addr) (B : Bk), vs = [.ref pa, nv B.nk, .ref pr] ∧ IT K H pa B.ar ∧ RulesT K H pr B.rs ∧ GoodB B ∧ ∀ H', Same H H' → Q .non H'
theorem ok_check_rules (T : Txt K mg a) : FnOk P w K mg base CX0 5 a.f_check_rules a.d_check_rules ["arities", "kinds", "rules"] (spChkR K) := by
  have G_is_rule := ok_is_rule (P := P) (w := w) (base := base) T
  refine T.F_check_rules.ok sc_check_rules (fun vs H Q E h => ?_) (fun cdv A outer s H vs Q E hr h => ?_)
  · obtain ⟨pa, pr, B, rfl, _⟩ := h
    rfl
  obtain ⟨pa, pr, B, rfl, ha, ⟨ws, hw, hpl⟩, g, k⟩ := h
  refine ⟨_, (pss_cons (ps_set (i := 3) sc_check_rules.nd rfl (Or.inl rfl) NeD.pe_new)
  (pss_one (ps_for PassesOwn.never rfl (EnT.pi_enumT rfl T.z_enumerate (pa_cons (pv 2) pa_nil)) (pg_tup rfl (pgs_cons (pg_name (i := 4) sc_check_rules.nd rfl (Or.inl rfl)) (pgs_cons (pg_name (i := 5) sc_check_rules.nd rfl (Or.inl rfl)) pgs_nil)))
    (pss_cons (ps_if (PW.pt (pw_or (pt_not (pt_val (pe_call G_is_rule (hr.mono (by decide)) rfl T.g_is_rule T.k_is_rule T.b_is_rule .nil pass0 (pa_cons (pv 0) (pa_cons (pv 1) (pa_cons (pv 5) pa_nil)))))) (pw_or1 (pt_cmp (NeD.pc_in hr.units (pe_slice sl_tup (pv 5) po_none (po_some pe_int)) (pv 3))))))
    (pss_one ps_never)
    pss_nil)
  (pss_one (NeD.ps_put hr.units (pv 3) (pe_slice sl_tup (pv 5) po_none (po_some pe_int)) pe_bl rfl)))))), ?_⟩
  refine fun d hd => ?_
  refine ⟨_, rfl, pr, ws, rfl, (tt_new hd).t _ _ hw, for_it (EnT.walkE (xs := ws)) (fun i σ H' => ∃ v4 v5, σ = [some (.ref pa), some (nv B.nk), some (.ref pr), some (.ref d), v4, v5] ∧ Same H H' ∧ NeD.ND K P w H' d (ndR (B.rs.take i))) ⟨none, none, rfl, same_new hd, NeD.nd_new⟩ (fun i σ H' _ z => ?_) ?_ ?_⟩
  · obtain ⟨_, _, _, s1, _⟩ := z
    exact (Tk.of s1).t hw
  · intro i y σ H1 H2 hi z hy
    obtain ⟨_, _, rfl, s1, hN⟩ := z
    obtain ⟨t, y1, y2, rfl, ht, rfl, e1, e2⟩ := hy
    cases e1
    have hi' : i < B.rs.length := by
      rw [← hpl.1]
      exact hi
    have hrA := rAt_of hi'
    have hv0 := hpl.2 i y2 _ e2 hrA
    have s2 : Same H (upd H1 t (.tup [.int (i : Nat), y2])) := s1.trans (same_new ht)
    obtain ⟨hok, hsl⟩ : RlOk B.ar B.nk (rAt B.rs i) ∧ (rAt B.rs i).src.length ≤ 2 := by
      have q := g.r2 _ (rAt_mem hi')
      refine ⟨q, ?_⟩
      rw [q.2.1, gd q.1]
      exact g.a3 _ (List.getElem_mem q.1)
    refine ⟨t, _, rfl, .inl (.inl upd_same), rfl, _, _, rfl, _, _, rfl, rfl, ?_⟩
    refine ⟨_, rfl, _, rfl, _, rfl, pa, B.ar, B.nk, y2, rAt B.rs i, rfl, (Tk.of s2).t ha, hv0.tt (Same_tt s2), hok, hsl, fun H3 s3 => ?_⟩
    obtain ⟨pv, qv, rfl, hp1, hq1⟩ := hv0.tt (Same_tt (s2.trans s3))
    refine ⟨_, rfl, iteF ?_⟩
    refine ⟨_, rfl, _, rfl, pv, _, rfl, hp1, (by show ¬ (HT.sIx 4 0 none = 0 ∧ HT.sIx 4 4 (some 3) = 4); decide), fun c hc => ?_⟩
    have s4 : Same H (upd H3 c (.tup [nv (rAt B.rs i).op, .ref qv, nv (rAt B.rs i).kind])) := (s2.trans s3).trans (same_new hc)
    have hN4 : NeD.ND K P w (upd H3 c (.tup [nv (rAt B.rs i).op, .ref qv, nv (rAt B.rs i).kind])) d (ndR (B.rs.take i)) := hN.same (((same_new ht).trans s3).trans (same_new hc))
    refine ⟨_, rfl, c, d, _, nkR (rAt B.rs i), rfl, rfl, hN4, rule_key (.inl (.inl upd_same)) ((tt_new hc).t _ _ hq1), ?_, ?_⟩
    · exact nkR_depth _
    refine ⟨_, rfl, iteD ?_ ?_⟩
    · rw [ndR_none g.r3 hrA]
      rfl
    refine ⟨_, rfl, _, rfl, _, rfl, pv, _, rfl, (tt_new hc).t _ _ hp1, (by show ¬ (HT.sIx 4 0 none = 0 ∧ HT.sIx 4 4 (some 3) = 4); decide), fun e he => ?_⟩
    refine ⟨e, d, _, nkR (rAt B.rs i), rfl, rfl, hN4.same (same_new he), rule_key (.inl (.inl upd_same)) ((tt_new he).t _ _ ((tt_new hc).t _ _ hq1)), nkR_depth _, ?_, fun o ho => ?_⟩
    · show (ndR (B.rs.take i)).length < sizeLine
      unfold ndR
      rw [List.length_map, List.length_take]
      exact lt_line (by have := g.r1; omega)
    · rw [ndR_put g.r3 hrA] at ho
      refine ⟨_, _, rfl, fun b u q => ?_, ho⟩
      rw [upd_ne (ne_of_none q hd)]
      exact (s4.trans (same_new he)) b u q
  · intro σ H1 z
    obtain ⟨v4, v5, rfl, s1, _⟩ := z
    exact k H1 s1
def spChkM (K : PySem.W.Frag) : Sp := fun vs H Q _ => ∃ (pr : Addr) (B : Bk), vs = [nv B.nk, .ref pr] ∧ MovesT K H pr B.ms ∧ GoodB B ∧ ∀ H', Same H H' → Q .non H'
theorem ok_check_moves (T : Txt K mg a) : FnOk P w K mg base CX0 5 a.f_check_moves a.d_check_moves ["kinds", "moves"] (spChkM K) := by
  have G_is_move := ok_is_move (P := P) (w := w) (base := base) T
  refine T.F_check_moves.ok sc_check_moves (fun vs H Q E h => ?_) (fun cdv A outer s H vs Q E hr h => ?_)
  · obtain ⟨pr, B, rfl, _⟩ := h
    rfl
  obtain ⟨pr, B, rfl, ⟨ws, hw, hpl⟩, g, k⟩ := h
  refine ⟨_, (pss_cons (ps_set (i := 2) sc_check_moves.nd rfl (Or.inl rfl) NeD.pe_new)
  (pss_one (ps_for PassesOwn.never rfl (EnT.pi_enumT rfl T.z_enumerate (pa_cons (pv 1) pa_nil)) (pg_tup rfl (pgs_cons (pg_name (i := 3) sc_check_moves.nd rfl (Or.inl rfl)) (pgs_cons (pg_name (i := 4) sc_check_moves.nd rfl (Or.inl rfl)) pgs_nil)))
    (pss_cons (ps_if (PW.pt (pw_or (pt_not (pt_val (pe_call G_is_move (hr.mono (by decide)) rfl T.g_is_move T.k_is_move T.b_is_move .nil pass0 (pa_cons (pv 0) (pa_cons (pv 4) pa_nil))))) (pw_or1 (pt_cmp (NeD.pc_in hr.units (pe_slice sl_tup (pv 4) po_none (po_some pe_int)) (pv 2))))))
    (pss_one ps_never)
    pss_nil)
  (pss_one (NeD.ps_put hr.units (pv 2) (pe_slice sl_tup (pv 4) po_none (po_some pe_int)) pe_bl rfl)))))), ?_⟩
  refine fun d hd => ?_
  refine ⟨_, rfl, pr, ws, rfl, (tt_new hd).t _ _ hw, for_it (EnT.walkE (xs := ws)) (fun i σ H' => ∃ v4 v5, σ = [some (nv B.nk), some (.ref pr), some (.ref d), v4, v5] ∧ Same H H' ∧ NeD.ND K P w H' d (ndM (B.ms.take i))) ⟨none, none, rfl, same_new hd, NeD.nd_new⟩ (fun i σ H' _ z => ?_) ?_ ?_⟩
  · obtain ⟨_, _, _, s1, _⟩ := z
    exact (Tk.of s1).t hw
  · intro i y σ H1 H2 hi z hy
    obtain ⟨_, _, rfl, s1, hN⟩ := z
    obtain ⟨t, y1, y2, rfl, ht, rfl, e1, e2⟩ := hy
    cases e1
    have hi' : i < B.ms.length := by
      rw [← hpl.1]
      exact hi
    have hrA := mAt_of hi'
    have hv0 := hpl.2 i y2 _ e2 hrA
    have s2 : Same H (upd H1 t (.tup [.int (i : Nat), y2])) := s1.trans (same_new ht)
    have hok := g.m2 _ (mAt_mem hi')
    refine ⟨t, _, rfl, .inl (.inl upd_same), rfl, _, _, rfl, _, _, rfl, rfl, ?_⟩
    refine ⟨_, rfl, _, rfl, B.nk, y2, mAt B.ms i, rfl, hv0.tt (Same_tt s2), hok, ?_⟩
    obtain ⟨pv, rfl, hp1⟩ := hv0.tt (Same_tt s2)
    refine ⟨_, rfl, iteF ?_⟩
    refine ⟨_, rfl, _, rfl, pv, _, rfl, hp1, (by show ¬ (HT.sIx 3 0 none = 0 ∧ HT.sIx 3 3 (some 2) = 3); decide), fun c hc => ?_⟩
    have s4 := s2.trans (same_new (o := .tup [nv (mAt B.ms i).src, nv (mAt B.ms i).kind]) hc)
    have hN4 : NeD.ND K P w (upd (upd H1 t (.tup [.int (i : Nat), .ref pv])) c (.tup [nv (mAt B.ms i).src, nv (mAt B.ms i).kind])) d (ndM (B.ms.take i)) := hN.same ((same_new ht).trans (same_new hc))
    refine ⟨_, rfl, c, d, _, nkM (mAt B.ms i), rfl, rfl, hN4, move_key (.inl (.inl upd_same)), nkM_depth _, ?_⟩
    refine ⟨_, rfl, iteD ?_ ?_⟩
    · rw [ndM_none g.m3 hrA]
      rfl
    refine ⟨_, rfl, _, rfl, _, rfl, pv, _, rfl, (tt_new hc).t _ _ hp1, (by show ¬ (HT.sIx 3 0 none = 0 ∧ HT.sIx 3 3 (some 2) = 3); decide), fun e he => ?_⟩
    refine ⟨e, d, _, nkM (mAt B.ms i), rfl, rfl, hN4.same (same_new he), move_key (.inl (.inl upd_same)), nkM_depth _, ?_, fun o ho => ?_⟩
    · show (ndM (B.ms.take i)).length < sizeLine
      unfold ndM
      rw [List.length_map, List.length_take]
      exact lt_line (by have := g.m1; omega)
    · rw [ndM_put g.m3 hrA] at ho
      refine ⟨_, _, rfl, fun b u q => ?_, ho⟩
      rw [upd_ne (ne_of_none q hd)]
      exact (s4.trans (same_new he)) b u q
  · intro σ H1 z
    obtain ⟨v4, v5, rfl, s1, _⟩ := z
    exact k H1 s1
def spBookInit (K : PySem.W.Frag) (C : Addr) : Sp := fun vs H Q _ => ∃ (x dx pa pr pm : Addr) (B : Bk), vs = [.ref x, .ref pa, nv B.nk, .ref pr, .ref pm] ∧ H x = some (.ins C dx []) ∧ IT K H pa B.ar ∧ RulesT K H pr B.rs ∧ MovesT K H pm B.ms ∧ GoodB B ∧
  ∀ H', (∀ b o, H b = some o → b ≠ x → H' b = some o) → H' x = some (.ins C dx [("arities", .ref pa), ("kinds", nv B.nk), ("rules", .ref pr), ("moves", .ref pm)]) → Q .non H'
theorem ok_Book_init (T : Txt K mg a) : FnOk P w K mg base CX0 6 a.f_Book_init a.d_Book_init ["self", "arities", "kinds", "rules", "moves"] (spBookInit K a.c_Book) := by
  have G_check_frame := ok_check_frame (P := P) (w := w) (base := base) T
  have G_check_rules := ok_check_rules (P := P) (w := w) (base := base) T
  have G_check_moves := ok_check_moves (P := P) (w := w) (base := base) T
  refine T.F_Book_init.ok sc_Book_init (fun vs H Q E h => ?_) (fun cdv A outer s H vs Q E hr h => ?_)
  · obtain ⟨x, dx, pa, pr, pm, B, rfl, _⟩ := h
    rfl
  obtain ⟨x, dx, pa, pr, pm, B, rfl, hx, ha, hR, hM, g, k⟩ := h
  refine ⟨_, (pss_cons (ps_expr (pe_call G_check_frame (hr.mono (by decide)) rfl T.g_check_frame T.k_check_frame T.b_check_frame .nil pass0 (pa_cons (pv 1) (pa_cons (pv 2) (pa_cons (pv 3) (pa_cons (pv 4) pa_nil))))))
  (pss_cons (ps_expr (pe_call G_check_rules (hr.mono (by decide)) rfl T.g_check_rules T.k_check_rules T.b_check_rules .nil pass0 (pa_cons (pv 1) (pa_cons (pv 2) (pa_cons (pv 3) pa_nil)))))
  (pss_cons (ps_expr (pe_call G_check_moves (hr.mono (by decide)) rfl T.g_check_moves T.k_check_moves T.b_check_moves .nil pass0 (pa_cons (pv 2) (pa_cons (pv 4) pa_nil))))
  (pss_cons (ps_fld (pv 0) (pv 1) rfl)
  (pss_cons (ps_fld (pv 0) (pv 2) rfl)
  (pss_cons (ps_fld (pv 0) (pv 3) rfl)
  (pss_one (ps_fld (pv 0) (pv 4) rfl)))))))), ?_⟩
  refine ⟨_, rfl, _, rfl, _, rfl, _, rfl, pa, pr, pm, B, rfl, ha, hR, hM, g, fun H1 s1 => ?_⟩
  refine ⟨_, rfl, _, rfl, _, rfl, pa, pr, B, rfl, (Tk.of s1).t ha, hR.tt (Same_tt s1), g, fun H2 s2 => ?_⟩
  refine ⟨_, rfl, _, rfl, pm, B, rfl, hM.tt (Same_tt (s1.trans s2)), g, fun H3 s3 => ?_⟩
  have s := (s1.trans s2).trans s3
  refine ⟨_, rfl, _, rfl, x, a.c_Book, dx, [], rfl, s _ _ hx, T.C_Book, T.N_arities, (by decide), ?_⟩
  refine ⟨_, rfl, _, rfl, x, a.c_Book, dx, _, rfl, upd_same, T.C_Book, T.N_kinds, (by show 1 < 1000; decide), ?_⟩
  refine ⟨_, rfl, _, rfl, x, a.c_Book, dx, _, rfl, upd_same, T.C_Book, T.N_rules, (by show 2 < 1000; decide), ?_⟩
  refine ⟨_, rfl, _, rfl, x, a.c_Book, dx, _, rfl, upd_same, T.C_Book, T.N_moves, (by show 3 < 1000; decide), ?_⟩
  refine k _ (fun b o e ne => ?_) upd_same
  rw [upd_ne ne, upd_ne ne, upd_ne ne, upd_ne ne]
  exact s _ _ e
end
end Lk
namespace Lk
open PySem L2
theorem u65 {k : Nat} {A : Around} (r : Room k A) : A.units + 65 < cLine := by have := r.un; omega
theorem hu1 {k : Nat} {A : Around} (r : Room k A) : A.units + 1 < cLine := by have := r.un; omega
section
variable {P : Program} {w : World} {K : PySem.W.Frag} {mg : Str → Option Value} {base : Heap} {a : Adr}
/-- a book and a web of it -/
structure BW (K : PySem.W.Frag) (a : Adr) (H : Hp) (x y : Addr) (B : Bk) (R : List Row) : Prop where
  b : BookV K a.c_Book H x B
  r : WebV K a.c_Web H y R
  g : GoodB B
  gr : Good R
  f : FitsM B R
  l : R.length ≤ 200
theorem BW.tk {H H' : Hp} {x y : Addr} {B : Bk} {R : List Row} (s : Tk H H') (h : BW K a H x y B R) : BW K a H' x y B R := ⟨h.b.tk s, h.r.tk s, h.g, h.gr, h.f, h.l⟩
theorem BW.same {H H' : Hp} {x y : Addr} {B : Bk} {R : List Row} (s : Same H H') (h : BW K a H x y B R) : BW K a H' x y B R := h.tk (Tk.of s)
def spIsRowOf (K : PySem.W.Frag) (C : Addr) : Sp := fun vs H Q _ => ∃ (x q : Addr) (B : Bk) (o : Nat) (ps : List Nat), vs = [.ref x, nv o, .ref q] ∧ BookV K C H x B ∧ IT K H q ps ∧ o < B.ar.length ∧ B.ar.getD o 0 = ps.length ∧ Q (.bl true) H
theorem ok_is_row_of (T : Txt K mg a) : FnOk P w K mg base CX0 1 a.f_is_row_of a.d_is_row_of ["book", "op", "parts"] (spIsRowOf K a.c_Book) := by
  refine T.F_is_row_of.ok sc_is_row_of (fun vs H Q E h => ?_) (fun cdv A outer s H vs Q E hr h => ?_)
  · obtain ⟨x, q, B, o, ps, rfl, _⟩ := h
    rfl
  obtain ⟨x, q, B, o, ps, rfl, ⟨dx, pa, pr, pm, h1, h2, h3, h4⟩, hq, ho, e, k⟩ := h
  have hix : atI (B.ar.map nv) (o : Int) = some (nv (B.ar.getD o 0)) := atI_nat (by rw [List.getElem?_map, List.getElem?_eq_getElem ho, gd ho]; rfl)
  refine ⟨_, (pss_one (ps_ret (pe_and (pe_cmpR op_lt (pv 1) (pe_callB call_len_seq (by rfl) T.z_len PySem.boot_len (pa_cons (pe_fld (pv 0) rfl) pa_nil)) (nomark _)) (pe_one (pe_cmpR op_eq (pe_ix ix_tup (pe_fld (pv 0) rfl) (pv 1) (fun _ _ => rfl)) (pe_callB call_len_seq (by rfl) T.z_len PySem.boot_len (pa_cons (pv 2) pa_nil)) (nomark _)))))), ?_⟩
  refine ⟨_, rfl, _, rfl, x, a.c_Book, dx, _, _, rfl, h1, T.C_Book, T.N_arities, rfl, pa, _, rfl, .inr h2, _, _, rfl, rfl, _, rfl, iteC (decide_eq_true (by rw [List.length_map]; omega)) ?_⟩
  refine ⟨_, rfl, x, a.c_Book, dx, _, _, rfl, h1, T.C_Book, T.N_arities, rfl, _, rfl, pa, _, _, _, rfl, rfl, h2, hix, _, rfl, q, _, rfl, .inr hq, rfl, ?_⟩
  have e1 : decide (nv (B.ar.getD o 0) = V.int (((ps.map nv).length : Nat) : Int)) = true := decide_eq_true (by rw [List.length_map, e]; rfl)
  rw [e1]
  exact k
def spFits (K : PySem.W.Frag) (a : Adr) : Sp := fun vs H Q _ => ∃ (x y : Addr) (B : Bk) (R : List Row), vs = [.ref x, .ref y] ∧ BW K a H x y B R ∧ ∀ H', Same H H' → Q (.bl true) H'
theorem ok_fits (T : Txt K mg a) : FnOk P w K mg base CX0 2 a.f_fits a.d_fits ["book", "web"] (spFits K a) := by
  have G_is_row_of := ok_is_row_of (P := P) (w := w) (base := base) T
  refine T.F_fits.ok sc_fits (fun vs H Q E h => ?_) (fun cdv A outer s H vs Q E hr h => ?_)
  · obtain ⟨x, y, B, R, rfl, _⟩ := h
    rfl
  obtain ⟨x, y, B, R, rfl, W, k⟩ := h
  obtain ⟨dx, pa, pr, pm, hx, hx2⟩ := id W.b
  obtain ⟨dy, q, hy, ⟨ws, hw, hwl, hrow⟩⟩ := id W.r
  refine ⟨_, (pss_one (ps_ret (pe_and (pe_callB (C8.call_isC T.I_Book) (by rfl) T.z_isinstance (by decide +kernel) (pa_cons (pv 0) (pa_cons (pe_glob (v := .ref a.c_Book) rfl T.g_Book rfl) pa_nil))) (pe_and (pe_callB (C8.call_isC T.I_Web) (by rfl) T.z_isinstance (by decide +kernel) (pa_cons (pv 1) (pa_cons (pe_glob (v := .ref a.c_Web) rfl T.g_Web rfl) pa_nil))) (pe_one (pe_callB (cr_all rfl) (by rfl) T.z_all (by decide +kernel) (pa_cons (pe_lc (own := [("op", 2), ("parts", 3)]) (g := gTup K 2 (gCons (gName 2) (gCons (gName 3) gNil))) (tt := tYes) rfl sc_fits.nd (pi_tup (pe_fld (pv 1) rfl)) (blkOk_by (N := ["book", "web", "op", "parts"]) (sc := defScope s_fits) (by decide +kernel)) (fun _ _ _ _ _ => pg_tup rfl (pgs_cons (pg_name (i := 2) sc_fits.nd rfl (Or.inl rfl)) (pgs_cons (pg_name (i := 3) sc_fits.nd rfl (Or.inl rfl)) pgs_nil))) (fun _ _ _ _ _ => pts_nil) (fun _ _ _ _ _ => (pe_call G_is_row_of (hr.mono (by decide)) rfl T.g_is_row_of T.k_is_row_of T.b_is_row_of .nil pass0 (pa_cons (pv 0) (pa_cons (pv 2) (pa_cons (pv 3) pa_nil)))))) pa_nil))))))), ?_⟩
  refine ⟨_, rfl, x, dx, _, rfl, hx, _, rfl, ?_⟩
  refine ⟨_, rfl, y, dy, _, rfl, hy, _, rfl, ?_⟩
  refine ⟨_, rfl, y, a.c_Web, dy, _, _, rfl, hy, T.C_Web, T.N_rows, rfl, q, rfl, ⟨_, hw⟩, fun D hD => ?_⟩
  refine lc_tup (xs := ws) (fun j H' => Same H H' ∧ H' D = some (.lst ((List.replicate j true).map V.bl))) ⟨same_new hD, upd_same⟩ (fun j H' _ z => (Tk.of z.1).t hw) (fun j v H' hx z => ?_) (fun H' z => ?_)
  · have hj : j < R.length := by
      rw [← hwl]
      exact (List.getElem?_eq_some_iff.mp hx).1
    obtain ⟨pv, qv, rfl, hp, hq⟩ := (hrow j v hx).tk (Tk.of z.1)
    obtain ⟨f1, f2⟩ := W.f j hj
    refine ⟨pv, _, rfl, hp, rfl, _, _, rfl, _, _, rfl, rfl, ?_⟩
    refine ⟨rfl, ?_⟩
    refine ⟨_, rfl, _, rfl, _, rfl, x, qv, B, _, _, rfl, W.b.tk (Tk.of z.1), hq, f1, f2, ?_⟩
    refine ⟨_, z.2, ?_, fun b o e => ?_, ?_⟩
    · rw [List.length_map, List.length_replicate]
      exact small1000 (by have := W.l; omega)
    · rw [upd_ne (ne_of_none e hD)]
      exact z.1 b o e
    · rw [upd_same, List.replicate_succ', List.map_append]
      rfl
  · refine ⟨D, _, rfl, .inl (.inl z.2), ?_⟩
    have e1 : (List.replicate ws.length true).all id = true := by simp
    rw [e1]
    exact k H' z.1
def spCheckWeb (K : PySem.W.Frag) (a : Adr) : Sp := fun vs H Q _ => ∃ (x y : Addr) (B : Bk) (R : List Row), vs = [.ref x, .ref y] ∧ BW K a H x y B R ∧ ∀ H', Same H H' → Q .non H'
theorem ok_check_web (T : Txt K mg a) : FnOk P w K mg base CX0 3 a.f_check_web a.d_check_web ["book", "web"] (spCheckWeb K a) := by
  have G_fits := ok_fits (P := P) (w := w) (base := base) T
  refine T.F_check_web.ok sc_check_web (fun vs H Q E h => ?_) (fun cdv A outer s H vs Q E hr h => ?_)
  · obtain ⟨x, y, B, R, rfl, _⟩ := h
    rfl
  obtain ⟨x, y, B, R, rfl, W, k⟩ := h
  refine ⟨_, (pss_one (ps_if (pt_not (pt_val (pe_call G_fits (hr.mono (by decide)) rfl T.g_fits T.k_fits T.b_fits .nil pass0 (pa_cons (pv 0) (pa_cons (pv 1) pa_nil)))))
    (pss_one ps_never)
    pss_nil)), ?_⟩
  exact ⟨_, rfl, _, rfl, x, y, B, R, rfl, W, fun H1 s1 => ⟨_, rfl, iteF (k H1 s1)⟩⟩
def spIsThing (K : PySem.W.Frag) (a : Adr) : Sp := fun vs H Q _ => ∃ (x y c : Addr) (B : Bk) (R : List Row) (t : Th), vs = [.ref x, .ref y, .ref c] ∧ BW K a H x y B R ∧ SqT K H c [nv t.1, nv t.2] ∧ t.1 < R.length ∧ t.2 < B.nk ∧ Q (.bl true) H
theorem ok_is_thing (T : Txt K mg a) : FnOk P w K mg base CX0 3 a.f_is_thing a.d_is_thing ["book", "web", "thing"] (spIsThing K a) := by
  have G_is_between := ok_is_between (P := P) (w := w) (base := base) T
  have G_is_tuple_of := ok_is_tuple_of (P := P) (w := w) (base := base) T
  refine T.F_is_thing.ok sc_is_thing (fun vs H Q E h => ?_) (fun cdv A outer s H vs Q E hr h => ?_)
  · obtain ⟨x, y, c, B, R, t, rfl, _⟩ := h
    rfl
  obtain ⟨x, y, c, B, R, t, rfl, W, hc, h1, h2, k⟩ := h
  obtain ⟨dx, pa, pr, pm, hx, hx2⟩ := id W.b
  obtain ⟨dy, q, hy, ⟨ws, hw, hwl, hrow⟩⟩ := id W.r
  refine ⟨_, (pss_one (ps_ret (pe_and (pe_call G_is_tuple_of (hr.mono (by decide)) rfl T.g_is_tuple_of T.k_is_tuple_of T.b_is_tuple_of .nil pass0 (pa_cons pe_int (pa_cons pe_int (pa_cons (pv 2) pa_nil)))) (pe_and (pe_call G_is_between (hr.mono (by decide)) rfl T.g_is_between T.k_is_between T.b_is_between .nil pass0 (pa_cons pe_int (pa_cons (pe_op op_sub (pe_callB call_len_seq (by rfl) T.z_len PySem.boot_len (pa_cons (pe_fld (pv 1) rfl) pa_nil)) pe_int) (pa_cons (pe_ix ix_tup (pv 2) pe_int (fun _ _ => rfl)) pa_nil)))) (pe_one (pe_call G_is_between (hr.mono (by decide)) rfl T.g_is_between T.k_is_between T.b_is_between .nil pass0 (pa_cons pe_int (pa_cons (pe_op op_sub (pe_fld (pv 0) rfl) pe_int) (pa_cons (pe_ix ix_tup (pv 2) pe_int (fun _ _ => rfl)) pa_nil))))))))), ?_⟩
  refine ⟨_, rfl, .ref c, "tuple", 2, 2, rfl, .tup, tyT hc, .inr ⟨c, _, rfl, rfl, hc, ?_⟩⟩
  refine ⟨_, rfl, iteT ?_⟩
  refine ⟨_, rfl, y, a.c_Web, dy, _, _, rfl, hy, T.C_Web, T.N_rows, rfl, q, _, rfl, .inr hw, _, _, rfl, rfl, _, rfl, c, _, _, _, rfl, rfl, hc, rfl, nv t.1, "int", 0, _, rfl, .int, .base (.int _), .inr ⟨_, rfl, rfl, ?_⟩⟩
  refine ⟨_, rfl, iteC (both (by omega) (by rw [hwl]; omega)) ?_⟩
  refine ⟨_, rfl, x, a.c_Book, dx, _, _, rfl, hx, T.C_Book, T.N_kinds, rfl, _, _, rfl, rfl, _, rfl, c, _, _, _, rfl, rfl, hc, rfl, nv t.2, "int", 0, _, rfl, .int, .base (.int _), .inr ⟨_, rfl, rfl, ?_⟩⟩
  rw [both (by omega) (by omega)]
  exact k
def spCheckThing (K : PySem.W.Frag) (a : Adr) : Sp := fun vs H Q _ => ∃ (x y c : Addr) (B : Bk) (R : List Row) (t : Th), vs = [.ref x, .ref y, .ref c] ∧ BW K a H x y B R ∧ SqT K H c [nv t.1, nv t.2] ∧ t.1 < R.length ∧ t.2 < B.nk ∧ Q .non H
theorem ok_check_thing (T : Txt K mg a) : FnOk P w K mg base CX0 4 a.f_check_thing a.d_check_thing ["book", "web", "thing"] (spCheckThing K a) := by
  have G_is_thing := ok_is_thing (P := P) (w := w) (base := base) T
  refine T.F_check_thing.ok sc_check_thing (fun vs H Q E h => ?_) (fun cdv A outer s H vs Q E hr h => ?_)
  · obtain ⟨x, y, c, B, R, t, rfl, _⟩ := h
    rfl
  obtain ⟨x, y, c, B, R, t, rfl, W, hc, h1, h2, k⟩ := h
  refine ⟨_, (pss_one (ps_if (pt_not (pt_val (pe_call G_is_thing (hr.mono (by decide)) rfl T.g_is_thing T.k_is_thing T.b_is_thing .nil pass0 (pa_cons (pv 0) (pa_cons (pv 1) (pa_cons (pv 2) pa_nil))))))
    (pss_one ps_never)
    pss_nil)), ?_⟩
  exact ⟨_, rfl, _, rfl, _, rfl, x, y, c, B, R, t, rfl, W, hc, h1, h2, _, rfl, iteF k⟩
end
end Lk
namespace Lk
open PySem L2
section
variable {K : PySem.W.Frag}
theorem same_at {H0 H1 : Hp} {D : Addr} {o : HO} (s : Same H0 H1) (hD : H0 D = none) : Same H0 (upd H1 D o) := fun b u q => by
  rw [upd_ne (ne_of_none q hD)]
  exact s b u q
theorem ways_push {H : Hp} {D p : Addr} {us : List V} {ws : List Wy} {b : Bool} {k : Nat} (e : H D = some (.lst us)) (h : PL (WayV K H) us ws) (hp : H p = none) : WaysL K (upd (upd H p (.tup [.str (wd b), nv k])) D (.lst (us ++ [.ref p]))) D (ws ++ [(b, k)]) := by
  have e1 : (upd H p (.tup [.str (wd b), nv k])) D = some (.lst us) := by
    rw [upd_ne (ne_of_none e hp)]
    exact e
  have t : TT K H (upd (upd H p (.tup [.str (wd b), nv k])) D (.lst (us ++ [.ref p]))) := (tt_new hp).trans (tt_lst e1)
  exact ⟨_, upd_same, (h.mono fun _ _ q => q.tt t).snoc ⟨p, rfl, (tt_lst e1).t _ _ (.inl (.inl upd_same))⟩⟩
theorem none_of {H H' : Hp} {D : Addr} (s : Same H H') (h : H' D = none) : H D = none := by
  cases e : H D with
  | none => rfl
  | some o => rw [s _ _ e] at h; cases h
def fl (p : Nat → Bool) (i : Nat) : List Nat := (List.range i).filter p
theorem fl_yes {p : Nat → Bool} {i : Nat} (h : p i = true) : fl p (i + 1) = fl p i ++ [i] := by
  unfold fl
  rw [List.range_succ, List.filter_append, List.filter_cons, if_pos h]
  rfl
theorem fl_no {p : Nat → Bool} {i : Nat} (h : p i = false) : fl p (i + 1) = fl p i := by
  unfold fl
  rw [List.range_succ, List.filter_append, List.filter_cons, if_neg (by rw [h]; decide), List.filter_nil, List.append_nil]
theorem fl_len (p : Nat → Bool) (i : Nat) : (fl p i).length ≤ i := by
  have := List.length_filter_le p (List.range i)
  rw [List.length_range] at this
  exact this
end
section
variable {P : Program} {w : World} {K : PySem.W.Frag} {mg : Str → Option Value} {base : Heap} {a : Adr}
def spWaysTo (K : PySem.W.Frag) (a : Adr) : Sp := fun vs H Q _ => ∃ (x y c : Addr) (B : Bk) (R : List Row) (t : Th), vs = [.ref x, .ref y, .ref c] ∧ BW K a H x y B R ∧ SqT K H c [nv t.1, nv t.2] ∧ t.1 < R.length ∧ ∀ l H', Same H H' → H l = none → WaysL K H' l (waysM B R t) → Q (.ref l) H'
theorem ok_ways_to (T : Txt K mg a) : FnOk P w K mg base CX0 1 a.f_ways_to a.d_ways_to ["book", "web", "thing"] (spWaysTo K a) := by
  refine T.F_ways_to.ok sc_ways_to (fun vs H Q E h => ?_) (fun cdv A outer s H vs Q E hr h => ?_)
  · obtain ⟨x, y, c, B, R, t, rfl, _⟩ := h
    rfl
  obtain ⟨x, y, c, B, R, t, rfl, W, hc, h1, k⟩ := h
  obtain ⟨dx, pa, pr, pm, hx, hx2, ⟨wr, hr1, hr2⟩, ⟨wm, hm1, hm2⟩⟩ := id W.b
  obtain ⟨dy, q, hy, hRT⟩ := id W.r
  obtain ⟨ws, hw, hwl, hrow⟩ := hRT
  obtain ⟨vr, hvr1, pR, qR, rfl, hp, hq⟩ := at_row hwl hrow h1
  refine ⟨_, (pss_cons (ps_asg (pv 2) (pg_tup (by rfl) (pgs_cons (pg_name (i := 3) sc_ways_to.nd rfl (Or.inl rfl)) (pgs_cons (pg_name (i := 4) sc_ways_to.nd rfl (Or.inr rfl)) pgs_nil))))
  (pss_cons (ps_set (i := 5) sc_ways_to.nd rfl (Or.inr rfl) (pe_ix ix_tup (pe_ix ix_tup (pe_fld (pv 1) rfl) (pv 3) (fun _ _ => rfl)) pe_int (fun _ _ => rfl)))
  (pss_cons (ps_setLc (i := 6) (own := [("k", 8), ("move", 9)]) (g := gTup K 2 (gCons (gName 8) (gCons (gName 9) gNil))) (tt := _) rfl sc_ways_to.nd rfl rfl (sw_true rfl rfl rfl (by decide +kernel)) (EnT.pi_enumT rfl T.z_enumerate (pa_cons (pe_fld (pv 0) rfl) pa_nil)) (blkOk_by (N := ["book", "web", "thing", "value", "wanted", "op", "by_move", "by_rule", "k", "move", "rule"]) (sc := defScope s_ways_to) (by decide +kernel)) (fun _ _ _ _ _ => pg_tup rfl (pgs_cons (pg_name (i := 8) sc_ways_to.nd rfl (Or.inl rfl)) (pgs_cons (pg_name (i := 9) sc_ways_to.nd rfl (Or.inl rfl)) pgs_nil))) (fun _ _ _ _ _ => (pts_one (pt_cmpR op_eq (pe_ix (ixT (K := K) rfl) (pv 9) pe_int (fun _ _ => rfl)) (pv 4) (nomark _)))) (fun _ _ _ _ _ => (pe_tup (pa_cons pe_str (pa_cons (pv 8) pa_nil)))))
  (pss_cons (ps_setLc (i := 7) (own := [("k", 8), ("rule", 10)]) (g := gTup K 2 (gCons (gName 8) (gCons (gName 10) gNil))) (tt := _) rfl sc_ways_to.nd rfl rfl (sw_true rfl rfl rfl (by decide +kernel)) (EnT.pi_enumT rfl T.z_enumerate (pa_cons (pe_fld (pv 0) rfl) pa_nil)) (blkOk_by (N := ["book", "web", "thing", "value", "wanted", "op", "by_move", "by_rule", "k", "move", "rule"]) (sc := defScope s_ways_to) (by decide +kernel)) (fun _ _ _ _ _ => pg_tup rfl (pgs_cons (pg_name (i := 8) sc_ways_to.nd rfl (Or.inl rfl)) (pgs_cons (pg_name (i := 10) sc_ways_to.nd rfl (Or.inl rfl)) pgs_nil))) (fun _ _ _ _ _ => (pts_one (PW.pt (pw_and (pt_cmpR op_eq (pe_ix (ixT (K := K) rfl) (pv 10) pe_int (fun _ _ => rfl)) (pv 5) (nomark _)) (pw_and1 (pt_cmpR op_eq (pe_ix (ixT (K := K) rfl) (pv 10) pe_int (fun _ _ => rfl)) (pv 4) (nomark _))))))) (fun _ _ _ _ _ => (pe_tup (pa_cons pe_str (pa_cons (pv 8) pa_nil)))))
  (pss_one (ps_ret (pe_op op_cat (pv 6) (pv 7)))))))), ?_⟩
  refine ⟨_, rfl, c, _, rfl, hc, rfl, _, _, rfl, _, _, rfl, rfl, ?_⟩
  refine ⟨_, rfl, y, a.c_Web, dy, _, _, rfl, hy, T.C_Web, T.N_rows, rfl, _, rfl, q, _, _, _, rfl, rfl, hw, hvr1, pR, _, _, _, rfl, rfl, hp, rfl, ?_⟩
  -- the moves
  refine ⟨_, rfl, x, a.c_Book, dx, _, _, rfl, hx, T.C_Book, T.N_moves, rfl, pm, wm, rfl, hm1, fun D hD => ?_⟩
  refine lc_it (EnT.walkE (xs := wm)) (fun i H' => Same H H' ∧ WaysL K H' D ((fl (fun k => decide ((mAt B.ms k).kind = t.2)) i).map fun k => (false, k))) ⟨same_new hD, [], upd_same, PL.nil⟩ (fun i H' _ z => (Tk.of z.1).t hm1) (fun i v H1 H2 hi z hy' => ?_) (fun H1 z => ?_)
  · obtain ⟨s1, us, eD, hpl⟩ := z
    obtain ⟨tt, y1, y2, rfl, ht, rfl, e1, e2⟩ := hy'
    cases e1
    have hi' : i < B.ms.length := by
      rw [← hm2.1]
      exact hi
    have s2 : Same H (upd H1 tt (.tup [.int (i : Nat), y2])) := s1.trans (same_new ht)
    obtain ⟨pw, rfl, hpw⟩ := (hm2.2 i y2 _ e2 (mAt_of hi')).tt (Same_tt s2)
    refine ⟨tt, _, rfl, .inl (.inl upd_same), rfl, _, _, rfl, _, _, rfl, rfl, ?_⟩
    refine ⟨rfl, ?_⟩
    refine ⟨_, rfl, pw, _, _, _, rfl, rfl, hpw, rfl, _, rfl, rfl, _, rfl, ite2 (fun hb => ?_) (fun hb => ?_)⟩
    · have hk : (mAt B.ms i).kind = t.2 := by
        have := V.int.inj (of_decide_eq_true hb)
        omega
      refine ⟨_, rfl, (by decide : 2 ≤ sizeLine), fun p hp => ?_⟩
      have eD2 : (upd H1 tt (.tup [.int (i : Nat), .ref pw])) D = some (.lst us) := by
        rw [upd_ne (ne_of_none eD ht)]
        exact eD
      refine ⟨us, by rw [upd_ne (ne_of_none eD2 hp)]; exact eD2, ?_, same_at (s2.trans (same_new hp)) hD, ?_⟩
      · rw [hpl.1, List.length_map]
        have := fl_len (fun k => decide ((mAt B.ms k).kind = t.2)) i
        have := W.g.m1
        exact lt_line (by omega)
      · rw [fl_yes (decide_eq_true hk), List.map_append]
        exact ways_push (b := false) eD2 (hpl.mono fun _ _ q => q.tt (tt_new ht)) hp
    · have hk : ¬ (mAt B.ms i).kind = t.2 := fun e => by
        have : decide (nv (mAt B.ms i).kind = nv t.2) = true := decide_eq_true (by rw [e])
        exact hb this
      refine ⟨s2, ?_⟩
      rw [fl_no (decide_eq_false hk)]
      exact ⟨us, by rw [upd_ne (ne_of_none eD ht)]; exact eD, hpl.mono fun _ _ q => q.tt (tt_new ht)⟩
  -- the rules
  obtain ⟨s1, hL1⟩ := z
  have W1 := W.same s1
  have hx1 := s1 _ _ hx
  have hr1' := (Tk.of s1).t hr1
  refine ⟨_, rfl, x, a.c_Book, dx, _, _, rfl, hx1, T.C_Book, T.N_rules, rfl, pr, wr, rfl, hr1', fun D2 hD2 => ?_⟩
  have hD2' : H D2 = none := none_of s1 hD2
  refine lc_it (EnT.walkE (xs := wr)) (fun i H' => Same H1 H' ∧ WaysL K H' D2 ((fl (fun k => decide ((rAt B.rs k).op = (rowAt R t.1).1) && decide ((rAt B.rs k).kind = t.2)) i).map fun k => (true, k))) ⟨same_new hD2, [], upd_same, PL.nil⟩ (fun i H' _ z => (Tk.of z.1).t hr1') (fun i v H2 H3 hi z hy' => ?_) (fun H2 z => ?_)
  · obtain ⟨s2, us, eD, hpl⟩ := z
    obtain ⟨tt, y1, y2, rfl, ht, rfl, e1, e2⟩ := hy'
    cases e1
    have hi' : i < B.rs.length := by
      rw [← hr2.1]
      exact hi
    have s3 : Same H1 (upd H2 tt (.tup [.int (i : Nat), y2])) := s2.trans (same_new ht)
    obtain ⟨pw, qw, rfl, hpw, hqw⟩ := (hr2.2 i y2 _ e2 (rAt_of hi')).tt (Same_tt (s1.trans s3))
    refine ⟨tt, _, rfl, .inl (.inl upd_same), rfl, _, _, rfl, _, _, rfl, rfl, ?_⟩
    refine ⟨rfl, ?_⟩
    refine ⟨_, rfl, pw, _, _, _, rfl, rfl, hpw, rfl, _, rfl, rfl, _, rfl, ite2 (fun hb => ?_) (fun hb => ?_)⟩
    · have hk : (rAt B.rs i).op = (rowAt R t.1).1 := by
        have := V.int.inj (of_decide_eq_true hb)
        omega
      refine ⟨_, rfl, pw, _, _, _, rfl, rfl, hpw, rfl, _, rfl, rfl, _, rfl, ite2 (fun hb2 => ?_) (fun hb2 => ?_)⟩
      · have hk2 : (rAt B.rs i).kind = t.2 := by
          have := V.int.inj (of_decide_eq_true hb2)
          omega
        refine ⟨_, rfl, (by decide : 2 ≤ sizeLine), fun p hp => ?_⟩
        have eD2 : (upd H2 tt (.tup [.int (i : Nat), .ref pw])) D2 = some (.lst us) := by
          rw [upd_ne (ne_of_none eD ht)]
          exact eD
        refine ⟨us, by rw [upd_ne (ne_of_none eD2 hp)]; exact eD2, ?_, same_at (s3.trans (same_new hp)) hD2, ?_⟩
        · rw [hpl.1, List.length_map]
          have := fl_len (fun k => decide ((rAt B.rs k).op = (rowAt R t.1).1) && decide ((rAt B.rs k).kind = t.2)) i
          have := W.g.r1
          exact lt_line (by omega)
        · rw [fl_yes (both hk hk2), List.map_append]
          exact ways_push (b := true) eD2 (hpl.mono fun _ _ q => q.tt (tt_new ht)) hp
      · have hk2 : ¬ (rAt B.rs i).kind = t.2 := fun e => by
          have : decide (nv (rAt B.rs i).kind = nv t.2) = true := decide_eq_true (by rw [e])
          exact hb2 this
        refine ⟨s3, ?_⟩
        rw [fl_no (by rw [decide_eq_false hk2, Bool.and_false])]
        exact ⟨us, by rw [upd_ne (ne_of_none eD ht)]; exact eD, hpl.mono fun _ _ q => q.tt (tt_new ht)⟩
    · have hk : ¬ (rAt B.rs i).op = (rowAt R t.1).1 := fun e => by
        have : decide (nv (rAt B.rs i).op = nv (rowAt R t.1).1) = true := decide_eq_true (by rw [e])
        exact hb this
      refine ⟨s3, ?_⟩
      rw [fl_no (by rw [decide_eq_false hk, Bool.false_and])]
      exact ⟨us, by rw [upd_ne (ne_of_none eD ht)]; exact eD, hpl.mono fun _ _ q => q.tt (tt_new ht)⟩
  -- together
  obtain ⟨s2, us2, e2, hl2⟩ := z
  obtain ⟨us1, e1, hl1⟩ := hL1
  have e1' := s2 _ _ e1
  refine ⟨_, rfl, _, rfl, D, D2, us1, us2, rfl, rfl, e1', e2, ?_, fun p hp => ?_⟩
  · rw [hl1.1, hl2.1, List.length_map, List.length_map]
    have := fl_len (fun k => decide ((mAt B.ms k).kind = t.2)) wm.length
    have := fl_len (fun k => decide ((rAt B.rs k).op = (rowAt R t.1).1) && decide ((rAt B.rs k).kind = t.2)) wr.length
    have := W.g.r1
    have := W.g.m1
    have h3 := hm2.1
    have h4 := hr2.1
    exact Nat.le_of_lt (lt_line (by omega))
  · refine k p _ ((s1.trans s2).trans (same_new hp)) (none_of (s1.trans s2) hp) ⟨us1 ++ us2, upd_same, ?_⟩
    have := (hl1.mono fun _ _ q => q.tt (Same_tt s2)).app hl2
    rw [hm2.1, hr2.1] at this
    exact this.mono fun _ _ q => q.tt (tt_new hp)
end
end Lk
/-! a dict comprehension with tuple keys stored in a local name -/
namespace DcG
open PySem PySem.Spec PyProof.Rows L2
variable {X : Cx}
theorem ps_setDcT {i : Nat} {y : Str} {py : Pos} {kx vx tg it0 : Expr} {ifs : List Expr} {scp : Scope} {own : List (Str × Nat)} {pos spos : Pos} {wi : TI} {g : TG} {tt : TT} {tk tv : TE} (hu : X.A.units + 1 < cLine) (hc : X.calm = true) (hN : X.N.Nodup) (hy : X.N[i]? = some y) (hyl : X.env.scope.names.lookup y = some .local)
    (hsw : swapsWith (.DictComp kx vx [⟨tg, it0, ifs, 0⟩] scp pos) (some (.Name y py)) spos.line X.env = pure true) (hi : PI X tg it0 wi) (ok : BlkOk X.N X.env.scope scp own)
    (hg : ∀ (s : Shared) (H : Hp) (C : Addr) (cl : List (Str × Addr)) (fp : List Addr), PG (X.blk s H scp (compEnvC scp cl C X.env) fp) tg g)
    (ht : ∀ (s : Shared) (H : Hp) (C : Addr) (cl : List (Str × Addr)) (fp : List Addr), PTs (X.blk s H scp (compEnvC scp cl C X.env) fp) ifs tt)
    (hk : ∀ (s : Shared) (H : Hp) (C : Addr) (cl : List (Str × Addr)) (fp : List Addr), PE (X.blk s H scp (compEnvC scp cl C X.env) fp) kx tk)
    (he : ∀ (s : Shared) (H : Hp) (C : Addr) (cl : List (Str × Addr)) (fp : List Addr), PE (X.blk s H scp (compEnvC scp cl C X.env) fp) vx tv) (hs : ∀ x, foldedSetIterable it0 X.env x = pure x := by intro _; rfl) :
    PS X (.Assign [.Name y py] (.DictComp kx vx [⟨tg, it0, ifs, 0⟩] scp pos) spos) (tAsg (tDg (.dT []) wi g tt tk tv (own.map (·.2))) (gName i)) := by
  refine ⟨fun pins s σ H D I h => ?_⟩
  rw [exec_Assign_Name_used _ _ _ _ hsw]
  refine wpAny_bind (wpAny_standAt (wpAny_bind ?_))
  show wpAny _ X.A (do let _ ← comprehension (.DictComp kx vx [⟨tg, it0, ifs, 0⟩] scp pos) scp X.env (firstIterPos [⟨tg, it0, ifs, 0⟩] pos) newDict false (eval it0 X.env) (some (assign (.Name y py) X.env))) _ _ s
  have h : tDg (.dT []) wi g tt tk tv (own.map (·.2)) σ H (fun x H1 => gName i x σ H1 D.nx) := h
  refine wpAny_bind (thn (core (Qf := fun _ s' => SP X pins D .next s') (fun _ _ _ h hb => dt_empty h hb) hu hc hN I hi ok hg ht hk he hs h fun L C s' m H' I' q hn f => ?_) fun _ s' hq => wpAny_pure (wpAny_pure hq))
  show wpAny _ _ (assign (.Name y py) X.env (.ref L)) _ _ _
  refine wpAny_assign_Name (store_ok2 (v := V.ref L) I' hN hy (.inl hyl) rfl (fun s2 I2 ⟨a, sb, ha⟩ => ?_) (.inr hyl))
  obtain ⟨f0, f1, f2, f3, f4, f5⟩ := f
  have haC : C ≠ a := by
    rcases ha with z | z
    · rw [z]; exact f1
    · exact fun e => f4 y a z e.symm
  refine ⟨m, hn.sameBut sb haC, fun h3 sb3 => ?_⟩
  exact ⟨_, H', I2.turned (t' := s2.toks) (fun b o hb e => (sb3.2 b hb).trans e) f0 f1 f3 f4 f5, q⟩
theorem sw_trueD {kx vx : Expr} {gs : List Comprehension} {scope : Scope} {pos py : Pos} {y : Str} {l : Nat} {env : Env} (hk : env.scope.kind = .function) (hy : env.scope.names.lookup y = some .local) (hl : (py.line == pos.line) = true)
    (ha : (scope.names.any fun (n, k) => n == y && (k == .local || k == .cell)) = false) : swapsWith (.DictComp kx vx gs scope pos) (some (.Name y py)) l env = pure true := by
  have ky : env.kindOf y = some .local := hy
  have hb : env.blockKind = .function := by unfold Env.blockKind; rw [hk]; rfl
  unfold swapsWith
  simp only [hb, ky, ha, Expr.pos, hl]
  rfl
theorem pc_ofR {a b : Expr} {op : CmpOp} {r : R2} {ta tb : TE} (ho : OpR X (compareOp op) r) (ha : PE X a ta) (hb : PE X b tb) : PC X op a b (tOp r ta tb) :=
  ⟨fun pins s σ H Q I h => binT ha hb I h fun v u s2 x y H2 I2 rx ry q => ho pins s2 σ H2 x y v u Q I2 rx ry q⟩
end DcG
/-! list(zip(t, u)), t and u two tuples of one length -/
namespace LZp
open PySem PySem.Spec PyProof.Rows L2 ZpN
theorem zip_no_len : typeLookup (.type "zip") "__len__" = pure none := by rw [typeLookup_type, builtinLookup_eq_fast]; kernel_rfl
theorem zip_no_hint : typeLookup (.type "zip") "__length_hint__" = pure none := by rw [typeLookup_type, builtinLookup_eq_fast]; kernel_rfl
section
variable {prog : Program} {w : World} {A : Around} {s : Shared} {R : Result → Shared → Prop} {z TI TO i1 i2 l1 l2 : Addr} {xs ys : Array Value}
structure ZS (z TI TO i1 i2 l1 l2 : Addr) (xs ys : Array Value) (k : Nat) (h : Heap) : Prop where
  at_ : At h z TI TO
  ti : IsPair h TI (.ref i1) (.ref i2)
  to : ∃ a b, IsPair h TO a b
  i1 : h.IsTupleIter i1 l1 k
  i2 : h.IsTupleIter i2 l2 k
  l1 : h.IsTuple l1 xs
  l2 : h.IsTuple l2 ys
/-- the pairs made so far -/
structure G (xs ys : Array Value) (lo : Addr) (h : Heap) (as : List Addr) : Prop where
  rise : as.Pairwise (· < ·)
  above : ∀ a ∈ as, lo < a
  pairs : ∀ (j : Nat) (a : Addr), as[j]? = some a → ∃ x y, xs[j]? = some x ∧ ys[j]? = some y ∧ IsPair h a x y
theorem ZS.keep {h h' : Heap} {k : Nat} (x : ZS z TI TO i1 i2 l1 l2 xs ys k h) (hk : ∀ b, b = z ∨ b = TI ∨ b = TO ∨ b = i1 ∨ b = i2 ∨ b = l1 ∨ b = l2 → ∀ o, h.get? b = some o → h'.get? b = some o) : ZS z TI TO i1 i2 l1 l2 xs ys k h' := by
  obtain ⟨⟨o1, f, ho, e1⟩, e2, ⟨a, b, e3⟩, e4, e5, e6, e7⟩ := x
  refine ⟨⟨o1, f, ho, hk _ (by simp) _ e1⟩, hk _ (by simp) _ e2, ⟨a, b, hk _ (by simp) _ e3⟩, ?_, ?_, ?_, ?_⟩
  · obtain ⟨o, e, r⟩ := e4
    exact ⟨o, hk _ (by simp) _ e, r⟩
  · obtain ⟨o, e, r⟩ := e5
    exact ⟨o, hk _ (by simp) _ e, r⟩
  · obtain ⟨o, e, r⟩ := e6
    exact ⟨o, hk _ (by simp) _ e, r⟩
  · obtain ⟨o, e, r⟩ := e7
    exact ⟨o, hk _ (by simp) _ e, r⟩
theorem loop {S : Addr} (hh : A.handled = none) (D : ZipApart z TI TO i1 i2 l1 l2) (hsz : xs.size = ys.size) (hn : xs.size ≤ sizeLine) (lt : ∀ b, b = z ∨ b = TI ∨ b = TO ∨ b = i1 ∨ b = i2 ∨ b = l1 ∨ b = l2 → b < S) (res : Value) {h₁ : Heap}
    (hR : ∀ h' tk acc c as, (∀ b o, b ≠ S → b ≠ z → b ≠ TO → b ≠ i1 → b ≠ i2 → h₁.get? b = some o → h'.get? b = some o) → h'.get? S = some { cls := .type "list", dict := none, data := .seq acc c, slots := #[] } → as.length = xs.size → G xs ys S h' as →
      acc.toList = as.map Value.ref → R (.ok (.ret res)) { s with heap := h', toks := tk }) :
    ∀ (k i : Nat) (h : Heap) (tk c : Nat) (acc : Array Value) (as : List Addr), xs.size - i = k → i ≤ xs.size → ZS z TI TO i1 i2 l1 l2 xs ys i h → (∀ b o, b ≠ S → b ≠ z → b ≠ TO → b ≠ i1 → b ≠ i2 → h₁.get? b = some o → h.get? b = some o) →
      h.get? S = some { cls := .type "list", dict := none, data := .seq acc c, slots := #[] } → acc.toList = as.map Value.ref → as.length = i → G xs ys S h as →
      codeAny (model prog w) A (.builtin "list.extend.loop" ⟨[.ref S, .ref z, res], []⟩) R { s with heap := h, toks := tk } := by
  have neS : ∀ b, b = z ∨ b = TI ∨ b = TO ∨ b = i1 ∨ b = i2 ∨ b = l1 ∨ b = l2 → b ≠ S := fun b hb => Nat.ne_of_lt (lt b hb)
  intro k
  induction k with
  | zero =>
    intro i h tk c acc as hk hi hst hkeep hS hacc hal hG
    have hin : i = xs.size := by omega
    obtain ⟨a1, a2, ⟨a, b, a3⟩, a4, a5, a6, a7⟩ := id hst
    refine codeAny_builtin PySem.F.entry_extend_loop ?_
    rw [Around.under_plainId PySem.F.plain_extend_loop _]
    show wpAny _ A.in1 (pyNext (.ref z) >>= _) _ _ _
    refine wpAny_bind (endP (s := { s with heap := h, toks := tk }) (A := A.in1) hh D a1 a2 a3 a4 a5 a6 a7 (Or.inl (by simp [hin])) fun h' he => ?_)
    refine wpAny_pure (hR h' tk acc c as (fun b o h1 h2 h3 h4 h5 e => he b o h2 h3 h4 h5 (hkeep b o h1 h2 h3 h4 h5 e)) (he S _ (neS _ (by simp)).symm (neS _ (by simp)).symm (neS _ (by simp)).symm (neS _ (by simp)).symm hS) (by omega) ⟨hG.rise, hG.above, fun j a hj => ?_⟩ hacc)
    obtain ⟨x, y, e1, e2, e3⟩ := hG.pairs j a hj
    have ab := hG.above a (List.mem_of_getElem? hj)
    have ne : ∀ b, b = z ∨ b = TI ∨ b = TO ∨ b = i1 ∨ b = i2 ∨ b = l1 ∨ b = l2 → a ≠ b := fun b hb => Nat.ne_of_gt (Nat.lt_trans (lt b hb) ab)
    exact ⟨x, y, e1, e2, he a _ (ne _ (by simp)) (ne _ (by simp)) (ne _ (by simp)) (ne _ (by simp)) e3⟩
  | succ k ih =>
    intro i h tk c acc as hk hi hst hkeep hS hacc hal hG
    have hlt : i < xs.size := by omega
    have hlt2 : i < ys.size := by omega
    have hasz : acc.size = i := by rw [← Array.length_toList, hacc, List.length_map, hal]
    obtain ⟨a1, a2, ⟨a, b, a3⟩, a4, a5, a6, a7⟩ := id hst
    refine codeAny_builtin PySem.F.entry_extend_loop ?_
    rw [Around.under_plainId PySem.F.plain_extend_loop _]
    show wpAny _ A.in1 (pyNext (.ref z) >>= _) _ _ _
    refine wpAny_bind (nextP (s := { s with heap := h, toks := tk }) D a1 a2 a3 a4 a5 a6 a7 (x := xs[i]) (y := ys[i]) (by simp [hlt]) (by simp [hlt2]) fun h' b1 b2 b3 b4 b5 b6 b7 => ?_)
    dsimp only at b5 b6 b7 ⊢
    have hS' := b7 S _ (neS _ (by simp)).symm (neS _ (by simp)).symm (neS _ (by simp)).symm (neS _ (by simp)).symm hS
    have up : ∀ b o, b ≠ S → h'.get? b = some o → (h'.update S (Obj.mapSeq (·.push (Value.ref h.objs.size)))).get? b = some o := fun b o hb e => (Heap.get?_update_other _ _ (Ne.symm hb)).trans e
    have hSl : S < h.objs.size := Heap.lt_size hS
    have st' : ZS z TI TO i1 i2 l1 l2 xs ys (i + 1) h' := by
      refine ⟨b1, b7 _ _ D.TIz D.TITO D.TIi1 D.TIi2 a2, b2, b3, b4, ?_, ?_⟩
      · obtain ⟨o, e, r⟩ := a6
        exact ⟨o, b7 _ _ D.l1z D.l1TO D.l1i1 D.l1i2 e, r⟩
      · obtain ⟨o, e, r⟩ := a7
        exact ⟨o, b7 _ _ D.l2z D.l2TO D.l2i1 D.l2i2 e, r⟩
    show wpAny _ A.in1 (updateSeq S (·.push (Value.ref h.objs.size)) >>= _) _ _ _
    refine wpAny_bind ?_
    refine wpAny_updateSeq hS' rfl (wpAny_pure ⟨plainId_quiet PySem.F.plain_extend_loop _, ih (i + 1) _ tk _ (acc.push (Value.ref h.objs.size)) (as ++ [h.objs.size]) (by omega) hlt (st'.keep fun b hb o e => up b o (neS b hb) e)
      (fun b o h1 h2 h3 h4 h5 e => up b o h1 (b7 b o h2 h3 h4 h5 (hkeep b o h1 h2 h3 h4 h5 e))) (Heap.get?_update_self _ hS' rfl) (by rw [Array.toList_push, hacc, List.map_append]; rfl) (by rw [List.length_append, hal]; rfl) ⟨?_, ?_, ?_⟩⟩) (by rw [hasz]; omega) (by show (acc.push (Value.ref h.objs.size)).size ≤ sizeLine + 1; rw [Array.size_push, hasz]; omega)
    · refine List.pairwise_append.mpr ⟨hG.rise, List.pairwise_singleton _ _, fun a ha b hb => ?_⟩
      rw [List.mem_singleton.mp hb]
      obtain ⟨j, hj⟩ := List.mem_iff_getElem?.mp ha
      obtain ⟨_, _, _, _, e⟩ := hG.pairs j a hj
      exact Heap.lt_size e
    · intro a ha
      rcases List.mem_append.mp ha with ha | ha
      · exact hG.above a ha
      · rw [List.mem_singleton.mp ha]; exact hSl
    · intro j b hj
      rcases Nat.lt_trichotomy j as.length with h1 | h1 | h1
      · rw [List.getElem?_append_left h1] at hj
        obtain ⟨x, y, e1, e2, e3⟩ := hG.pairs j b hj
        have ab := hG.above b (List.mem_of_getElem? hj)
        have ne : ∀ c, c = z ∨ c = TI ∨ c = TO ∨ c = i1 ∨ c = i2 ∨ c = l1 ∨ c = l2 → b ≠ c := fun c hc => Nat.ne_of_gt (Nat.lt_trans (lt c hc) ab)
        exact ⟨x, y, e1, e2, up b _ (Nat.ne_of_gt ab) (b7 b _ (ne _ (by simp)) (ne _ (by simp)) (ne _ (by simp)) (ne _ (by simp)) e3)⟩
      · subst h1
        have hb : h.objs.size = b := by simpa using hj
        subst hb
        exact ⟨xs[i], ys[i], by rw [hal]; simp [hlt], by rw [hal]; simp [hlt2], up _ _ (Nat.ne_of_gt hSl) b5⟩
      · have hnone : (as ++ [h.objs.size])[j]? = none := List.getElem?_eq_none (by rw [List.length_append, List.length_singleton]; omega)
        rw [hnone] at hj; cases hj

abbrev Lk : Addr → Addr → Addr → Addr → Addr → Addr → Addr → Addr → Prop := fun z TI TO i1 i2 l1 l2 b => b = z ∨ b = TI ∨ b = TO ∨ b = i1 ∨ b = i2 ∨ b = l1 ∨ b = l2
theorem extend (hh : A.handled = none) (D : ZipApart z TI TO i1 i2 l1 l2) (hsz : xs.size = ys.size) (hn : xs.size ≤ sizeLine) (S : Addr) (lt : ∀ b, b = z ∨ b = TI ∨ b = TO ∨ b = i1 ∨ b = i2 ∨ b = l1 ∨ b = l2 → b < S) (res : Value) (c₀ : Nat)
    (hst : ZS z TI TO i1 i2 l1 l2 xs ys 0 s.heap) (hS : s.heap.get? S = some { cls := .type "list", data := .seq #[] c₀ })
    (hR : ∀ h' tk acc c as, (∀ b o, b ≠ S → b ≠ z → b ≠ TO → b ≠ i1 → b ≠ i2 → s.heap.get? b = some o → h'.get? b = some o) → h'.get? S = some { cls := .type "list", dict := none, data := .seq acc c, slots := #[] } → as.length = xs.size → G xs ys S h' as →
      acc.toList = as.map Value.ref → R (.ok (.ret res)) { s with heap := h', toks := tk }) :
    wpAny (model prog w) A.in1 (Builtin.List.listExtendWith (.ref S) (.ref z) res)
      (fun fin s' => match fin with | .done f => R (.ok f) s' | .again c' => c'.quiet = true ∧ codeAny (model prog w) A c' R s') (fun e s' => R (.error e) s') s := by
  have neS : ∀ b, b = z ∨ b = TI ∨ b = TO ∨ b = i1 ∨ b = i2 ∨ b = l1 ∨ b = l2 → b ≠ S := fun b hb => Nat.ne_of_lt (lt b hb)
  obtain ⟨o1, f, ho, hz⟩ := id hst.at_
  have hT : s.TypeIs (.ref z) "zip" := ⟨_, hz, rfl⟩
  have hSz : S ≠ z := (neS z (by simp)).symm
  unfold Builtin.List.listExtendWith
  refine wpAny_bind (wpAny_typeOf hT ?_)
  have h1 : Builtin.List.listSameRef (.ref S) (.ref z) = false := by simp [Builtin.List.listSameRef, hSz]
  have h2 : (Value.type "zip" == Value.type "list") = false := by decide
  have h3 : (Value.type "zip" == Value.type "tuple") = false := by decide
  simp only [h1, h2, h3, Bool.or_false, Bool.false_eq_true, if_false]
  refine wpAny_bind (iterZ hz ?_)
  refine wpAny_bind (wpAny_holding ?_)
  unfold Builtin.List.listLengthHint
  refine wpAny_bind (wpAny_specialOf hT zip_no_len ?_)
  show wpAny _ A.in1 (specialOf (Value.ref z) (Str.ofString "__length_hint__") >>= _) _ _ _
  refine wpAny_bind (wpAny_specialOf hT zip_no_hint ?_)
  refine wpAny_pure ?_
  show wpAny _ A.in1 (rule "list.extend.makes-room" >>= fun _ => Builtin.List.listTouch (.ref S) >>= fun _ =>
    again (.builtin "list.extend.loop" ⟨[.ref S, .ref z, res], []⟩)) _ _ _
  refine wpAny_bind (wpAny_rule ?_)
  refine wpAny_bind ?_
  show wpAny _ A.in1 (updateSeq S (·.push .none) >>= fun _ => updateSeq S (·.pop)) _ _ _
  refine wpAny_bind (wpAny_updateSeq hS rfl ?_)
  have hS₂ := Heap.get?_update_self (Obj.mapSeq (·.push Value.none)) hS rfl
  refine wpAny_updateSeq (hz := by seq_fits) hS₂ rfl ?_
  have hS₃ := Heap.get?_update_self (Obj.mapSeq (·.pop)) hS₂ rfl
  have oth : ∀ b o, b ≠ S → s.heap.get? b = some o → ((s.heap.update S (Obj.mapSeq (·.push Value.none))).update S (Obj.mapSeq (·.pop))).get? b = some o :=
    fun b o hb e => (Heap.get?_update_other _ _ (Ne.symm hb)).trans ((Heap.get?_update_other _ _ (Ne.symm hb)).trans e)
  refine wpAny_pure ⟨plainId_quiet PySem.F.plain_extend_loop _, loop (s := s) (h₁ := s.heap) hh D hsz hn lt res hR xs.size 0 _ s.toks _ #[] [] (Nat.sub_zero _) (Nat.zero_le _) (hst.keep fun b hb o e => oth b o (neS b hb) e) (fun b o hb _ _ _ _ e => oth b o hb e) hS₃ rfl rfl
    ⟨List.Pairwise.nil, (fun _ ha => nomatch ha), (fun j a hj => by simp at hj)⟩⟩
theorem init (hh : A.handled = none) (D : ZipApart z TI TO i1 i2 l1 l2) (hsz : xs.size = ys.size) (hn : xs.size ≤ sizeLine) (S : Addr) (lt : ∀ b, b = z ∨ b = TI ∨ b = TO ∨ b = i1 ∨ b = i2 ∨ b = l1 ∨ b = l2 → b < S)
    (hst : ZS z TI TO i1 i2 l1 l2 xs ys 0 s.heap) (hS : s.heap.get? S = some { cls := .type "list", data := .seq #[] })
    (hR : ∀ h' tk acc c as, (∀ b o, b ≠ S → b ≠ z → b ≠ TO → b ≠ i1 → b ≠ i2 → s.heap.get? b = some o → h'.get? b = some o) → h'.get? S = some { cls := .type "list", dict := none, data := .seq acc c, slots := #[] } → as.length = xs.size → G xs ys S h' as →
      acc.toList = as.map Value.ref → R (.ok (.ret .none)) { s with heap := h', toks := tk }) :
    wpAny (model prog w) A.in1 (Builtin.«list.__init__» ⟨[.ref S, .ref z], []⟩)
      (fun fin s' => match fin with | .done f => R (.ok f) s' | .again c' => c'.quiet = true ∧ codeAny (model prog w) A c' R s') (fun e s' => R (.error e) s') s := by
  have neS : ∀ b, b = z ∨ b = TI ∨ b = TO ∨ b = i1 ∨ b = i2 ∨ b = l1 ∨ b = l2 → b ≠ S := fun b hb => Nat.ne_of_lt (lt b hb)
  show wpAny _ A.in1 (do let old ← Builtin.List.listItems (.ref S); Builtin.List.listUpdate (.ref S) (fun _ => #[]); letGo old.toList.reverse; Builtin.List.listExtendWith (.ref S) (.ref z) .none) _ _ s
  refine wpAny_bind ?_
  unfold Builtin.List.listItems
  refine wpAny_bind (wpAny_seqItems hS rfl (wpAny_pure ?_))
  show wpAny _ A.in1 (updateSeq S (fun _ => #[]) >>= fun _ => letGo (#[] : Array Value).toList.reverse >>= fun _ => Builtin.List.listExtendWith (.ref S) (.ref z) .none) _ _ s
  refine wpAny_bind (wpAny_updateSeq hS rfl ?_)
  have hS₂ := Heap.get?_update_self (Obj.mapSeq (fun _ => (#[] : Array Value))) hS rfl
  have oth : ∀ b o, b ≠ S → s.heap.get? b = some o → (s.heap.update S (Obj.mapSeq (fun _ => (#[] : Array Value)))).get? b = some o :=
    fun b o hb e => (Heap.get?_update_other _ _ (Ne.symm hb)).trans e
  refine wpAny_bind (wpAny_letGo ?_)
  refine extend hh D hsz hn S lt .none _ (hst.keep fun b hb o e => oth b o (neS b hb) e) hS₂ fun h' tk acc c as hk hS' hl hG hacc => ?_
  exact hR h' tk acc c as (fun b o hb h2 h3 h4 h5 e => hk b o hb h2 h3 h4 h5 (oth b o hb e)) hS' hl hG hacc
end
section
variable {prog : Program} {w : World} {A : Around} {E : Value → Shared → Prop} {s : Shared} {z TI TO i1 i2 l1 l2 : Addr} {xs ys : Array Value}
theorem call_list {Q : Value → Shared → Prop} (hh : A.handled = none) (D : ZipApart z TI TO i1 i2 l1 l2) (hsz : xs.size = ys.size) (hn : xs.size ≤ sizeLine) (hst : ZS z TI TO i1 i2 l1 l2 xs ys 0 s.heap)
    (lt : ∀ b, b = z ∨ b = TI ∨ b = TO ∨ b = i1 ∨ b = i2 ∨ b = l1 ∨ b = l2 → b < s.heap.objs.size)
    (hQ : ∀ h' tk acc c as, (∀ b o, b ≠ z → b ≠ TO → b ≠ i1 → b ≠ i2 → s.heap.get? b = some o → h'.get? b = some o) → h'.get? s.heap.objs.size = some { cls := .type "list", dict := none, data := .seq acc c, slots := #[] } → as.length = xs.size → G xs ys s.heap.objs.size h' as →
      acc.toList = as.map Value.ref → Q (.ref s.heap.objs.size) { s with heap := h', toks := tk }) :
    wpAny (model prog w) A (call (.type "list") [.ref z]) Q E s := by
  refine callType_codes (Q₁ := fun obj s₁ => obj = .ref s.heap.objs.size ∧ s₁ = { s with heap := s.heap.push { cls := .type "list", data := .seq #[] } }) PySem.F.called_list (PySem.F.typeCall_list_1 _) PySem.F.entry_list_init
    (code_list_new _ ⟨rfl, rfl⟩) fun obj s₁ h₁ => ?_
  obtain ⟨rfl, rfl⟩ := h₁
  have hS : (s.heap.push { cls := .type "list", data := .seq #[] }).get? s.heap.objs.size = some { cls := .type "list", data := .seq #[] } := Heap.get?_push_size _ rfl
  refine ⟨⟨_, hS, rfl⟩, PySem.F.args_list_init_2 _ _, init (A := A.in1) hh D hsz hn _ lt (hst.keep fun b _ o e => Heap.get?_push_of_some _ e) hS fun h' tk acc c as hk hS' hl hG hacc => ?_⟩
  exact ⟨rfl, hQ h' tk acc c as (fun b o h2 h3 h4 h5 e => hk b o (Nat.ne_of_lt (Heap.lt_size e)) h2 h3 h4 h5 (Heap.get?_push_of_some _ e)) hS' hl hG hacc⟩
end
/-! the rule of the layer -/
def putP : Hp → List Addr → List (V × V) → Hp
  | H, a :: as, p :: ps => putP (upd H a (.tup [p.1, p.2])) as ps
  | H, _, _ => H
theorem putP_off {b : Addr} : ∀ (as : List Addr) (ps : List (V × V)) (H : Hp), b ∉ as → putP H as ps b = H b
  | [], _, _, _ => rfl
  | _ :: _, [], _, _ => rfl
  | a :: as, p :: ps, H, h => by
    show putP (upd H a (.tup [p.1, p.2])) as ps b = H b
    rw [putP_off as ps _ (fun z => h (List.mem_cons_of_mem _ z)), upd_ne (fun z => h (by rw [z]; exact List.mem_cons_self))]
theorem putP_at : ∀ (as : List Addr) (ps : List (V × V)) (H : Hp), as.length = ps.length → as.Nodup → ∀ (j : Nat) (t : Addr) (p : V × V), as[j]? = some t → ps[j]? = some p → putP H as ps t = some (.tup [p.1, p.2])
  | [], _, _, _, _, j, t, p, h, _ => by cases h
  | _ :: _, [], _, h, _, _, _, _, _, _ => by cases h
  | a :: as, p :: ps, H, h, hn, j, t, q, h1, h2 => by
    have hn' := List.nodup_cons.mp hn
    cases j with
    | zero =>
      cases h1
      cases h2
      show putP (upd H a (.tup [p.1, p.2])) as ps a = some (.tup [p.1, p.2])
      rw [putP_off as ps _ hn'.1, upd_same]
    | succ j => exact putP_at as ps _ (Nat.succ.inj h) hn'.2 j t q h1 h2
theorem laid {X : Cx} {pins : List (Addr × Obj)} {σ : L2.St} {H : Hp} {s : Shared} {h' : Heap} {S : Addr} {tk : Nat} {xs ys : List V} {vs us : List Value} {acc : Array Value} {c : Nat} {as : List Addr} (I : Inv X pins σ H s) (hz : xs.length ≤ sizeLine) (hl : xs.length = ys.length) (kv : Vals xs vs) (ku : Vals ys us)
    (hk : ∀ b o, s.heap.get? b = some o → h'.get? b = some o) (hge : s.heap.objs.size ≤ S) (hS : h'.get? S = some { cls := .type "list", dict := none, data := .seq acc c, slots := #[] }) (has : as.length = xs.length) (hG : G vs.toArray us.toArray S h' as) (hacc : acc.toList = as.map Value.ref) :
    ∃ H' : Hp, Same H H' ∧ H S = none ∧ H' S = some (.lst (as.map V.ref)) ∧ (∀ (j : Nat) (t : Addr) (x y : V), as[j]? = some t → xs[j]? = some x → ys[j]? = some y → H' t = some (.tup [x, y])) ∧ Inv X pins σ H' { s with heap := h', toks := tk } := by
  have hSn : S ∉ as := fun z => Nat.lt_irrefl _ (hG.above _ z)
  have nd : as.Nodup := List.Pairwise.imp (fun {a b} (h : a < b) => Nat.ne_of_lt h) hG.rise
  have new : ∀ t ∈ as, H t = none := fun t ht => I.hok.fresh (Nat.le_of_lt (Nat.lt_of_le_of_lt hge (hG.above t ht)))
  have newS : H S = none := I.hok.fresh hge
  have lz : as.length = (List.zip xs ys).length := by rw [List.length_zip, has]; omega
  have atP := putP_at as (List.zip xs ys) (upd H S (.lst (as.map V.ref))) lz nd
  have off : ∀ b, b ∉ as → b ≠ S → putP (upd H S (.lst (as.map V.ref))) as (List.zip xs ys) b = H b := fun b h1 h2 => by rw [putP_off as _ _ h1, upd_ne h2]
  have low : ∀ b o, s.heap.get? b = some o → b ∉ as ∧ b ≠ S := fun b o e => ⟨fun z => absurd (Heap.lt_size e) (Nat.not_lt.mpr (Nat.le_of_lt (Nat.lt_of_le_of_lt hge (hG.above b z)))), fun z => absurd (Heap.lt_size e) (by rw [z]; exact Nat.not_lt.mpr hge)⟩
  have kp : ∀ b u, H b = some u → (putP (upd H S (.lst (as.map V.ref))) as (List.zip xs ys)) b = some u := fun b u e => by
    rw [off b (fun z => by rw [new b z] at e; cases e) (fun z => by rw [z, newS] at e; cases e)]
    exact e
  have eS : putP (upd H S (.lst (as.map V.ref))) as (List.zip xs ys) S = some (.lst (as.map V.ref)) := by rw [putP_off as _ _ hSn, upd_same]
  refine ⟨putP (upd H S (.lst (as.map V.ref))) as (List.zip xs ys), kp, newS, eS, fun j t x y h1 h2 h3 => atP j t (x, y) h1 (by rw [List.getElem?_zip_eq_some]; exact ⟨h2, h3⟩), ?_⟩
  refine I.call' (ch := []) rfl ⟨fun b o q _ _ _ => hk b o q, fun b o q _ _ _ => ⟨o.slots, hk b o q⟩, fun b o q n _ => ?_, fun b o q _ => ⟨o, hk b o q⟩, fun b xs q => kp b _ q, fun b o u q => kp b _ q, fun b ps q => ⟨#[], by rw [kp b _ q]; simp⟩⟩ (fun b u q => ?_) I.bare fun b z => by simp at z
  · obtain ⟨z1, z2⟩ := low b o q
    rw [off b z1 z2]
    exact n
  · by_cases hb : b ∈ as
    · obtain ⟨j, e1⟩ := List.mem_iff_getElem?.mp hb
      have hj : j < as.length := (List.getElem?_eq_some_iff.mp e1).1
      have hx : xs[j]? = some (xs[j]'(by omega)) := List.getElem?_eq_getElem (by omega)
      have hy : ys[j]? = some (ys[j]'(by omega)) := List.getElem?_eq_getElem (by omega)
      have e3 := atP j b (_, _) e1 (by rw [List.getElem?_zip_eq_some]; exact ⟨hx, hy⟩)
      rw [e3] at q
      cases q
      obtain ⟨vx, vy, f1, f2, f3⟩ := hG.pairs j b e1
      obtain ⟨wx, g1, g2⟩ := kv.get hx
      obtain ⟨wy, g3, g4⟩ := ku.get hy
      have f1' : vs[j]? = some vx := by simpa using f1
      have f2' : us[j]? = some vy := by simpa using f2
      rw [f1'] at g1
      cases g1
      rw [f2'] at g3
      cases g3
      exact ⟨by show 2 ≤ sizeLine; decide, [vx, vy], .cons g2 (.cons g4 .nil), ⟨_, f3, rfl, _, rfl⟩⟩
    · by_cases hb2 : b = S
      · rw [hb2] at q ⊢
        rw [eS] at q
        cases q
        refine ⟨by rw [List.length_map]; omega, acc.toList, c, by rw [hacc]; exact LiI.vals_refs as, ?_⟩
        rw [Array.toArray_toList]
        exact hS
      · rw [off b hb hb2] at q
        exact (I.hok b u q).stay (fun d v _ y => hk d v y) (fun d y => kp d _ y) fun d xs y => kp d _ y
def tLZ (K : PySem.W.Frag) (ta : TA) : TE := fun σ H Q => ta σ H fun vs H1 => ∃ a b xs ys, vs = [.ref a, .ref b] ∧ SqT K H1 a xs ∧ SqT K H1 b ys ∧ xs.length = ys.length ∧
  ∀ (H' : Hp) (p : Addr) (ts : List Addr), Same H1 H' → H1 p = none → H' p = some (.lst (ts.map V.ref)) → ts.length = xs.length → (∀ (j : Nat) (t : Addr) (x y : V), ts[j]? = some t → xs[j]? = some x → ys[j]? = some y → H' t = some (.tup [x, y])) → Q (.ref p) H'
theorem pe_listZip {X : Cx} {e e2 : Expr} {ta : TA} {p p2 pos pos2 : Pos} (hc : X.calm = true) (hg : Gl X "list") (hm : X.mg "list" = none) (hg2 : Gl X "zip") (hm2 : X.mg "zip" = none) (ha : PA X [e, e2] ta)
    (hs : starEach [e, e2] X.env = (false, eval e X.env) :: starEach [e2] X.env := by rfl) (hpl : (backTo pos2 (starEach [e2] X.env)).any (·.1) = false := by rfl)
    (hs2 : starEach [.Call (.Name "zip" p2) [e, e2] [] pos2] X.env = (false, eval (.Call (.Name "zip" p2) [e, e2] [] pos2) X.env) :: starEach [] X.env := by rfl) :
    PE X (.Call (.Name "list" p) [.Call (.Name "zip" p2) [e, e2] [] pos2] [] pos) (tLZ X.K ta) := by
  refine ⟨fun pins s σ H Q I hq => ?_⟩
  refine wpAny_Call_Name_kw (ld_blt I hg hm (by decide +kernel : bootBuiltins "list" = some (.type "list")) ?_)
  refine PyProof.Rows.callWith_type1 ?_ hs2 rfl
  rw [hs2]
  show wpAny _ _ (spliced ((false, eval (.Call (.Name "zip" p2) [e, e2] [] pos2) X.env) :: backTo pos (starEach [] X.env))) _ _ s
  refine Calls.spliced_cons ?_
  refine Call_ (ld_blt I hg2 hm2 PyProof.Rows.boot_zip (PyProof.Rows.callWith_type1 (thn (ha.run pos2 pins s σ H _ I hq) fun us s1 ⟨vs, H1, I1, r1, q1⟩ => ?_) hs hpl))
  obtain ⟨a, b, xs, ys, rfl, hqx, hqy, hl, q⟩ := q1
  obtain ⟨u1, u2, rfl, r, r'⟩ := vals2 r1
  cases r
  cases r'
  obtain ⟨its, rv, p1, hlx⟩ := I1.tuple hqx
  obtain ⟨its2, rv2, p2', _⟩ := I1.tuple hqy
  obtain ⟨o1, ho1, _⟩ := id p1
  obtain ⟨o2, ho2, _⟩ := id p2'
  have lv := rv.length
  have lu := rv2.length
  refine RZ.call_zipT (show s1.heap.IsTuple a its.toArray from p1) (show s1.heap.IsTuple b its2.toArray from p2') fun h' hz hTI hTO h1 h2 hsz hk => ?_
  refine Calls.spliced_nil ?_
  have l1 := Heap.lt_size ho1
  have l2 := Heap.lt_size ho2
  have p1' : h'.IsTuple a its.toArray := by
    obtain ⟨o, e, r⟩ := p1
    exact ⟨o, hk _ _ e, r⟩
  have p2'' : h'.IsTuple b its2.toArray := by
    obtain ⟨o, e, r⟩ := p2'
    exact ⟨o, hk _ _ e, r⟩
  refine call_list (s := { s1 with heap := h' }) (I1.ok.hd hc) (PySem.W.ktu_apart s1.heap.objs.size a b l1 l2) (by rw [List.size_toArray, List.size_toArray]; omega) (by rw [List.size_toArray]; omega)
    ⟨⟨_, _, Or.inl rfl, hz⟩, hTI, ⟨_, _, hTO⟩, h1, h2, p1', p2''⟩ (fun c hc => ?_) fun h2' tk acc c as hk2 hS has hG hacc => ?_
  · show c < h'.objs.size
    rw [hsz]
    rcases hc with z | z | z | z | z | z | z <;> rw [z]
    · exact Nat.add_lt_add_left (by decide) _
    · exact Nat.add_lt_add_left (by decide) _
    · exact Nat.add_lt_add_left (by decide) _
    · exact Nat.lt_add_of_pos_right (by decide)
    · exact Nat.add_lt_add_left (by decide) _
    · exact Nat.lt_of_lt_of_le l1 (Nat.le_add_right _ _)
    · exact Nat.lt_of_lt_of_le l2 (Nat.le_add_right _ _)
  · have keep : ∀ b o, s1.heap.get? b = some o → h2'.get? b = some o := fun b o e => by
      have lb := Heap.lt_size e
      exact hk2 b o (Nat.ne_of_lt (Nat.lt_of_lt_of_le lb (Nat.le_add_right _ _))) (Nat.ne_of_lt (Nat.lt_of_lt_of_le lb (Nat.le_add_right _ _))) (Nat.ne_of_lt lb) (Nat.ne_of_lt (Nat.lt_of_lt_of_le lb (Nat.le_add_right _ _))) (hk b o e)
    have hge : s1.heap.objs.size ≤ h'.objs.size := by rw [hsz]; exact Nat.le_add_right _ _
    rw [List.size_toArray] at has
    obtain ⟨H', k1, k2, k3, k4, J⟩ := laid (tk := tk) I1 hlx hl rv rv2 keep hge hS (by omega) hG hacc
    exact ⟨.ref _, H', J, rfl, q H' _ as k1 k2 k3 (by omega) k4⟩
end LZp
namespace Lk
open PySem L2
section
/-! keys put in one by one -/
theorem mem_insTAll : ∀ {xs F : List Th} {y : Th}, y ∈ xs.foldl insT F ↔ y ∈ F ∨ y ∈ xs
  | [], F, y => by simp
  | x :: xs, F, y => by
    rw [List.foldl_cons, mem_insTAll, mem_insT, List.mem_cons]
    constructor
    · rintro ((a | b) | c)
      · exact Or.inl a
      · exact Or.inr (Or.inl b)
      · exact Or.inr (Or.inr c)
    · rintro (a | b | c)
      · exact Or.inl (Or.inl a)
      · exact Or.inl (Or.inr b)
      · exact Or.inr c
theorem nodup_insTAll : ∀ {xs F : List Th}, F.Nodup → (xs.foldl insT F).Nodup
  | [], _, h => h
  | _ :: xs, _, h => nodup_insTAll (xs := xs) (nodup_insT h)
theorem insTAll_len : ∀ (xs F : List Th), (xs.foldl insT F).length ≤ F.length + xs.length
  | [], _ => Nat.le_refl _
  | x :: xs, F => by
    have h1 := insTAll_len xs (insT F x)
    have h2 : (insT F x).length ≤ F.length + 1 := by
      unfold insT
      split
      · omega
      · rw [List.length_append]; exact Nat.le_refl _
    rw [List.foldl_cons, List.length_cons]
    omega
theorem take_insT {xs F : List Th} {j : Nat} {x : Th} (h : xs[j]? = some x) : (xs.take (j + 1)).foldl insT F = insT ((xs.take j).foldl insT F) x := by
  rw [List.take_add_one, h, List.foldl_append]
  rfl
theorem lot_same {l m : List Th} (h : ∀ x, x ∈ l ↔ x ∈ m) : lotT l = lotT m := asc_uniq asc_lotT asc_lotT fun x => by rw [mem_lotT, mem_lotT, h]
variable {K : PySem.W.Frag}
/-- a tuple of the items of a list -/
theorem tup_of_pl {H : Hp} {q : Addr} {vs : List V} {ts : List Th} (h : PL (ThV H) vs ts) (hq : H q = none) : ThsT K (upd H q (.tup vs)) q ts := ⟨vs, .inl (.inl upd_same), h.mono fun _ _ z => z.tt (K := K) (tt_new hq)⟩
end
section
variable {P : Program} {w : World} {K : PySem.W.Frag} {mg : Str → Option Value} {base : Heap} {a : Adr}
def spWays (K : PySem.W.Frag) (a : Adr) : Sp := fun vs H Q _ => ∃ (x y c : Addr) (B : Bk) (R : List Row) (t : Th), vs = [.ref x, .ref y, .ref c] ∧ BW K a H x y B R ∧ SqT K H c [nv t.1, nv t.2] ∧ t.1 < R.length ∧ t.2 < B.nk ∧ ∀ l H', Same H H' → H l = none → WaysL K H' l (waysM B R t) → Q (.ref l) H'
theorem ok_ways (T : Txt K mg a) : FnOk P w K mg base CX0 5 a.f_ways a.d_ways ["book", "web", "thing"] (spWays K a) := by
  have G_check_web := ok_check_web (P := P) (w := w) (base := base) T
  have G_check_thing := ok_check_thing (P := P) (w := w) (base := base) T
  have G_ways_to := ok_ways_to (P := P) (w := w) (base := base) T
  refine T.F_ways.ok sc_ways (fun vs H Q E h => ?_) (fun cdv A outer s H vs Q E hr h => ?_)
  · obtain ⟨x, y, c, B, R, t, rfl, _⟩ := h
    rfl
  obtain ⟨x, y, c, B, R, t, rfl, W, hc, h1, h2, k⟩ := h
  refine ⟨_, (pss_cons (ps_expr (pe_call G_check_web (hr.mono (by decide)) rfl T.g_check_web T.k_check_web T.b_check_web .nil pass0 (pa_cons (pv 0) (pa_cons (pv 1) pa_nil))))
  (pss_cons (ps_expr (pe_call G_check_thing (hr.mono (by decide)) rfl T.g_check_thing T.k_check_thing T.b_check_thing .nil pass0 (pa_cons (pv 0) (pa_cons (pv 1) (pa_cons (pv 2) pa_nil)))))
  (pss_one (ps_ret (pe_call G_ways_to (hr.mono (by decide)) rfl T.g_ways_to T.k_ways_to T.b_ways_to .nil pass0 (pa_cons (pv 0) (pa_cons (pv 1) (pa_cons (pv 2) pa_nil)))))))), ?_⟩
  refine ⟨_, rfl, _, rfl, x, y, B, R, rfl, W, fun H1 s1 => ?_⟩
  have hc1 := (Tk.of s1).t hc
  refine ⟨_, rfl, _, rfl, _, rfl, x, y, c, B, R, t, rfl, W.same s1, hc1, h1, h2, ?_⟩
  exact ⟨_, rfl, _, rfl, _, rfl, x, y, c, B, R, t, rfl, W.same s1, hc1, h1, fun l H2 s2 hl hw => k l H2 (s1.trans s2) (none_of s1 hl) hw⟩
def spIsWayTo (K : PySem.W.Frag) (a : Adr) : Sp := fun vs H Q _ => ∃ (x y c e : Addr) (B : Bk) (R : List Row) (t : Th) (u : Wy), vs = [.ref x, .ref y, .ref c, .ref e] ∧ BW K a H x y B R ∧ SqT K H c [nv t.1, nv t.2] ∧ t.1 < R.length ∧ SqT K H e [.str (wd u.1), nv u.2] ∧ u ∈ waysM B R t ∧ ∀ H', Same H H' → Q (.bl true) H'
theorem way_lt {B : Bk} {R : List Row} {t : Th} {u : Wy} (h : u ∈ waysM B R t) : (u.1 = false → u.2 < B.ms.length) ∧ (u.1 = true → u.2 < B.rs.length) := by
  obtain ⟨b, k⟩ := u
  constructor
  · intro e
    cases e
    exact (mem_waysF.mp h).1
  · intro e
    cases e
    exact (mem_waysT.mp h).1
def spIsWay (K : PySem.W.Frag) (a : Adr) : Sp := fun vs H Q _ => ∃ (x e : Addr) (B : Bk) (u : Wy), vs = [.ref x, .ref e] ∧ BookV K a.c_Book H x B ∧ SqT K H e [.str (wd u.1), nv u.2] ∧ (u.1 = false → u.2 < B.ms.length) ∧ (u.1 = true → u.2 < B.rs.length) ∧ Q (.bl true) H
theorem ok_is_way (T : Txt K mg a) : FnOk P w K mg base CX0 3 a.f_is_way a.d_is_way ["book", "thing"] (spIsWay K a) := by
  have G_is_tuple_of := ok_is_tuple_of (P := P) (w := w) (base := base) T
  have G_is_between := ok_is_between (P := P) (w := w) (base := base) T
  refine T.F_is_way.ok sc_is_way (fun vs H Q E h => ?_) (fun cdv A outer s H vs Q E hr h => ?_)
  · obtain ⟨x, e, B, u, rfl, _⟩ := h
    rfl
  obtain ⟨x, e, B, ⟨b, i⟩, rfl, ⟨dx, pa, pr, pm, hx, hx2, ⟨wr, hr1, hr2⟩, ⟨wm, hm1, hm2⟩⟩, he, c1, c2, k⟩ := h
  refine ⟨_, (pss_one (ps_ret (pe_and (pe_call G_is_tuple_of (hr.mono (by decide)) rfl T.g_is_tuple_of T.k_is_tuple_of T.b_is_tuple_of .nil pass0 (pa_cons pe_int (pa_cons pe_int (pa_cons (pv 1) pa_nil)))) (pe_and (pe_callB call_isi (by rfl) T.z_isinstance (by decide +kernel) (pa_cons (pe_ix ix_tup (pv 1) pe_int (fun _ _ => rfl)) (pa_cons (pe_bltn (v := .ty "str") rfl T.z_str (show bootBuiltins "str" = some (.type "str") by decide +kernel) rfl) pa_nil))) (pe_one (pe_or (pe_and (pe_cmpR op_eq (pe_ix ix_tup (pv 1) pe_int (fun _ _ => rfl)) pe_str (nomark _)) (pe_one (pe_call G_is_between (hr.mono (by decide)) rfl T.g_is_between T.k_is_between T.b_is_between .nil pass0 (pa_cons pe_int (pa_cons (pe_op op_sub (pe_callB call_len_seq (by rfl) T.z_len PySem.boot_len (pa_cons (pe_fld (pv 0) rfl) pa_nil)) pe_int) (pa_cons (pe_ix ix_tup (pv 1) pe_int (fun _ _ => rfl)) pa_nil)))))) (pe_one (pe_and (pe_cmpR op_eq (pe_ix ix_tup (pv 1) pe_int (fun _ _ => rfl)) pe_str (nomark _)) (pe_one (pe_call G_is_between (hr.mono (by decide)) rfl T.g_is_between T.k_is_between T.b_is_between .nil pass0 (pa_cons pe_int (pa_cons (pe_op op_sub (pe_callB call_len_seq (by rfl) T.z_len PySem.boot_len (pa_cons (pe_fld (pv 0) rfl) pa_nil)) pe_int) (pa_cons (pe_ix ix_tup (pv 1) pe_int (fun _ _ => rfl)) pa_nil))))))))))))), ?_⟩
  refine ⟨_, rfl, .ref e, "tuple", 2, 2, rfl, .tup, tyT he, .inr ⟨e, _, rfl, rfl, he, ?_⟩⟩
  refine ⟨_, rfl, iteT ?_⟩
  refine ⟨_, rfl, e, _, _, _, rfl, rfl, he, rfl, _, .ty "str", _, _, true, rfl, .ty "str", .base (.str _), kit_ty (by decide +kernel), true, rfl, iteT ?_⟩
  cases b with
  | true =>
    have hi := c2 rfl
    refine ⟨_, rfl, e, _, _, _, rfl, rfl, he, rfl, rfl, _, rfl, iteC (decide_eq_true rfl) ?_⟩
    refine ⟨_, rfl, x, a.c_Book, dx, _, _, rfl, hx, T.C_Book, T.N_rules, rfl, pr, _, rfl, .inr hr1, _, _, rfl, rfl, _, rfl, e, _, _, _, rfl, rfl, he, rfl, nv i, "int", 0, _, rfl, .int, .base (.int _), .inr ⟨_, rfl, rfl, ?_⟩⟩
    have h1 : wr.length = B.rs.length := hr2.1
    rw [both (by omega) (by omega)]
    exact ⟨_, rfl, iteT k⟩
  | false =>
    have hi := c1 rfl
    refine ⟨_, rfl, e, _, _, _, rfl, rfl, he, rfl, rfl, _, rfl, iteD (decide_eq_false (by intro z; exact absurd (wd_inj (b := false) (c := true) (V.str.inj z)) (by decide))) ?_⟩
    refine ⟨_, rfl, iteF ?_⟩
    refine ⟨_, rfl, e, _, _, _, rfl, rfl, he, rfl, rfl, _, rfl, iteC (decide_eq_true rfl) ?_⟩
    refine ⟨_, rfl, x, a.c_Book, dx, _, _, rfl, hx, T.C_Book, T.N_moves, rfl, pm, _, rfl, .inr hm1, _, _, rfl, rfl, _, rfl, e, _, _, _, rfl, rfl, he, rfl, nv i, "int", 0, _, rfl, .int, .base (.int _), .inr ⟨_, rfl, rfl, ?_⟩⟩
    have h1 : wm.length = B.ms.length := hm2.1
    rw [both (by omega) (by omega)]
    exact k
theorem ok_is_way_to (T : Txt K mg a) : FnOk P w K mg base CX0 4 a.f_is_way_to a.d_is_way_to ["book", "web", "target", "thing"] (spIsWayTo K a) := by
  have G_is_way := ok_is_way (P := P) (w := w) (base := base) T
  have G_ways_to := ok_ways_to (P := P) (w := w) (base := base) T
  refine T.F_is_way_to.ok sc_is_way_to (fun vs H Q E h => ?_) (fun cdv A outer s H vs Q E hr h => ?_)
  · obtain ⟨x, y, c, e, B, R, t, u, rfl, _⟩ := h
    rfl
  obtain ⟨x, y, c, e, B, R, t, u, rfl, W, hc, h1, he, hu, k⟩ := h
  obtain ⟨c1, c2⟩ := way_lt hu
  refine ⟨_, (pss_one (ps_ret (pe_and (pe_call G_is_way (hr.mono (by decide)) rfl T.g_is_way T.k_is_way T.b_is_way .nil pass0 (pa_cons (pv 0) (pa_cons (pv 3) pa_nil))) (pe_one (pe_cmpR (op_inD (u65 hr)) (pv 3) (pe_call G_ways_to (hr.mono (by decide)) rfl T.g_ways_to T.k_ways_to T.b_ways_to .nil pass0 (pa_cons (pv 0) (pa_cons (pv 1) (pa_cons (pv 2) pa_nil)))) rfl))))), ?_⟩
  refine ⟨_, rfl, _, rfl, x, e, B, u, rfl, W.b, he, c1, c2, ?_⟩
  refine ⟨_, rfl, iteT ?_⟩
  refine ⟨_, rfl, _, rfl, _, rfl, _, rfl, x, y, c, B, R, t, rfl, W, hc, h1, fun l H1 s1 hl hw => ?_⟩
  refine ⟨dWy u, _, way_dp ⟨e, rfl, (Tk.of s1).t he⟩, ways_dp hw, sh_wy u, sh_ways _, ?_⟩
  rw [any_wy, decide_eq_true hu]
  exact k H1 s1
/-- what a way needs, by its parts -/
def needsP (B : Bk) (R : List Row) (t : Th) : Wy → List Th
  | (false, i) => [(t.1, (mAt B.ms i).src)]
  | (true, i) => List.zip (parts R t.1) (rAt B.rs i).src
def spNeedsByParts (K : PySem.W.Frag) (a : Adr) : Sp := fun vs H Q _ => ∃ (x y c e : Addr) (B : Bk) (R : List Row) (t : Th) (u : Wy), vs = [.ref x, .ref y, .ref c, .ref e] ∧ BW K a H x y B R ∧ SqT K H c [nv t.1, nv t.2] ∧ t.1 < R.length ∧ SqT K H e [.str (wd u.1), nv u.2] ∧ u ∈ waysM B R t ∧ ∀ p H' us, Same H H' → H p = none → H' p = some (.lst us) → PL (ThV H') us (needsP B R t u) → Q (.ref p) H'
theorem ok_needs_by_parts (T : Txt K mg a) : FnOk P w K mg base CX0 1 a.f_needs_by_parts a.d_needs_by_parts ["book", "web", "thing", "way"] (spNeedsByParts K a) := by
  refine T.F_needs_by_parts.ok sc_needs_by_parts (fun vs H Q E h => ?_) (fun cdv A outer s H vs Q E hr h => ?_)
  · obtain ⟨x, y, c, e, B, R, t, u, rfl, _⟩ := h
    rfl
  obtain ⟨x, y, c, e, B, R, t, u, rfl, W, hc, h1, he, hu, k⟩ := h
  obtain ⟨dx, pa, pr, pm, hx, hx2, ⟨wr, hr1, hr2⟩, ⟨wm, hm1, hm2⟩⟩ := id W.b
  obtain ⟨dy, q, hy, hRT⟩ := id W.r
  obtain ⟨ws, hw, hwl, hrow⟩ := hRT
  obtain ⟨vr, hvr1, pR, qR, rfl, hp, hq⟩ := at_row hwl hrow h1
  obtain ⟨b, i⟩ := u
  refine ⟨_, (pss_cons (ps_set (i := 4) sc_needs_by_parts.nd rfl (Or.inl rfl) (pe_ix ix_tup (pv 2) pe_int (fun _ _ => rfl)))
  (pss_cons (ps_asg (pv 3) (pg_tup (by rfl) (pgs_cons (pg_name (i := 5) sc_needs_by_parts.nd rfl (Or.inl rfl)) (pgs_cons (pg_name (i := 6) sc_needs_by_parts.nd rfl (Or.inl rfl)) pgs_nil))))
  (pss_cons (ps_if (pt_cmpR op_eq (pv 5) pe_str (nomark _))
    (pss_one (ps_ret (pe_lst (pa_cons (pe_tup (pa_cons (pv 4) (pa_cons (pe_ix ix_tup (pe_ix ix_tup (pe_fld (pv 0) rfl) (pv 6) (fun _ _ => rfl)) pe_int (fun _ _ => rfl)) pa_nil))) pa_nil))))
    pss_nil)
  (pss_one (ps_ret (LZp.pe_listZip rfl (by rfl) T.z_list (by rfl) T.z_zip (pa_cons (pe_ix ix_tup (pe_ix ix_tup (pe_fld (pv 1) rfl) (pv 4) (fun _ _ => rfl)) pe_int (fun _ _ => rfl)) (pa_cons (pe_ix ix_tup (pe_ix ix_tup (pe_fld (pv 0) rfl) (pv 6) (fun _ _ => rfl)) pe_int (fun _ _ => rfl)) pa_nil)))))))), ?_⟩
  refine ⟨_, rfl, c, _, _, _, rfl, rfl, hc, rfl, ?_⟩
  refine ⟨_, rfl, e, _, rfl, he, rfl, _, _, rfl, _, _, rfl, rfl, ?_⟩
  cases b with
  | false =>
    obtain ⟨hi, hi2⟩ := mem_waysF.mp hu
    obtain ⟨vm, hvm, pm1, rfl, hpm⟩ := hm2.at (mAt_of hi)
    refine ⟨_, rfl, rfl, _, rfl, iteC (decide_eq_true rfl) ?_⟩
    refine ⟨_, rfl, _, rfl, x, a.c_Book, dx, _, _, rfl, hx, T.C_Book, T.N_moves, rfl, _, rfl, pm, _, _, _, rfl, rfl, hm1, atI_nat hvm, pm1, _, _, _, rfl, rfl, hpm, rfl, (by decide : 2 ≤ sizeLine), fun p1 hp1 => ⟨(by decide : 1 ≤ sizeLine), fun p2 hp2 => ?_⟩⟩
    have s2 := (same_new (o := .tup [nv t.1, nv (mAt B.ms i).src]) hp1).trans (same_new (o := .lst [.ref p1]) hp2)
    exact k p2 _ _ s2 (none_of (same_new hp1) hp2) upd_same (.one ⟨p1, rfl, (same_new hp2) _ _ upd_same⟩)
  | true =>
    obtain ⟨hi, hi2, hi3⟩ := mem_waysT.mp hu
    obtain ⟨vm, hvm, pr1, qr1, rfl, hpr, hqr⟩ := hr2.at (rAt_of hi)
    refine ⟨_, rfl, rfl, _, rfl, iteD (decide_eq_false (by intro z; exact absurd (wd_inj (b := true) (c := false) (V.str.inj z)) (by decide))) ?_⟩
    have hlen : (parts R t.1).length = (rAt B.rs i).src.length := by
      have q1 := (W.g.r2 _ (rAt_mem hi)).2.1
      have q2 := (W.f _ h1).2
      rw [q1, hi2, q2]
    refine ⟨_, rfl, y, a.c_Web, dy, _, _, rfl, hy, T.C_Web, T.N_rows, rfl, _, rfl, q, _, _, _, rfl, rfl, hw, hvr1, pR, _, _, _, rfl, rfl, hp, rfl, _, rfl, x, a.c_Book, dx, _, _, rfl, hx, T.C_Book, T.N_rules, rfl, _, rfl, pr, _, _, _, rfl, rfl, hr1, atI_nat hvm, pr1, _, _, _, rfl, rfl, hpr, rfl, ?_⟩
    refine ⟨qR, qr1, _, _, rfl, hq, hqr, by rw [List.length_map, List.length_map, hlen], fun H' l ts s' hl0 el lt hts => ?_⟩
    rw [List.length_map] at lt
    refine k l H' _ s' hl0 el ⟨?_, fun j v x a b => ?_⟩
    · rw [List.length_map, lt]
      show _ = (List.zip (parts R t.1) (rAt B.rs i).src).length
      rw [List.length_zip, hlen, Nat.min_self]
    · have b : (List.zip (parts R t.1) (rAt B.rs i).src)[j]? = some x := b
      rw [List.getElem?_zip_eq_some] at b
      rw [List.getElem?_map] at a
      obtain ⟨tj, htj, rfl⟩ := Option.map_eq_some_iff.mp a
      exact ⟨tj, rfl, hts j tj _ _ htj (by rw [List.getElem?_map, b.1]; rfl) (by rw [List.getElem?_map, b.2]; rfl)⟩
theorem needsP_lot {B : Bk} {R : List Row} {t : Th} {u : Wy} : needsM B R t u = lotT ((needsP B R t u).foldl insT []) := by
  obtain ⟨b, i⟩ := u
  cases b with
  | false => exact asc_uniq (by simp [needsM]) asc_lotT fun x => by rw [mem_lotT, mem_insTAll]; simp [needsM, needsP]
  | true =>
    refine lot_same fun x => ?_
    rw [mem_insTAll]
    simp [needsP]
theorem needsP_len {B : Bk} {R : List Row} {t : Th} {u : Wy} (g : Good R) : (needsP B R t u).length ≤ 2 := by
  obtain ⟨b, i⟩ := u
  cases b with
  | false => exact (by decide : 1 ≤ 2)
  | true =>
    have := parts_len g t.1
    show (List.zip _ _).length ≤ 2
    rw [List.length_zip]
    omega
def spNeedsFor (K : PySem.W.Frag) (a : Adr) : Sp := fun vs H Q _ => ∃ (x y c e : Addr) (B : Bk) (R : List Row) (t : Th) (u : Wy), vs = [.ref x, .ref y, .ref c, .ref e] ∧ BW K a H x y B R ∧ SqT K H c [nv t.1, nv t.2] ∧ t.1 < R.length ∧ SqT K H e [.str (wd u.1), nv u.2] ∧ u ∈ waysM B R t ∧ ∀ p H', Same H H' → H p = none → ThsT K H' p (needsM B R t u) → Q (.ref p) H'
theorem ok_needs_for (T : Txt K mg a) : FnOk P w K mg base CX0 2 a.f_needs_for a.d_needs_for ["book", "web", "thing", "way"] (spNeedsFor K a) := by
  have G_needs_by_parts := ok_needs_by_parts (P := P) (w := w) (base := base) T
  refine T.F_needs_for.ok sc_needs_for (fun vs H Q E h => ?_) (fun cdv A outer s H vs Q E hr h => ?_)
  · obtain ⟨x, y, c, e, B, R, t, u, rfl, _⟩ := h
    rfl
  obtain ⟨x, y, c, e, B, R, t, u, rfl, W, hc, h1, he, hu, k⟩ := h
  refine ⟨_, (pss_cons (DcG.ps_setDcT (i := 4) (own := [("need", 5)]) (g := gName 5) (tt := tYes) (hu1 hr) rfl sc_needs_for.nd rfl rfl (DcG.sw_trueD rfl rfl rfl (by decide +kernel)) (pi_list (pe_call G_needs_by_parts (hr.mono (by decide)) rfl T.g_needs_by_parts T.k_needs_by_parts T.b_needs_by_parts .nil pass0 (pa_cons (pv 0) (pa_cons (pv 1) (pa_cons (pv 2) (pa_cons (pv 3) pa_nil)))))) (blkOk_by (N := ["book", "web", "thing", "way", "needed_once", "need"]) (sc := defScope s_needs_for) (by decide +kernel)) (fun _ _ _ _ _ => pg_name (i := 5) sc_needs_for.nd rfl (Or.inl rfl)) (fun _ _ _ _ _ => pts_nil) (fun _ _ _ _ _ => pv 5) (fun _ _ _ _ _ => pe_bl))
  (pss_one (ps_ret (pe_callTy call_tuple_of (by rfl) T.z_tuple (by decide +kernel) (pa_cons (pe_callB (SoP.call_sortDP rfl) (by rfl) T.z_sorted (by decide +kernel) (pa_cons (pv 4) pa_nil)) pa_nil))))), ?_⟩
  have hpl2 := needsP_len (B := B) (t := t) (u := u) W.gr
  refine ⟨_, rfl, _, rfl, _, rfl, _, rfl, x, y, c, e, B, R, t, u, rfl, W, hc, h1, he, hu, fun q H1 us s1 hq e1 hus => ?_⟩
  refine ⟨q, rfl, ⟨us, SqL.of e1⟩, fun D hD => ?_⟩
  refine DcG.dg_it (walk_list (K := K) (xs := us)) (fun j H' => Same H1 H' ∧ H' D = some (.dT (tk (((needsP B R t u).take j).foldl insT [])))) ⟨same_new hD, upd_same⟩ (fun j H' _ z => SqL.of (z.1 _ _ e1)) (fun j v H2 H3 hj z hy' => ?_) (fun H2 z => ?_)
  · obtain ⟨s2, eD⟩ := z
    obtain ⟨rfl, hv⟩ := hy'
    obtain ⟨z1, hz1, p1, rfl, hp1⟩ := hus.at' hv
    refine ⟨rfl, ?_⟩
    refine ⟨_, rfl, _, DPut.t eD (k := kt z1) (s2 _ _ hp1) ?_, same_at s2 hD, ?_⟩
    · rw [tk_len]
      have := insTAll_len ((needsP B R t u).take j) []
      rw [List.length_take] at this
      exact lt_line (by simp only [List.length_nil] at this; omega)
    · rw [upd_same, tk_put, take_insT hz1]
  · obtain ⟨s2, eD⟩ := z
    refine ⟨_, rfl, D, _, rfl, .inl eD, tk_keys, fun bs kf ys p hbs hkf hs hb hp => ?_⟩
    have hP := srt_ths (keys_ths hbs) hkf hs hb (nodup_insTAll List.nodup_nil)
    have s3 := (s1.trans s2).trans (same_new (o := .lst ys) hp)
    refine ⟨p, ys, rfl, .inl ⟨SqL.of upd_same, fun q2 hq2 => ?_⟩⟩
    refine k q2 _ (s3.trans (same_new hq2)) (none_of s3 hq2) (tup_of_pl ?_ hq2)
    rw [List.take_of_length_le (by rw [hus.1]; exact Nat.le_refl _)] at hP
    rw [needsP_lot]
    exact hP.mono fun _ _ q => q.tt (K := K) (tt_new hp)
end
end Lk
namespace Lk
open PySem L2
section
theorem fk_list (A : List Nat) : ((fk A).map fun kv => kV kv.1) = A.map nv := by
  unfold fk
  rw [List.map_map]
  rfl
theorem fk_len (A : List Nat) : (fk A).length = A.length := List.length_map _
theorem fk_some (x : Nat) (A : List Nat) : (valV (fk A) (ky x)).isSome = decide (x ∈ A) := by
  rw [fk_val]
  by_cases m : x ∈ A
  · rw [if_pos m, decide_eq_true m]
    rfl
  · rw [if_neg m, decide_eq_false m]
    rfl
theorem ins_gt {A : List Nat} {κ : Nat} (h : ¬ κ ∈ A) : (ins A κ).length = A.length + 1 := by
  unfold ins
  rw [if_neg h, List.length_append]
  rfl
theorem all_dec {F zs : List Th} : ((zs.map fun u => decide (u ∈ F)).all id) = true ↔ ∀ u ∈ zs, u ∈ F := by
  rw [List.all_map, List.all_eq_true]
  exact ⟨fun h u hu => of_decide_eq_true (h u hu), fun h u hu => decide_eq_true (h u hu)⟩
end
section
variable {P : Program} {w : World} {K : PySem.W.Frag} {mg : Str → Option Value} {base : Heap} {a : Adr}
def spNeeds (K : PySem.W.Frag) (a : Adr) : Sp := fun vs H Q _ => ∃ (x y c e : Addr) (B : Bk) (R : List Row) (t : Th) (u : Wy), vs = [.ref x, .ref y, .ref c, .ref e] ∧ BW K a H x y B R ∧ SqT K H c [nv t.1, nv t.2] ∧ t.1 < R.length ∧ t.2 < B.nk ∧ SqT K H e [.str (wd u.1), nv u.2] ∧ u ∈ waysM B R t ∧ ∀ p H', Same H H' → H p = none → ThsT K H' p (needsM B R t u) → Q (.ref p) H'
theorem ok_needs (T : Txt K mg a) : FnOk P w K mg base CX0 5 a.f_needs a.d_needs ["book", "web", "thing", "way"] (spNeeds K a) := by
  have G_check_web := ok_check_web (P := P) (w := w) (base := base) T
  have G_check_thing := ok_check_thing (P := P) (w := w) (base := base) T
  have G_is_way_to := ok_is_way_to (P := P) (w := w) (base := base) T
  have G_needs_for := ok_needs_for (P := P) (w := w) (base := base) T
  refine T.F_needs.ok sc_needs (fun vs H Q E h => ?_) (fun cdv A outer s H vs Q E hr h => ?_)
  · obtain ⟨x, y, c, e, B, R, t, u, rfl, _⟩ := h
    rfl
  obtain ⟨x, y, c, e, B, R, t, u, rfl, W, hc, h1, h2, he, hu, k⟩ := h
  refine ⟨_, (pss_cons (ps_expr (pe_call G_check_web (hr.mono (by decide)) rfl T.g_check_web T.k_check_web T.b_check_web .nil pass0 (pa_cons (pv 0) (pa_cons (pv 1) pa_nil))))
  (pss_cons (ps_expr (pe_call G_check_thing (hr.mono (by decide)) rfl T.g_check_thing T.k_check_thing T.b_check_thing .nil pass0 (pa_cons (pv 0) (pa_cons (pv 1) (pa_cons (pv 2) pa_nil)))))
  (pss_cons (ps_if (pt_not (pt_val (pe_call G_is_way_to (hr.mono (by decide)) rfl T.g_is_way_to T.k_is_way_to T.b_is_way_to .nil pass0 (pa_cons (pv 0) (pa_cons (pv 1) (pa_cons (pv 2) (pa_cons (pv 3) pa_nil)))))))
    (pss_one ps_never)
    pss_nil)
  (pss_one (ps_ret (pe_call G_needs_for (hr.mono (by decide)) rfl T.g_needs_for T.k_needs_for T.b_needs_for .nil pass0 (pa_cons (pv 0) (pa_cons (pv 1) (pa_cons (pv 2) (pa_cons (pv 3) pa_nil)))))))))), ?_⟩
  refine ⟨_, rfl, _, rfl, x, y, B, R, rfl, W, fun H1 s1 => ?_⟩
  refine ⟨_, rfl, _, rfl, _, rfl, x, y, c, B, R, t, rfl, W.same s1, (Tk.of s1).t hc, h1, h2, ?_⟩
  refine ⟨_, rfl, _, rfl, _, rfl, _, rfl, x, y, c, e, B, R, t, u, rfl, W.same s1, (Tk.of s1).t hc, h1, (Tk.of s1).t he, hu, fun H2 s2 => ⟨_, rfl, iteF ?_⟩⟩
  have s := s1.trans s2
  exact ⟨_, rfl, _, rfl, _, rfl, _, rfl, x, y, c, e, B, R, t, u, rfl, W.same s, (Tk.of s).t hc, h1, (Tk.of s).t he, hu, fun p H3 s3 hp ht => k p H3 (s.trans s3) (none_of s hp) ht⟩
def spKinds (K : PySem.W.Frag) (a : Adr) : Sp := fun vs H Q _ => ∃ (x y d : Addr) (B : Bk) (R : List Row) (n : Nat) (F : List Th), vs = [.ref x, .ref y, nv n, .ref d] ∧ BW K a H x y B R ∧ n < R.length ∧ H d = some (.dT (tk F)) ∧ (∀ t ∈ F, Mak B R t) ∧ Cpl B R n F ∧
  ∀ l H' A, Same H H' → H l = none → H' l = some (.lst (A.map nv)) → KSnd B R n A → (∀ κ, Mak B R (n, κ) → κ ∈ A) → Q (.ref l) H'
theorem ok_kinds_made (T : Txt K mg a) : FnOk P w K mg base CX0 1 a.f_kinds_made a.d_kinds_made ["book", "web", "value", "made"] (spKinds K a) := by
  refine T.F_kinds_made.ok sc_kinds_made (fun vs H Q E h => ?_) (fun cdv A outer s H vs Q E hr h => ?_)
  · obtain ⟨x, y, d, B, R, n, F, rfl, _⟩ := h
    rfl
  obtain ⟨x, y, d, B, R, n, F, rfl, W, hn, hd, hF, hC, k⟩ := h
  obtain ⟨dx, pa, pr, pm, hx, hx2, ⟨wr, hr1, hr2⟩, ⟨wm, hm1, hm2⟩⟩ := id W.b
  obtain ⟨dy, q, hy, hRT⟩ := id W.r
  obtain ⟨ws, hw, hwl, hrow⟩ := hRT
  obtain ⟨vr, hvr1, pR, qR, rfl, hp, hq⟩ := at_row hwl hrow hn
  refine ⟨_, (pss_cons (ps_asg (pe_ix ix_tup (pe_fld (pv 1) rfl) (pv 2) (fun _ _ => rfl)) (pg_tup (by rfl) (pgs_cons (pg_name (i := 4) sc_kinds_made.nd rfl (Or.inl rfl)) (pgs_cons (pg_name (i := 5) sc_kinds_made.nd rfl (Or.inl rfl)) pgs_nil))))
  (pss_cons (ps_set (i := 6) sc_kinds_made.nd rfl (Or.inl rfl) pe_dnewK)
  (pss_cons (ps_for PassesOwn.never rfl (pi_tup (pe_fld (pv 0) rfl)) (pg_tup rfl (pgs_cons (pg_name (i := 7) sc_kinds_made.nd rfl (Or.inl rfl)) (pgs_cons (pg_name (i := 8) sc_kinds_made.nd rfl (Or.inl rfl)) (pgs_cons (pg_name (i := 9) sc_kinds_made.nd rfl (Or.inl rfl)) (pgs_cons (pg_name (i := 10) sc_kinds_made.nd rfl (Or.inl rfl)) pgs_nil)))))
    (pss_one (ps_if (PW.pt (pw_and (pt_cmpR op_eq (pv 7) (pv 4) (nomark _)) (pw_and1 (pt_val (pe_callB (cr_all rfl) (by rfl) T.z_all (by decide +kernel) (pa_cons (pe_lc (own := [("need", 13)]) (g := gName 13) (tt := tYes) rfl sc_kinds_made.nd (ZpN.pi_zipN (by rfl) T.z_zip (pa_cons (pv 5) (pa_cons (pv 8) pa_nil))) (blkOk_by (N := ["book", "web", "value", "made", "op", "parts", "reached", "rule_op", "sources", "kind", "_", "grown", "source", "need"]) (sc := defScope s_kinds_made) (by decide +kernel)) (fun _ _ _ _ _ => pg_name (i := 13) sc_kinds_made.nd rfl (Or.inl rfl)) (fun _ _ _ _ _ => pts_nil) (fun _ _ _ _ _ => (pe_cmp (pc_din (hu1 hr) (pv 13) (pv 3)) rfl))) pa_nil))))))
    (pss_one (ps_dput (hu1 hr) (pv 6) (pv 9) pe_bl rfl))
    pss_nil)))
  (pss_cons (ps_set (i := 11) sc_kinds_made.nd rfl (Or.inl rfl) pe_bl)
  (pss_cons (ps_while PassesOwn.never (pt_val (pv 11))
    (pss_cons (ps_set (i := 11) sc_kinds_made.nd rfl (Or.inl rfl) pe_bl)
  (pss_one (ps_for PassesOwn.never rfl (pi_tup (pe_fld (pv 0) rfl)) (pg_tup rfl (pgs_cons (pg_name (i := 12) sc_kinds_made.nd rfl (Or.inl rfl)) (pgs_cons (pg_name (i := 9) sc_kinds_made.nd rfl (Or.inl rfl)) (pgs_cons (pg_name (i := 10) sc_kinds_made.nd rfl (Or.inl rfl)) pgs_nil))))
    (pss_one (ps_if (PW.pt (pw_and (pt_cmp (pc_din (hu1 hr) (pv 12) (pv 6))) (pw_and1 (pt_cmp (pc_dnotin (hu1 hr) (pv 9) (pv 6))))))
    (pss_cons (ps_dput (hu1 hr) (pv 6) (pv 9) pe_bl rfl)
  (pss_one (ps_set (i := 11) sc_kinds_made.nd rfl (Or.inl rfl) pe_bl)))
    pss_nil))))))
  (pss_one (ps_ret (pe_callTy (call_list_dK rfl) (by rfl) T.z_list (by decide +kernel) (pa_cons (pv 6) pa_nil))))))))), ?_⟩
  refine ⟨_, rfl, y, a.c_Web, dy, _, _, rfl, hy, T.C_Web, T.N_rows, rfl, _, rfl, q, _, _, _, rfl, rfl, hw, hvr1, pR, _, rfl, hp, rfl, _, _, rfl, _, _, rfl, rfl, ?_⟩
  refine fun dR hdR => ?_
  have s0 : Same H (upd H dR (.dK [])) := same_new hdR
  refine ⟨_, rfl, x, a.c_Book, dx, _, _, rfl, s0 _ _ hx, T.C_Book, T.N_rules, rfl, pr, rfl, ⟨_, (Tk.of s0).t hr1⟩, for_tup (xs := wr) (fun i σ H' => ∃ v7 v8 v9 v10 A, σ = [some (.ref x), some (.ref y), some (nv n), some (.ref d), some (nv (rowAt R n).1), some (.ref qR), some (.ref dR), v7, v8, v9, v10, none, none, none] ∧ Same H H' ∧ H' dR = some (.dK (fk A)) ∧ KSnd B R n A ∧ RulesIn B R n F A i) ?_ ?_ ?_ ?_⟩
  · exact ⟨none, none, none, none, [], rfl, s0, upd_same, ⟨List.nodup_nil, fun _ h => nomatch h⟩, fun k h => absurd h (Nat.not_lt_zero k)⟩
  · rintro i σ H' _ ⟨_, _, _, _, _, _, s1, _⟩
    exact (Tk.of s1).t hr1
  · rintro i v σ H1 hv ⟨v7, v8, v9, v10, A, rfl, s1, eR, kA, rA⟩
    have hi' : i < B.rs.length := by
      rw [← hr2.1]
      exact (List.getElem?_eq_some_iff.mp hv).1
    obtain ⟨pw, qw, rfl, hpw, hqw⟩ := (hr2.2 i v _ hv (rAt_of hi')).tt (Same_tt s1)
    refine ⟨pw, _, rfl, hpw, rfl, _, _, rfl, _, _, rfl, _, _, rfl, _, _, rfl, rfl, ?_⟩
    have step : ¬ ((rAt B.rs i).op = (rowAt R n).1 ∧ ∀ u ∈ List.zip (parts R n) (rAt B.rs i).src, u ∈ F) → RulesIn B R n F A (i + 1) := fun ne j hj hj2 e1 e2 => by
      rcases Nat.lt_or_ge j i with h | h
      · exact rA j h hj2 e1 e2
      · have : j = i := by omega
        subst this
        exact absurd ⟨e1, e2⟩ ne
    refine ⟨_, rfl, _, rfl, rfl, _, rfl, ite2 (fun hb => ?_) (fun hb => ?_)⟩
    · have ho : (rAt B.rs i).op = (rowAt R n).1 := by
        have := V.int.inj (of_decide_eq_true hb)
        omega
      have hlen : (parts R n).length = (rAt B.rs i).src.length := by
        have q1 := (W.g.r2 _ (rAt_mem hi')).2.1
        have q2 := (W.f _ hn).2
        rw [q1, ho, q2]
      have hpl2 := parts_len W.gr n
      have hq1 := (Tk.of s1).t hq
      refine ⟨_, rfl, _, rfl, qR, qw, _, _, rfl, hq1, hqw, fun D hD => ?_⟩
      refine lc_it (ZpN.walkT (xs := (parts R n).map nv) (ys := (rAt B.rs i).src.map nv) (by rw [List.length_map, List.length_map, hlen])) (fun j H' => Same H1 H' ∧ H' D = some (.lst ((((List.zip (parts R n) (rAt B.rs i).src).take j).map fun u => decide (u ∈ F)).map V.bl))) ⟨same_new hD, upd_same⟩ (fun j H' _ z => ⟨(Tk.of z.1).t hq1, (Tk.of z.1).t hqw⟩) (fun j v H2 H3 hj z hy' => ?_) (fun H2 z => ?_)
      · obtain ⟨s2, eD⟩ := z
        obtain ⟨tt, y1, y2, rfl, ht, rfl, e1, e2⟩ := hy'
        have e1 : ((parts R n).map nv)[j]? = some y1 := e1
        have e2 : ((rAt B.rs i).src.map nv)[j]? = some y2 := e2
        rw [List.getElem?_map] at e1 e2
        obtain ⟨z1, hz1, rfl⟩ := Option.map_eq_some_iff.mp e1
        obtain ⟨z2, hz2, rfl⟩ := Option.map_eq_some_iff.mp e2
        have hz : (List.zip (parts R n) (rAt B.rs i).src)[j]? = some (z1, z2) := by
          rw [List.getElem?_zip_eq_some]
          exact ⟨hz1, hz2⟩
        have eD2 : (upd H2 tt (.tup [nv z1, nv z2])) D = some (.lst ((((List.zip (parts R n) (rAt B.rs i).src).take j).map fun u => decide (u ∈ F)).map V.bl)) := by
          rw [upd_ne (ne_of_none eD ht)]
          exact eD
        have hd3 : (upd H2 tt (.tup [nv z1, nv z2])) d = some (.dT (tk F)) := (same_new ht) _ _ (s2 _ _ (s1 _ _ hd))
        refine ⟨rfl, ?_⟩
        refine ⟨_, rfl, _, rfl, d, _, rfl, DGet.t hd3 (k := kt (z1, z2)) upd_same, _, eD2, ?_, same_at (s2.trans (same_new ht)) hD, ?_⟩
        · rw [List.length_map, List.length_map, List.length_take, List.length_zip]
          exact lt_line (by omega)
        · rw [upd_same, List.take_add_one, hz, List.map_append, List.map_append, tk_some]
          rfl
      · obtain ⟨s2, eD⟩ := z
        refine ⟨D, _, rfl, .inl (.inl eD), ?_⟩
        rw [List.take_of_length_le (by rw [List.length_zip, List.length_map]; omega)]
        refine ⟨_, rfl, ite2 (fun hall => ?_) (fun hall => ?_)⟩
        · have hin := all_dec.mp hall
          have eR2 := s2 _ _ eR
          refine ⟨_, rfl, _, rfl, dR, _, rfl, DPut.k (k := ky (rAt B.rs i).kind) eR2 ?_, ?_⟩
          · rw [fk_len]
            have := kA.len W.g
            have := W.g.k2
            exact lt_line (by omega)
          · have hm := mak_rule hn hF hi' ho hin
            refine ⟨_, _, _, _, ins A (rAt B.rs i).kind, rfl, same_at (s1.trans s2) hdR, by rw [upd_same, fk_put], kA.ins hm, fun j hj hj2 e1 e2 => ?_⟩
            rcases Nat.lt_or_ge j i with h | h
            · exact mem_ins.mpr (Or.inl (rA j h hj2 e1 e2))
            · have : j = i := by omega
              subst this
              exact mem_ins.mpr (Or.inr rfl)
        · exact ⟨_, _, _, _, A, rfl, s1.trans s2, s2 _ _ eR, kA, step fun ⟨_, e2⟩ => hall (all_dec.mpr e2)⟩
    · refine ⟨_, _, _, _, A, rfl, s1, eR, kA, step fun ⟨e1, _⟩ => ?_⟩
      have : decide (nv (rAt B.rs i).op = nv (rowAt R n).1) = true := decide_eq_true (by rw [e1])
      exact hb this
  · rintro σ H1 ⟨v7, v8, v9, v10, A, rfl, s1, eR, kA, rA⟩
    rw [hr2.1] at rA
    -- grown = True; while grown
    refine ⟨fun m σ H' => ∃ v7 v8 v9 v10 v12 A g, σ = [some (.ref x), some (.ref y), some (nv n), some (.ref d), some (nv (rowAt R n).1), some (.ref qR), some (.ref dR), v7, v8, v9, v10, some (.bl g), v12, none] ∧ Same H H' ∧ H' dR = some (.dK (fk A)) ∧ KSnd B R n A ∧ RulesIn B R n F A B.rs.length ∧ ((g = true ∧ m = B.nk + 1 - A.length) ∨ (g = false ∧ m = 0 ∧ MovesIn B A B.ms.length)), ⟨B.nk + 1 - A.length, v7, v8, v9, v10, none, A, true, rfl, s1, eR, kA, rA, Or.inl ⟨rfl, rfl⟩⟩, ?_⟩
    rintro m σ H2 ⟨v7, v8, v9, v10, v12, A, g, rfl, s2, eR2, kA, rA, hg⟩
    refine ⟨_, rfl, _, rfl, ?_⟩
    rcases hg with ⟨rfl, rfl⟩ | ⟨rfl, rfl, hM⟩
    · refine iteT ⟨fun σ' H' => ∃ m', m' < B.nk + 1 - A.length ∧ ∃ v7 v8 v9 v10 v12 A g, σ' = [some (.ref x), some (.ref y), some (nv n), some (.ref d), some (nv (rowAt R n).1), some (.ref qR), some (.ref dR), v7, v8, v9, v10, some (.bl g), v12, none] ∧ Same H H' ∧ H' dR = some (.dK (fk A)) ∧ KSnd B R n A ∧ RulesIn B R n F A B.rs.length ∧ ((g = true ∧ m' = B.nk + 1 - A.length) ∨ (g = false ∧ m' = 0 ∧ MovesIn B A B.ms.length)), fun _ _ z => z, ?_⟩
      refine ⟨_, rfl, x, a.c_Book, dx, _, _, rfl, s2 _ _ hx, T.C_Book, T.N_moves, rfl, pm, rfl, ⟨_, (Tk.of s2).t hm1⟩, for_tup (xs := wm) (fun i σ H' => ∃ v7 v8 v9 v10 v12 A' g, σ = [some (.ref x), some (.ref y), some (nv n), some (.ref d), some (nv (rowAt R n).1), some (.ref qR), some (.ref dR), v7, v8, v9, v10, some (.bl g), v12, none] ∧ Same H H' ∧ H' dR = some (.dK (fk A')) ∧ KSnd B R n A' ∧ RulesIn B R n F A' B.rs.length ∧ ((g = true ∧ A.length < A'.length) ∨ (g = false ∧ A' = A ∧ MovesIn B A i))) ?_ ?_ ?_ ?_⟩
      · exact ⟨v7, v8, v9, v10, v12, A, false, rfl, s2, eR2, kA, rA, Or.inr ⟨rfl, rfl, fun k h => absurd h (Nat.not_lt_zero k)⟩⟩
      · rintro i σ H' _ ⟨_, _, _, _, _, _, _, _, s1, _⟩
        exact (Tk.of s1).t hm1
      · rintro i v σ H3 hv ⟨v7, v8, v9, v10, v12, A', g, rfl, s3, eR3, kA', rA', hg⟩
        have hi' : i < B.ms.length := by
          rw [← hm2.1]
          exact (List.getElem?_eq_some_iff.mp hv).1
        obtain ⟨pw, rfl, hpw⟩ := (hm2.2 i v _ hv (mAt_of hi')).tt (Same_tt s3)
        have keep : ¬ ((mAt B.ms i).src ∈ A' ∧ ¬ (mAt B.ms i).kind ∈ A') → ((g = true ∧ A.length < A'.length) ∨ (g = false ∧ A' = A ∧ MovesIn B A (i + 1))) := fun ne => by
          rcases hg with h | ⟨h1, h2, h3⟩
          · exact Or.inl h
          · refine Or.inr ⟨h1, h2, fun j hj hj2 e1 => ?_⟩
            rcases Nat.lt_or_ge j i with h | h
            · exact h3 j h hj2 e1
            · have : j = i := by omega
              subst this
              subst h2
              exact Classical.byContradiction fun q => ne ⟨e1, q⟩
        refine ⟨pw, _, rfl, hpw, rfl, _, _, rfl, _, _, rfl, _, _, rfl, rfl, ?_⟩
        refine ⟨_, rfl, _, rfl, dR, _, rfl, DGet.k (k := ky (mAt B.ms i).src) eR3, _, rfl, ?_⟩
        rw [fk_some]
        refine ite2 (fun h1 => ?_) (fun h1 => ?_)
        · have h1 := of_decide_eq_true h1
          refine ⟨_, rfl, _, rfl, dR, _, rfl, DGet.k (k := ky (mAt B.ms i).kind) eR3, _, rfl, ?_⟩
          rw [fk_some]
          refine ite2 (fun h2 => ?_) (fun h2 => ?_)
          · have h2 : ¬ (mAt B.ms i).kind ∈ A' := of_decide_eq_false (by simpa using h2)
            refine ⟨_, rfl, _, rfl, dR, _, rfl, DPut.k (k := ky (mAt B.ms i).kind) eR3 ?_, ?_⟩
            · rw [fk_len]
              have := kA'.len W.g
              have := W.g.k2
              exact lt_line (by omega)
            · refine ⟨_, _, _, _, _, ins A' (mAt B.ms i).kind, true, rfl, same_at s3 hdR, by rw [upd_same, fk_put], kA'.ins (mak_move hn hi' (kA'.ok _ h1)), fun j hj hj2 e1 e2 => mem_ins.mpr (Or.inl (rA' j hj hj2 e1 e2)), Or.inl ⟨rfl, ?_⟩⟩
              rw [ins_gt h2]
              rcases hg with h | ⟨_, h, _⟩
              · omega
              · rw [h]
                omega
          · exact ⟨_, _, _, _, _, A', g, rfl, s3, eR3, kA', rA', keep fun q => h2 (by rw [decide_eq_false q.2]; rfl)⟩
        · exact ⟨_, _, _, _, _, A', g, rfl, s3, eR3, kA', rA', keep fun q => h1 (decide_eq_true q.1)⟩
      · rintro σ H3 ⟨v7, v8, v9, v10, v12, A', g, rfl, s3, eR3, kA', rA', hg⟩
        rw [hm2.1] at hg
        have l1 := kA.len W.g
        have l2 := kA'.len W.g
        rcases hg with ⟨rfl, hl⟩ | ⟨rfl, rfl, hM⟩
        · exact ⟨B.nk + 1 - A'.length, by omega, v7, v8, v9, v10, v12, A', true, rfl, s3, eR3, kA', rA', Or.inl ⟨rfl, rfl⟩⟩
        · exact ⟨0, by omega, v7, v8, v9, v10, v12, A', false, rfl, s3, eR3, kA', rA', Or.inr ⟨rfl, rfl, hM⟩⟩
    · refine iteF ?_
      refine ⟨_, rfl, dR, _, rfl, eR2, fun p hp => ?_⟩
      refine k p _ A (s2.trans (same_new hp)) (none_of s2 hp) ?_ kA fun κ m => kinds_all W.gr hC rA hM m rfl
      rw [upd_same, fk_list]
end
end Lk
namespace Lk
open PySem L2
section
theorem same_keep {H0 H1 : Hp} {D l : Addr} {o u : HO} (h1 : H1 l = some u) (hD : H0 D = none) (hl : D ≠ l) : (upd H1 D o) l = some u := by
  rw [upd_ne hl.symm]
  exact h1
end
section
variable {P : Program} {w : World} {K : PySem.W.Frag} {mg : Str → Option Value} {base : Heap} {a : Adr}
def spMakeable (K : PySem.W.Frag) (a : Adr) : Sp := fun vs H Q _ => ∃ (x y : Addr) (B : Bk) (R : List Row), vs = [.ref x, .ref y] ∧ BW K a H x y B R ∧ ∀ p H', Same H H' → H p = none → ThsT K H' p (makM B R) → Q (.ref p) H'
theorem ok_makeable (T : Txt K mg a) : FnOk P w K mg base CX0 4 a.f_makeable a.d_makeable ["book", "web"] (spMakeable K a) := by
  have G_check_web := ok_check_web (P := P) (w := w) (base := base) T
  have G_kinds_made := ok_kinds_made (P := P) (w := w) (base := base) T
  refine T.F_makeable.ok sc_makeable (fun vs H Q E h => ?_) (fun cdv A outer s H vs Q E hr h => ?_)
  · obtain ⟨x, y, B, R, rfl, _⟩ := h
    rfl
  obtain ⟨x, y, B, R, rfl, W, k⟩ := h
  refine ⟨_, (pss_cons (ps_expr (pe_call G_check_web (hr.mono (by decide)) rfl T.g_check_web T.k_check_web T.b_check_web .nil pass0 (pa_cons (pv 0) (pa_cons (pv 1) pa_nil))))
  (pss_cons (ps_set (i := 2) sc_makeable.nd rfl (Or.inl rfl) pe_dnewT)
  (pss_cons (ps_for PassesOwn.never rfl (pi_range1 rfl T.z_range (pa_cons (pe_callB call_len_seq (by rfl) T.z_len PySem.boot_len (pa_cons (pe_fld (pv 1) rfl) pa_nil)) pa_nil)) (pg_name (i := 3) sc_makeable.nd rfl (Or.inl rfl))
    (pss_one (ps_for PassesOwn.never rfl (pi_list (pe_call G_kinds_made (hr.mono (by decide)) rfl T.g_kinds_made T.k_kinds_made T.b_kinds_made .nil pass0 (pa_cons (pv 0) (pa_cons (pv 1) (pa_cons (pv 3) (pa_cons (pv 2) pa_nil)))))) (pg_name (i := 4) sc_makeable.nd rfl (Or.inl rfl))
    (pss_one (ps_dput (hu1 hr) (pv 2) (pe_tup (pa_cons (pv 3) (pa_cons (pv 4) pa_nil))) pe_bl rfl)))))
  (pss_one (ps_ret (pe_callTy call_tuple_of (by rfl) T.z_tuple (by decide +kernel) (pa_cons (pe_callB (SoP.call_sortDP rfl) (by rfl) T.z_sorted (by decide +kernel) (pa_cons (pv 2) pa_nil)) pa_nil))))))), ?_⟩
  refine ⟨_, rfl, _, rfl, x, y, B, R, rfl, W, fun H0 s0 => ?_⟩
  refine fun dM hdM0 => ?_
  have hdM : H dM = none := none_of s0 hdM0
  have s1 : Same H (upd H0 dM (.dT [])) := s0.trans (same_new hdM0)
  obtain ⟨dy, q, hy, hRT⟩ := id W.r
  obtain ⟨ws, hw, hwl, hrow⟩ := hRT
  have hbd : ∀ F, Snd B R F → F.length < sizeLine := fun F sF => by
    have h1 := sF.len W.g
    have h2 := W.l
    have h3 := W.g.k2
    have h4 : R.length * B.nk ≤ 200 * 5 := Nat.mul_le_mul h2 h3
    exact lt_line (by omega)
  refine ⟨_, rfl, y, a.c_Web, dy, _, _, rfl, s1 _ _ hy, T.C_Web, T.N_rows, rfl, q, ws, rfl, .inr ((Tk.of s1).t hw), _, rfl, ?_⟩
  rw [hwl]
  refine ⟨by omega, by have := W.l; omega, for_range (lo := 0) (n := ((R.length : Nat) : Int).toNat) (fun i σ H' => ∃ v3 v4 F, σ = [some (.ref x), some (.ref y), some (.ref dM), v3, v4] ∧ Same H H' ∧ H' dM = some (.dT (tk F)) ∧ Snd B R F ∧ Cpl B R i F) ⟨none, none, [], rfl, s1, upd_same, Snd.nil, fun t h => absurd h (Nat.not_lt_zero _)⟩ ?_ ?_⟩
  · rintro i σ H1 hi ⟨v3, v4, F, rfl, s2, eM, sF, cF⟩
    have hi' : i < R.length := by omega
    have e0 : V.int (0 + (i : Nat)) = nv i := by
      show V.int (0 + (i : Nat)) = V.int (i : Int)
      rw [Int.zero_add]
    rw [e0]
    refine ⟨_, rfl, _, rfl, _, rfl, _, rfl, x, y, dM, B, R, i, F, rfl, W.same s2, hi', eM, sF.ok, cF, fun l H2 A s3 hl el kA cA => ?_⟩
    have ne : dM ≠ l := fun e => by
      rw [e, hl] at eM
      cases eM
    refine ⟨l, rfl, ⟨_, SqL.of el⟩, for_list (xs := A.map nv) (fun j σ H' => ∃ v4 F', σ = [some (.ref x), some (.ref y), some (.ref dM), some (nv i), v4] ∧ Same H H' ∧ H' l = some (.lst (A.map nv)) ∧ H' dM = some (.dT (tk F')) ∧ Snd B R F' ∧ Cpl B R i F' ∧ ∀ κ ∈ A.take j, (i, κ) ∈ F') ?_ ?_ ?_ ?_⟩
    · exact ⟨_, F, rfl, s2.trans s3, el, s3 _ _ eM, sF, cF, fun κ h => nomatch h⟩
    · rintro j σ H' _ ⟨_, _, _, _, e, _⟩
      exact SqL.of e
    · rintro j v σ H3 hv ⟨v4, F', rfl, s4, el4, eM4, sF4, cF4, hA4⟩
      rw [List.getElem?_map] at hv
      obtain ⟨κ, hκ, rfl⟩ := Option.map_eq_some_iff.mp hv
      have hm := kA.ok κ (List.mem_of_getElem? hκ)
      refine ⟨_, rfl, _, rfl, _, rfl, (by decide : 2 ≤ sizeLine), fun p hp => ?_⟩
      have eM5 : (upd H3 p (.tup [nv i, nv κ])) dM = some (.dT (tk F')) := (same_new hp) _ _ eM4
      refine ⟨dM, _, rfl, DPut.t (k := kt (i, κ)) eM5 upd_same (by rw [tk_len]; exact hbd F' sF4), ?_⟩
      refine ⟨_, insT F' (i, κ), rfl, same_at (s4.trans (same_new hp)) hdM, ?_, by rw [upd_same, tk_put], sF4.ins hm, fun t ht m => mem_insT.mpr (Or.inl (cF4 t ht m)), fun κ' hκ' => ?_⟩
      · rw [upd_ne ne.symm]
        exact (same_new hp) _ _ el4
      · rw [List.take_add_one, hκ, List.mem_append] at hκ'
        rcases hκ' with h | h
        · exact mem_insT.mpr (Or.inl (hA4 κ' h))
        · rw [List.mem_singleton.mp h]
          exact mem_insT.mpr (Or.inr rfl)
    · rintro σ H3 ⟨v4, F', rfl, s4, el4, eM4, sF4, cF4, hA4⟩
      refine ⟨_, _, F', rfl, s4, eM4, sF4, fun t ht m => ?_⟩
      rcases Nat.lt_or_ge t.1 i with h | h
      · exact cF4 t h m
      · have e : t = (i, t.2) := Prod.ext (by omega) rfl
        rw [e] at m ⊢
        refine hA4 t.2 ?_
        rw [List.take_of_length_le (by rw [List.length_map]; exact Nat.le_refl _)]
        exact cA t.2 m
  · rintro σ H1 ⟨v3, v4, F, rfl, s2, eM, sF, cF⟩
    refine ⟨_, rfl, dM, _, rfl, .inl eM, tk_keys, fun bs kf ys p hbs hkf hs hb hp => ?_⟩
    have hP := srt_ths (keys_ths hbs) hkf hs hb sF.nd
    have s3 := s2.trans (same_new (o := .lst ys) hp)
    refine ⟨p, ys, rfl, .inl ⟨SqL.of upd_same, fun q2 hq2 => ?_⟩⟩
    refine k q2 _ (s3.trans (same_new hq2)) (none_of s3 hq2) (tup_of_pl ?_ hq2)
    have e3 : makM B R = lotT F := asc_uniq asc_makM asc_lotT fun t => by
      rw [mem_makM W.g, mem_lotT]
      exact ⟨fun m => cF t (by have := (m.lt W.g).1; omega) m, sF.ok t⟩
    rw [e3]
    exact hP.mono fun _ _ q => q.tt (K := K) (tt_new hp)
end
end Lk
namespace Lk
open PySem L2
theorem notInQ {K : PySem.W.Frag} {X : Cx} (h : X.K = K) (hu : X.A.units + 65 < cLine) : OpR X (compareOp .NotIn) (rNotInQ K) := by
  subst h
  exact op_notInQ hu
section
variable {P : Program} {w : World} {K : PySem.W.Frag} {mg : Str → Option Value} {base : Heap} {a : Adr}
/-- the parts of a book and the values of a web, as the law holds them -/
structure PR (K : PySem.W.Frag) (H : Hp) (p v : Addr) (B : Bk) (R : List Row) : Prop where
  b : PartsV K H p B
  r : RowsT K H v R
  g : GoodB B
  gr : Good R
  f : FitsM B R
  l : R.length ≤ 200
theorem PR.tt {H H' : Hp} {p v : Addr} {B : Bk} {R : List Row} (s : TT K H H') (h : PR K H p v B R) : PR K H' p v B R := ⟨h.b.tt s, h.r.tt s, h.g, h.gr, h.f, h.l⟩
def spLWays (K : PySem.W.Frag) : Sp := fun vs H Q _ => ∃ (p v c : Addr) (B : Bk) (R : List Row) (t : Th), vs = [.ref p, .ref v, .ref c] ∧ PR K H p v B R ∧ SqT K H c [nv t.1, nv t.2] ∧ t.1 < R.length ∧ ∀ l H', Same H H' → H l = none → WaysL K H' l (waysM B R t) → Q (.ref l) H'
theorem ok_law_ways (T : Txt K mg a) : FnOk P w K mg base CX0 1 a.f_law_ways a.d_law_ways ["_law_parts", "_law_values_here", "_law_thing"] (spLWays K) := by
  refine T.F_law_ways.ok sc_law_ways (fun vs H Q E h => ?_) (fun cdv A outer s H vs Q E hr h => ?_)
  · obtain ⟨x, y, c, B, R, t, rfl, _⟩ := h
    rfl
  obtain ⟨p, v, c, B, R, t, rfl, W, hc, h1, k⟩ := h
  obtain ⟨pa, pr, pm, hx, hx2, ⟨wr, hr1, hr2⟩, ⟨wm, hm1, hm2⟩⟩ := id W.b
  obtain ⟨ws, hw, hwl, hrow⟩ := id W.r
  obtain ⟨vr, hvr1, pR, qR, rfl, hp, hq⟩ := at_row hwl hrow h1
  refine ⟨_, (pss_cons (ps_asg (pe_tup (pa_cons (pe_ix (ixT (K := K) rfl) (pv 0) pe_int (fun _ _ => rfl)) (pa_cons (pe_ix (ixT (K := K) rfl) (pv 0) pe_int (fun _ _ => rfl)) pa_nil))) (pg_tup (by rfl) (pgs_cons (pg_name (i := 3) sc_law_ways.nd rfl (Or.inr rfl)) (pgs_cons (pg_name (i := 4) sc_law_ways.nd rfl (Or.inr rfl)) pgs_nil))))
  (pss_cons (ps_set (i := 5) sc_law_ways.nd rfl (Or.inr rfl) (pe_ix (ixT (K := K) rfl) (pe_ix (ixT (K := K) rfl) (pv 1) (pe_ix (ixT (K := K) rfl) (pv 2) pe_int (fun _ _ => rfl)) (fun _ _ => rfl)) pe_int (fun _ _ => rfl)))
  (pss_cons (ps_setLc (i := 6) (own := [("_law_k", 7)]) (g := gName 7) (tt := _) rfl sc_law_ways.nd rfl rfl (sw_true rfl rfl rfl (by decide +kernel)) (pi_range1 rfl T.z_range (pa_cons (pe_callB call_len_seq (by rfl) T.z_len PySem.boot_len (pa_cons (pv 4) pa_nil)) pa_nil)) (blkOk_by (N := ["_law_parts", "_law_values_here", "_law_thing", "_law_rules_here", "_law_moves_here", "_law_op", "_law_found", "_law_k"]) (sc := defScope s_law_ways) (by decide +kernel)) (fun _ _ _ _ _ => pg_name (i := 7) sc_law_ways.nd rfl (Or.inl rfl)) (fun _ _ _ _ _ => (pts_one (pt_cmpR op_eq (pe_ix (ixT (K := K) rfl) (pe_ix (ixT (K := K) rfl) (pv 4) (pv 7) (fun _ _ => rfl)) pe_int (fun _ _ => rfl)) (pe_ix (ixT (K := K) rfl) (pv 2) pe_int (fun _ _ => rfl)) (nomark _)))) (fun _ _ _ _ _ => (pe_tup (pa_cons pe_str (pa_cons (pv 7) pa_nil)))))
  (pss_one (ps_ret (pe_op op_cat (pv 6) (pe_lc (own := [("_law_k", 7)]) (g := gName 7) (tt := _) rfl sc_law_ways.nd (pi_range1 rfl T.z_range (pa_cons (pe_callB call_len_seq (by rfl) T.z_len PySem.boot_len (pa_cons (pv 3) pa_nil)) pa_nil)) (blkOk_by (N := ["_law_parts", "_law_values_here", "_law_thing", "_law_rules_here", "_law_moves_here", "_law_op", "_law_found", "_law_k"]) (sc := defScope s_law_ways) (by decide +kernel)) (fun _ _ _ _ _ => pg_name (i := 7) sc_law_ways.nd rfl (Or.inl rfl)) (fun _ _ _ _ _ => (pts_one (PW.pt (pw_and (pt_cmpR op_eq (pe_ix (ixT (K := K) rfl) (pe_ix (ixT (K := K) rfl) (pv 3) (pv 7) (fun _ _ => rfl)) pe_int (fun _ _ => rfl)) (pv 5) (nomark _)) (pw_and1 (pt_cmpR op_eq (pe_ix (ixT (K := K) rfl) (pe_ix (ixT (K := K) rfl) (pv 3) (pv 7) (fun _ _ => rfl)) pe_int (fun _ _ => rfl)) (pe_ix (ixT (K := K) rfl) (pv 2) pe_int (fun _ _ => rfl)) (nomark _))))))) (fun _ _ _ _ _ => (pe_tup (pa_cons pe_str (pa_cons (pv 7) pa_nil))))))))))), ?_⟩
  refine ⟨_, rfl, p, _, _, _, rfl, rfl, hx, rfl, _, rfl, p, _, _, _, rfl, rfl, hx, rfl, (by decide : 2 ≤ sizeLine), fun tp htp => ?_⟩
  have s0 : Same H (upd H tp (.tup [.ref pr, .ref pm])) := same_new htp
  refine ⟨tp, _, rfl, .inl (.inl upd_same), rfl, _, _, rfl, _, _, rfl, rfl, ?_⟩
  have W0 := W.tt (Same_tt s0)
  generalize hH0 : upd H tp (.tup [.ref pr, .ref pm]) = H0 at s0 W0
  have T0 : TT K H H0 := Same_tt s0
  refine ⟨_, rfl, _, rfl, c, _, _, _, rfl, rfl, T0.t _ _ hc, rfl, v, _, _, _, rfl, rfl, T0.t _ _ hw, hvr1, pR, _, _, _, rfl, rfl, T0.t _ _ hp, rfl, ?_⟩
  have hm1' := T0.t _ _ hm1
  have hr1' := T0.t _ _ hr1
  have hc' := T0.t _ _ hc
  refine ⟨_, rfl, pm, wm, rfl, .inr hm1', _, rfl, ?_⟩
  rw [hm2.1]
  refine ⟨by omega, by have := W.g.m1; omega, fun D hD => ?_⟩
  refine lc_range (lo := 0) (n := ((B.ms.length : Nat) : Int).toNat) (fun i H' => Same H0 H' ∧ WaysL K H' D ((fl (fun k => decide ((mAt B.ms k).kind = t.2)) i).map fun k => (false, k))) ⟨same_new hD, [], upd_same, PL.nil⟩ (fun i H1 hi z => ?_) (fun H1 z => ?_)
  · obtain ⟨s1, us, eD, hpl⟩ := z
    have hi' : i < B.ms.length := by omega
    have e0 : V.int (0 + (i : Nat)) = nv i := by
      show V.int (0 + (i : Nat)) = V.int (i : Int)
      rw [Int.zero_add]
    rw [e0]
    obtain ⟨vm, hvm, pw, rfl, hpw⟩ := hm2.at (mAt_of hi')
    have T1 : TT K H0 H1 := Same_tt s1
    refine ⟨rfl, ?_⟩
    refine ⟨_, rfl, _, rfl, pm, _, _, _, rfl, rfl, T1.t _ _ hm1', atI_nat hvm, pw, _, _, _, rfl, rfl, T1.t _ _ (T0.t _ _ hpw), rfl, _, rfl, c, _, _, _, rfl, rfl, T1.t _ _ hc', rfl, rfl, _, rfl, ite2 (fun hb => ?_) (fun hb => ?_)⟩
    · have hk : (mAt B.ms i).kind = t.2 := by
        have := V.int.inj (of_decide_eq_true hb)
        omega
      refine ⟨_, rfl, (by decide : 2 ≤ sizeLine), fun p hp => ?_⟩
      refine ⟨us, by rw [upd_ne (ne_of_none eD hp)]; exact eD, ?_, same_at (s1.trans (same_new hp)) hD, ?_⟩
      · rw [hpl.1, List.length_map]
        have := fl_len (fun k => decide ((mAt B.ms k).kind = t.2)) i
        have := W.g.m1
        exact lt_line (by omega)
      · rw [fl_yes (decide_eq_true hk), List.map_append]
        exact ways_push (b := false) eD hpl hp
    · have hk : ¬ (mAt B.ms i).kind = t.2 := fun e => by
        have : decide (nv (mAt B.ms i).kind = nv t.2) = true := decide_eq_true (by rw [e])
        exact hb this
      refine ⟨s1, ?_⟩
      rw [fl_no (decide_eq_false hk)]
      exact ⟨us, eD, hpl⟩
  · obtain ⟨s1, hL1⟩ := z
    have T1 : TT K H0 H1 := Same_tt s1
    refine ⟨_, rfl, _, rfl, pr, wr, rfl, .inr (T1.t _ _ hr1'), _, rfl, ?_⟩
    rw [hr2.1]
    refine ⟨by omega, by have := W.g.r1; omega, fun D2 hD2 => ?_⟩
    refine lc_range (lo := 0) (n := ((B.rs.length : Nat) : Int).toNat) (fun i H' => Same H1 H' ∧ WaysL K H' D2 ((fl (fun k => decide ((rAt B.rs k).op = (rowAt R t.1).1) && decide ((rAt B.rs k).kind = t.2)) i).map fun k => (true, k))) ⟨same_new hD2, [], upd_same, PL.nil⟩ (fun i H2 hi z => ?_) (fun H2 z => ?_)
    · obtain ⟨s2, us, eD, hpl⟩ := z
      have hi' : i < B.rs.length := by omega
      have e0 : V.int (0 + (i : Nat)) = nv i := by
        show V.int (0 + (i : Nat)) = V.int (i : Int)
        rw [Int.zero_add]
      rw [e0]
      obtain ⟨vm, hvm, pw, qw, rfl, hpw, _⟩ := hr2.at (rAt_of hi')
      have T2 : TT K H0 H2 := T1.trans (Same_tt s2)
      refine ⟨rfl, ?_⟩
      refine ⟨_, rfl, _, rfl, pr, _, _, _, rfl, rfl, T2.t _ _ hr1', atI_nat hvm, pw, _, _, _, rfl, rfl, T2.t _ _ (T0.t _ _ hpw), rfl, _, rfl, rfl, _, rfl, ite2 (fun hb => ?_) (fun hb => ?_)⟩
      · have hk : (rAt B.rs i).op = (rowAt R t.1).1 := by
          have := V.int.inj (of_decide_eq_true hb)
          omega
        refine ⟨_, rfl, _, rfl, pr, _, _, _, rfl, rfl, T2.t _ _ hr1', atI_nat hvm, pw, _, _, _, rfl, rfl, T2.t _ _ (T0.t _ _ hpw), rfl, _, rfl, c, _, _, _, rfl, rfl, T2.t _ _ hc', rfl, rfl, _, rfl, ite2 (fun hb2 => ?_) (fun hb2 => ?_)⟩
        · have hk2 : (rAt B.rs i).kind = t.2 := by
            have := V.int.inj (of_decide_eq_true hb2)
            omega
          refine ⟨_, rfl, (by decide : 2 ≤ sizeLine), fun p hp => ?_⟩
          refine ⟨us, by rw [upd_ne (ne_of_none eD hp)]; exact eD, ?_, same_at (s2.trans (same_new hp)) hD2, ?_⟩
          · rw [hpl.1, List.length_map]
            have := fl_len (fun k => decide ((rAt B.rs k).op = (rowAt R t.1).1) && decide ((rAt B.rs k).kind = t.2)) i
            have := W.g.r1
            exact lt_line (by omega)
          · rw [fl_yes (both hk hk2), List.map_append]
            exact ways_push (b := true) eD hpl hp
        · have hk2 : ¬ (rAt B.rs i).kind = t.2 := fun e => by
            have : decide (nv (rAt B.rs i).kind = nv t.2) = true := decide_eq_true (by rw [e])
            exact hb2 this
          refine ⟨s2, ?_⟩
          rw [fl_no (by rw [decide_eq_false hk2, Bool.and_false])]
          exact ⟨us, eD, hpl⟩
      · have hk : ¬ (rAt B.rs i).op = (rowAt R t.1).1 := fun e => by
          have : decide (nv (rAt B.rs i).op = nv (rowAt R t.1).1) = true := decide_eq_true (by rw [e])
          exact hb this
        refine ⟨s2, ?_⟩
        rw [fl_no (by rw [decide_eq_false hk, Bool.false_and])]
        exact ⟨us, eD, hpl⟩
    · obtain ⟨s2, us2, e2, hl2⟩ := z
      obtain ⟨us1, e1, hl1⟩ := hL1
      have e1' := s2 _ _ e1
      refine ⟨D, D2, us1, us2, rfl, rfl, e1', e2, ?_, fun p hp => ?_⟩
      · rw [hl1.1, hl2.1, List.length_map, List.length_map]
        have := fl_len (fun k => decide ((mAt B.ms k).kind = t.2)) ((B.ms.length : Nat) : Int).toNat
        have := fl_len (fun k => decide ((rAt B.rs k).op = (rowAt R t.1).1) && decide ((rAt B.rs k).kind = t.2)) ((B.rs.length : Nat) : Int).toNat
        have := W.g.r1
        have := W.g.m1
        exact Nat.le_of_lt (lt_line (by omega))
      · have ss := (s0.trans s1).trans s2
        refine k p _ (ss.trans (same_new hp)) (none_of ss hp) ⟨us1 ++ us2, upd_same, ?_⟩
        have := (hl1.mono fun _ _ q => q.tt (Same_tt s2)).app hl2
        rw [Int.toNat_natCast, Int.toNat_natCast] at this
        exact this.mono fun _ _ q => q.tt (tt_new hp)
end
end Lk
namespace Lk
open PySem L2
section
variable {P : Program} {w : World} {K : PySem.W.Frag} {mg : Str → Option Value} {base : Heap} {a : Adr}
def spLNeeds (K : PySem.W.Frag) : Sp := fun vs H Q _ => ∃ (p v c e : Addr) (B : Bk) (R : List Row) (t : Th) (u : Wy), vs = [.ref p, .ref v, .ref c, .ref e] ∧ PR K H p v B R ∧ SqT K H c [nv t.1, nv t.2] ∧ t.1 < R.length ∧ SqT K H e [.str (wd u.1), nv u.2] ∧ u ∈ waysM B R t ∧ ∀ q H', Same H H' → H q = none → ThsT K H' q (needsM B R t u) → Q (.ref q) H'
theorem ok_law_needs (T : Txt K mg a) : FnOk P w K mg base CX0 1 a.f_law_needs a.d_law_needs ["_law_parts", "_law_values_here", "_law_thing", "_law_way"] (spLNeeds K) := by
  refine T.F_law_needs.ok sc_law_needs (fun vs H Q E h => ?_) (fun cdv A outer s H vs Q E hr h => ?_)
  · obtain ⟨x, y, c, e, B, R, t, u, rfl, _⟩ := h
    rfl
  obtain ⟨p, v, c, e, B, R, t, u, rfl, W, hc, h1, he, hu, k⟩ := h
  obtain ⟨pa, pr, pm, hx, hx2, ⟨wr, hr1, hr2⟩, ⟨wm, hm1, hm2⟩⟩ := id W.b
  obtain ⟨ws, hw, hwl, hrow⟩ := id W.r
  obtain ⟨vr, hvr1, pR, qR, rfl, hp, hq⟩ := at_row hwl hrow h1
  obtain ⟨b, i⟩ := u
  refine ⟨_, (pss_cons (ps_if (pt_cmpR op_eq (pe_ix ix_tup (pv 3) pe_int (fun _ _ => rfl)) pe_str (nomark _))
    (pss_one (ps_ret (pe_tup (pa_cons (pe_tup (pa_cons (pe_ix ix_tup (pv 2) pe_int (fun _ _ => rfl)) (pa_cons (pe_ix ix_tup (pe_ix ix_tup (pe_ix ix_tup (pv 0) pe_int (fun _ _ => rfl)) (pe_ix ix_tup (pv 3) pe_int (fun _ _ => rfl)) (fun _ _ => rfl)) pe_int (fun _ _ => rfl)) pa_nil))) pa_nil))))
    pss_nil)
  (pss_cons (ps_set (i := 4) sc_law_needs.nd rfl (Or.inl rfl) (pe_ix ix_tup (pe_ix ix_tup (pv 1) (pe_ix ix_tup (pv 2) pe_int (fun _ _ => rfl)) (fun _ _ => rfl)) pe_int (fun _ _ => rfl)))
  (pss_cons (ps_set (i := 5) sc_law_needs.nd rfl (Or.inl rfl) (pe_ix ix_tup (pe_ix ix_tup (pe_ix ix_tup (pv 0) pe_int (fun _ _ => rfl)) (pe_ix ix_tup (pv 3) pe_int (fun _ _ => rfl)) (fun _ _ => rfl)) pe_int (fun _ _ => rfl)))
  (pss_cons (ps_set (i := 6) sc_law_needs.nd rfl (Or.inl rfl) (pe_lst pa_nil))
  (pss_cons (ps_for PassesOwn.never rfl (pi_range1 rfl T.z_range (pa_cons (pe_callB call_len_seq (by rfl) T.z_len PySem.boot_len (pa_cons (pv 4) pa_nil)) pa_nil)) (pg_name (i := 7) sc_law_needs.nd rfl (Or.inl rfl))
    (pss_one (ps_if (pt_cmpR (op_notInD (u65 hr)) (pe_tup (pa_cons (pe_ix ix_tup (pv 4) (pv 7) (fun _ _ => rfl)) (pa_cons (pe_ix ix_tup (pv 5) (pv 7) (fun _ _ => rfl)) pa_nil))) (pv 6) rfl)
    (pss_one (ps_expr (pe_bm PySem.F.plainAttrs_list PySem.F.slot_list_append PySem.F.type_list_append mt_append (pv 6) (pa_cons (pe_tup (pa_cons (pe_ix ix_tup (pv 4) (pv 7) (fun _ _ => rfl)) (pa_cons (pe_ix ix_tup (pv 5) (pv 7) (fun _ _ => rfl)) pa_nil))) pa_nil))))
    pss_nil)))
  (pss_one (ps_ret (pe_callTy call_tuple_of (by rfl) T.z_tuple (by decide +kernel) (pa_cons (pe_callB cr_sortedPO (by rfl) T.z_sorted (by decide +kernel) (pa_cons (pv 6) pa_nil)) pa_nil))))))))), ?_⟩
  cases b with
  | false =>
    obtain ⟨hi, hi2⟩ := mem_waysF.mp hu
    obtain ⟨vm, hvm, pm1, rfl, hpm⟩ := hm2.at (mAt_of hi)
    refine ⟨_, rfl, e, _, _, _, rfl, rfl, he, rfl, rfl, _, rfl, iteC (decide_eq_true rfl) ?_⟩
    refine ⟨_, rfl, c, _, _, _, rfl, rfl, hc, rfl, _, rfl, p, _, _, _, rfl, rfl, hx, rfl, _, rfl, e, _, _, _, rfl, rfl, he, rfl, pm, _, _, _, rfl, rfl, hm1, atI_nat hvm, pm1, _, _, _, rfl, rfl, hpm, rfl, (by decide : 2 ≤ sizeLine), fun p1 hp1 => ⟨(by decide : 1 ≤ sizeLine), fun p2 hp2 => ?_⟩⟩
    have s2 := (same_new (o := .tup [nv t.1, nv (mAt B.ms i).src]) hp1).trans (same_new (o := .tup [.ref p1]) hp2)
    exact k p2 _ s2 (none_of (same_new hp1) hp2) ⟨[.ref p1], .inl (.inl upd_same), .one ⟨p1, rfl, (same_new hp2) _ _ upd_same⟩⟩
  | true =>
    obtain ⟨hi, hi2, hi3⟩ := mem_waysT.mp hu
    obtain ⟨vm, hvm, pr1, qr1, rfl, hpr, hqr⟩ := hr2.at (rAt_of hi)
    refine ⟨_, rfl, e, _, _, _, rfl, rfl, he, rfl, rfl, _, rfl, iteD (decide_eq_false (by intro z; exact absurd (wd_inj (b := true) (c := false) (V.str.inj z)) (by decide))) ?_⟩
    refine ⟨_, rfl, _, rfl, c, _, _, _, rfl, rfl, hc, rfl, v, _, _, _, rfl, rfl, hw, hvr1, pR, _, _, _, rfl, rfl, hp, rfl, ?_⟩
    refine ⟨_, rfl, p, _, _, _, rfl, rfl, hx, rfl, _, rfl, e, _, _, _, rfl, rfl, he, rfl, pr, _, _, _, rfl, rfl, hr1, atI_nat hvm, pr1, _, _, _, rfl, rfl, hpr, rfl, ?_⟩
    have hlen : (parts R t.1).length = (rAt B.rs i).src.length := by
      have q1 := (W.g.r2 _ (rAt_mem hi)).2.1
      have q2 := (W.f _ h1).2
      rw [q1, hi2, q2]
    have hpl2 := parts_len W.gr t.1
    have hpl3 : (rowAt R t.1).2.length ≤ 2 := hpl2
    refine ⟨Nat.zero_le _, fun l hl => ?_⟩
    have s0 : Same H (upd H l (.lst [])) := same_new hl
    refine ⟨_, rfl, qR, _, rfl, .inr ((Tk.of s0).t hq), _, rfl, ?_⟩
    rw [List.length_map]
    refine ⟨by omega, by omega, for_range (lo := 0) (n := (((parts R t.1).length : Nat) : Int).toNat) (fun j σ H' => ∃ v7 us, σ = [some (.ref p), some (.ref v), some (.ref c), some (.ref e), some (.ref qR), some (.ref qr1), some (.ref l), v7] ∧ Same H H' ∧ H' l = some (.lst us) ∧ PL (ThV H') us (((List.zip (parts R t.1) (rAt B.rs i).src).take j).foldl insT [])) ⟨none, [], rfl, s0, upd_same, PL.nil⟩ ?_ ?_⟩
    · rintro j σ H1 hj ⟨v7, us, rfl, s1, eL, hpl⟩
      have e0 : V.int (0 + (j : Nat)) = nv j := by
        show V.int (0 + (j : Nat)) = V.int (j : Int)
        rw [Int.zero_add]
      rw [e0]
      have hj' : j < (parts R t.1).length := by omega
      have hj2 : j < (rAt B.rs i).src.length := by omega
      have hz : (List.zip (parts R t.1) (rAt B.rs i).src)[j]? = some ((parts R t.1)[j], (rAt B.rs i).src[j]) := by
        rw [List.getElem?_zip_eq_some]
        exact ⟨List.getElem?_eq_getElem hj', List.getElem?_eq_getElem hj2⟩
      generalize hz1 : (parts R t.1)[j] = z1 at hz
      generalize hz2 : (rAt B.rs i).src[j] = z2 at hz
      have i1 : atI ((parts R t.1).map nv) (j : Int) = some (nv z1) := atI_nat (by rw [List.getElem?_map, List.getElem?_eq_getElem hj', hz1]; rfl)
      have i2 : atI ((rAt B.rs i).src.map nv) (j : Int) = some (nv z2) := atI_nat (by rw [List.getElem?_map, List.getElem?_eq_getElem hj2, hz2]; rfl)
      have T1 : TT K H H1 := Same_tt s1
      have hfl := insTAll_len ((List.zip (parts R t.1) (rAt B.rs i).src).take j) []
      rw [List.length_take, List.length_zip] at hfl
      refine ⟨_, rfl, _, rfl, qR, _, _, _, rfl, rfl, T1.t _ _ hq, i1, _, rfl, _, rfl, qr1, _, _, _, rfl, rfl, T1.t _ _ hqr, i2, (by decide : 2 ≤ sizeLine), fun p1 hp1 => ?_⟩
      have eL1 : (upd H1 p1 (.tup [nv z1, nv z2])) l = some (.lst us) := (same_new hp1) _ _ eL
      have hpl1 : PL (ThV (upd H1 p1 (.tup [nv z1, nv z2]))) us (((List.zip (parts R t.1) (rAt B.rs i).src).take j).foldl insT []) := hpl.mono fun _ _ q => q.tt (K := K) (tt_new hp1)
      have s2 := s1.trans (same_new (o := .tup [nv z1, nv z2]) hp1)
      refine ⟨_, rfl, dTh (z1, z2), _, th_dp ⟨p1, rfl, upd_same⟩, .lst (SqL.of eL1) (pl_dp hpl1 fun _ _ q => th_dp q), sh_th _, sh_thsL _, ?_⟩
      rw [any_th]
      refine ⟨_, rfl, ite2 (fun hb => ?_) (fun hb => ?_)⟩
      · have hb : ¬ (z1, z2) ∈ ((List.zip (parts R t.1) (rAt B.rs i).src).take j).foldl insT [] := of_decide_eq_false (by simpa using hb)
        have T2 : TT K H _ := Same_tt s2
        refine ⟨_, rfl, .inl ⟨rfl, _, SqL.of eL1⟩, _, rfl, _, rfl, qR, _, _, _, rfl, rfl, T2.t _ _ hq, i1, _, rfl, _, rfl, qr1, _, _, _, rfl, rfl, T2.t _ _ hqr, i2, (by decide : 2 ≤ sizeLine), fun p2 hp2 => ?_⟩
        have eL2 := (same_new (o := .tup [nv z1, nv z2]) hp2) _ _ eL1
        refine ⟨l, us, _, rfl, rfl, eL2, ?_, ?_⟩
        · rw [hpl.1]
          exact lt_line (by simp only [List.length_nil] at hfl; omega)
        · refine ⟨_, _, rfl, same_at (s2.trans (same_new hp2)) hl, upd_same, ?_⟩
          rw [take_insT hz]
          have e9 : insT (((List.zip (parts R t.1) (rAt B.rs i).src).take j).foldl insT []) (z1, z2) = (((List.zip (parts R t.1) (rAt B.rs i).src).take j).foldl insT []) ++ [(z1, z2)] := if_neg hb
          rw [e9]
          have tz : TT K (upd H1 p1 (.tup [nv z1, nv z2])) (upd (upd (upd H1 p1 (.tup [nv z1, nv z2])) p2 (.tup [nv z1, nv z2])) l (.lst (us ++ [.ref p2]))) := (tt_new hp2).trans (tt_lst eL2)
          exact (hpl1.mono fun _ _ q => q.tt tz).snoc ⟨p2, rfl, (tt_lst (K := K) eL2).d _ _ upd_same⟩
      · have hb : (z1, z2) ∈ ((List.zip (parts R t.1) (rAt B.rs i).src).take j).foldl insT [] := Classical.byContradiction fun q => hb (by rw [decide_eq_false q]; rfl)
        refine ⟨_, us, rfl, s2, eL1, ?_⟩
        rw [take_insT hz]
        have e9 : insT (((List.zip (parts R t.1) (rAt B.rs i).src).take j).foldl insT []) (z1, z2) = (((List.zip (parts R t.1) (rAt B.rs i).src).take j).foldl insT []) := if_pos hb
        rw [e9]
        exact hpl1
    · rintro σ H1 ⟨v7, us, rfl, s1, eL, hpl⟩
      have hkf : ∀ v ∈ us, ∃ t, v = V.ref t ∧ H1 t = some (.tup [.int (SoP.keyOf H1 v).1, .int (SoP.keyOf H1 v).2]) := fun v hv => by
        obtain ⟨j, hj⟩ := List.mem_iff_getElem?.mp hv
        obtain ⟨t', _, p', rfl, h'⟩ := hpl.at' hj
        have e' := SoP.keyed h'
        exact ⟨p', rfl, by rw [e']; exact h'⟩
      refine ⟨_, rfl, l, us, SoP.keyOf H1, rfl, SqL.of eL, hkf, fun ys p9 hs hb hp9 => ?_⟩
      have hP := srt_ths hpl hkf hs hb (nodup_insTAll List.nodup_nil)
      have s3 := s1.trans (same_new (o := .lst ys) hp9)
      refine ⟨p9, ys, rfl, .inl ⟨SqL.of upd_same, fun q2 hq2 => ?_⟩⟩
      refine k q2 _ (s3.trans (same_new hq2)) (none_of s3 hq2) (tup_of_pl ?_ hq2)
      have e3 : needsM B R t (true, i) = lotT (((List.zip (parts R t.1) (rAt B.rs i).src).take (((parts R t.1).length : Nat) : Int).toNat).foldl insT []) := by
        refine lot_same fun x => ?_
        rw [List.take_of_length_le (by rw [List.length_zip]; omega), mem_insTAll]
        simp
      rw [e3]
      exact hP.mono fun _ _ q => q.tt (K := K) (tt_new hp9)
def spAreIn (K : PySem.W.Frag) : Sp := fun vs H Q _ => ∃ (p : Addr) (f : Addr) (ts F : List Th), vs = [.ref p, .ref f] ∧ ThsT K H p ts ∧ ts.length ≤ 1000 ∧ (H f = some (.dT (tk F)) ∨ ThsT K H f F) ∧ ∀ H', Same H H' → Q (.bl (decide (∀ u ∈ ts, u ∈ F))) H'
theorem ok_law_are_in (T : Txt K mg a) : FnOk P w K mg base CX0 1 a.f_law_are_in a.d_law_are_in ["_law_things", "_law_found"] (spAreIn K) := by
  refine T.F_law_are_in.ok sc_law_are_in (fun vs H Q E h => ?_) (fun cdv A outer s H vs Q E hr h => ?_)
  · obtain ⟨p, f, ts, F, rfl, _⟩ := h
    rfl
  obtain ⟨p, f, ts, F, rfl, ⟨ws, hw, hpl⟩, hl, hF, k⟩ := h
  refine ⟨_, (pss_one (ps_ret (pe_cmpR op_eq (pe_callB call_len_seq (by rfl) T.z_len PySem.boot_len (pa_cons (pe_lc (own := [("_law_thing", 2)]) (g := gName 2) (tt := _) rfl sc_law_are_in.nd (pi_tup (pv 0)) (blkOk_by (N := ["_law_things", "_law_found", "_law_thing"]) (sc := defScope s_law_are_in) (by decide +kernel)) (fun _ _ _ _ _ => pg_name (i := 2) sc_law_are_in.nd rfl (Or.inl rfl)) (fun _ _ _ _ _ => (pts_one (pt_cmp (pc_both (pc_dnotin (hu1 hr) (pv 2) (pv 1)) (DcG.pc_ofR (notInQ (K := K) rfl (u65 hr)) (pv 2) (pv 1))) rfl))) (fun _ _ _ _ _ => pv 2)) pa_nil)) pe_int (nomark _)))), ?_⟩
  refine ⟨_, rfl, p, rfl, ⟨_, hw⟩, fun D hD => ?_⟩
  refine lc_tup (xs := ws) (fun j H' => Same H H' ∧ ∃ us, H' D = some (.lst us) ∧ us.length = ((ts.take j).filter fun u => !decide (u ∈ F)).length) ⟨same_new hD, [], upd_same, rfl⟩ (fun j H' _ z => (Tk.of z.1).t hw) (fun j v H1 hv z => ?_) (fun H1 z => ?_)
  · obtain ⟨s1, us, eD, hlen⟩ := z
    obtain ⟨t, ht, hth⟩ := hpl.at' hv
    obtain ⟨pt, rfl, hpt⟩ := hth.tt (K := K) (Same_tt s1)
    have ht' : ts.take (j + 1) = ts.take j ++ [t] := by rw [List.take_add_one, ht]; rfl
    have fin : ∀ {b : Bool}, b = (!decide (t ∈ F)) → (if b = true then tVar 2 (((L2.start ["_law_things", "_law_found", "_law_thing"] [V.ref p, V.ref f]).set 2 none).set 2 (some (V.ref pt))) H1 (fun y H4 => ∃ acc, H4 D = some (.lst acc) ∧ acc.length < sizeLine ∧ Same H (upd H4 D (.lst (acc ++ [y]))) ∧ ∃ us, (upd H4 D (.lst (acc ++ [y]))) D = some (.lst us) ∧ us.length = ((ts.take (j + 1)).filter fun u => !decide (u ∈ F)).length) else Same H H1 ∧ ∃ us, H1 D = some (.lst us) ∧ us.length = ((ts.take (j + 1)).filter fun u => !decide (u ∈ F)).length) := by
      intro b hb
      have hle := List.length_filter_le (fun u => !decide (u ∈ F)) (ts.take j)
      rw [List.length_take] at hle
      refine ite2 (fun h => ?_) (fun h => ?_)
      · refine ⟨_, rfl, us, eD, lt_line (by omega), same_at s1 hD, _, upd_same, ?_⟩
        rw [ht', List.filter_append, List.filter_cons, if_pos (hb.symm.trans h), List.length_append, List.length_append, hlen]
        rfl
      · refine ⟨s1, us, eD, ?_⟩
        rw [ht', List.filter_append, List.filter_cons, if_neg (fun q => h (hb.trans q)), List.filter_nil, List.append_nil, hlen]
    refine ⟨rfl, ?_⟩
    rcases hF with hF | hF
    · refine Or.inl ⟨_, rfl, _, rfl, f, _, rfl, DGet.t (s1 _ _ hF) (k := kt t) hpt, _, rfl, ?_⟩
      rw [tk_some]
      exact fin rfl
    · refine Or.inr ⟨_, rfl, _, rfl, dTh t, _, th_dp ⟨pt, rfl, hpt⟩, ths_dp (hF.tt (Same_tt s1)), sh_th t, sh_ths F, _, rfl, ?_⟩
      rw [any_th]
      exact fin rfl
  · obtain ⟨s1, us, eD, hlen⟩ := z
    refine ⟨D, us, rfl, .inl (SqL.of eD), rfl, ?_⟩
    have e1 : decide (V.int ((us.length : Nat) : Int) = V.int 0) = decide (∀ u ∈ ts, u ∈ F) := by
      refine decide_eq_decide.mpr ?_
      rw [hlen, List.take_of_length_le (by rw [hpl.1]; exact Nat.le_refl _)]
      constructor
      · intro h u hu
        have h := V.int.inj h
        have h0 : (ts.filter fun u => !decide (u ∈ F)) = [] := List.eq_nil_of_length_eq_zero (by omega)
        have := List.filter_eq_nil_iff.mp h0 u hu
        exact Classical.byContradiction fun q => this (by rw [decide_eq_false q]; rfl)
      · intro h
        have h0 : (ts.filter fun u => !decide (u ∈ F)) = [] := List.filter_eq_nil_iff.mpr fun u hu => by rw [decide_eq_true (h u hu)]; decide
        rw [h0]
        rfl
    rw [e1]
    exact k H1 s1
end
end Lk
namespace Lk
open PySem L2
section
theorem needs_len {B : Bk} {R : List Row} (gr : Good R) {t : Th} {w : Wy} : (needsM B R t w).length ≤ 2 := by
  obtain ⟨b, k⟩ := w
  cases b with
  | false => exact (by decide : 1 ≤ 2)
  | true =>
    have h1 := lotT_len (l := List.zip (parts R t.1) (rAt B.rs k).src)
    have h2 := parts_len gr t.1
    rw [List.length_zip] at h1
    show (lotT _).length ≤ 2
    omega
theorem nv0 (i : Nat) : V.int (0 + (i : Nat)) = nv i := by
  show V.int (0 + (i : Nat)) = V.int (i : Int)
  rw [Int.zero_add]
end
section
variable {P : Program} {w : World} {K : PySem.W.Frag} {mg : Str → Option Value} {base : Heap} {a : Adr}
def spLMake (K : PySem.W.Frag) : Sp := fun vs H Q _ => ∃ (p v : Addr) (B : Bk) (R : List Row), vs = [.ref p, .ref v] ∧ PR K H p v B R ∧ ∀ q H', Same H H' → H q = none → ThsT K H' q (makM B R) → Q (.ref q) H'
theorem ok_law_makeable (T : Txt K mg a) : FnOk P w K mg base CX0 2 a.f_law_makeable a.d_law_makeable ["_law_parts", "_law_values_here"] (spLMake K) := by
  have G_law_ways := ok_law_ways (P := P) (w := w) (base := base) T
  have G_law_needs := ok_law_needs (P := P) (w := w) (base := base) T
  have G_law_are_in := ok_law_are_in (P := P) (w := w) (base := base) T
  refine T.F_law_makeable.ok sc_law_makeable (fun vs H Q E h => ?_) (fun cdv A outer s H vs Q E hr h => ?_)
  · obtain ⟨x, y, B, R, rfl, _⟩ := h
    rfl
  obtain ⟨p, v, B, R, rfl, W, k⟩ := h
  obtain ⟨pa, pr, pm, hx, hx2, _⟩ := id W.b
  obtain ⟨ws, hw, hwl, hrow⟩ := id W.r
  refine ⟨_, (pss_cons (ps_set (i := 2) sc_law_makeable.nd rfl (Or.inl rfl) pe_dnewT)
  (pss_cons (ps_for PassesOwn.never rfl (pi_range1 rfl T.z_range (pa_cons (pe_callB call_len_seq (by rfl) T.z_len PySem.boot_len (pa_cons (pv 1) pa_nil)) pa_nil)) (pg_name (i := 3) sc_law_makeable.nd rfl (Or.inl rfl))
    (pss_one (ps_for PassesOwn.never rfl (pi_range1 rfl T.z_range (pa_cons (pe_ix ix_tup (pv 0) pe_int (fun _ _ => rfl)) pa_nil)) (pg_name (i := 4) sc_law_makeable.nd rfl (Or.inl rfl))
    (pss_one (ps_for PassesOwn.never rfl (pi_range1 rfl T.z_range (pa_cons (pe_ix ix_tup (pv 0) pe_int (fun _ _ => rfl)) pa_nil)) (pg_name (i := 5) sc_law_makeable.nd rfl (Or.inl rfl))
    (pss_one (ps_for PassesOwn.never rfl (pi_list (pe_call G_law_ways (hr.mono (by decide)) rfl T.g_law_ways T.k_law_ways T.b_law_ways .nil pass0 (pa_cons (pv 0) (pa_cons (pv 1) (pa_cons (pe_tup (pa_cons (pv 3) (pa_cons (pv 5) pa_nil))) pa_nil))))) (pg_name (i := 6) sc_law_makeable.nd rfl (Or.inl rfl))
    (pss_one (ps_if (pt_val (pe_call G_law_are_in (hr.mono (by decide)) rfl T.g_law_are_in T.k_law_are_in T.b_law_are_in .nil pass0 (pa_cons (pe_call G_law_needs (hr.mono (by decide)) rfl T.g_law_needs T.k_law_needs T.b_law_needs .nil pass0 (pa_cons (pv 0) (pa_cons (pv 1) (pa_cons (pe_tup (pa_cons (pv 3) (pa_cons (pv 5) pa_nil))) (pa_cons (pv 6) pa_nil))))) (pa_cons (pv 2) pa_nil))))
    (pss_one (ps_dput (hu1 hr) (pv 2) (pe_tup (pa_cons (pv 3) (pa_cons (pv 5) pa_nil))) pe_bl rfl))
    pss_nil)))))))))
  (pss_one (ps_ret (pe_callTy call_tuple_of (by rfl) T.z_tuple (by decide +kernel) (pa_cons (pe_callB cr_sortedPO (by rfl) T.z_sorted (by decide +kernel) (pa_cons (pe_callTy (call_list_dT rfl) (by rfl) T.z_list (by decide +kernel) (pa_cons (pv 2) pa_nil)) pa_nil)) pa_nil)))))), ?_⟩
  refine fun D hD => ?_
  have s0 : Same H (upd H D (.dT [])) := same_new hD
  have hbd : ∀ F, Snd B R F → F.length < sizeLine := fun F sF => by
    have h1 := sF.len W.g
    have h2 := W.l
    have h3 := W.g.k2
    have h4 : R.length * B.nk ≤ 200 * 5 := Nat.mul_le_mul h2 h3
    exact lt_line (by omega)
  refine ⟨_, rfl, v, ws, rfl, .inr ((Tk.of s0).t hw), _, rfl, ?_⟩
  rw [hwl]
  refine ⟨by omega, by have := W.l; omega, for_range (lo := 0) (n := ((R.length : Nat) : Int).toNat) (fun i σ H' => ∃ v3 v4 v5 v6 F, σ = [some (.ref p), some (.ref v), some (.ref D), v3, v4, v5, v6] ∧ Same H H' ∧ H' D = some (.dT (tk F)) ∧ Snd B R F ∧ Cpl B R i F) ⟨none, none, none, none, [], rfl, s0, upd_same, Snd.nil, fun t h => absurd h (Nat.not_lt_zero _)⟩ ?_ ?_⟩
  · rintro i σ H1 hi ⟨v3, v4, v5, v6, F1, rfl, s1, e1, sF1, cF1⟩
    have hi' : i < R.length := by omega
    rw [nv0]
    have hk2 := W.g.k2
    refine ⟨_, rfl, p, _, _, _, rfl, rfl, (Tk.of s1).t hx, rfl, _, rfl, by omega, by omega, for_range (lo := 0) (n := ((B.nk : Nat) : Int).toNat) (fun τ σ H' => ∃ v4 v5 v6 F, σ = [some (.ref p), some (.ref v), some (.ref D), some (nv i), v4, v5, v6] ∧ Same H H' ∧ H' D = some (.dT (tk F)) ∧ Snd B R F ∧ Cpl B R i F ∧ (Cp1 B R i F ∨ τ ≤ cnt B.nk i F)) ⟨v4, v5, v6, F1, rfl, s1, e1, sF1, cF1, Or.inr (Nat.zero_le _)⟩ ?_ ?_⟩
    · rintro τ σ H2 hτ ⟨v4, v5, v6, F2, rfl, s2, e2, sF2, cF2, tF2⟩
      refine ⟨_, rfl, p, _, _, _, rfl, rfl, (Tk.of s2).t hx, rfl, _, rfl, by omega, by omega, for_range (lo := 0) (n := ((B.nk : Nat) : Int).toNat) (fun κ σ H' => ∃ v4 v5 v6 F, σ = [some (.ref p), some (.ref v), some (.ref D), some (nv i), v4, v5, v6] ∧ Same H H' ∧ H' D = some (.dT (tk F)) ∧ Snd B R F ∧ (∀ t ∈ F2, t ∈ F) ∧ ∀ κ', κ' < κ → ∀ w ∈ waysM B R (i, κ'), (∀ u ∈ needsM B R (i, κ') w, u ∈ F2) → (i, κ') ∈ F) ⟨_, v5, v6, F2, rfl, s2, e2, sF2, fun _ h => h, fun κ' h => absurd h (Nat.not_lt_zero _)⟩ ?_ ?_⟩
      · rintro κ σ H3 hκ ⟨v4, v5, v6, F3, rfl, s3, e3, sF3, iF3, cF3⟩
        rw [nv0]
        have W3 := W.tt (Same_tt (K := K) s3)
        refine ⟨_, rfl, _, rfl, _, rfl, _, rfl, (by decide : 2 ≤ sizeLine), fun c hc => ?_⟩
        have s4 := s3.trans (same_new (o := .tup [nv i, nv κ]) hc)
        refine ⟨p, v, c, B, R, (i, κ), rfl, W.tt (Same_tt (K := K) s4), .inl (.inl upd_same), hi', fun l H5 s5 hl hL => ?_⟩
        obtain ⟨us, eL, hpl⟩ := hL
        have e4 := s5 _ _ ((same_new (o := .tup [nv i, nv κ]) hc) _ _ e3)
        have ne : D ≠ l := fun e => by
          have := (same_new (o := .tup [nv i, nv κ]) hc) _ _ e3
          rw [e, hl] at this
          cases this
        refine ⟨l, rfl, ⟨_, SqL.of eL⟩, for_list (xs := us) (fun j σ H' => ∃ v6 F, σ = [some (.ref p), some (.ref v), some (.ref D), some (nv i), v4, some (nv κ), v6] ∧ Same H H' ∧ TT K H5 H' ∧ H' l = some (.lst us) ∧ H' D = some (.dT (tk F)) ∧ Snd B R F ∧ (∀ t ∈ F2, t ∈ F) ∧ (∀ κ', κ' < κ → ∀ w ∈ waysM B R (i, κ'), (∀ u ∈ needsM B R (i, κ') w, u ∈ F2) → (i, κ') ∈ F) ∧ ∀ w ∈ (waysM B R (i, κ)).take j, (∀ u ∈ needsM B R (i, κ) w, u ∈ F2) → (i, κ) ∈ F) ?_ ?_ ?_ ?_⟩
        · exact ⟨v6, F3, rfl, s4.trans s5, TT.refl _, eL, e4, sF3, iF3, cF3, fun w h => nomatch h⟩
        · rintro j σ H' _ ⟨_, _, _, _, _, e, _⟩
          exact SqL.of e
        · rintro j u σ H6 hu ⟨v6, F6, rfl, s6, t6, e6, d6, sF6, iF6, cF6, wF6⟩
          obtain ⟨way, hway, hwv⟩ := hpl.at' hu
          obtain ⟨e, rfl, he⟩ := hwv.tt t6
          have hmem := List.mem_of_getElem? hway
          refine ⟨_, rfl, _, rfl, _, rfl, _, rfl, (by decide : 2 ≤ sizeLine), fun c2 hc2 => ?_⟩
          have s7 := s6.trans (same_new (o := .tup [nv i, nv κ]) hc2)
          refine ⟨_, rfl, p, v, c2, e, B, R, (i, κ), way, rfl, W.tt (Same_tt (K := K) s7), .inl (.inl upd_same), hi', (tt_new hc2).t _ _ he, hmem, fun q H8 s8 hq hts => ?_⟩
          have d8 := s8 _ _ ((same_new (o := .tup [nv i, nv κ]) hc2) _ _ d6)
          have e8 := s8 _ _ ((same_new (o := .tup [nv i, nv κ]) hc2) _ _ e6)
          refine ⟨_, rfl, q, D, _, F6, rfl, hts, by have := needs_len (B := B) W.gr (t := (i, κ)) (w := way); omega, .inl d8, fun H9 s9 => ⟨_, rfl, ite2 (fun hb => ?_) (fun hb => ?_)⟩⟩
          · have hb := of_decide_eq_true hb
            have hm : Mak B R (i, κ) := .mk way hi' hmem fun u hu => sF6.ok u (hb u hu)
            refine ⟨_, rfl, _, rfl, _, rfl, (by decide : 2 ≤ sizeLine), fun c3 hc3 => ?_⟩
            have d9 := (same_new (o := .tup [nv i, nv κ]) hc3) _ _ (s9 _ _ d8)
            refine ⟨D, _, rfl, DPut.t (k := kt (i, κ)) d9 upd_same (by rw [tk_len]; exact hbd F6 sF6), ?_⟩
            refine ⟨_, insT F6 (i, κ), rfl, same_at (((s7.trans s8).trans s9).trans (same_new hc3)) hD, ?_, ?_, by rw [upd_same, tk_put], sF6.ins hm, fun t h => mem_insT.mpr (Or.inl (iF6 t h)), fun κ' h w hw hn => mem_insT.mpr (Or.inl (cF6 κ' h w hw hn)), fun _ _ _ => mem_insT.mpr (Or.inr rfl)⟩
            · exact (((((t6.trans (tt_new hc2)).trans (Same_tt s8)).trans (Same_tt s9)).trans (tt_new hc3)).trans (tt_dT d9))
            · rw [upd_ne ne.symm]
              exact (same_new hc3) _ _ (s9 _ _ e8)
          · refine ⟨_, F6, rfl, (s7.trans s8).trans s9, ((t6.trans (tt_new hc2)).trans (Same_tt s8)).trans (Same_tt s9), s9 _ _ e8, s9 _ _ d8, sF6, iF6, cF6, fun w hw hn => ?_⟩
            rw [List.take_add_one, hway, List.mem_append] at hw
            rcases hw with h | h
            · exact wF6 w h hn
            · rw [List.mem_singleton.mp h] at hn
              exact absurd (decide_eq_true fun u hu => iF6 u (hn u hu)) hb
        · rintro σ H6 ⟨v6, F6, rfl, s6, t6, e6, d6, sF6, iF6, cF6, wF6⟩
          refine ⟨_, _, _, F6, rfl, s6, d6, sF6, iF6, fun κ' h w hw hn => ?_⟩
          rcases Nat.lt_or_ge κ' κ with h1 | h1
          · exact cF6 κ' h1 w hw hn
          · have : κ' = κ := by omega
            subst this
            refine wF6 w ?_ hn
            rw [List.take_of_length_le (by rw [hpl.1]; exact Nat.le_refl _)]
            exact hw
      · rintro σ H3 ⟨v4, v5, v6, F3, rfl, s3, e3, sF3, iF3, cF3⟩
        exact ⟨_, _, _, F3, rfl, s3, e3, sF3, fun t h m => iF3 t (cF2 t h m), turn_step W.g W.gr cF2 tF2 iF3 fun κ hκ w hw hn => cF3 κ (by omega) w hw hn⟩
    · rintro σ H2 ⟨v4, v5, v6, F2, rfl, s2, e2, sF2, cF2, tF2⟩
      refine ⟨_, _, _, _, F2, rfl, s2, e2, sF2, turns_end W.g cF2 ?_⟩
      rcases tF2 with h | h
      · exact Or.inl h
      · exact Or.inr (by omega)
  · rintro σ H1 ⟨v3, v4, v5, v6, F, rfl, s2, eM, sF, cF⟩
    refine ⟨_, rfl, D, _, rfl, .inl eM, fun l bs hl hbs => ?_⟩
    have s3 := s2.trans (same_new (o := .lst (bs.map V.ref)) hl)
    have hpl : PL (ThV (upd H1 l (.lst (bs.map V.ref)))) (bs.map V.ref) F := (keys_ths hbs).mono fun _ _ q => q.tt (K := K) (tt_new hl)
    have hkf : ∀ v ∈ bs.map V.ref, ∃ t, v = V.ref t ∧ (upd H1 l (.lst (bs.map V.ref))) t = some (.tup [.int (SoP.keyOf (upd H1 l (.lst (bs.map V.ref))) v).1, .int (SoP.keyOf (upd H1 l (.lst (bs.map V.ref))) v).2]) := fun v hv => by
      obtain ⟨j, hj⟩ := List.mem_iff_getElem?.mp hv
      obtain ⟨t', _, p', rfl, h'⟩ := hpl.at' hj
      have e' := SoP.keyed h'
      exact ⟨p', rfl, by rw [e']; exact h'⟩
    refine ⟨l, _, SoP.keyOf (upd H1 l (.lst (bs.map V.ref))), rfl, SqL.of upd_same, hkf, fun ys p9 hs hb hp9 => ?_⟩
    have hP := srt_ths hpl hkf hs hb sF.nd
    have s4 := s3.trans (same_new (o := .lst ys) hp9)
    refine ⟨p9, ys, rfl, .inl ⟨SqL.of upd_same, fun q2 hq2 => ?_⟩⟩
    refine k q2 _ (s4.trans (same_new hq2)) (none_of s4 hq2) (tup_of_pl ?_ hq2)
    have e3 : makM B R = lotT F := asc_uniq asc_makM asc_lotT fun t => by
      rw [mem_makM W.g, mem_lotT]
      exact ⟨fun m => cF t (by have := (m.lt W.g).1; omega) m, sF.ok t⟩
    rw [e3]
    exact hP.mono fun _ _ q => q.tt (K := K) (tt_new hp9)
end
end Lk
namespace Lk
open PySem L2
section
theorem nv1 (c r : Nat) : V.int ((c : Int) + (r : Int)) = nv (c + r) := by
  show V.int _ = V.int _
  rw [Int.natCast_add]
theorem fb_at {b g D : Addr} {H0 H1 : Hp} {o : HO} (f : Fb b g H0 H1) (hD : H0 D = none) : Fb b g H0 (upd H1 D o) := fun c u n m h => by
  rw [upd_ne (ne_of_none h hD)]
  exact f c u n m h
theorem none_fb {b g D : Addr} {H H' : Hp} (f : Fb b g H H') (h : H' D = none) (n1 : D ≠ b) (n2 : D ≠ g) : H D = none := by
  cases e : H D with
  | none => rfl
  | some o => rw [f _ _ n1 n2 e] at h; cases h
theorem fb_new {b g D : Addr} {H0 H1 : Hp} {o : HO} (f : Fb b g H0 H1) (h : H1 D = none) : Fb b g H0 (upd H1 D o) := f.trans (Fb.of (same_new h))
theorem Fb.tt {K : PySem.W.Frag} {b g : Addr} {H H' : Hp} (B : BagAt H b g) (f : Fb b g H H') : TT K H H' := (f.tk B).tt
theorem BagAt.new {b g D : Addr} {H : Hp} {o : HO} (B : BagAt H b g) (h : H D = none) : BagAt (upd H D o) b g := B.same (same_new h)
end
section
variable {P : Program} {w : World} {K : PySem.W.Frag} {mg : Str → Option Value} {base : Heap} {a : Adr}
def spPrice : Sp := fun vs H Q _ => ∃ (b g : Addr), vs = [.ref b] ∧ BagAt H b g ∧ ∀ (c : Nat) H', 1 ≤ c → c ≤ 1000 → BagAt H' b g → Fb b g H H' → Q (nv c) H'
theorem ok_law_price (T : Txt K mg a) : FnOk P w K mg base CX0 2 a.f_law_price a.d_law_price ["_law_bag_here"] spPrice := by
  have G_law_pick := ok_law_pick (P := P) (w := w) (base := base) T
  refine T.F_law_price.ok sc_law_price (fun vs H Q E h => ?_) (fun cdv A outer s H vs Q E hr h => ?_)
  · obtain ⟨b, g, rfl, _⟩ := h
    rfl
  obtain ⟨b, g, rfl, B, k⟩ := h
  refine ⟨_, (pss_cons (ps_if (pt_cmpR op_eq (pe_call G_law_pick (hr.mono (by decide)) rfl T.g_law_pick T.k_law_pick T.b_law_pick .nil pass0 (pa_cons (pv 0) (pa_cons pe_int pa_nil))) pe_int (nomark _))
    (pss_one (ps_ret (pe_op op_add pe_int (pe_call G_law_pick (hr.mono (by decide)) rfl T.g_law_pick T.k_law_pick T.b_law_pick .nil pass0 (pa_cons (pv 0) (pa_cons pe_int pa_nil))))))
    pss_nil)
  (pss_one (ps_ret (pe_op op_add pe_int (pe_call G_law_pick (hr.mono (by decide)) rfl T.g_law_pick T.k_law_pick T.b_law_pick .nil pass0 (pa_cons (pv 0) (pa_cons pe_int pa_nil))))))), ?_⟩
  refine ⟨_, rfl, b, g, 4, rfl, by decide, by decide, B, fun r0 H0 hr0 B0 f0 => ⟨rfl, _, rfl, ite2 (fun _ => ?_) (fun _ => ?_)⟩⟩
  · refine ⟨_, rfl, b, g, 1000, rfl, by decide, by decide, B0, fun r1 H1 hr1 B1 f1 => ⟨_, _, rfl, rfl, ?_⟩⟩
    dsimp only
    rw [show V.int ((1 : Int) + (r1 : Int)) = nv (1 + r1) from nv1 1 r1]
    exact k _ H1 (by omega) (by omega) B1 (f0.trans f1)
  · refine ⟨_, rfl, b, g, 5, rfl, by decide, by decide, B0, fun r1 H1 hr1 B1 f1 => ⟨_, _, rfl, rfl, ?_⟩⟩
    dsimp only
    rw [show V.int ((1 : Int) + (r1 : Int)) = nv (1 + r1) from nv1 1 r1]
    exact k _ H1 (by omega) (by omega) B1 (f0.trans f1)
def spSize : Sp := fun vs H Q _ => ∃ (b g : Addr), vs = [.ref b] ∧ BagAt H b g ∧ ∀ (c : Nat) H', 1 ≤ c → c ≤ 20 → BagAt H' b g → Fb b g H H' → Q (nv c) H'
theorem ok_law_size (T : Txt K mg a) : FnOk P w K mg base CX0 2 a.f_law_size a.d_law_size ["_law_bag_here"] spSize := by
  have G_law_pick := ok_law_pick (P := P) (w := w) (base := base) T
  refine T.F_law_size.ok sc_law_size (fun vs H Q E h => ?_) (fun cdv A outer s H vs Q E hr h => ?_)
  · obtain ⟨b, g, rfl, _⟩ := h
    rfl
  obtain ⟨b, g, rfl, B, k⟩ := h
  refine ⟨_, (pss_cons (ps_set (i := 1) sc_law_size.nd rfl (Or.inl rfl) (pe_op op_add pe_int (pe_call G_law_pick (hr.mono (by decide)) rfl T.g_law_pick T.k_law_pick T.b_law_pick .nil pass0 (pa_cons (pv 0) (pa_cons pe_int pa_nil)))))
  (C8.pss_cut (ps_if (pt_cmpR op_eq (pe_call G_law_pick (hr.mono (by decide)) rfl T.g_law_pick T.k_law_pick T.b_law_pick .nil pass0 (pa_cons (pv 0) (pa_cons pe_int pa_nil))) pe_int (nomark _))
    (pss_one (ps_set (i := 1) sc_law_size.nd rfl (Or.inl rfl) (pe_op op_add (pv 1) pe_int)))
    pss_nil)
  (pss_one (ps_ret (pv 1))))), ?_⟩
  refine ⟨_, rfl, b, g, 8, rfl, by decide, by decide, B, fun r0 H0 hr0 B0 f0 => ⟨_, _, rfl, rfl, ?_⟩⟩
  dsimp only
  rw [show V.int ((1 : Int) + (r0 : Int)) = nv (1 + r0) from nv1 1 r0]
  refine ⟨fun σ H' => ∃ c : Nat, σ = [some (.ref b), some (nv c)] ∧ 1 ≤ c ∧ c ≤ 20 ∧ BagAt H' b g ∧ Fb b g H H', ?_, ?_⟩
  · refine ⟨_, rfl, b, g, 8, rfl, by decide, by decide, B0, fun r1 H1 hr1 B1 f1 => ⟨rfl, _, rfl, ite2 (fun _ => ?_) (fun _ => ?_)⟩⟩
    · refine ⟨_, rfl, _, _, rfl, rfl, ?_⟩
      refine ⟨1 + r0 + 12, ?_, by omega, by omega, B1, f0.trans f1⟩
      exact congrArg (fun y => [some (V.ref b), some y]) (nv1 (1 + r0) 12)
    · exact ⟨1 + r0, rfl, by omega, by omega, B1, f0.trans f1⟩
  · rintro σ H1 ⟨c, rfl, h1, h2, B1, f1⟩
    exact ⟨_, rfl, k c H1 h1 h2 B1 f1⟩
/-- a list of numbers at l -/
def LN (H : Hp) (l : Addr) (xs : List Nat) : Prop := H l = some (.lst (xs.map nv))
def spArities (K : PySem.W.Frag) : Sp := fun vs H Q _ => ∃ (b g : Addr), vs = [.ref b] ∧ BagAt H b g ∧ ∀ t ar H', Fb b g H H' → BagAt H' b g → IT K H' t ar → 1 ≤ ar.length → ar.length ≤ 8 → (∀ x ∈ ar, x ≤ 2) → Q (.ref t) H'
theorem ok_law_arities (T : Txt K mg a) : FnOk P w K mg base CX0 2 a.f_law_arities a.d_law_arities ["_law_bag_here"] (spArities K) := by
  have G_law_pick := ok_law_pick (P := P) (w := w) (base := base) T
  refine T.F_law_arities.ok sc_law_arities (fun vs H Q E h => ?_) (fun cdv A outer s H vs Q E hr h => ?_)
  · obtain ⟨b, g, rfl, _⟩ := h
    rfl
  obtain ⟨b, g, rfl, B, k⟩ := h
  refine ⟨_, (pss_cons (ps_set (i := 1) sc_law_arities.nd rfl (Or.inl rfl) (pe_op op_add pe_int (pe_call G_law_pick (hr.mono (by decide)) rfl T.g_law_pick T.k_law_pick T.b_law_pick .nil pass0 (pa_cons (pv 0) (pa_cons pe_int pa_nil)))))
  (C8.pss_cut (ps_if (pt_cmpR op_eq (pe_call G_law_pick (hr.mono (by decide)) rfl T.g_law_pick T.k_law_pick T.b_law_pick .nil pass0 (pa_cons (pv 0) (pa_cons pe_int pa_nil))) pe_int (nomark _))
    (pss_one (ps_set (i := 1) sc_law_arities.nd rfl (Or.inl rfl) pe_int))
    pss_nil)
  (pss_cons (ps_set (i := 2) sc_law_arities.nd rfl (Or.inl rfl) (pe_tup (pa_cons pe_int (pa_cons pe_int (pa_cons pe_int (pa_cons pe_int (pa_cons pe_int pa_nil)))))))
  (pss_cons (ps_set (i := 3) sc_law_arities.nd rfl (Or.inl rfl) (pe_lst (pa_cons pe_int pa_nil)))
  (C8.pss_cut (ps_if (pt_cmpR op_eq (pe_call G_law_pick (hr.mono (by decide)) rfl T.g_law_pick T.k_law_pick T.b_law_pick .nil pass0 (pa_cons (pv 0) (pa_cons pe_int pa_nil))) pe_int (nomark _))
    (pss_one (ps_set (i := 3) sc_law_arities.nd rfl (Or.inl rfl) (pe_lst (pa_cons (pe_op op_add pe_int (pe_call G_law_pick (hr.mono (by decide)) rfl T.g_law_pick T.k_law_pick T.b_law_pick .nil pass0 (pa_cons (pv 0) (pa_cons pe_int pa_nil)))) pa_nil))))
    pss_nil)
  (pss_cons (ps_for PassesOwn.never rfl (pi_range1 rfl T.z_range (pa_cons (pe_op op_sub (pv 1) pe_int) pa_nil)) (pg_name (i := 4) sc_law_arities.nd rfl (Or.inl rfl))
    (pss_one (ps_expr (pe_bm PySem.F.plainAttrs_list PySem.F.slot_list_append PySem.F.type_list_append mt_append (pv 3) (pa_cons (pe_ix ix_tup (pv 2) (pe_op op_mod (pe_callTy call_int1 (by rfl) T.z_int (by decide +kernel) (pa_cons (pe_op op_add (pv 4) (pe_call G_law_pick (hr.mono (by decide)) rfl T.g_law_pick T.k_law_pick T.b_law_pick .nil pass0 (pa_cons (pv 0) (pa_cons pe_int pa_nil)))) pa_nil)) pe_int) (fun _ _ => rfl)) pa_nil)))))
  (pss_one (ps_ret (pe_callTy call_tuple_of (by rfl) T.z_tuple (by decide +kernel) (pa_cons (pv 3) pa_nil)))))))))), ?_⟩
  refine ⟨_, rfl, b, g, 4, rfl, by decide, by decide, B, fun r0 H0 hr0 B0 f0 => ⟨_, _, rfl, rfl, ?_⟩⟩
  dsimp only
  rw [show V.int ((1 : Int) + (r0 : Int)) = nv (1 + r0) from nv1 1 r0]
  refine ⟨fun σ H' => ∃ c : Nat, σ = [some (.ref b), some (nv c), none, none, none] ∧ 1 ≤ c ∧ c ≤ 8 ∧ BagAt H' b g ∧ Fb b g H H', ?_, ?_⟩
  · refine ⟨_, rfl, b, g, 8, rfl, by decide, by decide, B0, fun r1 H1 hr1 B1 f1 => ⟨rfl, _, rfl, ite2 (fun _ => ?_) (fun _ => ?_)⟩⟩
    · exact ⟨8, rfl, by omega, by omega, B1, f0.trans f1⟩
    · exact ⟨1 + r0, rfl, by omega, by omega, B1, f0.trans f1⟩
  rintro σ H1 ⟨c, rfl, hc1, hc2, B1, f1⟩
  refine ⟨(by decide : 5 ≤ sizeLine), fun tm htm => ?_⟩
  obtain ⟨n1, n2⟩ := B1.ne htm
  have htm0 := none_fb f1 htm n1 n2
  refine ⟨(by decide : 1 ≤ sizeLine), fun l hl => ?_⟩
  have B2 := B1.new (o := .tup [.int 1, .int 2, .int 0, .int 1, .int 2]) htm
  have f2 := fb_new (o := .tup [.int 1, .int 2, .int 0, .int 1, .int 2]) f1 htm
  have B3 := B2.new (o := .lst [.int 0]) hl
  have f3 := fb_new (o := .lst [.int 0]) f2 hl
  obtain ⟨n3, n4⟩ := B2.ne hl
  refine ⟨fun σ H' => ∃ (l : Addr) (x : Nat), σ = [some (.ref b), some (nv c), some (.ref tm), some (.ref l), none] ∧ BagAt H' b g ∧ Fb b g H H' ∧ H l = none ∧ l ≠ b ∧ l ≠ g ∧ LN H' l [x] ∧ x ≤ 2 ∧ SqT K H' tm [.int 1, .int 2, .int 0, .int 1, .int 2], ?_, ?_⟩
  · refine ⟨_, rfl, b, g, 9, rfl, by decide, by decide, B3, fun r1 H4 hr1 B4 f4 => ⟨rfl, _, rfl, ite2 (fun _ => ?_) (fun _ => ?_)⟩⟩
    · refine ⟨_, rfl, b, g, 2, rfl, by decide, by decide, B4, fun r2 H5 hr2 B5 f5 => ⟨_, _, rfl, rfl, ⟨(by decide : 1 ≤ sizeLine), fun l2 hl2 => ?_⟩⟩⟩
      obtain ⟨n5, n6⟩ := B5.ne hl2
      have f6 := (f3.trans f4).trans f5
      refine ⟨l2, 1 + r2, rfl, B5.new hl2, fb_new f6 hl2, none_fb f6 hl2 n5 n6, n5, n6, ?_, by omega, ?_⟩
      · show upd H5 l2 (.lst [.int (1 + (r2 : Int))]) l2 = some (.lst [nv (1 + r2)])
        rw [upd_same, show V.int ((1 : Int) + (r2 : Int)) = nv (1 + r2) from nv1 1 r2]
      · exact (tt_new hl2).t _ _ ((Fb.tt (K := K) B4 f5).t _ _ ((Fb.tt (K := K) B3 f4).t _ _ (.inl (.inl ((same_new hl) _ _ upd_same)))))
    · exact ⟨l, 0, rfl, B4, f3.trans f4, none_fb f2 hl n3 n4, n3, n4, f4 _ _ n3 n4 upd_same, by omega, (Fb.tt (K := K) B3 f4).t _ _ (.inl (.inl ((same_new hl) _ _ upd_same)))⟩
  rintro σ H4 ⟨l, x, rfl, B4, f4, hl0, n3, n4, eL, hx, hT⟩
  refine ⟨_, rfl, _, _, rfl, rfl, _, rfl, by omega, by omega, for_range (lo := 0) (n := ((c : Int) - 1).toNat) (fun i σ H' => ∃ v4 xs, σ = [some (.ref b), some (nv c), some (.ref tm), some (.ref l), v4] ∧ BagAt H' b g ∧ Fb b g H H' ∧ LN H' l xs ∧ xs.length = i + 1 ∧ (∀ x ∈ xs, x ≤ 2) ∧ SqT K H' tm [.int 1, .int 2, .int 0, .int 1, .int 2]) ⟨none, [x], rfl, B4, f4, eL, rfl, fun y hy => by rw [List.mem_singleton.mp hy]; exact hx, hT⟩ ?_ ?_⟩
  · rintro i σ H5 hi ⟨v4, xs, rfl, B5, f5, eL5, hlen, hxs, hT5⟩
    rw [nv0]
    refine ⟨_, rfl, .inl ⟨rfl, _, SqL.of eL5⟩, _, rfl, _, rfl, _, rfl, b, g, 5, rfl, by decide, by decide, B5, fun r1 H6 hr1 B6 f6 => ⟨_, _, rfl, rfl, .inl ⟨_, rfl, _, _, rfl, rfl, (by decide : (0 : Int) < 5), ?_⟩⟩⟩
    dsimp only
    obtain ⟨j, ej, hj⟩ := mod_nat ((i : Int) + (r1 : Int)) (m := 5) (by decide)
    have ej : ((i : Int) + (r1 : Int)) % 5 = (j : Int) := ej
    rw [ej]
    have hT6 := (Fb.tt (K := K) B5 f6).t _ _ hT5
    obtain ⟨y, hy, hy2⟩ : ∃ y : Nat, y ≤ 2 ∧ [V.int 1, .int 2, .int 0, .int 1, .int 2][j]? = some (nv y) := by
      match j, hj with
      | 0, _ => exact ⟨1, by omega, rfl⟩
      | 1, _ => exact ⟨2, by omega, rfl⟩
      | 2, _ => exact ⟨0, by omega, rfl⟩
      | 3, _ => exact ⟨1, by omega, rfl⟩
      | 4, _ => exact ⟨2, by omega, rfl⟩
    have eL6 := f6 _ _ n3 n4 eL5
    refine ⟨tm, _, _, _, rfl, rfl, hT6, atI_nat hy2, l, _, _, rfl, rfl, eL6, lt_line (by rw [List.length_map]; omega), ?_⟩
    refine ⟨_, xs ++ [y], rfl, B6.keep n3 n4, fb_at (f5.trans f6) hl0, ?_, by rw [List.length_append, hlen]; rfl, fun z hz => ?_, (tt_lst eL6).t _ _ hT6⟩
    · show upd H6 l _ l = _
      rw [upd_same, List.map_append]
      rfl
    · rcases List.mem_append.mp hz with h | h
      · exact hxs z h
      · rw [List.mem_singleton.mp h]
        exact hy
  · rintro σ H5 ⟨v4, xs, rfl, B5, f5, eL5, hlen, hxs, hT5⟩
    refine ⟨_, rfl, l, _, rfl, .inl ⟨SqL.of eL5, fun t ht => ?_⟩⟩
    exact k t xs _ (fb_new f5 ht) (B5.new ht) (.inl (.inl upd_same)) (by omega) (by omega) hxs
end
end Lk
namespace Lk
open PySem L2
section
open NeD
variable {K : PySem.W.Frag} {P : Program} {w : World}
theorem nl_push {H : Hp} {D : Addr} {k n : Nat} {qs : List Nat} {x : Int} (hk : 0 < k) (hl : qs.length = n) (hq : ∀ q ∈ qs, q < k) : NL (upd H D (.lst (qs.map nv ++ [.int (x % (k : Int))]))) D k (n + 1) := by
  obtain ⟨z, ez, hz⟩ := mod_nat x hk
  refine ⟨qs ++ [z], ?_, by rw [List.length_append, hl]; rfl, fun q h => ?_⟩
  · rw [upd_same, List.map_append, ez]
    rfl
  · rcases List.mem_append.mp h with h | h
    · exact hq q h
    · rw [List.mem_singleton.mp h]
      exact hz
theorem vmod (x : Int) {m : Nat} (h : 0 < m) : ∃ z : Nat, z < m ∧ V.int (x % (m : Int)) = nv z := by
  obtain ⟨z, ez, hz⟩ := mod_nat x h
  exact ⟨z, hz, by rw [ez]; rfl⟩
theorem nd_move {H H' : Hp} {d : Addr} {kvs : List (NestedKey × V)} (h : ND K P w H d kvs) (t : TT K H H') (e : ∀ o, H d = some o → H' d = some o) : ND K P w H' d kvs := by
  obtain ⟨xs, h1, ek, hk, hn, hz⟩ := h
  exact ⟨xs, e _ h1, ek, fun x hx => ⟨(hk x hx).1.mono fun _ _ q => t.t _ _ q, (hk x hx).2⟩, hn, hz⟩
theorem tt_nd {H : Hp} {d : Addr} {kvs : List (NestedKey × V)} {o : HO} (h : ND K P w H d kvs) : TT K H (upd H d o) := by
  obtain ⟨xs, h1, _⟩ := h
  exact tt_upd h1 (fun ys z => dno_ne (o := .tup ys) (fun _ q => nomatch q) z.symm) (fun o' v z => dno_ne (o := .frz o' v) (fun _ q => nomatch q) z.symm)
/-- a dict of keys and a list of items, grown side by side, beside the bag -/
structure DI {α : Type} (K : PySem.W.Frag) (P : Program) (w : World) (R : Hp → V → α → Prop) (H H' : Hp) (b g d l : Addr) (us : List V) (kvs : List (NestedKey × V)) (xs : List α) : Prop where
  f : Fb b g H H'
  B : BagAt H' b g
  N : ND K P w H' d kvs
  e : H' l = some (.lst us)
  p : PL (R H') us xs
variable {α : Type} {R : Hp → V → α → Prop} {H H1 H2 : Hp} {b g d l : Addr} {us : List V} {kvs : List (NestedKey × V)} {xs : List α}
theorem DI.same (m : ∀ H H' v x, TT K H H' → R H v x → R H' v x) (h : DI K P w R H H1 b g d l us kvs xs) (s : Same H1 H2) : DI K P w R H H2 b g d l us kvs xs :=
  ⟨h.f.trans (Fb.of s), h.B.same s, h.N.same s, s _ _ h.e, h.p.mono fun _ _ q => m _ _ _ _ (Same_tt s) q⟩
theorem DI.draw (m : ∀ H H' v x, TT K H H' → R H v x → R H' v x) (h : DI K P w R H H1 b g d l us kvs xs) (n1 : d ≠ b) (n2 : d ≠ g) (n3 : l ≠ b) (n4 : l ≠ g) (f : Fb b g H1 H2) (B : BagAt H2 b g) : DI K P w R H H2 b g d l us kvs xs :=
  ⟨h.f.trans f, B, nd_move h.N (f.tt h.B) fun _ e => f _ _ n1 n2 e, f _ _ n3 n4 h.e, h.p.mono fun _ _ q => m _ _ _ _ (f.tt h.B) q⟩
theorem DI.put (m : ∀ H H' v x, TT K H H' → R H v x → R H' v x) (h : DI K P w R H H1 b g d l us kvs xs) (n1 : d ≠ b) (n2 : d ≠ g) (hd : H d = none) (ne : d ≠ l) {o : HO} {kvs' : List (NestedKey × V)} (N : ND K P w (upd H1 d o) d kvs') : DI K P w R H (upd H1 d o) b g d l us kvs' xs :=
  ⟨fb_at h.f hd, h.B.keep n1 n2, N, by rw [upd_ne ne.symm]; exact h.e, h.p.mono fun _ _ q => m _ _ _ _ (tt_nd h.N) q⟩
theorem DI.push (m : ∀ H H' v x, TT K H H' → R H v x → R H' v x) (h : DI K P w R H H1 b g d l us kvs xs) (n3 : l ≠ b) (n4 : l ≠ g) (hl : H l = none) (ne : d ≠ l) {v : V} {x : α} (k : R H1 v x) : DI K P w R H (upd H1 l (.lst (us ++ [v]))) b g d l (us ++ [v]) kvs (xs ++ [x]) :=
  ⟨fb_at h.f hl, h.B.keep n3 n4, nd_move h.N (tt_lst h.e) fun _ q => by rw [upd_ne ne]; exact q, upd_same, (h.p.mono fun _ _ q => m _ _ _ _ (tt_lst h.e) q).snoc (m _ _ _ _ (tt_lst h.e) k)⟩
theorem val_some {α β : Type} [DecidableEq β] (f : α → β) {x : α} : ∀ {l : List α}, x ∈ l → valV (l.map fun y => (f y, V.bl true)) (f x) = some (.bl true)
  | y :: l, h => by
    by_cases e : f y = f x
    · exact valV_pos e
    · rw [List.map_cons, valV_neg e]
      rcases List.mem_cons.mp h with rfl | h
      · exact absurd rfl e
      · exact val_some f h
theorem nkR_of {r s : Rl} (h : rkey r = rkey s) : nkR r = nkR s := by
  obtain ⟨h1, h2⟩ := Prod.mk.inj h
  obtain ⟨h2, h3⟩ := Prod.mk.inj h2
  unfold nkR
  rw [h1, h2, h3]
theorem nkM_of {r s : Mv} (h : mkey r = mkey s) : nkM r = nkM s := by
  obtain ⟨h1, h2⟩ := Prod.mk.inj h
  unfold nkM
  rw [h1, h2]
theorem newR {rs : List Rl} {r : Rl} (h : valV (ndR rs) (nkR r) = none) (hn : (rs.map rkey).Nodup) : ((rs ++ [r]).map rkey).Nodup ∧ putK (ndR rs) (nkR r) (.bl true) = ndR (rs ++ [r]) := by
  constructor
  · rw [List.map_append, List.nodup_append]
    refine ⟨hn, by simp, fun a ha c hc e => ?_⟩
    obtain ⟨s, hs, rfl⟩ := List.mem_map.mp ha
    rw [List.map_cons, List.map_nil, List.mem_singleton] at hc
    have := val_some nkR hs
    rw [nkR_of (e.trans hc)] at this
    rw [show valV (ndR rs) (nkR r) = some (.bl true) from this] at h
    cases h
  · rw [putK_new _ h]
    unfold ndR
    rw [List.map_append]
    rfl
theorem newM {rs : List Mv} {r : Mv} (h : valV (ndM rs) (nkM r) = none) (hn : (rs.map mkey).Nodup) : ((rs ++ [r]).map mkey).Nodup ∧ putK (ndM rs) (nkM r) (.bl true) = ndM (rs ++ [r]) := by
  constructor
  · rw [List.map_append, List.nodup_append]
    refine ⟨hn, by simp, fun a ha c hc e => ?_⟩
    obtain ⟨s, hs, rfl⟩ := List.mem_map.mp ha
    rw [List.map_cons, List.map_nil, List.mem_singleton] at hc
    have := val_some nkM hs
    rw [nkM_of (e.trans hc)] at this
    rw [show valV (ndM rs) (nkM r) = some (.bl true) from this] at h
    cases h
  · rw [putK_new _ h]
    unfold ndM
    rw [List.map_append]
    rfl
theorem none_of_some {o : Option V} (h : (!o.isSome) = true) : o = none := by
  cases o with
  | none => rfl
  | some => cases h
end
section
variable {P : Program} {w : World} {K : PySem.W.Frag} {mg : Str → Option Value} {base : Heap} {a : Adr}
def spMoves (K : PySem.W.Frag) : Sp := fun vs H Q _ => ∃ (b g : Addr) (nk wanted : Nat), vs = [.ref b, nv nk, nv wanted] ∧ 1 ≤ nk ∧ nk ≤ 5 ∧ wanted ≤ 100 ∧ BagAt H b g ∧ ∀ q ms H', Fb b g H H' → BagAt H' b g → MovesT K H' q ms → ms.length ≤ 20 → (∀ m ∈ ms, MvOk nk m) → (ms.map mkey).Nodup → Q (.ref q) H'
theorem ok_law_moves (T : Txt K mg a) : FnOk P w K mg base CX0 3 a.f_law_moves a.d_law_moves ["_law_bag_here", "_law_kinds", "_law_wanted"] (spMoves K) := by
  have G_law_pick := ok_law_pick (P := P) (w := w) (base := base) T
  have G_law_price := ok_law_price (P := P) (w := w) (base := base) T
  refine T.F_law_moves.ok sc_law_moves (fun vs H Q E h => ?_) (fun cdv A outer s H vs Q E hr h => ?_)
  · obtain ⟨b, g, nk, wanted, rfl, _⟩ := h
    rfl
  obtain ⟨b, g, nk, wanted, rfl, hk1, hk2, hw, B, k⟩ := h
  refine ⟨_, (pss_cons (ps_set (i := 3) sc_law_moves.nd rfl (Or.inl rfl) NeD.pe_new)
  (pss_cons (ps_set (i := 4) sc_law_moves.nd rfl (Or.inl rfl) (pe_lst pa_nil))
  (pss_cons (ps_for PassesOwn.never rfl (pi_range1 rfl T.z_range (pa_cons (pv 2) pa_nil)) (pg_name (i := 5) sc_law_moves.nd rfl (Or.inl rfl))
    (pss_cons (ps_set (i := 6) sc_law_moves.nd rfl (Or.inl rfl) (pe_op op_mod (pe_callTy call_int1 (by rfl) T.z_int (by decide +kernel) (pa_cons (pe_op op_add (pv 5) (pe_call G_law_pick (hr.mono (by decide)) rfl T.g_law_pick T.k_law_pick T.b_law_pick .nil pass0 (pa_cons (pv 0) (pa_cons (pv 1) pa_nil)))) pa_nil)) (pv 1)))
  (pss_cons (ps_set (i := 7) sc_law_moves.nd rfl (Or.inl rfl) (pe_op op_mod (pe_callTy call_int1 (by rfl) T.z_int (by decide +kernel) (pa_cons (pe_op op_add (pe_op op_add (pv 6) pe_int) (pe_call G_law_pick (hr.mono (by decide)) rfl T.g_law_pick T.k_law_pick T.b_law_pick .nil pass0 (pa_cons (pv 0) (pa_cons (pe_callB (call_max2 rfl) (by rfl) T.z_max (by decide +kernel) (pa_cons pe_int (pa_cons (pe_op op_sub (pv 1) pe_int) pa_nil))) pa_nil)))) pa_nil)) (pv 1)))
  (pss_one (ps_if (PW.pt (pw_and (pt_cmpR op_ne (pv 7) (pv 6) (nomark _)) (pw_and (pt_cmp (NeD.pc_notin hr.units (pe_tup (pa_cons (pv 6) (pa_cons (pv 7) pa_nil))) (pv 3))) (pw_and1 (pt_cmpR op_lt (pe_callB call_len_seq (by rfl) T.z_len PySem.boot_len (pa_cons (pv 4) pa_nil)) pe_int (nomark _))))))
    (pss_cons (NeD.ps_put hr.units (pv 3) (pe_tup (pa_cons (pv 6) (pa_cons (pv 7) pa_nil))) pe_bl rfl)
  (pss_one (ps_expr (pe_bm PySem.F.plainAttrs_list PySem.F.slot_list_append PySem.F.type_list_append mt_append (pv 4) (pa_cons (pe_tup (pa_cons (pv 6) (pa_cons (pv 7) (pa_cons (pe_call G_law_price (hr.mono (by decide)) rfl T.g_law_price T.k_law_price T.b_law_price .nil pass0 (pa_cons (pv 0) pa_nil)) pa_nil)))) pa_nil)))))
    pss_nil)))))
  (pss_one (ps_ret (pe_callTy call_tuple_of (by rfl) T.z_tuple (by decide +kernel) (pa_cons (pv 4) pa_nil))))))), ?_⟩
  refine fun d hd => ?_
  obtain ⟨nd1, nd2⟩ := B.ne hd
  have B0 := B.new (o := NeD.dno P w d []) hd
  refine ⟨Nat.zero_le _, fun l hl => ?_⟩
  obtain ⟨nl1, nl2⟩ := B0.ne hl
  have hl0 : H l = none := none_of (same_new hd) hl
  have ndl : d ≠ l := ne_of_none upd_same hl
  have D0 : DI K P w (MoveV K) H (upd (upd H d (NeD.dno P w d [])) l (.lst [])) b g d l [] (ndM []) [] := ⟨Fb.of ((same_new hd).trans (same_new hl)), B0.new hl, (NeD.nd_new (K := K) (P := P) (w := w)).same (same_new hl), upd_same, PL.nil⟩
  have hmono : ∀ H H' v x, TT K H H' → MoveV K H v x → MoveV K H' v x := fun _ _ _ _ t h => h.tt t
  refine ⟨_, rfl, _, rfl, by omega, by omega, for_range (lo := 0) (n := ((wanted : Nat) : Int).toNat) (fun i σ H' => ∃ v5 v6 v7 us ms, σ = [some (.ref b), some (nv nk), some (nv wanted), some (.ref d), some (.ref l), v5, v6, v7] ∧ DI K P w (MoveV K) H H' b g d l us (ndM ms) ms ∧ ms.length ≤ 20 ∧ (∀ m ∈ ms, MvOk nk m) ∧ (ms.map mkey).Nodup) ⟨none, none, none, [], [], rfl, D0, by decide, (fun _ h => nomatch h), List.nodup_nil⟩ ?_ ?_⟩
  · rintro i σ H1 hi ⟨v5, v6, v7, us, ms, rfl, D1, l1, ok1, nd3⟩
    rw [nv0]
    refine ⟨_, rfl, _, rfl, _, rfl, b, g, nk, rfl, by omega, by omega, D1.B, fun r1 H2 hr1 B2 f2 => ⟨_, _, rfl, rfl, .inl ⟨_, rfl, _, rfl, _, _, rfl, rfl, by omega, ?_⟩⟩⟩
    have D2 := D1.draw hmono nd1 nd2 nl1 nl2 f2 B2
    dsimp only
    obtain ⟨sr, hsr, esr⟩ := vmod ((i : Int) + (r1 : Int)) (m := nk) (by omega)
    rw [esr]
    have hmx : (if ((nk : Int) - 1 > 1) then ((nk : Int) - 1) else 1) = ((max 1 (nk - 1) : Nat) : Int) := by
      split <;> omega
    refine ⟨_, rfl, _, _, rfl, rfl, _, rfl, _, rfl, _, _, rfl, rfl, _, _, rfl, ?_⟩
    dsimp only
    rw [hmx]
    refine ⟨b, g, max 1 (nk - 1), rfl, by omega, by omega, B2, fun r2 H3 hr2 B3 f3 => ⟨_, _, rfl, rfl, .inl ⟨_, rfl, _, rfl, _, _, rfl, rfl, by omega, ?_⟩⟩⟩
    have D3 := D2.draw hmono nd1 nd2 nl1 nl2 f3 B3
    dsimp only
    obtain ⟨kd, hkd, ekd⟩ := vmod ((sr : Int) + 1 + (r2 : Int)) (m := nk) (by omega)
    rw [ekd]
    refine ⟨_, rfl, _, rfl, rfl, _, rfl, ite2 (fun c1 => ?_) (fun c1 => ?_)⟩
    · have hne : sr ≠ kd := fun e => by
        subst e
        rw [decide_eq_true rfl] at c1
        cases c1
      refine ⟨_, rfl, _, rfl, (by decide : 2 ≤ sizeLine), fun c hc => ?_⟩
      have D4 := D3.same hmono (same_new (o := .tup [nv sr, nv kd]) hc)
      refine ⟨_, rfl, c, d, _, nkM ⟨sr, kd, 0⟩, rfl, rfl, D4.N, move_key (m := ⟨sr, kd, 0⟩) (.inl (.inl upd_same)), nkM_depth _, _, rfl, ite2 (fun c2 => ?_) (fun c2 => ?_)⟩
      · have hnone := none_of_some c2
        refine ⟨_, rfl, l, us, rfl, .inl (SqL.of D4.e), _, _, rfl, rfl, _, rfl, ite2 (fun c3 => ?_) (fun c3 => ?_)⟩
        · have hlen : us.length < 20 := by
            have := of_decide_eq_true c3
            omega
          refine ⟨_, rfl, _, rfl, _, rfl, (by decide : 2 ≤ sizeLine), fun c2 hc2 => ?_⟩
          have D5 := D4.same hmono (same_new (o := .tup [nv sr, nv kd]) hc2)
          refine ⟨c2, d, _, nkM ⟨sr, kd, 0⟩, rfl, rfl, D5.N, move_key (m := ⟨sr, kd, 0⟩) (.inl (.inl upd_same)), nkM_depth _, ?_, fun o ho => ?_⟩
          · show (ndM ms).length < sizeLine
            unfold ndM
            rw [List.length_map]
            exact lt_line (by omega)
          have D6 := D5.put hmono nd1 nd2 hd ndl ho
          refine ⟨_, rfl, .inl ⟨rfl, _, SqL.of D6.e⟩, _, rfl, _, rfl, _, rfl, b, g, rfl, D6.B, fun cs H7 h1 h2 B7 f7 => ⟨(by decide : 3 ≤ sizeLine), fun c3 hc3 => ?_⟩⟩
          have D7 := D6.draw hmono nd1 nd2 nl1 nl2 f7 B7
          have D8 := D7.same hmono (same_new (o := .tup [nv sr, nv kd, nv cs]) hc3)
          have D9 := D8.push hmono nl1 nl2 hl0 ndl (v := .ref c3) (x := ⟨sr, kd, cs⟩) ⟨c3, rfl, .inl (.inl upd_same)⟩
          obtain ⟨q1, q2⟩ := newM (r := ⟨sr, kd, cs⟩) hnone nd3
          have e10 : putK (ndM ms) (nkM ⟨sr, kd, 0⟩) (.bl true) = ndM (ms ++ [⟨sr, kd, cs⟩]) := q2
          rw [e10] at D9
          refine ⟨l, us, _, rfl, rfl, D8.e, lt_line (by omega), _, _, _, _, _, rfl, D9, ?_, fun m hm => ?_, q1⟩
          · rw [List.length_append, List.length_singleton, ← D1.p.1]
            omega
          · rcases List.mem_append.mp hm with h | h
            · exact ok1 m h
            · rw [List.mem_singleton.mp h]
              exact ⟨hsr, hkd, hne, h1, h2⟩
        · exact ⟨_, _, _, us, ms, rfl, D4, l1, ok1, nd3⟩
      · exact ⟨_, _, _, us, ms, rfl, D4, l1, ok1, nd3⟩
    · exact ⟨_, _, _, us, ms, rfl, D3, l1, ok1, nd3⟩
  · rintro σ H1 ⟨v5, v6, v7, us, ms, rfl, D1, l1, ok1, nd3⟩
    refine ⟨_, rfl, l, us, rfl, .inl ⟨SqL.of D1.e, fun t ht => ?_⟩⟩
    exact k t ms _ (fb_new D1.f ht) (D1.B.new ht) ⟨us, .inl (.inl upd_same), D1.p.mono fun _ _ q => q.tt (tt_new ht)⟩ l1 ok1 nd3
end
end Lk
namespace Lk
open PySem L2
section
variable {P : Program} {w : World} {K : PySem.W.Frag} {mg : Str → Option Value} {base : Heap} {a : Adr}
def spRules (K : PySem.W.Frag) : Sp := fun vs H Q _ => ∃ (b g ta : Addr) (ar : List Nat) (nk wanted : Nat), vs = [.ref b, .ref ta, nv nk, nv wanted] ∧ IT K H ta ar ∧ 1 ≤ ar.length ∧ ar.length ≤ 8 ∧ (∀ x ∈ ar, x ≤ 2) ∧ 1 ≤ nk ∧ nk ≤ 5 ∧ wanted ≤ 100 ∧ BagAt H b g ∧ ∀ q rs H', Fb b g H H' → BagAt H' b g → RulesT K H' q rs → rs.length ≤ 40 → (∀ m ∈ rs, RlOk ar nk m) → (rs.map rkey).Nodup → Q (.ref q) H'
theorem ok_law_rules (T : Txt K mg a) : FnOk P w K mg base CX0 3 a.f_law_rules a.d_law_rules ["_law_bag_here", "_law_arities_here", "_law_kinds", "_law_wanted"] (spRules K) := by
  have G_law_pick := ok_law_pick (P := P) (w := w) (base := base) T
  have G_law_price := ok_law_price (P := P) (w := w) (base := base) T
  refine T.F_law_rules.ok sc_law_rules (fun vs H Q E h => ?_) (fun cdv A outer s H vs Q E hr h => ?_)
  · obtain ⟨b, g, ta, ar, nk, wanted, rfl, _⟩ := h
    rfl
  obtain ⟨b, g, ta, ar, nk, wanted, rfl, ha, ha1, ha2, ha3, hk1, hk2, hw, B, k⟩ := h
  refine ⟨_, (pss_cons (ps_set (i := 4) sc_law_rules.nd rfl (Or.inl rfl) NeD.pe_new)
  (pss_cons (ps_set (i := 5) sc_law_rules.nd rfl (Or.inl rfl) (pe_lst pa_nil))
  (pss_cons (ps_for PassesOwn.never rfl (pi_range1 rfl T.z_range (pa_cons (pv 3) pa_nil)) (pg_name (i := 6) sc_law_rules.nd rfl (Or.inr rfl))
    (pss_cons (ps_set (i := 7) sc_law_rules.nd rfl (Or.inl rfl) (pe_op op_mod (pe_callTy call_int1 (by rfl) T.z_int (by decide +kernel) (pa_cons (pe_op op_add (pv 6) (pe_call G_law_pick (hr.mono (by decide)) rfl T.g_law_pick T.k_law_pick T.b_law_pick .nil pass0 (pa_cons (pv 0) (pa_cons (pe_callB call_len_seq (by rfl) T.z_len PySem.boot_len (pa_cons (pv 1) pa_nil)) pa_nil)))) pa_nil)) (pe_callB call_len_seq (by rfl) T.z_len PySem.boot_len (pa_cons (pv 1) pa_nil))))
  (pss_cons (ps_set (i := 8) sc_law_rules.nd rfl (Or.inl rfl) (pe_callTy call_tuple_of (by rfl) T.z_tuple (by decide +kernel) (pa_cons (pe_lc (own := [("_law_j", 10)]) (g := gName 10) (tt := tYes) rfl sc_law_rules.nd (pi_range1 rfl T.z_range (pa_cons (pe_ix ix_tup (pv 1) (pv 7) (fun _ _ => rfl)) pa_nil)) (blkOk_by (N := ["_law_bag_here", "_law_arities_here", "_law_kinds", "_law_wanted", "_law_known", "_law_found", "_law_k", "_law_op", "_law_sources", "_law_kind", "_law_j"]) (sc := defScope s_law_rules) (by decide +kernel)) (fun _ _ _ _ _ => pg_name (i := 10) sc_law_rules.nd rfl (Or.inl rfl)) (fun _ _ _ _ _ => pts_nil) (fun _ _ _ _ _ => (pe_op op_mod (pe_callTy call_int1 (by rfl) T.z_int (by decide +kernel) (pa_cons (pe_op op_add (pe_op op_add (pe_op op_fdivN (pv 6) pe_int) (pv 10)) (pe_call G_law_pick (hr.mono (by decide)) rfl T.g_law_pick T.k_law_pick T.b_law_pick .nil pass0 (pa_cons (pv 0) (pa_cons (pv 2) pa_nil)))) pa_nil)) (pv 2)))) pa_nil)))
  (pss_cons (ps_set (i := 9) sc_law_rules.nd rfl (Or.inl rfl) (pe_op op_mod (pe_callTy call_int1 (by rfl) T.z_int (by decide +kernel) (pa_cons (pe_op op_add (pe_op op_fdivN (pv 6) (pe_callB call_len_seq (by rfl) T.z_len PySem.boot_len (pa_cons (pv 1) pa_nil))) (pe_call G_law_pick (hr.mono (by decide)) rfl T.g_law_pick T.k_law_pick T.b_law_pick .nil pass0 (pa_cons (pv 0) (pa_cons (pv 2) pa_nil)))) pa_nil)) (pv 2)))
  (pss_one (ps_if (PW.pt (pw_and (pt_cmp (NeD.pc_notin hr.units (pe_tup (pa_cons (pv 7) (pa_cons (pv 8) (pa_cons (pv 9) pa_nil)))) (pv 4))) (pw_and1 (pt_cmpR op_lt (pe_callB call_len_seq (by rfl) T.z_len PySem.boot_len (pa_cons (pv 5) pa_nil)) pe_int (nomark _)))))
    (pss_cons (NeD.ps_put hr.units (pv 4) (pe_tup (pa_cons (pv 7) (pa_cons (pv 8) (pa_cons (pv 9) pa_nil)))) pe_bl rfl)
  (pss_one (ps_expr (pe_bm PySem.F.plainAttrs_list PySem.F.slot_list_append PySem.F.type_list_append mt_append (pv 5) (pa_cons (pe_tup (pa_cons (pv 7) (pa_cons (pv 8) (pa_cons (pv 9) (pa_cons (pe_call G_law_price (hr.mono (by decide)) rfl T.g_law_price T.k_law_price T.b_law_price .nil pass0 (pa_cons (pv 0) pa_nil)) pa_nil))))) pa_nil)))))
    pss_nil))))))
  (pss_one (ps_ret (pe_callTy call_tuple_of (by rfl) T.z_tuple (by decide +kernel) (pa_cons (pv 5) pa_nil))))))), ?_⟩
  refine fun d hd => ?_
  obtain ⟨nd1, nd2⟩ := B.ne hd
  have B0 := B.new (o := NeD.dno P w d []) hd
  refine ⟨Nat.zero_le _, fun l hl => ?_⟩
  obtain ⟨nl1, nl2⟩ := B0.ne hl
  have hl0 : H l = none := none_of (same_new hd) hl
  have ndl : d ≠ l := ne_of_none upd_same hl
  have D0 : DI K P w (RuleV K) H (upd (upd H d (NeD.dno P w d [])) l (.lst [])) b g d l [] (ndR []) [] := ⟨Fb.of ((same_new hd).trans (same_new hl)), B0.new hl, (NeD.nd_new (K := K) (P := P) (w := w)).same (same_new hl), upd_same, PL.nil⟩
  have hmono : ∀ H H' v x, TT K H H' → RuleV K H v x → RuleV K H' v x := fun _ _ _ _ t h => h.tt t
  have haF : ∀ {H'}, Fb b g H H' → SqT K H' ta (ar.map nv) := fun f => (f.tt B).t _ _ ha
  refine ⟨_, rfl, _, rfl, by omega, by omega, for_range (lo := 0) (n := ((wanted : Nat) : Int).toNat) (fun i σ H' => ∃ v6 v7 v8 v9 us rs, σ = [some (.ref b), some (.ref ta), some (nv nk), some (nv wanted), some (.ref d), some (.ref l), v6, v7, v8, v9, none] ∧ DI K P w (RuleV K) H H' b g d l us (ndR rs) rs ∧ rs.length ≤ 40 ∧ (∀ m ∈ rs, RlOk ar nk m) ∧ (rs.map rkey).Nodup) ⟨none, none, none, none, [], [], rfl, D0, by decide, (fun _ h => nomatch h), List.nodup_nil⟩ ?_ ?_⟩
  · rintro i σ H1 hi ⟨v6, v7, v8, v9, us, rs, rfl, D1, l1, ok1, nd3⟩
    rw [nv0]
    refine ⟨_, rfl, _, rfl, _, rfl, ta, _, rfl, .inr (haF D1.f), b, g, ar.length, by rw [List.length_map]; rfl, by omega, by omega, D1.B, fun r1 H2 hr1 B2 f2 => ?_⟩
    have D2 := D1.draw hmono nd1 nd2 nl1 nl2 f2 B2
    refine ⟨_, _, rfl, rfl, .inl ⟨_, rfl, _, rfl, ta, _, rfl, .inr (haF D2.f), _, _, rfl, rfl, by rw [List.length_map]; omega, ?_⟩⟩
    dsimp only
    rw [List.length_map]
    obtain ⟨op, hop, eop⟩ := vmod ((i : Int) + (r1 : Int)) (m := ar.length) (by omega)
    rw [eop]
    have hix : atI (ar.map nv) (op : Int) = some (nv (ar.getD op 0)) := atI_nat (by rw [List.getElem?_map, List.getElem?_eq_getElem hop, gd hop]; rfl)
    have hn2 : ar.getD op 0 ≤ 2 := by
      rw [gd hop]
      exact ha3 _ (List.getElem_mem hop)
    -- sources
    refine ⟨_, rfl, _, rfl, ta, _, _, _, rfl, rfl, haF D2.f, hix, _, rfl, by omega, by omega, fun D hD => ?_⟩
    obtain ⟨nD1, nD2⟩ := B2.ne hD
    refine lc_range (lo := 0) (n := ((ar.getD op 0 : Nat) : Int).toNat) (fun j H' => Fb b g H2 H' ∧ BagAt H' b g ∧ NL H' D nk j) ⟨Fb.of (same_new hD), B2.keep nD1 nD2, [], upd_same, rfl, by simp⟩ (fun j H3 hj z => ?_) (fun H3 z => ?_)
    · obtain ⟨f3, B3, qs, eq, lq, hq⟩ := z
      rw [nv0]
      refine ⟨rfl, ?_⟩
      refine ⟨_, rfl, _, _, rfl, rfl, ⟨by decide, by decide⟩, _, rfl, _, _, rfl, rfl, _, rfl, _, rfl, b, g, nk, rfl, by omega, by omega, B3, fun r2 H4 hr2 B4 f4 => ⟨_, _, rfl, rfl, .inl ⟨_, rfl, _, rfl, _, _, rfl, rfl, by omega, ?_⟩⟩⟩
      refine ⟨_, f4 _ _ nD1 nD2 eq, lt_line (by rw [List.length_map]; omega), fb_at (f3.trans f4) hD, B4.keep nD1 nD2, nl_push (by omega) lq hq⟩
    · obtain ⟨f3, B3, qs, eq, lq, hq⟩ := z
      have D3 := D2.draw hmono nd1 nd2 nl1 nl2 f3 B3
      refine ⟨D, _, rfl, .inl ⟨SqL.of eq, fun sq hsq => ?_⟩⟩
      have D4 := D3.same hmono (same_new (o := .tup (qs.map nv)) hsq)
      have hsq4 : IT K (upd H3 sq (.tup (qs.map nv))) sq qs := .inl (.inl upd_same)
      generalize upd H3 sq (.tup (qs.map nv)) = H4 at D4 hsq4
      -- kind
      refine ⟨_, rfl, _, rfl, ta, _, rfl, .inr (haF D4.f), _, _, rfl, rfl, ⟨by rw [List.length_map]; omega, by rw [List.length_map]; omega⟩, _, rfl, _, rfl, b, g, nk, rfl, by omega, by omega, D4.B, fun r3 H5 hr3 B5 f5 => ⟨_, _, rfl, rfl, .inl ⟨_, rfl, _, rfl, _, _, rfl, rfl, by omega, ?_⟩⟩⟩
      have D5 := D4.draw hmono nd1 nd2 nl1 nl2 f5 B5
      have hsq5 : IT K H5 sq qs := (f5.tt D4.B).t _ _ hsq4
      dsimp only
      obtain ⟨kd, hkd, ekd⟩ := vmod (Int.fdiv (i : Int) (((ar.map nv).length : Nat) : Int) + (r3 : Int)) (m := nk) (by omega)
      rw [ekd]
      -- the test
      refine ⟨_, rfl, _, rfl, _, rfl, (by decide : 3 ≤ sizeLine), fun c hc => ?_⟩
      have D6 := D5.same hmono (same_new (o := .tup [nv op, .ref sq, nv kd]) hc)
      have hsq6 := (tt_new (K := K) (o := .tup [nv op, .ref sq, nv kd]) hc).t _ _ hsq5
      refine ⟨_, rfl, c, d, _, nkR ⟨op, qs, kd, 0⟩, rfl, rfl, D6.N, rule_key (r := ⟨op, qs, kd, 0⟩) (.inl (.inl upd_same)) hsq6, nkR_depth _, _, rfl, ite2 (fun c2 => ?_) (fun c2 => ?_)⟩
      · have hnone := none_of_some c2
        refine ⟨_, rfl, l, us, rfl, .inl (SqL.of D6.e), _, _, rfl, rfl, _, rfl, ite2 (fun c3 => ?_) (fun c3 => ?_)⟩
        · have hlen : us.length < 40 := by
            have := of_decide_eq_true c3
            omega
          refine ⟨_, rfl, _, rfl, _, rfl, _, rfl, (by decide : 3 ≤ sizeLine), fun c2 hc2 => ?_⟩
          have D7 := D6.same hmono (same_new (o := .tup [nv op, .ref sq, nv kd]) hc2)
          have hsq7 := (tt_new (K := K) (o := .tup [nv op, .ref sq, nv kd]) hc2).t _ _ hsq6
          refine ⟨c2, d, _, nkR ⟨op, qs, kd, 0⟩, rfl, rfl, D7.N, rule_key (r := ⟨op, qs, kd, 0⟩) (.inl (.inl upd_same)) hsq7, nkR_depth _, ?_, fun o ho => ?_⟩
          · show (ndR rs).length < sizeLine
            unfold ndR
            rw [List.length_map]
            exact lt_line (by omega)
          have D8 := D7.put hmono nd1 nd2 hd ndl ho
          have hsq8 := (tt_nd (o := o) D7.N).t _ _ hsq7
          refine ⟨_, rfl, .inl ⟨rfl, _, SqL.of D8.e⟩, _, rfl, _, rfl, _, rfl, _, rfl, b, g, rfl, D8.B, fun cs H9 h1 h2 B9 f9 => ⟨(by decide : 4 ≤ sizeLine), fun c3 hc3 => ?_⟩⟩
          have D9 := D8.draw hmono nd1 nd2 nl1 nl2 f9 B9
          have hsq9 := (f9.tt D8.B).t _ _ hsq8
          have D10 := D9.same hmono (same_new (o := .tup [nv op, .ref sq, nv kd, nv cs]) hc3)
          have hsq10 := (tt_new (K := K) (o := .tup [nv op, .ref sq, nv kd, nv cs]) hc3).t _ _ hsq9
          have D11 := D10.push hmono nl1 nl2 hl0 ndl (v := .ref c3) (x := ⟨op, qs, kd, cs⟩) ⟨c3, sq, rfl, .inl (.inl upd_same), hsq10⟩
          obtain ⟨q1, q2⟩ := newR (r := ⟨op, qs, kd, cs⟩) hnone nd3
          have e10 : putK (ndR rs) (nkR ⟨op, qs, kd, 0⟩) (.bl true) = ndR (rs ++ [⟨op, qs, kd, cs⟩]) := q2
          rw [e10] at D11
          refine ⟨l, us, _, rfl, rfl, D10.e, lt_line (by omega), _, _, _, _, _, _, rfl, D11, ?_, fun m hm => ?_, q1⟩
          · rw [List.length_append, List.length_singleton, ← D1.p.1]
            omega
          · rcases List.mem_append.mp hm with h | h
            · exact ok1 m h
            · rw [List.mem_singleton.mp h]
              exact ⟨hop, by rw [lq]; exact Int.toNat_natCast _, hq, hkd, h1, h2⟩
        · exact ⟨_, _, _, _, us, rs, rfl, D6, l1, ok1, nd3⟩
      · exact ⟨_, _, _, _, us, rs, rfl, D6, l1, ok1, nd3⟩
  · rintro σ H1 ⟨v6, v7, v8, v9, us, rs, rfl, D1, l1, ok1, nd3⟩
    refine ⟨_, rfl, l, us, rfl, .inl ⟨SqL.of D1.e, fun t ht => ?_⟩⟩
    exact k t rs _ (fb_new D1.f ht) (D1.B.new ht) ⟨us, .inl (.inl upd_same), D1.p.mono fun _ _ q => q.tt (tt_new ht)⟩ l1 ok1 nd3
end
end Lk
namespace Lk
open PySem L2
def rLenK (K : PySem.W.Frag) : List V → Hp → VK → Prop := fun xs H Q => ∃ p ys, xs = [.ref p] ∧ (SqL K H p ys ∨ SqT K H p ys) ∧ Q (.int ys.length) H
theorem lenK {K : PySem.W.Frag} {X : Cx} (h : X.K = K) : CallR X (.builtin "len") (rLenK K) := by
  subst h
  exact call_len_seq
def FitsA (ar : List Nat) (R : List Row) : Prop := ∀ n, n < R.length → (rowAt R n).1 < ar.length ∧ ar.getD (rowAt R n).1 0 = (parts R n).length
theorem FitsA.push {ar : List Nat} {R : List Row} {r : Row} (h : FitsA ar R) (h1 : r.1 < ar.length) (h2 : ar.getD r.1 0 = r.2.length) : FitsA ar (R ++ [r]) := by
  intro n hn
  rw [List.length_append, List.length_singleton] at hn
  unfold parts
  by_cases e : n < R.length
  · rw [rowAt_old e]
    exact h n e
  · have : n = R.length := by omega
    subst this
    rw [rowAt_new]
    exact ⟨h1, h2⟩
section
variable {P : Program} {w : World} {K : PySem.W.Frag} {mg : Str → Option Value} {base : Heap} {a : Adr}
def spValues (K : PySem.W.Frag) : Sp := fun vs H Q _ => ∃ (b g ta : Addr) (ar : List Nat) (wanted : Nat), vs = [.ref b, .ref ta, nv wanted] ∧ IT K H ta ar ∧ ar.length ≤ 8 ∧ (∀ x ∈ ar, x ≤ 2) ∧ wanted ≤ 20 ∧ BagAt H b g ∧ ∀ q R H', Fb b g H H' → BagAt H' b g → RowsT K H' q R → Good R → FitsA ar R → R.length ≤ 20 → Q (.ref q) H'
theorem ok_law_values (T : Txt K mg a) : FnOk P w K mg base CX0 2 a.f_law_values a.d_law_values ["_law_bag_here", "_law_arities_here", "_law_wanted"] (spValues K) := by
  have G_law_pick := ok_law_pick (P := P) (w := w) (base := base) T
  refine T.F_law_values.ok sc_law_values (fun vs H Q E h => ?_) (fun cdv A outer s H vs Q E hr h => ?_)
  · obtain ⟨b, g, ta, ar, wanted, rfl, _⟩ := h
    rfl
  obtain ⟨b, g, ta, ar, wanted, rfl, ha, ha2, ha3, hw, B, k⟩ := h
  refine ⟨_, (pss_cons (ps_set (i := 3) sc_law_values.nd rfl (Or.inr rfl) (pe_lst pa_nil))
  (pss_cons (ps_for PassesOwn.never rfl (pi_range1 rfl T.z_range (pa_cons (pv 2) pa_nil)) (pg_name (i := 4) sc_law_values.nd rfl (Or.inl rfl))
    (pss_cons (ps_setLc (i := 5) (own := [("_law_op", 6)]) (g := gName 6) (tt := _) rfl sc_law_values.nd rfl rfl (sw_true rfl rfl rfl (by decide +kernel)) (pi_range1 rfl T.z_range (pa_cons (pe_callB call_len_seq (by rfl) T.z_len PySem.boot_len (pa_cons (pv 1) pa_nil)) pa_nil)) (blkOk_by (N := ["_law_bag_here", "_law_arities_here", "_law_wanted", "_law_found", "_law_k", "_law_ops", "_law_op", "_law_j"]) (sc := defScope s_law_values) (by decide +kernel)) (fun _ _ _ _ _ => pg_name (i := 6) sc_law_values.nd rfl (Or.inl rfl)) (fun _ _ _ _ _ => (pts_one (PW.pt (pw_or (pt_cmpR op_eq (pe_ix (ixT (K := K) rfl) (pv 1) (pv 6) (fun _ _ => rfl)) pe_int (nomark _)) (pw_or1 (pt_cmpR op_gt (pe_callB (lenK (K := K) rfl) (by rfl) T.z_len PySem.boot_len (pa_cons (pv 3) pa_nil)) pe_int (nomark _))))))) (fun _ _ _ _ _ => pv 6))
  (pss_one (ps_if (pt_cmpR op_gt (pe_callB call_len_seq (by rfl) T.z_len PySem.boot_len (pa_cons (pv 5) pa_nil)) pe_int (nomark _))
    (pss_cons (ps_set (i := 6) sc_law_values.nd rfl (Or.inl rfl) (pe_ix ix_list (pv 5) (pe_op op_mod (pe_callTy call_int1 (by rfl) T.z_int (by decide +kernel) (pa_cons (pe_op op_add (pv 4) (pe_call G_law_pick (hr.mono (by decide)) rfl T.g_law_pick T.k_law_pick T.b_law_pick .nil pass0 (pa_cons (pv 0) (pa_cons (pe_callB call_len_seq (by rfl) T.z_len PySem.boot_len (pa_cons (pv 5) pa_nil)) pa_nil)))) pa_nil)) (pe_callB call_len_seq (by rfl) T.z_len PySem.boot_len (pa_cons (pv 5) pa_nil))) (fun _ _ => rfl)))
  (pss_one (ps_expr (pe_bm PySem.F.plainAttrs_list PySem.F.slot_list_append PySem.F.type_list_append mt_append (pv 3) (pa_cons (pe_tup (pa_cons (pv 6) (pa_cons (pe_callTy call_tuple_of (by rfl) T.z_tuple (by decide +kernel) (pa_cons (pe_lc (own := [("_law_j", 7)]) (g := gName 7) (tt := tYes) rfl sc_law_values.nd (pi_range1 rfl T.z_range (pa_cons (pe_ix ix_tup (pv 1) (pv 6) (fun _ _ => rfl)) pa_nil)) (blkOk_by (N := ["_law_bag_here", "_law_arities_here", "_law_wanted", "_law_found", "_law_k", "_law_ops", "_law_op", "_law_j"]) (sc := defScope s_law_values) (by decide +kernel)) (fun _ _ _ _ _ => pg_name (i := 7) sc_law_values.nd rfl (Or.inl rfl)) (fun _ _ _ _ _ => pts_nil) (fun _ _ _ _ _ => (pe_call G_law_pick (hr.mono (by decide)) rfl T.g_law_pick T.k_law_pick T.b_law_pick .nil pass0 (pa_cons (pv 0) (pa_cons (pe_callB (lenK (K := K) rfl) (by rfl) T.z_len PySem.boot_len (pa_cons (pv 3) pa_nil)) pa_nil))))) pa_nil)) pa_nil))) pa_nil)))))
    pss_nil))))
  (pss_one (ps_ret (pe_callTy call_tuple_of (by rfl) T.z_tuple (by decide +kernel) (pa_cons (pv 3) pa_nil)))))), ?_⟩
  have haF : ∀ {H'}, Fb b g H H' → SqT K H' ta (ar.map nv) := fun f => (f.tt B).t _ _ ha
  refine ⟨Nat.zero_le _, fun l hl => ?_⟩
  obtain ⟨nl1, nl2⟩ := B.ne hl
  have B0 := B.new (o := .lst []) hl
  refine ⟨_, rfl, _, rfl, by omega, by omega, for_range (lo := 0) (n := ((wanted : Nat) : Int).toNat) (fun i σ H' => ∃ v4 v5 v6 R, σ = [some (.ref b), some (.ref ta), some (nv wanted), some (.ref l), v4, v5, v6, none] ∧ Fb b g H H' ∧ BagAt H' b g ∧ RL K H' l R ∧ Good R ∧ FitsA ar R ∧ R.length ≤ i) ⟨none, none, none, [], rfl, Fb.of (same_new hl), B0, ⟨[], upd_same, rfl, by simp⟩, good_nil, (fun n h => absurd h (Nat.not_lt_zero n)), Nat.le_refl _⟩ ?_ ?_⟩
  · rintro i σ H1 hi ⟨v4, v5, v6, R, rfl, f1, B1, rl1, gR, fR, lR⟩
    rw [nv0]
    obtain ⟨us, eu, nu, ru⟩ := id rl1
    refine ⟨_, rfl, ta, _, rfl, .inr (haF f1), _, rfl, ?_⟩
    rw [List.length_map]
    refine ⟨by omega, by omega, fun D hD => ?_⟩
    obtain ⟨nD1, nD2⟩ := B1.ne hD
    refine lc_range (lo := 0) (n := ((ar.length : Nat) : Int).toNat) (fun j H' => Same H1 H' ∧ H' D = some (.lst ((fl (fun o => decide (ar.getD o 0 = 0) || decide (0 < R.length)) j).map nv))) ⟨same_new hD, upd_same⟩ (fun j H2 hj z => ?_) (fun H2 z => ?_)
    · obtain ⟨s2, eD⟩ := z
      have hj' : j < ar.length := by omega
      rw [nv0]
      have hix : atI (ar.map nv) (j : Int) = some (nv (ar.getD j 0)) := atI_nat (by rw [List.getElem?_map, List.getElem?_eq_getElem hj', gd hj']; rfl)
      have push : (decide (ar.getD j 0 = 0) || decide (0 < R.length)) = true → Same H1 (upd H2 D (.lst ((fl (fun o => decide (ar.getD o 0 = 0) || decide (0 < R.length)) j).map nv ++ [nv j]))) ∧ (upd H2 D (.lst ((fl (fun o => decide (ar.getD o 0 = 0) || decide (0 < R.length)) j).map nv ++ [nv j]))) D = some (.lst ((fl (fun o => decide (ar.getD o 0 = 0) || decide (0 < R.length)) (j + 1)).map nv)) := fun h => ⟨same_at s2 hD, by rw [upd_same, fl_yes (p := fun o => decide (ar.getD o 0 = 0) || decide (0 < R.length)) h, List.map_append]; rfl⟩
      have hlD : ((fl (fun o => decide (ar.getD o 0 = 0) || decide (0 < R.length)) j).map nv).length < sizeLine := by
        rw [List.length_map]
        have := fl_len (fun o => decide (ar.getD o 0 = 0) || decide (0 < R.length)) j
        exact lt_line (by omega)
      refine ⟨rfl, ?_⟩
      refine ⟨_, rfl, _, rfl, ta, _, _, _, rfl, rfl, (Same_tt s2).t _ _ (haF f1), hix, rfl, _, rfl, ite2 (fun c1 => ?_) (fun c1 => ?_)⟩
      · have h0 : ar.getD j 0 = 0 := by
          have := V.int.inj (of_decide_eq_true c1)
          omega
        refine iteT ⟨_, rfl, _, eD, hlD, push (by rw [decide_eq_true h0, Bool.true_or])⟩
      · have h0 : ¬ ar.getD j 0 = 0 := fun e => by
          have : decide (nv (ar.getD j 0) = V.int 0) = true := decide_eq_true (by rw [e]; rfl)
          exact c1 this
        refine ⟨_, rfl, l, us, rfl, .inl (SqL.of (s2 _ _ eu)), _, _, rfl, rfl, _, rfl, ite2 (fun c2 => ?_) (fun c2 => ?_)⟩
        · have h1 : 0 < R.length := by
            have := of_decide_eq_true c2
            omega
          exact ⟨_, rfl, _, eD, hlD, push (by rw [decide_eq_true h1, Bool.or_true])⟩
        · have h1 : ¬ 0 < R.length := fun q => c2 (decide_eq_true (by omega))
          refine ⟨s2, ?_⟩
          rw [fl_no (p := fun o => decide (ar.getD o 0 = 0) || decide (0 < R.length)) (by simp only [decide_eq_false h0, decide_eq_false h1]; rfl)]
          exact eD
    · obtain ⟨s2, eD⟩ := z
      rw [Int.toNat_natCast] at eD
      have f2 := f1.trans (Fb.of s2)
      have B2 := B1.same s2
      generalize hL : fl (fun o => decide (ar.getD o 0 = 0) || decide (0 < R.length)) ar.length = L at eD
      have hL1 : L.length ≤ 8 := by
        rw [← hL]
        have := fl_len (fun o => decide (ar.getD o 0 = 0) || decide (0 < R.length)) ar.length
        omega
      have hL2 : ∀ o ∈ L, o < ar.length ∧ (ar.getD o 0 = 0 ∨ 0 < R.length) := fun o ho => by
        rw [← hL] at ho
        unfold fl at ho
        rw [List.mem_filter, List.mem_range, Bool.or_eq_true, decide_eq_true_eq, decide_eq_true_eq] at ho
        exact ho
      refine ⟨_, rfl, D, _, rfl, .inl (SqL.of eD), _, _, rfl, rfl, _, rfl, ite2 (fun c1 => ?_) (fun c1 => ?_)⟩
      · have hpos : 0 < L.length := by
          have := of_decide_eq_true c1
          rw [List.length_map] at this
          omega
        refine ⟨_, rfl, _, rfl, _, rfl, _, rfl, D, _, rfl, .inl (SqL.of eD), b, g, L.length, by rw [List.length_map]; rfl, by omega, by omega, B2, fun r1 H3 hr1 B3 f3 => ?_⟩
        have eD3 := f3 _ _ nD1 nD2 eD
        refine ⟨_, _, rfl, rfl, .inl ⟨_, rfl, _, rfl, D, _, rfl, .inl (SqL.of eD3), _, _, rfl, rfl, by rw [List.length_map]; omega, ?_⟩⟩
        dsimp only
        rw [List.length_map]
        obtain ⟨z, ez, hz⟩ := mod_nat ((i : Int) + (r1 : Int)) (m := L.length) (by omega)
        rw [ez]
        obtain ⟨ho1, ho2⟩ := hL2 L[z] (List.getElem_mem hz)
        have hzL : (L.map nv)[z]? = some (nv L[z]) := by rw [List.getElem?_map, List.getElem?_eq_getElem hz]; rfl
        generalize L[z] = o at ho1 ho2 hzL
        refine ⟨D, _, _, _, rfl, rfl, SqL.of eD3, atI_nat hzL, ?_⟩
        have f4 := f2.trans f3
        have hix : atI (ar.map nv) (o : Int) = some (nv (ar.getD o 0)) := atI_nat (by rw [List.getElem?_map, List.getElem?_eq_getElem ho1, gd ho1]; rfl)
        have hn2 : ar.getD o 0 ≤ 2 := by
          rw [gd ho1]
          exact ha3 _ (List.getElem_mem ho1)
        have eu3 := f3 _ _ nl1 nl2 (s2 _ _ eu)
        refine ⟨_, rfl, .inl ⟨rfl, _, SqL.of eu3⟩, ?_⟩
        refine ⟨_, rfl, _, rfl, _, rfl, ta, _, _, _, rfl, rfl, haF f4, hix, _, rfl, by omega, by omega, fun D2 hD2 => ?_⟩
        obtain ⟨nE1, nE2⟩ := B3.ne hD2
        refine lc_range (lo := 0) (n := ((ar.getD o 0 : Nat) : Int).toNat) (fun j H' => Fb b g H3 H' ∧ BagAt H' b g ∧ NL H' D2 R.length j) ⟨Fb.of (same_new hD2), B3.keep nE1 nE2, [], upd_same, rfl, by simp⟩ (fun j H5 hj z => ?_) (fun H5 z => ?_)
        · obtain ⟨f5, B5, qs, eq, lq, hq⟩ := z
          refine ⟨rfl, ?_⟩
          refine ⟨_, rfl, _, rfl, l, us, rfl, .inl (SqL.of (f5 _ _ nl1 nl2 eu3)), b, g, R.length, by rw [nu]; rfl, by omega, by omega, B5, fun x H6 hx B6 f6 => ?_⟩
          refine ⟨_, f6 _ _ nE1 nE2 eq, lt_line (by rw [List.length_map]; omega), fb_at (f5.trans f6) hD2, B6.keep nE1 nE2, qs ++ [x], ?_, ?_, ?_⟩
          · rw [upd_same, List.map_append]
            rfl
          · rw [List.length_append, lq]
            rfl
          · intro q hq'
            rcases List.mem_append.mp hq' with h | h
            · exact hq q h
            · rw [List.mem_singleton.mp h]
              exact hx
        · obtain ⟨f5, B5, qs, eq, lq, hq⟩ := z
          refine ⟨D2, _, rfl, .inl ⟨SqL.of eq, fun t ht => ⟨(by decide : 2 ≤ sizeLine), fun c hc => ?_⟩⟩⟩
          have sA : Same H5 (upd (upd H5 t (.tup (qs.map nv))) c (.tup [nv o, .ref t])) := (same_new ht).trans (same_new hc)
          have f7 : Fb b g H1 (upd (upd H5 t (.tup (qs.map nv))) c (.tup [nv o, .ref t])) := (((Fb.of s2).trans f3).trans f5).trans (Fb.of sA)
          have B7 : BagAt (upd (upd H5 t (.tup (qs.map nv))) c (.tup [nv o, .ref t])) b g := B5.same sA
          have eu7 := f7 _ _ nl1 nl2 eu
          have nct : t ≠ c := ne_of_none upd_same hc
          refine ⟨l, us, _, rfl, rfl, eu7, lt_line (by omega), ?_⟩
          have lq' : qs.length = ar.getD o 0 := by rw [lq]; exact Int.toNat_natCast _
          refine ⟨_, _, _, R ++ [(o, qs)], rfl, fb_at (f1.trans f7) hl, B7.keep nl1 nl2, RL.push eu7 nu (fun j u hj => (ru j u hj).tk (f7.tk B1)) ⟨c, t, rfl, .inl (.inl upd_same), .inl (.inl ?_)⟩, gR.push (by show o ≤ 7; omega) (by show qs.length ≤ 2; omega) hq, fR.push ho1 lq'.symm, by rw [List.length_append, List.length_singleton]; omega⟩
          rw [upd_ne nct, upd_same]
      · exact ⟨_, _, _, R, rfl, f2, B2, rl1.fb B1 (Fb.of s2) nl1 nl2, gR, fR, by omega⟩
  · rintro σ H2 ⟨v4, v5, v6, R, rfl, f2, B2, ⟨us, eu, nu, ru⟩, gR, fR, lR⟩
    refine ⟨_, rfl, l, us, rfl, .inl ⟨SqL.of eu, fun t ht => ?_⟩⟩
    have sA : Same H2 (upd H2 t (.tup us)) := same_new ht
    exact k t R _ (fb_new f2 ht) (B2.same sA) ⟨us, .inl (.inl upd_same), nu, fun j u hj => (ru j u hj).tk (Tk.of sA)⟩ gR fR (by omega)
end
end Lk
namespace Lk
open PySem L2
section
variable {K : PySem.W.Frag}
theorem vadd (c r : Nat) : V.int ((c : Int) + (r : Int)) = nv (c + r) := nv1 c r
theorem vmd (j m : Nat) : V.int ((j : Int) % (m : Int)) = nv (j % m) := by
  show V.int _ = V.int _
  rw [Int.natCast_emod]
theorem vfd (j m : Nat) : V.int (Int.fdiv (j : Int) (m : Int)) = nv (j / m) := by
  show V.int _ = V.int _
  rw [Int.fdiv_eq_ediv_of_nonneg _ (Int.natCast_nonneg m), Int.natCast_ediv]
theorem sl_takeR {H : Hp} {a : Addr} {xs : List V} {n : Nat} {i : Int} {Q : VK} (hi : i = (n : Int)) (h : SqT K H a xs) (q : ∀ p H', Same H H' → SqT K H' p (xs.take n) → Q (.ref p) H') : rSlA K (.ref a) none (some i) H Q := by
  subst hi
  refine ⟨a, xs, rfl, h, fun hw => ?_, fun _ p hp => ?_⟩
  · have h2 : min n xs.length = xs.length := by
      have := hw.2
      rwa [HT.sIx_nat] at this
    have e : xs.take n = xs := List.take_of_length_le (by omega)
    exact q a H (fun _ _ z => z) (by rw [e]; exact h)
  · have e : cutV xs none (some (n : Int)) = xs.take n := by
      unfold cutV
      rw [HT.sIx_none, HT.sIx_nat, List.drop_zero, Nat.sub_zero, ← List.take_take, List.take_length]
    rw [e]
    exact q p _ (same_new hp) (.inl (.inl upd_same))
/-- the rules and moves of a long book -/
def gR (k : Nat) : Rl := ⟨0, [k % 5, k / 5 % 5], k / 25, 1 + k⟩
def gM (k : Nat) : Mv := ⟨k / 4, (k / 4 + 1 + k % 4) % 5, 1000 - k⟩
theorem nodup_range {α : Type} {f : Nat → α} {n : Nat} (h : ∀ i j, i < n → j < n → f i = f j → i = j) : ((List.range n).map f).Nodup := by
  unfold List.Nodup
  rw [List.pairwise_map]
  refine List.Pairwise.imp_of_mem ?_ (List.pairwise_lt_range (n := n))
  intro a b ha hb hab e
  have := h a b (List.mem_range.mp ha) (List.mem_range.mp hb) e
  omega
theorem great_good {ar : List Nat} {nr nm : Nat} (h0 : 2 ≤ ar.length) (h1 : ar.length ≤ 8) (h2 : ar.getD 0 0 = 2) (h3 : ∀ x ∈ ar, x ≤ 2) (hr : nr ≤ 40) (hm : nm ≤ 20) : GoodB ⟨ar, 5, (List.range nr).map gR, (List.range nm).map gM⟩ where
  a1 := by show 1 ≤ ar.length; omega
  a2 := h1
  a3 := h3
  k1 := (by decide : 1 ≤ 5)
  k2 := (by decide : 5 ≤ 5)
  r1 := by rw [List.length_map, List.length_range]; exact hr
  m1 := by rw [List.length_map, List.length_range]; exact hm
  r2 := fun r hr' => by
    obtain ⟨k, hk, rfl⟩ := List.mem_map.mp hr'
    have hk := List.mem_range.mp hk
    refine ⟨by show 0 < ar.length; omega, h2.symm, fun s hs => ?_, by show k / 25 < 5; omega, by show 1 ≤ 1 + k; omega, by show 1 + k ≤ 1000; omega⟩
    show s < 5
    rcases List.mem_cons.mp hs with rfl | hs
    · omega
    · rw [List.mem_singleton.mp hs]
      omega
  m2 := fun r hr' => by
    obtain ⟨k, hk, rfl⟩ := List.mem_map.mp hr'
    have hk := List.mem_range.mp hk
    exact ⟨by show k / 4 < 5; omega, by show (k / 4 + 1 + k % 4) % 5 < 5; omega, by show k / 4 ≠ (k / 4 + 1 + k % 4) % 5; omega, by show 1 ≤ 1000 - k; omega, by show 1000 - k ≤ 1000; omega⟩
  r3 := by
    rw [List.map_map]
    refine nodup_range fun i j hi hj e => ?_
    have e : rkey (gR i) = rkey (gR j) := e
    obtain ⟨_, e2⟩ := Prod.mk.inj e
    obtain ⟨e3, e4⟩ := Prod.mk.inj e2
    have e3 : [i % 5, i / 5 % 5] = [j % 5, j / 5 % 5] := e3
    have e5 := (List.cons.inj e3).1
    have e6 := (List.cons.inj (List.cons.inj e3).2).1
    have e4 : i / 25 = j / 25 := e4
    omega
  m3 := by
    rw [List.map_map]
    refine nodup_range fun i j hi hj e => ?_
    have e : mkey (gM i) = mkey (gM j) := e
    obtain ⟨e1, e2⟩ := Prod.mk.inj e
    have e1 : i / 4 = j / 4 := e1
    have e2 : (i / 4 + 1 + i % 4) % 5 = (j / 4 + 1 + j % 4) % 5 := e2
    omega
theorem take_range_map {α : Type} {f : Nat → α} {n m : Nat} : ((List.range n).map f).take m = (List.range (min m n)).map f := by
  rw [← List.map_take, List.take_range]
end
section
variable {P : Program} {w : World} {K : PySem.W.Frag} {mg : Str → Option Value} {base : Heap} {a : Adr}
def spBook (K : PySem.W.Frag) : Sp := fun vs H Q _ => ∃ (b g : Addr), vs = [.ref b] ∧ BagAt H b g ∧ ∀ q Bk H', Fb b g H H' → BagAt H' b g → PartsV K H' q Bk → GoodB Bk → Q (.ref q) H'
theorem ok_law_book (T : Txt K mg a) : FnOk P w K mg base CX0 4 a.f_law_book a.d_law_book ["_law_bag_here"] (spBook K) := by
  have G_law_pick := ok_law_pick (P := P) (w := w) (base := base) T
  have G_law_arities := ok_law_arities (P := P) (w := w) (base := base) T
  have G_law_rules := ok_law_rules (P := P) (w := w) (base := base) T
  have G_law_moves := ok_law_moves (P := P) (w := w) (base := base) T
  refine T.F_law_book.ok sc_law_book (fun vs H Q E h => ?_) (fun cdv A outer s H vs Q E hr h => ?_)
  · obtain ⟨b, g, rfl, _⟩ := h
    rfl
  obtain ⟨b, g, rfl, B, k⟩ := h
  refine ⟨_, (pss_cons (ps_set (i := 1) sc_law_book.nd rfl (Or.inl rfl) (pe_call G_law_arities (hr.mono (by decide)) rfl T.g_law_arities T.k_law_arities T.b_law_arities .nil pass0 (pa_cons (pv 0) pa_nil)))
  (pss_cons (ps_set (i := 2) sc_law_book.nd rfl (Or.inl rfl) (pe_op op_add pe_int (pe_call G_law_pick (hr.mono (by decide)) rfl T.g_law_pick T.k_law_pick T.b_law_pick .nil pass0 (pa_cons (pv 0) (pa_cons pe_int pa_nil)))))
  (C8.pss_cut (ps_if (pt_cmpR op_eq (pe_call G_law_pick (hr.mono (by decide)) rfl T.g_law_pick T.k_law_pick T.b_law_pick .nil pass0 (pa_cons (pv 0) (pa_cons pe_int pa_nil))) pe_int (nomark _))
    (pss_one (ps_set (i := 2) sc_law_book.nd rfl (Or.inl rfl) pe_int))
    pss_nil)
  (pss_cons (ps_set (i := 3) sc_law_book.nd rfl (Or.inl rfl) (pe_op op_add pe_int (pe_call G_law_pick (hr.mono (by decide)) rfl T.g_law_pick T.k_law_pick T.b_law_pick .nil pass0 (pa_cons (pv 0) (pa_cons pe_int pa_nil)))))
  (C8.pss_cut (ps_if (pt_cmpR op_eq (pe_call G_law_pick (hr.mono (by decide)) rfl T.g_law_pick T.k_law_pick T.b_law_pick .nil pass0 (pa_cons (pv 0) (pa_cons pe_int pa_nil))) pe_int (nomark _))
    (pss_one (ps_set (i := 3) sc_law_book.nd rfl (Or.inl rfl) pe_int))
    pss_nil)
  (pss_cons (ps_set (i := 4) sc_law_book.nd rfl (Or.inl rfl) (pe_call G_law_rules (hr.mono (by decide)) rfl T.g_law_rules T.k_law_rules T.b_law_rules .nil pass0 (pa_cons (pv 0) (pa_cons (pv 1) (pa_cons (pv 2) (pa_cons (pv 3) pa_nil))))))
  (pss_cons (ps_set (i := 3) sc_law_book.nd rfl (Or.inl rfl) (pe_call G_law_pick (hr.mono (by decide)) rfl T.g_law_pick T.k_law_pick T.b_law_pick .nil pass0 (pa_cons (pv 0) (pa_cons pe_int pa_nil))))
  (C8.pss_cut (ps_if (pt_cmpR op_eq (pe_call G_law_pick (hr.mono (by decide)) rfl T.g_law_pick T.k_law_pick T.b_law_pick .nil pass0 (pa_cons (pv 0) (pa_cons pe_int pa_nil))) pe_int (nomark _))
    (pss_one (ps_set (i := 3) sc_law_book.nd rfl (Or.inl rfl) pe_int))
    pss_nil)
  (pss_one (ps_ret (pe_tup (pa_cons (pv 1) (pa_cons (pv 2) (pa_cons (pv 4) (pa_cons (pe_call G_law_moves (hr.mono (by decide)) rfl T.g_law_moves T.k_law_moves T.b_law_moves .nil pass0 (pa_cons (pv 0) (pa_cons (pv 2) (pa_cons (pv 3) pa_nil)))) pa_nil))))))))))))))), ?_⟩
  refine ⟨_, rfl, b, g, rfl, B, fun ta ar H0 f0 B0 hT0 ha1 ha2 ha3 => ?_⟩
  refine ⟨_, rfl, b, g, 3, rfl, by decide, by decide, B0, fun r1 H1 hr1 B1 f1 => ⟨_, _, rfl, rfl, ?_⟩⟩
  dsimp only
  rw [show V.int ((1 : Int) + (r1 : Int)) = nv (1 + r1) from nv1 1 r1]
  refine ⟨fun σ H' => ∃ nk : Nat, σ = [some (.ref b), some (.ref ta), some (nv nk), none, none] ∧ 1 ≤ nk ∧ nk ≤ 5 ∧ BagAt H' b g ∧ Fb b g H0 H', ?_, ?_⟩
  · refine ⟨_, rfl, b, g, 8, rfl, by decide, by decide, B1, fun r2 H2 hr2 B2 f2 => ⟨rfl, _, rfl, ite2 (fun _ => ?_) (fun _ => ?_)⟩⟩
    · exact ⟨5, rfl, by omega, by omega, B2, f1.trans f2⟩
    · exact ⟨1 + r1, rfl, by omega, by omega, B2, f1.trans f2⟩
  rintro σ H2 ⟨nk, rfl, hk1, hk2, B2, f2⟩
  refine ⟨_, rfl, b, g, 10, rfl, by decide, by decide, B2, fun r3 H3 hr3 B3 f3 => ⟨_, _, rfl, rfl, ?_⟩⟩
  dsimp only
  rw [show V.int ((3 : Int) + (r3 : Int)) = nv (3 + r3) from nv1 3 r3]
  refine ⟨fun σ H' => ∃ wa : Nat, σ = [some (.ref b), some (.ref ta), some (nv nk), some (nv wa), none] ∧ wa ≤ 100 ∧ BagAt H' b g ∧ Fb b g H0 H', ?_, ?_⟩
  · refine ⟨_, rfl, b, g, 8, rfl, by decide, by decide, B3, fun r2 H4 hr2 B4 f4 => ⟨rfl, _, rfl, ite2 (fun _ => ?_) (fun _ => ?_)⟩⟩
    · exact ⟨70, rfl, by omega, B4, (f2.trans f3).trans f4⟩
    · exact ⟨3 + r3, rfl, by omega, B4, (f2.trans f3).trans f4⟩
  rintro σ H4 ⟨wa, rfl, hwa, B4, f4⟩
  have hT4 := (f4.tt B0).t _ _ hT0
  refine ⟨_, rfl, _, rfl, _, rfl, _, rfl, b, g, ta, ar, nk, wa, rfl, hT4, ha1, ha2, ha3, hk1, hk2, hwa, B4, fun qr rs H5 f5 B5 hR5 lr okr ndr => ?_⟩
  refine ⟨_, rfl, b, g, 4, rfl, by decide, by decide, B5, fun r4 H6 hr4 B6 f6 => ?_⟩
  refine ⟨fun σ H' => ∃ wa : Nat, σ = [some (.ref b), some (.ref ta), some (nv nk), some (nv wa), some (.ref qr)] ∧ wa ≤ 100 ∧ BagAt H' b g ∧ Fb b g H5 H', ?_, ?_⟩
  · refine ⟨_, rfl, b, g, 8, rfl, by decide, by decide, B6, fun r2 H7 hr2 B7 f7 => ⟨rfl, _, rfl, ite2 (fun _ => ?_) (fun _ => ?_)⟩⟩
    · exact ⟨40, rfl, by omega, B7, f6.trans f7⟩
    · exact ⟨r4, rfl, by omega, B7, f6.trans f7⟩
  rintro σ H7 ⟨wm, rfl, hwm, B7, f7⟩
  refine ⟨_, rfl, _, rfl, _, rfl, _, rfl, _, rfl, _, rfl, b, g, nk, wm, rfl, hk1, hk2, hwm, B7, fun qm ms H8 f8 B8 hM8 lm okm ndm => ⟨(by decide : 4 ≤ sizeLine), fun q hq => ?_⟩⟩
  have t5 : TT K H5 H8 := (f7.tt B5).trans (f8.tt B7)
  have fa := ((f0.trans f4).trans f5).trans (f7.trans f8)
  have tq := tt_new (K := K) (o := .tup [.ref ta, nv nk, .ref qr, .ref qm]) hq
  exact k q ⟨ar, nk, rs, ms⟩ _ (fb_new fa hq) (B8.new hq) ⟨ta, qr, qm, .inl (.inl upd_same), tq.t _ _ (t5.t _ _ ((f5.tt B4).t _ _ hT4)), hR5.tt (t5.trans tq), hM8.tt tq⟩ ⟨ha1, ha2, ha3, hk1, hk2, lr, lm, okr, okm, ndr, ndm⟩
end
end Lk
namespace Lk
open PySem L2
section
variable {K : PySem.W.Frag}
theorem rep_nv (n : Nat) : (List.replicate ((6 : Int) + (n : Int)).toNat [V.int 0]).flatten = (List.replicate (6 + n) 0).map nv := by
  have e : ((6 : Int) + (n : Int)).toNat = 6 + n := by omega
  rw [e, List.map_replicate, List.flatten_replicate_singleton]
  rfl
theorem gR_val {H : Hp} {c q : Addr} {j : Nat} (h : SqT K H c [.int 0, .ref q, .int (Int.fdiv (j : Int) 25), .int (1 + (j : Int))]) (hq : SqT K H q [.int ((j : Int) % 5), .int (Int.fdiv (j : Int) 5 % 5)]) : RuleV K H (.ref c) (gR j) := by
  refine ⟨c, q, rfl, ?_, ?_⟩
  · have e1 : V.int (Int.fdiv (j : Int) 25) = nv (j / 25) := vfd j 25
    have e2 : V.int (1 + (j : Int)) = nv (1 + j) := nv1 1 j
    rw [e1, e2] at h
    exact h
  · have e1 : V.int ((j : Int) % 5) = nv (j % 5) := vmd j 5
    have e3 : Int.fdiv (j : Int) 5 = ((j / 5 : Nat) : Int) := V.int.inj (vfd j 5)
    rw [e3] at hq
    have e2 : V.int (((j / 5 : Nat) : Int) % 5) = nv (j / 5 % 5) := vmd (j / 5) 5
    rw [e1, e2] at hq
    exact hq
theorem gM_val {H : Hp} {c : Addr} {j : Nat} (hj : j ≤ 1000) (h : SqT K H c [.int (Int.fdiv (j : Int) 4), .int ((Int.fdiv (j : Int) 4 + 1 + (j : Int) % 4) % 5), .int (1000 - (j : Int))]) : MoveV K H (.ref c) (gM j) := by
  refine ⟨c, rfl, ?_⟩
  have e0 : Int.fdiv (j : Int) 4 = ((j / 4 : Nat) : Int) := V.int.inj (vfd j 4)
  have e1 : (Int.fdiv (j : Int) 4 + 1 + (j : Int) % 4) % 5 = (((j / 4 + 1 + j % 4) % 5 : Nat) : Int) := by
    rw [e0]
    omega
  have e2 : (1000 : Int) - (j : Int) = ((1000 - j : Nat) : Int) := by omega
  rw [e1, e0, e2] at h
  exact h
/-- the parts of a long book as drawn -/
def GreatV (K : PySem.W.Frag) (H : Hp) (p : Addr) (ar : List Nat) (nr nm : Nat) : Prop := ∃ pa pr pm, SqT K H p [.ref pa, nv 5, .ref pr, .ref pm] ∧ IT K H pa ar ∧ RulesT K H pr ((List.range nr).map gR) ∧ MovesT K H pm ((List.range nm).map gM)
structure ArOk (ar : List Nat) : Prop where
  h0 : 2 ≤ ar.length
  h1 : ar.length ≤ 10
  h2 : ar.getD 0 0 = 2
  h3 : ∀ x ∈ ar, x ≤ 2
end
section
variable {P : Program} {w : World} {K : PySem.W.Frag} {mg : Str → Option Value} {base : Heap} {a : Adr}
def spGreat (K : PySem.W.Frag) : Sp := fun vs H Q _ => ∃ (b g : Addr), vs = [.ref b] ∧ BagAt H b g ∧ ∀ q ar nr nm H', Fb b g H H' → BagAt H' b g → GreatV K H' q ar nr nm → ArOk ar → Q (.ref q) H'
theorem ok_law_great_book (T : Txt K mg a) : FnOk P w K mg base CX0 2 a.f_law_great_book a.d_law_great_book ["_law_bag_here"] (spGreat K) := by
  have G_law_pick := ok_law_pick (P := P) (w := w) (base := base) T
  refine T.F_law_great_book.ok sc_law_great_book (fun vs H Q E h => ?_) (fun cdv A outer s H vs Q E hr h => ?_)
  · obtain ⟨b, g, rfl, _⟩ := h
    rfl
  obtain ⟨b, g, rfl, B, k⟩ := h
  refine ⟨_, (pss_cons (ps_set (i := 1) sc_law_great_book.nd rfl (Or.inl rfl) (pe_call G_law_pick (hr.mono (by decide)) rfl T.g_law_pick T.k_law_pick T.b_law_pick .nil pass0 (pa_cons (pv 0) (pa_cons pe_int pa_nil))))
  (pss_cons (ps_set (i := 2) sc_law_great_book.nd rfl (Or.inl rfl) (pe_call G_law_pick (hr.mono (by decide)) rfl T.g_law_pick T.k_law_pick T.b_law_pick .nil pass0 (pa_cons (pv 0) (pa_cons pe_int pa_nil))))
  (pss_cons (ps_par3 (i := 3) (j := 4) (l := 5) (by rfl) sc_law_great_book.nd rfl rfl rfl (by decide) (by decide) (by decide) rfl rfl rfl (pa_cons (pe_tup (pa_cons pe_int (pa_cons pe_int pa_nil))) (pa_cons (pe_op op_add pe_int (pv 1)) (pa_cons (pe_op op_add pe_int (pv 1)) pa_nil))) (by rfl))
  (C8.pss_cut (ps_if (pt_cmpR op_eq (pv 2) pe_int (nomark _))
    (pss_one (ps_set (i := 4) sc_law_great_book.nd rfl (Or.inl rfl) pe_int))
    pss_nil)
  (C8.pss_cut (ps_if (pt_cmpR op_eq (pv 2) pe_int (nomark _))
    (pss_one (ps_set (i := 5) sc_law_great_book.nd rfl (Or.inl rfl) pe_int))
    pss_nil)
  (C8.pss_cut (ps_if (pt_cmpR op_eq (pv 2) pe_int (nomark _))
    (pss_one (ps_par3 (i := 3) (j := 4) (l := 5) (by rfl) sc_law_great_book.nd rfl rfl rfl (by decide) (by decide) (by decide) rfl rfl rfl (pa_cons (pe_op op_catT (pe_tup (pa_cons pe_int pa_nil)) (pe_op op_repT (pe_tup (pa_cons pe_int pa_nil)) (pe_op op_add pe_int (pv 1)))) (pa_cons pe_int (pa_cons pe_int pa_nil))) (by rfl)))
    pss_nil)
  (pss_cons (ps_set (i := 4) sc_law_great_book.nd rfl (Or.inl rfl) (pe_callTy call_tuple_of (by rfl) T.z_tuple (by decide +kernel) (pa_cons (pe_lc (own := [("_law_k", 6)]) (g := gName 6) (tt := tYes) rfl sc_law_great_book.nd (pi_range1 rfl T.z_range (pa_cons (pv 4) pa_nil)) (blkOk_by (N := ["_law_bag_here", "_law_many", "_law_how", "_law_arities_here", "_law_rules_here", "_law_moves_here", "_law_k"]) (sc := defScope s_law_great_book) (by decide +kernel)) (fun _ _ _ _ _ => pg_name (i := 6) sc_law_great_book.nd rfl (Or.inl rfl)) (fun _ _ _ _ _ => pts_nil) (fun _ _ _ _ _ => (pe_tup (pa_cons pe_int (pa_cons (pe_tup (pa_cons (pe_op op_mod (pv 6) pe_int) (pa_cons (pe_op op_mod (pe_op op_fdivN (pv 6) pe_int) pe_int) pa_nil))) (pa_cons (pe_op op_fdivN (pv 6) pe_int) (pa_cons (pe_op op_add pe_int (pv 6)) pa_nil))))))) pa_nil)))
  (pss_cons (ps_set (i := 5) sc_law_great_book.nd rfl (Or.inl rfl) (pe_callTy call_tuple_of (by rfl) T.z_tuple (by decide +kernel) (pa_cons (pe_lc (own := [("_law_k", 6)]) (g := gName 6) (tt := tYes) rfl sc_law_great_book.nd (pi_range1 rfl T.z_range (pa_cons (pv 5) pa_nil)) (blkOk_by (N := ["_law_bag_here", "_law_many", "_law_how", "_law_arities_here", "_law_rules_here", "_law_moves_here", "_law_k"]) (sc := defScope s_law_great_book) (by decide +kernel)) (fun _ _ _ _ _ => pg_name (i := 6) sc_law_great_book.nd rfl (Or.inl rfl)) (fun _ _ _ _ _ => pts_nil) (fun _ _ _ _ _ => (pe_tup (pa_cons (pe_op op_fdivN (pv 6) pe_int) (pa_cons (pe_op op_mod (pe_callTy call_int1 (by rfl) T.z_int (by decide +kernel) (pa_cons (pe_op op_add (pe_op op_add (pe_op op_fdivN (pv 6) pe_int) pe_int) (pe_op op_mod (pv 6) pe_int)) pa_nil)) pe_int) (pa_cons (pe_op op_sub pe_int (pv 6)) pa_nil)))))) pa_nil)))
  (pss_one (ps_ret (pe_tup (pa_cons (pv 3) (pa_cons pe_int (pa_cons (pv 4) (pa_cons (pv 5) pa_nil))))))))))))))), ?_⟩
  refine ⟨_, rfl, b, g, 4, rfl, by decide, by decide, B, fun many H0 hm B0 f0 => ?_⟩
  refine ⟨_, rfl, b, g, 3, rfl, by decide, by decide, B0, fun how H1 hh B1 f1 => ?_⟩
  refine ⟨(by decide : 2 ≤ sizeLine), fun t0 ht0 => ?_⟩
  refine ⟨_, rfl, _, _, rfl, rfl, _, rfl, _, _, rfl, rfl, _, _, _, rfl, ?_⟩
  have s2 := same_new (o := .tup [.int 2, .int 0]) ht0
  have hT0 : SqT K (upd H1 t0 (.tup [.int 2, .int 0])) t0 [.int 2, .int 0] := .inl (.inl upd_same)
  dsimp only
  rw [show V.int ((38 : Int) + (many : Int)) = nv (38 + many) from nv1 38 many, show V.int ((18 : Int) + (many : Int)) = nv (18 + many) from nv1 18 many]
  generalize hH2 : upd H1 t0 (.tup [.int 2, .int 0]) = H2 at s2 hT0 ⊢
  have f2 := (f0.trans f1).trans (Fb.of s2)
  have B2 := B1.same s2
  refine ⟨fun σ H' => H' = H2 ∧ ∃ nr : Nat, σ = [some (.ref b), some (nv many), some (nv how), some (.ref t0), some (nv nr), some (nv (18 + many)), none] ∧ nr ≤ 41, ?_, ?_⟩
  · refine ⟨_, rfl, rfl, _, rfl, ite2 (fun _ => ?_) (fun _ => ?_)⟩
    · exact ⟨rfl, 5, rfl, by omega⟩
    · exact ⟨rfl, _, rfl, by omega⟩
  rintro σ H9 ⟨e9, nr, rfl, hnr⟩
  subst H9
  refine ⟨fun σ H' => H' = H2 ∧ ∃ nm : Nat, σ = [some (.ref b), some (nv many), some (nv how), some (.ref t0), some (nv nr), some (nv nm), none] ∧ nm ≤ 21, ?_, ?_⟩
  · refine ⟨_, rfl, rfl, _, rfl, ite2 (fun _ => ?_) (fun _ => ?_)⟩
    · exact ⟨rfl, 3, rfl, by omega⟩
    · exact ⟨rfl, _, rfl, by omega⟩
  rintro σ H9 ⟨e9, nm, rfl, hnm⟩
  subst H9
  refine ⟨fun σ H' => ∃ ta ar nr nm, σ = [some (.ref b), some (nv many), some (nv how), some (.ref ta), some (nv nr), some (nv nm), none] ∧ Same H2 H' ∧ IT K H' ta ar ∧ ArOk ar ∧ nr ≤ 41 ∧ nm ≤ 21, ?_, ?_⟩
  · refine ⟨_, rfl, rfl, _, rfl, ite2 (fun _ => ?_) (fun _ => ?_)⟩
    · refine ⟨(by decide : 1 ≤ sizeLine), fun t1 ht1 => ⟨(by decide : 1 ≤ sizeLine), fun t2 ht2 => ⟨_, rfl, _, _, rfl, rfl, t2, _, _, rfl, rfl, .inl (.inl upd_same), (by simp), by omega, by omega, (by decide : 1 ≤ 1000), fun t3 ht3 => ?_⟩⟩⟩
      have s3 := ((same_new (o := .tup [.int 2]) ht1).trans (same_new (o := .tup [.int 0]) ht2)).trans (same_new (o := .tup (List.replicate ((6 : Int) + (many : Int)).toNat [V.int 0]).flatten) ht3)
      refine ⟨t1, t3, _, _, rfl, rfl, (tt_new ht3).t _ _ ((tt_new ht2).t _ _ (.inl (.inl upd_same))), .inl (.inl upd_same), (by simp), ?_, fun e => ?_, fun _ t4 ht4 => ?_⟩
      · try dsimp only
        rw [rep_nv, List.length_map, List.length_replicate]
        exact Nat.le_of_lt (lt_line (by show 1 + (6 + many) ≤ 100000; omega))
      · try dsimp only at e
        rw [rep_nv] at e
        have := congrArg List.length e
        rw [List.length_map, List.length_replicate] at this
        simp at this
      · refine ⟨_, _, _, rfl, ?_⟩
        refine ⟨t4, 2 :: List.replicate (6 + many) 0, 7, 0, rfl, s3.trans (same_new ht4), ?_, ⟨?_, ?_, rfl, ?_⟩, by omega, by omega⟩
        · have e9 : (2 :: List.replicate (6 + many) 0).map nv = [V.int 2] ++ (List.replicate ((6 : Int) + (many : Int)).toNat [V.int 0]).flatten := by
            rw [rep_nv]
            rfl
          show SqT K _ t4 ((2 :: List.replicate (6 + many) 0).map nv)
          rw [e9]
          exact .inl (.inl upd_same)
        · rw [List.length_cons, List.length_replicate]; omega
        · rw [List.length_cons, List.length_replicate]; omega
        · intro x hx
          rcases List.mem_cons.mp hx with rfl | hx
          · omega
          · rw [(List.mem_replicate.mp hx).2]; omega
    · exact ⟨t0, [2, 0], nr, nm, rfl, fun _ _ z => z, hT0, ⟨by decide, by decide, rfl, by decide⟩, hnr, hnm⟩
  rintro σ H3 ⟨ta, ar, nr, nm, rfl, s3, hT3, hA, hnr, hnm⟩
  have f3 := f2.trans (Fb.of s3)
  have B3 := B2.same s3
  refine ⟨_, rfl, _, rfl, by omega, by omega, fun D hD => ?_⟩
  refine lc_range (lo := 0) (n := ((nr : Nat) : Int).toNat) (fun j H' => Same H3 H' ∧ ∃ us, H' D = some (.lst us) ∧ PL (RuleV K H') us ((List.range j).map gR)) ⟨same_new hD, [], upd_same, PL.nil⟩ (fun j H4 hj z => ?_) (fun H4 z => ?_)
  · obtain ⟨s4, us, eD, hpl⟩ := z
    rw [nv0]
    refine ⟨rfl, ?_⟩
    refine ⟨_, rfl, _, _, rfl, rfl, (by decide : (0 : Int) < 5), _, rfl, _, _, rfl, rfl, ⟨by decide, by decide⟩, _, _, rfl, rfl, (by decide : (0 : Int) < 5), (by decide : 2 ≤ sizeLine), fun q hq => ?_⟩
    refine ⟨_, rfl, _, _, rfl, rfl, ⟨by decide, by decide⟩, _, rfl, _, _, rfl, rfl, (by decide : 4 ≤ sizeLine), fun c hc => ?_⟩
    have eD1 := (same_new (o := .tup [.int ((j : Int) % 5), .int (Int.fdiv (j : Int) 5 % 5)]) hq) _ _ eD
    have eD2 := (same_new (o := .tup [.int 0, .ref q, .int (Int.fdiv (j : Int) 25), .int (1 + (j : Int))]) hc) _ _ eD1
    refine ⟨us, eD2, lt_line (by rw [hpl.1, List.length_map, List.length_range]; omega), same_at ((s4.trans (same_new hq)).trans (same_new hc)) hD, _, upd_same, ?_⟩
    rw [List.range_succ, List.map_append]
    have t2 := (tt_new (K := K) (o := .tup [.int ((j : Int) % 5), .int (Int.fdiv (j : Int) 5 % 5)]) hq).trans ((tt_new (o := .tup [.int 0, .ref q, .int (Int.fdiv (j : Int) 25), .int (1 + (j : Int))]) hc).trans (tt_lst (o := .lst (us ++ [.ref c])) eD2))
    refine (hpl.mono fun _ _ z => z.tt t2).snoc (gR_val (q := q) ?_ ?_)
    · exact (tt_lst eD2).t _ _ (.inl (.inl upd_same))
    · exact (tt_lst eD2).t _ _ ((tt_new hc).t _ _ (.inl (.inl upd_same)))
  obtain ⟨s4, us, eD, hpl⟩ := z
  rw [Int.toNat_natCast] at hpl
  refine ⟨D, us, rfl, .inl ⟨SqL.of eD, fun pr hpr => ?_⟩⟩
  have s5 := s4.trans (same_new (o := .tup us) hpr)
  have hR5 : RulesT K (upd H4 pr (.tup us)) pr ((List.range nr).map gR) := ⟨us, .inl (.inl upd_same), hpl.mono fun _ _ z => z.tt (tt_new hpr)⟩
  generalize upd H4 pr (.tup us) = H5 at s5 hR5
  refine ⟨_, rfl, _, rfl, by omega, by omega, fun D2 hD2 => ?_⟩
  refine lc_range (lo := 0) (n := ((nm : Nat) : Int).toNat) (fun j H' => Same H5 H' ∧ ∃ us, H' D2 = some (.lst us) ∧ PL (MoveV K H') us ((List.range j).map gM)) ⟨same_new hD2, [], upd_same, PL.nil⟩ (fun j H6 hj z => ?_) (fun H6 z => ?_)
  · obtain ⟨s6, us, eD, hpl⟩ := z
    rw [nv0]
    refine ⟨rfl, ?_⟩
    refine ⟨_, rfl, _, _, rfl, rfl, ⟨by decide, by decide⟩, ?_⟩
    refine ⟨_, rfl, _, _, rfl, rfl, ⟨by decide, by decide⟩, _, _, rfl, rfl, _, rfl, _, _, rfl, rfl, (by decide : (0 : Int) < 4), _, _, rfl, rfl, .inl ⟨_, rfl, _, _, rfl, rfl, (by decide : (0 : Int) < 5), ?_⟩⟩
    refine ⟨_, rfl, _, _, rfl, rfl, (by decide : 3 ≤ sizeLine), fun c hc => ?_⟩
    have eD2 := (same_new (o := .tup [.int (Int.fdiv (j : Int) 4), .int ((Int.fdiv (j : Int) 4 + 1 + (j : Int) % 4) % 5), .int (1000 - (j : Int))]) hc) _ _ eD
    refine ⟨us, eD2, lt_line (by rw [hpl.1, List.length_map, List.length_range]; omega), same_at (s6.trans (same_new hc)) hD2, _, upd_same, ?_⟩
    rw [List.range_succ, List.map_append]
    have t2 := (tt_new (K := K) (o := .tup [.int (Int.fdiv (j : Int) 4), .int ((Int.fdiv (j : Int) 4 + 1 + (j : Int) % 4) % 5), .int (1000 - (j : Int))]) hc).trans (tt_lst (o := .lst (us ++ [.ref c])) eD2)
    refine (hpl.mono fun _ _ z => z.tt t2).snoc (gM_val (by omega) ?_)
    exact (tt_lst eD2).t _ _ (.inl (.inl upd_same))
  obtain ⟨s6, us2, eD2, hpl2⟩ := z
  rw [Int.toNat_natCast] at hpl2
  refine ⟨D2, us2, rfl, .inl ⟨SqL.of eD2, fun pm hpm => ?_⟩⟩
  have s7 := s6.trans (same_new (o := .tup us2) hpm)
  have hM7 : MovesT K (upd H6 pm (.tup us2)) pm ((List.range nm).map gM) := ⟨us2, .inl (.inl upd_same), hpl2.mono fun _ _ z => z.tt (tt_new hpm)⟩
  generalize upd H6 pm (.tup us2) = H7 at s7 hM7
  refine ⟨_, rfl, _, rfl, _, rfl, (by decide : 4 ≤ sizeLine), fun q hq => ?_⟩
  have sA := s5.trans (s7.trans (same_new (o := .tup [.ref ta, nv 5, .ref pr, .ref pm]) hq))
  exact k q ar nr nm _ (f3.trans (Fb.of sA)) (B3.same sA) ⟨ta, pr, pm, .inl (.inl upd_same), (Same_tt sA).t _ _ hT3, hR5.tt (Same_tt (s7.trans (same_new hq))), hM7.tt (tt_new hq)⟩ hA
end
end Lk
namespace Lk
open PySem L2
section
variable {P : Program} {w : World} {K : PySem.W.Frag} {mg : Str → Option Value} {base : Heap} {a : Adr}
theorem ok_law_sound_book (T : Txt K mg a) : FnOk P w K mg base CX0 5 a.f_law_sound_book a.d_law_sound_book ["_law_bag_here"] (spBook K) := by
  have G_law_pick := ok_law_pick (P := P) (w := w) (base := base) T
  have G_law_great_book := ok_law_great_book (P := P) (w := w) (base := base) T
  have G_law_book := ok_law_book (P := P) (w := w) (base := base) T
  refine T.F_law_sound_book.ok sc_law_sound_book (fun vs H Q E h => ?_) (fun cdv A outer s H vs Q E hr h => ?_)
  · obtain ⟨b, g, rfl, _⟩ := h
    rfl
  obtain ⟨b, g, rfl, B, k⟩ := h
  refine ⟨_, (pss_cons (ps_if (pt_cmpR op_eq (pe_call G_law_pick (hr.mono (by decide)) rfl T.g_law_pick T.k_law_pick T.b_law_pick .nil pass0 (pa_cons (pv 0) (pa_cons pe_int pa_nil))) pe_int (nomark _))
    (pss_cons (ps_asg (pe_call G_law_great_book (hr.mono (by decide)) rfl T.g_law_great_book T.k_law_great_book T.b_law_great_book .nil pass0 (pa_cons (pv 0) pa_nil)) (pg_tup (by rfl) (pgs_cons (pg_name (i := 1) sc_law_sound_book.nd rfl (Or.inl rfl)) (pgs_cons (pg_name (i := 2) sc_law_sound_book.nd rfl (Or.inl rfl)) (pgs_cons (pg_name (i := 3) sc_law_sound_book.nd rfl (Or.inl rfl)) (pgs_cons (pg_name (i := 4) sc_law_sound_book.nd rfl (Or.inl rfl)) pgs_nil))))))
  (pss_one (ps_ret (pe_tup (pa_cons (pe_slice sl_tupA (pv 1) po_none (po_some pe_int)) (pa_cons (pv 2) (pa_cons (pe_slice sl_tupA (pv 3) po_none (po_some pe_int)) (pa_cons (pe_slice sl_tupA (pv 4) po_none (po_some pe_int)) pa_nil))))))))
    pss_nil)
  (pss_one (ps_ret (pe_call G_law_book (hr.mono (by decide)) rfl T.g_law_book T.k_law_book T.b_law_book .nil pass0 (pa_cons (pv 0) pa_nil))))), ?_⟩
  refine ⟨_, rfl, b, g, 12, rfl, by decide, by decide, B, fun r0 H0 hr0 B0 f0 => ⟨rfl, _, rfl, ite2 (fun _ => ?_) (fun _ => ?_)⟩⟩
  · refine ⟨_, rfl, b, g, rfl, B0, fun q ar nr nm H1 f1 B1 hG hA => ?_⟩
    obtain ⟨pa, pr, pm, hq, ha, ⟨vr, hr1, hr2⟩, ⟨vm, hm1, hm2⟩⟩ := hG
    refine ⟨q, _, rfl, hq, rfl, _, _, rfl, _, _, rfl, _, _, rfl, _, _, rfl, rfl, ?_⟩
    refine ⟨_, rfl, _, rfl, sl_takeR (n := 8) rfl ha fun p1 H2 s2 h2 => ?_⟩
    refine ⟨_, rfl, _, rfl, _, rfl, sl_takeR (n := 40) rfl ((Same_tt s2).t _ _ hr1) fun p2 H3 s3 h3 => ?_⟩
    refine ⟨_, rfl, _, rfl, sl_takeR (n := 20) rfl ((Same_tt (s2.trans s3)).t _ _ hm1) fun p3 H4 s4 h4 => ⟨(by decide : 4 ≤ sizeLine), fun p hp => ?_⟩⟩
    have sA := ((s2.trans s3).trans s4).trans (same_new (o := .tup [.ref p1, nv 5, .ref p2, .ref p3]) hp)
    have tp := tt_new (K := K) (o := .tup [.ref p1, nv 5, .ref p2, .ref p3]) hp
    obtain ⟨a0, a1, a2, a3⟩ := hA
    refine k p ⟨ar.take 8, 5, (List.range (min 40 nr)).map gR, (List.range (min 20 nm)).map gM⟩ _ ((f0.trans f1).trans (Fb.of sA)) (B1.same sA) ⟨p1, p2, p3, .inl (.inl upd_same), ?_, ⟨vr.take 40, ?_, ?_⟩, ⟨vm.take 20, ?_, ?_⟩⟩ (great_good ?_ ?_ ?_ ?_ (by omega) (by omega))
    · show SqT K _ p1 ((ar.take 8).map nv)
      rw [List.map_take]
      exact tp.t _ _ ((Same_tt s4).t _ _ ((Same_tt s3).t _ _ h2))
    · exact tp.t _ _ ((Same_tt s4).t _ _ h3)
    · rw [← take_range_map (f := gR)]
      exact (hr2.mono fun _ _ z => z.tt (Same_tt sA)).take 40
    · exact tp.t _ _ h4
    · rw [← take_range_map (f := gM)]
      exact (hm2.mono fun _ _ z => z.tt (Same_tt sA)).take 20
    · rw [List.length_take]; omega
    · rw [List.length_take]; omega
    · rw [List.getD_eq_getElem?_getD, List.getElem?_take_of_lt (by omega), ← List.getD_eq_getElem?_getD]
      exact a2
    · exact fun x hx => a3 x (List.mem_of_mem_take hx)
  · exact ⟨_, rfl, b, g, rfl, B0, fun q Bk H1 f1 B1 hP hG => k q Bk H1 (f0.trans f1) B1 hP hG⟩
def spAreTold (K : PySem.W.Frag) (a : Adr) : Sp := fun vs H Q _ => ∃ (x y p v : Addr) (B : Bk) (R : List Row), vs = [.ref x, .ref y, .ref p, .ref v] ∧ BW K a H x y B R ∧ PR K H p v B R ∧ ∀ H', Same H H' → Q (.bl true) H'
theorem ok_law_are_told (T : Txt K mg a) : FnOk P w K mg base CX0 6 a.f_law_are_told a.d_law_are_told ["_law_book_here", "_law_web", "_law_parts", "_law_values_here"] (spAreTold K a) := by
  have G_law_ways := ok_law_ways (P := P) (w := w) (base := base) T
  have G_ways := ok_ways (P := P) (w := w) (base := base) T
  have G_needs := ok_needs (P := P) (w := w) (base := base) T
  have G_law_needs := ok_law_needs (P := P) (w := w) (base := base) T
  have G_law_same := ok_law_same (P := P) (w := w) (base := base) T 4
  refine T.F_law_are_told.ok sc_law_are_told (fun vs H Q E h => ?_) (fun cdv A outer s H vs Q E hr h => ?_)
  · obtain ⟨x, y, p, v, B, R, rfl, _⟩ := h
    rfl
  obtain ⟨x, y, p, v, B, R, rfl, W, V, k⟩ := h
  obtain ⟨pa, pr, pm, hx, hx2, _⟩ := id V.b
  obtain ⟨ws, hw, hwl, hrow⟩ := id V.r
  refine ⟨_, (pss_cons (ps_for PassesOwn.never rfl (pi_range1 rfl T.z_range (pa_cons (pe_callB call_len_seq (by rfl) T.z_len PySem.boot_len (pa_cons (pv 3) pa_nil)) pa_nil)) (pg_name (i := 4) sc_law_are_told.nd rfl (Or.inl rfl))
    (pss_one (ps_for PassesOwn.never rfl (pi_range1 rfl T.z_range (pa_cons (pe_ix ix_tup (pv 2) pe_int (fun _ _ => rfl)) pa_nil)) (pg_name (i := 5) sc_law_are_told.nd rfl (Or.inl rfl))
    (pss_cons (ps_set (i := 6) sc_law_are_told.nd rfl (Or.inl rfl) (pe_call G_law_ways (hr.mono (by decide)) rfl T.g_law_ways T.k_law_ways T.b_law_ways .nil pass0 (pa_cons (pv 2) (pa_cons (pv 3) (pa_cons (pe_tup (pa_cons (pv 4) (pa_cons (pv 5) pa_nil))) pa_nil)))))
  (pss_cons (ps_set (i := 7) sc_law_are_told.nd rfl (Or.inl rfl) (pe_call G_ways (hr.mono (by decide)) rfl T.g_ways T.k_ways T.b_ways .nil pass0 (pa_cons (pv 0) (pa_cons (pv 1) (pa_cons (pe_tup (pa_cons (pv 4) (pa_cons (pv 5) pa_nil))) pa_nil)))))
  (pss_cons (ps_if (pt_not (pt_val (pe_call G_law_same (hr.mono (by decide)) rfl T.g_law_same T.k_law_same T.b_law_same .nil pass0 (pa_cons (pv 7) (pa_cons (pv 6) pa_nil)))))
    (pss_one (ps_ret pe_bl))
    pss_nil)
  (pss_cons (ps_expr (pe_bm PySem.F.plainAttrs_list PySem.F.slot_list_append PySem.F.type_list_append mt_append (pv 7) (pa_cons (pe_tup (pa_cons pe_str (pa_cons pe_int pa_nil))) pa_nil)))
  (pss_cons (ps_if (pt_not (pt_val (pe_call G_law_same (hr.mono (by decide)) rfl T.g_law_same T.k_law_same T.b_law_same .nil pass0 (pa_cons (pe_call G_ways (hr.mono (by decide)) rfl T.g_ways T.k_ways T.b_ways .nil pass0 (pa_cons (pv 0) (pa_cons (pv 1) (pa_cons (pe_tup (pa_cons (pv 4) (pa_cons (pv 5) pa_nil))) pa_nil)))) (pa_cons (pv 6) pa_nil)))))
    (pss_one (ps_ret pe_bl))
    pss_nil)
  (pss_one (ps_for PassesOwn.never rfl (pi_list (pv 6)) (pg_name (i := 8) sc_law_are_told.nd rfl (Or.inl rfl))
    (pss_one (ps_if (pt_not (pt_val (pe_call G_law_same (hr.mono (by decide)) rfl T.g_law_same T.k_law_same T.b_law_same .nil pass0 (pa_cons (pe_call G_needs (hr.mono (by decide)) rfl T.g_needs T.k_needs T.b_needs .nil pass0 (pa_cons (pv 0) (pa_cons (pv 1) (pa_cons (pe_tup (pa_cons (pv 4) (pa_cons (pv 5) pa_nil))) (pa_cons (pv 8) pa_nil))))) (pa_cons (pe_call G_law_needs (hr.mono (by decide)) rfl T.g_law_needs T.k_law_needs T.b_law_needs .nil pass0 (pa_cons (pv 2) (pa_cons (pv 3) (pa_cons (pe_tup (pa_cons (pv 4) (pa_cons (pv 5) pa_nil))) (pa_cons (pv 8) pa_nil))))) pa_nil)))))
    (pss_one (ps_ret pe_bl))
    pss_nil))))))))))))
  (pss_one (ps_ret pe_bl))), ?_⟩
  have hR := W.l
  have hk2 := W.g.k2
  refine ⟨_, rfl, v, ws, rfl, .inr hw, _, rfl, ?_⟩
  rw [hwl]
  refine ⟨by omega, by omega, for_range (lo := 0) (n := ((R.length : Nat) : Int).toNat) (fun i σ H' => ∃ v4 v5 v6 v7 v8, σ = [some (.ref x), some (.ref y), some (.ref p), some (.ref v), v4, v5, v6, v7, v8] ∧ Same H H') ⟨none, none, none, none, none, rfl, Same.refl H⟩ ?_ ?_⟩
  · rintro i σ H1 hi ⟨v4, v5, v6, v7, v8, rfl, s1⟩
    rw [nv0]
    have hi' : i < R.length := by omega
    refine ⟨_, rfl, p, _, _, _, rfl, rfl, (Tk.of s1).t hx, rfl, _, rfl, by omega, by omega, for_range (lo := 0) (n := ((B.nk : Nat) : Int).toNat) (fun κ σ H' => ∃ v5 v6 v7 v8, σ = [some (.ref x), some (.ref y), some (.ref p), some (.ref v), some (nv i), v5, v6, v7, v8] ∧ Same H H') ⟨v5, v6, v7, v8, rfl, s1⟩ ?_ ?_⟩
    · rintro κ σ H2 hκ ⟨v5, v6, v7, v8, rfl, s2⟩
      rw [nv0]
      have hκ' : κ < B.nk := by omega
      have hlen := waysM_len (B := B) (R := R) (t := (i, κ))
      have := W.g.r1
      have := W.g.m1
      have okW : okd 4 (.list ((waysM B R (i, κ)).map dWy)) := okd_ways (by omega)
      -- due
      refine ⟨_, rfl, _, rfl, _, rfl, _, rfl, (by decide : 2 ≤ sizeLine), fun c1 hc1 => ?_⟩
      have s3 := s2.trans (same_new (o := .tup [nv i, nv κ]) hc1)
      refine ⟨p, v, c1, B, R, (i, κ), rfl, V.tt (Same_tt s3), .inl (.inl upd_same), hi', fun l1 H4 s4 hl1 hL1 => ?_⟩
      have S4 := s3.trans s4
      -- told
      refine ⟨_, rfl, _, rfl, _, rfl, _, rfl, (by decide : 2 ≤ sizeLine), fun c2 hc2 => ?_⟩
      have s5 := same_new (o := .tup [nv i, nv κ]) hc2
      refine ⟨x, y, c2, B, R, (i, κ), rfl, W.same (S4.trans s5), .inl (.inl upd_same), hi', hκ', fun l2 H6 s6 hl2 hL2 => ?_⟩
      have S6 := (S4.trans s5).trans s6
      have hL1' := (hL1.same s5).same s6
      refine ⟨_, rfl, _, rfl, _, _, _, rfl, ways_dp hL2, ways_dp hL1', okW, fun H7 s7 => ⟨_, rfl, iteF ?_⟩⟩
      have S7 := S6.trans s7
      obtain ⟨us2, e2, hp2⟩ := hL2.same s7
      obtain ⟨us1, e1, hp1⟩ := hL1'.same s7
      have hl2H : H l2 = none := none_of (S4.trans s5) hl2
      have ne : l2 ≠ l1 := by
        obtain ⟨u, eu, _⟩ := hL1.same s5
        exact (ne_of_none eu hl2).symm
      -- told.append
      refine ⟨_, rfl, .inl ⟨rfl, _, SqL.of e2⟩, (by decide : 2 ≤ sizeLine), fun c3 hc3 => ?_⟩
      have e2' := (same_new (o := .tup [.str "rule", .int 0]) hc3) _ _ e2
      have e1' := (same_new (o := .tup [.str "rule", .int 0]) hc3) _ _ e1
      refine ⟨l2, us2, _, rfl, rfl, e2', lt_line (by rw [hp2.1]; omega), ?_⟩
      have S8 : Same H (upd (upd H7 c3 (.tup [.str "rule", .int 0])) l2 (.lst (us2 ++ [.ref c3]))) := same_at (S7.trans (same_new hc3)) hl2H
      have e8 : (upd (upd H7 c3 (.tup [.str "rule", .int 0])) l2 (.lst (us2 ++ [.ref c3]))) l1 = some (.lst us1) := by
        rw [upd_ne ne.symm]
        exact e1'
      have t8 : TT K H7 (upd (upd H7 c3 (.tup [.str "rule", .int 0])) l2 (.lst (us2 ++ [.ref c3]))) := (tt_new hc3).trans (tt_lst e2')
      have hL8 : WaysL K (upd (upd H7 c3 (.tup [.str "rule", .int 0])) l2 (.lst (us2 ++ [.ref c3]))) l1 (waysM B R (i, κ)) := ⟨us1, e8, hp1.mono fun _ _ z => z.tt t8⟩
      generalize upd (upd H7 c3 (.tup [.str "rule", .int 0])) l2 (.lst (us2 ++ [.ref c3])) = H8 at S8 hL8
      -- asked again
      refine ⟨_, rfl, _, rfl, _, rfl, _, rfl, (by decide : 2 ≤ sizeLine), fun c4 hc4 => ?_⟩
      have s9 := same_new (o := .tup [nv i, nv κ]) hc4
      refine ⟨x, y, c4, B, R, (i, κ), rfl, W.same (S8.trans s9), .inl (.inl upd_same), hi', hκ', fun l3 H10 s10 hl3 hL3 => ?_⟩
      have hL10 := (hL8.same s9).same s10
      refine ⟨_, rfl, _, _, _, rfl, ways_dp hL3, ways_dp hL10, okW, fun H11 s11 => ⟨_, rfl, iteF ?_⟩⟩
      have S11 := ((S8.trans s9).trans s10).trans s11
      obtain ⟨us, eL, hpl⟩ := hL10.same s11
      refine ⟨_, rfl, l1, rfl, ⟨_, SqL.of eL⟩, for_list (xs := us) (fun j σ H' => ∃ v8, σ = [some (.ref x), some (.ref y), some (.ref p), some (.ref v), some (nv i), some (nv κ), some (.ref l1), some (.ref l2), v8] ∧ Same H11 H') ⟨_, rfl, Same.refl _⟩ ?_ ?_ ?_⟩
      · rintro j σ H' _ ⟨_, _, z⟩
        exact SqL.of (z _ _ eL)
      · rintro j u σ H12 hu ⟨v8, rfl, s12⟩
        obtain ⟨way, hway, hwv⟩ := hpl.at' hu
        obtain ⟨e, rfl, he⟩ := hwv.tt (Same_tt s12)
        have hmem := List.mem_of_getElem? hway
        have S12 := S11.trans s12
        refine ⟨_, rfl, _, rfl, _, rfl, _, rfl, (by decide : 2 ≤ sizeLine), fun c5 hc5 => ?_⟩
        have s13 := same_new (o := .tup [nv i, nv κ]) hc5
        refine ⟨_, rfl, x, y, c5, e, B, R, (i, κ), way, rfl, W.same (S12.trans s13), .inl (.inl upd_same), hi', hκ', (Same_tt s13).t _ _ he, hmem, fun q1 H14 s14 hq1 hts1 => ?_⟩
        refine ⟨_, rfl, _, rfl, _, rfl, _, rfl, (by decide : 2 ≤ sizeLine), fun c6 hc6 => ?_⟩
        have s15 := same_new (o := .tup [nv i, nv κ]) hc6
        have S15 := ((S12.trans s13).trans s14).trans s15
        refine ⟨_, rfl, p, v, c6, e, B, R, (i, κ), way, rfl, V.tt (Same_tt S15), .inl (.inl upd_same), hi', (Same_tt ((s13.trans s14).trans s15)).t _ _ he, hmem, fun q2 H16 s16 hq2 hts2 => ?_⟩
        have hnl := needs_len (B := B) W.gr (t := (i, κ)) (w := way)
        exact ⟨_, _, _, rfl, ths_dp (hts1.tt (Same_tt (s15.trans s16))), ths_dp hts2, okd_ths (by omega), fun H17 s17 => ⟨_, rfl, iteF ⟨_, rfl, ((((s12.trans s13).trans s14).trans s15).trans s16).trans s17⟩⟩⟩
      · rintro σ H12 ⟨v8, rfl, s12⟩
        exact ⟨_, _, _, _, rfl, S11.trans s12⟩
    · rintro σ H2 ⟨v5, v6, v7, v8, rfl, s2⟩
      exact ⟨_, _, _, _, _, rfl, s2⟩
  · rintro σ H1 ⟨v4, v5, v6, v7, v8, rfl, s1⟩
    exact k H1 s1
end
end Lk
namespace Lk
open PySem L2
section
theorem exists_take {α : Type} {l : List α} {j : Nat} {x : α} {p : α → Prop} (h : l[j]? = some x) : (∃ w ∈ l.take (j + 1), p w) ↔ (∃ w ∈ l.take j, p w) ∨ p x := by
  rw [List.take_add_one, h]
  constructor
  · rintro ⟨w, hw, hp⟩
    rcases List.mem_append.mp hw with h | h
    · exact Or.inl ⟨w, h, hp⟩
    · rw [List.mem_singleton.mp h] at hp
      exact Or.inr hp
  · rintro (⟨w, hw, hp⟩ | hp)
    · exact ⟨w, List.mem_append.mpr (Or.inl hw), hp⟩
    · exact ⟨x, List.mem_append.mpr (Or.inr (List.mem_singleton.mpr rfl)), hp⟩
end
section
variable {P : Program} {w : World} {K : PySem.W.Frag} {mg : Str → Option Value} {base : Heap} {a : Adr}
def spLaw (K : PySem.W.Frag) : Sp := fun vs H Q _ => ∃ (p : Addr) (ns : List Int), vs = [.ref p] ∧ SqL K H p (ns.map V.int) ∧ ns.length ≤ 63 ∧ ∀ H', Q (.bl true) H'
theorem ok_law (T : Txt K mg a) : FnOk P w K mg base CX0 12 a.f_law a.d_law ["_law_script"] (spLaw K) := by
  have G_law_bag := ok_law_bag (P := P) (w := w) (base := base) T
  have G_law_sound_book := ok_law_sound_book (P := P) (w := w) (base := base) T
  have G_law_values := ok_law_values (P := P) (w := w) (base := base) T
  have G_law_size := ok_law_size (P := P) (w := w) (base := base) T
  have G_Book_init := ok_Book_init (P := P) (w := w) (base := base) T
  have G_Web_init := ok_Web_init (P := P) (w := w) (base := base) T
  have G_law_makeable := ok_law_makeable (P := P) (w := w) (base := base) T
  have G_makeable := ok_makeable (P := P) (w := w) (base := base) T
  have G_law_are_told := ok_law_are_told (P := P) (w := w) (base := base) T
  have G_ways := ok_ways (P := P) (w := w) (base := base) T
  have G_needs := ok_needs (P := P) (w := w) (base := base) T
  have G_law_are_in := ok_law_are_in (P := P) (w := w) (base := base) T
  have G_law_same := ok_law_same (P := P) (w := w) (base := base) T 4
  refine T.F_law.ok sc_law (fun vs H Q E h => ?_) (fun cdv A outer s H vs Q E hr h => ?_)
  · obtain ⟨p, ns, rfl, _⟩ := h
    rfl
  obtain ⟨p, ns, rfl, hS, hn, k⟩ := h
  refine ⟨_, (pss_cons (ps_set (i := 1) sc_law.nd rfl (Or.inl rfl) (pe_call G_law_bag (hr.mono (by decide)) rfl T.g_law_bag T.k_law_bag T.b_law_bag .nil pass0 (pa_cons (pv 0) pa_nil)))
  (pss_cons (ps_for PassesOwn.never rfl (pi_range1 rfl T.z_range (pa_cons pe_int pa_nil)) (pg_name (i := 2) sc_law.nd rfl (Or.inl rfl))
    (pss_cons (ps_set (i := 3) sc_law.nd rfl (Or.inl rfl) (pe_call G_law_sound_book (hr.mono (by decide)) rfl T.g_law_sound_book T.k_law_sound_book T.b_law_sound_book .nil pass0 (pa_cons (pv 1) pa_nil)))
  (pss_cons (ps_set (i := 4) sc_law.nd rfl (Or.inl rfl) (pe_call G_law_values (hr.mono (by decide)) rfl T.g_law_values T.k_law_values T.b_law_values .nil pass0 (pa_cons (pv 1) (pa_cons (pe_ix ix_tup (pv 3) pe_int (fun _ _ => rfl)) (pa_cons (pe_call G_law_size (hr.mono (by decide)) rfl T.g_law_size T.k_law_size T.b_law_size .nil pass0 (pa_cons (pv 1) pa_nil)) pa_nil)))))
  (pss_cons (ps_par (i := 5) (j := 6) (by rfl) sc_law.nd rfl rfl (by decide) rfl rfl (pa_cons (pe_make T.M_Book G_Book_init (hr.mono (by decide)) rfl T.g_Book T.b_Book_init .nil pass0 (pa_cons (pe_ix ix_tup (pv 3) pe_int (fun _ _ => rfl)) (pa_cons (pe_ix ix_tup (pv 3) pe_int (fun _ _ => rfl)) (pa_cons (pe_ix ix_tup (pv 3) pe_int (fun _ _ => rfl)) (pa_cons (pe_ix ix_tup (pv 3) pe_int (fun _ _ => rfl)) pa_nil))))) (pa_cons (pe_make T.M_Web G_Web_init (hr.mono (by decide)) rfl T.g_Web T.b_Web_init .nil pass0 (pa_cons (pv 4) pa_nil)) pa_nil)) (by rfl))
  (pss_cons (ps_set (i := 7) sc_law.nd rfl (Or.inl rfl) (pe_call G_law_makeable (hr.mono (by decide)) rfl T.g_law_makeable T.k_law_makeable T.b_law_makeable .nil pass0 (pa_cons (pv 3) (pa_cons (pv 4) pa_nil))))
  (pss_cons (ps_if (PW.pt (pw_or (pt_not (pt_val (pe_call G_law_same (hr.mono (by decide)) rfl T.g_law_same T.k_law_same T.b_law_same .nil pass0 (pa_cons (pe_call G_makeable (hr.mono (by decide)) rfl T.g_makeable T.k_makeable T.b_makeable .nil pass0 (pa_cons (pv 5) (pa_cons (pv 6) pa_nil))) (pa_cons (pv 7) pa_nil))))) (pw_or1 (pt_not (pt_val (pe_call G_law_are_told (hr.mono (by decide)) rfl T.g_law_are_told T.k_law_are_told T.b_law_are_told .nil pass0 (pa_cons (pv 5) (pa_cons (pv 6) (pa_cons (pv 3) (pa_cons (pv 4) pa_nil))))))))))
    (pss_one (ps_ret pe_bl))
    pss_nil)
  (pss_cons (ps_for PassesOwn.never rfl (pi_range1 rfl T.z_range (pa_cons (pe_callB call_len_seq (by rfl) T.z_len PySem.boot_len (pa_cons (pv 4) pa_nil)) pa_nil)) (pg_name (i := 8) sc_law.nd rfl (Or.inl rfl))
    (pss_one (ps_for PassesOwn.never rfl (pi_range1 rfl T.z_range (pa_cons (pe_ix ix_tup (pv 3) pe_int (fun _ _ => rfl)) pa_nil)) (pg_name (i := 9) sc_law.nd rfl (Or.inl rfl))
    (pss_cons (ps_par (i := 10) (j := 11) (by rfl) sc_law.nd rfl rfl (by decide) rfl rfl (pa_cons (pe_tup (pa_cons (pv 8) (pa_cons (pv 9) pa_nil))) (pa_cons pe_int pa_nil)) (by rfl))
  (pss_cons (ps_for PassesOwn.never rfl (pi_list (pe_call G_ways (hr.mono (by decide)) rfl T.g_ways T.k_ways T.b_ways .nil pass0 (pa_cons (pv 5) (pa_cons (pv 6) (pa_cons (pv 10) pa_nil))))) (pg_name (i := 12) sc_law.nd rfl (Or.inl rfl))
    (pss_one (ps_set (i := 11) sc_law.nd rfl (Or.inl rfl) (pe_op op_add (pv 11) (pe_callTy call_int1 (by rfl) T.z_int (by decide +kernel) (pa_cons (pe_call G_law_are_in (hr.mono (by decide)) rfl T.g_law_are_in T.k_law_are_in T.b_law_are_in .nil pass0 (pa_cons (pe_call G_needs (hr.mono (by decide)) rfl T.g_needs T.k_needs T.b_needs .nil pass0 (pa_cons (pv 5) (pa_cons (pv 6) (pa_cons (pv 10) (pa_cons (pv 12) pa_nil))))) (pa_cons (pv 7) pa_nil))) pa_nil))))))
  (pss_one (ps_if (pt_cmpR op_ne (pe_cmpR op_gt (pv 11) pe_int (nomark _)) (pe_cmpR (op_inQ (u65 hr)) (pv 10) (pv 7) rfl) (nomark _))
    (pss_one (ps_ret pe_bl))
    pss_nil)))))))
  (pss_one (ps_if (PW.pt (pw_or (pt_not (pt_val (pe_call G_law_same (hr.mono (by decide)) rfl T.g_law_same T.k_law_same T.b_law_same .nil pass0 (pa_cons (pe_fld (pv 6) rfl) (pa_cons (pv 4) pa_nil))))) (pw_or1 (pt_not (pt_val (pe_call G_law_same (hr.mono (by decide)) rfl T.g_law_same T.k_law_same T.b_law_same .nil pass0 (pa_cons (pe_call G_makeable (hr.mono (by decide)) rfl T.g_makeable T.k_makeable T.b_makeable .nil pass0 (pa_cons (pv 5) (pa_cons (pv 6) pa_nil))) (pa_cons (pv 7) pa_nil))))))))
    (pss_one (ps_ret pe_bl))
    pss_nil)))))))))
  (pss_one (ps_ret pe_bl)))), ?_⟩
  refine ⟨_, rfl, p, ns, rfl, hS, hn, fun b g H1 s1 _ _ B1 => ?_⟩
  refine ⟨_, rfl, by decide, by decide, for_range (lo := 0) (n := 2) (fun i σ H' => ∃ v2 v3 v4 v5 v6 v7 v8 v9 v10 v11 v12, σ = [some (.ref p), some (.ref b), v2, v3, v4, v5, v6, v7, v8, v9, v10, v11, v12] ∧ BagAt H' b g) ⟨none, none, none, none, none, none, none, none, none, none, none, rfl, B1⟩ ?_ ?_⟩
  · rintro i σ H2 hi ⟨v2, v3, v4, v5, v6, v7, v8, v9, v10, v11, v12, rfl, B2⟩
    rw [nv0]
    -- parts, values
    refine ⟨_, rfl, b, g, rfl, B2, fun q Bk H3 f3 B3 hP3 gB => ?_⟩
    obtain ⟨pa, pr, pm, hq3, ha3, hr3, hm3⟩ := id hP3
    refine ⟨_, rfl, _, rfl, q, _, _, _, rfl, rfl, hq3, rfl, _, rfl, b, g, rfl, B3, fun sz H4 z1 z2 B4 f4 => ?_⟩
    have T4 : TT K H3 H4 := f4.tt B3
    refine ⟨b, g, pa, Bk.ar, sz, rfl, T4.t _ _ ha3, gB.a2, gB.a3, z2, B4, fun t R H5 f5 B5 hT5 gR fA lR => ?_⟩
    have T5 : TT K H3 H5 := T4.trans (f5.tt B4)
    -- Book(..), Web(..)
    have hq5 := T5.t _ _ hq3
    refine ⟨_, rfl, q, _, _, _, rfl, rfl, hq5, rfl, _, rfl, q, _, _, _, rfl, rfl, hq5, rfl, _, rfl, q, _, _, _, rfl, rfl, hq5, rfl, _, rfl, q, _, _, _, rfl, rfl, hq5, rfl, ?_⟩
    intro x dx hx hdx ne
    have sA : Same H5 (upd (upd H5 dx (.own x)) x (.ins a.c_Book dx [])) := (same_new hdx).trans (same_new (by rw [upd_ne ne.symm]; exact hx))
    refine ⟨x, dx, pa, pr, pm, Bk, rfl, upd_same, (Tk.of sA).t (T5.t _ _ ha3), (hr3.tt T5).tt (Same_tt sA), (hm3.tt T5).tt (Same_tt sA), gB, fun H6 kp e6 => ⟨rfl, ?_⟩⟩
    have sB : Same H5 H6 := fun b o e => kp b o (sA b o e) (ne_of_none e hx)
    refine ⟨_, rfl, ?_⟩
    intro y dy hy hdy ne2
    have sC : Same H6 (upd (upd H6 dy (.own y)) y (.ins a.c_Web dy [])) := (same_new hdy).trans (same_new (by rw [upd_ne ne2.symm]; exact hy))
    refine ⟨y, dy, t, R, rfl, upd_same, (hT5.tt (Same_tt sB)).tt (Same_tt sC), gR, by omega, fun H7 kp2 e7 => ⟨rfl, ?_⟩⟩
    have sD : Same H6 H7 := fun b o e => kp2 b o (sC b o e) (ne_of_none e hy)
    have S7 : Same H5 H7 := sB.trans sD
    have T7 : TT K H3 H7 := T5.trans (Same_tt S7)
    have fM : FitsM Bk R := fA
    have W : BW K a H7 x y Bk R := ⟨⟨dx, pa, pr, pm, sD _ _ e6, T7.t _ _ ha3, hr3.tt T7, hm3.tt T7⟩, ⟨dy, t, e7, hT5.tt (Same_tt S7)⟩, gB, gR, fM, by omega⟩
    have VP : PR K H7 q t Bk R := ⟨hP3.tt T7, hT5.tt (Same_tt S7), gB, gR, fM, by omega⟩
    have B7 : BagAt H7 b g := B5.same S7
    refine ⟨_, _, rfl, ?_⟩
    -- due
    refine ⟨_, rfl, _, rfl, q, t, Bk, R, rfl, VP, fun du H8 s8 _ hd8 => ?_⟩
    have hml := makM_len (B := Bk) (R := R)
    have hk2 := gB.k2
    have hml2 : R.length * Bk.nk ≤ 20 * 5 := Nat.mul_le_mul lR hk2
    have okD : okd 4 (.tuple ((makM Bk R).map dTh)) := okd_ths (by omega)
    -- makeable, the ways
    refine ⟨_, rfl, _, rfl, x, y, Bk, R, rfl, W.same s8, fun m1 H9 s9 _ hm9 => ?_⟩
    refine ⟨_, rfl, _, _, _, rfl, ths_dp hm9, ths_dp (hd8.tt (Same_tt s9)), okD, fun H10 s10 => ⟨_, rfl, iteF ?_⟩⟩
    have S10 := (s8.trans s9).trans s10
    refine ⟨_, rfl, _, rfl, _, rfl, _, rfl, x, y, q, t, Bk, R, rfl, W.same S10, VP.tt (Same_tt S10), fun H11 s11 => ⟨_, rfl, iteF ?_⟩⟩
    have S11 := S10.trans s11
    have hd11 : ThsT K H11 du (makM Bk R) := hd8.tt (Same_tt ((s9.trans s10).trans s11))
    obtain ⟨ws, hw, hwl, hrow⟩ := id VP.r
    refine ⟨_, rfl, t, ws, rfl, .inr ((Same_tt S11).t _ _ hw), _, rfl, ?_⟩
    rw [hwl]
    refine ⟨by omega, by omega, for_range (lo := 0) (n := ((R.length : Nat) : Int).toNat) (fun n σ H' => ∃ v8 v9 v10 v11 v12, σ = [some (.ref p), some (.ref b), some (nv i), some (.ref q), some (.ref t), some (.ref x), some (.ref y), some (.ref du), v8, v9, v10, v11, v12] ∧ Same H11 H') ⟨v8, v9, v10, v11, v12, rfl, Same.refl _⟩ ?_ ?_⟩
    · rintro n σ H12 hn ⟨v8, v9, v10, v11, v12, rfl, s12⟩
      rw [nv0]
      have hn' : n < R.length := by omega
      have hq12 := (Same_tt (K := K) (S11.trans s12)).t _ _ (T7.t _ _ hq3)
      refine ⟨_, rfl, q, _, _, _, rfl, rfl, hq12, rfl, _, rfl, by omega, by omega, for_range (lo := 0) (n := ((Bk.nk : Nat) : Int).toNat) (fun κ σ H' => ∃ v9 v10 v11 v12, σ = [some (.ref p), some (.ref b), some (nv i), some (.ref q), some (.ref t), some (.ref x), some (.ref y), some (.ref du), some (nv n), v9, v10, v11, v12] ∧ Same H11 H') ⟨v9, v10, v11, v12, rfl, s12⟩ ?_ ?_⟩
      · rintro κ σ H13 hκ ⟨v9, v10, v11, v12, rfl, s13⟩
        rw [nv0]
        have hκ' : κ < Bk.nk := by omega
        refine ⟨_, rfl, _, rfl, (by decide : 2 ≤ sizeLine), fun c hc => ⟨_, _, rfl, ?_⟩⟩
        have s14 := s13.trans (same_new (o := .tup [nv n, nv κ]) hc)
        have hc14 : (upd H13 c (.tup [nv n, nv κ])) c = some (.tup [nv n, nv κ]) := upd_same
        generalize upd H13 c (.tup [nv n, nv κ]) = H14 at s14 hc14
        refine ⟨_, rfl, _, rfl, _, rfl, x, y, c, Bk, R, (n, κ), rfl, W.same (S11.trans s14), .inl (.inl hc14), hn', hκ', fun l H15 s15 hl hL => ?_⟩
        obtain ⟨us, eL, hpl⟩ := id hL
        refine ⟨l, rfl, ⟨_, SqL.of eL⟩, for_list (xs := us) (fun j σ H' => ∃ v12, ∃ m : Nat, σ = [some (.ref p), some (.ref b), some (nv i), some (.ref q), some (.ref t), some (.ref x), some (.ref y), some (.ref du), some (nv n), some (nv κ), some (.ref c), some (nv m), v12] ∧ Same H15 H' ∧ (0 < m ↔ ∃ w ∈ (waysM Bk R (n, κ)).take j, ∀ u ∈ needsM Bk R (n, κ) w, u ∈ makM Bk R)) ⟨_, 0, rfl, Same.refl _, ⟨fun h => absurd h (by decide), fun ⟨_, h, _⟩ => nomatch h⟩⟩ ?_ ?_ ?_⟩
        · rintro j σ H' _ ⟨_, _, _, z, _⟩
          exact SqL.of (z _ _ eL)
        · rintro j u σ H16 hu ⟨v12, m, rfl, s16, hm⟩
          obtain ⟨way, hway, hwv⟩ := hpl.at' hu
          obtain ⟨e, rfl, he⟩ := hwv.tt (Same_tt s16)
          have hmem := List.mem_of_getElem? hway
          have S16 := s15.trans s16
          refine ⟨_, rfl, _, rfl, _, rfl, _, rfl, _, rfl, x, y, c, e, Bk, R, (n, κ), way, rfl, W.same (S11.trans (s14.trans S16)), .inl (.inl (S16 _ _ hc14)), hn', hκ', he, hmem, fun q1 H17 s17 _ hts => ?_⟩
          have hnl := needs_len (B := Bk) gR (t := (n, κ)) (w := way)
          refine ⟨_, rfl, q1, du, _, makM Bk R, rfl, hts, by omega, .inr (hd11.tt (Same_tt ((s14.trans S16).trans s17))), fun H18 s18 => .inr ⟨_, rfl, _, _, rfl, rfl, ?_⟩⟩
          have hx2 := exists_take (p := fun w => ∀ u ∈ needsM Bk R (n, κ) w, u ∈ makM Bk R) hway
          have S18 : Same H15 H18 := (s16.trans s17).trans s18
          by_cases hb : ∀ u ∈ needsM Bk R (n, κ) way, u ∈ makM Bk R
          · rw [decide_eq_true hb]
            refine ⟨some (.ref e), m + 1, ?_, S18, ⟨fun _ => hx2.mpr (Or.inr hb), fun _ => Nat.succ_pos m⟩⟩
            rfl
          · rw [decide_eq_false hb]
            refine ⟨some (.ref e), m, ?_, S18, ?_⟩
            · show [some (V.ref p), some (V.ref b), some (nv i), some (V.ref q), some (V.ref t), some (V.ref x), some (V.ref y), some (V.ref du), some (nv n), some (nv κ), some (V.ref c), some (V.int ((m : Int) + 0)), some (V.ref e)] = _
              rw [Int.add_zero]
              rfl
            · rw [hm, hx2]
              exact ⟨Or.inl, fun h => h.resolve_right hb⟩
        · rintro σ H16 ⟨v12, m, rfl, s16, hm⟩
          have S16 := s15.trans s16
          have hd16 := hd11.tt (Same_tt (s14.trans S16))
          refine ⟨_, rfl, _, _, rfl, rfl, _, rfl, _, rfl, dTh (n, κ), _, th_dp ⟨c, rfl, S16 _ _ hc14⟩, ths_dp hd16, sh_th _, sh_ths _, rfl, _, rfl, iteD ?_ ?_⟩
          · rw [any_th]
            have key : (m : Int) > 0 ↔ (n, κ) ∈ makM Bk R := by
              rw [mem_makM gB, mak_iff (t := (n, κ)) hn']
              have e0 : ((m : Int) > 0) ↔ 0 < m := by omega
              rw [e0, hm, List.take_of_length_le (by rw [hpl.1]; exact Nat.le_refl _)]
              constructor
              · rintro ⟨w, h1, h2⟩
                exact ⟨w, h1, fun u hu => (mem_makM gB).mp (h2 u hu)⟩
              · rintro ⟨w, h1, h2⟩
                exact ⟨w, h1, fun u hu => (mem_makM gB).mpr (h2 u hu)⟩
            by_cases h : (n, κ) ∈ makM Bk R
            · have h2 : decide ((m : Int) > 0) = true := decide_eq_true (key.mpr h)
              rw [decide_eq_true h]
              show (!decide (V.bl (decide ((m : Int) > 0)) = V.bl true)) = false
              rw [h2]
              rfl
            · have h2 : decide ((m : Int) > 0) = false := decide_eq_false fun q => h (key.mp q)
              rw [decide_eq_false h]
              show (!decide (V.bl (decide ((m : Int) > 0)) = V.bl false)) = false
              rw [h2]
              rfl
          · exact ⟨_, _, _, _, rfl, s14.trans S16⟩
      · rintro σ H13 ⟨v9, v10, v11, v12, rfl, s13⟩
        exact ⟨_, _, _, _, _, rfl, s13⟩
    · rintro σ H12 ⟨v8, v9, v10, v11, v12, rfl, s12⟩
      have S12 := S11.trans s12
      obtain ⟨dy', q', e12, hrt⟩ := (W.same S12).r
      have hd12 := hd11.tt (Same_tt s12)
      refine ⟨_, rfl, y, a.c_Web, dy', _, _, rfl, e12, T.C_Web, T.N_rows, rfl, _, rfl, _, _, dRows R, rfl, rows_dp hrt, rows_dp ((VP.tt (Same_tt S12)).r), okd_rows gR (by omega), fun H13 s13 => ⟨_, rfl, iteF ?_⟩⟩
      refine ⟨_, rfl, _, rfl, x, y, Bk, R, rfl, W.same (S12.trans s13), fun m1 H14 s14 _ hm14 => ?_⟩
      refine ⟨_, rfl, _, _, _, rfl, ths_dp hm14, ths_dp (hd12.tt (Same_tt (s13.trans s14))), okD, fun H15 s15 => ⟨_, rfl, iteF ?_⟩⟩
      exact ⟨_, _, _, _, _, _, _, _, _, _, _, rfl, B7.same (((S12.trans s13).trans s14).trans s15)⟩
  · rintro σ H2 ⟨v2, v3, v4, v5, v6, v7, v8, v9, v10, v11, v12, rfl, B2⟩
    exact k H2
end
end Lk
namespace Lk
open PySem L2
theorem kit_self {K : PySem.W.Frag} {C : Addr} : PySem.W.kitOne K (.ref C) (.ref C) = some true := by
  unfold PySem.W.kitOne
  rw [if_pos (by simp)]
theorem all_mk {l : PySem.W.OpenLaw} {w : World} {K : PySem.W.Frag} {h : Heap} {mg : Str → Option Value} {fa : Addr} {f_is_integer f_is_between f_is_tuple_of f_Book_init f_check_frame f_check_rules f_check_moves f_is_rule f_is_move f_is_price f_Web_init f_is_value f_fits f_is_row_of f_check_web f_ways f_needs f_makeable f_kinds_made f_is_thing f_check_thing f_is_way f_is_way_to f_ways_to f_needs_for f_needs_by_parts f_law_bag f_law_pick f_law_price f_law_arities f_law_rules f_law_moves f_law_book f_law_values f_law_same f_law_great_book f_law_ways f_law_needs f_law_are_in f_law_makeable f_law_size f_law_sound_book f_law_are_told f_law : Addr} {c_Book c_Web : Addr} (X : K.In h) (G : h.Ns mainGlobals mg) (hfa : mg "law" = some (.ref fa))
    (a_Book : PySem.W.nsIn K mainGlobals "Book" = some (some (.ref c_Book)))
    (a_Web : PySem.W.nsIn K mainGlobals "Web" = some (some (.ref c_Web)))
    {od_is_integer an_is_integer : Option Addr} {sl_is_integer : Array (Option Value)} {oc_is_integer kV_is_integer dc_is_integer pm_is_integer cd_is_integer ct_is_integer : Value}
    (a_is_integer : PySem.W.nsIn K mainGlobals "is_integer" = some (some (.ref f_is_integer)))
    (l_is_integer : K.lookup f_is_integer = some ⟨oc_is_integer, od_is_integer, .func (PySem.W.fnOf "is_integer" "is_integer" (defArgs s_is_integer) (defBody s_is_integer) (defScope s_is_integer) .none kV_is_integer dc_is_integer pm_is_integer an_is_integer cd_is_integer ct_is_integer), sl_is_integer⟩) (c_is_integer : PySem.W.codeIn K cd_is_integer "is_integer" = true) (k_is_integer : PySem.W.keepIn K (.ref f_is_integer) = true)
    {od_is_between an_is_between : Option Addr} {sl_is_between : Array (Option Value)} {oc_is_between kV_is_between dc_is_between pm_is_between cd_is_between ct_is_between : Value}
    (a_is_between : PySem.W.nsIn K mainGlobals "is_between" = some (some (.ref f_is_between)))
    (l_is_between : K.lookup f_is_between = some ⟨oc_is_between, od_is_between, .func (PySem.W.fnOf "is_between" "is_between" (defArgs s_is_between) (defBody s_is_between) (defScope s_is_between) .none kV_is_between dc_is_between pm_is_between an_is_between cd_is_between ct_is_between), sl_is_between⟩) (c_is_between : PySem.W.codeIn K cd_is_between "is_between" = true) (k_is_between : PySem.W.keepIn K (.ref f_is_between) = true)
    {od_is_tuple_of an_is_tuple_of : Option Addr} {sl_is_tuple_of : Array (Option Value)} {oc_is_tuple_of kV_is_tuple_of dc_is_tuple_of pm_is_tuple_of cd_is_tuple_of ct_is_tuple_of : Value}
    (a_is_tuple_of : PySem.W.nsIn K mainGlobals "is_tuple_of" = some (some (.ref f_is_tuple_of)))
    (l_is_tuple_of : K.lookup f_is_tuple_of = some ⟨oc_is_tuple_of, od_is_tuple_of, .func (PySem.W.fnOf "is_tuple_of" "is_tuple_of" (defArgs s_is_tuple_of) (defBody s_is_tuple_of) (defScope s_is_tuple_of) .none kV_is_tuple_of dc_is_tuple_of pm_is_tuple_of an_is_tuple_of cd_is_tuple_of ct_is_tuple_of), sl_is_tuple_of⟩) (c_is_tuple_of : PySem.W.codeIn K cd_is_tuple_of "is_tuple_of" = true) (k_is_tuple_of : PySem.W.keepIn K (.ref f_is_tuple_of) = true)
    {od_Book_init an_Book_init : Option Addr} {sl_Book_init : Array (Option Value)} {oc_Book_init kV_Book_init dc_Book_init pm_Book_init cd_Book_init ct_Book_init : Value}
    (a_Book_init : PySem.W.findIn K (.ref c_Book) "__init__" = some (some (.ref f_Book_init)))
    (l_Book_init : K.lookup f_Book_init = some ⟨oc_Book_init, od_Book_init, .func (PySem.W.fnOf "__init__" "Book.__init__" (defArgs s_Book_init) (defBody s_Book_init) (defScope s_Book_init) .none kV_Book_init dc_Book_init pm_Book_init an_Book_init cd_Book_init ct_Book_init), sl_Book_init⟩) (c_Book_init : PySem.W.codeIn K cd_Book_init "Book.__init__" = true) (k_Book_init : PySem.W.keepIn K (.ref f_Book_init) = true)
    {od_check_frame an_check_frame : Option Addr} {sl_check_frame : Array (Option Value)} {oc_check_frame kV_check_frame dc_check_frame pm_check_frame cd_check_frame ct_check_frame : Value}
    (a_check_frame : PySem.W.nsIn K mainGlobals "_check_frame" = some (some (.ref f_check_frame)))
    (l_check_frame : K.lookup f_check_frame = some ⟨oc_check_frame, od_check_frame, .func (PySem.W.fnOf "_check_frame" "_check_frame" (defArgs s_check_frame) (defBody s_check_frame) (defScope s_check_frame) .none kV_check_frame dc_check_frame pm_check_frame an_check_frame cd_check_frame ct_check_frame), sl_check_frame⟩) (c_check_frame : PySem.W.codeIn K cd_check_frame "_check_frame" = true) (k_check_frame : PySem.W.keepIn K (.ref f_check_frame) = true)
    {od_check_rules an_check_rules : Option Addr} {sl_check_rules : Array (Option Value)} {oc_check_rules kV_check_rules dc_check_rules pm_check_rules cd_check_rules ct_check_rules : Value}
    (a_check_rules : PySem.W.nsIn K mainGlobals "_check_rules" = some (some (.ref f_check_rules)))
    (l_check_rules : K.lookup f_check_rules = some ⟨oc_check_rules, od_check_rules, .func (PySem.W.fnOf "_check_rules" "_check_rules" (defArgs s_check_rules) (defBody s_check_rules) (defScope s_check_rules) .none kV_check_rules dc_check_rules pm_check_rules an_check_rules cd_check_rules ct_check_rules), sl_check_rules⟩) (c_check_rules : PySem.W.codeIn K cd_check_rules "_check_rules" = true) (k_check_rules : PySem.W.keepIn K (.ref f_check_rules) = true)
    {od_check_moves an_check_moves : Option Addr} {sl_check_moves : Array (Option Value)} {oc_check_moves kV_check_moves dc_check_moves pm_check_moves cd_check_moves ct_check_moves : Value}
    (a_check_moves : PySem.W.nsIn K mainGlobals "_check_moves" = some (some (.ref f_check_moves)))
    (l_check_moves : K.lookup f_check_moves = some ⟨oc_check_moves, od_check_moves, .func (PySem.W.fnOf "_check_moves" "_check_moves" (defArgs s_check_moves) (defBody s_check_moves) (defScope s_check_moves) .none kV_check_moves dc_check_moves pm_check_moves an_check_moves cd_check_moves ct_check_moves), sl_check_moves⟩) (c_check_moves : PySem.W.codeIn K cd_check_moves "_check_moves" = true) (k_check_moves : PySem.W.keepIn K (.ref f_check_moves) = true)
    {od_is_rule an_is_rule : Option Addr} {sl_is_rule : Array (Option Value)} {oc_is_rule kV_is_rule dc_is_rule pm_is_rule cd_is_rule ct_is_rule : Value}
    (a_is_rule : PySem.W.nsIn K mainGlobals "_is_rule" = some (some (.ref f_is_rule)))
    (l_is_rule : K.lookup f_is_rule = some ⟨oc_is_rule, od_is_rule, .func (PySem.W.fnOf "_is_rule" "_is_rule" (defArgs s_is_rule) (defBody s_is_rule) (defScope s_is_rule) .none kV_is_rule dc_is_rule pm_is_rule an_is_rule cd_is_rule ct_is_rule), sl_is_rule⟩) (c_is_rule : PySem.W.codeIn K cd_is_rule "_is_rule" = true) (k_is_rule : PySem.W.keepIn K (.ref f_is_rule) = true)
    {od_is_move an_is_move : Option Addr} {sl_is_move : Array (Option Value)} {oc_is_move kV_is_move dc_is_move pm_is_move cd_is_move ct_is_move : Value}
    (a_is_move : PySem.W.nsIn K mainGlobals "_is_move" = some (some (.ref f_is_move)))
    (l_is_move : K.lookup f_is_move = some ⟨oc_is_move, od_is_move, .func (PySem.W.fnOf "_is_move" "_is_move" (defArgs s_is_move) (defBody s_is_move) (defScope s_is_move) .none kV_is_move dc_is_move pm_is_move an_is_move cd_is_move ct_is_move), sl_is_move⟩) (c_is_move : PySem.W.codeIn K cd_is_move "_is_move" = true) (k_is_move : PySem.W.keepIn K (.ref f_is_move) = true)
    {od_is_price an_is_price : Option Addr} {sl_is_price : Array (Option Value)} {oc_is_price kV_is_price dc_is_price pm_is_price cd_is_price ct_is_price : Value}
    (a_is_price : PySem.W.nsIn K mainGlobals "is_price" = some (some (.ref f_is_price)))
    (l_is_price : K.lookup f_is_price = some ⟨oc_is_price, od_is_price, .func (PySem.W.fnOf "is_price" "is_price" (defArgs s_is_price) (defBody s_is_price) (defScope s_is_price) .none kV_is_price dc_is_price pm_is_price an_is_price cd_is_price ct_is_price), sl_is_price⟩) (c_is_price : PySem.W.codeIn K cd_is_price "is_price" = true) (k_is_price : PySem.W.keepIn K (.ref f_is_price) = true)
    {od_Web_init an_Web_init : Option Addr} {sl_Web_init : Array (Option Value)} {oc_Web_init kV_Web_init dc_Web_init pm_Web_init cd_Web_init ct_Web_init : Value}
    (a_Web_init : PySem.W.findIn K (.ref c_Web) "__init__" = some (some (.ref f_Web_init)))
    (l_Web_init : K.lookup f_Web_init = some ⟨oc_Web_init, od_Web_init, .func (PySem.W.fnOf "__init__" "Web.__init__" (defArgs s_Web_init) (defBody s_Web_init) (defScope s_Web_init) .none kV_Web_init dc_Web_init pm_Web_init an_Web_init cd_Web_init ct_Web_init), sl_Web_init⟩) (c_Web_init : PySem.W.codeIn K cd_Web_init "Web.__init__" = true) (k_Web_init : PySem.W.keepIn K (.ref f_Web_init) = true)
    {od_is_value an_is_value : Option Addr} {sl_is_value : Array (Option Value)} {oc_is_value kV_is_value dc_is_value pm_is_value cd_is_value ct_is_value : Value}
    (a_is_value : PySem.W.nsIn K mainGlobals "_is_value" = some (some (.ref f_is_value)))
    (l_is_value : K.lookup f_is_value = some ⟨oc_is_value, od_is_value, .func (PySem.W.fnOf "_is_value" "_is_value" (defArgs s_is_value) (defBody s_is_value) (defScope s_is_value) .none kV_is_value dc_is_value pm_is_value an_is_value cd_is_value ct_is_value), sl_is_value⟩) (c_is_value : PySem.W.codeIn K cd_is_value "_is_value" = true) (k_is_value : PySem.W.keepIn K (.ref f_is_value) = true)
    {od_fits an_fits : Option Addr} {sl_fits : Array (Option Value)} {oc_fits kV_fits dc_fits pm_fits cd_fits ct_fits : Value}
    (a_fits : PySem.W.nsIn K mainGlobals "fits" = some (some (.ref f_fits)))
    (l_fits : K.lookup f_fits = some ⟨oc_fits, od_fits, .func (PySem.W.fnOf "fits" "fits" (defArgs s_fits) (defBody s_fits) (defScope s_fits) .none kV_fits dc_fits pm_fits an_fits cd_fits ct_fits), sl_fits⟩) (c_fits : PySem.W.codeIn K cd_fits "fits" = true) (k_fits : PySem.W.keepIn K (.ref f_fits) = true)
    {od_is_row_of an_is_row_of : Option Addr} {sl_is_row_of : Array (Option Value)} {oc_is_row_of kV_is_row_of dc_is_row_of pm_is_row_of cd_is_row_of ct_is_row_of : Value}
    (a_is_row_of : PySem.W.nsIn K mainGlobals "_is_row_of" = some (some (.ref f_is_row_of)))
    (l_is_row_of : K.lookup f_is_row_of = some ⟨oc_is_row_of, od_is_row_of, .func (PySem.W.fnOf "_is_row_of" "_is_row_of" (defArgs s_is_row_of) (defBody s_is_row_of) (defScope s_is_row_of) .none kV_is_row_of dc_is_row_of pm_is_row_of an_is_row_of cd_is_row_of ct_is_row_of), sl_is_row_of⟩) (c_is_row_of : PySem.W.codeIn K cd_is_row_of "_is_row_of" = true) (k_is_row_of : PySem.W.keepIn K (.ref f_is_row_of) = true)
    {od_check_web an_check_web : Option Addr} {sl_check_web : Array (Option Value)} {oc_check_web kV_check_web dc_check_web pm_check_web cd_check_web ct_check_web : Value}
    (a_check_web : PySem.W.nsIn K mainGlobals "check_web" = some (some (.ref f_check_web)))
    (l_check_web : K.lookup f_check_web = some ⟨oc_check_web, od_check_web, .func (PySem.W.fnOf "check_web" "check_web" (defArgs s_check_web) (defBody s_check_web) (defScope s_check_web) .none kV_check_web dc_check_web pm_check_web an_check_web cd_check_web ct_check_web), sl_check_web⟩) (c_check_web : PySem.W.codeIn K cd_check_web "check_web" = true) (k_check_web : PySem.W.keepIn K (.ref f_check_web) = true)
    {od_ways an_ways : Option Addr} {sl_ways : Array (Option Value)} {oc_ways kV_ways dc_ways pm_ways cd_ways ct_ways : Value}
    (a_ways : PySem.W.nsIn K mainGlobals "ways" = some (some (.ref f_ways)))
    (l_ways : K.lookup f_ways = some ⟨oc_ways, od_ways, .func (PySem.W.fnOf "ways" "ways" (defArgs s_ways) (defBody s_ways) (defScope s_ways) .none kV_ways dc_ways pm_ways an_ways cd_ways ct_ways), sl_ways⟩) (c_ways : PySem.W.codeIn K cd_ways "ways" = true) (k_ways : PySem.W.keepIn K (.ref f_ways) = true)
    {od_needs an_needs : Option Addr} {sl_needs : Array (Option Value)} {oc_needs kV_needs dc_needs pm_needs cd_needs ct_needs : Value}
    (a_needs : PySem.W.nsIn K mainGlobals "needs" = some (some (.ref f_needs)))
    (l_needs : K.lookup f_needs = some ⟨oc_needs, od_needs, .func (PySem.W.fnOf "needs" "needs" (defArgs s_needs) (defBody s_needs) (defScope s_needs) .none kV_needs dc_needs pm_needs an_needs cd_needs ct_needs), sl_needs⟩) (c_needs : PySem.W.codeIn K cd_needs "needs" = true) (k_needs : PySem.W.keepIn K (.ref f_needs) = true)
    {od_makeable an_makeable : Option Addr} {sl_makeable : Array (Option Value)} {oc_makeable kV_makeable dc_makeable pm_makeable cd_makeable ct_makeable : Value}
    (a_makeable : PySem.W.nsIn K mainGlobals "makeable" = some (some (.ref f_makeable)))
    (l_makeable : K.lookup f_makeable = some ⟨oc_makeable, od_makeable, .func (PySem.W.fnOf "makeable" "makeable" (defArgs s_makeable) (defBody s_makeable) (defScope s_makeable) .none kV_makeable dc_makeable pm_makeable an_makeable cd_makeable ct_makeable), sl_makeable⟩) (c_makeable : PySem.W.codeIn K cd_makeable "makeable" = true) (k_makeable : PySem.W.keepIn K (.ref f_makeable) = true)
    {od_kinds_made an_kinds_made : Option Addr} {sl_kinds_made : Array (Option Value)} {oc_kinds_made kV_kinds_made dc_kinds_made pm_kinds_made cd_kinds_made ct_kinds_made : Value}
    (a_kinds_made : PySem.W.nsIn K mainGlobals "_kinds_made" = some (some (.ref f_kinds_made)))
    (l_kinds_made : K.lookup f_kinds_made = some ⟨oc_kinds_made, od_kinds_made, .func (PySem.W.fnOf "_kinds_made" "_kinds_made" (defArgs s_kinds_made) (defBody s_kinds_made) (defScope s_kinds_made) .none kV_kinds_made dc_kinds_made pm_kinds_made an_kinds_made cd_kinds_made ct_kinds_made), sl_kinds_made⟩) (c_kinds_made : PySem.W.codeIn K cd_kinds_made "_kinds_made" = true) (k_kinds_made : PySem.W.keepIn K (.ref f_kinds_made) = true)
    {od_is_thing an_is_thing : Option Addr} {sl_is_thing : Array (Option Value)} {oc_is_thing kV_is_thing dc_is_thing pm_is_thing cd_is_thing ct_is_thing : Value}
    (a_is_thing : PySem.W.nsIn K mainGlobals "is_thing" = some (some (.ref f_is_thing)))
    (l_is_thing : K.lookup f_is_thing = some ⟨oc_is_thing, od_is_thing, .func (PySem.W.fnOf "is_thing" "is_thing" (defArgs s_is_thing) (defBody s_is_thing) (defScope s_is_thing) .none kV_is_thing dc_is_thing pm_is_thing an_is_thing cd_is_thing ct_is_thing), sl_is_thing⟩) (c_is_thing : PySem.W.codeIn K cd_is_thing "is_thing" = true) (k_is_thing : PySem.W.keepIn K (.ref f_is_thing) = true)
    {od_check_thing an_check_thing : Option Addr} {sl_check_thing : Array (Option Value)} {oc_check_thing kV_check_thing dc_check_thing pm_check_thing cd_check_thing ct_check_thing : Value}
    (a_check_thing : PySem.W.nsIn K mainGlobals "_check_thing" = some (some (.ref f_check_thing)))
    (l_check_thing : K.lookup f_check_thing = some ⟨oc_check_thing, od_check_thing, .func (PySem.W.fnOf "_check_thing" "_check_thing" (defArgs s_check_thing) (defBody s_check_thing) (defScope s_check_thing) .none kV_check_thing dc_check_thing pm_check_thing an_check_thing cd_check_thing ct_check_thing), sl_check_thing⟩) (c_check_thing : PySem.W.codeIn K cd_check_thing "_check_thing" = true) (k_check_thing : PySem.W.keepIn K (.ref f_check_thing) = true)
    {od_is_way an_is_way : Option Addr} {sl_is_way : Array (Option Value)} {oc_is_way kV_is_way dc_is_way pm_is_way cd_is_way ct_is_way : Value}
    (a_is_way : PySem.W.nsIn K mainGlobals "is_way" = some (some (.ref f_is_way)))
    (l_is_way : K.lookup f_is_way = some ⟨oc_is_way, od_is_way, .func (PySem.W.fnOf "is_way" "is_way" (defArgs s_is_way) (defBody s_is_way) (defScope s_is_way) .none kV_is_way dc_is_way pm_is_way an_is_way cd_is_way ct_is_way), sl_is_way⟩) (c_is_way : PySem.W.codeIn K cd_is_way "is_way" = true) (k_is_way : PySem.W.keepIn K (.ref f_is_way) = true)
    {od_is_way_to an_is_way_to : Option Addr} {sl_is_way_to : Array (Option Value)} {oc_is_way_to kV_is_way_to dc_is_way_to pm_is_way_to cd_is_way_to ct_is_way_to : Value}
    (a_is_way_to : PySem.W.nsIn K mainGlobals "is_way_to" = some (some (.ref f_is_way_to)))
    (l_is_way_to : K.lookup f_is_way_to = some ⟨oc_is_way_to, od_is_way_to, .func (PySem.W.fnOf "is_way_to" "is_way_to" (defArgs s_is_way_to) (defBody s_is_way_to) (defScope s_is_way_to) .none kV_is_way_to dc_is_way_to pm_is_way_to an_is_way_to cd_is_way_to ct_is_way_to), sl_is_way_to⟩) (c_is_way_to : PySem.W.codeIn K cd_is_way_to "is_way_to" = true) (k_is_way_to : PySem.W.keepIn K (.ref f_is_way_to) = true)
    {od_ways_to an_ways_to : Option Addr} {sl_ways_to : Array (Option Value)} {oc_ways_to kV_ways_to dc_ways_to pm_ways_to cd_ways_to ct_ways_to : Value}
    (a_ways_to : PySem.W.nsIn K mainGlobals "ways_to" = some (some (.ref f_ways_to)))
    (l_ways_to : K.lookup f_ways_to = some ⟨oc_ways_to, od_ways_to, .func (PySem.W.fnOf "ways_to" "ways_to" (defArgs s_ways_to) (defBody s_ways_to) (defScope s_ways_to) .none kV_ways_to dc_ways_to pm_ways_to an_ways_to cd_ways_to ct_ways_to), sl_ways_to⟩) (c_ways_to : PySem.W.codeIn K cd_ways_to "ways_to" = true) (k_ways_to : PySem.W.keepIn K (.ref f_ways_to) = true)
    {od_needs_for an_needs_for : Option Addr} {sl_needs_for : Array (Option Value)} {oc_needs_for kV_needs_for dc_needs_for pm_needs_for cd_needs_for ct_needs_for : Value}
    (a_needs_for : PySem.W.nsIn K mainGlobals "needs_for" = some (some (.ref f_needs_for)))
    (l_needs_for : K.lookup f_needs_for = some ⟨oc_needs_for, od_needs_for, .func (PySem.W.fnOf "needs_for" "needs_for" (defArgs s_needs_for) (defBody s_needs_for) (defScope s_needs_for) .none kV_needs_for dc_needs_for pm_needs_for an_needs_for cd_needs_for ct_needs_for), sl_needs_for⟩) (c_needs_for : PySem.W.codeIn K cd_needs_for "needs_for" = true) (k_needs_for : PySem.W.keepIn K (.ref f_needs_for) = true)
    {od_needs_by_parts an_needs_by_parts : Option Addr} {sl_needs_by_parts : Array (Option Value)} {oc_needs_by_parts kV_needs_by_parts dc_needs_by_parts pm_needs_by_parts cd_needs_by_parts ct_needs_by_parts : Value}
    (a_needs_by_parts : PySem.W.nsIn K mainGlobals "needs_by_parts" = some (some (.ref f_needs_by_parts)))
    (l_needs_by_parts : K.lookup f_needs_by_parts = some ⟨oc_needs_by_parts, od_needs_by_parts, .func (PySem.W.fnOf "needs_by_parts" "needs_by_parts" (defArgs s_needs_by_parts) (defBody s_needs_by_parts) (defScope s_needs_by_parts) .none kV_needs_by_parts dc_needs_by_parts pm_needs_by_parts an_needs_by_parts cd_needs_by_parts ct_needs_by_parts), sl_needs_by_parts⟩) (c_needs_by_parts : PySem.W.codeIn K cd_needs_by_parts "needs_by_parts" = true) (k_needs_by_parts : PySem.W.keepIn K (.ref f_needs_by_parts) = true)
    {od_law_bag an_law_bag : Option Addr} {sl_law_bag : Array (Option Value)} {oc_law_bag kV_law_bag dc_law_bag pm_law_bag cd_law_bag ct_law_bag : Value}
    (a_law_bag : PySem.W.nsIn K mainGlobals "_law_bag" = some (some (.ref f_law_bag)))
    (l_law_bag : K.lookup f_law_bag = some ⟨oc_law_bag, od_law_bag, .func (PySem.W.fnOf "_law_bag" "_law_bag" (defArgs s_law_bag) (defBody s_law_bag) (defScope s_law_bag) .none kV_law_bag dc_law_bag pm_law_bag an_law_bag cd_law_bag ct_law_bag), sl_law_bag⟩) (c_law_bag : PySem.W.codeIn K cd_law_bag "_law_bag" = true) (k_law_bag : PySem.W.keepIn K (.ref f_law_bag) = true)
    {od_law_pick an_law_pick : Option Addr} {sl_law_pick : Array (Option Value)} {oc_law_pick kV_law_pick dc_law_pick pm_law_pick cd_law_pick ct_law_pick : Value}
    (a_law_pick : PySem.W.nsIn K mainGlobals "_law_pick" = some (some (.ref f_law_pick)))
    (l_law_pick : K.lookup f_law_pick = some ⟨oc_law_pick, od_law_pick, .func (PySem.W.fnOf "_law_pick" "_law_pick" (defArgs s_law_pick) (defBody s_law_pick) (defScope s_law_pick) .none kV_law_pick dc_law_pick pm_law_pick an_law_pick cd_law_pick ct_law_pick), sl_law_pick⟩) (c_law_pick : PySem.W.codeIn K cd_law_pick "_law_pick" = true) (k_law_pick : PySem.W.keepIn K (.ref f_law_pick) = true)
    {od_law_price an_law_price : Option Addr} {sl_law_price : Array (Option Value)} {oc_law_price kV_law_price dc_law_price pm_law_price cd_law_price ct_law_price : Value}
    (a_law_price : PySem.W.nsIn K mainGlobals "_law_price" = some (some (.ref f_law_price)))
    (l_law_price : K.lookup f_law_price = some ⟨oc_law_price, od_law_price, .func (PySem.W.fnOf "_law_price" "_law_price" (defArgs s_law_price) (defBody s_law_price) (defScope s_law_price) .none kV_law_price dc_law_price pm_law_price an_law_price cd_law_price ct_law_price), sl_law_price⟩) (c_law_price : PySem.W.codeIn K cd_law_price "_law_price" = true) (k_law_price : PySem.W.keepIn K (.ref f_law_price) = true)
    {od_law_arities an_law_arities : Option Addr} {sl_law_arities : Array (Option Value)} {oc_law_arities kV_law_arities dc_law_arities pm_law_arities cd_law_arities ct_law_arities : Value}
    (a_law_arities : PySem.W.nsIn K mainGlobals "_law_arities" = some (some (.ref f_law_arities)))
    (l_law_arities : K.lookup f_law_arities = some ⟨oc_law_arities, od_law_arities, .func (PySem.W.fnOf "_law_arities" "_law_arities" (defArgs s_law_arities) (defBody s_law_arities) (defScope s_law_arities) .none kV_law_arities dc_law_arities pm_law_arities an_law_arities cd_law_arities ct_law_arities), sl_law_arities⟩) (c_law_arities : PySem.W.codeIn K cd_law_arities "_law_arities" = true) (k_law_arities : PySem.W.keepIn K (.ref f_law_arities) = true)
    {od_law_rules an_law_rules : Option Addr} {sl_law_rules : Array (Option Value)} {oc_law_rules kV_law_rules dc_law_rules pm_law_rules cd_law_rules ct_law_rules : Value}
    (a_law_rules : PySem.W.nsIn K mainGlobals "_law_rules" = some (some (.ref f_law_rules)))
    (l_law_rules : K.lookup f_law_rules = some ⟨oc_law_rules, od_law_rules, .func (PySem.W.fnOf "_law_rules" "_law_rules" (defArgs s_law_rules) (defBody s_law_rules) (defScope s_law_rules) .none kV_law_rules dc_law_rules pm_law_rules an_law_rules cd_law_rules ct_law_rules), sl_law_rules⟩) (c_law_rules : PySem.W.codeIn K cd_law_rules "_law_rules" = true) (k_law_rules : PySem.W.keepIn K (.ref f_law_rules) = true)
    {od_law_moves an_law_moves : Option Addr} {sl_law_moves : Array (Option Value)} {oc_law_moves kV_law_moves dc_law_moves pm_law_moves cd_law_moves ct_law_moves : Value}
    (a_law_moves : PySem.W.nsIn K mainGlobals "_law_moves" = some (some (.ref f_law_moves)))
    (l_law_moves : K.lookup f_law_moves = some ⟨oc_law_moves, od_law_moves, .func (PySem.W.fnOf "_law_moves" "_law_moves" (defArgs s_law_moves) (defBody s_law_moves) (defScope s_law_moves) .none kV_law_moves dc_law_moves pm_law_moves an_law_moves cd_law_moves ct_law_moves), sl_law_moves⟩) (c_law_moves : PySem.W.codeIn K cd_law_moves "_law_moves" = true) (k_law_moves : PySem.W.keepIn K (.ref f_law_moves) = true)
    {od_law_book an_law_book : Option Addr} {sl_law_book : Array (Option Value)} {oc_law_book kV_law_book dc_law_book pm_law_book cd_law_book ct_law_book : Value}
    (a_law_book : PySem.W.nsIn K mainGlobals "_law_book" = some (some (.ref f_law_book)))
    (l_law_book : K.lookup f_law_book = some ⟨oc_law_book, od_law_book, .func (PySem.W.fnOf "_law_book" "_law_book" (defArgs s_law_book) (defBody s_law_book) (defScope s_law_book) .none kV_law_book dc_law_book pm_law_book an_law_book cd_law_book ct_law_book), sl_law_book⟩) (c_law_book : PySem.W.codeIn K cd_law_book "_law_book" = true) (k_law_book : PySem.W.keepIn K (.ref f_law_book) = true)
    {od_law_values an_law_values : Option Addr} {sl_law_values : Array (Option Value)} {oc_law_values kV_law_values dc_law_values pm_law_values cd_law_values ct_law_values : Value}
    (a_law_values : PySem.W.nsIn K mainGlobals "_law_values" = some (some (.ref f_law_values)))
    (l_law_values : K.lookup f_law_values = some ⟨oc_law_values, od_law_values, .func (PySem.W.fnOf "_law_values" "_law_values" (defArgs s_law_values) (defBody s_law_values) (defScope s_law_values) .none kV_law_values dc_law_values pm_law_values an_law_values cd_law_values ct_law_values), sl_law_values⟩) (c_law_values : PySem.W.codeIn K cd_law_values "_law_values" = true) (k_law_values : PySem.W.keepIn K (.ref f_law_values) = true)
    {od_law_same an_law_same : Option Addr} {sl_law_same : Array (Option Value)} {oc_law_same kV_law_same dc_law_same pm_law_same cd_law_same ct_law_same : Value}
    (a_law_same : PySem.W.nsIn K mainGlobals "_law_same" = some (some (.ref f_law_same)))
    (l_law_same : K.lookup f_law_same = some ⟨oc_law_same, od_law_same, .func (PySem.W.fnOf "_law_same" "_law_same" (defArgs s_law_same) (defBody s_law_same) (defScope s_law_same) .none kV_law_same dc_law_same pm_law_same an_law_same cd_law_same ct_law_same), sl_law_same⟩) (c_law_same : PySem.W.codeIn K cd_law_same "_law_same" = true) (k_law_same : PySem.W.keepIn K (.ref f_law_same) = true)
    {od_law_great_book an_law_great_book : Option Addr} {sl_law_great_book : Array (Option Value)} {oc_law_great_book kV_law_great_book dc_law_great_book pm_law_great_book cd_law_great_book ct_law_great_book : Value}
    (a_law_great_book : PySem.W.nsIn K mainGlobals "_law_great_book" = some (some (.ref f_law_great_book)))
    (l_law_great_book : K.lookup f_law_great_book = some ⟨oc_law_great_book, od_law_great_book, .func (PySem.W.fnOf "_law_great_book" "_law_great_book" (defArgs s_law_great_book) (defBody s_law_great_book) (defScope s_law_great_book) .none kV_law_great_book dc_law_great_book pm_law_great_book an_law_great_book cd_law_great_book ct_law_great_book), sl_law_great_book⟩) (c_law_great_book : PySem.W.codeIn K cd_law_great_book "_law_great_book" = true) (k_law_great_book : PySem.W.keepIn K (.ref f_law_great_book) = true)
    {od_law_ways an_law_ways : Option Addr} {sl_law_ways : Array (Option Value)} {oc_law_ways kV_law_ways dc_law_ways pm_law_ways cd_law_ways ct_law_ways : Value}
    (a_law_ways : PySem.W.nsIn K mainGlobals "_law_ways" = some (some (.ref f_law_ways)))
    (l_law_ways : K.lookup f_law_ways = some ⟨oc_law_ways, od_law_ways, .func (PySem.W.fnOf "_law_ways" "_law_ways" (defArgs s_law_ways) (defBody s_law_ways) (defScope s_law_ways) .none kV_law_ways dc_law_ways pm_law_ways an_law_ways cd_law_ways ct_law_ways), sl_law_ways⟩) (c_law_ways : PySem.W.codeIn K cd_law_ways "_law_ways" = true) (k_law_ways : PySem.W.keepIn K (.ref f_law_ways) = true)
    {od_law_needs an_law_needs : Option Addr} {sl_law_needs : Array (Option Value)} {oc_law_needs kV_law_needs dc_law_needs pm_law_needs cd_law_needs ct_law_needs : Value}
    (a_law_needs : PySem.W.nsIn K mainGlobals "_law_needs" = some (some (.ref f_law_needs)))
    (l_law_needs : K.lookup f_law_needs = some ⟨oc_law_needs, od_law_needs, .func (PySem.W.fnOf "_law_needs" "_law_needs" (defArgs s_law_needs) (defBody s_law_needs) (defScope s_law_needs) .none kV_law_needs dc_law_needs pm_law_needs an_law_needs cd_law_needs ct_law_needs), sl_law_needs⟩) (c_law_needs : PySem.W.codeIn K cd_law_needs "_law_needs" = true) (k_law_needs : PySem.W.keepIn K (.ref f_law_needs) = true)
    {od_law_are_in an_law_are_in : Option Addr} {sl_law_are_in : Array (Option Value)} {oc_law_are_in kV_law_are_in dc_law_are_in pm_law_are_in cd_law_are_in ct_law_are_in : Value}
    (a_law_are_in : PySem.W.nsIn K mainGlobals "_law_are_in" = some (some (.ref f_law_are_in)))
    (l_law_are_in : K.lookup f_law_are_in = some ⟨oc_law_are_in, od_law_are_in, .func (PySem.W.fnOf "_law_are_in" "_law_are_in" (defArgs s_law_are_in) (defBody s_law_are_in) (defScope s_law_are_in) .none kV_law_are_in dc_law_are_in pm_law_are_in an_law_are_in cd_law_are_in ct_law_are_in), sl_law_are_in⟩) (c_law_are_in : PySem.W.codeIn K cd_law_are_in "_law_are_in" = true) (k_law_are_in : PySem.W.keepIn K (.ref f_law_are_in) = true)
    {od_law_makeable an_law_makeable : Option Addr} {sl_law_makeable : Array (Option Value)} {oc_law_makeable kV_law_makeable dc_law_makeable pm_law_makeable cd_law_makeable ct_law_makeable : Value}
    (a_law_makeable : PySem.W.nsIn K mainGlobals "_law_makeable" = some (some (.ref f_law_makeable)))
    (l_law_makeable : K.lookup f_law_makeable = some ⟨oc_law_makeable, od_law_makeable, .func (PySem.W.fnOf "_law_makeable" "_law_makeable" (defArgs s_law_makeable) (defBody s_law_makeable) (defScope s_law_makeable) .none kV_law_makeable dc_law_makeable pm_law_makeable an_law_makeable cd_law_makeable ct_law_makeable), sl_law_makeable⟩) (c_law_makeable : PySem.W.codeIn K cd_law_makeable "_law_makeable" = true) (k_law_makeable : PySem.W.keepIn K (.ref f_law_makeable) = true)
    {od_law_size an_law_size : Option Addr} {sl_law_size : Array (Option Value)} {oc_law_size kV_law_size dc_law_size pm_law_size cd_law_size ct_law_size : Value}
    (a_law_size : PySem.W.nsIn K mainGlobals "_law_size" = some (some (.ref f_law_size)))
    (l_law_size : K.lookup f_law_size = some ⟨oc_law_size, od_law_size, .func (PySem.W.fnOf "_law_size" "_law_size" (defArgs s_law_size) (defBody s_law_size) (defScope s_law_size) .none kV_law_size dc_law_size pm_law_size an_law_size cd_law_size ct_law_size), sl_law_size⟩) (c_law_size : PySem.W.codeIn K cd_law_size "_law_size" = true) (k_law_size : PySem.W.keepIn K (.ref f_law_size) = true)
    {od_law_sound_book an_law_sound_book : Option Addr} {sl_law_sound_book : Array (Option Value)} {oc_law_sound_book kV_law_sound_book dc_law_sound_book pm_law_sound_book cd_law_sound_book ct_law_sound_book : Value}
    (a_law_sound_book : PySem.W.nsIn K mainGlobals "_law_sound_book" = some (some (.ref f_law_sound_book)))
    (l_law_sound_book : K.lookup f_law_sound_book = some ⟨oc_law_sound_book, od_law_sound_book, .func (PySem.W.fnOf "_law_sound_book" "_law_sound_book" (defArgs s_law_sound_book) (defBody s_law_sound_book) (defScope s_law_sound_book) .none kV_law_sound_book dc_law_sound_book pm_law_sound_book an_law_sound_book cd_law_sound_book ct_law_sound_book), sl_law_sound_book⟩) (c_law_sound_book : PySem.W.codeIn K cd_law_sound_book "_law_sound_book" = true) (k_law_sound_book : PySem.W.keepIn K (.ref f_law_sound_book) = true)
    {od_law_are_told an_law_are_told : Option Addr} {sl_law_are_told : Array (Option Value)} {oc_law_are_told kV_law_are_told dc_law_are_told pm_law_are_told cd_law_are_told ct_law_are_told : Value}
    (a_law_are_told : PySem.W.nsIn K mainGlobals "_law_are_told" = some (some (.ref f_law_are_told)))
    (l_law_are_told : K.lookup f_law_are_told = some ⟨oc_law_are_told, od_law_are_told, .func (PySem.W.fnOf "_law_are_told" "_law_are_told" (defArgs s_law_are_told) (defBody s_law_are_told) (defScope s_law_are_told) .none kV_law_are_told dc_law_are_told pm_law_are_told an_law_are_told cd_law_are_told ct_law_are_told), sl_law_are_told⟩) (c_law_are_told : PySem.W.codeIn K cd_law_are_told "_law_are_told" = true) (k_law_are_told : PySem.W.keepIn K (.ref f_law_are_told) = true)
    {od_law an_law : Option Addr} {sl_law : Array (Option Value)} {oc_law kV_law dc_law pm_law cd_law ct_law : Value}
    (a_law : PySem.W.nsIn K mainGlobals "law" = some (some (.ref f_law)))
    (l_law : K.lookup f_law = some ⟨oc_law, od_law, .func (PySem.W.fnOf "law" "law" (defArgs s_law) (defBody s_law) (defScope s_law) .none kV_law dc_law pm_law an_law cd_law ct_law), sl_law⟩) (c_law : PySem.W.codeIn K cd_law "law" = true) (k_law : PySem.W.keepIn K (.ref f_law) = true)
    (z_abs : PySem.W.nsIn K mainGlobals "abs" = some none)
    (z_all : PySem.W.nsIn K mainGlobals "all" = some none)
    (z_bool : PySem.W.nsIn K mainGlobals "bool" = some none)
    (z_enumerate : PySem.W.nsIn K mainGlobals "enumerate" = some none)
    (z_int : PySem.W.nsIn K mainGlobals "int" = some none)
    (z_isinstance : PySem.W.nsIn K mainGlobals "isinstance" = some none)
    (z_len : PySem.W.nsIn K mainGlobals "len" = some none)
    (z_list : PySem.W.nsIn K mainGlobals "list" = some none)
    (z_max : PySem.W.nsIn K mainGlobals "max" = some none)
    (z_range : PySem.W.nsIn K mainGlobals "range" = some none)
    (z_sorted : PySem.W.nsIn K mainGlobals "sorted" = some none)
    (z_str : PySem.W.nsIn K mainGlobals "str" = some none)
    (z_sum : PySem.W.nsIn K mainGlobals "sum" = some none)
    (z_tuple : PySem.W.nsIn K mainGlobals "tuple" = some none)
    (z_zip : PySem.W.nsIn K mainGlobals "zip" = some none)
    (pg_Book : PySem.W.plainGet K c_Book Str.empty = true)
    (hd_Book : PySem.W.hasDictIn K c_Book = true)
    (po_Book : PySem.W.plainOver K c_Book = true)
    (sa_Book : PySem.W.findIn K (.ref c_Book) "__setattr__" = some (some (.builtin "object.__setattr__")))
    (mk_Book : PySem.W.makesIn K c_Book = true)
    (fi_Book_init : PySem.W.isFn K (.ref f_Book_init) = true)
    (kc_Book : PySem.W.keepIn K (.ref c_Book) = true)
    (ha_Book : PySem.W.findIn K (.ref c_Book) "__class__" = some (some (.builtin "object.__class__")))
    (hm_Book : PySem.W.mroIn K c_Book (.type "object") = some true)
    (nr_arities : PySem.W.findIn K (.ref c_Book) "arities" = some none)
    (nr_kinds : PySem.W.findIn K (.ref c_Book) "kinds" = some none)
    (nr_rules : PySem.W.findIn K (.ref c_Book) "rules" = some none)
    (nr_moves : PySem.W.findIn K (.ref c_Book) "moves" = some none)
    (pg_Web : PySem.W.plainGet K c_Web Str.empty = true)
    (hd_Web : PySem.W.hasDictIn K c_Web = true)
    (po_Web : PySem.W.plainOver K c_Web = true)
    (sa_Web : PySem.W.findIn K (.ref c_Web) "__setattr__" = some (some (.builtin "object.__setattr__")))
    (mk_Web : PySem.W.makesIn K c_Web = true)
    (fi_Web_init : PySem.W.isFn K (.ref f_Web_init) = true)
    (kc_Web : PySem.W.keepIn K (.ref c_Web) = true)
    (ha_Web : PySem.W.findIn K (.ref c_Web) "__class__" = some (some (.builtin "object.__class__")))
    (hm_Web : PySem.W.mroIn K c_Web (.type "object") = some true)
    (nr_rows : PySem.W.findIn K (.ref c_Web) "rows" = some none)
    (hn_cls : PySem.W.specialIn K (.builtin "object.__class__") "__get__" = some (some (.builtin "getset_descriptor.__get__")))
    (ht_cls : PySem.W.takesIn K (.builtin "object.__class__") = some true)
    : ∃ fd : FuncData, (∀ (s : Shared) (v : Value), BindsTo s fd ⟨[v], []⟩ [("_law_script", v)]) ∧ ∀ base : Heap, K.In base → base.Ns mainGlobals mg → FnOk l.prog w K mg base CX0 12 fa fd ["_law_script"] (spLaw K) := by
  have e := hfa.symm.trans (PySem.W.mg_of X G a_law)
  cases e
  have F_is_integer := fun_mk (st := s_is_integer) l_is_integer c_is_integer k_is_integer
  have F_is_between := fun_mk (st := s_is_between) l_is_between c_is_between k_is_between
  have F_is_tuple_of := fun_mk (st := s_is_tuple_of) l_is_tuple_of c_is_tuple_of k_is_tuple_of
  have F_Book_init := fun_mk (st := s_Book_init) l_Book_init c_Book_init k_Book_init
  have F_check_frame := fun_mk (st := s_check_frame) l_check_frame c_check_frame k_check_frame
  have F_check_rules := fun_mk (st := s_check_rules) l_check_rules c_check_rules k_check_rules
  have F_check_moves := fun_mk (st := s_check_moves) l_check_moves c_check_moves k_check_moves
  have F_is_rule := fun_mk (st := s_is_rule) l_is_rule c_is_rule k_is_rule
  have F_is_move := fun_mk (st := s_is_move) l_is_move c_is_move k_is_move
  have F_is_price := fun_mk (st := s_is_price) l_is_price c_is_price k_is_price
  have F_Web_init := fun_mk (st := s_Web_init) l_Web_init c_Web_init k_Web_init
  have F_is_value := fun_mk (st := s_is_value) l_is_value c_is_value k_is_value
  have F_fits := fun_mk (st := s_fits) l_fits c_fits k_fits
  have F_is_row_of := fun_mk (st := s_is_row_of) l_is_row_of c_is_row_of k_is_row_of
  have F_check_web := fun_mk (st := s_check_web) l_check_web c_check_web k_check_web
  have F_ways := fun_mk (st := s_ways) l_ways c_ways k_ways
  have F_needs := fun_mk (st := s_needs) l_needs c_needs k_needs
  have F_makeable := fun_mk (st := s_makeable) l_makeable c_makeable k_makeable
  have F_kinds_made := fun_mk (st := s_kinds_made) l_kinds_made c_kinds_made k_kinds_made
  have F_is_thing := fun_mk (st := s_is_thing) l_is_thing c_is_thing k_is_thing
  have F_check_thing := fun_mk (st := s_check_thing) l_check_thing c_check_thing k_check_thing
  have F_is_way := fun_mk (st := s_is_way) l_is_way c_is_way k_is_way
  have F_is_way_to := fun_mk (st := s_is_way_to) l_is_way_to c_is_way_to k_is_way_to
  have F_ways_to := fun_mk (st := s_ways_to) l_ways_to c_ways_to k_ways_to
  have F_needs_for := fun_mk (st := s_needs_for) l_needs_for c_needs_for k_needs_for
  have F_needs_by_parts := fun_mk (st := s_needs_by_parts) l_needs_by_parts c_needs_by_parts k_needs_by_parts
  have F_law_bag := fun_mk (st := s_law_bag) l_law_bag c_law_bag k_law_bag
  have F_law_pick := fun_mk (st := s_law_pick) l_law_pick c_law_pick k_law_pick
  have F_law_price := fun_mk (st := s_law_price) l_law_price c_law_price k_law_price
  have F_law_arities := fun_mk (st := s_law_arities) l_law_arities c_law_arities k_law_arities
  have F_law_rules := fun_mk (st := s_law_rules) l_law_rules c_law_rules k_law_rules
  have F_law_moves := fun_mk (st := s_law_moves) l_law_moves c_law_moves k_law_moves
  have F_law_book := fun_mk (st := s_law_book) l_law_book c_law_book k_law_book
  have F_law_values := fun_mk (st := s_law_values) l_law_values c_law_values k_law_values
  have F_law_same := fun_mk (st := s_law_same) l_law_same c_law_same k_law_same
  have F_law_great_book := fun_mk (st := s_law_great_book) l_law_great_book c_law_great_book k_law_great_book
  have F_law_ways := fun_mk (st := s_law_ways) l_law_ways c_law_ways k_law_ways
  have F_law_needs := fun_mk (st := s_law_needs) l_law_needs c_law_needs k_law_needs
  have F_law_are_in := fun_mk (st := s_law_are_in) l_law_are_in c_law_are_in k_law_are_in
  have F_law_makeable := fun_mk (st := s_law_makeable) l_law_makeable c_law_makeable k_law_makeable
  have F_law_size := fun_mk (st := s_law_size) l_law_size c_law_size k_law_size
  have F_law_sound_book := fun_mk (st := s_law_sound_book) l_law_sound_book c_law_sound_book k_law_sound_book
  have F_law_are_told := fun_mk (st := s_law_are_told) l_law_are_told c_law_are_told k_law_are_told
  have F_law := fun_mk (st := s_law) l_law c_law k_law
  let A : Adr := {
    f_is_integer := f_is_integer, d_is_integer := (PySem.W.fnOf "is_integer" "is_integer" (defArgs s_is_integer) (defBody s_is_integer) (defScope s_is_integer) .none kV_is_integer dc_is_integer pm_is_integer an_is_integer cd_is_integer ct_is_integer),
    f_is_between := f_is_between, d_is_between := (PySem.W.fnOf "is_between" "is_between" (defArgs s_is_between) (defBody s_is_between) (defScope s_is_between) .none kV_is_between dc_is_between pm_is_between an_is_between cd_is_between ct_is_between),
    f_is_tuple_of := f_is_tuple_of, d_is_tuple_of := (PySem.W.fnOf "is_tuple_of" "is_tuple_of" (defArgs s_is_tuple_of) (defBody s_is_tuple_of) (defScope s_is_tuple_of) .none kV_is_tuple_of dc_is_tuple_of pm_is_tuple_of an_is_tuple_of cd_is_tuple_of ct_is_tuple_of),
    f_Book_init := f_Book_init, d_Book_init := (PySem.W.fnOf "__init__" "Book.__init__" (defArgs s_Book_init) (defBody s_Book_init) (defScope s_Book_init) .none kV_Book_init dc_Book_init pm_Book_init an_Book_init cd_Book_init ct_Book_init),
    f_check_frame := f_check_frame, d_check_frame := (PySem.W.fnOf "_check_frame" "_check_frame" (defArgs s_check_frame) (defBody s_check_frame) (defScope s_check_frame) .none kV_check_frame dc_check_frame pm_check_frame an_check_frame cd_check_frame ct_check_frame),
    f_check_rules := f_check_rules, d_check_rules := (PySem.W.fnOf "_check_rules" "_check_rules" (defArgs s_check_rules) (defBody s_check_rules) (defScope s_check_rules) .none kV_check_rules dc_check_rules pm_check_rules an_check_rules cd_check_rules ct_check_rules),
    f_check_moves := f_check_moves, d_check_moves := (PySem.W.fnOf "_check_moves" "_check_moves" (defArgs s_check_moves) (defBody s_check_moves) (defScope s_check_moves) .none kV_check_moves dc_check_moves pm_check_moves an_check_moves cd_check_moves ct_check_moves),
    f_is_rule := f_is_rule, d_is_rule := (PySem.W.fnOf "_is_rule" "_is_rule" (defArgs s_is_rule) (defBody s_is_rule) (defScope s_is_rule) .none kV_is_rule dc_is_rule pm_is_rule an_is_rule cd_is_rule ct_is_rule),
    f_is_move := f_is_move, d_is_move := (PySem.W.fnOf "_is_move" "_is_move" (defArgs s_is_move) (defBody s_is_move) (defScope s_is_move) .none kV_is_move dc_is_move pm_is_move an_is_move cd_is_move ct_is_move),
    f_is_price := f_is_price, d_is_price := (PySem.W.fnOf "is_price" "is_price" (defArgs s_is_price) (defBody s_is_price) (defScope s_is_price) .none kV_is_price dc_is_price pm_is_price an_is_price cd_is_price ct_is_price),
    f_Web_init := f_Web_init, d_Web_init := (PySem.W.fnOf "__init__" "Web.__init__" (defArgs s_Web_init) (defBody s_Web_init) (defScope s_Web_init) .none kV_Web_init dc_Web_init pm_Web_init an_Web_init cd_Web_init ct_Web_init),
    f_is_value := f_is_value, d_is_value := (PySem.W.fnOf "_is_value" "_is_value" (defArgs s_is_value) (defBody s_is_value) (defScope s_is_value) .none kV_is_value dc_is_value pm_is_value an_is_value cd_is_value ct_is_value),
    f_fits := f_fits, d_fits := (PySem.W.fnOf "fits" "fits" (defArgs s_fits) (defBody s_fits) (defScope s_fits) .none kV_fits dc_fits pm_fits an_fits cd_fits ct_fits),
    f_is_row_of := f_is_row_of, d_is_row_of := (PySem.W.fnOf "_is_row_of" "_is_row_of" (defArgs s_is_row_of) (defBody s_is_row_of) (defScope s_is_row_of) .none kV_is_row_of dc_is_row_of pm_is_row_of an_is_row_of cd_is_row_of ct_is_row_of),
    f_check_web := f_check_web, d_check_web := (PySem.W.fnOf "check_web" "check_web" (defArgs s_check_web) (defBody s_check_web) (defScope s_check_web) .none kV_check_web dc_check_web pm_check_web an_check_web cd_check_web ct_check_web),
    f_ways := f_ways, d_ways := (PySem.W.fnOf "ways" "ways" (defArgs s_ways) (defBody s_ways) (defScope s_ways) .none kV_ways dc_ways pm_ways an_ways cd_ways ct_ways),
    f_needs := f_needs, d_needs := (PySem.W.fnOf "needs" "needs" (defArgs s_needs) (defBody s_needs) (defScope s_needs) .none kV_needs dc_needs pm_needs an_needs cd_needs ct_needs),
    f_makeable := f_makeable, d_makeable := (PySem.W.fnOf "makeable" "makeable" (defArgs s_makeable) (defBody s_makeable) (defScope s_makeable) .none kV_makeable dc_makeable pm_makeable an_makeable cd_makeable ct_makeable),
    f_kinds_made := f_kinds_made, d_kinds_made := (PySem.W.fnOf "_kinds_made" "_kinds_made" (defArgs s_kinds_made) (defBody s_kinds_made) (defScope s_kinds_made) .none kV_kinds_made dc_kinds_made pm_kinds_made an_kinds_made cd_kinds_made ct_kinds_made),
    f_is_thing := f_is_thing, d_is_thing := (PySem.W.fnOf "is_thing" "is_thing" (defArgs s_is_thing) (defBody s_is_thing) (defScope s_is_thing) .none kV_is_thing dc_is_thing pm_is_thing an_is_thing cd_is_thing ct_is_thing),
    f_check_thing := f_check_thing, d_check_thing := (PySem.W.fnOf "_check_thing" "_check_thing" (defArgs s_check_thing) (defBody s_check_thing) (defScope s_check_thing) .none kV_check_thing dc_check_thing pm_check_thing an_check_thing cd_check_thing ct_check_thing),
    f_is_way := f_is_way, d_is_way := (PySem.W.fnOf "is_way" "is_way" (defArgs s_is_way) (defBody s_is_way) (defScope s_is_way) .none kV_is_way dc_is_way pm_is_way an_is_way cd_is_way ct_is_way),
    f_is_way_to := f_is_way_to, d_is_way_to := (PySem.W.fnOf "is_way_to" "is_way_to" (defArgs s_is_way_to) (defBody s_is_way_to) (defScope s_is_way_to) .none kV_is_way_to dc_is_way_to pm_is_way_to an_is_way_to cd_is_way_to ct_is_way_to),
    f_ways_to := f_ways_to, d_ways_to := (PySem.W.fnOf "ways_to" "ways_to" (defArgs s_ways_to) (defBody s_ways_to) (defScope s_ways_to) .none kV_ways_to dc_ways_to pm_ways_to an_ways_to cd_ways_to ct_ways_to),
    f_needs_for := f_needs_for, d_needs_for := (PySem.W.fnOf "needs_for" "needs_for" (defArgs s_needs_for) (defBody s_needs_for) (defScope s_needs_for) .none kV_needs_for dc_needs_for pm_needs_for an_needs_for cd_needs_for ct_needs_for),
    f_needs_by_parts := f_needs_by_parts, d_needs_by_parts := (PySem.W.fnOf "needs_by_parts" "needs_by_parts" (defArgs s_needs_by_parts) (defBody s_needs_by_parts) (defScope s_needs_by_parts) .none kV_needs_by_parts dc_needs_by_parts pm_needs_by_parts an_needs_by_parts cd_needs_by_parts ct_needs_by_parts),
    f_law_bag := f_law_bag, d_law_bag := (PySem.W.fnOf "_law_bag" "_law_bag" (defArgs s_law_bag) (defBody s_law_bag) (defScope s_law_bag) .none kV_law_bag dc_law_bag pm_law_bag an_law_bag cd_law_bag ct_law_bag),
    f_law_pick := f_law_pick, d_law_pick := (PySem.W.fnOf "_law_pick" "_law_pick" (defArgs s_law_pick) (defBody s_law_pick) (defScope s_law_pick) .none kV_law_pick dc_law_pick pm_law_pick an_law_pick cd_law_pick ct_law_pick),
    f_law_price := f_law_price, d_law_price := (PySem.W.fnOf "_law_price" "_law_price" (defArgs s_law_price) (defBody s_law_price) (defScope s_law_price) .none kV_law_price dc_law_price pm_law_price an_law_price cd_law_price ct_law_price),
    f_law_arities := f_law_arities, d_law_arities := (PySem.W.fnOf "_law_arities" "_law_arities" (defArgs s_law_arities) (defBody s_law_arities) (defScope s_law_arities) .none kV_law_arities dc_law_arities pm_law_arities an_law_arities cd_law_arities ct_law_arities),
    f_law_rules := f_law_rules, d_law_rules := (PySem.W.fnOf "_law_rules" "_law_rules" (defArgs s_law_rules) (defBody s_law_rules) (defScope s_law_rules) .none kV_law_rules dc_law_rules pm_law_rules an_law_rules cd_law_rules ct_law_rules),
    f_law_moves := f_law_moves, d_law_moves := (PySem.W.fnOf "_law_moves" "_law_moves" (defArgs s_law_moves) (defBody s_law_moves) (defScope s_law_moves) .none kV_law_moves dc_law_moves pm_law_moves an_law_moves cd_law_moves ct_law_moves),
    f_law_book := f_law_book, d_law_book := (PySem.W.fnOf "_law_book" "_law_book" (defArgs s_law_book) (defBody s_law_book) (defScope s_law_book) .none kV_law_book dc_law_book pm_law_book an_law_book cd_law_book ct_law_book),
    f_law_values := f_law_values, d_law_values := (PySem.W.fnOf "_law_values" "_law_values" (defArgs s_law_values) (defBody s_law_values) (defScope s_law_values) .none kV_law_values dc_law_values pm_law_values an_law_values cd_law_values ct_law_values),
    f_law_same := f_law_same, d_law_same := (PySem.W.fnOf "_law_same" "_law_same" (defArgs s_law_same) (defBody s_law_same) (defScope s_law_same) .none kV_law_same dc_law_same pm_law_same an_law_same cd_law_same ct_law_same),
    f_law_great_book := f_law_great_book, d_law_great_book := (PySem.W.fnOf "_law_great_book" "_law_great_book" (defArgs s_law_great_book) (defBody s_law_great_book) (defScope s_law_great_book) .none kV_law_great_book dc_law_great_book pm_law_great_book an_law_great_book cd_law_great_book ct_law_great_book),
    f_law_ways := f_law_ways, d_law_ways := (PySem.W.fnOf "_law_ways" "_law_ways" (defArgs s_law_ways) (defBody s_law_ways) (defScope s_law_ways) .none kV_law_ways dc_law_ways pm_law_ways an_law_ways cd_law_ways ct_law_ways),
    f_law_needs := f_law_needs, d_law_needs := (PySem.W.fnOf "_law_needs" "_law_needs" (defArgs s_law_needs) (defBody s_law_needs) (defScope s_law_needs) .none kV_law_needs dc_law_needs pm_law_needs an_law_needs cd_law_needs ct_law_needs),
    f_law_are_in := f_law_are_in, d_law_are_in := (PySem.W.fnOf "_law_are_in" "_law_are_in" (defArgs s_law_are_in) (defBody s_law_are_in) (defScope s_law_are_in) .none kV_law_are_in dc_law_are_in pm_law_are_in an_law_are_in cd_law_are_in ct_law_are_in),
    f_law_makeable := f_law_makeable, d_law_makeable := (PySem.W.fnOf "_law_makeable" "_law_makeable" (defArgs s_law_makeable) (defBody s_law_makeable) (defScope s_law_makeable) .none kV_law_makeable dc_law_makeable pm_law_makeable an_law_makeable cd_law_makeable ct_law_makeable),
    f_law_size := f_law_size, d_law_size := (PySem.W.fnOf "_law_size" "_law_size" (defArgs s_law_size) (defBody s_law_size) (defScope s_law_size) .none kV_law_size dc_law_size pm_law_size an_law_size cd_law_size ct_law_size),
    f_law_sound_book := f_law_sound_book, d_law_sound_book := (PySem.W.fnOf "_law_sound_book" "_law_sound_book" (defArgs s_law_sound_book) (defBody s_law_sound_book) (defScope s_law_sound_book) .none kV_law_sound_book dc_law_sound_book pm_law_sound_book an_law_sound_book cd_law_sound_book ct_law_sound_book),
    f_law_are_told := f_law_are_told, d_law_are_told := (PySem.W.fnOf "_law_are_told" "_law_are_told" (defArgs s_law_are_told) (defBody s_law_are_told) (defScope s_law_are_told) .none kV_law_are_told dc_law_are_told pm_law_are_told an_law_are_told cd_law_are_told ct_law_are_told),
    f_law := fa, d_law := (PySem.W.fnOf "law" "law" (defArgs s_law) (defBody s_law) (defScope s_law) .none kV_law dc_law pm_law an_law cd_law ct_law),
    c_Book := c_Book,
    c_Web := c_Web }
  have T : Txt K mg A := {
    F_is_integer := F_is_integer, b_is_integer := F_is_integer.binds (ps := ["thing"]) (fun _ _ _ _ _ _ us hl => match us, hl with | [_], _ => rfl), k_is_integer := k_is_integer,
    g_is_integer := PySem.W.mg_of X G a_is_integer,
    F_is_between := F_is_between, b_is_between := F_is_between.binds (ps := ["low", "high", "thing"]) (fun _ _ _ _ _ _ us hl => match us, hl with | [_, _, _], _ => rfl), k_is_between := k_is_between,
    g_is_between := PySem.W.mg_of X G a_is_between,
    F_is_tuple_of := F_is_tuple_of, b_is_tuple_of := F_is_tuple_of.binds (ps := ["low", "high", "thing"]) (fun _ _ _ _ _ _ us hl => match us, hl with | [_, _, _], _ => rfl), k_is_tuple_of := k_is_tuple_of,
    g_is_tuple_of := PySem.W.mg_of X G a_is_tuple_of,
    F_Book_init := F_Book_init, b_Book_init := F_Book_init.binds (ps := ["self", "arities", "kinds", "rules", "moves"]) (fun _ _ _ _ _ _ us hl => match us, hl with | [_, _, _, _, _], _ => rfl), k_Book_init := k_Book_init,
    F_check_frame := F_check_frame, b_check_frame := F_check_frame.binds (ps := ["arities", "kinds", "rules", "moves"]) (fun _ _ _ _ _ _ us hl => match us, hl with | [_, _, _, _], _ => rfl), k_check_frame := k_check_frame,
    g_check_frame := PySem.W.mg_of X G a_check_frame,
    F_check_rules := F_check_rules, b_check_rules := F_check_rules.binds (ps := ["arities", "kinds", "rules"]) (fun _ _ _ _ _ _ us hl => match us, hl with | [_, _, _], _ => rfl), k_check_rules := k_check_rules,
    g_check_rules := PySem.W.mg_of X G a_check_rules,
    F_check_moves := F_check_moves, b_check_moves := F_check_moves.binds (ps := ["kinds", "moves"]) (fun _ _ _ _ _ _ us hl => match us, hl with | [_, _], _ => rfl), k_check_moves := k_check_moves,
    g_check_moves := PySem.W.mg_of X G a_check_moves,
    F_is_rule := F_is_rule, b_is_rule := F_is_rule.binds (ps := ["arities", "kinds", "thing"]) (fun _ _ _ _ _ _ us hl => match us, hl with | [_, _, _], _ => rfl), k_is_rule := k_is_rule,
    g_is_rule := PySem.W.mg_of X G a_is_rule,
    F_is_move := F_is_move, b_is_move := F_is_move.binds (ps := ["kinds", "thing"]) (fun _ _ _ _ _ _ us hl => match us, hl with | [_, _], _ => rfl), k_is_move := k_is_move,
    g_is_move := PySem.W.mg_of X G a_is_move,
    F_is_price := F_is_price, b_is_price := F_is_price.binds (ps := ["thing"]) (fun _ _ _ _ _ _ us hl => match us, hl with | [_], _ => rfl), k_is_price := k_is_price,
    g_is_price := PySem.W.mg_of X G a_is_price,
    F_Web_init := F_Web_init, b_Web_init := F_Web_init.binds (ps := ["self", "values"]) (fun _ _ _ _ _ _ us hl => match us, hl with | [_, _], _ => rfl), k_Web_init := k_Web_init,
    F_is_value := F_is_value, b_is_value := F_is_value.binds (ps := ["index", "thing"]) (fun _ _ _ _ _ _ us hl => match us, hl with | [_, _], _ => rfl), k_is_value := k_is_value,
    g_is_value := PySem.W.mg_of X G a_is_value,
    F_fits := F_fits, b_fits := F_fits.binds (ps := ["book", "web"]) (fun _ _ _ _ _ _ us hl => match us, hl with | [_, _], _ => rfl), k_fits := k_fits,
    g_fits := PySem.W.mg_of X G a_fits,
    F_is_row_of := F_is_row_of, b_is_row_of := F_is_row_of.binds (ps := ["book", "op", "parts"]) (fun _ _ _ _ _ _ us hl => match us, hl with | [_, _, _], _ => rfl), k_is_row_of := k_is_row_of,
    g_is_row_of := PySem.W.mg_of X G a_is_row_of,
    F_check_web := F_check_web, b_check_web := F_check_web.binds (ps := ["book", "web"]) (fun _ _ _ _ _ _ us hl => match us, hl with | [_, _], _ => rfl), k_check_web := k_check_web,
    g_check_web := PySem.W.mg_of X G a_check_web,
    F_ways := F_ways, b_ways := F_ways.binds (ps := ["book", "web", "thing"]) (fun _ _ _ _ _ _ us hl => match us, hl with | [_, _, _], _ => rfl), k_ways := k_ways,
    g_ways := PySem.W.mg_of X G a_ways,
    F_needs := F_needs, b_needs := F_needs.binds (ps := ["book", "web", "thing", "way"]) (fun _ _ _ _ _ _ us hl => match us, hl with | [_, _, _, _], _ => rfl), k_needs := k_needs,
    g_needs := PySem.W.mg_of X G a_needs,
    F_makeable := F_makeable, b_makeable := F_makeable.binds (ps := ["book", "web"]) (fun _ _ _ _ _ _ us hl => match us, hl with | [_, _], _ => rfl), k_makeable := k_makeable,
    g_makeable := PySem.W.mg_of X G a_makeable,
    F_kinds_made := F_kinds_made, b_kinds_made := F_kinds_made.binds (ps := ["book", "web", "value", "made"]) (fun _ _ _ _ _ _ us hl => match us, hl with | [_, _, _, _], _ => rfl), k_kinds_made := k_kinds_made,
    g_kinds_made := PySem.W.mg_of X G a_kinds_made,
    F_is_thing := F_is_thing, b_is_thing := F_is_thing.binds (ps := ["book", "web", "thing"]) (fun _ _ _ _ _ _ us hl => match us, hl with | [_, _, _], _ => rfl), k_is_thing := k_is_thing,
    g_is_thing := PySem.W.mg_of X G a_is_thing,
    F_check_thing := F_check_thing, b_check_thing := F_check_thing.binds (ps := ["book", "web", "thing"]) (fun _ _ _ _ _ _ us hl => match us, hl with | [_, _, _], _ => rfl), k_check_thing := k_check_thing,
    g_check_thing := PySem.W.mg_of X G a_check_thing,
    F_is_way := F_is_way, b_is_way := F_is_way.binds (ps := ["book", "thing"]) (fun _ _ _ _ _ _ us hl => match us, hl with | [_, _], _ => rfl), k_is_way := k_is_way,
    g_is_way := PySem.W.mg_of X G a_is_way,
    F_is_way_to := F_is_way_to, b_is_way_to := F_is_way_to.binds (ps := ["book", "web", "target", "thing"]) (fun _ _ _ _ _ _ us hl => match us, hl with | [_, _, _, _], _ => rfl), k_is_way_to := k_is_way_to,
    g_is_way_to := PySem.W.mg_of X G a_is_way_to,
    F_ways_to := F_ways_to, b_ways_to := F_ways_to.binds (ps := ["book", "web", "thing"]) (fun _ _ _ _ _ _ us hl => match us, hl with | [_, _, _], _ => rfl), k_ways_to := k_ways_to,
    g_ways_to := PySem.W.mg_of X G a_ways_to,
    F_needs_for := F_needs_for, b_needs_for := F_needs_for.binds (ps := ["book", "web", "thing", "way"]) (fun _ _ _ _ _ _ us hl => match us, hl with | [_, _, _, _], _ => rfl), k_needs_for := k_needs_for,
    g_needs_for := PySem.W.mg_of X G a_needs_for,
    F_needs_by_parts := F_needs_by_parts, b_needs_by_parts := F_needs_by_parts.binds (ps := ["book", "web", "thing", "way"]) (fun _ _ _ _ _ _ us hl => match us, hl with | [_, _, _, _], _ => rfl), k_needs_by_parts := k_needs_by_parts,
    g_needs_by_parts := PySem.W.mg_of X G a_needs_by_parts,
    F_law_bag := F_law_bag, b_law_bag := F_law_bag.binds (ps := ["_law_script"]) (fun _ _ _ _ _ _ us hl => match us, hl with | [_], _ => rfl), k_law_bag := k_law_bag,
    g_law_bag := PySem.W.mg_of X G a_law_bag,
    F_law_pick := F_law_pick, b_law_pick := F_law_pick.binds (ps := ["_law_bag_here", "_law_many"]) (fun _ _ _ _ _ _ us hl => match us, hl with | [_, _], _ => rfl), k_law_pick := k_law_pick,
    g_law_pick := PySem.W.mg_of X G a_law_pick,
    F_law_price := F_law_price, b_law_price := F_law_price.binds (ps := ["_law_bag_here"]) (fun _ _ _ _ _ _ us hl => match us, hl with | [_], _ => rfl), k_law_price := k_law_price,
    g_law_price := PySem.W.mg_of X G a_law_price,
    F_law_arities := F_law_arities, b_law_arities := F_law_arities.binds (ps := ["_law_bag_here"]) (fun _ _ _ _ _ _ us hl => match us, hl with | [_], _ => rfl), k_law_arities := k_law_arities,
    g_law_arities := PySem.W.mg_of X G a_law_arities,
    F_law_rules := F_law_rules, b_law_rules := F_law_rules.binds (ps := ["_law_bag_here", "_law_arities_here", "_law_kinds", "_law_wanted"]) (fun _ _ _ _ _ _ us hl => match us, hl with | [_, _, _, _], _ => rfl), k_law_rules := k_law_rules,
    g_law_rules := PySem.W.mg_of X G a_law_rules,
    F_law_moves := F_law_moves, b_law_moves := F_law_moves.binds (ps := ["_law_bag_here", "_law_kinds", "_law_wanted"]) (fun _ _ _ _ _ _ us hl => match us, hl with | [_, _, _], _ => rfl), k_law_moves := k_law_moves,
    g_law_moves := PySem.W.mg_of X G a_law_moves,
    F_law_book := F_law_book, b_law_book := F_law_book.binds (ps := ["_law_bag_here"]) (fun _ _ _ _ _ _ us hl => match us, hl with | [_], _ => rfl), k_law_book := k_law_book,
    g_law_book := PySem.W.mg_of X G a_law_book,
    F_law_values := F_law_values, b_law_values := F_law_values.binds (ps := ["_law_bag_here", "_law_arities_here", "_law_wanted"]) (fun _ _ _ _ _ _ us hl => match us, hl with | [_, _, _], _ => rfl), k_law_values := k_law_values,
    g_law_values := PySem.W.mg_of X G a_law_values,
    F_law_same := F_law_same, b_law_same := F_law_same.binds (ps := ["_law_told", "_law_due"]) (fun _ _ _ _ _ _ us hl => match us, hl with | [_, _], _ => rfl), k_law_same := k_law_same,
    g_law_same := PySem.W.mg_of X G a_law_same,
    F_law_great_book := F_law_great_book, b_law_great_book := F_law_great_book.binds (ps := ["_law_bag_here"]) (fun _ _ _ _ _ _ us hl => match us, hl with | [_], _ => rfl), k_law_great_book := k_law_great_book,
    g_law_great_book := PySem.W.mg_of X G a_law_great_book,
    F_law_ways := F_law_ways, b_law_ways := F_law_ways.binds (ps := ["_law_parts", "_law_values_here", "_law_thing"]) (fun _ _ _ _ _ _ us hl => match us, hl with | [_, _, _], _ => rfl), k_law_ways := k_law_ways,
    g_law_ways := PySem.W.mg_of X G a_law_ways,
    F_law_needs := F_law_needs, b_law_needs := F_law_needs.binds (ps := ["_law_parts", "_law_values_here", "_law_thing", "_law_way"]) (fun _ _ _ _ _ _ us hl => match us, hl with | [_, _, _, _], _ => rfl), k_law_needs := k_law_needs,
    g_law_needs := PySem.W.mg_of X G a_law_needs,
    F_law_are_in := F_law_are_in, b_law_are_in := F_law_are_in.binds (ps := ["_law_things", "_law_found"]) (fun _ _ _ _ _ _ us hl => match us, hl with | [_, _], _ => rfl), k_law_are_in := k_law_are_in,
    g_law_are_in := PySem.W.mg_of X G a_law_are_in,
    F_law_makeable := F_law_makeable, b_law_makeable := F_law_makeable.binds (ps := ["_law_parts", "_law_values_here"]) (fun _ _ _ _ _ _ us hl => match us, hl with | [_, _], _ => rfl), k_law_makeable := k_law_makeable,
    g_law_makeable := PySem.W.mg_of X G a_law_makeable,
    F_law_size := F_law_size, b_law_size := F_law_size.binds (ps := ["_law_bag_here"]) (fun _ _ _ _ _ _ us hl => match us, hl with | [_], _ => rfl), k_law_size := k_law_size,
    g_law_size := PySem.W.mg_of X G a_law_size,
    F_law_sound_book := F_law_sound_book, b_law_sound_book := F_law_sound_book.binds (ps := ["_law_bag_here"]) (fun _ _ _ _ _ _ us hl => match us, hl with | [_], _ => rfl), k_law_sound_book := k_law_sound_book,
    g_law_sound_book := PySem.W.mg_of X G a_law_sound_book,
    F_law_are_told := F_law_are_told, b_law_are_told := F_law_are_told.binds (ps := ["_law_book_here", "_law_web", "_law_parts", "_law_values_here"]) (fun _ _ _ _ _ _ us hl => match us, hl with | [_, _, _, _], _ => rfl), k_law_are_told := k_law_are_told,
    g_law_are_told := PySem.W.mg_of X G a_law_are_told,
    F_law := F_law, b_law := F_law.binds (ps := ["_law_script"]) (fun _ _ _ _ _ _ us hl => match us, hl with | [_], _ => rfl), k_law := k_law,
    g_law := PySem.W.mg_of X G a_law,
    g_Book := PySem.W.mg_of X G a_Book,
    g_Web := PySem.W.mg_of X G a_Web,
    z_abs := PySem.W.mg_none_of X G z_abs,
    z_all := PySem.W.mg_none_of X G z_all,
    z_bool := PySem.W.mg_none_of X G z_bool,
    z_enumerate := PySem.W.mg_none_of X G z_enumerate,
    z_int := PySem.W.mg_none_of X G z_int,
    z_isinstance := PySem.W.mg_none_of X G z_isinstance,
    z_len := PySem.W.mg_none_of X G z_len,
    z_list := PySem.W.mg_none_of X G z_list,
    z_max := PySem.W.mg_none_of X G z_max,
    z_range := PySem.W.mg_none_of X G z_range,
    z_sorted := PySem.W.mg_none_of X G z_sorted,
    z_str := PySem.W.mg_none_of X G z_str,
    z_sum := PySem.W.mg_none_of X G z_sum,
    z_tuple := PySem.W.mg_none_of X G z_tuple,
    z_zip := PySem.W.mg_none_of X G z_zip,
    C_Book := ⟨pg_Book, hd_Book, po_Book, sa_Book⟩,
    M_Book := ⟨mk_Book, a_Book_init, fi_Book_init, kc_Book⟩,
    I_Book := ⟨⟨pg_Book, hd_Book, po_Book, sa_Book⟩, ha_Book, hn_cls, ht_cls, hm_Book, kit_self⟩,
    N_arities := nr_arities,
    N_kinds := nr_kinds,
    N_rules := nr_rules,
    N_moves := nr_moves,
    C_Web := ⟨pg_Web, hd_Web, po_Web, sa_Web⟩,
    M_Web := ⟨mk_Web, a_Web_init, fi_Web_init, kc_Web⟩,
    I_Web := ⟨⟨pg_Web, hd_Web, po_Web, sa_Web⟩, ha_Web, hn_cls, ht_cls, hm_Web, kit_self⟩,
    N_rows := nr_rows }
  exact ⟨A.d_law, fun s v => .of_eq rfl, fun base _ _ => ok_law (a := A) T⟩
theorem walk {l : PySem.W.OpenLaw} {q : Program} {loose : List Str} {XP : (Str → Option Value) → Heap → Prop} {YP : World → Heap → Prop} {d : DefRec} {K : Params → PySem.W.Frag} (hn : l.most = some 63) (hdf : d.params.defaults = [])
    (hY : ∀ (w : World) (h : Heap), YP w h → (K w.params).In h)
    (F : ∀ (w : World) (mg : Str → Option Value) (fa : Addr) (h : Heap), (K w.params).In h → h.Ns mainGlobals mg → mg d.name = some (.ref fa) →
      ∃ fd : FuncData, (∀ (s : Shared) (u : Value), BindsTo s fd ⟨[u], []⟩ [("_law_script", u)]) ∧ ∀ base : Heap, (K w.params).In base → base.Ns mainGlobals mg → FnOk l.prog w (K w.params) mg base CX0 12 fa fd ["_law_script"] (spLaw (K w.params))) :
    PySem.W.WalkO q loose XP YP l.row.toRowW d [] (fun f vs => PySem.call f vs) :=
  L2.walk_of (n := 63) (k := 12) (x := "_law_script") (CX := fun _ => CX0) (sp := fun w => spLaw (K w.params)) hn (by decide) hdf ⟨rfl, by decide, by decide⟩ hY F (fun _ _ a ns hl _ hS => ⟨a, ns, rfl, hS, hl, fun _ => rfl⟩) fun _ _ _ _ _ z => z
end Lk
open PySem PySem.W PyProof.Rows
set_option maxRecDepth 100000 in
set_option maxHeartbeats 0 in
theorem PySem.Challenge.cw_lookdown_k07_whole_ways_needs_and_what_c_holds : PySem.Challenge.rw_lookdown_k07_whole_ways_needs_and_what_c.Holds := by
  w_on; o_law; k_head; (case hw => w_witness2)
  k_fill
  refine Lk.walk (l := PySem.Challenge.rw_lookdown_k07_whole_ways_needs_and_what_c) rfl rfl (fun w h Y => PySem.W.kIn_of Y) ?F
  case F =>
    intro w mg fa h KX G hmg
    refine' Lk.all_mk KX G hmg ?a_Book ?a_Web ?a_is_integer ?l_is_integer ?c_is_integer ?k_is_integer ?a_is_between ?l_is_between ?c_is_between ?k_is_between ?a_is_tuple_of ?l_is_tuple_of ?c_is_tuple_of ?k_is_tuple_of ?a_Book_init ?l_Book_init ?c_Book_init ?k_Book_init ?a_check_frame ?l_check_frame ?c_check_frame ?k_check_frame ?a_check_rules ?l_check_rules ?c_check_rules ?k_check_rules ?a_check_moves ?l_check_moves ?c_check_moves ?k_check_moves ?a_is_rule ?l_is_rule ?c_is_rule ?k_is_rule ?a_is_move ?l_is_move ?c_is_move ?k_is_move ?a_is_price ?l_is_price ?c_is_price ?k_is_price ?a_Web_init ?l_Web_init ?c_Web_init ?k_Web_init ?a_is_value ?l_is_value ?c_is_value ?k_is_value ?a_fits ?l_fits ?c_fits ?k_fits ?a_is_row_of ?l_is_row_of ?c_is_row_of ?k_is_row_of ?a_check_web ?l_check_web ?c_check_web ?k_check_web ?a_ways ?l_ways ?c_ways ?k_ways ?a_needs ?l_needs ?c_needs ?k_needs ?a_makeable ?l_makeable ?c_makeable ?k_makeable ?a_kinds_made ?l_kinds_made ?c_kinds_made ?k_kinds_made ?a_is_thing ?l_is_thing ?c_is_thing ?k_is_thing ?a_check_thing ?l_check_thing ?c_check_thing ?k_check_thing ?a_is_way ?l_is_way ?c_is_way ?k_is_way ?a_is_way_to ?l_is_way_to ?c_is_way_to ?k_is_way_to ?a_ways_to ?l_ways_to ?c_ways_to ?k_ways_to ?a_needs_for ?l_needs_for ?c_needs_for ?k_needs_for ?a_needs_by_parts ?l_needs_by_parts ?c_needs_by_parts ?k_needs_by_parts ?a_law_bag ?l_law_bag ?c_law_bag ?k_law_bag ?a_law_pick ?l_law_pick ?c_law_pick ?k_law_pick ?a_law_price ?l_law_price ?c_law_price ?k_law_price ?a_law_arities ?l_law_arities ?c_law_arities ?k_law_arities ?a_law_rules ?l_law_rules ?c_law_rules ?k_law_rules ?a_law_moves ?l_law_moves ?c_law_moves ?k_law_moves ?a_law_book ?l_law_book ?c_law_book ?k_law_book ?a_law_values ?l_law_values ?c_law_values ?k_law_values ?a_law_same ?l_law_same ?c_law_same ?k_law_same ?a_law_great_book ?l_law_great_book ?c_law_great_book ?k_law_great_book ?a_law_ways ?l_law_ways ?c_law_ways ?k_law_ways ?a_law_needs ?l_law_needs ?c_law_needs ?k_law_needs ?a_law_are_in ?l_law_are_in ?c_law_are_in ?k_law_are_in ?a_law_makeable ?l_law_makeable ?c_law_makeable ?k_law_makeable ?a_law_size ?l_law_size ?c_law_size ?k_law_size ?a_law_sound_book ?l_law_sound_book ?c_law_sound_book ?k_law_sound_book ?a_law_are_told ?l_law_are_told ?c_law_are_told ?k_law_are_told ?a_law ?l_law ?c_law ?k_law ?z_abs ?z_all ?z_bool ?z_enumerate ?z_int ?z_isinstance ?z_len ?z_list ?z_max ?z_range ?z_sorted ?z_str ?z_sum ?z_tuple ?z_zip ?pg_Book ?hd_Book ?po_Book ?sa_Book ?mk_Book ?fi_Book_init ?kc_Book ?ha_Book ?hm_Book ?nr_arities ?nr_kinds ?nr_rules ?nr_moves ?pg_Web ?hd_Web ?po_Web ?sa_Web ?mk_Web ?fi_Web_init ?kc_Web ?ha_Web ?hm_Web ?nr_rows ?hn_cls ?ht_cls
    (case a_Book => k_is)
    (case a_Web => k_is)
    (case a_is_integer => k_is)
    (case l_is_integer => k_is)
    (case c_is_integer => k_is)
    (case k_is_integer => k_is)
    (case a_is_between => k_is)
    (case l_is_between => k_is)
    (case c_is_between => k_is)
    (case k_is_between => k_is)
    (case a_is_tuple_of => k_is)
    (case l_is_tuple_of => k_is)
    (case c_is_tuple_of => k_is)
    (case k_is_tuple_of => k_is)
    (case a_Book_init => k_is)
    (case l_Book_init => k_is)
    (case c_Book_init => k_is)
    (case k_Book_init => k_is)
    (case a_check_frame => k_is)
    (case l_check_frame => k_is)
    (case c_check_frame => k_is)
    (case k_check_frame => k_is)
    (case a_check_rules => k_is)
    (case l_check_rules => k_is)
    (case c_check_rules => k_is)
    (case k_check_rules => k_is)
    (case a_check_moves => k_is)
    (case l_check_moves => k_is)
    (case c_check_moves => k_is)
    (case k_check_moves => k_is)
    (case a_is_rule => k_is)
    (case l_is_rule => k_is)
    (case c_is_rule => k_is)
    (case k_is_rule => k_is)
    (case a_is_move => k_is)
    (case l_is_move => k_is)
    (case c_is_move => k_is)
    (case k_is_move => k_is)
    (case a_is_price => k_is)
    (case l_is_price => k_is)
    (case c_is_price => k_is)
    (case k_is_price => k_is)
    (case a_Web_init => k_is)
    (case l_Web_init => k_is)
    (case c_Web_init => k_is)
    (case k_Web_init => k_is)
    (case a_is_value => k_is)
    (case l_is_value => k_is)
    (case c_is_value => k_is)
    (case k_is_value => k_is)
    (case a_fits => k_is)
    (case l_fits => k_is)
    (case c_fits => k_is)
    (case k_fits => k_is)
    (case a_is_row_of => k_is)
    (case l_is_row_of => k_is)
    (case c_is_row_of => k_is)
    (case k_is_row_of => k_is)
    (case a_check_web => k_is)
    (case l_check_web => k_is)
    (case c_check_web => k_is)
    (case k_check_web => k_is)
    (case a_ways => k_is)
    (case l_ways => k_is)
    (case c_ways => k_is)
    (case k_ways => k_is)
    (case a_needs => k_is)
    (case l_needs => k_is)
    (case c_needs => k_is)
    (case k_needs => k_is)
    (case a_makeable => k_is)
    (case l_makeable => k_is)
    (case c_makeable => k_is)
    (case k_makeable => k_is)
    (case a_kinds_made => k_is)
    (case l_kinds_made => k_is)
    (case c_kinds_made => k_is)
    (case k_kinds_made => k_is)
    (case a_is_thing => k_is)
    (case l_is_thing => k_is)
    (case c_is_thing => k_is)
    (case k_is_thing => k_is)
    (case a_check_thing => k_is)
    (case l_check_thing => k_is)
    (case c_check_thing => k_is)
    (case k_check_thing => k_is)
    (case a_is_way => k_is)
    (case l_is_way => k_is)
    (case c_is_way => k_is)
    (case k_is_way => k_is)
    (case a_is_way_to => k_is)
    (case l_is_way_to => k_is)
    (case c_is_way_to => k_is)
    (case k_is_way_to => k_is)
    (case a_ways_to => k_is)
    (case l_ways_to => k_is)
    (case c_ways_to => k_is)
    (case k_ways_to => k_is)
    (case a_needs_for => k_is)
    (case l_needs_for => k_is)
    (case c_needs_for => k_is)
    (case k_needs_for => k_is)
    (case a_needs_by_parts => k_is)
    (case l_needs_by_parts => k_is)
    (case c_needs_by_parts => k_is)
    (case k_needs_by_parts => k_is)
    (case a_law_bag => k_is)
    (case l_law_bag => k_is)
    (case c_law_bag => k_is)
    (case k_law_bag => k_is)
    (case a_law_pick => k_is)
    (case l_law_pick => k_is)
    (case c_law_pick => k_is)
    (case k_law_pick => k_is)
    (case a_law_price => k_is)
    (case l_law_price => k_is)
    (case c_law_price => k_is)
    (case k_law_price => k_is)
    (case a_law_arities => k_is)
    (case l_law_arities => k_is)
    (case c_law_arities => k_is)
    (case k_law_arities => k_is)
    (case a_law_rules => k_is)
    (case l_law_rules => k_is)
    (case c_law_rules => k_is)
    (case k_law_rules => k_is)
    (case a_law_moves => k_is)
    (case l_law_moves => k_is)
    (case c_law_moves => k_is)
    (case k_law_moves => k_is)
    (case a_law_book => k_is)
    (case l_law_book => k_is)
    (case c_law_book => k_is)
    (case k_law_book => k_is)
    (case a_law_values => k_is)
    (case l_law_values => k_is)
    (case c_law_values => k_is)
    (case k_law_values => k_is)
    (case a_law_same => k_is)
    (case l_law_same => k_is)
    (case c_law_same => k_is)
    (case k_law_same => k_is)
    (case a_law_great_book => k_is)
    (case l_law_great_book => k_is)
    (case c_law_great_book => k_is)
    (case k_law_great_book => k_is)
    (case a_law_ways => k_is)
    (case l_law_ways => k_is)
    (case c_law_ways => k_is)
    (case k_law_ways => k_is)
    (case a_law_needs => k_is)
    (case l_law_needs => k_is)
    (case c_law_needs => k_is)
    (case k_law_needs => k_is)
    (case a_law_are_in => k_is)
    (case l_law_are_in => k_is)
    (case c_law_are_in => k_is)
    (case k_law_are_in => k_is)
    (case a_law_makeable => k_is)
    (case l_law_makeable => k_is)
    (case c_law_makeable => k_is)
    (case k_law_makeable => k_is)
    (case a_law_size => k_is)
    (case l_law_size => k_is)
    (case c_law_size => k_is)
    (case k_law_size => k_is)
    (case a_law_sound_book => k_is)
    (case l_law_sound_book => k_is)
    (case c_law_sound_book => k_is)
    (case k_law_sound_book => k_is)
    (case a_law_are_told => k_is)
    (case l_law_are_told => k_is)
    (case c_law_are_told => k_is)
    (case k_law_are_told => k_is)
    (case a_law => k_is)
    (case l_law => k_is)
    (case c_law => k_is)
    (case k_law => k_is)
    (case z_abs => k_is)
    (case z_all => k_is)
    (case z_bool => k_is)
    (case z_enumerate => k_is)
    (case z_int => k_is)
    (case z_isinstance => k_is)
    (case z_len => k_is)
    (case z_list => k_is)
    (case z_max => k_is)
    (case z_range => k_is)
    (case z_sorted => k_is)
    (case z_str => k_is)
    (case z_sum => k_is)
    (case z_tuple => k_is)
    (case z_zip => k_is)
    (case pg_Book => k_is)
    (case hd_Book => k_is)
    (case po_Book => k_is)
    (case sa_Book => k_is)
    (case mk_Book => k_is)
    (case fi_Book_init => k_is)
    (case kc_Book => k_is)
    (case ha_Book => k_is)
    (case hm_Book => k_is)
    (case nr_arities => k_is)
    (case nr_kinds => k_is)
    (case nr_rules => k_is)
    (case nr_moves => k_is)
    (case pg_Web => k_is)
    (case hd_Web => k_is)
    (case po_Web => k_is)
    (case sa_Web => k_is)
    (case mk_Web => k_is)
    (case fi_Web_init => k_is)
    (case kc_Web => k_is)
    (case ha_Web => k_is)
    (case hm_Web => k_is)
    (case nr_rows => k_is)
    (case hn_cls => k_is)
    (case ht_cls => k_is)
