import PyProof.Rows.All
import Wide.All
import OpenK.AllK
import Wide.FinOn
import HandS.ForMost
import HandS.IsInst
import HandS.SortInts
import HandS.Conv
import HandS.More
import HandS.OwnEq
import HandS.Codes
import HandS.DictComp
import HandS.ListEq
import HandS.Deep
import HandS.Flow
import HandS.Walk
import KE.GoesEnum
import KE.KeyNested
import HandS.Style
import HandS.ForExc
import HandS.ExcInit
import HandS.ExcField
import HandS.Zip
import KE.KDictZip
import HandS.SortRule
import PyProof.ListNew
import KE.KItemsList
import HandS.ListItems
import HandS.SetFor
import KE.DataFind
import HandS.TupSets
import HandS.Iter
import HandS.TupAny
import HandS.TupMul
import HandS.TupLen
import HandS.WideBits
import HandS.DictTup
import HandS.Finally
import KE.KDictCopyH
import HandS.Text
import HandS.StrMore
import HandS.Star
import HandS.RaiseMore
import PyProof.P3Eq
import HandS.ExcIs
import PySem.Challenge.RW_lookdown_k05_whole_texts_there_and_back
set_option Elab.async false
set_option linter.all false
set_option maxRecDepth 100000
set_option maxHeartbeats 2000000
namespace Lk
abbrev Row := Nat × List Nat
def rowAt (R : List Row) (n : Nat) : Row := R.getD n (0, [])
abbrev parts (R : List Row) (n : Nat) : List Nat := (rowAt R n).2
/-- what a web may hold: ops below 8, at most two parts, each one earlier -/
def Good (R : List Row) : Prop := ∀ n, n < R.length → (rowAt R n).1 ≤ 7 ∧ (parts R n).length ≤ 2 ∧ ∀ p ∈ parts R n, p < n
theorem parts_out {R : List Row} {n : Nat} (h : R.length ≤ n) : parts R n = [] := by
  unfold parts rowAt
  rw [List.getD_eq_getElem?_getD, List.getElem?_eq_none h]
  rfl
theorem good_lt {R : List Row} (g : Good R) {n p : Nat} (h : p ∈ parts R n) : p < n := by
  by_cases hn : n < R.length
  · exact (g n hn).2.2 p h
  · rw [parts_out (by omega)] at h
    cases h
def ins (F : List Nat) (x : Nat) : List Nat := if x ∈ F then F else F ++ [x]
theorem mem_ins {F : List Nat} {x y : Nat} : y ∈ ins F x ↔ y ∈ F ∨ y = x := by
  unfold ins
  split
  · rename_i h
    constructor
    · exact Or.inl
    · rintro (a | rfl)
      · exact a
      · exact h
  · rw [List.mem_append, List.mem_singleton]
theorem nodup_ins {F : List Nat} {x : Nat} (h : F.Nodup) : (ins F x).Nodup := by
  unfold ins
  split
  · exact h
  · rename_i hx
    rw [List.nodup_append]
    refine ⟨h, by simp, ?_⟩
    intro a ha b hb e
    rw [List.mem_singleton] at hb
    subst hb
    subst e
    exact hx ha
theorem mem_insAll : ∀ {xs F : List Nat} {y : Nat}, y ∈ xs.foldl ins F ↔ y ∈ F ∨ y ∈ xs
  | [], F, y => by simp
  | x :: xs, F, y => by
    rw [List.foldl_cons, mem_insAll, mem_ins, List.mem_cons]
    constructor
    · rintro ((a | b) | c)
      · exact Or.inl a
      · exact Or.inr (Or.inl b)
      · exact Or.inr (Or.inr c)
    · rintro (a | b | c)
      · exact Or.inl (Or.inl a)
      · exact Or.inl (Or.inr b)
      · exact Or.inr c
theorem nodup_insAll : ∀ {xs F : List Nat}, F.Nodup → (xs.foldl ins F).Nodup
  | [], _, h => h
  | _ :: xs, _, h => nodup_insAll (xs := xs) (nodup_ins h)
def stepB (R : List Row) (F : List Nat) (n : Nat) : List Nat := if n ∈ F then (parts R n).foldl ins F else F
/-- the dict's keys behind i turns -/
def goB (R : List Row) (v : Nat) : Nat → List Nat
  | 0 => [v]
  | i + 1 => stepB R (goB R v i) (v - i)
inductive Reach (R : List Row) (v : Nat) : Nat → Prop where
  | refl : Reach R v v
  | step {n p : Nat} : Reach R v n → p ∈ parts R n → Reach R v p
theorem Reach.le {R : List Row} (g : Good R) {v x : Nat} (h : Reach R v x) : x ≤ v := by
  induction h with
  | refl => exact Nat.le_refl _
  | step _ hp ih => have := good_lt g hp; omega
theorem Reach.trans {R : List Row} {u v x : Nat} (h1 : Reach R u v) (h2 : Reach R v x) : Reach R u x := by
  induction h2 with
  | refl => exact h1
  | step _ hp ih => exact .step ih hp
theorem mem_goB {R : List Row} (g : Good R) (v : Nat) : ∀ (i : Nat), i ≤ v + 1 → ∀ x, x ∈ goB R v i ↔ x = v ∨ ∃ n, Reach R v n ∧ v < n + i ∧ x ∈ parts R n
  | 0, _, x => by
    constructor
    · intro h
      exact Or.inl (List.mem_singleton.mp h)
    · rintro (rfl | ⟨n, hr, hn, _⟩)
      · exact List.mem_singleton.mpr rfl
      · have := hr.le g
        omega
  | i + 1, hi, x => by
    have ih := mem_goB g v i (by omega)
    have key : v - i ∈ goB R v i ↔ Reach R v (v - i) := by
      rw [ih]
      constructor
      · rintro (e | ⟨n, hr, _, hp⟩)
        · rw [e]; exact .refl
        · exact .step hr hp
      · intro h
        generalize hm : v - i = m at h
        cases h with
        | refl => exact Or.inl rfl
        | @step n _ hr hp => exact Or.inr ⟨n, hr, by have := good_lt g hp; omega, hp⟩
    show x ∈ stepB R (goB R v i) (v - i) ↔ _
    unfold stepB
    split
    · rename_i hm
      rw [mem_insAll, ih]
      constructor
      · rintro ((a | ⟨n, hr, hn, hp⟩) | c)
        · exact Or.inl a
        · exact Or.inr ⟨n, hr, by omega, hp⟩
        · exact Or.inr ⟨v - i, key.mp hm, by omega, c⟩
      · rintro (a | ⟨n, hr, hn, hp⟩)
        · exact Or.inl (Or.inl a)
        · by_cases hz : v < n + i
          · exact Or.inl (Or.inr ⟨n, hr, hz, hp⟩)
          · have : n = v - i := by omega
            exact Or.inr (this ▸ hp)
    · rename_i hm
      rw [ih]
      constructor
      · rintro (a | ⟨n, hr, hn, hp⟩)
        · exact Or.inl a
        · exact Or.inr ⟨n, hr, by omega, hp⟩
      · rintro (a | ⟨n, hr, hn, hp⟩)
        · exact Or.inl a
        · by_cases hz : v < n + i
          · exact Or.inr ⟨n, hr, hz, hp⟩
          · have e : n = v - i := by omega
            exact absurd (key.mpr (e ▸ hr)) hm
theorem nodup_goB {R : List Row} {v : Nat} : ∀ i, (goB R v i).Nodup
  | 0 => by show [v].Nodup; simp
  | i + 1 => by
    show (stepB R (goB R v i) (v - i)).Nodup
    unfold stepB
    split
    · exact nodup_insAll (nodup_goB i)
    · exact nodup_goB i
theorem reach_goB {R : List Row} (g : Good R) {v x : Nat} : x ∈ goB R v (v + 1) ↔ Reach R v x := by
  rw [mem_goB g v (v + 1) (Nat.le_refl _)]
  constructor
  · rintro (rfl | ⟨n, hr, _, hp⟩)
    · exact .refl
    · exact .step hr hp
  · intro h
    cases h with
    | refl => exact Or.inl rfl
    | @step n _ hr hp => exact Or.inr ⟨n, hr, by omega, hp⟩
/-- what v is made of, ascending -/
def belowM (R : List Row) (v : Nat) : List Nat := (List.range (v + 1)).filter fun x => decide (x ∈ goB R v (v + 1))
theorem mem_belowM {R : List Row} (g : Good R) {v x : Nat} : x ∈ belowM R v ↔ Reach R v x := by
  unfold belowM
  rw [List.mem_filter, List.mem_range, decide_eq_true_eq, reach_goB g]
  exact ⟨fun h => h.2, fun h => ⟨by have := h.le g; omega, h⟩⟩
theorem sorted_belowM {R : List Row} {v : Nat} : (belowM R v).Pairwise (· < ·) := List.Pairwise.filter _ List.pairwise_lt_range
theorem nodup_of_lt {l : List Nat} (h : l.Pairwise (· < ·)) : l.Nodup := h.imp fun h => Nat.ne_of_lt h
theorem nodup_belowM {R : List Row} {v : Nat} : (belowM R v).Nodup := nodup_of_lt sorted_belowM
/-- two ascending lists of the same members are one -/
theorem eq_of_sorted : ∀ {l m : List Nat}, l.Pairwise (· < ·) → m.Pairwise (· < ·) → (∀ x, x ∈ l ↔ x ∈ m) → l = m
  | [], [], _, _, _ => rfl
  | [], b :: m, _, _, h => absurd ((h b).mpr List.mem_cons_self) (by simp)
  | a :: l, [], _, _, h => absurd ((h a).mp List.mem_cons_self) (by simp)
  | a :: l, b :: m, h1, h2, h => by
    rw [List.pairwise_cons] at h1 h2
    have e : a = b := by
      have ha := (h a).mp List.mem_cons_self
      have hb := (h b).mpr List.mem_cons_self
      rw [List.mem_cons] at ha hb
      rcases ha with ha | ha
      · exact ha
      · rcases hb with hb | hb
        · exact hb.symm
        · have := h1.1 b hb
          have := h2.1 a ha
          omega
    subst e
    have : l = m := eq_of_sorted h1.2 h2.2 fun x => by
      have hx := h x
      rw [List.mem_cons, List.mem_cons] at hx
      constructor
      · intro hl
        rcases hx.mp (Or.inr hl) with e | e
        · exact absurd (h1.1 x hl) (by omega)
        · exact e
      · intro hm
        rcases hx.mpr (Or.inr hm) with e | e
        · exact absurd (h2.1 x hm) (by omega)
        · exact e
    rw [this]
theorem sorted_int_eq : ∀ {l m : List Int}, l.Pairwise (· ≤ ·) → m.Pairwise (· ≤ ·) → l.Perm m → l = m
  | [], m, _, _, h => (List.nil_perm.mp h).symm
  | a :: l, [], _, _, h => absurd h.length_eq (by simp)
  | a :: l, b :: m, h1, h2, h => by
    rw [List.pairwise_cons] at h1 h2
    have e : a = b := by
      have ha : a ∈ b :: m := h.mem_iff.mp List.mem_cons_self
      have hb : b ∈ a :: l := h.mem_iff.mpr List.mem_cons_self
      rw [List.mem_cons] at ha hb
      rcases ha with ha | ha
      · exact ha
      · rcases hb with hb | hb
        · exact hb.symm
        · have := h1.1 b hb
          have := h2.1 a ha
          omega
    subst e
    rw [sorted_int_eq h1.2 h2.2 (List.perm_cons _ |>.mp h)]
/-- the dict's keys, sorted as ints -/
theorem sorted_keys {R : List Row} (g : Good R) {v : Nat} {ns : List Int} (hp : ns.Perm ((goB R v (v + 1)).map (fun (x : Nat) => (x : Int)))) (hs : ns.Pairwise (· ≤ ·)) : ns = (belowM R v).map (fun (x : Nat) => (x : Int)) := by
  refine sorted_int_eq hs ?_ (hp.trans (List.Perm.map _ ?_))
  · rw [List.pairwise_map]
    exact sorted_belowM.imp fun {a b} h => by omega
  · refine (List.perm_ext_iff_of_nodup (nodup_goB _) nodup_belowM).mpr fun x => ?_
    rw [reach_goB g, mem_belowM g]
theorem belowM_len {R : List Row} {v : Nat} : (belowM R v).length ≤ v + 1 := by
  have := List.length_filter_le (fun x => decide (x ∈ goB R v (v + 1))) (List.range (v + 1))
  rw [List.length_range] at this
  exact this
theorem belowM_lt {R : List Row} (g : Good R) {v x : Nat} (h : x ∈ belowM R v) : x ≤ v := ((mem_belowM g).mp h).le g
/-- the web cut out -/
def cutM (R : List Row) (v : Nat) : List Row := (belowM R v).map fun n => ((rowAt R n).1, (parts R n).map fun p => (belowM R v).idxOf p)
theorem cutM_len {R : List Row} {v : Nat} : (cutM R v).length = (belowM R v).length := List.length_map _
theorem gd {l : List Nat} {i : Nat} (h : i < l.length) : l.getD i 0 = l[i] := by
  rw [List.getD_eq_getElem?_getD, List.getElem?_eq_getElem h]
  rfl
theorem cutM_row {R : List Row} {v i : Nat} (h : i < (belowM R v).length) : rowAt (cutM R v) i = ((rowAt R ((belowM R v).getD i 0)).1, (parts R ((belowM R v).getD i 0)).map fun p => (belowM R v).idxOf p) := by
  unfold rowAt cutM
  rw [List.getD_eq_getElem?_getD, List.getElem?_map, List.getElem?_eq_getElem h]
  rw [gd h]
  rfl
theorem getD_mem {l : List Nat} {i : Nat} (h : i < l.length) : l.getD i 0 ∈ l := by
  rw [gd h]
  exact List.getElem_mem h
theorem idxOf_getD {l : List Nat} {x : Nat} (h : x ∈ l) : l.getD (l.idxOf x) 0 = x := by
  rw [gd (List.idxOf_lt_length_of_mem h)]
  exact List.getElem_idxOf (List.idxOf_lt_length_of_mem h)
theorem idxOf_of_getD {l : List Nat} (hn : l.Nodup) {i : Nat} (h : i < l.length) : l.idxOf (l.getD i 0) = i := by
  rw [gd h]
  exact List.Nodup.idxOf_getElem hn i h
theorem getD_lt {l : List Nat} (hs : l.Pairwise (· < ·)) {i j : Nat} (hij : i < j) (hj : j < l.length) : l.getD i 0 < l.getD j 0 := by
  rw [gd hj, gd (show i < l.length by omega)]
  exact List.pairwise_iff_getElem.mp hs i j (by omega) hj hij
theorem part_in {R : List Row} (g : Good R) {v n p : Nat} (hn : n ∈ belowM R v) (hp : p ∈ parts R n) : p ∈ belowM R v := (mem_belowM g).mpr (.step ((mem_belowM g).mp hn) hp)
theorem idx_lt {l : List Nat} (hs : l.Pairwise (· < ·)) {x y : Nat} (hx : x ∈ l) (hy : y ∈ l) (h : x < y) : l.idxOf x < l.idxOf y := by
  rcases Nat.lt_or_ge (l.idxOf x) (l.idxOf y) with h1 | h1
  · exact h1
  · rcases Nat.lt_or_eq_of_le h1 with h2 | h2
    · have := getD_lt hs h2 (List.idxOf_lt_length_of_mem hx)
      rw [idxOf_getD hx, idxOf_getD hy] at this
      omega
    · have e := idxOf_getD hx
      rw [← h2, idxOf_getD hy] at e
      omega
theorem good_cutM {R : List Row} (g : Good R) {v : Nat} (hv : v < R.length) : Good (cutM R v) := by
  intro i hi
  rw [cutM_len] at hi
  unfold parts
  rw [cutM_row hi]
  have hm := getD_mem hi
  have hlt : (belowM R v).getD i 0 < R.length := by have := belowM_lt g hm; omega
  obtain ⟨h1, h2, h3⟩ := g _ hlt
  refine ⟨h1, by rw [List.length_map]; exact h2, fun p hp => ?_⟩
  obtain ⟨q, hq, rfl⟩ := List.mem_map.mp hp
  have := idx_lt sorted_belowM (part_in g hm hq) hm (h3 q hq)
  rwa [idxOf_of_getD nodup_belowM hi] at this
/-- a step in the web cut out is a step in the web -/
theorem cut_part {R : List Row} (g : Good R) {v i j : Nat} (hi : i < (belowM R v).length) : j ∈ parts (cutM R v) i ↔ j < (belowM R v).length ∧ (belowM R v).getD j 0 ∈ parts R ((belowM R v).getD i 0) := by
  unfold parts
  rw [cutM_row hi]
  constructor
  · intro h
    obtain ⟨q, hq, rfl⟩ := List.mem_map.mp h
    have hm := part_in g (getD_mem hi) hq
    exact ⟨List.idxOf_lt_length_of_mem hm, by rw [idxOf_getD hm]; exact hq⟩
  · rintro ⟨hj, h⟩
    exact List.mem_map.mpr ⟨_, h, idxOf_of_getD nodup_belowM hj⟩
theorem reach_cut {R : List Row} (g : Good R) {v i j : Nat} (hi : i < (belowM R v).length) : Reach (cutM R v) i j ↔ j < (belowM R v).length ∧ Reach R ((belowM R v).getD i 0) ((belowM R v).getD j 0) := by
  constructor
  · intro h
    induction h with
    | refl => exact ⟨hi, .refl⟩
    | step _ hp ih =>
      obtain ⟨h1, h2⟩ := (cut_part g ih.1).mp hp
      exact ⟨h1, .step ih.2 h2⟩
  · rintro ⟨hj, h⟩
    generalize hx : (belowM R v).getD j 0 = x at h
    induction h generalizing j with
    | refl =>
      have e : j = i := by
        have this : (belowM R v).idxOf ((belowM R v).getD j 0) = (belowM R v).idxOf ((belowM R v).getD i 0) := congrArg (fun y => (belowM R v).idxOf y) hx
        rwa [idxOf_of_getD nodup_belowM hj, idxOf_of_getD nodup_belowM hi] at this
      rw [e]
      exact .refl
    | @step n p hr hp ih =>
      have hn : n ∈ belowM R v := (mem_belowM g).mpr (((mem_belowM g).mp (getD_mem hi)).trans hr)
      have h1 := ih (j := (belowM R v).idxOf n) (List.idxOf_lt_length_of_mem hn) (idxOf_getD hn)
      refine .step h1 ((cut_part g (List.idxOf_lt_length_of_mem hn)).mpr ⟨hj, ?_⟩)
      rw [idxOf_getD hn, hx]
      exact hp
theorem below_cut {R : List Row} (g : Good R) {v i : Nat} (hv : v < R.length) (hi : i < (belowM R v).length) :
    (belowM (cutM R v) i).map (fun j => (belowM R v).getD j 0) = belowM R ((belowM R v).getD i 0) := by
  have gc := good_cutM g hv
  refine eq_of_sorted ?_ sorted_belowM fun x => ?_
  · rw [List.pairwise_map]
    refine List.Pairwise.imp_of_mem ?_ sorted_belowM
    intro a b ha hb hab
    exact getD_lt sorted_belowM hab ((reach_cut g hi).mp ((mem_belowM gc).mp hb)).1
  · rw [mem_belowM g, List.mem_map]
    constructor
    · rintro ⟨j, hj, rfl⟩
      exact ((reach_cut g hi).mp ((mem_belowM gc).mp hj)).2
    · intro h
      have hx : x ∈ belowM R v := (mem_belowM g).mpr (((mem_belowM g).mp (getD_mem hi)).trans h)
      refine ⟨(belowM R v).idxOf x, (mem_belowM gc).mpr ((reach_cut g hi).mpr ⟨List.idxOf_lt_length_of_mem hx, ?_⟩), idxOf_getD hx⟩
      rw [idxOf_getD hx]
      exact h
theorem idxOf_map {l : List Nat} {f : Nat → Nat} {x : Nat} (hx : x ∈ l) (hf : ∀ a ∈ l, ∀ b ∈ l, f a = f b → a = b) : (l.map f).idxOf (f x) = l.idxOf x := by
  induction l with
  | nil => cases hx
  | cons a l ih =>
    rw [List.map_cons, List.idxOf_cons, List.idxOf_cons]
    by_cases e : a = x
    · subst e
      simp
    · have ne : ¬ f a = f x := fun q => e (hf a List.mem_cons_self x hx q)
      have ne' : (f a == f x) = false := by simpa using ne
      have e' : (a == x) = false := by simpa using e
      rw [ne', e']
      have hx' : x ∈ l := by
        rcases List.mem_cons.mp hx with q | q
        · exact absurd q.symm e
        · exact q
      show (l.map f).idxOf (f x) + 1 = l.idxOf x + 1
      rw [ih hx' fun a ha b hb => hf a (List.mem_cons_of_mem _ ha) b (List.mem_cons_of_mem _ hb)]
theorem cut_cut {R : List Row} (g : Good R) {v i : Nat} (hv : v < R.length) (hi : i < (belowM R v).length) : cutM (cutM R v) i = cutM R ((belowM R v).getD i 0) := by
  have gc := good_cutM g hv
  have hb := below_cut g hv hi
  show (belowM (cutM R v) i).map _ = (belowM R ((belowM R v).getD i 0)).map _
  have inj : ∀ a ∈ belowM (cutM R v) i, ∀ b ∈ belowM (cutM R v) i, (belowM R v).getD a 0 = (belowM R v).getD b 0 → a = b := fun a ha b hb e => by
    have h1 := ((reach_cut g hi).mp ((mem_belowM gc).mp ha)).1
    have h2 := ((reach_cut g hi).mp ((mem_belowM gc).mp hb)).1
    have this : (belowM R v).idxOf ((belowM R v).getD a 0) = (belowM R v).idxOf ((belowM R v).getD b 0) := congrArg (fun y => (belowM R v).idxOf y) e
    rwa [idxOf_of_getD nodup_belowM h1, idxOf_of_getD nodup_belowM h2] at this
  rw [← hb, List.map_map]
  refine List.map_congr_left fun n hn => ?_
  have hnl := ((reach_cut g hi).mp ((mem_belowM gc).mp hn)).1
  show ((rowAt (cutM R v) n).1, (parts (cutM R v) n).map _) = ((rowAt R ((belowM R v).getD n 0)).1, (parts R ((belowM R v).getD n 0)).map _)
  unfold parts
  rw [cutM_row hnl]
  refine Prod.ext rfl ?_
  show (List.map _ _).map _ = List.map _ _
  rw [List.map_map]
  refine List.map_congr_left fun p hp => ?_
  have hpB : p ∈ belowM R v := part_in g (getD_mem hnl) hp
  have hpi : (belowM R v).idxOf p ∈ belowM (cutM R v) i := by
    refine part_in gc hn ((cut_part g hnl).mpr ⟨List.idxOf_lt_length_of_mem hpB, ?_⟩)
    rw [idxOf_getD hpB]
    exact hp
  have := idxOf_map (f := fun j => (belowM R v).getD j 0) hpi inj
  rw [idxOf_getD hpB] at this
  exact this.symm
/-- the value is the last one of what it is made of -/
theorem belowM_last {R : List Row} (g : Good R) {v : Nat} : 0 < (belowM R v).length ∧ (belowM R v).getD ((belowM R v).length - 1) 0 = v := by
  have hv : v ∈ belowM R v := (mem_belowM g).mpr .refl
  have hl : 0 < (belowM R v).length := List.length_pos_of_mem hv
  refine ⟨hl, ?_⟩
  have h1 := List.idxOf_lt_length_of_mem hv
  rcases Nat.lt_or_ge ((belowM R v).idxOf v) ((belowM R v).length - 1) with h | h
  · have h2 := getD_lt (l := belowM R v) sorted_belowM h (by omega)
    rw [idxOf_getD hv] at h2
    have h3 := belowM_lt g (getD_mem (l := belowM R v) (i := (belowM R v).length - 1) (by omega))
    omega
  · have e : (belowM R v).length - 1 = (belowM R v).idxOf v := by omega
    rw [e, idxOf_getD hv]
theorem cut_again {R : List Row} (g : Good R) {v : Nat} (hv : v < R.length) : cutM (cutM R v) ((cutM R v).length - 1) = cutM R v := by
  obtain ⟨h1, h2⟩ := belowM_last g (v := v)
  rw [cutM_len, cut_cut g hv (by omega), h2]
end Lk
/-! enumerate of a tuple: my own rule beside the layer's for lists -/
namespace EnT
open PySem PySem.Spec PyProof.Rows L2
theorem new1 {v : Value} {ob : Obj} {G : Heap → Prop} (B : Begins v ob G) : Meets (Builtin.«enumerate.__new__» ⟨[.type "enumerate", v], []⟩)
    (fun _ R s => G s.heap ∧ R (.ok (.ret (.ref (s.heap.push ob).objs.size))) { s with heap := (s.heap.push ob).push { cls := .type "enumerate", data := .fields #[.none, .bool false, .ref s.heap.objs.size, rawInt 0, .none, .none] } }) :=
  .of_wp fun prog w A R s hh => by
    obtain ⟨hp, gg, dd, tt, oo⟩ := s; obtain ⟨ha, hb⟩ := hh
    have hsub := sub_enumerate
    have it0 : ∀ {A' : Around} {E Q : Value → Shared → Prop}, Q (.ref hp.objs.size) ⟨hp.push ob, gg, dd, tt, oo⟩ → wpAny (model prog w) A' (pyIter v) Q E ⟨hp, gg, dd, tt, oo⟩ :=
      fun {_ _ _} q => B.iter prog w _ _ ⟨hp, gg, dd, tt, oo⟩ _ ha q
    wp_walk using it0
    refine wpAny_stack_any fun _ => wpAny_pure ?_
    split
    · rename_i c _ _ _ _ _
      cases (c == Value.type "enumerate") <;> (wp_walk using it0; exact ⟨_, rfl, hb⟩)
    · wp_walk using it0
      exact ⟨_, rfl, hb⟩
section
variable {prog : Program} {w : World} {A : Around} {E : Value → Shared → Prop} {s : Shared}
theorem call1 {v : Value} {ob : Obj} {G : Heap → Prop} {Q : Value → Shared → Prop} (B : Begins v ob G) (ha : G s.heap)
    (q : ∀ h', IsEnum h' (s.heap.objs.size + 1) s.heap.objs.size 0 .none → h'.get? s.heap.objs.size = some ob → (∀ b o, s.heap.get? b = some o → h'.get? b = some o) → Q (.ref (s.heap.objs.size + 1)) { s with heap := h' }) :
    wpAny (model prog w) A (call (.type "enumerate") [v]) Q E s := by
  refine callType_new F.called_enumerate (by decide) (F.typeCall_enumerate_1 _) (F.newCall_enumerate_1 _) (fun obj => F.args_object_init_2 obj _) F.entry_enumerate_new (new1 B) ⟨ha, ?_⟩
  have sz : (s.heap.push ob).objs.size = s.heap.objs.size + 1 := Heap.size_push ..
  show _ ∧ _
  rw [sz]
  have en : IsEnum ((s.heap.push ob).push { cls := .type "enumerate", data := .fields #[.none, .bool false, .ref s.heap.objs.size, rawInt 0, .none, .none] }) (s.heap.objs.size + 1) s.heap.objs.size 0 .none := by
    have z := Heap.get?_push_size (s.heap.push ob) (o := { cls := .type "enumerate", data := .fields #[.none, .bool false, .ref s.heap.objs.size, rawInt 0, .none, .none] }) rfl
    rw [sz] at z; exact z
  exact ⟨⟨_, en, rfl⟩, q _ en (Heap.get?_push_of_some _ (Heap.get?_push_size _ B.free)) fun b o x => Heap.get?_push_of_some _ (Heap.get?_push_of_some _ x)⟩
end
/-- the tuple at a as it stands, each item in a new pair -/
def ItE (K : PySem.W.Frag) (a : Addr) : It :=
  ⟨fun i H => ∃ (xs : List V) (x : V), SqT K H a xs ∧ xs[i]? = some x,
   fun i H v H' => ∃ T x, v = .ref T ∧ H T = none ∧ H' = upd H T (.tup [.int (i : Nat), x]) ∧ ∀ xs, SqT K H a xs → xs[i]? = some x,
   fun i H => ∃ xs : List V, SqT K H a xs ∧ xs.length = i⟩
theorem turn {P : Program} {w : World} {K : PySem.W.Frag} {elts : List Expr} {kk : Nat} {tpos : Pos} (a e it : Addr) (hai : a ≠ it) :
    Turn P w K (.Tuple elts kk tpos) (ItE K a) [e, it] e (fun i h => (∃ old, IsEnum h e it ((i : Nat) : Int) old) ∧ h.IsTupleIter it a i ∧ e ≠ it) where
  mem := by simp
  obj := by
    intro i h st b hb
    obtain ⟨⟨old, he⟩, ⟨o, ho, hc, hd⟩, _⟩ := st
    have z : b = e ∨ b = it := by simpa using hb
    rcases z with z | z
    · subst z
      exact ⟨_, he, fun v q => nomatch q⟩
    · subst z
      exact ⟨o, ho, fun v q => by rw [hd] at q; cases q⟩
  keep := by
    intro i h h' st k
    obtain ⟨⟨old, he⟩, hi, hne⟩ := st
    exact ⟨⟨old, k e (by simp) _ he⟩, hi.at fun o q => k it (by simp) o q, hne⟩
  item := by
    intro X hP hw hK hc i pins s σ H E I hf st hg
    subst hP hw hK
    obtain ⟨⟨old, he⟩, hit, hne⟩ := st
    obtain ⟨xs, x, hq, hx⟩ := hg
    obtain ⟨its, rv, p, hz⟩ := I.tuple hq
    obtain ⟨u, hu, ru⟩ := rv.get hx
    have hel : e < s.heap.objs.size := Heap.lt_size he
    have hil : it < s.heap.objs.size := by obtain ⟨_, q, _⟩ := hit; exact Heap.lt_size q
    have hlt : i < its.toArray.size := by
      have := (List.getElem?_eq_some_iff.mp hu).1
      simpa using this
    have hd : X.A.in1.handled = none := I.ok.hd hc
    have D := Draws.tuple (prog := X.prog) (w := X.w) (A := X.A.in1) hd it a hai its.toArray
    have hea : e ≠ a := by
      intro z
      obtain ⟨o, ho, hcl, _⟩ := p
      have q := Option.some.inj (ho.symm.trans (z ▸ he))
      rw [q] at hcl
      exact absurd (Value.type.inj (show Value.type "enumerate" = Value.type "tuple" from hcl)) (by decide)
    refine wpAny_pyNext_enum_itemC D he ⟨hit, p⟩ hlt hne (by simp [hne, hea]) fun y h' tk hP ho hst hT hsz hk => ?_
    have hy : y = u := by
      have q : its.toArray[i]? = some y := hP
      rw [List.getElem?_toArray, hu] at q
      exact (Option.some.inj q).symm
    subst hy
    refine ⟨_, rfl, wpAny_letOwnedTupleGo_enum (s := { s with heap := h', toks := tk + 1 }) ho fun h2 he2 sb => ?_⟩
    have hT2 : h2.get? s.heap.objs.size = some { cls := .type "tuple", data := .seq #[.int i tk, y] } := (sb.2 _ (Nat.ne_of_gt hel)).trans hT
    have new : ObjOk X.prog X.w (upd H s.heap.objs.size (.tup [.int (i : Nat), x])) h2 s.heap.objs.size (.tup [.int (i : Nat), x]) :=
      ⟨(by decide : 2 ≤ sizeLine), [.int i tk, y], .cons ⟨_, rfl⟩ (.cons ru .nil), ⟨_, hT2, rfl, _, rfl⟩⟩
    have I1 : Inv X pins σ (upd H s.heap.objs.size (.tup [.int (i : Nat), x])) { s with heap := h2, toks := tk + 1 } :=
      I.turnedNew (ch := [e, it]) (fun b ob hb q => (sb.2 b (fun z => hb (by simp [z]))).trans (hk b ob (fun z => hb (by simp [z])) (fun z => hb (by simp [z])) q)) hf (Nat.le_refl _) new
    refine ⟨.ref s.heap.objs.size, _, I1, rfl, ⟨_, x, rfl, I.hok.fresh (Nat.le_refl _), rfl, fun ys hy => by rw [I.tuple_inj hy hq]; exact hx⟩, ⟨⟨y, ?_⟩, hst.1.at fun o q => (sb.2 it (Ne.symm hne)).trans q, hne⟩, ?_⟩
    · have e1 : ((i + 1 : Nat) : Int) = (i : Int) + 1 := by omega
      rw [e1]
      exact he2
    · intro b hb
      have hb' : b < s.heap.objs.size := by
        have z : b = e ∨ b = it := by simpa using hb
        rcases z with z | z <;> rw [z] <;> assumption
      rw [upd_ne (Nat.ne_of_lt hb')]
      exact (hf b hb).1
  done := by
    intro X hP hw hK hc i pins s σ H E I hf st hg
    subst hP hw hK
    obtain ⟨⟨old, he⟩, hit, hne⟩ := st
    obtain ⟨xs, hq, hx⟩ := hg
    obtain ⟨its, rv, p, hz⟩ := I.tuple hq
    have hd : X.A.in1.handled = none := I.ok.hd hc
    have D := Draws.tuple (prog := X.prog) (w := X.w) (A := X.A.in1) hd it a hai its.toArray
    have hsz : its.toArray.size = i := by
      rw [List.size_toArray, ← rv.length, hx]
    obtain ⟨f0, f1, f2, f3, f4, f5⟩ := hf it (by simp)
    exact wpAny_pyNext_enum_endD D he ⟨hsz ▸ hit, p⟩ fun h' eb => ⟨rfl, I.turned (t' := s.toks) (fun b o hb q => eb b o hb q) f0 f1 f3 f4 f5⟩
  self := fun A i s Q E st h => let ⟨⟨_, he⟩, _⟩ := st; wpAny_pyIter_enum he h
def iEnumT (K : PySem.W.Frag) (ta : TA) : TI := fun σ H R => ta σ H fun vs H1 => ∃ a xs, vs = [.ref a] ∧ SqT K H1 a xs ∧ R (ItE K a) H1
theorem pi_enumT {X : Cx} {e : Expr} {ta : TA} {p pos tpos : Pos} {elts : List Expr} {kk : Nat} (hg : Gl X "enumerate") (hm : X.mg "enumerate" = none) (ha : PA X [e] ta)
    (hs : starEach [e] X.env = [(false, eval e X.env)] := by rfl) : PI X (.Tuple elts kk tpos) (.Call (.Name "enumerate" p) [e] [] pos) (iEnumT X.K ta) := by
  refine ⟨fun pins s σ H R I h => ?_⟩
  refine Call_ (ld_blt I hg hm boot_enumerate (PyProof.Rows.callWith_type1 (thn (ha.run pos pins s σ H _ I h) fun us s1 ⟨vs, H1, I1, r1, q1⟩ => ?_) hs rfl))
  obtain ⟨a, xs, rfl, hq, q⟩ := q1
  cases r1 with
  | cons r rr =>
    cases rr
    cases r
    obtain ⟨its, rv, p', hz⟩ := I1.tuple hq
    have hal : a < s1.heap.objs.size := by obtain ⟨o, ho, _⟩ := p'; exact Heap.lt_size ho
    refine call1 (begins_tuple a its.toArray) p' fun h' he hit hk => wpAny_pyIter_enum he ?_
    have I2 : Inv X pins σ H1 { s1 with heap := h' } := I1.kept (t' := s1.toks) hk
    refine ⟨s1.heap.objs.size + 1, [s1.heap.objs.size + 1, s1.heap.objs.size], _, _, H1, rfl, I2, turn a (s1.heap.objs.size + 1) s1.heap.objs.size (Nat.ne_of_lt hal), ⟨⟨.none, he⟩, ⟨_, hit, rfl, rfl⟩, Nat.succ_ne_self _⟩, ?_, q⟩
    intro b hb
    have z : b = s1.heap.objs.size + 1 ∨ b = s1.heap.objs.size := by simpa using hb
    have hle : s1.heap.objs.size ≤ b := by
      rcases z with z | z <;> rw [z]
      · exact Nat.le_add_right _ _
      · exact Nat.le_refl _
    exact I1.fpOk hle (I1.hok.fresh hle)
theorem walkE {K : PySem.W.Frag} {a : Addr} {xs : List V} : Walk (ItE K a) xs.length (fun H => SqT K H a xs) (YPair (fun i => some (.int (i : Nat))) (fun i => xs[i]?)) := by
  refine ⟨fun i _ hi q => ⟨xs, xs[i], q, by simp [hi]⟩, fun _ q => ⟨xs, q, rfl⟩, ?_⟩
  intro i H v H' _ q y
  obtain ⟨T, x, e1, e2, e3, e4⟩ := y
  exact ⟨T, .int (i : Nat), x, e1, e2, e3, rfl, e4 xs q⟩
/-- a dict comprehension over anything that walks -/
theorem dc_it {J : It} {n : Nat} {G : Hp → Prop} {Y : Nat → Hp → V → Hp → Prop} (w : Walk J n G Y) {g : TG} {tt : TT} {tk tv : TE} {vs : List Nat} {σ : L2.St} {H1 : Hp} {D : Addr} {Qd : Hp → Prop} (Pv : Nat → Hp → Prop)
    (h0 : Pv 0 (upd H1 D (.dK []))) (hG : ∀ i H, i ≤ n → Pv i H → G H)
    (hs : ∀ i x H H', i < n → Pv i H → Y i H x H' → g x (wipe σ vs) H' fun σ2 H2 => wipe σ2 vs = wipe σ vs ∧ tt σ2 H2 fun b H3 =>
      if b = true then tk σ2 H3 fun y H4 => tv σ2 H4 fun z H5 => ∃ kvs k, y = kV k ∧ H5 D = some (.dK kvs) ∧ kvs.length < sizeLine ∧ Pv (i + 1) (upd H5 D (.dK (putK kvs k z))) else Pv (i + 1) H3)
    (hd : ∀ H, Pv n H → Qd H) :
    ∃ W : Nat → Nat → Hp → Prop, (∃ m, W 0 m (upd H1 D (.dK []))) ∧ ∀ i m H, W i m H →
      (J.stop i H ∧ Qd H) ∨ (J.go i H ∧ ∃ Nx : Hp → Prop, (∀ H', Nx H' → ∃ m', m' < m ∧ W (i + 1) m' H') ∧ ∀ x H', J.yld i H x H' → g x (wipe σ vs) H' fun σ2 H2 => wipe σ2 vs = wipe σ vs ∧ tt σ2 H2 fun b H3 =>
        if b = true then tk σ2 H3 fun y H4 => tv σ2 H4 fun z H5 => ∃ kvs k, y = kV k ∧ H5 D = some (.dK kvs) ∧ kvs.length < sizeLine ∧ Nx (upd H5 D (.dK (putK kvs k z))) else Nx H3) := by
  refine ⟨fun i m H => m = n - i ∧ i ≤ n ∧ Pv i H, ⟨n, by simp, Nat.zero_le _, h0⟩, ?_⟩
  intro i m H hW
  obtain ⟨em, hi, p⟩ := hW
  subst em
  have q := hG i H hi p
  by_cases hlt : i < n
  · exact Or.inr ⟨w.goes i H hlt q, Pv (i + 1), fun H' p' => ⟨n - (i + 1), by omega, rfl, hlt, p'⟩, fun x H' y => hs i x H H' hlt p (w.yields i H x H' hlt q y)⟩
  · have e : i = n := by omega
    subst e
    exact Or.inl ⟨w.stops H q, hd H p⟩
end EnT
/-! sorted of a dict whose keys are ints, any number of them: my own rule beside the layer's for fewer than 64 -/
namespace SoD
open PySem PySem.Spec PyProof.Rows L2
variable {X : Cx}
def rSortDA : List V → Hp → VK → Prop := fun xs H Q => ∃ (a : Addr) (kvs : List (Key × V)) (ks : List Int), xs = [.ref a] ∧ Rd H a (.dK kvs) ∧ kvs.map (·.1) = ks.map Sum.inl ∧
  ∀ (ys : List Int) (p : Addr), ys.Perm ks → ys.Pairwise (· ≤ ·) → H p = none → Q (.ref p) (upd H p (.lst (ys.map V.int)))
theorem call_sortDA (hcalm : X.calm = true) : CallR X (.builtin "sorted") rSortDA := by
  intro pins s σ H xs us Q I r h
  obtain ⟨a, kvs, ks, rfl, hd, hks, q⟩ := h
  obtain ⟨u, rfl, rx⟩ := vals1 r
  cases rx
  obtain ⟨z, lo, vs, rel, dd⟩ := dk_rd I.hok hd
  obtain ⟨ep, hat⟩ := dd.dictAt
  have hkeys : vs.map (·.1) = ks.map Sum.inl := rel.keys.symm.trans hks
  have hl : vs.length = ks.length := by simpa using congrArg List.length hkeys
  have hkv : kvs.length = vs.length := Paired.length rel
  have h16 : vs.length ≤ sizeLine := by rw [← hkv]; exact z
  refine Calls.call_function_entry PyProof.Rows.kind_sorted PyProof.Rows.plain_sorted PyProof.Rows.entry_sorted (PyProof.Rows.args_sorted1 _) ?_
  unfold Builtin.«sorted»
  refine wpAny_bind (m := checkCount "sorted" 1 1 _) (wpAny_pure ?_)
  refine wpAny_bind (PySem.W.kdu_collect (A := X.A.in1) (PySem.W.kdl_dict (knd := mixKind X.prog X.w) (kvs := vs) (ep := ep) lo) (I.ok.hd hcalm) hat h16 fun h' tk acc hk hacc => ?_)
  have hal : acc.toList.length = ks.length := by rw [Array.length_toList, hacc.1, hl]
  have hS : IntsAre acc.toList ks := ints_each hal fun j v e => by
    obtain ⟨k, x, e1, e2⟩ := hacc.2 j v (by rw [← Array.getElem?_toList]; exact e)
    have e3 : (vs.map (·.1))[j]? = some k := by
      rw [List.getElem?_map, e1]
      rfl
    rw [hkeys, List.getElem?_map] at e3
    cases e4 : ks[j]? with
    | none =>
      rw [e4] at e3
      cases e3
    | some y =>
      rw [e4] at e3
      have e5 : Sum.inl y = k := Option.some.inj e3
      subst e5
      rcases keyIs_shape (show keyIs (Sum.inl y) v = true from e2) with ⟨i, t, ek, ev⟩ | ⟨z, t, ek, ev⟩
      · cases ek
        exact ⟨y, t, rfl, ev⟩
      · cases ek
  have I1 : Inv X pins σ H { s with heap := h', toks := tk } := I.kept hk
  have hsz : acc.toList.length ≤ sizeLine := by rw [hal, ← hl]; exact h16
  refine wpAny_bind (wpAny_newList ?_ (by simpa using hsz))
  have hoL : (h'.push (seqObj "list" acc.toList.toArray 0)).get? h'.objs.size = some (seqObj "list" acc.toList.toArray 0) := Heap.get?_push_size _ rfl
  show wpAny _ _ _ _ _ { s with heap := h'.push (seqObj "list" acc.toList.toArray 0), toks := tk }
  refine wpAny_bind (wpAny_holding (wpAny_call_entry PyProof.Rows.slot_list_sort ⟨_, hoL, rfl⟩ PyProof.Rows.entry_list_sort
    (SrtO.list_sort_ord (s := { s with heap := h'.push (seqObj "list" acc.toList.toArray 0), toks := tk }) SrtO.swo_int hoL hsz (fun h2 => SrtO.ints_sortable hS h2) fun out g1 g2 => ⟨_, rfl, ?_⟩) (PyProof.Rows.args_list_sort _)))
  obtain ⟨k1, k2, k3⟩ := SrtO.ints_out hS g1 g2
  obtain ⟨e', he'⟩ := PyProof.Rows.sortedHeap_at (vs := acc.toList) (out := out.toArray) hoL
  have hlen : ((out.map SrtO.iv).map V.int).length ≤ sizeLine := by
    rw [List.length_map, k2.length_eq, ← hal]
    exact hsz
  refine wpAny_pure ⟨_, rfl, .ref h'.objs.size, upd H h'.objs.size (.lst ((out.map SrtO.iv).map V.int)), I1.laid (t' := tk) (fun b u e => ?_) (Nat.le_refl _)
    (show ObjOk X.prog X.w _ _ _ (.lst ((out.map SrtO.iv).map V.int)) from ⟨hlen, out, e', vals_of_ints k1, he'⟩), rfl, q _ _ k2 k3 (I1.hok.fresh (Nat.le_refl _))⟩
  have hb : b < h'.objs.size := Heap.lt_size e
  rw [PyProof.Rows.sortedHeap_old (Nat.ne_of_lt hb) (by rw [size_push']; exact Nat.lt_succ_of_lt hb)]
  exact Heap.get?_push_of_some _ e
end SoD
/-! dicts whose keys are tuples of any depth: my own rules beside the layer's for flat ones -/
namespace NeD
open PySem PySem.Spec PyProof.Rows L2
mutual
/-- the value is this key, by what the heap tells -/
inductive NK (K : PySem.W.Frag) (H : Hp) : V → NestedKey → Prop
  | non : NK K H .non .none
  | int (i : Int) : NK K H (.int i) (.num i)
  | str (x : Str) : NK K H (.str x) (.text x)
  | tup {b : Addr} {ys : List V} {ks : List NestedKey} : SqT K H b ys → NKs K H ys ks → NK K H (.ref b) (.tup ks)
inductive NKs (K : PySem.W.Frag) (H : Hp) : List V → List NestedKey → Prop
  | nil : NKs K H [] []
  | cons {v : V} {vs : List V} {k : NestedKey} {ks : List NestedKey} : NK K H v k → NKs K H vs ks → NKs K H (v :: vs) (k :: ks)
end
mutual
theorem NK.mono {K : PySem.W.Frag} {H H' : Hp} (t : ∀ b ys, SqT K H b ys → SqT K H' b ys) : ∀ {v : V} {k : NestedKey}, NK K H v k → NK K H' v k
  | _, _, .non => .non
  | _, _, .int i => .int i
  | _, _, .str x => .str x
  | _, _, .tup h r => .tup (t _ _ h) (NKs.mono t r)
theorem NKs.mono {K : PySem.W.Frag} {H H' : Hp} (t : ∀ b ys, SqT K H b ys → SqT K H' b ys) : ∀ {vs : List V} {ks : List NestedKey}, NKs K H vs ks → NKs K H' vs ks
  | _, _, .nil => .nil
  | _, _, .cons h r => .cons (NK.mono t h) (NKs.mono t r)
end
section
variable {X : Cx} {pins : List (Addr × Obj)} {σ : L2.St} {H : Hp} {s : Shared}
mutual
theorem NK.is (I : Inv X pins σ H s) : ∀ (k : NestedKey) (v : V) (u : Value), NK X.K H v k → RelV v u → NestedIs s.heap k u
  | .none, _, _, .non, r => by
    cases (show _ = Value.none from r)
    exact .none
  | .num _, _, _, .int _, r => by
    obtain ⟨t, e⟩ := (show ∃ t, _ = Value.int _ t from r)
    subst e
    exact .int _ _
  | .text _, _, _, .str _, r => by
    obtain ⟨t, e⟩ := (show ∃ t, _ = Value.str _ t from r)
    subst e
    exact .text _ _
  | .tup ks, _, _, .tup h rs, r => by
    cases (show _ = Value.ref _ from r)
    obtain ⟨its, rv, ⟨o, ho, hc, n, hd⟩, _⟩ := I.tuple h
    exact .tup ho hc hd (by simpa using NKs.is I ks _ its rs rv)
theorem NKs.is (I : Inv X pins σ H s) : ∀ (ks : List NestedKey) (vs : List V) (us : List Value), NKs X.K H vs ks → Vals vs us → NestedAll s.heap ks us
  | [], _, _, .nil, r => by
    cases r
    exact .nil
  | _ :: ks, _, _, .cons h rs, r => by
    cases r with
    | cons r1 r2 => exact .cons (NK.is I _ _ _ h r1) (NKs.is I ks _ _ rs r2)
end
end
abbrev Ent := NestedKey × Addr × V
abbrev KX : List Ent → List (NestedKey × Addr × Value) → Prop := Paired fun p q => p.1 = q.1 ∧ p.2.1 = q.2.1 ∧ RelV p.2.2 q.2.2
/-- the dict at a, as an object -/
def dno (P : Program) (w : World) (a : Addr) (xs : List Ent) : HO := .ext fun h => (a == sysModules) = false ∧ ∃ vs o es ep, KX xs vs ∧ h.get? a = some o ∧ o.ExactDict ∧ o.data = .dict es ep ∧ es.toList = vs.map (entryOfKey (nestedKind P w))
/-- the dict at a holds these pairs -/
def ND (K : PySem.W.Frag) (P : Program) (w : World) (H : Hp) (a : Addr) (kvs : List (NestedKey × V)) : Prop :=
  ∃ xs : List Ent, H a = some (dno P w a xs) ∧ kvs = xs.map (fun x => (x.1, x.2.2)) ∧ (∀ x ∈ xs, NK K H (.ref x.2.1) x.1 ∧ x.1.depth ≤ 8) ∧ (xs.map (·.1)).Nodup ∧ xs.length ≤ sizeLine
theorem dno_ne {P : Program} {w : World} {a : Addr} {xs : List Ent} {o : HO} (h : ∀ φ, o ≠ .ext φ) : dno P w a xs ≠ o := fun e => h _ e.symm
theorem dno_ok {P : Program} {w : World} {H : Hp} {h : Heap} {a : Addr} {xs : List Ent} {vs : List (NestedKey × Addr × Value)} {o : Obj} {es : Array DictEntry} {ep : Nat} (hs : (a == sysModules) = false) (r : KX xs vs) (ho : h.get? a = some o) (he : o.ExactDict) (hd : o.data = .dict es ep) (hm : es.toList = vs.map (entryOfKey (nestedKind P w))) : ObjOk P w H h a (dno P w a xs) :=
  ⟨⟨hs, vs, o, es, ep, r, ho, he, hd, hm⟩, ⟨o, ho⟩, fun _ _ z k => by
    obtain ⟨z1, vs, o, es, ep, r, q, z2⟩ := z
    exact ⟨z1, vs, o, es, ep, r, k _ q, z2⟩⟩
theorem KX.keys {xs : List Ent} {vs : List (NestedKey × Addr × Value)} (r : KX xs vs) : vs.map (·.1) = xs.map (·.1) := by
  induction r with
  | nil => rfl
  | cons h _ ih => rw [List.map_cons, List.map_cons, ih, h.1]
theorem KX.val {xs : List Ent} {vs : List (NestedKey × Addr × Value)} (r : KX xs vs) (k : NestedKey) : RelO (valV (xs.map fun x => (x.1, x.2.2)) k) ((atKey vs k).map (·.2)) := by
  induction r with
  | nil => exact True.intro
  | @cons p q ps qs h t ih =>
    obtain ⟨h1, _, h2⟩ := h
    rw [List.map_cons]
    by_cases e : p.1 = k
    · have b : atKey (q :: qs) k = some q.2 := by simp [atKey, List.find?_cons, h1.symm.trans e]
      rw [valV_pos (p := (p.1, p.2.2)) e, b]
      exact h2
    · have e' : ¬ q.1 = k := fun z => e (h1.trans z)
      have b : atKey (q :: qs) k = atKey qs k := by simp [atKey, List.find?_cons, e']
      rw [valV_neg (p := (p.1, p.2.2)) e, b]
      exact ih
/-- the entries behind a store -/
def putX (xs : List Ent) (k : NestedKey) (b : Addr) (y : V) : List Ent :=
  if (xs.any fun x => decide (x.1 = k)) = true then xs.map (fun x => if x.1 = k then (x.1, x.2.1, y) else x) else xs ++ [(k, b, y)]
theorem putX_put (xs : List Ent) (k : NestedKey) (b : Addr) (y : V) : (putX xs k b y).map (fun x => (x.1, x.2.2)) = putK (xs.map fun x => (x.1, x.2.2)) k y := by
  have ha : ((xs.map fun x => (x.1, x.2.2)).any fun kv => decide (kv.1 = k)) = (xs.any fun x => decide (x.1 = k)) := by
    rw [List.any_map]
    rfl
  unfold putX putK
  rw [ha]
  split
  · rw [List.map_map, List.map_map]
    refine List.map_congr_left fun x _ => ?_
    show (fun x : Ent => (x.1, x.2.2)) (if x.1 = k then (x.1, x.2.1, y) else x) = if x.1 = k then (x.1, y) else (x.1, x.2.2)
    split <;> rfl
  · rw [List.map_append]
    rfl
theorem putX_rel {xs : List Ent} {vs : List (NestedKey × Addr × Value)} (r : KX xs vs) (k : NestedKey) (b : Addr) {y : V} {u : Value} (ry : RelV y u) : KX (putX xs k b y) (storedH vs k b u) := by
  have e : (xs.any fun x => decide (x.1 = k)) = (atKey vs k).isSome := by
    have h1 := (r.val k).isSome_eq
    rw [Option.isSome_map, ← valV_any] at h1
    rw [← h1, List.any_map]
    rfl
  unfold putX storedH
  rw [e]
  split
  · rename_i hq
    clear hq e
    induction r with
    | nil => exact .nil
    | @cons p q ps qs h t ih =>
      rw [List.map_cons, List.map_cons]
      refine .cons ?_ ih
      obtain ⟨h1, h2, h3⟩ := h
      unfold putAt
      by_cases e : p.1 = k
      · rw [if_pos e, if_pos (h1.symm.trans e)]
        exact ⟨h1, h2, ry⟩
      · rw [if_neg e, if_neg (fun z => e (h1.trans z))]
        exact ⟨h1, h2, h3⟩
  · exact Paired.snoc r ⟨rfl, rfl, ry⟩
theorem putX_mem {xs : List Ent} {k : NestedKey} {b : Addr} {y : V} {z : Ent} (h : z ∈ putX xs k b y) : (∃ x ∈ xs, z.1 = x.1 ∧ z.2.1 = x.2.1) ∨ (z.1 = k ∧ z.2.1 = b) := by
  unfold putX at h
  split at h
  · obtain ⟨x, hx, e⟩ := List.mem_map.mp h
    refine Or.inl ⟨x, hx, ?_⟩
    subst e
    split <;> exact ⟨rfl, rfl⟩
  · rcases List.mem_append.mp h with h | h
    · exact Or.inl ⟨z, h, rfl, rfl⟩
    · rw [List.mem_singleton.mp h]
      exact Or.inr ⟨rfl, rfl⟩
theorem putX_nodup {xs : List Ent} {k : NestedKey} {b : Addr} {y : V} (h : (xs.map (·.1)).Nodup) : ((putX xs k b y).map (·.1)).Nodup := by
  unfold putX
  split
  · rw [List.map_map]
    have e : ((fun x : Ent => x.1) ∘ fun x : Ent => if x.1 = k then (x.1, x.2.1, y) else x) = fun x => x.1 := by
      funext x
      show (if x.1 = k then (x.1, x.2.1, y) else x : Ent).1 = x.1
      split <;> rfl
    rw [e]
    exact h
  · rename_i hn
    rw [List.map_append, List.map_singleton]
    refine nd_snoc h fun hm => hn ?_
    obtain ⟨x, hx, e⟩ := List.mem_map.mp hm
    exact List.any_eq_true.mpr ⟨x, hx, by simpa using e⟩
theorem putX_len (xs : List Ent) (k : NestedKey) (b : Addr) (y : V) : (putX xs k b y).length ≤ xs.length + 1 := by
  unfold putX
  split
  · rw [List.length_map]
    omega
  · rw [List.length_append, List.length_singleton]
    exact Nat.le_refl _
section
variable {X : Cx} {pins : List (Addr × Obj)} {σ : L2.St} {H : Hp} {s : Shared} {a : Addr} {kvs : List (NestedKey × V)} {k : NestedKey} {A : Around} {E : Value → Shared → Prop}
theorem ND.at (I : Inv X pins σ H s) {xs : List Ent} (e : H a = some (dno X.prog X.w a xs)) (hk : ∀ x ∈ xs, NK X.K H (.ref x.2.1) x.1 ∧ x.1.depth ≤ 8) (hn : (xs.map (·.1)).Nodup) :
    (a == sysModules) = false ∧ ∃ vs, KX xs vs ∧ s.heap.DictOfH (nestedKind X.prog X.w) a vs := by
  have ok : ObjOk X.prog X.w H s.heap a (.ext fun h => (a == sysModules) = false ∧ ∃ vs o es ep, KX xs vs ∧ h.get? a = some o ∧ o.ExactDict ∧ o.data = .dict es ep ∧ es.toList = vs.map (entryOfKey (nestedKind X.prog X.w))) := I.hok a _ e
  obtain ⟨⟨hs, vs, o, es, ep, r, ho, he, hd, hm⟩, zz⟩ := ok
  clear zz
  refine ⟨hs, vs, r, o, es, ep, ho, he, hd, hm, ?_, by rw [r.keys]; exact hn⟩
  clear hm he hd hn e
  induction r with
  | nil => exact fun x hx => nomatch hx
  | @cons p q ps qs h t ih =>
    intro x hx
    rcases List.mem_cons.mp hx with z | hx
    · subst z
      have hp := hk p List.mem_cons_self
      rw [h.1, h.2.1] at hp
      exact ⟨NK.is I _ _ _ hp.1 rfl, hp.2⟩
    · exact ih (fun y hy => hk y (List.mem_cons_of_mem _ hy)) x hx
theorem nd_in {b : Addr} {Q : Value → Shared → Prop} (hu : A.units + 9 < cLine) (I : Inv X pins σ H s) (D : ND X.K X.prog X.w H a kvs) (hb : NK X.K H (.ref b) k) (hd : k.depth ≤ 8) (h : ∀ s', Inv X pins σ H s' → Q (.bool (valV kvs k).isSome) s') :
    wpAny (model X.prog X.w) A (compareOp .In (.ref b) (.ref a)) Q E s := by
  obtain ⟨xs, e, ek, hk, hn, hz⟩ := D
  obtain ⟨hs, vs, r, dd⟩ := ND.at I e hk hn
  refine wpAny_in_heap (knd := nestedKind X.prog X.w) (show A.units + 1 + 8 < cLine by omega) ⟨NK.is I _ _ _ hb rfl, hd⟩ hs dd ?_
  have q := (r.val k).isSome_eq
  rw [Option.isSome_map, ← ek] at q
  rw [← q]
  exact h _ (I.tok _)
theorem nd_notIn {b : Addr} {Q : Value → Shared → Prop} (hu : A.units + 9 < cLine) (I : Inv X pins σ H s) (D : ND X.K X.prog X.w H a kvs) (hb : NK X.K H (.ref b) k) (hd : k.depth ≤ 8) (h : ∀ s', Inv X pins σ H s' → Q (.bool (!(valV kvs k).isSome)) s') :
    wpAny (model X.prog X.w) A (compareOp .NotIn (.ref b) (.ref a)) Q E s := by
  obtain ⟨xs, e, ek, hk, hn, hz⟩ := D
  obtain ⟨hs, vs, r, dd⟩ := ND.at I e hk hn
  refine wpAny_notIn_heap (knd := nestedKind X.prog X.w) (show A.units + 1 + 8 < cLine by omega) ⟨NK.is I _ _ _ hb rfl, hd⟩ hs dd ?_
  have q := (r.val k).isSome_eq
  rw [Option.isSome_map, ← ek] at q
  rw [← q]
  exact h _ (I.tok _)
theorem nd_put {b : Addr} {y : V} {u : Value} {Q : Unit → Shared → Prop} (hu : A.units + 9 < cLine) (I : Inv X pins σ H s) (D : ND X.K X.prog X.w H a kvs) (hb : NK X.K H (.ref b) k) (hd : k.depth ≤ 8) (hl : kvs.length < sizeLine) (ry : RelV y u)
    (h : ∀ o s', ND X.K X.prog X.w (upd H a o) a (putK kvs k y) → Inv X pins σ (upd H a o) s' → Q () s') : wpAny (model X.prog X.w) A (setItem (.ref a) (.ref b) u) Q E s := by
  obtain ⟨xs, e, ek, hk, hn, hz⟩ := D
  obtain ⟨hs, vs, r, dd⟩ := ND.at I e hk hn
  have hlx : xs.length < sizeLine := by rw [ek, List.length_map] at hl; exact hl
  refine wpAny_setItem_heap (knd := nestedKind X.prog X.w) (hsz := by rw [← Paired.length r]; exact hz) (show A.units + 1 + 8 < cLine by omega) ⟨NK.is I _ _ _ hb rfl, hd⟩ dd fun h' dd' sb => ?_
  obtain ⟨o, es, ep, ho, he, hdd, hm, _, _⟩ := dd'
  have tk : ∀ c ys, SqT X.K H c ys → SqT X.K (upd H a (dno X.prog X.w a (putX xs k b y))) c ys := fun c ys q => by
    rcases q with (q | ⟨o', q⟩) | q
    · exact .inl (.inl (by rw [upd_ne (ne_of q e (fun z => nomatch z))]; exact q))
    · exact .inl (.inr ⟨o', by rw [upd_ne (ne_of q e (fun z => nomatch z))]; exact q⟩)
    · exact .inr q
  refine h (dno X.prog X.w a (putX xs k b y)) _ ⟨putX xs k b y, upd_same, by rw [putX_put, ek], fun z hz' => ?_, putX_nodup hn, by have := putX_len xs k b y; omega⟩
    (d_write I (by rw [e]; exact True.intro) sb ⟨o, ho⟩ (dno_ok hs (putX_rel r k b ry) ho he hdd hm))
  rcases putX_mem hz' with ⟨x, hx, e1, e2⟩ | ⟨e1, e2⟩
  · rw [e1, e2]
    exact ⟨(hk x hx).1.mono tk, (hk x hx).2⟩
  · rw [e1, e2]
    exact ⟨hb.mono tk, hd⟩
theorem nd_get {b : Addr} {y : V} {Q : Value → Shared → Prop} (hu : A.units + 9 < cLine) (I : Inv X pins σ H s) (D : ND X.K X.prog X.w H a kvs) (hb : NK X.K H (.ref b) k) (hd : k.depth ≤ 8) (hv : valV kvs k = some y) (h : ∀ u s', Inv X pins σ H s' → RelV y u → Q u s') :
    wpAny (model X.prog X.w) A (getItem (.ref a) (.ref b)) Q E s := by
  obtain ⟨xs, e, ek, hk, hn, hz⟩ := D
  obtain ⟨hs, vs, r, dd⟩ := ND.at I e hk hn
  have q := r.val k
  rw [← ek, hv] at q
  obtain ⟨u, eu, ru⟩ := RelO.some_of (v := y) (o := (atKey vs k).map (·.2)) (by exact q)
  obtain ⟨p, hp, hp2⟩ := Option.map_eq_some_iff.mp eu
  refine wpAny_getItem_heap (knd := nestedKind X.prog X.w) (show A.units + 1 + 8 < cLine by omega) ⟨NK.is I _ _ _ hb rfl, hd⟩ dd hp ?_
  rw [hp2]
  exact h u _ (I.tok _) ru
theorem nd_type (I : Inv X pins σ H s) (D : ND X.K X.prog X.w H a kvs) : s.TypeIs (.ref a) "dict" := by
  obtain ⟨xs, e, ek, hk, hn, hz⟩ := D
  obtain ⟨hs, vs, r, dd⟩ := ND.at I e hk hn
  exact dd.typeIs
end
/-- y in d, y not in d, d[y], d[y] = v, {} : y a tuple -/
def tIn (K : PySem.W.Frag) (P : Program) (w : World) (neg : Bool) (ty td : TE) : TE := fun σ H Q => ty σ H fun y H1 => td σ H1 fun x H2 => ∃ b a kvs k, y = .ref b ∧ x = .ref a ∧ ND K P w H2 a kvs ∧ NK K H2 (.ref b) k ∧ k.depth ≤ 8 ∧ Q (.bl (if neg then !(valV kvs k).isSome else (valV kvs k).isSome)) H2
def tGet (K : PySem.W.Frag) (P : Program) (w : World) (td ty : TE) : TE := fun σ H Q => td σ H fun x H1 => ty σ H1 fun y H2 => ∃ b a kvs k v, y = .ref b ∧ x = .ref a ∧ ND K P w H2 a kvs ∧ NK K H2 (.ref b) k ∧ k.depth ≤ 8 ∧ valV kvs k = some v ∧ Q v H2
def sPut (K : PySem.W.Frag) (P : Program) (w : World) (td ty tv : TE) : TS := fun D σ H => tv σ H fun v H1 => td σ H1 fun x H2 => ty σ H2 fun y H3 => ∃ b a kvs k, y = .ref b ∧ x = .ref a ∧ ND K P w H3 a kvs ∧ NK K H3 (.ref b) k ∧ k.depth ≤ 8 ∧ kvs.length < sizeLine ∧
  ∀ o, ND K P w (upd H3 a o) a (putK kvs k v) → D.nx σ (upd H3 a o)
def tNew (P : Program) (w : World) : TE := fun _ H Q => ∀ p, H p = none → Q (.ref p) (upd H p (dno P w p []))
theorem nd_new {K : PySem.W.Frag} {P : Program} {w : World} {H : Hp} {p : Addr} : ND K P w (upd H p (dno P w p [])) p [] := ⟨[], upd_same, rfl, fun _ h => absurd h (by simp), List.nodup_nil, Nat.zero_le _⟩
section
variable {X : Cx} {o i value : Expr} {td ty tv : TE} {pos pos' : Pos}
theorem pc_in (hu : X.A.units + 64 < cLine) (hi : PE X i ty) (ho : PE X o td) : PC X .In i o (tIn X.K X.prog X.w false ty td) := by
  refine ⟨fun pins s σ H Q I h => ?_⟩
  refine thn (hi.run pins s σ H _ I h) fun iv s1 ⟨y, H1, I1, ry, q1⟩ => thn (ho.run pins s1 σ H1 _ I1 q1) fun u s2 ⟨x, H2, I2, rx, b, a, kvs, k, ey, ex, D, hb, hd, q2⟩ => ?_
  subst ex ey
  obtain rfl : u = Value.ref a := rx
  obtain rfl : iv = Value.ref b := ry
  exact nd_in (by omega) I2 D hb hd fun s3 I3 => ⟨.bl _, H2, I3, rfl, q2⟩
theorem pc_notin (hu : X.A.units + 64 < cLine) (hi : PE X i ty) (ho : PE X o td) : PC X .NotIn i o (tIn X.K X.prog X.w true ty td) := by
  refine ⟨fun pins s σ H Q I h => ?_⟩
  refine thn (hi.run pins s σ H _ I h) fun iv s1 ⟨y, H1, I1, ry, q1⟩ => thn (ho.run pins s1 σ H1 _ I1 q1) fun u s2 ⟨x, H2, I2, rx, b, a, kvs, k, ey, ex, D, hb, hd, q2⟩ => ?_
  subst ex ey
  obtain rfl : u = Value.ref a := rx
  obtain rfl : iv = Value.ref b := ry
  exact nd_notIn (by omega) I2 D hb hd fun s3 I3 => ⟨.bl _, H2, I3, rfl, q2⟩
theorem pe_get (hu : X.A.units + 64 < cLine) (ho : PE X o td) (hi : PE X i ty) (hs : NoSl i) : PE X (.Subscript o i pos) (tGet X.K X.prog X.w td ty) := by
  refine ⟨fun pins s σ H Q I h => ?_⟩
  refine subD_of PySem.F.slot_dict_getitem.lookup hs (thn (ho.run pins s σ H _ I h) fun u s1 ⟨x, H1, I1, rx, q1⟩ => thn (hi.run pins s1 σ H1 _ I1 q1) fun iv s2 ⟨y, H2, I2, ry, b, a, kvs, k, v, ey, ex, D, hb, hd, hv, q2⟩ => ?_)
  subst ex ey
  obtain rfl : u = Value.ref a := rx
  obtain rfl : iv = Value.ref b := ry
  exact ⟨nd_type I2 D, nd_get (by omega) I2 D hb hd hv fun w' s3 I3 rw' => ⟨v, H2, I3, rw', q2⟩⟩
theorem ps_put (hu : X.A.units + 64 < cLine) (ho : PE X o td) (hi : PE X i ty) (hv : PE X value tv) (hs : swapsWith value (some (.Subscript o i pos')) pos.line X.env = pure false) :
    PS X (.Assign [.Subscript o i pos'] value pos) (sPut X.K X.prog X.w td ty tv) := by
  refine ⟨fun pins s σ H D I h => ?_⟩
  refine wpAny_Assign_Subscript (thn (hv.run pins s σ H _ I h) fun r s1 ⟨v, H1, I1, rv, q1⟩ => thn (ho.run pins s1 σ H1 _ I1 q1) fun u s2 ⟨x, H2, I2, rx, q2⟩ => thn (hi.run pins s2 σ H2 _ I2 q2) fun iv s3 ⟨y, H3, I3, ry, b, a, kvs, k, ey, ex, N, hb, hd, hl, q3⟩ => ?_) hs
  subst ex ey
  obtain rfl : u = Value.ref a := rx
  obtain rfl : iv = Value.ref b := ry
  exact nd_put (by omega) I3 N hb hd hl rv fun ob s4 N4 I4 => ⟨σ, _, I4, q3 ob N4⟩
theorem pe_new : PE X (.Dict [] [] pos) (tNew X.prog X.w) := ⟨fun pins s σ H Q I h =>
  wpAny_Dict_empty ⟨.ref s.heap.objs.size, _, I.laid (a := s.heap.objs.size) (o := dno X.prog X.w s.heap.objs.size []) (t' := s.toks) (fun _ _ q => Heap.get?_push_of_some _ q) (Nat.le_refl _)
    (dno_ok (vs := []) (beq_eq_false_iff_ne.mpr (Ne.symm (Nat.ne_of_lt I.big))) .nil (Heap.get?_push_size _ rfl) ⟨rfl, rfl, rfl⟩ rfl rfl), rfl, h _ (I.hok.fresh (Nat.le_refl _))⟩⟩
end
end NeD

namespace Lk
open PySem L2
section
/-! heaps: what stays, and the data of a web -/
/-- all but lists stay -/
def Tk (H H' : Hp) : Prop := ∀ c o, (∀ xs, o ≠ .lst xs) → H c = some o → H' c = some o
theorem Tk.of {H H' : Hp} (s : Same H H') : Tk H H' := fun c o _ h => s c o h
theorem Tk.trans {H H1 H2 : Hp} (x : Tk H H1) (y : Tk H1 H2) : Tk H H2 := fun c o n h => y c o n (x c o n h)
theorem Tk.refl (H : Hp) : Tk H H := fun _ _ _ h => h
theorem same_new {H : Hp} {p : Addr} {o : HO} (h : H p = none) : Same H (upd H p o) := fun b x e => by
  rw [upd_ne (ne_of_none e h)]
  exact e
theorem tk_mut {H : Hp} {p : Addr} {xs ys : List V} (h : H p = some (.lst xs)) : Tk H (upd H p (.lst ys)) := fun b x n e => by
  rw [upd_ne (ne_of e h (n xs))]
  exact e
variable {K : PySem.W.Frag}
theorem Tk.t {H H' : Hp} {p : Addr} {xs : List V} (x : Tk H H') (h : SqT K H p xs) : SqT K H' p xs := by
  rcases h with (h | ⟨o, h⟩) | h
  · exact .inl (.inl (x _ _ (fun _ z => nomatch z) h))
  · exact .inl (.inr ⟨o, x _ _ (fun _ z => nomatch z) h⟩)
  · exact .inr h
theorem tyT {H : Hp} {p : Addr} {xs : List V} (h : SqT K H p xs) : TyX K H (.ref p) (.type "tuple") := by
  rcases h with (h | ⟨o, h⟩) | ⟨o, _, _, e, c, _⟩
  · exact .base (.tup h)
  · exact .fTuple h
  · exact .kTuple e c
/-- a tuple of numbers -/
def nv (x : Nat) : V := .int (x : Int)
def IT (K : PySem.W.Frag) (H : Hp) (p : Addr) (ps : List Nat) : Prop := SqT K H p (ps.map nv)
def RowV (K : PySem.W.Frag) (H : Hp) (v : V) (r : Row) : Prop := ∃ p q, v = .ref p ∧ SqT K H p [nv r.1, .ref q] ∧ IT K H q r.2
/-- a tuple of rows -/
def RowsT (K : PySem.W.Frag) (H : Hp) (p : Addr) (R : List Row) : Prop := ∃ vs, SqT K H p vs ∧ vs.length = R.length ∧ ∀ i v, vs[i]? = some v → RowV K H v (rowAt R i)
theorem RowV.tk {H H' : Hp} {v : V} {r : Row} (x : Tk H H') (h : RowV K H v r) : RowV K H' v r := by
  obtain ⟨p, q, e, h1, h2⟩ := h
  exact ⟨p, q, e, x.t h1, x.t h2⟩
theorem RowsT.tk {H H' : Hp} {p : Addr} {R : List Row} (x : Tk H H') (h : RowsT K H p R) : RowsT K H' p R := by
  obtain ⟨vs, h1, h2, h3⟩ := h
  exact ⟨vs, x.t h1, h2, fun i v e => (h3 i v e).tk x⟩
/-- a web at p -/
def WebV (K : PySem.W.Frag) (C : Addr) (H : Hp) (p : Addr) (R : List Row) : Prop := ∃ dx q, H p = some (.ins C dx [("rows", .ref q)]) ∧ RowsT K H q R
theorem WebV.tk {C : Addr} {H H' : Hp} {p : Addr} {R : List Row} (x : Tk H H') (h : WebV K C H p R) : WebV K C H' p R := by
  obtain ⟨dx, q, h1, h2⟩ := h
  exact ⟨dx, q, x _ _ (fun _ z => nomatch z) h1, h2.tk x⟩
end
section
theorem iteC {c : Bool} {A B : Prop} (e : c = true) (h : A) : if c = true then A else B := by
  rw [e]
  exact iteT h
theorem iteD {c : Bool} {A B : Prop} (e : c = false) (h : B) : if c = true then A else B := by
  rw [e]
  exact iteF h
end
section
/-! data of a web as data of any depth -/
def dN (x : Nat) : PyData := .int (x : Int)
def dRow (r : Row) : PyData := .tuple [dN r.1, .tuple (r.2.map dN)]
def dRows (R : List Row) : PyData := .tuple (R.map dRow)
variable {K : PySem.W.Frag}
theorem dp_nums {H : Hp} : ∀ ps : List Nat, DpAll K H (ps.map nv) (ps.map dN)
  | [] => .nil
  | x :: r => .cons (.int _) (dp_nums r)
theorem it_dp {H : Hp} {p : Addr} {ps : List Nat} (h : IT K H p ps) : Dp K H (.ref p) (.tuple (ps.map dN)) := .tup h (dp_nums ps)
theorem row_dp {H : Hp} {v : V} {r : Row} (h : RowV K H v r) : Dp K H v (dRow r) := by
  obtain ⟨p, q, rfl, h1, h2⟩ := h
  exact .tup h1 (.cons (.int _) (.cons (it_dp h2) .nil))
theorem dpAll_of {H : Hp} : ∀ {vs : List V} {ds : List PyData}, vs.length = ds.length → (∀ (i : Nat) v d, vs[i]? = some v → ds[i]? = some d → Dp K H v d) → DpAll K H vs ds
  | [], [], _, _ => .nil
  | [], _ :: _, h, _ => absurd h (by simp)
  | _ :: _, [], h, _ => absurd h (by simp)
  | v :: vs, d :: ds, h, f => .cons (f 0 v d rfl rfl) (dpAll_of (by simpa using h) fun i v d h1 h2 => f (i + 1) v d (by simpa using h1) (by simpa using h2))
theorem rowAt_of {R : List Row} {i : Nat} (h : i < R.length) : R[i]? = some (rowAt R i) := by
  unfold rowAt
  rw [List.getD_eq_getElem?_getD, List.getElem?_eq_getElem h]
  rfl
theorem rows_dp {H : Hp} {p : Addr} {R : List Row} (h : RowsT K H p R) : Dp K H (.ref p) (dRows R) := by
  obtain ⟨vs, h1, h2, h3⟩ := h
  refine .tup h1 (dpAll_of (by rw [List.length_map, h2]) fun i v d e1 e2 => ?_)
  have hi : i < R.length := by
    rw [← h2]
    exact (List.getElem?_eq_some_iff.mp e1).1
  rw [List.getElem?_map, rowAt_of hi] at e2
  rw [← Option.some.inj e2]
  exact row_dp (h3 i v e1)
theorem nums_lay : ∀ ps : List Nat, PyData.canLayAll0 (ps.map dN) = true
  | [] => rfl
  | _ :: r => by
    show (true && PyData.canLayAll0 (r.map dN)) = true
    rw [nums_lay r]
    rfl
theorem nums_depth : ∀ ps : List Nat, PyData.depthAll (ps.map dN) ≤ 1
  | [] => by decide
  | _ :: r => by
    have := nums_depth r
    simp only [List.map_cons, PyData.depthAll, PyData.depth, dN] at this ⊢
    omega
theorem sh_nums (ps : List Nat) : SeqAt.shaped (.tuple (ps.map dN)) = true := by
  unfold SeqAt.shaped
  have h1 := nums_lay ps
  have h2 := nums_depth ps
  rw [Bool.and_eq_true, decide_eq_true_eq]
  exact ⟨h1, by show PyData.depthAll (ps.map dN) + 1 ≤ 64; omega⟩
theorem rows_lay : ∀ R : List Row, PyData.canLayAll0 (R.map dRow) = true
  | [] => rfl
  | r :: R => by
    show ((true && ((PyData.canLayAll0 (r.2.map dN)) && true)) && PyData.canLayAll0 (R.map dRow)) = true
    rw [nums_lay, rows_lay R]
    rfl
theorem rows_depth : ∀ R : List Row, PyData.depthAll (R.map dRow) ≤ 4
  | [] => by decide
  | r :: R => by
    have h1 := rows_depth R
    have h2 := nums_depth r.2
    simp only [List.map_cons, PyData.depthAll, dRow, PyData.depth, dN]
    omega
theorem sh_rows (R : List Row) : SeqAt.shaped (dRows R) = true := by
  unfold SeqAt.shaped
  have h1 := rows_lay R
  have h2 := rows_depth R
  rw [Bool.and_eq_true, decide_eq_true_eq]
  exact ⟨h1, by show PyData.depthAll (R.map dRow) + 1 ≤ 64; omega⟩
end
section
/-! the dict of what was met -/
def ky (x : Nat) : Key := .inl (x : Int)
theorem ky_inj {x y : Nat} (h : ky x = ky y) : x = y := by
  have := Sum.inl.inj h
  omega
def fk (F : List Nat) : List (Key × V) := F.map fun x => (ky x, .bl true)
theorem fk_val (x : Nat) : ∀ F : List Nat, valV (fk F) (ky x) = if x ∈ F then some (.bl true) else none
  | [] => rfl
  | y :: F => by
    by_cases e : y = x
    · subst e
      rw [if_pos List.mem_cons_self]
      exact valV_pos rfl
    · rw [show valV (fk (y :: F)) (ky x) = valV (fk F) (ky x) from valV_neg fun q => e (ky_inj q), fk_val x F]
      by_cases m : x ∈ F
      · rw [if_pos m, if_pos (List.mem_cons_of_mem _ m)]
      · rw [if_neg m, if_neg (by rw [List.mem_cons]; exact fun q => q.elim (fun q => e q.symm) m)]
theorem fk_put (x : Nat) (F : List Nat) : putK (fk F) (ky x) (.bl true) = fk (ins F x) := by
  unfold ins
  by_cases m : x ∈ F
  · rw [if_pos m]
    have h : ((fk F).any fun kv => decide (kv.1 = ky x)) = true := by
      rw [valV_any, fk_val, if_pos m]
      rfl
    unfold putK
    rw [if_pos h]
    unfold fk
    rw [List.map_map]
    refine List.map_congr_left fun y _ => ?_
    show (if ky y = ky x then (ky y, V.bl true) else (ky y, V.bl true)) = _
    split <;> rfl
  · rw [if_neg m, putK_new _ (by rw [fk_val, if_neg m])]
    unfold fk
    rw [List.map_append]
    rfl
theorem fk_keys (F : List Nat) : (fk F).map (·.1) = (F.map fun (x : Nat) => (x : Int)).map Sum.inl := by
  unfold fk
  rw [List.map_map, List.map_map]
  rfl
theorem ins_len (F : List Nat) (x : Nat) : (ins F x).length ≤ F.length + 1 := by
  unfold ins
  split
  · omega
  · rw [List.length_append]
    exact Nat.le_refl _
theorem insAll_len : ∀ (xs F : List Nat), (xs.foldl ins F).length ≤ F.length + xs.length
  | [], _ => Nat.le_refl _
  | x :: xs, F => by
    have h1 := insAll_len xs (ins F x)
    have h2 := ins_len F x
    rw [List.foldl_cons, List.length_cons]
    omega
theorem parts_len {R : List Row} (g : Good R) (n : Nat) : (parts R n).length ≤ 2 := by
  by_cases h : n < R.length
  · exact (g n h).2.1
  · rw [parts_out (by omega)]
    decide
theorem goB_len {R : List Row} (g : Good R) {v : Nat} : ∀ i, (goB R v i).length ≤ 1 + 2 * i
  | 0 => Nat.le_refl _
  | i + 1 => by
    have h1 := goB_len g (v := v) i
    have h2 := insAll_len (parts R (v - i)) (goB R v i)
    have h3 := parts_len g (v - i)
    show (stepB R (goB R v i) (v - i)).length ≤ _
    unfold stepB
    split <;> omega
theorem lt_line {n : Nat} (h : n ≤ 100000) : n < sizeLine := by
  rw [sizeLine_eq]
  omega
theorem take_ins {xs F : List Nat} {j x : Nat} (h : xs[j]? = some x) : (xs.take (j + 1)).foldl ins F = ins ((xs.take j).foldl ins F) x := by
  rw [List.take_add_one, h, List.foldl_append]
  rfl
theorem at_row {K : PySem.W.Frag} {H : Hp} {vs : List V} {R : List Row} {n : Nat} (hl : vs.length = R.length) (hr : ∀ i v, vs[i]? = some v → RowV K H v (rowAt R i)) (h : n < R.length) :
    ∃ v, atI vs (n : Int) = some v ∧ RowV K H v (rowAt R n) := by
  have hn : n < vs.length := by omega
  exact ⟨vs[n], atI_nat (List.getElem?_eq_getElem hn), hr n _ (List.getElem?_eq_getElem hn)⟩
end
section
/-! the dict of places -/
def pl : List Nat → Nat → List (Key × V)
  | [], _ => []
  | x :: B, n => (ky x, nv n) :: pl B (n + 1)
theorem pl_len : ∀ (B : List Nat) (n : Nat), (pl B n).length = B.length
  | [], _ => rfl
  | _ :: B, n => by
    show (pl B (n + 1)).length + 1 = B.length + 1
    rw [pl_len B (n + 1)]
theorem pl_none {p : Nat} : ∀ (B : List Nat) (n : Nat), ¬ p ∈ B → valV (pl B n) (ky p) = none
  | [], _, _ => rfl
  | x :: B, n, h => by
    rw [List.mem_cons] at h
    rw [show valV (pl (x :: B) n) (ky p) = valV (pl B (n + 1)) (ky p) from valV_neg fun q => h (Or.inl (ky_inj q).symm)]
    exact pl_none B (n + 1) fun q => h (Or.inr q)
theorem pl_val {p : Nat} : ∀ (B : List Nat) (n : Nat), p ∈ B → valV (pl B n) (ky p) = some (nv (n + B.idxOf p))
  | x :: B, n, h => by
    by_cases e : x = p
    · subst e
      rw [List.idxOf_cons_self]
      exact valV_pos rfl
    · have h2 : p ∈ B := by
        rcases List.mem_cons.mp h with q | q
        · exact absurd q.symm e
        · exact q
      rw [show valV (pl (x :: B) n) (ky p) = valV (pl B (n + 1)) (ky p) from valV_neg fun q => e (ky_inj q), pl_val B (n + 1) h2, List.idxOf_cons]
      have e' : (x == p) = false := by simpa using e
      rw [e']
      show some (nv (n + 1 + B.idxOf p)) = some (nv (n + (B.idxOf p + 1)))
      rw [Nat.add_assoc, Nat.add_comm 1]
theorem pl_app (x : Nat) : ∀ (B : List Nat) (n : Nat), pl (B ++ [x]) n = pl B n ++ [(ky x, nv (n + B.length))]
  | [], n => rfl
  | y :: B, n => by
    show (ky y, nv n) :: pl (B ++ [x]) (n + 1) = (ky y, nv n) :: (pl B (n + 1) ++ _)
    rw [pl_app x B (n + 1), List.length_cons, Nat.add_assoc, Nat.add_comm 1]
theorem pl_put {B : List Nat} (hn : B.Nodup) {i x : Nat} (h : B[i]? = some x) : putK (pl (B.take i) 0) (ky x) (nv i) = pl (B.take (i + 1)) 0 := by
  have hi : i < B.length := (List.getElem?_eq_some_iff.mp h).1
  have hl : (B.take i).length = i := by
    rw [List.length_take]
    omega
  have hx : ¬ x ∈ B.take i := by
    intro q
    obtain ⟨j, hj⟩ := List.mem_iff_getElem?.mp q
    have hj2 : j < i := by
      have := (List.getElem?_eq_some_iff.mp hj).1
      omega
    rw [List.getElem?_take_of_lt hj2] at hj
    have h1 := (List.getElem?_eq_some_iff.mp hj)
    have h2 := (List.getElem?_eq_some_iff.mp h)
    have h3 := (List.getElem_inj hn (i := j) (j := i) (h₀ := h1.1) (h₁ := h2.1)).mp (h1.2.trans h2.2.symm)
    omega
  rw [putK_new _ (pl_none _ _ hx), List.take_add_one, h]
  show _ = pl (B.take i ++ [x]) 0
  rw [pl_app, hl, Nat.zero_add]
end
section
/-! rules with the written part told, for use within comprehensions -/
theorem ixT {K : PySem.W.Frag} {X : Cx} (h : X.K = K) : IxR X (rIxT K) := by
  subst h
  exact ix_tup
def rTupOf (K : PySem.W.Frag) : List V → Hp → VK → Prop := fun xs H Q =>
  ∃ p ys, xs = [.ref p] ∧
    ((SqL K H p ys ∧ ∀ l, H l = none → Q (.ref l) (upd H l (.tup ys))) ∨
      (SqT K H p ys ∧ Q (.ref p) H))
theorem tupOf {K : PySem.W.Frag} {X : Cx} (h : X.K = K) : CallR X (.type "tuple") (rTupOf K) := by
  subst h
  exact call_tuple_of
theorem piT {K : PySem.W.Frag} {X : Cx} {tg t : Expr} {te : TE} (h : X.K = K) (ht : PE X t te) : PI X tg t (iTup K te) := by
  subst h
  exact pi_tup ht
end
section
/-! the bag of drawn numbers: a list at b, its great numbers at g -/
def BagAt (H : Hp) (b g : Addr) : Prop := ∃ (sd c : Int) (al : V) (gs : List Int), H b = some (.lst [.int sd, .int c, .ref g, al]) ∧ H g = some (.lst (gs.map V.int)) ∧ b ≠ g ∧ (al = .non ∨ ∃ n : Int, al = .int n ∧ 0 ≤ n)
/-- all but the bag stays -/
def Fb (b g : Addr) (H H' : Hp) : Prop := ∀ c o, c ≠ b → c ≠ g → H c = some o → H' c = some o
theorem Fb.refl {b g : Addr} (H : Hp) : Fb b g H H := fun _ _ _ _ h => h
theorem Fb.trans {b g : Addr} {H H1 H2 : Hp} (x : Fb b g H H1) (y : Fb b g H1 H2) : Fb b g H H2 := fun c o n m h => y c o n m (x c o n m h)
theorem Fb.of {b g : Addr} {H H' : Hp} (s : Same H H') : Fb b g H H' := fun c o _ _ h => s c o h
theorem Fb.tk {b g : Addr} {H H' : Hp} (B : BagAt H b g) (x : Fb b g H H') : Tk H H' := fun c o n h => by
  obtain ⟨_, _, _, _, h1, h2, _⟩ := B
  exact x c o (ne_of h h1 (n _)) (ne_of h h2 (n _)) h
theorem BagAt.same {b g : Addr} {H H' : Hp} (B : BagAt H b g) (s : Same H H') : BagAt H' b g := by
  obtain ⟨sd, c, al, gs, h1, h2, h3, h4⟩ := B
  exact ⟨sd, c, al, gs, s _ _ h1, s _ _ h2, h3, h4⟩
theorem BagAt.keep {b g l : Addr} {o : HO} {H : Hp} (B : BagAt H b g) (h1 : l ≠ b) (h2 : l ≠ g) : BagAt (upd H l o) b g := by
  obtain ⟨sd, c, al, gs, e1, e2, h3, h4⟩ := B
  exact ⟨sd, c, al, gs, by rw [upd_ne h1.symm]; exact e1, by rw [upd_ne h2.symm]; exact e2, h3, h4⟩
theorem fb_mutB {b g : Addr} {H : Hp} {o : HO} : Fb b g H (upd H b o) := fun c u n _ h => by
  rw [upd_ne n]
  exact h
theorem fb_mutG {b g : Addr} {H : Hp} {o : HO} : Fb b g H (upd H g o) := fun c u _ n h => by
  rw [upd_ne n]
  exact h
theorem mod_nat (x : Int) {m : Nat} (h : 0 < m) : ∃ r : Nat, x % (m : Int) = (r : Int) ∧ r < m := by
  have h1 := Int.emod_nonneg x (show (m : Int) ≠ 0 by omega)
  have h2 := Int.emod_lt_of_pos x (show (0 : Int) < (m : Int) by omega)
  exact ⟨(x % (m : Int)).toNat, by omega, by omega⟩
end
section
theorem cut_ints (ns : List Int) (lo hi : Option Int) : ∃ ms : List Int, cutV (ns.map V.int) lo hi = ms.map V.int ∧ ms.length ≤ ns.length := by
  unfold cutV
  refine ⟨(ns.drop (HT.sIx (ns.map V.int).length 0 lo)).take (HT.sIx (ns.map V.int).length (ns.map V.int).length hi - HT.sIx (ns.map V.int).length 0 lo), ?_, ?_⟩
  · rw [List.map_take, List.map_drop]
  · rw [List.length_take, List.length_drop]
    omega
end
section
theorem ixS {K : PySem.W.Frag} {X : Cx} (h : X.K = K) : IxR X (rIx K) := by
  subst h
  exact ix_seq
/-- data without dicts, of so many storeys -/
def okd : Nat → PyData → Prop
  | 0, _ => False
  | n + 1, d => match d with
    | .none | .bool _ | .int _ | .str _ => True
    | .tuple ds | .list ds => ds.length ≤ 100000 ∧ ∀ e ∈ ds, okd n e
    | .dict _ => False
variable {K : PySem.W.Frag}
theorem tyL {H : Hp} {p : Addr} {xs : List V} (h : SqL K H p xs) : TyX K H (.ref p) (.type "list") := by
  rcases h with (h | ⟨o, h⟩) | ⟨o, _, _, e, c, _⟩
  · exact .base (.lst h)
  · exact .base (.frz h)
  · exact .kList e c
theorem dpAll_len {H : Hp} : ∀ {vs : List V} {ds : List PyData}, DpAll K H vs ds → vs.length = ds.length
  | _, _, .nil => rfl
  | _, _, .cons _ r => congrArg (· + 1) (dpAll_len r)
theorem dpAll_at {H : Hp} : ∀ {vs : List V} {ds : List PyData} {i : Nat}, DpAll K H vs ds → i < ds.length → ∃ v d, vs[i]? = some v ∧ ds[i]? = some d ∧ Dp K H v d
  | _, _, i, .nil, h => absurd h (Nat.not_lt_zero i)
  | _, _, 0, .cons h _, _ => ⟨_, _, rfl, rfl, h⟩
  | _, _, i + 1, .cons _ r, h => by
    obtain ⟨v, d, h1, h2, h3⟩ := dpAll_at (i := i) r (Nat.lt_of_succ_lt_succ h)
    exact ⟨v, d, by simpa using h1, by simpa using h2, h3⟩
mutual
theorem dp_tk {H H' : Hp} (s : Same H H') : ∀ {v : V} {d : PyData}, Dp K H v d → Dp K H' v d
  | _, _, .non => .non
  | _, _, .bl b => .bl b
  | _, _, .int i => .int i
  | _, _, .str x => .str x
  | _, _, .lst h r => .lst (s.seq h) (dpAll_tk s r)
  | _, _, .tup h r => .tup ((Tk.of s).t h) (dpAll_tk s r)
theorem dpAll_tk {H H' : Hp} (s : Same H H') : ∀ {vs : List V} {ds : List PyData}, DpAll K H vs ds → DpAll K H' vs ds
  | _, _, .nil => .nil
  | _, _, .cons h r => .cons (dp_tk s h) (dpAll_tk s r)
end
end
section
variable {K : PySem.W.Frag}
/-- a list that is filled with rows -/
def RL (K : PySem.W.Frag) (H : Hp) (l : Addr) (R : List Row) : Prop := ∃ us, H l = some (.lst us) ∧ us.length = R.length ∧ ∀ j u, us[j]? = some u → RowV K H u (rowAt R j)
theorem RL.fb {b g l : Addr} {H H' : Hp} {R : List Row} (h : RL K H l R) (B : BagAt H b g) (f : Fb b g H H') (h1 : l ≠ b) (h2 : l ≠ g) : RL K H' l R := by
  obtain ⟨us, e, n, r⟩ := h
  exact ⟨us, f _ _ h1 h2 e, n, fun j u hj => (r j u hj).tk (f.tk B)⟩
theorem rowAt_old {R : List Row} {r : Row} {j : Nat} (h : j < R.length) : rowAt (R ++ [r]) j = rowAt R j := by
  unfold rowAt
  rw [List.getD_eq_getElem?_getD, List.getD_eq_getElem?_getD, List.getElem?_append_left h]
theorem rowAt_new {R : List Row} {r : Row} : rowAt (R ++ [r]) R.length = r := by
  unfold rowAt
  rw [List.getD_eq_getElem?_getD, List.getElem?_append_right (Nat.le_refl _), Nat.sub_self]
  rfl
theorem RL.push {H : Hp} {l c : Addr} {us : List V} {R : List Row} {r : Row} (e : H l = some (.lst us)) (n : us.length = R.length) (h : ∀ j u, us[j]? = some u → RowV K H u (rowAt R j)) (hr : RowV K H (.ref c) r) : RL K (upd H l (.lst (us ++ [.ref c]))) l (R ++ [r]) := by
  have t : Tk H (upd H l (.lst (us ++ [.ref c]))) := tk_mut e
  refine ⟨us ++ [.ref c], upd_same, by rw [List.length_append, List.length_append, n]; rfl, fun j u hj => ?_⟩
  by_cases hji : j < us.length
  · rw [List.getElem?_append_left hji] at hj
    rw [rowAt_old (by omega)]
    exact (h j u hj).tk t
  · have ej : j = R.length := by
      have := (List.getElem?_eq_some_iff.mp hj).1
      rw [List.length_append, List.length_singleton] at this
      omega
    subst ej
    rw [List.getElem?_append_right (by omega), n, Nat.sub_self] at hj
    cases hj
    rw [rowAt_new]
    exact hr.tk t
theorem Good.push {R : List Row} {r : Row} (g : Good R) (h1 : r.1 ≤ 7) (h2 : r.2.length ≤ 2) (h3 : ∀ p ∈ r.2, p < R.length) : Good (R ++ [r]) := by
  intro n hn
  rw [List.length_append, List.length_singleton] at hn
  unfold parts
  by_cases h : n < R.length
  · rw [rowAt_old h]
    exact g n h
  · have e : n = R.length := by omega
    subst e
    rw [rowAt_new]
    exact ⟨h1, h2, h3⟩
theorem good_nil : Good [] := fun n h => absurd h (Nat.not_lt_zero n)
theorem BagAt.ne {b g l : Addr} {H : Hp} (B : BagAt H b g) (h : H l = none) : l ≠ b ∧ l ≠ g := by
  obtain ⟨_, _, _, _, e1, e2, _⟩ := B
  exact ⟨(ne_of_none e1 h).symm, (ne_of_none e2 h).symm⟩
/-- numbers drawn into a new list -/
def NL (H : Hp) (D : Addr) (k n : Nat) : Prop := ∃ qs : List Nat, H D = some (.lst (qs.map nv)) ∧ qs.length = n ∧ ∀ q ∈ qs, q < k
end
section
variable {K : PySem.W.Frag}
theorem okd_nums {ps : List Nat} (h : ps.length ≤ 100000) : okd 2 (.tuple (ps.map dN)) := by
  refine ⟨by rw [List.length_map]; exact h, fun e he => ?_⟩
  obtain ⟨x, _, rfl⟩ := List.mem_map.mp he
  exact trivial
theorem okd_up : ∀ {n : Nat} {d : PyData}, okd n d → okd (n + 1) d
  | 0, _, h => h.elim
  | n + 1, d, h => by
    cases d with
    | none | bool _ | int _ | str _ => trivial
    | dict _ => exact h.elim
    | list ds => exact ⟨h.1, fun e he => okd_up (h.2 e he)⟩
    | tuple ds => exact ⟨h.1, fun e he => okd_up (h.2 e he)⟩
theorem okd_rows {R : List Row} (g : Good R) (h : R.length ≤ 100000) : okd 4 (dRows R) := by
  refine ⟨by rw [List.length_map]; exact h, fun e he => ?_⟩
  obtain ⟨r, hr, rfl⟩ := List.mem_map.mp he
  refine ⟨by show 2 ≤ 100000; decide, fun e he => ?_⟩
  have hl : r.2.length ≤ 100000 := by
    obtain ⟨i, hi⟩ := List.mem_iff_getElem?.mp hr
    have hlt := (List.getElem?_eq_some_iff.mp hi).1
    have := (g i hlt).2.1
    unfold parts at this
    rw [rowAt_of hlt] at hi
    cases hi
    omega
  rcases List.mem_cons.mp he with rfl | he
  · exact trivial
  · rw [List.mem_singleton.mp he]
    exact okd_nums hl
end
end Lk
/-! DL1: data in place of heaps: what a value stands for, cells of slots, states, steps. -/
namespace Dl
open PySem L2

/-- what is fixed: the program, the world, the written part -/
structure Sys where
  P : Program
  w : World
  K : PySem.W.Frag

/-- what others change in place meanwhile (a bag of drawn numbers): its addresses, what holds of it -/
structure Vol where
  V : Addr → Prop
  Bag : Hp → Prop
  stab : ∀ H H' : Hp, (∀ a o, V a → H a = some o → H' a = some o) → Bag H → Bag H'
  vm : ∀ (H : Hp) (a : Addr), Bag H → V a → ∃ o, H a = some o ∧ Mut (some o)
  /-- what is wished where something is raised -/
  W : WX := fun _ _ _ _ => False
def noVol : Vol := ⟨fun _ => False, fun _ => True, fun _ _ _ _ => trivial, fun _ _ _ h => h.elim, fun _ _ _ _ => False⟩
inductive D where
  | non | bl (b : Bool) | int (i : Int) | str (x : Str) | ty (n : String) | glob (a : Addr)
  | tup (xs : List D) | lst (xs : List D) | zl (xs : List D)
  | dK (kvs : List (Key × D)) | dT (kvs : List (List Key × D)) | dN (kvs : List (NestedKey × D))
  | ins (C : Addr) (fs : List (Str × D))
  | exc (a C dd : Addr) (fs : List (Str × D))

abbrev As := Addr → Prop
/-- a list that is locked or that the written part holds -/
def ZL (K : PySem.W.Frag) (H : Hp) (a : Addr) (xs : List V) : Prop := (∃ ob, H a = some (.frz ob (.lst xs))) ∨ ∃ (o : Obj) (its : Array Value) (n : Nat), K.lookup a = some o ∧ o.cls = .type "list" ∧ o.dict = none ∧ o.data = .seq its n ∧ its.size ≤ sizeLine ∧ Vals xs its.toList
theorem ZL.sq {K : PySem.W.Frag} {H : Hp} {a : Addr} {xs : List V} (h : ZL K H a xs) : SqL K H a xs := h.elim (fun ⟨ob, z⟩ => .inl (.inr ⟨ob, z⟩)) .inr
mutual
/-- the value is this key, its tuples on the heap -/
inductive NS (H : Hp) : V → NestedKey → Prop
  | non : NS H .non .none
  | int (i : Int) : NS H (.int i) (.num i)
  | str (x : Str) : NS H (.str x) (.text x)
  | tup {b : Addr} {ys : List V} {ks : List NestedKey} : H b = some (.tup ys) → NSs H ys ks → NS H (.ref b) (.tup ks)
inductive NSs (H : Hp) : List V → List NestedKey → Prop
  | nil : NSs H [] []
  | cons {v : V} {vs : List V} {k : NestedKey} {ks : List NestedKey} : NS H v k → NSs H vs ks → NSs H (v :: vs) (k :: ks)
end
mutual
theorem NS.mono {H H' : Hp} (t : ∀ b ys, H b = some (.tup ys) → H' b = some (.tup ys)) : ∀ {v : V} {k : NestedKey}, NS H v k → NS H' v k
  | _, _, .non => .non
  | _, _, .int i => .int i
  | _, _, .str x => .str x
  | _, _, .tup h r => .tup (t _ _ h) (NSs.mono t r)
theorem NSs.mono {H H' : Hp} (t : ∀ b ys, H b = some (.tup ys) → H' b = some (.tup ys)) : ∀ {vs : List V} {ks : List NestedKey}, NSs H vs ks → NSs H' vs ks
  | _, _, .nil => .nil
  | _, _, .cons h r => .cons (NS.mono t h) (NSs.mono t r)
end
mutual
theorem NS.nk {K : PySem.W.Frag} {H : Hp} : ∀ {v : V} {k : NestedKey}, NS H v k → NeD.NK K H v k
  | _, _, .non => .non
  | _, _, .int i => .int i
  | _, _, .str x => .str x
  | _, _, .tup h r => .tup (.inl (.inl h)) (NSs.nk r)
theorem NSs.nk {K : PySem.W.Frag} {H : Hp} : ∀ {vs : List V} {ks : List NestedKey}, NSs H vs ks → NeD.NKs K H vs ks
  | _, _, .nil => .nil
  | _, _, .cons h r => .cons (NS.nk h) (NSs.nk r)
end
/-- the dict of nested keys, its keys on the heap -/
def NDS (S : Sys) (H : Hp) (a : Addr) (kvs : List (NestedKey × V)) : Prop :=
  ∃ xs : List NeD.Ent, H a = some (NeD.dno S.P S.w a xs) ∧ kvs = xs.map (fun x => (x.1, x.2.2)) ∧ (∀ x ∈ xs, NS H (.ref x.2.1) x.1 ∧ x.1.depth ≤ 8) ∧ (xs.map (·.1)).Nodup ∧ xs.length ≤ sizeLine
theorem NDS.nd {S : Sys} {H : Hp} {a : Addr} {kvs : List (NestedKey × V)} (h : NDS S H a kvs) : NeD.ND S.K S.P S.w H a kvs := by
  obtain ⟨xs, e, ek, hk, hn, hz⟩ := h
  exact ⟨xs, e, ek, fun x hx => ⟨(hk x hx).1.nk, (hk x hx).2⟩, hn, hz⟩
/-- a dict whose keys are nested tuples, to be read -/
def NDR (S : Sys) (H : Hp) (a : Addr) (kvs : List (NestedKey × V)) : Prop :=
  ∃ xs : List NeD.Ent, Rd H a (NeD.dno S.P S.w a xs) ∧ kvs = xs.map (fun x => (x.1, x.2.2)) ∧ (∀ x ∈ xs, NS H (.ref x.2.1) x.1 ∧ x.1.depth ≤ 8) ∧ (xs.map (·.1)).Nodup ∧ xs.length ≤ sizeLine

mutual
/-- the value stands for the datum, and nothing of it but tuples stands at A -/
inductive RD (S : Sys) (A : As) (H : Hp) : V → D → Prop
  | non : RD S A H .non .non
  | bl (b : Bool) : RD S A H (.bl b) (.bl b)
  | int (i : Int) : RD S A H (.int i) (.int i)
  | str (x : Str) : RD S A H (.str x) (.str x)
  | ty (n : String) : RD S A H (.ty n) (.ty n)
  | glob (a : Addr) : RD S A H (.ref a) (.glob a)
  | tup {p : Addr} {vs : List V} {ds : List D} : H p = some (.tup vs) → RDs S A H vs ds → RD S A H (.ref p) (.tup ds)
  | lst {p : Addr} {vs : List V} {ds : List D} : H p = some (.lst vs) → ¬ A p → RDs S A H vs ds → RD S A H (.ref p) (.lst ds)
  | zl {p : Addr} {vs : List V} {ds : List D} : ZL S.K H p vs → RDs S A H vs ds → RD S A H (.ref p) (.zl ds)
  | dK {p : Addr} {kvs : List (Key × V)} {kds : List (Key × D)} : Rd H p (.dK kvs) → ¬ A p → kvs.map (·.1) = kds.map (·.1) → RDs S A H (kvs.map (·.2)) (kds.map (·.2)) → RD S A H (.ref p) (.dK kds)
  | dT {p : Addr} {kvs : List (List Key × V)} {kds : List (List Key × D)} : Rd H p (.dT kvs) → ¬ A p → kvs.map (·.1) = kds.map (·.1) → RDs S A H (kvs.map (·.2)) (kds.map (·.2)) → RD S A H (.ref p) (.dT kds)
  | dN {p : Addr} {kvs : List (NestedKey × V)} {kds : List (NestedKey × D)} : NDR S H p kvs → ¬ A p → kvs.map (·.1) = kds.map (·.1) → RDs S A H (kvs.map (·.2)) (kds.map (·.2)) → RD S A H (.ref p) (.dN kds)
  | ins {p C dx : Addr} {fs : List (Str × V)} {fds : List (Str × D)} : H p = some (.ins C dx fs) → ¬ A p → fs.map (·.1) = fds.map (·.1) → RDs S A H (fs.map (·.2)) (fds.map (·.2)) → RD S A H (.ref p) (.ins C fds)
  | exc {a C dd : Addr} {fs : List (Str × V)} {fds : List (Str × D)} : H dd = some (.xd fs) → fs.map (·.1) = fds.map (·.1) → RDs S A H (fs.map (·.2)) (fds.map (·.2)) → RD S A H (.ref a) (.exc a C dd fds)
inductive RDs (S : Sys) (A : As) (H : Hp) : List V → List D → Prop
  | nil : RDs S A H [] []
  | cons {v : V} {vs : List V} {d : D} {ds : List D} : RD S A H v d → RDs S A H vs ds → RDs S A H (v :: vs) (d :: ds)
end

/-- what stands for data stays so -/
structure Kp (A A' : As) (H H' : Hp) : Prop where
  t : ∀ p xs, Rd H p (.tup xs) → Rd H' p (.tup xs)
  u : ∀ p xs, H p = some (.tup xs) → H' p = some (.tup xs)
  l : ∀ p xs, H p = some (.lst xs) → ¬ A p → H' p = some (.lst xs)
  z : ∀ p ob xs, H p = some (.frz ob (.lst xs)) → H' p = some (.frz ob (.lst xs))
  r : ∀ p u, Rd H p u → ¬ A p → Rd H' p u ∧ ¬ A' p
  i : ∀ p C dx fs, H p = some (.ins C dx fs) → ¬ A p → H' p = some (.ins C dx fs)
  x : ∀ p fs, H p = some (.xd fs) → H' p = some (.xd fs)
section
variable {S : Sys} {B : Vol} {A A' : As} {H H' : Hp}
theorem Kp.sqT (k : Kp A A' H H') {K : PySem.W.Frag} {p : Addr} {xs : List V} (h : SqT K H p xs) : SqT K H' p xs := by
  rcases h with h | h
  · exact .inl (k.t _ _ h)
  · exact .inr h
theorem Kp.zz (k : Kp A A' H H') {K : PySem.W.Frag} {p : Addr} {xs : List V} (h : ZL K H p xs) : ZL K H' p xs := h.elim (fun ⟨ob, z⟩ => .inl ⟨ob, k.z _ _ _ z⟩) .inr
theorem Kp.ndr (k : Kp A A' H H') {p : Addr} {kvs : List (NestedKey × V)} (h : NDR S H p kvs) (n : ¬ A p) : NDR S H' p kvs := by
  obtain ⟨xs, h1, h2, h3, h4, h5⟩ := h
  exact ⟨xs, (k.r _ _ h1 n).1, h2, fun x hx => ⟨(h3 x hx).1.mono k.u, (h3 x hx).2⟩, h4, h5⟩
mutual
theorem RD.mono (k : Kp A A' H H') : ∀ {v : V} {d : D}, RD S A H v d → RD S A' H' v d
  | _, _, .non => .non
  | _, _, .bl b => .bl b
  | _, _, .int i => .int i
  | _, _, .str x => .str x
  | _, _, .ty n => .ty n
  | _, _, .glob a => .glob a
  | _, _, .tup h r => .tup (k.u _ _ h) (RDs.mono k r)
  | _, _, .lst h n r => .lst (k.l _ _ h n) (k.r _ _ (.inl h) n).2 (RDs.mono k r)
  | _, _, .zl h r => .zl (k.zz h) (RDs.mono k r)
  | _, _, .dK h n e r => .dK (k.r _ _ h n).1 (k.r _ _ h n).2 e (RDs.mono k r)
  | _, _, .dT h n e r => .dT (k.r _ _ h n).1 (k.r _ _ h n).2 e (RDs.mono k r)
  | _, _, .dN h n e r => .dN (k.ndr h n) (let ⟨_, h1, _⟩ := h; (k.r _ _ h1 n).2) e (RDs.mono k r)
  | _, _, .ins h n e r => .ins (k.i _ _ _ _ h n) (k.r _ _ (.inl h) n).2 e (RDs.mono k r)
  | _, _, .exc h e r => .exc (k.x _ _ h) e (RDs.mono k r)
theorem RDs.mono (k : Kp A A' H H') : ∀ {vs : List V} {ds : List D}, RDs S A H vs ds → RDs S A' H' vs ds
  | _, _, .nil => .nil
  | _, _, .cons h r => .cons (RD.mono k h) (RDs.mono k r)
end
theorem Kp.weak (h : ∀ a, A' a → A a) : Kp A A' H H := ⟨fun _ _ z => z, fun _ _ z => z, fun _ _ z _ => z, fun _ _ _ z => z, fun _ _ z n => ⟨z, fun q => n (h _ q)⟩, fun _ _ _ _ z _ => z, fun _ _ z => z⟩
theorem RD.weak {v : V} {d : D} (h : RD S A H v d) (w : ∀ a, A' a → A a) : RD S A' H v d := h.mono (Kp.weak w)
theorem RDs.weak {v : List V} {d : List D} (h : RDs S A H v d) (w : ∀ a, A' a → A a) : RDs S A' H v d := h.mono (Kp.weak w)
theorem RDs.len : ∀ {vs : List V} {ds : List D}, RDs S A H vs ds → vs.length = ds.length
  | _, _, .nil => rfl
  | _, _, .cons _ r => congrArg (· + 1) r.len
theorem RDs.at : ∀ {vs : List V} {ds : List D} {i : Nat} {d : D}, RDs S A H vs ds → ds[i]? = some d → ∃ v, vs[i]? = some v ∧ RD S A H v d
  | _, _, 0, _, .cons h _, e => by cases e; exact ⟨_, rfl, h⟩
  | _, _, i + 1, _, .cons _ r, e => by
    obtain ⟨v, h1, h2⟩ := RDs.at (i := i) r (by simpa using e)
    exact ⟨v, by simpa using h1, h2⟩
theorem RDs.at' : ∀ {vs : List V} {ds : List D} {i : Nat} {v : V}, RDs S A H vs ds → vs[i]? = some v → ∃ d, ds[i]? = some d ∧ RD S A H v d
  | _, _, 0, _, .cons h _, e => by cases e; exact ⟨_, rfl, h⟩
  | _, _, i + 1, _, .cons _ r, e => by
    obtain ⟨v, h1, h2⟩ := RDs.at' (i := i) r (by simpa using e)
    exact ⟨v, by simpa using h1, h2⟩
theorem RDs.app : ∀ {vs ws : List V} {ds es : List D}, RDs S A H vs ds → RDs S A H ws es → RDs S A H (vs ++ ws) (ds ++ es)
  | _, _, _, _, .nil, k => k
  | _, _, _, _, .cons h r, k => .cons h (r.app k)
theorem RDs.one {v : V} {d : D} (h : RD S A H v d) : RDs S A H [v] [d] := .cons h .nil
theorem RDs.of : ∀ {vs : List V} {ds : List D}, vs.length = ds.length → (∀ (i : Nat) v d, vs[i]? = some v → ds[i]? = some d → RD S A H v d) → RDs S A H vs ds
  | [], [], _, _ => .nil
  | _ :: vs, _ :: ds, e, h => .cons (h 0 _ _ rfl rfl) (RDs.of (by simpa using e) fun i v d a b => h (i + 1) v d (by simpa using a) (by simpa using b))
theorem RDs.take : ∀ {vs : List V} {ds : List D} (n : Nat), RDs S A H vs ds → RDs S A H (vs.take n) (ds.take n)
  | _, _, 0, _ => .nil
  | _, _, n + 1, .nil => .nil
  | _, _, n + 1, .cons h r => .cons h (r.take n)
theorem RDs.drop : ∀ {vs : List V} {ds : List D} (n : Nat), RDs S A H vs ds → RDs S A H (vs.drop n) (ds.drop n)
  | _, _, 0, r => r
  | _, _, n + 1, .nil => .nil
  | _, _, n + 1, .cons _ r => r.drop n
theorem RDs.set : ∀ {vs : List V} {ds : List D} {v : V} {d : D} (n : Nat), RDs S A H vs ds → RD S A H v d → RDs S A H (vs.set n v) (ds.set n d)
  | _, _, _, _, n, .nil, _ => by simpa using RDs.nil
  | _, _, _, _, 0, .cons _ r, k => .cons k r
  | _, _, _, _, n + 1, .cons h r, k => .cons h (r.set n k)
theorem RDs.dropLast : ∀ {vs : List V} {ds : List D}, RDs S A H vs ds → RDs S A H vs.dropLast ds.dropLast
  | _, _, .nil => .nil
  | _, _, .cons _ .nil => .nil
  | _, _, .cons h (.cons h2 r) => .cons h (RDs.dropLast (.cons h2 r))
theorem RDs.eraseIdx : ∀ {vs : List V} {ds : List D} (n : Nat), RDs S A H vs ds → RDs S A H (vs.eraseIdx n) (ds.eraseIdx n)
  | _, _, n, .nil => by simpa using RDs.nil
  | _, _, 0, .cons _ r => r
  | _, _, n + 1, .cons h r => .cons h (r.eraseIdx n)
end

/-- a slot: shared; owned, made here; owned by the caller and changed here; lent -/
inductive Cell where
  | s (d : D) | o (d : D) | m (d : D) | b (d : D)
def Cell.d : Cell → D
  | .s d => d | .o d => d | .m d => d | .b d => d
def Cell.own : Cell → Bool
  | .o _ => true | .m _ => true | _ => false
abbrev Env := List (Option Cell)
def Ow (B : Vol) (env : Env) (σ : St) (a : Addr) : Prop := B.V a ∨ ∃ (i : Nat) (c : Cell), env[i]? = some (some c) ∧ c.own = true ∧ σ[i]? = some (some (.ref a))
def Av (B : Vol) (L : As) (env : Env) (σ : St) : As := fun a => L a ∨ Ow B env σ a
def La (L : As) (p : Addr) : As := fun a => L a ∨ a = p

def Own (S : Sys) (A : As) (H : Hp) (p : Addr) : D → Prop
  | .lst ds => ∃ vs, H p = some (.lst vs) ∧ RDs S A H vs ds
  | .dK kds => ∃ kvs, H p = some (.dK kvs) ∧ kvs.map (·.1) = kds.map (·.1) ∧ RDs S A H (kvs.map (·.2)) (kds.map (·.2))
  | .dT kds => ∃ kvs, H p = some (.dT kvs) ∧ kvs.map (·.1) = kds.map (·.1) ∧ RDs S A H (kvs.map (·.2)) (kds.map (·.2))
  | .dN kds => ∃ kvs, NDS S H p kvs ∧ kvs.map (·.1) = kds.map (·.1) ∧ RDs S A H (kvs.map (·.2)) (kds.map (·.2))
  | .ins C fds => ∃ dx fs, H p = some (.ins C dx fs) ∧ fs.map (·.1) = fds.map (·.1) ∧ RDs S A H (fs.map (·.2)) (fds.map (·.2))
  | _ => False
/-- readable at its top, whoever owns it -/
def Top (S : Sys) (A : As) (H : Hp) (p : Addr) : D → Prop
  | .lst ds => ∃ vs, H p = some (.lst vs) ∧ RDs S A H vs ds
  | .dK kds => ∃ kvs, Rd H p (.dK kvs) ∧ kvs.map (·.1) = kds.map (·.1) ∧ RDs S A H (kvs.map (·.2)) (kds.map (·.2))
  | .dT kds => ∃ kvs, Rd H p (.dT kvs) ∧ kvs.map (·.1) = kds.map (·.1) ∧ RDs S A H (kvs.map (·.2)) (kds.map (·.2))
  | .dN kds => ∃ kvs, NDR S H p kvs ∧ kvs.map (·.1) = kds.map (·.1) ∧ RDs S A H (kvs.map (·.2)) (kds.map (·.2))
  | .ins C fds => ∃ dx fs, H p = some (.ins C dx fs) ∧ fs.map (·.1) = fds.map (·.1) ∧ RDs S A H (fs.map (·.2)) (fds.map (·.2))
  | _ => False
section
variable {S : Sys} {B : Vol} {A A' : As} {H H' : Hp} {p : Addr}
theorem ndr_of {kvs : List (NestedKey × V)} (h : NDS S H p kvs) : NDR S H p kvs := by
  obtain ⟨xs, h1, h2⟩ := h
  exact ⟨xs, .inl h1, h2⟩
theorem Own.top : ∀ {d : D}, Own S A H p d → Top S A H p d
  | .lst _, ⟨vs, e, r⟩ => ⟨vs, e, r⟩
  | .dK _, ⟨kvs, e, r⟩ => ⟨kvs, .inl e, r⟩
  | .dT _, ⟨kvs, e, r⟩ => ⟨kvs, .inl e, r⟩
  | .dN _, ⟨kvs, e, r⟩ => ⟨kvs, ndr_of e, r⟩
  | .ins _ _, h => h
theorem Own.rd (n : ¬ A p) : ∀ {d : D}, Own S A H p d → RD S A H (.ref p) d
  | .lst _, ⟨vs, e, r⟩ => .lst e n r
  | .dK _, ⟨kvs, e, k, r⟩ => .dK (.inl e) n k r
  | .dT _, ⟨kvs, e, k, r⟩ => .dT (.inl e) n k r
  | .dN _, ⟨kvs, e, k, r⟩ => .dN (ndr_of e) n k r
  | .ins _ _, ⟨dx, fs, e, k, r⟩ => .ins e n k r
theorem Own.mut : ∀ {d : D}, Own S A H p d → ∃ o, H p = some o ∧ Mut (some o)
  | .lst _, ⟨vs, e, r⟩ => ⟨_, e, trivial⟩
  | .dK _, ⟨kvs, e, k, r⟩ => ⟨_, e, trivial⟩
  | .dT _, ⟨kvs, e, k, r⟩ => ⟨_, e, trivial⟩
  | .dN _, ⟨kvs, ⟨xs, e, _⟩, k, r⟩ => ⟨_, e, trivial⟩
  | .ins _ _, ⟨dx, fs, e, k, r⟩ => ⟨_, e, trivial⟩
theorem Own.mono (k : Kp A A' H H') (e : ∀ o, H p = some o → H' p = some o) : ∀ {d : D}, Own S A H p d → Own S A' H' p d
  | .lst _, ⟨vs, h, r⟩ => ⟨vs, e _ h, r.mono k⟩
  | .dK _, ⟨kvs, h, q, r⟩ => ⟨kvs, e _ h, q, r.mono k⟩
  | .dT _, ⟨kvs, h, q, r⟩ => ⟨kvs, e _ h, q, r.mono k⟩
  | .dN _, ⟨kvs, ⟨xs, h, h2, h3, h4⟩, q, r⟩ => ⟨kvs, ⟨xs, e _ h, h2, fun x hx => ⟨(h3 x hx).1.mono k.u, (h3 x hx).2⟩, h4⟩, q, r.mono k⟩
  | .ins _ _, ⟨dx, fs, h, q, r⟩ => ⟨dx, fs, e _ h, q, r.mono k⟩
theorem Top.mono (k : Kp A A' H H') (e : ∀ u, Rd H p u → Rd H' p u) (ei : ∀ C dx fs, H p = some (.ins C dx fs) → H' p = some (.ins C dx fs)) (el : ∀ xs, H p = some (.lst xs) → H' p = some (.lst xs)) : ∀ {d : D}, Top S A H p d → Top S A' H' p d
  | .lst _, ⟨vs, h, r⟩ => ⟨vs, el _ h, r.mono k⟩
  | .dK _, ⟨kvs, h, q, r⟩ => ⟨kvs, e _ h, q, r.mono k⟩
  | .dT _, ⟨kvs, h, q, r⟩ => ⟨kvs, e _ h, q, r.mono k⟩
  | .dN _, ⟨kvs, ⟨xs, h, h2, h3, h4⟩, q, r⟩ => ⟨kvs, ⟨xs, e _ h, h2, fun x hx => ⟨(h3 x hx).1.mono k.u, (h3 x hx).2⟩, h4⟩, q, r.mono k⟩
  | .ins _ _, ⟨dx, fs, h, q, r⟩ => ⟨dx, fs, ei _ _ _ h, q, r.mono k⟩
end

def CellOk (S : Sys) (A L : As) (H : Hp) (v : V) : Cell → Prop
  | .s d => RD S A H v d
  | .o d => ∃ p, v = .ref p ∧ Own S A H p d
  | .m d => ∃ p, v = .ref p ∧ Own S A H p d
  | .b d => RD S A H v d ∨ ∃ p, v = .ref p ∧ L p ∧ Top S A H p d
structure Ok (S : Sys) (B : Vol) (L : As) (env : Env) (σ : St) (H : Hp) : Prop where
  len : σ.length = env.length
  at_ : ∀ (i : Nat) (c : Cell), env[i]? = some (some c) → ∃ v, σ[i]? = some (some v) ∧ CellOk S (Av B L env σ) L H v c
  inj : ∀ (i j : Nat) (c c' : Cell) (a : Addr), env[i]? = some (some c) → c.own = true → env[j]? = some (some c') → c'.own = true → σ[i]? = some (some (.ref a)) → σ[j]? = some (some (.ref a)) → i = j
  sep : ∀ a, Ow B env σ a → ¬ L a
  al : ∀ a, L a → H a ≠ none
  bag : B.Bag H
  dv : ∀ (i : Nat) (c : Cell) (a : Addr), env[i]? = some (some c) → c.own = true → σ[i]? = some (some (.ref a)) → ¬ B.V a
structure Step (B : Vol) (env : Env) (σ : St) (H : Hp) (env' : Env) (σ' : St) (H' : Hp) : Prop where
  e : ∀ a o, H a = some o → ¬ Ow B env σ a → H' a = some o
  n : ∀ a, Ow B env' σ' a → Ow B env σ a ∨ H a = none
  m : ∀ (i : Nat) d, env'[i]? = some (some (.m d)) → (∃ d0, env[i]? = some (some (.m d0))) ∧ σ'[i]? = σ[i]?
  b : ∀ (i : Nat) d, env'[i]? = some (some (.b d)) → env[i]? = some (some (.b d)) ∧ σ'[i]? = σ[i]?
  al : ∀ a, H' a = none → H a = none
section
variable {S : Sys} {B : Vol} {L L' : As} {env env' env2 : Env} {σ σ' σ2 : St} {H H' H2 : Hp} {p : Addr} {v : V} {d : D}
theorem Step.refl : Step B env σ H env σ H := ⟨fun _ _ z _ => z, fun _ z => .inl z, fun _ _ z => ⟨⟨_, z⟩, rfl⟩, fun _ _ z => ⟨z, rfl⟩, fun _ z => z⟩
theorem Step.trans (x : Step B env σ H env' σ' H') (y : Step B env' σ' H' env2 σ2 H2) : Step B env σ H env2 σ2 H2 where
  e := fun a o h n => y.e a o (x.e a o h n) fun q => (x.n a q).elim n fun z => by rw [h] at z; cases z
  n := fun a q => (y.n a q).elim (fun z => x.n a z) fun z => .inr (x.al a z)
  m := fun i d h => by
    obtain ⟨⟨d0, h0⟩, e0⟩ := y.m i d h
    obtain ⟨h1, e1⟩ := x.m i d0 h0
    exact ⟨h1, e0.trans e1⟩
  b := fun i d h => by
    obtain ⟨h0, e0⟩ := y.b i d h
    obtain ⟨h1, e1⟩ := x.b i d h0
    exact ⟨h1, e0.trans e1⟩
  al := fun a z => x.al a (y.al a z)
theorem Ok.ow (ok : Ok S B L env σ H) {a : Addr} (h : Ow B env σ a) : ∃ o, H a = some o ∧ Mut (some o) := by
  rcases h with h | ⟨i, c, h1, h2, h3⟩
  · exact B.vm H a ok.bag h
  obtain ⟨v, h4, h5⟩ := ok.at_ i c h1
  rw [h3] at h4
  cases h4
  cases c with
  | s d => cases h2
  | b d => cases h2
  | o d =>
    obtain ⟨q, e, z⟩ := h5
    cases e
    exact z.mut
  | m d =>
    obtain ⟨q, e, z⟩ := h5
    cases e
    exact z.mut
theorem Ok.notup (ok : Ok S B L env σ H) {a : Addr} {xs : List V} (h : Rd H a (.tup xs)) : ¬ Ow B env σ a := fun q => by
  obtain ⟨o, h1, h2⟩ := ok.ow q
  rcases h with h | ⟨ob, h⟩ <;> · rw [h1] at h; cases h; exact h2
theorem Step.kp (ok : Ok S B L env σ H) (st : Step B env σ H env' σ' H') : Kp (Av B L env σ) (Av B L env' σ') H H' where
  t := fun q xs h => by
    have n := ok.notup h
    rcases h with h | ⟨ob, h⟩
    · exact .inl (st.e _ _ h n)
    · exact .inr ⟨ob, st.e _ _ h n⟩
  u := fun q xs h => st.e _ _ h (ok.notup (.inl h))
  l := fun q xs h n => st.e _ _ h fun z => n (.inr z)
  z := fun q ob xs h => st.e _ _ h fun z => by
    obtain ⟨o, h1, h2⟩ := ok.ow z
    rw [h] at h1; cases h1; exact h2
  r := fun q u h n => by
    have n1 : ¬ Ow B env σ q := fun z => n (.inr z)
    have hs : H q ≠ none := by rcases h with h | ⟨ob, h⟩ <;> · rw [h]; exact fun z => nomatch z
    refine ⟨?_, fun z => z.elim (fun y => n (.inl y)) fun y => (st.n q y).elim n1 hs⟩
    rcases h with h | ⟨ob, h⟩
    · exact .inl (st.e _ _ h n1)
    · exact .inr ⟨ob, st.e _ _ h n1⟩
  i := fun q C dx fs h n => st.e _ _ h fun z => n (.inr z)
  x := fun q fs h => st.e _ _ h fun z => by
    obtain ⟨o, h1, h2⟩ := ok.ow z
    rw [h] at h1; cases h1; exact h2
theorem RD.step (ok : Ok S B L env σ H) (st : Step B env σ H env' σ' H') (h : RD S (Av B L env σ) H v d) : RD S (Av B L env' σ') H' v d := h.mono (st.kp ok)
theorem RDs.step (ok : Ok S B L env σ H) (st : Step B env σ H env' σ' H') {vs : List V} {ds : List D} (h : RDs S (Av B L env σ) H vs ds) : RDs S (Av B L env' σ') H' vs ds := h.mono (st.kp ok)
theorem Own.step (ok : Ok S B L env σ H) (st : Step B env σ H env' σ' H') (n : ¬ Ow B env σ p) (h : Own S (Av B L env σ) H p d) : Own S (Av B L env' σ') H' p d := h.mono (st.kp ok) fun o z => st.e _ _ z n
/-- fewer addresses to be kept clear of -/
theorem Own.weak {A A' : As} (h : Own S A H p d) (w : ∀ a, A' a → A a) : Own S A' H p d := h.mono (Kp.weak w) fun _ z => z
theorem Top.weak {A A' : As} (h : Top S A H p d) (w : ∀ a, A' a → A a) : Top S A' H p d := h.mono (Kp.weak w) (fun _ z => z) (fun _ _ _ z => z) fun _ z => z
theorem Ok.weak (ok : Ok S B L env σ H) (w : ∀ a, L' a → L a) (hb : ∀ (i : Nat) (d : D) (a : Addr), env[i]? = some (some (.b d)) → σ[i]? = some (some (.ref a)) → L a → L' a ∨ RD S (Av B L' env σ) H (.ref a) d) : Ok S B L' env σ H where
  len := ok.len
  at_ := fun i c h => by
    obtain ⟨v, h1, h2⟩ := ok.at_ i c h
    have w2 : ∀ a, Av B L' env σ a → Av B L env σ a := fun a z => z.elim (fun y => .inl (w a y)) .inr
    refine ⟨v, h1, ?_⟩
    cases c with
    | s d => exact h2.weak w2
    | o d => obtain ⟨q, e, z⟩ := h2; exact ⟨q, e, z.weak w2⟩
    | m d => obtain ⟨q, e, z⟩ := h2; exact ⟨q, e, z.weak w2⟩
    | b d =>
      rcases h2 with h2 | ⟨q, e, l, z⟩
      · exact .inl (h2.weak w2)
      · rcases hb i d q h (by rw [h1, e]) l with y | y
        · exact .inr ⟨q, e, y, z.weak w2⟩
        · exact .inl (by rw [e]; exact y)
  inj := ok.inj
  sep := fun a h q => ok.sep a h (w a q)
  al := fun a h => ok.al a (w a h)
  bag := ok.bag
  dv := ok.dv
end
end Dl
/-! DL2: readings of expressions by data. -/
namespace Dl
open PySem L2

/-- what an expression gives: something shared, a new object, what stands in a slot -/
inductive AV where
  | s (d : D) | f (d : D) | r (i : Nat)
def AV.hold : AV → AV
  | .f d => .s d
  | a => a
def AV.get (env : Env) : AV → Option D
  | .s d => some d
  | .f d => some d
  | .r i => match env[i]? with
    | some (some c) => some c.d
    | _ => none
/-- one of two, by a flag -/
structure IfB (b : Bool) (A B : Prop) : Prop where
  t : b = true → A
  f : b = false → B
theorem IfB.T {b : Bool} {A B : Prop} (h : b = true) (a : A) : IfB b A B := ⟨fun _ => a, fun e => by rw [h] at e; cases e⟩
theorem IfB.F {b : Bool} {A B : Prop} (h : b = false) (a : B) : IfB b A B := ⟨fun e => by (rw [h] at e; cases e), fun _ => a⟩
/-- what is there, and k of it -/
def ob {α : Type} (o : Option α) (k : α → Prop) : Prop := match o with
  | some a => k a
  | none => False
theorem ob_of {α : Type} {o : Option α} {k : α → Prop} (h : ob o k) : ∃ a, o = some a ∧ k a := by
  cases o with
  | none => exact h.elim
  | some a => exact ⟨a, rfl, h⟩

def PostV (S : Sys) (B : Vol) (L : As) (env' : Env) (σ : St) (H H' : Hp) (v : V) : AV → Prop
  | .s d => Ok S B L env' σ H' ∧ RD S (Av B L env' σ) H' v d
  | .f d => ∃ p, v = .ref p ∧ H p = none ∧ Ok S B (La L p) env' σ H' ∧ Own S (Av B (La L p) env' σ) H' p d
  | .r i => Ok S B L env' σ H' ∧ σ[i]? = some (some v)
def Post (S : Sys) (B : Vol) (L : As) (env : Env) (σ : St) (H : Hp) (av : AV) (env' : Env) (v : V) (H' : Hp) : Prop := Step B env σ H env' σ H' ∧ PostV S B L env' σ H H' v av
/-- a value held beside others -/
def VlA (S : Sys) (A : As) (σ : St) (H : Hp) (v : V) : AV → Prop
  | .s d => RD S A H v d
  | .f _ => False
  | .r i => σ[i]? = some (some v)
def VlAs (S : Sys) (A : As) (σ : St) (H : Hp) : List V → List AV → Prop
  | [], [] => True
  | v :: vs, a :: as => VlA S A σ H v a ∧ VlAs S A σ H vs as
  | _, _ => False
/-- a value to be read -/
def TV (S : Sys) (A : As) (H : Hp) (v : V) (d : D) : Prop := RD S A H v d ∨ ∃ p, v = .ref p ∧ Top S A H p d

abbrev TDE := Env → (AV → Env → Prop) → Prop
abbrev TDA := Env → (List AV → Env → Prop) → Prop
abbrev TDT := Env → (Bool → Env → Prop) → Prop
def LfE (S : Sys) (B : Vol) (te : TE) (t : TDE) : Prop := ∀ (L : As) (env : Env) (σ : St) (H : Hp) (Q : VK) (k : AV → Env → Prop), Ok S B L env σ H → t env k → (∀ av env' v H', k av env' → Post S B L env σ H av env' v H' → Q v H') → te σ H Q
def LfA (S : Sys) (B : Vol) (ta : TA) (t : TDA) : Prop := ∀ (L : As) (env : Env) (σ : St) (H : Hp) (Q : List V → Hp → Prop) (k : List AV → Env → Prop), Ok S B L env σ H → t env k →
  (∀ avs env' vs H', k avs env' → Ok S B L env' σ H' → Step B env σ H env' σ H' → VlAs S (Av B L env' σ) σ H' vs avs → Q vs H') → ta σ H Q
def LfT (S : Sys) (B : Vol) (tt : TT) (t : TDT) : Prop := ∀ (L : As) (env : Env) (σ : St) (H : Hp) (Q : Bool → Hp → Prop) (k : Bool → Env → Prop), Ok S B L env σ H → t env k → (∀ b env' H', k b env' → Ok S B L env' σ H' → Step B env σ H env' σ H' → Q b H') → tt σ H Q

section
variable {S : Sys} {B : Vol} {L L' : As} {env env' env1 env2 : Env} {σ : St} {H H' H1 H2 : Hp} {p : Addr} {v : V} {d : D} {av : AV} {A A' : As}
theorem TV.mono (k : Kp A A' H H') (e : ∀ q, v = .ref q → (∀ u, Rd H q u → Rd H' q u) ∧ (∀ C dx fs, H q = some (.ins C dx fs) → H' q = some (.ins C dx fs)) ∧ (∀ xs, H q = some (.lst xs) → H' q = some (.lst xs))) (h : TV S A H v d) : TV S A' H' v d := by
  rcases h with h | ⟨q, rfl, h⟩
  · exact .inl (h.mono k)
  · exact .inr ⟨q, rfl, h.mono k (e q rfl).1 (e q rfl).2.1 (e q rfl).2.2⟩
theorem RD.tv (h : RD S A H v d) : TV S A H v d := .inl h
theorem TV.non (h : TV S A H v .non) : v = .non := by
  rcases h with h | ⟨_, _, h⟩
  · cases h; rfl
  · exact h.elim
theorem TV.bl {b : Bool} (h : TV S A H v (.bl b)) : v = .bl b := by
  rcases h with h | ⟨_, _, h⟩
  · cases h; rfl
  · exact h.elim
theorem TV.int {i : Int} (h : TV S A H v (.int i)) : v = .int i := by
  rcases h with h | ⟨_, _, h⟩
  · cases h; rfl
  · exact h.elim
theorem TV.str {x : Str} (h : TV S A H v (.str x)) : v = .str x := by
  rcases h with h | ⟨_, _, h⟩
  · cases h; rfl
  · exact h.elim
theorem TV.ty {x : String} (h : TV S A H v (.ty x)) : v = .ty x := by
  rcases h with h | ⟨_, _, h⟩
  · cases h; rfl
  · exact h.elim
theorem TV.glob {a : Addr} (h : TV S A H v (.glob a)) : v = .ref a := by
  rcases h with h | ⟨_, _, h⟩
  · cases h; rfl
  · exact h.elim
theorem TV.tup {ds : List D} (h : TV S A H v (.tup ds)) : ∃ p vs, v = .ref p ∧ H p = some (.tup vs) ∧ RDs S A H vs ds := by
  rcases h with h | ⟨_, _, h⟩
  · cases h with
    | tup h r => exact ⟨_, _, rfl, h, r⟩
  · exact h.elim
theorem TV.lst {ds : List D} (h : TV S A H v (.lst ds)) : ∃ p vs, v = .ref p ∧ H p = some (.lst vs) ∧ RDs S A H vs ds := by
  rcases h with h | ⟨p, e, vs, h, r⟩
  · cases h with
    | lst h n r => exact ⟨_, _, rfl, h, r⟩
  · exact ⟨p, vs, e, h, r⟩
theorem TV.zl {ds : List D} (h : TV S A H v (.zl ds)) : ∃ p vs, v = .ref p ∧ ZL S.K H p vs ∧ RDs S A H vs ds := by
  rcases h with h | ⟨p, e, h⟩
  · cases h with
    | zl h r => exact ⟨_, _, rfl, h, r⟩
  · exact h.elim
theorem TV.dK {kds : List (Key × D)} (h : TV S A H v (.dK kds)) : ∃ p kvs, v = .ref p ∧ Rd H p (.dK kvs) ∧ kvs.map (·.1) = kds.map (·.1) ∧ RDs S A H (kvs.map (·.2)) (kds.map (·.2)) := by
  rcases h with h | ⟨p, e, vs, h, r⟩
  · cases h with
    | dK h n q r => exact ⟨_, _, rfl, h, q, r⟩
  · exact ⟨p, vs, e, h, r⟩
theorem TV.dT {kds : List (List Key × D)} (h : TV S A H v (.dT kds)) : ∃ p kvs, v = .ref p ∧ Rd H p (.dT kvs) ∧ kvs.map (·.1) = kds.map (·.1) ∧ RDs S A H (kvs.map (·.2)) (kds.map (·.2)) := by
  rcases h with h | ⟨p, e, vs, h, r⟩
  · cases h with
    | dT h n q r => exact ⟨_, _, rfl, h, q, r⟩
  · exact ⟨p, vs, e, h, r⟩
theorem TV.dN {kds : List (NestedKey × D)} (h : TV S A H v (.dN kds)) : ∃ p kvs, v = .ref p ∧ NDR S H p kvs ∧ kvs.map (·.1) = kds.map (·.1) ∧ RDs S A H (kvs.map (·.2)) (kds.map (·.2)) := by
  rcases h with h | ⟨p, e, vs, h, r⟩
  · cases h with
    | dN h n q r => exact ⟨_, _, rfl, h, q, r⟩
  · exact ⟨p, vs, e, h, r⟩
theorem TV.ins {C : Addr} {fds : List (Str × D)} (h : TV S A H v (.ins C fds)) : ∃ p dx fs, v = .ref p ∧ H p = some (.ins C dx fs) ∧ fs.map (·.1) = fds.map (·.1) ∧ RDs S A H (fs.map (·.2)) (fds.map (·.2)) := by
  rcases h with h | ⟨p, e, dx, fs, h, r⟩
  · cases h with
    | ins h n q r => exact ⟨_, _, _, rfl, h, q, r⟩
  · exact ⟨p, dx, fs, e, h, r⟩
theorem CellOk.tv {c : Cell} (h : CellOk S A L H v c) : TV S A H v c.d := by
  cases c with
  | s d => exact .inl h
  | o d => obtain ⟨p, e, z⟩ := h; exact .inr ⟨p, e, z.top⟩
  | m d => obtain ⟨p, e, z⟩ := h; exact .inr ⟨p, e, z.top⟩
  | b d => exact h.elim .inl fun ⟨p, e, _, z⟩ => .inr ⟨p, e, z⟩
theorem Ok.slot (ok : Ok S B L env σ H) {i : Nat} {c : Cell} (h : env[i]? = some (some c)) (hv : σ[i]? = some (some v)) : CellOk S (Av B L env σ) L H v c := by
  obtain ⟨u, h1, h2⟩ := ok.at_ i c h
  rw [hv] at h1
  cases h1
  exact h2
theorem VlA.tv (ok : Ok S B L env σ H) (h : VlA S (Av B L env σ) σ H v av) (hd : av.get env = some d) : TV S (Av B L env σ) H v d := by
  cases av with
  | s x => cases hd; exact .inl h
  | f x => exact h.elim
  | r i =>
    have hd : (match env[i]? with | some (some c) => some c.d | _ => none) = some d := hd
    split at hd
    · rename_i c hc
      cases hd
      exact (ok.slot hc h).tv
    · cases hd
theorem AV.get_hold (av : AV) (env : Env) : av.hold.get env = av.get env := by cases av <;> rfl
theorem Post.trans (st : Step B env σ H env1 σ H1) (h : Post S B L env1 σ H1 av env' v H') : Post S B L env σ H av env' v H' := by
  obtain ⟨st2, h⟩ := h
  refine ⟨st.trans st2, ?_⟩
  cases av with
  | s d => exact h
  | r i => exact h
  | f d =>
    obtain ⟨q, e, hn, z⟩ := h
    exact ⟨q, e, st.al _ hn, z⟩
/-- what must be kept clear of while a value is held -/
def Lp (L : As) : AV → V → As
  | .f _, .ref p => La L p
  | _, _ => L
theorem la_out (ok : Ok S B (La L p) env σ H) : ¬ Ow B env σ p := fun z => ok.sep p z (.inr rfl)
theorem Ok.unla (ok : Ok S B (La L p) env σ H) (hb : ∀ (i : Nat) (d : D), env[i]? = some (some (.b d)) → σ[i]? = some (some (.ref p)) → RD S (Av B L env σ) H (.ref p) d) : Ok S B L env σ H := by
  refine ok.weak (fun a z => .inl z) fun i d a h1 h2 hl => ?_
  rcases hl with hl | rfl
  · exact .inl hl
  · exact .inr (hb i d h1 h2)
/-- lent slots hold what was there -/
theorem Step.lent (ok : Ok S B L env σ H) (st : Step B env σ H env' σ H') (hn : H p = none) : ∀ (i : Nat) (d : D), env'[i]? = some (some (.b d)) → σ[i]? = some (some (.ref p)) → RD S (Av B L env' σ) H' (.ref p) d := fun i d h h2 => by
  obtain ⟨h0, _⟩ := st.b i d h
  rcases ok.slot h0 h2 with z | ⟨q, e, hl, _⟩
  · exact z.step ok st
  · cases e
    exact absurd hn (ok.al _ hl)
theorem Post.vl (ok : Ok S B L env σ H) (h : Post S B L env σ H av env' v H') : Ok S B L env' σ H' ∧ Step B env σ H env' σ H' ∧ VlA S (Av B L env' σ) σ H' v av.hold := by
  obtain ⟨st, h⟩ := h
  cases av with
  | s d => exact ⟨h.1, st, h.2⟩
  | r i => exact ⟨h.1, st, h.2⟩
  | f d =>
    obtain ⟨q, rfl, hn, h1, h2⟩ := h
    refine ⟨h1.unla (st.lent ok hn), st, (h2.weak fun a z => z.elim (fun y => .inl (.inl y)) .inr).rd fun z => ?_⟩
    rcases z with z | z
    · exact ok.al _ z hn
    · exact la_out h1 z
/-- a second one behind a first one that is held -/
theorem Post.held (ok : Ok S B L env σ H) (h : Post S B L env σ H av env1 v H1) : Ok S B (Lp L av v) env1 σ H1 ∧ Step B env σ H env1 σ H1 ∧
    (∀ env2 H2, Ok S B (Lp L av v) env2 σ H2 → Step B env1 σ H1 env2 σ H2 → Ok S B L env2 σ H2 ∧ VlA S (Av B L env2 σ) σ H2 v av.hold ∧ ∀ a, Av B L env2 σ a → Av B (Lp L av v) env2 σ a) := by
  obtain ⟨st, h⟩ := h
  cases av with
  | s d => exact ⟨h.1, st, fun env2 H2 o2 s2 => ⟨o2, h.2.step h.1 s2, fun _ z => z⟩⟩
  | r i => exact ⟨h.1, st, fun env2 H2 o2 s2 => ⟨o2, h.2, fun _ z => z⟩⟩
  | f d =>
    obtain ⟨q, rfl, hn, h1, h2⟩ := h
    refine ⟨h1, st, fun env2 H2 o2 s2 => ?_⟩
    have h3 := h2.step h1 s2 (la_out h1)
    refine ⟨o2.unla ((st.trans s2).lent ok hn), (h3.weak fun a z => z.elim (fun y => .inl (.inl y)) .inr).rd fun z => ?_, fun a z => z.elim (fun y => .inl (.inl y)) .inr⟩
    rcases z with z | z
    · exact ok.al _ z hn
    · exact la_out o2 z
theorem VlA.weak (h : VlA S A σ H v av) (w : ∀ a, A' a → A a) : VlA S A' σ H v av := by
  cases av with
  | s d => exact RD.weak h w
  | f d => exact h
  | r i => exact h
theorem VlAs.weak : ∀ {vs : List V} {as : List AV}, VlAs S A σ H vs as → (∀ a, A' a → A a) → VlAs S A' σ H vs as
  | [], [], _, _ => trivial
  | _ :: _, _ :: _, h, w => ⟨h.1.weak w, VlAs.weak h.2 w⟩
end

/-! ### names, constants, argument lists -/
section
variable {S : Sys} {B : Vol}
def dVar (i : Nat) : TDE := fun env k => ob env[i]? fun o => ob o fun c => match c with
  | .s d => k (.s d) env
  | _ => k (.r i) env
theorem lf_var {i : Nat} : LfE S B (tVar i) (dVar i) := fun L env σ H Q k ok h hk => by
  obtain ⟨o, e1, h⟩ := ob_of h
  obtain ⟨c, rfl, h⟩ := ob_of h
  obtain ⟨v, hv, hc⟩ := ok.at_ i c e1
  refine ⟨v, hv, ?_⟩
  cases c with
  | s d => exact hk _ _ _ _ h ⟨.refl, ok, hc⟩
  | o d => exact hk _ _ _ _ h ⟨.refl, ok, hv⟩
  | m d => exact hk _ _ _ _ h ⟨.refl, ok, hv⟩
  | b d => exact hk _ _ _ _ h ⟨.refl, ok, hv⟩
def vD : V → D
  | .non => .non | .bl b => .bl b | .int i => .int i | .str x => .str x | .ty n => .ty n | .ref a => .glob a | .byt _ => .non | .flt _ => .non
def dC (d : D) : TDE := fun env k => k (.s d) env
theorem lf_int {i : Int} : LfE S B (tC (.int i)) (dC (.int i)) := fun L env σ H Q k ok h hk => hk _ _ _ _ h ⟨.refl, ok, .int i⟩
theorem lf_bl {b : Bool} : LfE S B (tC (.bl b)) (dC (.bl b)) := fun L env σ H Q k ok h hk => hk _ _ _ _ h ⟨.refl, ok, .bl b⟩
theorem lf_non : LfE S B (tC .non) (dC .non) := fun L env σ H Q k ok h hk => hk _ _ _ _ h ⟨.refl, ok, .non⟩
theorem lf_str {x : Str} : LfE S B (tC (.str x)) (dC (.str x)) := fun L env σ H Q k ok h hk => hk _ _ _ _ h ⟨.refl, ok, .str x⟩
theorem lf_ty {n : String} : LfE S B (tC (.ty n)) (dC (.ty n)) := fun L env σ H Q k ok h hk => hk _ _ _ _ h ⟨.refl, ok, .ty n⟩
theorem lf_glob {a : Addr} : LfE S B (tC (.ref a)) (dC (.glob a)) := fun L env σ H Q k ok h hk => hk _ _ _ _ h ⟨.refl, ok, .glob a⟩
def dNil : TDA := fun env k => k [] env
def dCons (t : TDE) (u : TDA) : TDA := fun env k => t env fun a env1 => u env1 fun as env2 => k (a.hold :: as) env2
theorem lf_nil : LfA S B tNil dNil := fun L env σ H Q k ok h hk => hk _ _ _ _ h ok .refl trivial
theorem lf_cons {te : TE} {ta : TA} {t : TDE} {u : TDA} (he : LfE S B te t) (ha : LfA S B ta u) : LfA S B (tCons te ta) (dCons t u) := fun L env σ H Q k ok h hk => by
  refine he L env σ H _ _ ok h fun av env1 v H1 h1 p1 => ?_
  obtain ⟨ok1, st1, fin⟩ := p1.held ok
  refine ha _ env1 σ H1 _ _ ok1 h1 fun avs env2 vs H2 h2 ok2 st2 l2 => ?_
  obtain ⟨ok3, l3, w⟩ := fin env2 H2 ok2 st2
  exact hk _ _ _ _ h2 ok3 (st1.trans st2) ⟨l3, l2.weak w⟩
/-- the data of arguments -/
def gets (env : Env) : List AV → Option (List D)
  | [] => some []
  | a :: as => match a.get env, gets env as with
    | some d, some ds => some (d :: ds)
    | _, _ => none

/-! ### operators by values -/
abbrev F1 := D → (AV → Prop) → Prop
abbrev F2 := D → D → (AV → Prop) → Prop
abbrev Fn := List D → (AV → Prop) → Prop
def OpL (S : Sys) (B : Vol) (r : R2) (f : F2) : Prop := ∀ (L : As) (env : Env) (σ : St) (H : Hp) (Q : VK) (x y : V) (a b : D) (k : AV → Prop), Ok S B L env σ H → TV S (Av B L env σ) H x a → TV S (Av B L env σ) H y b → f a b k →
  (∀ av v H', k av → Post S B L env σ H av env v H' → Q v H') → r x y H Q
def UnL (S : Sys) (B : Vol) (r : V → Hp → VK → Prop) (f : F1) : Prop := ∀ (L : As) (env : Env) (σ : St) (H : Hp) (Q : VK) (x : V) (a : D) (k : AV → Prop), Ok S B L env σ H → TV S (Av B L env σ) H x a → f a k →
  (∀ av v H', k av → Post S B L env σ H av env v H' → Q v H') → r x H Q
/-- values to be read -/
def TVs (S : Sys) (A : As) (H : Hp) : List V → List D → Prop
  | [], [] => True
  | v :: vs, d :: ds => TV S A H v d ∧ TVs S A H vs ds
  | _, _ => False
def CaL (S : Sys) (B : Vol) (r : List V → Hp → VK → Prop) (f : Fn) : Prop := ∀ (L : As) (env : Env) (σ : St) (H : Hp) (Q : VK) (xs : List V) (as : List D) (k : AV → Prop), Ok S B L env σ H → TVs S (Av B L env σ) H xs as → f as k →
  (∀ av v H', k av → Post S B L env σ H av env v H' → Q v H') → r xs H Q
def dOp (f : F2) (ta tb : TDE) : TDE := fun env k => ta env fun a env1 => tb env1 fun b env2 => ob (a.get env2) fun x => ob (b.get env2) fun y => f x y fun r => k r env2
def dUn (f : F1) (ta : TDE) : TDE := fun env k => ta env fun a env1 => ob (a.get env1) fun x => f x fun r => k r env1
def dCB (f : Fn) (ta : TDA) : TDE := fun env k => ta env fun as env1 => ob (gets env1 as) fun xs => f xs fun r => k r env1
theorem lf_op {r : R2} {f : F2} {ta tb : TE} {da db : TDE} (hr : OpL S B r f) (ha : LfE S B ta da) (hb : LfE S B tb db) : LfE S B (tOp r ta tb) (dOp f da db) := fun L env σ H Q k ok h hk => by
  refine ha L env σ H _ _ ok h fun av env1 v H1 h1 p1 => ?_
  obtain ⟨ok1, st1, fin⟩ := p1.held ok
  refine hb _ env1 σ H1 _ _ ok1 h1 fun aw env2 u H2 h2 p2 => ?_
  obtain ⟨ok2, st2, l2⟩ := p2.vl ok1
  obtain ⟨ok3, l3, w⟩ := fin env2 H2 ok2 st2
  obtain ⟨x, e1, h2⟩ := ob_of h2
  obtain ⟨y, e2, h2⟩ := ob_of h2
  refine hr L env2 σ H2 Q v u x y _ ok3 (l3.tv ok3 (by rw [AV.get_hold]; exact e1)) ((l2.weak w).tv ok3 (by rw [AV.get_hold]; exact e2)) h2 fun av3 v3 H3 h3 p3 => ?_
  exact hk _ _ _ _ h3 (p3.trans (st1.trans st2))
theorem lf_un {r : V → Hp → VK → Prop} {f : F1} {ta : TE} {da : TDE} (hr : UnL S B r f) (ha : LfE S B ta da) : LfE S B (tUn r ta) (dUn f da) := fun L env σ H Q k ok h hk => by
  refine ha L env σ H _ _ ok h fun av env1 v H1 h1 p1 => ?_
  obtain ⟨ok1, st1, l1⟩ := p1.vl ok
  obtain ⟨x, e1, h2⟩ := ob_of h1
  exact hr L env1 σ H1 Q v x _ ok1 (l1.tv ok1 (by rw [AV.get_hold]; exact e1)) h2 fun av3 v3 H3 h3 p3 => hk _ _ _ _ h3 (p3.trans st1)
theorem VlAs.tvs {L : As} {env : Env} {σ : St} {H : Hp} (ok : Ok S B L env σ H) : ∀ {vs : List V} {avs : List AV} {ds : List D}, VlAs S (Av B L env σ) σ H vs avs → gets env avs = some ds → TVs S (Av B L env σ) H vs ds
  | [], [], _, _, e => by cases e; trivial
  | _ :: _, a :: as, ds, h, e => by
    unfold gets at e
    split at e
    · rename_i d' ds' e1 e2
      cases e
      exact ⟨h.1.tv ok e1, VlAs.tvs ok h.2 e2⟩
    · cases e
theorem lf_cb {r : List V → Hp → VK → Prop} {f : Fn} {ta : TA} {da : TDA} (hr : CaL S B r f) (ha : LfA S B ta da) : LfE S B (tCB r ta) (dCB f da) := fun L env σ H Q k ok h hk => by
  refine ha L env σ H _ _ ok h fun avs env1 vs H1 h1 ok1 st1 l1 => ?_
  obtain ⟨xs, e1, h2⟩ := ob_of h1
  exact hr L env1 σ H1 Q vs xs _ ok1 (l1.tvs ok1 e1) h2 fun av3 v3 H3 h3 p3 => hk _ _ _ _ h3 (p3.trans st1)
/-- a value without objects -/
theorem post_s {L : As} {env : Env} {σ : St} {H : Hp} {v : V} {d : D} (ok : Ok S B L env σ H) (h : RD S (Av B L env σ) H v d) : Post S B L env σ H (.s d) env v H := ⟨.refl, ok, h⟩
/-- a new object -/
theorem step_new {env : Env} {σ : St} {H : Hp} {p : Addr} {o : HO} (hp : H p = none) : Step B env σ H env σ (upd H p o) where
  e := fun a u h _ => by rw [upd_ne (ne_of_none h hp)]; exact h
  n := fun _ z => .inl z
  m := fun _ _ z => ⟨⟨_, z⟩, rfl⟩
  b := fun _ _ z => ⟨z, rfl⟩
  al := fun a h => by
    by_cases e : a = p
    · rw [e]; exact hp
    · rw [upd_ne e] at h; exact h
theorem Ok.new {L : As} {env : Env} {σ : St} {H : Hp} {p : Addr} {o : HO} (ok : Ok S B L env σ H) (hp : H p = none) : Ok S B (La L p) env σ (upd H p o) := by
  have kp : Kp (Av B L env σ) (Av B (La L p) env σ) H (upd H p o) := by
    have k := (step_new (env := env) (σ := σ) (o := o) hp).kp ok
    refine ⟨k.t, k.u, k.l, k.z, fun q u h n => ⟨(k.r q u h n).1, ?_⟩, k.i, k.x⟩
    rintro ((z | z) | z)
    · exact n (.inl z)
    · rw [z] at h
      rcases h with h | ⟨ob, h⟩ <;> · rw [hp] at h; cases h
    · exact n (.inr z)
  have hm : ∀ {q : Addr}, (∃ o, H q = some o) → ∀ o', H q = some o' → (upd H p o) q = some o' := fun _ o' h => by rw [upd_ne (ne_of_none h hp)]; exact h
  refine ⟨ok.len, fun i c h => ?_, ok.inj, ?_, ?_, B.stab H _ (fun a o' va h => by rw [upd_ne (ne_of_none h hp)]; exact h) ok.bag, ok.dv⟩
  · obtain ⟨v, h1, h2⟩ := ok.at_ i c h
    refine ⟨v, h1, ?_⟩
    cases c with
    | s d => exact RD.mono kp h2
    | o d => obtain ⟨q, e, z⟩ := h2; exact ⟨q, e, z.mono kp fun o' h => by rw [upd_ne (ne_of_none h hp)]; exact h⟩
    | m d => obtain ⟨q, e, z⟩ := h2; exact ⟨q, e, z.mono kp fun o' h => by rw [upd_ne (ne_of_none h hp)]; exact h⟩
    | b d =>
      rcases h2 with h2 | ⟨q, e, l, z⟩
      · exact .inl (RD.mono kp h2)
      refine .inr ⟨q, e, .inl l, z.mono kp (fun u h => ?_) (fun C dx fs h => by rw [upd_ne (ne_of_none h hp)]; exact h) fun xs h => by rw [upd_ne (ne_of_none h hp)]; exact h⟩
      rcases h with h | ⟨ob, h⟩
      · exact .inl (by rw [upd_ne (ne_of_none h hp)]; exact h)
      · exact .inr ⟨ob, by rw [upd_ne (ne_of_none h hp)]; exact h⟩
  · rintro a z (q | rfl)
    · exact ok.sep a z q
    · obtain ⟨o, h1, _⟩ := ok.ow z
      rw [hp] at h1; cases h1
  · rintro a (z | rfl)
    · intro q
      exact ok.al a z ((step_new (B := B) (env := env) (σ := σ) hp).al a q)
    · rw [upd_same]
      exact fun z => nomatch z
theorem kp_new {L : As} {env : Env} {σ : St} {H : Hp} {p : Addr} {o : HO} (ok : Ok S B L env σ H) (hp : H p = none) : Kp (Av B L env σ) (Av B (La L p) env σ) H (upd H p o) := by
  have k := (step_new (env := env) (σ := σ) (o := o) hp).kp ok
  refine ⟨k.t, k.u, k.l, k.z, fun q u h n => ⟨(k.r q u h n).1, ?_⟩, k.i, k.x⟩
  rintro ((z | z) | z)
  · exact n (.inl z)
  · rw [z] at h
    rcases h with h | ⟨ob, h⟩ <;> · rw [hp] at h; cases h
  · exact n (.inr z)
/-- a new list -/
theorem post_lst {L : As} {env : Env} {σ : St} {H : Hp} {p : Addr} {vs : List V} {ds : List D} (ok : Ok S B L env σ H) (hp : H p = none) (h : RDs S (Av B L env σ) H vs ds) : Post S B L env σ H (.f (.lst ds)) env (.ref p) (upd H p (.lst vs)) :=
  ⟨step_new hp, p, rfl, hp, ok.new hp, vs, upd_same, h.mono (kp_new ok hp)⟩
/-- a new tuple -/
theorem post_tup {L : As} {env : Env} {σ : St} {H : Hp} {p : Addr} {vs : List V} {ds : List D} (ok : Ok S B L env σ H) (hp : H p = none) (h : RDs S (Av B L env σ) H vs ds) : Post S B L env σ H (.s (.tup ds)) env (.ref p) (upd H p (.tup vs)) := by
  have ok' := (ok.new (o := .tup vs) hp)
  refine ⟨step_new hp, ok'.unla ((step_new (o := .tup vs) hp).lent ok hp), .tup upd_same (h.step ok (step_new hp))⟩
theorem VlAs.rds (ok : Ok S B L env σ H) : ∀ {vs : List V} {avs : List AV} {ds : List D}, VlAs S (Av B L env σ) σ H vs avs → gets env avs = some ds → (∀ a ∈ avs, ∃ d, a = .s d) → RDs S (Av B L env σ) H vs ds
  | [], [], _, _, e, _ => by cases e; exact .nil
  | _ :: _, a :: as, ds, h, e, hs => by
    obtain ⟨d, rfl⟩ := hs a (List.mem_cons_self ..)
    unfold gets at e
    split at e
    · rename_i d' ds' e1 e2
      cases e
      cases e1
      exact .cons h.1 (VlAs.rds ok h.2 e2 fun a ha => hs a (List.mem_cons_of_mem _ ha))
    · cases e
end
end Dl
/-! books, ways, needs, what can be made: plain mathematics -/
namespace Lk
structure Rl where
  op : Nat
  src : List Nat
  kind : Nat
  cost : Nat
structure Mv where
  src : Nat
  kind : Nat
  cost : Nat
structure Bk where
  ar : List Nat
  nk : Nat
  rs : List Rl
  ms : List Mv
instance : Inhabited Rl := ⟨⟨0, [], 0, 0⟩⟩
instance : Inhabited Mv := ⟨⟨0, 0, 0⟩⟩
def rAt (rs : List Rl) (k : Nat) : Rl := rs.getD k default
def mAt (ms : List Mv) (k : Nat) : Mv := ms.getD k default
def rkey (r : Rl) : Nat × List Nat × Nat := (r.op, r.src, r.kind)
def mkey (m : Mv) : Nat × Nat := (m.src, m.kind)
abbrev Th := Nat × Nat
abbrev Wy := Bool × Nat
def RlOk (ar : List Nat) (nk : Nat) (r : Rl) : Prop := r.op < ar.length ∧ r.src.length = ar.getD r.op 0 ∧ (∀ s ∈ r.src, s < nk) ∧ r.kind < nk ∧ 1 ≤ r.cost ∧ r.cost ≤ 1000
def MvOk (nk : Nat) (m : Mv) : Prop := m.src < nk ∧ m.kind < nk ∧ m.src ≠ m.kind ∧ 1 ≤ m.cost ∧ m.cost ≤ 1000
/-- what a book holds -/
structure GoodB (B : Bk) : Prop where
  a1 : 1 ≤ B.ar.length
  a2 : B.ar.length ≤ 8
  a3 : ∀ x ∈ B.ar, x ≤ 2
  k1 : 1 ≤ B.nk
  k2 : B.nk ≤ 5
  r1 : B.rs.length ≤ 40
  m1 : B.ms.length ≤ 20
  r2 : ∀ r ∈ B.rs, RlOk B.ar B.nk r
  m2 : ∀ m ∈ B.ms, MvOk B.nk m
  r3 : (B.rs.map rkey).Nodup
  m3 : (B.ms.map mkey).Nodup
def FitsM (B : Bk) (R : List Row) : Prop := ∀ n, n < R.length → (rowAt R n).1 < B.ar.length ∧ B.ar.getD (rowAt R n).1 0 = (parts R n).length
theorem rAt_of {rs : List Rl} {k : Nat} (h : k < rs.length) : rs[k]? = some (rAt rs k) := by
  unfold rAt
  rw [List.getD_eq_getElem?_getD, List.getElem?_eq_getElem h]
  rfl
theorem mAt_of {ms : List Mv} {k : Nat} (h : k < ms.length) : ms[k]? = some (mAt ms k) := by
  unfold mAt
  rw [List.getD_eq_getElem?_getD, List.getElem?_eq_getElem h]
  rfl
theorem rAt_mem {rs : List Rl} {k : Nat} (h : k < rs.length) : rAt rs k ∈ rs := List.mem_of_getElem? (rAt_of h)
theorem mAt_mem {ms : List Mv} {k : Nat} (h : k < ms.length) : mAt ms k ∈ ms := List.mem_of_getElem? (mAt_of h)
def mvs (B : Bk) (κ : Nat) : List Nat := (List.range B.ms.length).filter fun k => decide ((mAt B.ms k).kind = κ)
def rls (B : Bk) (o κ : Nat) : List Nat := (List.range B.rs.length).filter fun k => decide ((rAt B.rs k).op = o) && decide ((rAt B.rs k).kind = κ)
/-- the ways of a thing: moves, then rules -/
def waysM (B : Bk) (R : List Row) (t : Th) : List Wy := (mvs B t.2).map (fun k => (false, k)) ++ (rls B (rowAt R t.1).1 t.2).map (fun k => (true, k))
theorem mem_waysF {B : Bk} {R : List Row} {t : Th} {k : Nat} : (false, k) ∈ waysM B R t ↔ k < B.ms.length ∧ (mAt B.ms k).kind = t.2 := by
  unfold waysM mvs rls
  simp [List.mem_append, List.mem_map, List.mem_filter, List.mem_range]
theorem mem_waysT {B : Bk} {R : List Row} {t : Th} {k : Nat} : (true, k) ∈ waysM B R t ↔ k < B.rs.length ∧ (rAt B.rs k).op = (rowAt R t.1).1 ∧ (rAt B.rs k).kind = t.2 := by
  unfold waysM mvs rls
  simp [List.mem_append, List.mem_map, List.mem_filter, List.mem_range]
theorem waysM_len {B : Bk} {R : List Row} {t : Th} : (waysM B R t).length ≤ B.ms.length + B.rs.length := by
  unfold waysM mvs rls
  rw [List.length_append, List.length_map, List.length_map]
  have h1 := List.length_filter_le (fun k => decide ((mAt B.ms k).kind = t.2)) (List.range B.ms.length)
  have h2 := List.length_filter_le (fun k => decide ((rAt B.rs k).op = (rowAt R t.1).1) && decide ((rAt B.rs k).kind = t.2)) (List.range B.rs.length)
  rw [List.length_range] at h1 h2
  omega
/-! lots of things -/
def ltT (x y : Th) : Prop := x.1 < y.1 ∨ (x.1 = y.1 ∧ x.2 < y.2)
instance {x y : Th} : Decidable (ltT x y) := inferInstanceAs (Decidable (_ ∨ _))
theorem ltT_ir {x : Th} : ¬ ltT x x := by unfold ltT; omega
theorem ltT_tr {x y z : Th} (h1 : ltT x y) (h2 : ltT y z) : ltT x z := by unfold ltT at *; omega
theorem ltT_tot {x y : Th} (h1 : ¬ ltT x y) (h2 : x ≠ y) : ltT y x := by
  unfold ltT at *
  have : ¬ (x.1 = y.1 ∧ x.2 = y.2) := fun q => h2 (Prod.ext q.1 q.2)
  omega
def insU (x : Th) : List Th → List Th
  | [] => [x]
  | y :: l => if ltT x y then x :: y :: l else if x = y then y :: l else y :: insU x l
def lotT (l : List Th) : List Th := l.foldr insU []
theorem mem_insU {x z : Th} : ∀ {l : List Th}, z ∈ insU x l ↔ z = x ∨ z ∈ l
  | [] => by simp [insU]
  | y :: l => by
    unfold insU
    split
    · rw [List.mem_cons]
    · split
      · rename_i e
        subst e
        rw [List.mem_cons]
        constructor
        · exact Or.inr
        · rintro (q | q)
          · exact Or.inl q
          · exact q
      · rw [List.mem_cons, mem_insU, List.mem_cons]
        constructor
        · rintro (q | q | q)
          · exact Or.inr (Or.inl q)
          · exact Or.inl q
          · exact Or.inr (Or.inr q)
        · rintro (q | q | q)
          · exact Or.inr (Or.inl q)
          · exact Or.inl q
          · exact Or.inr (Or.inr q)
theorem asc_insU {x : Th} : ∀ {l : List Th}, l.Pairwise ltT → (insU x l).Pairwise ltT
  | [], _ => by simp [insU]
  | y :: l, h => by
    unfold insU
    have h' := List.pairwise_cons.mp h
    split
    · rename_i e
      refine List.pairwise_cons.mpr ⟨fun z hz => ?_, h⟩
      rcases List.mem_cons.mp hz with rfl | hz
      · exact e
      · exact ltT_tr e (h'.1 z hz)
    · split
      · exact h
      · rename_i e1 e2
        refine List.pairwise_cons.mpr ⟨fun z hz => ?_, asc_insU h'.2⟩
        rcases mem_insU.mp hz with rfl | hz
        · exact ltT_tot e1 e2
        · exact h'.1 z hz
theorem mem_lotT {z : Th} : ∀ {l : List Th}, z ∈ lotT l ↔ z ∈ l
  | [] => Iff.rfl
  | x :: l => by
    show z ∈ insU x (lotT l) ↔ _
    rw [mem_insU, mem_lotT, List.mem_cons]
theorem asc_lotT : ∀ {l : List Th}, (lotT l).Pairwise ltT
  | [] => List.Pairwise.nil
  | x :: l => asc_insU (asc_lotT (l := l))
theorem asc_uniq : ∀ {l m : List Th}, l.Pairwise ltT → m.Pairwise ltT → (∀ x, x ∈ l ↔ x ∈ m) → l = m
  | [], [], _, _, _ => rfl
  | [], b :: m, _, _, h => absurd ((h b).mpr List.mem_cons_self) (by simp)
  | a :: l, [], _, _, h => absurd ((h a).mp List.mem_cons_self) (by simp)
  | a :: l, b :: m, h1, h2, h => by
    rw [List.pairwise_cons] at h1 h2
    have e : a = b := by
      have ha := (h a).mp List.mem_cons_self
      have hb := (h b).mpr List.mem_cons_self
      rw [List.mem_cons] at ha hb
      rcases ha with ha | ha
      · exact ha
      · rcases hb with hb | hb
        · exact hb.symm
        · exact absurd (ltT_tr (h1.1 b hb) (h2.1 a ha)) ltT_ir
    subst e
    have : l = m := asc_uniq h1.2 h2.2 fun x => by
      have hx := h x
      rw [List.mem_cons, List.mem_cons] at hx
      constructor
      · intro hl
        rcases hx.mp (Or.inr hl) with e | e
        · exact absurd (e ▸ h1.1 x hl) ltT_ir
        · exact e
      · intro hm
        rcases hx.mpr (Or.inr hm) with e | e
        · exact absurd (e ▸ h2.1 x hm) ltT_ir
        · exact e
    rw [this]
theorem asc_nodup {l : List Th} (h : l.Pairwise ltT) : l.Nodup := List.Pairwise.imp (R := ltT) (S := fun a b => a ≠ b) (fun {a b} q e => by rw [e] at q; exact ltT_ir q) h
theorem insU_len {x : Th} : ∀ {l : List Th}, (insU x l).length ≤ l.length + 1
  | [] => Nat.le_refl _
  | y :: l => by
    unfold insU
    split
    · exact Nat.le_refl _
    · split
      · simp
      · rw [List.length_cons, List.length_cons]
        have := insU_len (x := x) (l := l)
        omega
theorem lotT_len : ∀ {l : List Th}, (lotT l).length ≤ l.length
  | [] => Nat.le_refl _
  | x :: l => by
    have h1 := lotT_len (l := l)
    have h2 := insU_len (x := x) (l := lotT l)
    show (insU x (lotT l)).length ≤ l.length + 1
    omega
/-- what a way of a thing needs -/
def needsM (B : Bk) (R : List Row) (t : Th) (w : Wy) : List Th := match w with
  | (false, k) => [(t.1, (mAt B.ms k).src)]
  | (true, k) => lotT (List.zip (parts R t.1) (rAt B.rs k).src)
/-- what can be made -/
inductive Mak (B : Bk) (R : List Row) : Th → Prop where
  | mk {t : Th} (w : Wy) : t.1 < R.length → w ∈ waysM B R t → (∀ u ∈ needsM B R t w, Mak B R u) → Mak B R t
theorem Mak.lt {B : Bk} {R : List Row} {t : Th} (g : GoodB B) (h : Mak B R t) : t.1 < R.length ∧ t.2 < B.nk := by
  cases h with
  | mk w h1 h2 _ =>
    refine ⟨h1, ?_⟩
    obtain ⟨b, k⟩ := w
    cases b with
    | false =>
      obtain ⟨a1, a2⟩ := mem_waysF.mp h2
      rw [← a2]
      exact (g.m2 _ (mAt_mem a1)).2.1
    | true =>
      obtain ⟨a1, _, a2⟩ := mem_waysT.mp h2
      rw [← a2]
      exact (g.r2 _ (rAt_mem a1)).2.2.2.1
theorem need_part {B : Bk} {R : List Row} (gr : Good R) {t u : Th} {k : Nat} (h : u ∈ needsM B R t (true, k)) : u.1 < t.1 := by
  have h1 := mem_lotT.mp h
  exact good_lt gr (List.of_mem_zip h1).1
def allT (R : List Row) (nk : Nat) : List Th := (List.range R.length).flatMap fun n => (List.range nk).map fun κ => (n, κ)
theorem mem_allT {R : List Row} {nk : Nat} {t : Th} : t ∈ allT R nk ↔ t.1 < R.length ∧ t.2 < nk := by
  unfold allT
  rw [List.mem_flatMap]
  constructor
  · rintro ⟨n, hn, h⟩
    obtain ⟨κ, hκ, rfl⟩ := List.mem_map.mp h
    exact ⟨List.mem_range.mp hn, List.mem_range.mp hκ⟩
  · rintro ⟨h1, h2⟩
    exact ⟨t.1, List.mem_range.mpr h1, List.mem_map.mpr ⟨t.2, List.mem_range.mpr h2, rfl⟩⟩
theorem asc_rows {nk : Nat} : ∀ {l : List Nat}, l.Pairwise (· < ·) → (l.flatMap fun n => (List.range nk).map fun κ => ((n, κ) : Th)).Pairwise ltT
  | [], _ => List.Pairwise.nil
  | n :: l, h => by
    obtain ⟨h1, h2⟩ := List.pairwise_cons.mp h
    rw [List.flatMap_cons, List.pairwise_append]
    refine ⟨?_, asc_rows h2, fun x hx y hy => ?_⟩
    · rw [List.pairwise_map]
      exact List.pairwise_lt_range.imp fun q => Or.inr ⟨rfl, q⟩
    · obtain ⟨κ, _, rfl⟩ := List.mem_map.mp hx
      obtain ⟨m, hm, hy⟩ := List.mem_flatMap.mp hy
      obtain ⟨κ', _, rfl⟩ := List.mem_map.mp hy
      exact Or.inl (h1 m hm)
theorem asc_allT {R : List Row} {nk : Nat} : (allT R nk).Pairwise ltT := asc_rows List.pairwise_lt_range
open Classical in
/-- the lot of all makeable things -/
noncomputable def makM (B : Bk) (R : List Row) : List Th := (allT R B.nk).filter fun t => decide (Mak B R t)
theorem mem_makM {B : Bk} {R : List Row} (g : GoodB B) {t : Th} : t ∈ makM B R ↔ Mak B R t := by
  classical
  unfold makM
  rw [List.mem_filter, decide_eq_true_eq, mem_allT]
  exact ⟨fun h => h.2, fun h => ⟨h.lt g, h⟩⟩
theorem asc_makM {B : Bk} {R : List Row} : (makM B R).Pairwise ltT := List.Pairwise.filter _ asc_allT
theorem rows_flat_len {nk : Nat} : ∀ {l : List Nat}, (l.flatMap fun n => (List.range nk).map fun κ => ((n, κ) : Th)).length = l.length * nk
  | [] => by simp
  | n :: l => by
    rw [List.flatMap_cons, List.length_append, rows_flat_len, List.length_map, List.length_range, List.length_cons, Nat.add_mul]
    omega
theorem allT_len {R : List Row} {nk : Nat} : (allT R nk).length = R.length * nk := by
  unfold allT
  rw [rows_flat_len, List.length_range]
theorem makM_len {B : Bk} {R : List Row} : (makM B R).length ≤ R.length * B.nk := by
  rw [← allT_len]
  exact List.length_filter_le ..
theorem nodup_len {α : Type} [DecidableEq α] : ∀ {F L : List α}, F.Nodup → (∀ x ∈ F, x ∈ L) → F.length ≤ L.length
  | [], _, _, _ => Nat.zero_le _
  | a :: F, L, h, s => by
    obtain ⟨h1, h2⟩ := List.nodup_cons.mp h
    have ha := s a List.mem_cons_self
    have := nodup_len (F := F) (L := L.erase a) h2 fun x hx => (List.mem_erase_of_ne (fun e => h1 (by rw [← e]; exact hx))).mpr (s x (List.mem_cons_of_mem _ hx))
    rw [List.length_erase_of_mem ha] at this
    have := List.length_pos_of_mem ha
    rw [List.length_cons]
    omega
/-! the keys of a dict of things -/
def insT (F : List Th) (x : Th) : List Th := if x ∈ F then F else F ++ [x]
theorem mem_insT {F : List Th} {x y : Th} : y ∈ insT F x ↔ y ∈ F ∨ y = x := by
  unfold insT
  split
  · rename_i h
    constructor
    · exact Or.inl
    · rintro (a | rfl)
      · exact a
      · exact h
  · rw [List.mem_append, List.mem_singleton]
theorem nodup_insT {F : List Th} {x : Th} (h : F.Nodup) : (insT F x).Nodup := by
  unfold insT
  split
  · exact h
  · rename_i hx
    rw [List.nodup_append]
    refine ⟨h, by simp, ?_⟩
    intro a ha b hb e
    rw [List.mem_singleton] at hb
    subst hb
    subst e
    exact hx ha
/-- only what can be made, each once -/
structure Snd (B : Bk) (R : List Row) (F : List Th) : Prop where
  nd : F.Nodup
  ok : ∀ t ∈ F, Mak B R t
theorem Snd.len {B : Bk} {R : List Row} (g : GoodB B) {F : List Th} (s : Snd B R F) : F.length ≤ R.length * B.nk := by
  rw [← allT_len]
  exact nodup_len s.nd fun t ht => mem_allT.mpr ((s.ok t ht).lt g)
theorem Snd.ins {B : Bk} {R : List Row} {F : List Th} (s : Snd B R F) {t : Th} (h : Mak B R t) : Snd B R (insT F t) := ⟨nodup_insT s.nd, fun u hu => by
  rcases mem_insT.mp hu with q | rfl
  · exact s.ok u q
  · exact h⟩
theorem Snd.nil {B : Bk} {R : List Row} : Snd B R [] := ⟨List.nodup_nil, fun _ h => nomatch h⟩
/-- all of the values below n -/
def Cpl (B : Bk) (R : List Row) (n : Nat) (F : List Th) : Prop := ∀ t : Th, t.1 < n → Mak B R t → t ∈ F
theorem Snd.fin {B : Bk} {R : List Row} (g : GoodB B) {F ys : List Th} (s : Snd B R F) (c : Cpl B R R.length F) (hp : ys.Perm F) (ha : ys.Pairwise ltT) : ys = makM B R :=
  asc_uniq ha asc_makM fun t => by
    rw [hp.mem_iff, mem_makM g]
    exact ⟨s.ok t, fun h => c t (h.lt g).1 h⟩
/-! kinds of one value, by moves -/
structure KSnd (B : Bk) (R : List Row) (n : Nat) (A : List Nat) : Prop where
  nd : A.Nodup
  ok : ∀ κ ∈ A, Mak B R (n, κ)
theorem KSnd.len {B : Bk} {R : List Row} (g : GoodB B) {n : Nat} {A : List Nat} (s : KSnd B R n A) : A.length ≤ B.nk := by
  have := nodup_len (L := List.range B.nk) s.nd fun κ hκ => List.mem_range.mpr ((s.ok κ hκ).lt g).2
  rwa [List.length_range] at this
theorem KSnd.ins {B : Bk} {R : List Row} {n : Nat} {A : List Nat} (s : KSnd B R n A) {κ : Nat} (h : Mak B R (n, κ)) : KSnd B R n (ins A κ) := ⟨nodup_ins s.nd, fun u hu => by
  rcases mem_ins.mp hu with q | rfl
  · exact s.ok u q
  · exact h⟩
def RulesIn (B : Bk) (R : List Row) (n : Nat) (F : List Th) (A : List Nat) (i : Nat) : Prop := ∀ k, k < i → k < B.rs.length → (rAt B.rs k).op = (rowAt R n).1 → (∀ u ∈ List.zip (parts R n) (rAt B.rs k).src, u ∈ F) → (rAt B.rs k).kind ∈ A
def MovesIn (B : Bk) (A : List Nat) (i : Nat) : Prop := ∀ k, k < i → k < B.ms.length → (mAt B.ms k).src ∈ A → (mAt B.ms k).kind ∈ A
theorem kinds_all {B : Bk} {R : List Row} (gr : Good R) {n : Nat} {F : List Th} {A : List Nat} (c : Cpl B R n F) (hr : RulesIn B R n F A B.rs.length) (hm : MovesIn B A B.ms.length) : ∀ {t : Th}, Mak B R t → t.1 = n → t.2 ∈ A := by
  intro t h
  induction h with
  | @mk t w h1 h2 h3 ih =>
    intro e
    obtain ⟨b, k⟩ := w
    cases b with
    | false =>
      obtain ⟨a1, a2⟩ := mem_waysF.mp h2
      have := ih (t.1, (mAt B.ms k).src) (List.mem_singleton.mpr rfl) e
      rw [← a2]
      exact hm k a1 a1 this
    | true =>
      obtain ⟨a1, a2, a3⟩ := mem_waysT.mp h2
      rw [← a3]
      refine hr k a1 a1 (by rw [a2, e]) fun u hu => ?_
      have hu' : u ∈ needsM B R t (true, k) := mem_lotT.mpr (by rw [e]; exact hu)
      exact c u (by have := need_part gr hu'; omega) (h3 u hu')
theorem mak_rule {B : Bk} {R : List Row} {n k : Nat} {F : List Th} (hn : n < R.length) (s : ∀ t ∈ F, Mak B R t) (hk : k < B.rs.length) (ho : (rAt B.rs k).op = (rowAt R n).1) (h : ∀ u ∈ List.zip (parts R n) (rAt B.rs k).src, u ∈ F) : Mak B R (n, (rAt B.rs k).kind) :=
  .mk (true, k) hn (mem_waysT.mpr ⟨hk, ho, rfl⟩) fun u hu => s u (h u (mem_lotT.mp hu))
theorem mak_move {B : Bk} {R : List Row} {n k : Nat} (hn : n < R.length) (hk : k < B.ms.length) (h : Mak B R (n, (mAt B.ms k).src)) : Mak B R (n, (mAt B.ms k).kind) :=
  .mk (false, k) hn (mem_waysF.mpr ⟨hk, rfl⟩) fun u hu => by
    rw [List.mem_singleton.mp hu]
    exact h
/-! by rounds -/
def cnt (nk n : Nat) (F : List Th) : Nat := ((List.range nk).filter fun κ => decide ((n, κ) ∈ F)).length
theorem filter_le {α : Type} {p q : α → Bool} : ∀ {l : List α}, (∀ x ∈ l, p x = true → q x = true) → (l.filter p).length ≤ (l.filter q).length
  | [], _ => Nat.le_refl _
  | a :: l, h => by
    have ih := filter_le (l := l) fun x hx => h x (List.mem_cons_of_mem _ hx)
    have ha := h a List.mem_cons_self
    rw [List.filter_cons, List.filter_cons]
    by_cases hp : p a = true
    · rw [if_pos hp, if_pos (ha hp), List.length_cons, List.length_cons]
      omega
    · rw [if_neg hp]
      split
      · rw [List.length_cons]
        omega
      · exact ih
theorem filter_lt {α : Type} {p q : α → Bool} : ∀ {l : List α} {a : α}, (∀ x ∈ l, p x = true → q x = true) → a ∈ l → q a = true → p a = false → (l.filter p).length < (l.filter q).length
  | b :: l, a, h, ha, hq, hp => by
    have hl : ∀ x ∈ l, p x = true → q x = true := fun x hx => h x (List.mem_cons_of_mem _ hx)
    rw [List.filter_cons, List.filter_cons]
    rcases List.mem_cons.mp ha with rfl | ha
    · rw [if_neg (by rw [hp]; decide), if_pos hq, List.length_cons]
      have := filter_le hl
      omega
    · have ih := filter_lt hl ha hq hp
      have hb := h b List.mem_cons_self
      by_cases hpb : p b = true
      · rw [if_pos hpb, if_pos (hb hpb), List.length_cons, List.length_cons]
        omega
      · rw [if_neg hpb]
        split
        · rw [List.length_cons]
          omega
        · exact ih
theorem cnt_full {nk n : Nat} {F : List Th} (h : nk ≤ cnt nk n F) {κ : Nat} (hκ : κ < nk) : (n, κ) ∈ F := by
  unfold cnt at h
  have h1 := List.length_filter_le (fun κ => decide ((n, κ) ∈ F)) (List.range nk)
  rw [List.length_range] at h1
  have h2 : ((List.range nk).filter fun κ => decide ((n, κ) ∈ F)).length = (List.range nk).length := by rw [List.length_range]; omega
  have h3 := List.length_filter_eq_length_iff.mp h2 κ (List.mem_range.mpr hκ)
  exact of_decide_eq_true h3
def Cp1 (B : Bk) (R : List Row) (n : Nat) (F : List Th) : Prop := ∀ κ, Mak B R (n, κ) → (n, κ) ∈ F
theorem next_one {B : Bk} {R : List Row} (gr : Good R) {n : Nat} {F : List Th} (c : Cpl B R n F) {t : Th} (h : Mak B R t) : t.1 = n → t ∉ F → ∃ κ w, (n, κ) ∉ F ∧ Mak B R (n, κ) ∧ w ∈ waysM B R (n, κ) ∧ ∀ u ∈ needsM B R (n, κ) w, u ∈ F := by
  induction h with
  | @mk t w h1 h2 h3 ih =>
    intro e hn
    obtain ⟨m, κ⟩ := t
    have e' : m = n := e
    subst e'
    by_cases hall : ∀ u ∈ needsM B R (m, κ) w, u ∈ F
    · exact ⟨κ, w, hn, .mk w h1 h2 h3, h2, hall⟩
    · obtain ⟨u, hu⟩ := Classical.not_forall.mp hall
      obtain ⟨hu1, hu2⟩ := Classical.not_imp.mp hu
      refine ih u hu1 ?_ hu2
      obtain ⟨b, k⟩ := w
      cases b with
      | false =>
        rw [List.mem_singleton.mp hu1]
      | true => exact absurd (c u (need_part gr hu1) (h3 u hu1)) hu2
/-- one round -/
theorem turn_step {B : Bk} {R : List Row} (g : GoodB B) (gr : Good R) {n τ : Nat} {F F' : List Th} (c : Cpl B R n F) (h : Cp1 B R n F ∨ τ ≤ cnt B.nk n F) (hs : ∀ t ∈ F, t ∈ F')
    (hc : ∀ κ, κ < B.nk → ∀ w ∈ waysM B R (n, κ), (∀ u ∈ needsM B R (n, κ) w, u ∈ F) → (n, κ) ∈ F') : Cp1 B R n F' ∨ τ + 1 ≤ cnt B.nk n F' := by
  rcases Classical.em (Cp1 B R n F) with q | q
  · exact Or.inl fun κ m => hs _ (q κ m)
  · have h := h.resolve_left q
    obtain ⟨κ, hκ⟩ := Classical.not_forall.mp q
    obtain ⟨h1, h2⟩ := Classical.not_imp.mp hκ
    obtain ⟨κ', w, n1, n2, n3, n4⟩ := next_one gr c h1 rfl h2
    have l := (n2.lt g).2
    have := filter_lt (l := List.range B.nk) (p := fun κ => decide ((n, κ) ∈ F)) (q := fun κ => decide ((n, κ) ∈ F')) (a := κ') (fun x _ hx => decide_eq_true (hs _ (of_decide_eq_true hx))) (List.mem_range.mpr l) (decide_eq_true (hc κ' l w n3 n4)) (decide_eq_false n1)
    refine Or.inr ?_
    unfold cnt at h ⊢
    omega
theorem turns_end {B : Bk} {R : List Row} (g : GoodB B) {n : Nat} {F : List Th} (c : Cpl B R n F) (h : Cp1 B R n F ∨ B.nk ≤ cnt B.nk n F) : Cpl B R (n + 1) F := by
  have h' : Cp1 B R n F := by
    rcases h with h | h
    · exact h
    · exact fun κ m => cnt_full h (m.lt g).2
  intro t ht m
  rcases Nat.lt_or_ge t.1 n with q | q
  · exact c t q m
  · have e : t = (n, t.2) := Prod.ext (by omega) rfl
    rw [e] at m ⊢
    exact h' _ m
/-- a thing can be made just if one of its ways can -/
theorem mak_iff {B : Bk} {R : List Row} {t : Th} (ht : t.1 < R.length) : Mak B R t ↔ ∃ w ∈ waysM B R t, ∀ u ∈ needsM B R t w, Mak B R u :=
  ⟨fun h => by
    cases h with
    | mk w h1 h2 h3 => exact ⟨w, h2, h3⟩, fun ⟨w, h2, h3⟩ => .mk w ht h2 h3⟩
end Lk
/-! dict comprehensions whose keys are tuples: my own rule beside the layer's for ints and texts -/
namespace DcG
open PySem PySem.Spec PyProof.Rows L2
theorem put_any {X : Cx} {pins : List (Addr × Obj)} {σ : L2.St} {H H' : Hp} {s : Shared} {E : Value → Shared → Prop} {D : Addr} {y v : V} {u r : Value} {Q : Unit → Shared → Prop} (hu : X.A.units + 1 < cLine) (I : Inv X pins σ H s) (g : DPut H D y v H')
    (ry : RelV y u) (rv : RelV v r) (q : ∀ s', Inv X pins σ H' s' → Q () s') : wpAny (model X.prog X.w) X.A (dictSet D u r) Q E s := by
  rcases g with ⟨kvs, k, e, ey, l, eH⟩ | ⟨kvs, k, b, e, ey, eb, l, eH⟩
  · subst ey eH
    exact d_dictSet I e l ry rv q
  · subst ey eH
    cases (show u = Value.ref b from ry)
    obtain ⟨z, hd, xs, rel, dd⟩ := dt_of I.hok e
    have z1 : xs.length ≤ sizeLine := by rw [← Paired.length rel]; exact z
    have z2 : (putK kvs k v).length ≤ sizeLine := by
      have := length_putK kvs k v
      omega
    refine wpAny_dictSet_heap (knd := tupleKind (mixKind X.prog X.w)) (hsz := z1) (show X.A.units < cLine by omega) (key_of I.hok eb) dd fun h' dd' hs => q _ ?_
    obtain ⟨ob, es, ep, g1, g2, g3, g4, _, g5⟩ := dd'
    refine d_write I (by rw [e]; exact True.intro) hs ⟨ob, g1⟩ ⟨z2, hd, _, (rel.put k eb rv).keeps fun c ys ec => ?_, ob, es, ep, g1, g2, g3, g4, g5⟩
    rw [upd_ne (ne_of ec e (fun z => nomatch z))]
    exact ec
/-- {k: v for target in iter if ..} with a new dict that begins as o0; each pair is put as DPut says -/
def tDg (o0 : HO) (wi : TI) (g : TG) (tt : TT) (tk tv : TE) (vs : List Nat) : TE := fun σ H Q =>
  wi σ H fun J H1 => ∀ D, H1 D = none → ∃ W : Nat → Nat → Hp → Prop, (∃ m, W 0 m (upd H1 D o0)) ∧ ∀ i m H, W i m H →
    (J.stop i H ∧ Q (.ref D) H) ∨ (J.go i H ∧ ∃ Nx : Hp → Prop, (∀ H', Nx H' → ∃ m', m' < m ∧ W (i + 1) m' H') ∧
      ∀ x H', J.yld i H x H' → g x (wipe σ vs) H' fun σ2 H2 => wipe σ2 vs = wipe σ vs ∧ tt σ2 H2 fun b H3 =>
        if b = true then tk σ2 H3 fun y H4 => tv σ2 H4 fun z H5 => ∃ H6, DPut H5 D y z H6 ∧ Nx H6 else Nx H3)
section
variable {X : Cx}
theorem core {o0 : HO} (emp : ∀ (P : Program) (w : World) (H : Hp) (h : Heap), sysModules < h.objs.size → ObjOk P w H (h.push { cls := .type "dict", data := .dict #[] }) h.objs.size o0)
    {pins : List (Addr × Obj)} {s : Shared} {σ : L2.St} {H : Hp} {Q : VK} {kx vx tg it0 : Expr} {ifs : List Expr} {scp : Scope} {own : List (Str × Nat)} {pos pos' : Pos} {wi : TI} {g : TG} {tt : TT} {tk tv : TE} {use : Option (Value → Sem Unit)} {Qf : Value → Shared → Prop}
    (hu : X.A.units + 1 < cLine) (hc : X.calm = true) (hN : X.N.Nodup) (I : Inv X pins σ H s) (hi : PI X tg it0 wi) (ok : BlkOk X.N X.env.scope scp own)
    (hg : ∀ (s : Shared) (H : Hp) (C : Addr) (cl : List (Str × Addr)) (fp : List Addr), PG (X.blk s H scp (compEnvC scp cl C X.env) fp) tg g)
    (ht : ∀ (s : Shared) (H : Hp) (C : Addr) (cl : List (Str × Addr)) (fp : List Addr), PTs (X.blk s H scp (compEnvC scp cl C X.env) fp) ifs tt)
    (hk : ∀ (s : Shared) (H : Hp) (C : Addr) (cl : List (Str × Addr)) (fp : List Addr), PE (X.blk s H scp (compEnvC scp cl C X.env) fp) kx tk)
    (he : ∀ (s : Shared) (H : Hp) (C : Addr) (cl : List (Str × Addr)) (fp : List Addr), PE (X.blk s H scp (compEnvC scp cl C X.env) fp) vx tv) (hs : ∀ x, foldedSetIterable it0 X.env x = pure x)
    (h : tDg o0 wi g tt tk tv (own.map (·.2)) σ H Q)
    (back : ∀ D C s' m H', Inv X pins σ H' s' → Q (.ref D) H' → s'.heap.Ns C m → FpOk X pins H' C → compPost (model X.prog X.w) X.A X.xe use Qf (.ref D) C (.ok .next) s') :
    wpAny (model X.prog X.w) X.A (comprehension (.DictComp kx vx [⟨tg, it0, ifs, 0⟩] scp pos) scp X.env pos' newDict false (eval it0 X.env) use) Qf X.xe s := by
  have fr : ∀ y ∈ scp.names, y.2 = .free → ∃ c, X.env.cells.lookup y.1 = some c := by
    intro y hy e
    rcases ok.free y hy e with k | k
    · exact I.ok.has _ (Or.inl k)
    · exact I.ok.has _ (Or.inr k)
  refine wpAny_comprehension_free (use := use) rfl hs (closure_ok fr) ok.kind (fun y hy e => by rw [ok.uniq y hy, e]) (thn (hi.run pins s σ H _ I h) fun xv a1 hx => thn hx fun itv a2 h2 => ?_)
  obtain ⟨it, fp, tn, J, Ha, rfl, Ia, T, sta, fa, q⟩ := h2
  refine wpAny_newObj_type (newEnv_comp ?_)
  obtain ⟨D, hD⟩ : ∃ D, a2.heap.objs.size = D := ⟨_, rfl⟩
  rw [hD]
  obtain ⟨W, ⟨m0, w0⟩, turn⟩ := q D (Ia.hok.fresh (Nat.le_of_eq hD))
  obtain ⟨a3, hs3⟩ : ∃ a3 : Shared, ({ a2 with heap := a2.heap.push { cls := .type "dict", data := .dict #[] } } : Shared) = a3 := ⟨_, rfl⟩
  rw [hs3]
  have Ib : Inv X pins σ (upd Ha D o0) a3 := by
    rw [← hs3]
    refine Ia.laid (t' := a2.toks) (fun b o e => Heap.get?_push_of_some _ e) (Nat.le_of_eq hD) ?_
    rw [← hD]
    exact emp _ _ _ a2.heap Ia.big
  have hh3 : a3.heap = a2.heap.push { cls := .type "dict", data := .dict #[] } := by rw [← hs3]
  have sz : ∀ b ∈ fp, b < a2.heap.objs.size := by
    intro b hb
    obtain ⟨o, e, _⟩ := T.obj _ _ sta b hb
    exact Heap.lt_size e
  have fb : ∀ b ∈ fp, FpOk X pins (upd Ha D o0) b ∧ b < a3.heap.objs.size := by
    intro b hb
    have hlt := sz b hb
    refine ⟨⟨?_, (fa b hb).2⟩, by rw [hh3, Heap.size_push]; exact Nat.lt_succ_of_lt hlt⟩
    rw [upd_ne (by rw [← hD]; exact Nat.ne_of_lt hlt)]
    exact (fa b hb).1
  have stb : tn 0 a3.heap := T.keep _ _ _ sta fun b _ o e => by
    rw [hh3]
    exact Heap.get?_push_of_some _ e
  have Ic := block_start Ib ok hN fb
  have rg := hg a3 (upd Ha D o0) a3.heap.objs.size (cellsFrom (a3.heap.objs.size + 1) scp.names (cloFrom X.env.cells scp.names [])) fp
  have rt := ht a3 (upd Ha D o0) a3.heap.objs.size (cellsFrom (a3.heap.objs.size + 1) scp.names (cloFrom X.env.cells scp.names [])) fp
  have rk := hk a3 (upd Ha D o0) a3.heap.objs.size (cellsFrom (a3.heap.objs.size + 1) scp.names (cloFrom X.env.cells scp.names [])) fp
  have rv := he a3 (upd Ha D o0) a3.heap.objs.size (cellsFrom (a3.heap.objs.size + 1) scp.names (cloFrom X.env.cells scp.names [])) fp
  show codeAny _ _ (.compStart (.DictComp kx vx [⟨tg, it0, ifs, 0⟩] scp pos) 0 (.ref it) (.ref D) (compEnvC scp (cellsFrom (a3.heap.objs.size + 1) scp.names (cloFrom X.env.cells scp.names [])) a3.heap.objs.size X.env))
    (compPost (model X.prog X.w) X.A X.xe use Qf (.ref D) a3.heap.objs.size) { a3 with heap := pushCells (a3.heap.push { cls := .type "dict", data := .dict #[] }) scp.names }
  have nb : ∀ b ∈ fp, (upd Ha D o0) b = none := fun b hb => (fb b hb).1.1
  generalize hce : compEnvC scp (cellsFrom (a3.heap.objs.size + 1) scp.names (cloFrom X.env.cells scp.names [])) a3.heap.objs.size X.env = ce at Ic rg rt rk rv ⊢
  have cl : ce.locals = a3.heap.objs.size := by
    subst hce
    rfl
  generalize hHb : upd Ha D o0 = Hb at Ib Ic rg rt rk rv w0 nb fb
  generalize hs4 : ({ a3 with heap := pushCells (a3.heap.push { cls := .type "dict", data := .dict #[] }) scp.names } : Shared) = a4 at Ic ⊢
  have stc : tn 0 a4.heap := T.keep _ _ _ stb fun b _ o e => by
    rw [← hs4]
    exact pushCells_keeps _ _ _ _ (Heap.get?_push_of_some _ e)
  have stat : ∀ {σ' : L2.St} {H' : Hp} {s' : Shared}, Inv (X.blk a3 Hb scp ce fp) [] σ' H' s' → (∀ b ∈ fp, H' b = none) → ∀ b ∈ fp, FpOk (X.blk a3 Hb scp ce fp) [] H' b := by
    intro σ' H' s' I' hn b hb
    exact ⟨hn b hb, (I'.ok.exf b hb).1, I'.ok.exfs b hb, .inl hb, fun x c e => (I'.ok.exf b hb).2 x c e, fun p hp => absurd (show p ∈ ([] : List (Addr × Obj)) ++ [] from hp) (by simp)⟩
  have loop : codeAny (model X.prog X.w) X.A (.compLoop (.DictComp kx vx [⟨tg, it0, ifs, 0⟩] scp pos) 0 (.ref it) (.ref D) ce) (compPost (model X.prog X.w) X.A X.xe use Qf (.ref D) a3.heap.objs.size) a4 := by
    refine compLoop_anyD (fun n s' => ∃ i H', Inv (X.blk a3 Hb scp ce fp) [] (wipe σ (own.map (·.2))) H' s' ∧ tn i s'.heap ∧ (∀ b ∈ fp, H' b = none) ∧ W i n H') ?_ m0 ⟨0, Hb, Ic, stc, nb, w0⟩
    intro n a5 hall
    obtain ⟨i, H5, I5, st5, n5, w5⟩ := hall
    rcases turn i n H5 w5 with ⟨stop, qq⟩ | ⟨go, Nx, hNx, step⟩
    · refine thnF (T.done (X.blk a3 Hb scp ce fp) rfl rfl rfl hc i [] a5 _ H5 (fun _ _ => False) I5 (stat I5 n5) st5 stop) fun r a6 z => ?_
      obtain ⟨rfl, I6⟩ := z
      have I7 : Inv X pins σ H5 a6 := Ib.call' (ch := fp) I6.os I6.base I6.hok I6.bare fun b hb => ⟨(fb b hb).1.2.2.2.1, (fb b hb).1.2.1, (fb b hb).1.2.2.2.2.1, (fb b hb).1.2.2.2.2.2⟩
      have nC : H5 a3.heap.objs.size = none := cl ▸ (show H5 ce.locals = none from I6.free)
      obtain ⟨m, hn, _⟩ := I6.loc
      have hn : a6.heap.Ns ce.locals m := hn
      rw [cl] at hn
      exact back D a3.heap.objs.size a6 m H5 I7 qq hn (Ib.fpOk (Nat.le_refl _) nC)
    · refine thnF (T.item (X.blk a3 Hb scp ce fp) rfl rfl rfl hc i [] a5 _ H5 (fun _ _ => False) I5 (stat I5 n5) st5 go) fun r a6 z => ?_
      obtain ⟨u, rfl, h6⟩ := z
      refine thnF h6 fun _ a7 z => ?_
      obtain ⟨x, H7, I7, r7, y7, st7, n7⟩ := z
      have I7p := I7.pinned (stat I7 n7) (T.obj _ _ st7)
      refine thnF (rg.run _ a7 _ H7 x u _ I7p r7 (step x H7 y7)) fun _ a8 z => ?_
      obtain ⟨σ8, H8, I8, hw8, q8⟩ := z
      refine thnF (rt.run _ a8 σ8 H8 _ I8 q8) fun b a9 z => ?_
      obtain ⟨H9, I9, q9⟩ := z
      have fin : ∀ {s' : Shared} {H' : Hp}, Inv (X.blk a3 Hb scp ce fp) ([] ++ pinsAt fp a7.heap) σ8 H' s' → Nx H' → ∃ m, m < n ∧ ∃ i H', Inv (X.blk a3 Hb scp ce fp) [] (wipe σ (own.map (·.2))) H' s' ∧ tn i s'.heap ∧ (∀ b ∈ fp, H' b = none) ∧ W i m H' := by
        intro s' H' I' nx
        obtain ⟨m', hm, w'⟩ := hNx H' nx
        have pin : ∀ b ∈ fp, ∀ o, a7.heap.get? b = some o → s'.heap.get? b = some o ∧ H' b = none := by
          intro b hb o e
          have z := I'.pin (b, o) (List.mem_append_right _ (List.mem_append_right _ (mem_pinsAt hb e)))
          exact ⟨z.1, z.2.1⟩
        have hl : (wipe σ (own.map (·.2))).length = σ8.length := by rw [← hw8, wipe_length]
        refine ⟨m', hm, i + 1, H', (I'.unpinned (pins := [])).weak hl (fun j v e => ?_), T.keep _ _ _ st7 fun b hb o e => (pin b hb o e).1, fun b hb => ?_, w'⟩
        · rw [← hw8] at e
          exact (wipe_some e).1
        · obtain ⟨o, e, _⟩ := T.obj _ _ st7 b hb
          exact (pin b hb o e).2
      cases b with
      | false =>
        simp only [Bool.false_eq_true, if_false] at q9 ⊢
        exact fin I9 q9
      | true =>
        simp only [if_true] at q9 ⊢
        refine thnF (rk.run _ a9 σ8 H9 _ I9 q9) fun z aa zz => ?_
        obtain ⟨yk, Hc, Icc, rc, qc⟩ := zz
        refine thnF (rv.run _ aa σ8 Hc _ Icc qc) fun z2 ab zz => ?_
        obtain ⟨yv, Hd, Idd, rd, He, dp, nx⟩ := zz
        exact put_any (X := X.blk a3 Hb scp ce fp) hu Idd dp rc rd fun ac Iac => fin Iac nx
  exact codeAny_compStart_dict loop (T.self X.A 0 _ _ _ stc loop)
theorem pe_dcT {kx vx tg it0 : Expr} {ifs : List Expr} {scp : Scope} {own : List (Str × Nat)} {pos : Pos} {wi : TI} {g : TG} {tt : TT} {tk tv : TE} (hu : X.A.units + 1 < cLine) (hc : X.calm = true) (hN : X.N.Nodup) (hi : PI X tg it0 wi) (ok : BlkOk X.N X.env.scope scp own)
    (hg : ∀ (s : Shared) (H : Hp) (C : Addr) (cl : List (Str × Addr)) (fp : List Addr), PG (X.blk s H scp (compEnvC scp cl C X.env) fp) tg g)
    (ht : ∀ (s : Shared) (H : Hp) (C : Addr) (cl : List (Str × Addr)) (fp : List Addr), PTs (X.blk s H scp (compEnvC scp cl C X.env) fp) ifs tt)
    (hk : ∀ (s : Shared) (H : Hp) (C : Addr) (cl : List (Str × Addr)) (fp : List Addr), PE (X.blk s H scp (compEnvC scp cl C X.env) fp) kx tk)
    (he : ∀ (s : Shared) (H : Hp) (C : Addr) (cl : List (Str × Addr)) (fp : List Addr), PE (X.blk s H scp (compEnvC scp cl C X.env) fp) vx tv) (hs : ∀ x, foldedSetIterable it0 X.env x = pure x := by intro _; rfl) :
    PE X (.DictComp kx vx [⟨tg, it0, ifs, 0⟩] scp pos) (tDg (.dT []) wi g tt tk tv (own.map (·.2))) := by
  refine ⟨fun pins s σ H Q I h => ?_⟩
  rw [arm_eval_DictComp]
  refine core (fun _ _ _ h hb => dt_empty h hb) hu hc hN I hi ok hg ht hk he hs h fun D C s' m H' I' q hn f => ⟨m, hn, fun h2 sb => ?_⟩
  obtain ⟨f0, f1, f2, f3, f4, f5⟩ := f
  exact ⟨.ref D, H', I'.turned (t' := s'.toks) (fun b o hb e => (sb.2 b hb).trans e) f0 f1 f3 f4 f5, rfl, q⟩
end
theorem dg_it {o0 : HO} {J : It} {n : Nat} {G : Hp → Prop} {Y : Nat → Hp → V → Hp → Prop} (w : Walk J n G Y) {g : TG} {tt : TT} {tk tv : TE} {vs : List Nat} {σ : L2.St} {H1 : Hp} {D : Addr} {Qd : Hp → Prop} (Pv : Nat → Hp → Prop) (h0 : Pv 0 (upd H1 D o0)) (hG : ∀ i H, i ≤ n → Pv i H → G H)
    (hs : ∀ i x H H', i < n → Pv i H → Y i H x H' → g x (wipe σ vs) H' fun σ2 H2 => wipe σ2 vs = wipe σ vs ∧ tt σ2 H2 fun b H3 => if b = true then tk σ2 H3 fun y H4 => tv σ2 H4 fun z H5 => ∃ H6, DPut H5 D y z H6 ∧ Pv (i + 1) H6 else Pv (i + 1) H3) (hd : ∀ H, Pv n H → Qd H) :
    ∃ W : Nat → Nat → Hp → Prop, (∃ m, W 0 m (upd H1 D o0)) ∧ ∀ i m H, W i m H → (J.stop i H ∧ Qd H) ∨ (J.go i H ∧ ∃ Nx : Hp → Prop, (∀ H', Nx H' → ∃ m', m' < m ∧ W (i + 1) m' H') ∧
      ∀ x H', J.yld i H x H' → g x (wipe σ vs) H' fun σ2 H2 => wipe σ2 vs = wipe σ vs ∧ tt σ2 H2 fun b H3 => if b = true then tk σ2 H3 fun y H4 => tv σ2 H4 fun z H5 => ∃ H6, DPut H5 D y z H6 ∧ Nx H6 else Nx H3) := by
  refine ⟨fun i m H => m = n - i ∧ i ≤ n ∧ Pv i H, ⟨n, by simp, Nat.zero_le _, h0⟩, ?_⟩
  intro i m H hW
  obtain ⟨em, hi, p⟩ := hW
  subst em
  by_cases hlt : i < n
  · exact Or.inr ⟨w.goes i H hlt (hG i H hi p), Pv (i + 1), fun H' p' => ⟨n - (i + 1), by omega, rfl, hlt, p'⟩, fun x H' y => hs i x H H' hlt p (w.yields i H x H' hlt (hG i H hi p) y)⟩
  · have e : i = n := by omega
    subst e
    exact Or.inl ⟨w.stops H (hG i H hi p), hd H p⟩
end DcG
/-! zip of two tuples whose pairs are kept by a name: my own rule beside the layer's for pairs that are unpacked -/
namespace ZpN
open PySem PySem.Spec PyProof.Rows L2
/-- a zip that may have a pair of its own out -/
def At (h : Heap) (z TI TO : Addr) : Prop := ∃ (o1 : Value) (f : Bool), (o1 = .none ∨ ∃ T : Addr, o1 = rawInt T) ∧ h.get? z = some { cls := .type "zip", dict := none, data := .fields #[o1, .bool f, .bool false, .ref TI, .ref TO], slots := #[] }
section
variable {prog : Program} {w : World} {A : Around} {E : Value → Shared → Prop} {s : Shared}
theorem alive {a : Addr} {Q : Option Obj → Shared → Prop} (q : Q (s.heap.get? a) s) : wpAny (model prog w) A (loadIfAlive a) Q E s := fun _ _ _ => q
theorem isFree {z TI TO : Addr} {Q : Bool → Shared → Prop} (hz : At s.heap z TI TO) (q1 : Q true s) (q2 : ∀ h', At h' z TI TO → Heap.SameBut z s.heap h' → Q false { s with heap := h' }) :
    wpAny (model prog w) A (Builtin.SmallTypes.ownedTupleIsFree (.ref z)) Q E s := by
  obtain ⟨o1, f, ho, hz⟩ := hz
  unfold Builtin.SmallTypes.ownedTupleIsFree
  refine wpAny_bind (wpAny_field hz rfl (x := o1) rfl ?_)
  rcases ho with rfl | ⟨T, rfl⟩
  · exact wpAny_pure q1
  · show wpAny _ _ (loadIfAlive ((T : Int).toNat) >>= _) _ _ _
    rw [Int.toNat_natCast]
    refine wpAny_bind (alive ?_)
    cases s.heap.get? T with
    | none =>
      simp only [Option.isNone_none, if_true]
      exact wpAny_pure q1
    | some oT =>
      simp only [Option.isNone_some, Bool.false_eq_true, if_false]
      refine wpAny_bind (wpAny_field hz rfl (x := .bool f) rfl ?_)
      cases f with
      | true =>
        rw [if_neg (show ¬ ((Value.bool true != Value.bool true) = true) from Bool.false_ne_true)]
        exact wpAny_pure (q2 s.heap ⟨_, _, Or.inr ⟨T, rfl⟩, hz⟩ (Heap.SameBut.refl _ _))
      | false =>
        rw [if_pos (show (Value.bool false != Value.bool true) = true from rfl)]
        exact wpAny_bind (wpAny_setField_rec hz (by simp) fun h1 hz1 hs1 => wpAny_pure (q2 h1 ⟨_, _, Or.inr ⟨T, rfl⟩, hz1⟩ hs1))
/-- the next pair, a new tuple -/
theorem next1 {z TI TO i1 i2 l1 l2 : Addr} {k1 k2 : Nat} {xs ys : Array Value} {x y a b : Value} {Q : Value → Shared → Prop} (D : ZipApart z TI TO i1 i2 l1 l2)
    (hz : At s.heap z TI TO) (hTI : IsPair s.heap TI (.ref i1) (.ref i2)) (hTO : IsPair s.heap TO a b) (h1 : s.heap.IsTupleIter i1 l1 k1) (h2 : s.heap.IsTupleIter i2 l2 k2)
    (hl1 : s.heap.IsTuple l1 xs) (hl2 : s.heap.IsTuple l2 ys) (hx : xs[k1]? = some x) (hy : ys[k2]? = some y)
    (q : ∀ h', At h' z TI TO → (∃ a b, IsPair h' TO a b) → h'.IsTupleIter i1 l1 (k1 + 1) → h'.IsTupleIter i2 l2 (k2 + 1) → IsPair h' s.heap.objs.size x y → h'.objs.size = s.heap.objs.size + 1 →
      (∀ c o, c ≠ z → c ≠ TO → c ≠ i1 → c ≠ i2 → s.heap.get? c = some o → h'.get? c = some o) → Q (.ref s.heap.objs.size) { s with heap := h' }) :
    wpAny (model prog w) A (Builtin.«zip.__next__» ⟨[.ref z], []⟩) (fun fin s' => ∃ v, fin = .done (.ret v) ∧ Q v s') E s := by
  obtain ⟨o1, f, ho, hzz⟩ := id hz
  show wpAny _ _ (field (.ref z) 2 >>= _) _ _ _
  refine wpAny_bind (wpAny_field hzz rfl (x := .bool false) rfl ?_)
  show wpAny _ _ (field (.ref z) 3 >>= _) _ _ _
  refine wpAny_bind (wpAny_field hzz rfl (x := .ref TI) rfl ?_)
  refine wpAny_bind (wpAny_seqItems hTI rfl ?_)
  show wpAny _ _ (Builtin.SmallTypes.ownedTupleIsFree (.ref z) >>= _) _ _ _
  refine wpAny_bind (isFree hz ?_ fun g1 hz1 sb1 => ?_)
  · simp only [if_true]
    refine wpAny_bind (wpAny_rule (wpAny_bind (wpAny_field hzz rfl (x := .ref TO) rfl (wpAny_bind (wpAny_setField_rec hzz (by simp) fun g1 hz1 sb1 => ?_)))))
    refine wpAny_bind ?_
    simp only [List.zipIdx_cons, List.zipIdx_nil, List.forIn_cons, List.forIn_nil]
    refine wpAny_bind (wpAny_bind (wpAny_onRaise ?_))
    show wpAny _ _ (Builtin.SmallTypes.nextOf (.ref i1) >>= _) _ _ _
    refine wpAny_bind (wpAny_nextOf_tuple_item (h1.extBut sb1.extBut D.i1z) (hl1.extBut sb1.extBut D.l1z) hx fun g2 n1 sb2 => wpAny_pure ?_)
    have t2 : IsPair g2 TO a b := sb2.extBut _ _ D.TOi1 (sb1.extBut _ _ D.TOz hTO)
    refine wpAny_bind (wpAny_seqItems t2 rfl (wpAny_bind (wpAny_updateSeq_pair t2 fun g3 t3 sb3 => wpAny_bind (wpAny_letGo (wpAny_pure ?_)))))
    replace t3 : IsPair g3 TO x b := t3
    refine wpAny_bind (wpAny_bind (wpAny_onRaise ?_))
    show wpAny _ _ (Builtin.SmallTypes.nextOf (.ref i2) >>= _) _ _ _
    refine wpAny_bind (wpAny_nextOf_tuple_item (((h2.extBut sb1.extBut D.i2z).extBut sb2.extBut D.i12.symm).extBut sb3.extBut D.TOi2.symm) (((hl2.extBut sb1.extBut D.l2z).extBut sb2.extBut D.l2i1).extBut sb3.extBut D.l2TO) hy fun g4 n2 sb4 => wpAny_pure ?_)
    have t4 : IsPair g4 TO x b := sb4.extBut _ _ D.TOi2 t3
    refine wpAny_bind (wpAny_seqItems t4 rfl (wpAny_bind (wpAny_updateSeq_pair t4 fun g5 t5 sb5 => wpAny_bind (wpAny_letGo (wpAny_pure (wpAny_pure ?_))))))
    replace t5 : IsPair g5 TO x y := t5
    refine wpAny_bind (wpAny_seqItems t5 rfl (wpAny_bind (wpAny_newTuple ?_)))
    have sz : g5.objs.size = s.heap.objs.size := by rw [sb5.1, sb4.1, sb3.1, sb2.1, sb1.1]
    have z5 := sb5.extBut _ _ D.TOz.symm (sb4.extBut _ _ D.i2z.symm (sb3.extBut _ _ D.TOz.symm (sb2.extBut _ _ D.i1z.symm hz1)))
    have k5 : ∀ c o, c ≠ z → c ≠ TO → c ≠ i1 → c ≠ i2 → s.heap.get? c = some o → g5.get? c = some o := fun c o c1 c2 c3 c4 e =>
      sb5.extBut _ _ c2 (sb4.extBut _ _ c4 (sb3.extBut _ _ c2 (sb2.extBut _ _ c3 (sb1.extBut _ _ c1 e))))
    have m1 : g5.IsTupleIter i1 l1 (k1 + 1) := ((n1.extBut sb3.extBut D.TOi1.symm).extBut sb4.extBut D.i12).extBut sb5.extBut D.TOi1.symm
    have m2 : g5.IsTupleIter i2 l2 (k2 + 1) := n2.extBut sb5.extBut D.TOi2.symm
    have zl : z < g5.objs.size := Heap.lt_size z5
    show wpAny _ _ (Builtin.SmallTypes.ownedTupleHandOut (.ref z) (.ref g5.objs.size) >>= _) _ _ _
    refine wpAny_bind ?_
    unfold Builtin.SmallTypes.ownedTupleHandOut
    have z6 := Heap.get?_push_of_some (h := g5) { cls := .type "tuple", data := .seq #[x, y] } z5
    refine wpAny_bind (wpAny_setField_rec z6 (by simp) fun g7 z7 sb7 => wpAny_setField_rec z7 (by simp) fun g8 z8 sb8 => wpAny_pure ⟨_, rfl, ?_⟩)
    have up : ∀ c o, c ≠ z → g5.get? c = some o → g8.get? c = some o := fun c o c1 e => sb8.extBut _ _ c1 (sb7.extBut _ _ c1 (Heap.get?_push_of_some _ e))
    have T8 : IsPair g8 g5.objs.size x y := sb8.extBut _ _ (Nat.ne_of_gt zl) (sb7.extBut _ _ (Nat.ne_of_gt zl) (Heap.get?_push_size _ rfl))
    have s8 : g8.objs.size = g5.objs.size + 1 := by rw [sb8.1, sb7.1, Heap.size_push]
    rw [sz] at T8 s8
    show Q (.ref g5.objs.size) _
    rw [sz]
    exact q g8 ⟨_, _, Or.inr ⟨_, rfl⟩, z8⟩ ⟨_, _, up _ _ D.TOz t5⟩ (m1.at fun o e => up _ o D.i1z e) (m2.at fun o e => up _ o D.i2z e) T8 s8 fun c o c1 c2 c3 c4 e => up c o c1 (k5 c o c1 c2 c3 c4 e)
  · simp only [Bool.false_eq_true, if_false]
    refine wpAny_bind ?_
    rw [← Array.forIn_toList]
    simp only [List.forIn_cons, List.forIn_nil]
    refine wpAny_bind (wpAny_bind (wpAny_holding ?_))
    show wpAny _ _ (Builtin.SmallTypes.nextOf (.ref i1) >>= _) _ _ _
    refine wpAny_bind (wpAny_nextOf_tuple_item (s := { s with heap := g1 }) (h1.extBut sb1.extBut D.i1z) (hl1.extBut sb1.extBut D.l1z) hx fun g2 n1 sb2 => wpAny_pure (wpAny_pure ?_))
    refine wpAny_bind (wpAny_bind (wpAny_holding ?_))
    show wpAny _ _ (Builtin.SmallTypes.nextOf (.ref i2) >>= _) _ _ _
    refine wpAny_bind (wpAny_nextOf_tuple_item (s := { s with heap := g2 }) ((h2.extBut sb1.extBut D.i2z).extBut sb2.extBut D.i12.symm) ((hl2.extBut sb1.extBut D.l2z).extBut sb2.extBut D.l2i1) hy fun g3 n2 sb3 => wpAny_pure (wpAny_pure (wpAny_pure ?_)))
    show wpAny _ _ (newTuple [x, y] >>= _) _ _ _
    refine wpAny_bind (wpAny_newTuple ?_)
    have sz : g3.objs.size = s.heap.objs.size := by rw [sb3.1, sb2.1, sb1.1]
    have k3 : ∀ c o, c ≠ z → c ≠ i1 → c ≠ i2 → s.heap.get? c = some o → g3.get? c = some o := fun c o c1 c3 c4 e => sb3.extBut _ _ c4 (sb2.extBut _ _ c3 (sb1.extBut _ _ c1 e))
    obtain ⟨p1, f1, hp1, z1⟩ := hz1
    have z3 := sb3.extBut _ _ D.i2z.symm (sb2.extBut _ _ D.i1z.symm z1)
    have hp : IsPair (g3.push { cls := .type "tuple", data := .seq #[x, y] }) g3.objs.size x y := Heap.get?_push_size _ rfl
    have s4 : (g3.push { cls := .type "tuple", data := .seq #[x, y] }).objs.size = g3.objs.size + 1 := Heap.size_push ..
    refine wpAny_pure ⟨_, rfl, ?_⟩
    show Q (.ref g3.objs.size) _
    rw [sz] at hp s4 ⊢
    exact q _ ⟨p1, f1, hp1, Heap.get?_push_of_some _ z3⟩ ⟨_, _, Heap.get?_push_of_some _ (k3 _ _ D.TOz D.TOi1 D.TOi2 hTO)⟩ ((n1.extBut sb3.extBut D.i12).at fun o e => Heap.get?_push_of_some _ e) (n2.at fun o e => Heap.get?_push_of_some _ e) hp s4
      fun c o c1 _ c3 c4 e => Heap.get?_push_of_some _ (k3 c o c1 c3 c4 e)
/-- no further pair -/
theorem end1 {z TI TO i1 i2 l1 l2 : Addr} {k1 k2 : Nat} {xs ys : Array Value} {a b : Value} {Q : Fin → Shared → Prop} (hh : A.handled = none) (D : ZipApart z TI TO i1 i2 l1 l2)
    (hz : At s.heap z TI TO) (hTI : IsPair s.heap TI (.ref i1) (.ref i2)) (hTO : IsPair s.heap TO a b) (h1 : s.heap.IsTupleIter i1 l1 k1) (h2 : s.heap.IsTupleIter i2 l2 k2)
    (hl1 : s.heap.IsTuple l1 xs) (hl2 : s.heap.IsTuple l2 ys) (hend : xs[k1]? = none ∨ ys[k2]? = none)
    (qE : ∀ h' e, (∀ c o, c ≠ z → c ≠ TO → c ≠ i1 → c ≠ i2 → s.heap.get? c = some o → h'.get? c = some o) → (∃ o, h'.get? e = some o ∧ o.cls = .type "StopIteration") → E (.ref e) { s with heap := h' }) :
    wpAny (model prog w) A (Builtin.«zip.__next__» ⟨[.ref z], []⟩) Q E s := by
  obtain ⟨o1, f, ho, hzz⟩ := id hz
  show wpAny _ _ (field (.ref z) 2 >>= _) _ _ _
  refine wpAny_bind (wpAny_field hzz rfl (x := .bool false) rfl ?_)
  show wpAny _ _ (field (.ref z) 3 >>= _) _ _ _
  refine wpAny_bind (wpAny_field hzz rfl (x := .ref TI) rfl ?_)
  refine wpAny_bind (wpAny_seqItems hTI rfl ?_)
  show wpAny _ _ (Builtin.SmallTypes.ownedTupleIsFree (.ref z) >>= _) _ _ _
  refine wpAny_bind (isFree hz ?_ fun g1 hz1 sb1 => ?_)
  · simp only [if_true]
    refine wpAny_bind (wpAny_rule (wpAny_bind (wpAny_field hzz rfl (x := .ref TO) rfl (wpAny_bind (wpAny_setField_rec hzz (by simp) fun g1 hz1 sb1 => ?_)))))
    refine wpAny_bind ?_
    simp only [List.zipIdx_cons, List.zipIdx_nil, List.forIn_cons, List.forIn_nil]
    refine wpAny_bind (wpAny_bind (wpAny_onRaise ?_))
    show wpAny _ _ (Builtin.SmallTypes.nextOf (.ref i1) >>= _) _ _ _
    cases hx : xs[k1]? with
    | none =>
      refine wpAny_bind (wpAny_nextOf_tuple_end hh (h1.extBut sb1.extBut D.i1z) (hl1.extBut sb1.extBut D.l1z) hx fun g2 e sb2 he => ?_)
      obtain ⟨oe, hoe, hce⟩ := he
      have z2 := sb2 _ _ D.i1z.symm hz1
      have ez : e ≠ z := fun x => by
        subst x
        rw [z2] at hoe
        cases hoe
        exact absurd (Value.type.inj hce) (by decide)
      exact wpAny_setField_rec z2 (by simp) fun g3 _ sb3 => qE g3 e (fun c o c1 _ c3 _ x => sb3.extBut _ _ c1 (sb2 _ _ c3 (sb1.extBut _ _ c1 x))) ⟨oe, sb3.extBut _ _ ez hoe, hce⟩
    | some x =>
      have hy : ys[k2]? = none := by
        rcases hend with h | h
        · rw [hx] at h
          cases h
        · exact h
      refine wpAny_bind (wpAny_nextOf_tuple_item (h1.extBut sb1.extBut D.i1z) (hl1.extBut sb1.extBut D.l1z) hx fun g2 n1 sb2 => wpAny_pure ?_)
      have t2 : IsPair g2 TO a b := sb2.extBut _ _ D.TOi1 (sb1.extBut _ _ D.TOz hTO)
      refine wpAny_bind (wpAny_seqItems t2 rfl (wpAny_bind (wpAny_updateSeq_pair t2 fun g3 t3 sb3 => wpAny_bind (wpAny_letGo (wpAny_pure ?_)))))
      refine wpAny_bind (wpAny_bind (wpAny_onRaise ?_))
      show wpAny _ _ (Builtin.SmallTypes.nextOf (.ref i2) >>= _) _ _ _
      refine wpAny_bind (wpAny_nextOf_tuple_end hh (((h2.extBut sb1.extBut D.i2z).extBut sb2.extBut D.i12.symm).extBut sb3.extBut D.TOi2.symm) (((hl2.extBut sb1.extBut D.l2z).extBut sb2.extBut D.l2i1).extBut sb3.extBut D.l2TO) hy fun g4 e sb4 he => ?_)
      obtain ⟨oe, hoe, hce⟩ := he
      have z4 := sb4 _ _ D.i2z.symm (sb3.extBut _ _ D.TOz.symm (sb2.extBut _ _ D.i1z.symm hz1))
      have ez : e ≠ z := fun x => by
        subst x
        rw [z4] at hoe
        cases hoe
        exact absurd (Value.type.inj hce) (by decide)
      exact wpAny_setField_rec z4 (by simp) fun g5 _ sb5 => qE g5 e (fun c o c1 c2 c3 c4 x => sb5.extBut _ _ c1 (sb4 _ _ c4 (sb3.extBut _ _ c2 (sb2.extBut _ _ c3 (sb1.extBut _ _ c1 x))))) ⟨oe, sb5.extBut _ _ ez hoe, hce⟩
  · simp only [Bool.false_eq_true, if_false]
    refine wpAny_bind ?_
    rw [← Array.forIn_toList]
    simp only [List.forIn_cons, List.forIn_nil]
    refine wpAny_bind (wpAny_bind (wpAny_holding ?_))
    show wpAny _ _ (Builtin.SmallTypes.nextOf (.ref i1) >>= _) _ _ _
    cases hx : xs[k1]? with
    | none => exact wpAny_bind (wpAny_nextOf_tuple_end (s := { s with heap := g1 }) hh (h1.extBut sb1.extBut D.i1z) (hl1.extBut sb1.extBut D.l1z) hx fun g2 e sb2 he => qE g2 e (fun c o c1 _ c3 _ x => sb2 _ _ c3 (sb1.extBut _ _ c1 x)) he)
    | some x =>
      have hy : ys[k2]? = none := by
        rcases hend with h | h
        · rw [hx] at h
          cases h
        · exact h
      refine wpAny_bind (wpAny_nextOf_tuple_item (s := { s with heap := g1 }) (h1.extBut sb1.extBut D.i1z) (hl1.extBut sb1.extBut D.l1z) hx fun g2 n1 sb2 => wpAny_pure (wpAny_pure ?_))
      refine wpAny_bind (wpAny_bind (wpAny_holding ?_))
      show wpAny _ _ (Builtin.SmallTypes.nextOf (.ref i2) >>= _) _ _ _
      exact wpAny_bind (wpAny_nextOf_tuple_end (s := { s with heap := g2 }) hh ((h2.extBut sb1.extBut D.i2z).extBut sb2.extBut D.i12.symm) ((hl2.extBut sb1.extBut D.l2z).extBut sb2.extBut D.l2i1) hy
        fun g3 e sb3 he => qE g3 e (fun c o c1 _ c3 c4 x => sb3 _ _ c4 (sb2.extBut _ _ c3 (sb1.extBut _ _ c1 x))) he)
theorem nextP {z TI TO i1 i2 l1 l2 : Addr} {k1 k2 : Nat} {xs ys : Array Value} {x y a b : Value} {Q : Option Value → Shared → Prop} (D : ZipApart z TI TO i1 i2 l1 l2)
    (hz : At s.heap z TI TO) (hTI : IsPair s.heap TI (.ref i1) (.ref i2)) (hTO : IsPair s.heap TO a b) (h1 : s.heap.IsTupleIter i1 l1 k1) (h2 : s.heap.IsTupleIter i2 l2 k2)
    (hl1 : s.heap.IsTuple l1 xs) (hl2 : s.heap.IsTuple l2 ys) (hx : xs[k1]? = some x) (hy : ys[k2]? = some y)
    (q : ∀ h', At h' z TI TO → (∃ a b, IsPair h' TO a b) → h'.IsTupleIter i1 l1 (k1 + 1) → h'.IsTupleIter i2 l2 (k2 + 1) → IsPair h' s.heap.objs.size x y → h'.objs.size = s.heap.objs.size + 1 →
      (∀ c o, c ≠ z → c ≠ TO → c ≠ i1 → c ≠ i2 → s.heap.get? c = some o → h'.get? c = some o) → Q (some (.ref s.heap.objs.size)) { s with heap := h' }) :
    wpAny (model prog w) A (pyNext (.ref z)) Q E s := by
  have ty : s.TypeIs (.ref z) "zip" := by
    obtain ⟨_, _, _, e⟩ := hz
    exact ⟨_, e, rfl⟩
  unfold pyNext
  exact wpAny_bind (wpAny_attempt (wpAny_callSpecial?_slot (name := Str.ofString "__next__") ty F.slot_zip_next (wpAny_call_entry F.slot_zip_next ty F.entry_zip_next
    (next1 D hz hTI hTO h1 h2 hl1 hl2 hx hy fun h' a1 a2 a3 a4 a5 a6 a7 => wpAny_pure (q h' a1 a2 a3 a4 a5 a6 a7)) (F.args_zip_next_1 _))))
theorem endP {z TI TO i1 i2 l1 l2 : Addr} {k1 k2 : Nat} {xs ys : Array Value} {a b : Value} {Q : Option Value → Shared → Prop} (hh : A.handled = none) (D : ZipApart z TI TO i1 i2 l1 l2)
    (hz : At s.heap z TI TO) (hTI : IsPair s.heap TI (.ref i1) (.ref i2)) (hTO : IsPair s.heap TO a b) (h1 : s.heap.IsTupleIter i1 l1 k1) (h2 : s.heap.IsTupleIter i2 l2 k2)
    (hl1 : s.heap.IsTuple l1 xs) (hl2 : s.heap.IsTuple l2 ys) (hend : xs[k1]? = none ∨ ys[k2]? = none)
    (q : ∀ h', (∀ c o, c ≠ z → c ≠ TO → c ≠ i1 → c ≠ i2 → s.heap.get? c = some o → h'.get? c = some o) → Q none { s with heap := h' }) : wpAny (model prog w) A (pyNext (.ref z)) Q E s := by
  have ty : s.TypeIs (.ref z) "zip" := by
    obtain ⟨_, _, _, e⟩ := hz
    exact ⟨_, e, rfl⟩
  unfold pyNext
  refine wpAny_bind (wpAny_attempt (wpAny_callSpecial?_slot (name := Str.ofString "__next__") ty F.slot_zip_next (wpAny_call_entry F.slot_zip_next ty F.entry_zip_next
    (end1 hh D hz hTI hTO h1 h2 hl1 hl2 hend fun h' e hk he => ?_) (F.args_zip_next_1 _))))
  obtain ⟨o, ho, hc⟩ := he
  exact wpAny_bind (wpAny_isInstance (T := "StopIteration") (b := true) ⟨o, ho, hc⟩ isSubtype_stop (wpAny_pure (q _ hk)))
end
theorem iterZ {prog : Program} {w : World} {A : Around} {E : Value → Shared → Prop} {s : Shared} {z TI TO : Addr} {o1 : Value} {f : Bool} {Q : Value → Shared → Prop}
    (hz : s.heap.get? z = some { cls := .type "zip", dict := none, data := .fields #[o1, .bool f, .bool false, .ref TI, .ref TO], slots := #[] }) (h : Q (.ref z) s) : wpAny (model prog w) A (pyIter (.ref z)) Q E s := by
  have ty : s.TypeIs (.ref z) "zip" := ⟨_, hz, rfl⟩
  refine wpAny_pyIter_slot ty F.slot_zip_iter (wpAny_call_entry F.slot_zip_iter ty F.entry_zip_iter ?_ (F.args_zip_iter_1 _))
  exact wpAny_pure ⟨_, rfl, "zip", _, ty, F.slot_zip_next.lookup, h⟩
/-- the turns, each pair kept whole by a name -/
theorem turnN {P : Program} {w : World} {K : PySem.W.Frag} {n : Str} {npos : Pos} {a b z TI TO i1 i2 : Addr} (D : ZipApart z TI TO i1 i2 a b) :
    Turn P w K (.Name n npos) (RZ.ItzT K a b) [z, TI, TO, i1, i2] z (fun i h => At h z TI TO ∧ IsPair h TI (.ref i1) (.ref i2) ∧ (∃ x y, IsPair h TO x y) ∧ h.IsTupleIter i1 a i ∧ h.IsTupleIter i2 b i) where
  mem := by simp
  obj := by
    intro i h st c hc
    obtain ⟨⟨_, _, _, hz⟩, hTI, ⟨x, y, hTO⟩, ⟨o1, e1, _, d1⟩, ⟨o2, e2, _, d2⟩⟩ := st
    have z : c = z ∨ c = TI ∨ c = TO ∨ c = i1 ∨ c = i2 := by simpa using hc
    rcases z with q | q | q | q | q <;> subst q
    · exact ⟨_, hz, fun v q => nomatch q⟩
    · exact ⟨_, hTI, fun v q => nomatch q⟩
    · exact ⟨_, hTO, fun v q => nomatch q⟩
    · exact ⟨o1, e1, fun v q => by rw [d1] at q; cases q⟩
    · exact ⟨o2, e2, fun v q => by rw [d2] at q; cases q⟩
  keep := by
    intro i h h' st k
    obtain ⟨⟨o1, f, ho, hz⟩, hTI, ⟨x, y, hTO⟩, h1, h2⟩ := st
    exact ⟨⟨o1, f, ho, k z (by simp) _ hz⟩, k TI (by simp) _ hTI, ⟨x, y, k TO (by simp) _ hTO⟩, h1.at fun o q => k i1 (by simp) o q, h2.at fun o q => k i2 (by simp) o q⟩
  item := by
    intro X hP hw hK hc i pins s σ H E I hf st hg
    subst hP hw hK
    obtain ⟨hz, hTI, ⟨x0, y0, hTO⟩, h1, h2⟩ := st
    obtain ⟨xs, ys, x, y, hqx, hqy, hx, hy⟩ := hg
    obtain ⟨its, rv, p, _⟩ := I.tuple hqx
    obtain ⟨its2, rv2, p2, _⟩ := I.tuple hqy
    obtain ⟨u, hu, ru⟩ := rv.get hx
    obtain ⟨u2, hu2, ru2⟩ := rv2.get hy
    have zl : z < s.heap.objs.size := by
      obtain ⟨_, _, _, e⟩ := hz
      exact Heap.lt_size e
    refine nextP D hz hTI hTO h1 h2 p p2 (x := u) (y := u2) (by simpa using hu) (by simpa using hu2) fun h' z' TO' h1' h2' hT hsz hk => ?_
    have new : ObjOk X.prog X.w (upd H s.heap.objs.size (.tup [x, y])) h' s.heap.objs.size (.tup [x, y]) := ⟨(by decide : 2 ≤ sizeLine), [u, u2], .cons ru (.cons ru2 .nil), ⟨_, hT, rfl, _, rfl⟩⟩
    have I1 : Inv X pins σ (upd H s.heap.objs.size (.tup [x, y])) { s with heap := h' } :=
      I.turnedNew (t' := s.toks) (ch := [z, TI, TO, i1, i2]) (fun c o hb q => hk c o (fun q' => hb (by simp [q'])) (fun q' => hb (by simp [q'])) (fun q' => hb (by simp [q'])) (fun q' => hb (by simp [q'])) q) hf (Nat.le_refl _) new
    refine ⟨_, rfl, ?_⟩
    refine wpAny_pure ⟨.ref s.heap.objs.size, _, I1, rfl, ⟨_, x, y, rfl, I.hok.fresh (Nat.le_refl _), rfl, fun l hl => by rw [I.tuple_inj hl hqx]; exact hx, fun l hl => by rw [I.tuple_inj hl hqy]; exact hy⟩, ⟨z', hk _ _ D.TIz D.TITO D.TIi1 D.TIi2 hTI, TO', h1', h2'⟩, fun c hcm => ?_⟩
    have hlt : c < s.heap.objs.size := by
      have e : c = z ∨ c = TI ∨ c = TO ∨ c = i1 ∨ c = i2 := by simpa using hcm
      rcases e with q | q | q | q | q <;> rw [q]
      · exact zl
      · exact Heap.lt_size hTI
      · exact Heap.lt_size hTO
      · obtain ⟨_, e1, _⟩ := h1
        exact Heap.lt_size e1
      · obtain ⟨_, e2, _⟩ := h2
        exact Heap.lt_size e2
    rw [upd_ne (Nat.ne_of_lt hlt)]
    exact (hf c hcm).1
  done := by
    intro X hP hw hK hc i pins s σ H E I hf st hg
    subst hP hw hK
    obtain ⟨hz, hTI, ⟨x0, y0, hTO⟩, h1, h2⟩ := st
    obtain ⟨xs, ys, hqx, hqy, hend⟩ := hg
    obtain ⟨its, rv, p, _⟩ := I.tuple hqx
    obtain ⟨its2, rv2, p2, _⟩ := I.tuple hqy
    have e1 := rv.length
    have e2 := rv2.length
    have he : its.toArray[i]? = none ∨ its2.toArray[i]? = none := by
      rcases hend with q | q
      · exact .inl (by simp; omega)
      · exact .inr (by simp; omega)
    exact endP (I.ok.hd hc) D hz hTI hTO h1 h2 p p2 he fun h' hk => ⟨rfl, I.turnedL (t' := s.toks) (ch := [z, TI, TO, i1, i2]) (fun c o hb q =>
      hk c o (fun q' => hb (by simp [q'])) (fun q' => hb (by simp [q'])) (fun q' => hb (by simp [q'])) (fun q' => hb (by simp [q'])) q) hf⟩
  self := by
    intro A i s Q E st h
    obtain ⟨⟨o1, f, ho, hz⟩, _⟩ := st
    exact iterZ hz h
def iZipN (K : PySem.W.Frag) (ta : TA) : TI := fun σ H R => ta σ H fun vs H1 => ∃ a b xs ys, vs = [.ref a, .ref b] ∧ SqT K H1 a xs ∧ SqT K H1 b ys ∧ R (RZ.ItzT K a b) H1
theorem pi_zipN {X : Cx} {e e2 : Expr} {ta : TA} {p pos npos : Pos} {n : Str} (hg : Gl X "zip") (hm : X.mg "zip" = none) (ha : PA X [e, e2] ta)
    (hs : starEach [e, e2] X.env = (false, eval e X.env) :: starEach [e2] X.env := by rfl) (hpl : (backTo pos (starEach [e2] X.env)).any (·.1) = false := by rfl) :
    PI X (.Name n npos) (.Call (.Name "zip" p) [e, e2] [] pos) (iZipN X.K ta) := by
  refine ⟨fun pins s σ H R I h => ?_⟩
  refine Call_ (ld_blt I hg hm PyProof.Rows.boot_zip (PyProof.Rows.callWith_type1 (thn (ha.run pos pins s σ H _ I h) fun us s1 ⟨vs, H1, I1, r1, q1⟩ => ?_) hs hpl))
  obtain ⟨a, b, xs, ys, rfl, hqx, hqy, q⟩ := q1
  obtain ⟨u1, u2, rfl, r, r'⟩ := vals2 r1
  cases r
  cases r'
  have fr : ∀ c, c ∈ [s1.heap.objs.size + 4, s1.heap.objs.size + 2, s1.heap.objs.size + 3, s1.heap.objs.size, s1.heap.objs.size + 1] → FpOk X pins H1 c := by
    intro c hcm
    have e : c = s1.heap.objs.size + 4 ∨ c = s1.heap.objs.size + 2 ∨ c = s1.heap.objs.size + 3 ∨ c = s1.heap.objs.size ∨ c = s1.heap.objs.size + 1 := by simpa using hcm
    have hle : s1.heap.objs.size ≤ c := by
      rcases e with z | z | z | z | z <;> rw [z]
      · exact Nat.le_add_right _ _
      · exact Nat.le_add_right _ _
      · exact Nat.le_add_right _ _
      · exact Nat.le_refl _
      · exact Nat.le_add_right _ _
    exact I1.fpOk hle (I1.hok.fresh hle)
  obtain ⟨its, rv, p1, _⟩ := I1.tuple hqx
  obtain ⟨its2, rv2, p2, _⟩ := I1.tuple hqy
  obtain ⟨o1, ho1, _⟩ := id p1
  obtain ⟨o2, ho2, _⟩ := id p2
  refine RZ.call_zipT (show s1.heap.IsTuple a its.toArray from p1) (show s1.heap.IsTuple b its2.toArray from p2) fun h' hz hTI hTO h1 h2 hsz hk => wpAny_pyIter_zip hz ?_
  have I2 : Inv X pins σ H1 { s1 with heap := h' } := I1.kept (t' := s1.toks) hk
  exact ⟨s1.heap.objs.size + 4, [s1.heap.objs.size + 4, s1.heap.objs.size + 2, s1.heap.objs.size + 3, s1.heap.objs.size, s1.heap.objs.size + 1], _, _, H1, rfl, I2, turnN (PySem.W.ktu_apart s1.heap.objs.size a b (Heap.lt_size ho1) (Heap.lt_size ho2)),
    ⟨⟨_, _, Or.inl rfl, hz⟩, hTI, ⟨_, _, hTO⟩, h1, h2⟩, fr, q⟩
theorem walkT {K : PySem.W.Frag} {a b : Addr} {xs ys : List V} (hl : xs.length = ys.length) : Walk (RZ.ItzT K a b) xs.length (fun H => SqT K H a xs ∧ SqT K H b ys) (YPair (fun i => xs[i]?) (fun i => ys[i]?)) := by
  refine ⟨fun i _ hi q => ?_, fun _ q => ⟨xs, ys, q.1, q.2, Or.inl (Nat.le_refl _)⟩, fun i H v H' _ q y => ?_⟩
  · have h2 : i < ys.length := by omega
    exact ⟨xs, ys, xs[i], ys[i], q.1, q.2, List.getElem?_eq_getElem hi, List.getElem?_eq_getElem h2⟩
  · obtain ⟨T, x, y, e1, e2, e3, e4, e5⟩ := y
    exact ⟨T, x, y, e1, e2, e3, e4 xs q.1, e5 ys q.2⟩
end ZpN
/-! sorted of a dict whose keys are pairs of ints: my own rule beside the layer's list(d) and sorted(xs) -/
namespace SoP
open PySem PySem.Spec PyProof.Rows L2
variable {X : Cx}
def rSortDP : List V → Hp → VK → Prop := fun xs H Q => ∃ (a : Addr) (kvs : List (List Key × V)), xs = [.ref a] ∧ Rd H a (.dT kvs) ∧ (∀ e ∈ kvs, ∃ i j : Int, e.1 = [.inl i, .inl j]) ∧
  ∀ (bs : List Addr) (kf : V → Int × Int) (ys : List V) (p : Addr), IsKeys H kvs bs → (∀ v ∈ bs.map V.ref, ∃ t, v = V.ref t ∧ H t = some (.tup [.int (kf v).1, .int (kf v).2])) → SrtO.Srtd (ltP kf) ys → SrtO.Stb (ltP kf) ys (bs.map V.ref) → H p = none → Q (.ref p) (upd H p (.lst ys))
def keyOf (H : Hp) (v : V) : Int × Int := match v with
  | .ref t => match H t with
    | some (.tup [.int i, .int j]) => (i, j)
    | _ => (0, 0)
  | _ => (0, 0)
theorem keyed {H : Hp} {t : Addr} {i j : Int} (h : H t = some (.tup [.int i, .int j])) : keyOf H (.ref t) = (i, j) := by
  show (match H t with
    | some (.tup [.int i, .int j]) => (i, j)
    | _ => (0, 0)) = _
  rw [h]
theorem all_keyed {H : Hp} : ∀ {kvs : List (List Key × V)} {bs : List Addr}, IsKeys H kvs bs → (∀ e ∈ kvs, ∃ i j : Int, e.1 = [.inl i, .inl j]) → ∀ v ∈ bs.map V.ref, ∃ t, v = V.ref t ∧ H t = some (.tup [.int (keyOf H v).1, .int (keyOf H v).2])
  | _, _, .nil, _, v, hv => absurd hv (by simp)
  | _, _, .cons (a := e) (b := b) hb r, hk, v, hv => by
    rcases List.mem_cons.mp hv with rfl | hv
    · obtain ⟨i, j, ek⟩ := hk e List.mem_cons_self
      rw [ek] at hb
      have hb' : H b = some (.tup [.int i, .int j]) := hb
      refine ⟨b, rfl, ?_⟩
      rw [keyed hb']
      exact hb'
    · exact all_keyed r (fun e he => hk e (List.mem_cons_of_mem _ he)) v hv
theorem call_sortDP (hc : X.calm = true) : CallR X (.builtin "sorted") rSortDP := by
  intro pins s σ H xs us Q I r h
  obtain ⟨a, kvs, rfl, hd, hks, q⟩ := h
  obtain ⟨u, rfl, rx⟩ := vals1 r
  cases rx
  obtain ⟨z, hs, ks, pr, o, es, ep, ho, hx, hdt, he, hn⟩ := (show ObjOk X.prog X.w H s.heap a (.dT kvs) from hd.ok I.hok)
  have l1 : es.size = ks.length := size_of_entries he
  have l2 : kvs.length = ks.length := Paired.length pr
  refine Calls.call_function_entry PyProof.Rows.kind_sorted PyProof.Rows.plain_sorted PyProof.Rows.entry_sorted (PyProof.Rows.args_sorted1 _) ?_
  unfold Builtin.«sorted»
  refine wpAny_bind (m := checkCount "sorted" 1 1 _) (wpAny_pure ?_)
  refine wpAny_bind (PySem.W.kdu_collect (A := X.A.in1) (kdl_raw hs hx hdt) (I.ok.hd hc) ho (by omega) fun h' tk acc hk hacc => ?_)
  have ea : acc.toList = ks.map fun x => Value.ref x.2.1 := by
    have hl : acc.toList.length = ks.length := by rw [Array.length_toList, hacc.1]; exact l1
    apply List.ext_getElem?
    intro j
    rw [List.getElem?_map]
    cases hj : acc.toList[j]? with
    | none =>
      have h1 := List.getElem?_eq_none_iff.mp hj
      rw [List.getElem?_eq_none (by omega)]
      all_goals rfl
    | some v =>
      obtain ⟨en, hen, hv⟩ := hacc.2 j v (by rw [← Array.getElem?_toList]; exact hj)
      have qe := entry_at he j
      rw [hen] at qe
      cases hb : ks[j]? with
      | none =>
        rw [hb] at qe
        exact nomatch (show some en = none from qe)
      | some b =>
        rw [hb] at qe
        have e2 : en = entryOfKey (tupleKind (mixKind X.prog X.w)) b := Option.some.inj qe
        rw [hv, e2]
        all_goals rfl
  have eb : acc.toList = (ks.map fun x => x.2.1).map Value.ref := by rw [ea, List.map_map]; all_goals rfl
  have hK : IsKeys H kvs (ks.map fun x => x.2.1) := isKeys_of pr
  have hkf := all_keyed hK hks
  have I1 : Inv X pins σ H { s with heap := h', toks := tk } := I.kept hk
  have hal : acc.toList.length = kvs.length := by rw [eb, List.length_map, List.length_map, l2]
  have hsz : acc.toList.length ≤ sizeLine := by rw [hal]; exact z
  have back : ∀ v ∈ acc.toList, ∃ t, v = Value.ref t ∧ V.ref t ∈ (ks.map fun x => x.2.1).map V.ref := fun v hv => by
    rw [eb] at hv
    obtain ⟨t, ht, rfl⟩ := List.mem_map.mp hv
    exact ⟨t, rfl, List.mem_map.mpr ⟨t, ht, rfl⟩⟩
  have hp : ∀ v ∈ acc.toList, Srt.IsPair h' v (keyOf H (backV v)).1 (keyOf H (backV v)).2 := fun v hv => by
    obtain ⟨t, rfl, hm⟩ := back v hv
    obtain ⟨t', e, ht⟩ := hkf _ hm
    cases e
    obtain ⟨_, its2, r2, o, ho, hc, n, hd⟩ := I1.hok _ _ ht
    obtain ⟨u1, u2, rfl, ri, rj⟩ := vals2 r2
    obtain ⟨t1, rfl⟩ := ri
    obtain ⟨t2, rfl⟩ := rj
    exact ⟨t, o, t1, t2, n, rfl, ho, hc, hd⟩
  refine wpAny_bind (wpAny_newList ?_ (by simpa using hsz))
  have hoL : (h'.push (seqObj "list" acc.toList.toArray 0)).get? h'.objs.size = some (seqObj "list" acc.toList.toArray 0) := Heap.get?_push_size _ rfl
  show wpAny _ _ _ _ _ { s with heap := h'.push (seqObj "list" acc.toList.toArray 0), toks := tk }
  refine wpAny_bind (wpAny_holding (wpAny_call_entry PyProof.Rows.slot_list_sort ⟨_, hoL, rfl⟩ PyProof.Rows.entry_list_sort
    (SrtO.list_sort_ord (s := { s with heap := h'.push (seqObj "list" acc.toList.toArray 0), toks := tk }) (SrtO.swo_lex fun u => keyOf H (backV u)) hoL hsz (fun h2 => ?_) fun out g1 g2 => ⟨_, rfl, ?_⟩) (PyProof.Rows.args_list_sort _)))
  · refine SrtO.pairs_sortableO (s := { s with heap := h'.push (seqObj "list" acc.toList.toArray 0), toks := tk }) (by omega) (fun v hm => (hp v hm).keeps fun b o e _ => Heap.get?_push_of_some _ e) fun o e => ?_
    have e' : some o = some (seqObj "list" acc.toList.toArray 0) := e.symm.trans hoL
    cases e'
    intro c
    exact absurd (Value.type.inj c) (by decide)
  have h3 : ∀ u ∈ out, ∃ a, u = Value.ref a := fun u hu => by
    obtain ⟨t, e, _⟩ := back u (g2.perm.mem_iff.mp hu)
    exact ⟨t, e⟩
  have ebk : (ks.map fun x => x.2.1).map V.ref = acc.toList.map backV := by
    rw [eb]
    simp only [List.map_map]
    exact List.map_congr_left fun _ _ => rfl
  have hb : SrtO.Stb (ltP (keyOf H)) (out.map backV) ((ks.map fun x => x.2.1).map V.ref) := by
    rw [ebk]
    exact SrtO.Stb.map (ltP_swo (keyOf H)) backV g2
  obtain ⟨e', he'⟩ := PyProof.Rows.sortedHeap_at (vs := acc.toList) (out := out.toArray) hoL
  have hlen : (out.map backV).length ≤ sizeLine := by
    rw [List.length_map, g2.len]
    exact hsz
  refine wpAny_pure ⟨_, rfl, .ref h'.objs.size, upd H h'.objs.size (.lst (out.map backV)), I1.laid (t' := tk) (fun b u e => ?_) (Nat.le_refl _)
    (show ObjOk X.prog X.w _ _ _ (.lst (out.map backV)) from ⟨hlen, out, e', vals_back h3, he'⟩), rfl, q _ _ _ _ hK hkf (SrtO.srtd_map g1) hb (I1.hok.fresh (Nat.le_refl _))⟩
  have hb : b < h'.objs.size := Heap.lt_size e
  rw [PyProof.Rows.sortedHeap_old (Nat.ne_of_lt hb) (by rw [size_push']; exact Nat.lt_succ_of_lt hb)]
  exact Heap.get?_push_of_some _ e
end SoP
namespace Lk
open PySem PySem.Spec PyProof.Rows L2
section
/-! x in xs, xs a list or a tuple of data; two rules for one comparison -/
variable {X : Cx}
def rInQ (K : PySem.W.Frag) : R2 := fun x y H Q => ∃ d ds, Dp K H x d ∧ Dp K H y (.tuple ds) ∧ SeqAt.shaped d = true ∧ SeqAt.shaped (.tuple ds) = true ∧ Q (.bl (ds.any fun z => PyData.eqv z d)) H
def rNotInQ (K : PySem.W.Frag) : R2 := fun x y H Q => ∃ d ds, Dp K H x d ∧ Dp K H y (.tuple ds) ∧ SeqAt.shaped d = true ∧ SeqAt.shaped (.tuple ds) = true ∧ Q (.bl (!ds.any fun z => PyData.eqv z d)) H
theorem op_inQ (hu : X.A.units + 65 < cLine) : OpR X (compareOp .In) (rInQ X.K) := by
  intro pins s σ H x y v u Q I rx ry h
  obtain ⟨d, ds, hd, he, sd, se, q⟩ := h
  obtain ⟨as, r1⟩ := Dp.reads I d x v hd rx
  obtain ⟨bs, r2⟩ := Dp.reads I (.tuple ds) y u he ry
  exact SeqAt.in_tuple_reads r2 r1 (SeqAt.canLay_of_shaped se) (SeqAt.canLay_of_shaped sd) (room_in_shaped sd hu) ⟨.bl _, H, I, rfl, q⟩
theorem op_notInQ (hu : X.A.units + 65 < cLine) : OpR X (compareOp .NotIn) (rNotInQ X.K) := by
  intro pins s σ H x y v u Q I rx ry h
  obtain ⟨d, ds, hd, he, sd, se, q⟩ := h
  obtain ⟨as, r1⟩ := Dp.reads I d x v hd rx
  obtain ⟨bs, r2⟩ := Dp.reads I (.tuple ds) y u he ry
  exact SeqAt.notIn_tuple_reads r2 r1 (SeqAt.canLay_of_shaped se) (SeqAt.canLay_of_shaped sd) (room_in_shaped sd hu) ⟨.bl _, H, I, rfl, q⟩
theorem pc_both {i o : Expr} {op : CmpOp} {t1 t2 : TE} (h1 : PC X op i o t1) (h2 : PC X op i o t2) : PC X op i o (fun σ H Q => t1 σ H Q ∨ t2 σ H Q) :=
  ⟨fun pins s σ H Q I h => h.elim (h1.run pins s σ H Q I) (h2.run pins s σ H Q I)⟩
end
section
/-! tuples stay -/
variable {K : PySem.W.Frag}
structure TT (K : PySem.W.Frag) (H H' : Hp) : Prop where
  d : ∀ b ys, H b = some (.tup ys) → H' b = some (.tup ys)
  t : ∀ b ys, SqT K H b ys → SqT K H' b ys
theorem TT.refl (H : Hp) : TT K H H := ⟨fun _ _ h => h, fun _ _ h => h⟩
theorem TT.trans {H H1 H2 : Hp} (x : TT K H H1) (y : TT K H1 H2) : TT K H H2 := ⟨fun b ys h => y.d b ys (x.d b ys h), fun b ys h => y.t b ys (x.t b ys h)⟩
theorem Tk.tt {H H' : Hp} (x : Tk H H') : TT K H H' := ⟨fun b ys h => x _ _ (fun _ z => nomatch z) h, fun _ _ h => x.t h⟩
theorem Same_tt {H H' : Hp} (x : Same H H') : TT K H H' := (Tk.of x).tt
theorem tt_upd {H : Hp} {p : Addr} {u o : HO} (h : H p = some u) (n1 : ∀ ys, HO.tup ys ≠ u) (n2 : ∀ o' v, HO.frz o' v ≠ u) : TT K H (upd H p o) where
  d := fun b ys q => by rw [upd_ne (ne_of q h (n1 _))]; exact q
  t := fun b ys q => by
    rcases q with (q | ⟨o', q⟩) | q
    · exact .inl (.inl (by rw [upd_ne (ne_of q h (n1 _))]; exact q))
    · exact .inl (.inr ⟨o', by rw [upd_ne (ne_of q h (n2 _ _))]; exact q⟩)
    · exact .inr q
theorem tt_dT {H : Hp} {p : Addr} {kvs : List (List Key × V)} {o : HO} (h : H p = some (.dT kvs)) : TT K H (upd H p o) := tt_upd h (fun _ z => nomatch z) (fun _ _ z => nomatch z)
theorem tt_dK {H : Hp} {p : Addr} {kvs : List (Key × V)} {o : HO} (h : H p = some (.dK kvs)) : TT K H (upd H p o) := tt_upd h (fun _ z => nomatch z) (fun _ _ z => nomatch z)
theorem tt_lst {H : Hp} {p : Addr} {xs : List V} {o : HO} (h : H p = some (.lst xs)) : TT K H (upd H p o) := tt_upd h (fun _ z => nomatch z) (fun _ _ z => nomatch z)
theorem tt_new {H : Hp} {p : Addr} {o : HO} (h : H p = none) : TT K H (upd H p o) := Same_tt (same_new h)
/-! items one by one -/
def PL {α : Type} (P : V → α → Prop) (vs : List V) (xs : List α) : Prop := vs.length = xs.length ∧ ∀ (i : Nat) v x, vs[i]? = some v → xs[i]? = some x → P v x
variable {α : Type} {P P' : V → α → Prop} {vs ws : List V} {xs ys : List α}
theorem PL.nil : PL P [] [] := ⟨rfl, fun _ _ _ h => nomatch h⟩
theorem PL.mono (h : PL P vs xs) (m : ∀ v x, P v x → P' v x) : PL P' vs xs := ⟨h.1, fun i v x a b => m v x (h.2 i v x a b)⟩
theorem PL.at (h : PL P vs xs) {i : Nat} {x : α} (hx : xs[i]? = some x) : ∃ v, vs[i]? = some v ∧ P v x := by
  have hi := (List.getElem?_eq_some_iff.mp hx).1
  have hi' : i < vs.length := by rw [h.1]; exact hi
  exact ⟨vs[i], List.getElem?_eq_getElem hi', h.2 i _ _ (List.getElem?_eq_getElem hi') hx⟩
theorem PL.at' (h : PL P vs xs) {i : Nat} {v : V} (hv : vs[i]? = some v) : ∃ x, xs[i]? = some x ∧ P v x := by
  have hi := (List.getElem?_eq_some_iff.mp hv).1
  have hi' : i < xs.length := by rw [← h.1]; exact hi
  exact ⟨xs[i], List.getElem?_eq_getElem hi', h.2 i _ _ hv (List.getElem?_eq_getElem hi')⟩
theorem PL.app (h : PL P vs xs) (k : PL P ws ys) : PL P (vs ++ ws) (xs ++ ys) := by
  refine ⟨by rw [List.length_append, List.length_append, h.1, k.1], fun i v x a b => ?_⟩
  by_cases hi : i < vs.length
  · rw [List.getElem?_append_left hi] at a
    rw [List.getElem?_append_left (by rw [← h.1]; exact hi)] at b
    exact h.2 i v x a b
  · rw [List.getElem?_append_right (by omega)] at a
    rw [List.getElem?_append_right (by rw [← h.1]; omega), ← h.1] at b
    exact k.2 _ v x a b
theorem PL.one {v : V} {x : α} (h : P v x) : PL P [v] [x] := ⟨rfl, fun i u y a b => by
  cases i with
  | zero =>
    cases a
    cases b
    exact h
  | succ i => exact nomatch (show ([] : List V)[i]? = some u from a)⟩
theorem PL.snoc {v : V} {x : α} (h : PL P vs xs) (k : P v x) : PL P (vs ++ [v]) (xs ++ [x]) := h.app (.one k)
theorem PL.take (h : PL P vs xs) (n : Nat) : PL P (vs.take n) (xs.take n) := by
  refine ⟨by rw [List.length_take, List.length_take, h.1], fun i v x a b => ?_⟩
  by_cases hi : i < n
  · rw [List.getElem?_take_of_lt hi] at a b
    exact h.2 i v x a b
  · rw [List.getElem?_take_eq_none (by omega)] at a
    cases a
/-! the data of books, things, ways -/
def wd (b : Bool) : Str := if b = true then "rule" else "move"
def RuleV (K : PySem.W.Frag) (H : Hp) (v : V) (r : Rl) : Prop := ∃ p q, v = .ref p ∧ SqT K H p [nv r.op, .ref q, nv r.kind, nv r.cost] ∧ IT K H q r.src
def MoveV (K : PySem.W.Frag) (H : Hp) (v : V) (m : Mv) : Prop := ∃ p, v = .ref p ∧ SqT K H p [nv m.src, nv m.kind, nv m.cost]
def WayV (K : PySem.W.Frag) (H : Hp) (v : V) (w : Wy) : Prop := ∃ p, v = .ref p ∧ SqT K H p [.str (wd w.1), nv w.2]
def ThV (H : Hp) (v : V) (t : Th) : Prop := ∃ p, v = .ref p ∧ H p = some (.tup [nv t.1, nv t.2])
theorem RuleV.tt {H H' : Hp} {v : V} {r : Rl} (x : TT K H H') (h : RuleV K H v r) : RuleV K H' v r := by
  obtain ⟨p, q, e, h1, h2⟩ := h
  exact ⟨p, q, e, x.t _ _ h1, x.t _ _ h2⟩
theorem MoveV.tt {H H' : Hp} {v : V} {r : Mv} (x : TT K H H') (h : MoveV K H v r) : MoveV K H' v r := by
  obtain ⟨p, e, h1⟩ := h
  exact ⟨p, e, x.t _ _ h1⟩
theorem WayV.tt {H H' : Hp} {v : V} {r : Wy} (x : TT K H H') (h : WayV K H v r) : WayV K H' v r := by
  obtain ⟨p, e, h1⟩ := h
  exact ⟨p, e, x.t _ _ h1⟩
theorem ThV.tt {H H' : Hp} {v : V} {r : Th} (x : TT K H H') (h : ThV H v r) : ThV H' v r := by
  obtain ⟨p, e, h1⟩ := h
  exact ⟨p, e, x.d _ _ h1⟩
def RulesT (K : PySem.W.Frag) (H : Hp) (p : Addr) (rs : List Rl) : Prop := ∃ vs, SqT K H p vs ∧ PL (RuleV K H) vs rs
def MovesT (K : PySem.W.Frag) (H : Hp) (p : Addr) (ms : List Mv) : Prop := ∃ vs, SqT K H p vs ∧ PL (MoveV K H) vs ms
def ThsT (K : PySem.W.Frag) (H : Hp) (p : Addr) (ts : List Th) : Prop := ∃ vs, SqT K H p vs ∧ PL (ThV H) vs ts
def WaysL (K : PySem.W.Frag) (H : Hp) (l : Addr) (ws : List Wy) : Prop := ∃ vs, H l = some (.lst vs) ∧ PL (WayV K H) vs ws
theorem RulesT.tt {H H' : Hp} {p : Addr} {rs : List Rl} (x : TT K H H') (h : RulesT K H p rs) : RulesT K H' p rs := by
  obtain ⟨vs, h1, h2⟩ := h
  exact ⟨vs, x.t _ _ h1, h2.mono fun _ _ q => q.tt x⟩
theorem MovesT.tt {H H' : Hp} {p : Addr} {rs : List Mv} (x : TT K H H') (h : MovesT K H p rs) : MovesT K H' p rs := by
  obtain ⟨vs, h1, h2⟩ := h
  exact ⟨vs, x.t _ _ h1, h2.mono fun _ _ q => q.tt x⟩
theorem ThsT.tt {H H' : Hp} {p : Addr} {rs : List Th} (x : TT K H H') (h : ThsT K H p rs) : ThsT K H' p rs := by
  obtain ⟨vs, h1, h2⟩ := h
  exact ⟨vs, x.t _ _ h1, h2.mono fun _ _ q => q.tt x⟩
theorem WaysL.tt {H H' : Hp} {l : Addr} {rs : List Wy} (x : TT K H H') (e : ∀ vs, H l = some (.lst vs) → H' l = some (.lst vs)) (h : WaysL K H l rs) : WaysL K H' l rs := by
  obtain ⟨vs, h1, h2⟩ := h
  exact ⟨vs, e _ h1, h2.mono fun _ _ q => q.tt x⟩
theorem WaysL.same {H H' : Hp} {l : Addr} {rs : List Wy} (x : Same H H') (h : WaysL K H l rs) : WaysL K H' l rs := h.tt (Same_tt x) fun _ q => x _ _ q
theorem RowV.tt {H H' : Hp} {v : V} {r : Row} (x : TT K H H') (h : RowV K H v r) : RowV K H' v r := by
  obtain ⟨p, q, e, h1, h2⟩ := h
  exact ⟨p, q, e, x.t _ _ h1, x.t _ _ h2⟩
theorem RowsT.tt {H H' : Hp} {p : Addr} {R : List Row} (x : TT K H H') (h : RowsT K H p R) : RowsT K H' p R := by
  obtain ⟨vs, h1, h2, h3⟩ := h
  exact ⟨vs, x.t _ _ h1, h2, fun i v e => (h3 i v e).tt x⟩
/-- a book at x -/
def BookV (K : PySem.W.Frag) (C : Addr) (H : Hp) (x : Addr) (B : Bk) : Prop := ∃ dx pa pr pm, H x = some (.ins C dx [("arities", .ref pa), ("kinds", nv B.nk), ("rules", .ref pr), ("moves", .ref pm)]) ∧ IT K H pa B.ar ∧ RulesT K H pr B.rs ∧ MovesT K H pm B.ms
/-- its parts, in a tuple -/
def PartsV (K : PySem.W.Frag) (H : Hp) (p : Addr) (B : Bk) : Prop := ∃ pa pr pm, SqT K H p [.ref pa, nv B.nk, .ref pr, .ref pm] ∧ IT K H pa B.ar ∧ RulesT K H pr B.rs ∧ MovesT K H pm B.ms
theorem BookV.tk {C : Addr} {H H' : Hp} {x : Addr} {B : Bk} (s : Tk H H') (h : BookV K C H x B) : BookV K C H' x B := by
  obtain ⟨dx, pa, pr, pm, h1, h2, h3, h4⟩ := h
  exact ⟨dx, pa, pr, pm, s _ _ (fun _ z => nomatch z) h1, s.t h2, h3.tt s.tt, h4.tt s.tt⟩
theorem PartsV.tt {H H' : Hp} {p : Addr} {B : Bk} (x : TT K H H') (h : PartsV K H p B) : PartsV K H' p B := by
  obtain ⟨pa, pr, pm, h1, h2, h3, h4⟩ := h
  exact ⟨pa, pr, pm, x.t _ _ h1, x.t _ _ h2, h3.tt x, h4.tt x⟩
end
section
/-! as data of any depth -/
variable {K : PySem.W.Frag}
def dTh (t : Th) : PyData := .tuple [dN t.1, dN t.2]
def dWy (w : Wy) : PyData := .tuple [.str (wd w.1), dN w.2]
theorem pl_dp {α : Type} {P : V → α → Prop} {f : α → PyData} {H : Hp} {vs : List V} {xs : List α} (h : PL P vs xs) (m : ∀ v x, P v x → Dp K H v (f x)) : DpAll K H vs (xs.map f) :=
  dpAll_of (by rw [List.length_map, h.1]) fun i v d a b => by
    rw [List.getElem?_map] at b
    obtain ⟨x, hx, rfl⟩ := Option.map_eq_some_iff.mp b
    exact m v x (h.2 i v x a hx)
theorem th_dp {H : Hp} {v : V} {t : Th} (h : ThV H v t) : Dp K H v (dTh t) := by
  obtain ⟨p, rfl, h1⟩ := h
  exact .tup (.inl (.inl h1)) (.cons (.int _) (.cons (.int _) .nil))
theorem way_dp {H : Hp} {v : V} {t : Wy} (h : WayV K H v t) : Dp K H v (dWy t) := by
  obtain ⟨p, rfl, h1⟩ := h
  exact .tup h1 (.cons (.str _) (.cons (.int _) .nil))
theorem ths_dp {H : Hp} {p : Addr} {ts : List Th} (h : ThsT K H p ts) : Dp K H (.ref p) (.tuple (ts.map dTh)) := by
  obtain ⟨vs, h1, h2⟩ := h
  exact .tup h1 (pl_dp h2 fun _ _ q => th_dp q)
theorem ways_dp {H : Hp} {p : Addr} {ts : List Wy} (h : WaysL K H p ts) : Dp K H (.ref p) (.list (ts.map dWy)) := by
  obtain ⟨vs, h1, h2⟩ := h
  exact .lst (SqL.of h1) (pl_dp h2 fun _ _ q => way_dp q)
theorem okd_ths {ts : List Th} (h : ts.length ≤ 100000) : okd 4 (.tuple (ts.map dTh)) := by
  refine ⟨by rw [List.length_map]; exact h, fun e he => ?_⟩
  obtain ⟨t, _, rfl⟩ := List.mem_map.mp he
  refine ⟨by show 2 ≤ 100000; decide, fun e he => ?_⟩
  rcases List.mem_cons.mp he with rfl | he
  · exact trivial
  · rw [List.mem_singleton.mp he]
    exact trivial
theorem okd_ways {ts : List Wy} (h : ts.length ≤ 100000) : okd 4 (.list (ts.map dWy)) := by
  refine ⟨by rw [List.length_map]; exact h, fun e he => ?_⟩
  obtain ⟨t, _, rfl⟩ := List.mem_map.mp he
  refine ⟨by show 2 ≤ 100000; decide, fun e he => ?_⟩
  rcases List.mem_cons.mp he with rfl | he
  · exact trivial
  · rw [List.mem_singleton.mp he]
    exact trivial
theorem ths_lay : ∀ ts : List Th, PyData.canLayAll0 (ts.map dTh) = true
  | [] => rfl
  | t :: r => by
    show ((true && (true && true)) && PyData.canLayAll0 (r.map dTh)) = true
    rw [ths_lay r]
    rfl
theorem wd_lay (b : Bool) : (PyData.str (wd b)).canLay0 = true := by
  cases b
  · exact (by decide +kernel : (PyData.str "move").canLay0 = true)
  · exact (by decide +kernel : (PyData.str "rule").canLay0 = true)
theorem wy_lay (b : Bool) (k : Nat) : (dWy (b, k)).canLay0 = true := by
  show ((PyData.str (wd b)).canLay0 && (true && true)) = true
  rw [wd_lay b]
  rfl
theorem ways_lay : ∀ ts : List Wy, PyData.canLayAll0 (ts.map dWy) = true
  | [] => rfl
  | (b, k) :: r => by
    have e : (dWy (b, k)).canLay0 = true := wy_lay b k
    show ((dWy (b, k)).canLay0 && PyData.canLayAll0 (r.map dWy)) = true
    rw [ways_lay r, e]
    rfl
theorem ths_depth : ∀ R : List Th, PyData.depthAll (R.map dTh) ≤ 2
  | [] => by decide
  | r :: R => by
    have h1 := ths_depth R
    simp only [List.map_cons, PyData.depthAll, dTh, PyData.depth, dN]
    omega
theorem ways_depth : ∀ R : List Wy, PyData.depthAll (R.map dWy) ≤ 2
  | [] => by decide
  | r :: R => by
    have h1 := ways_depth R
    simp only [List.map_cons, PyData.depthAll, dWy, PyData.depth, dN]
    omega
theorem sh_ths (R : List Th) : SeqAt.shaped (.tuple (R.map dTh)) = true := by
  unfold SeqAt.shaped
  have h1 := ths_lay R
  have h2 := ths_depth R
  rw [Bool.and_eq_true, decide_eq_true_eq]
  exact ⟨h1, by show PyData.depthAll (R.map dTh) + 1 ≤ 64; omega⟩
theorem sh_thsL (R : List Th) : SeqAt.shaped (.list (R.map dTh)) = true := by
  unfold SeqAt.shaped
  have h1 := ths_lay R
  have h2 := ths_depth R
  rw [Bool.and_eq_true, decide_eq_true_eq]
  exact ⟨h1, by show PyData.depthAll (R.map dTh) + 1 ≤ 64; omega⟩
theorem sh_ways (R : List Wy) : SeqAt.shaped (.list (R.map dWy)) = true := by
  unfold SeqAt.shaped
  have h1 := ways_lay R
  have h2 := ways_depth R
  rw [Bool.and_eq_true, decide_eq_true_eq]
  exact ⟨h1, by show PyData.depthAll (R.map dWy) + 1 ≤ 64; omega⟩
theorem sh_th (t : Th) : SeqAt.shaped (dTh t) = true := by
  unfold SeqAt.shaped
  rw [Bool.and_eq_true, decide_eq_true_eq]
  refine ⟨rfl, ?_⟩
  simp only [dTh, PyData.depth, PyData.depthAll, dN]
  omega
theorem sh_wy (t : Wy) : SeqAt.shaped (dWy t) = true := by
  unfold SeqAt.shaped
  rw [Bool.and_eq_true, decide_eq_true_eq]
  refine ⟨wy_lay t.1 t.2, ?_⟩
  simp only [dWy, PyData.depth, PyData.depthAll, dN]
  omega
theorem int_beq (x y : Int) : (x == y) = decide (x = y) := rfl
theorem eqv_th (t u : Th) : PyData.eqv (dTh t) (dTh u) = decide (t = u) := by
  obtain ⟨a, b⟩ := t
  obtain ⟨c, d⟩ := u
  have e : PyData.eqv (dTh (a, b)) (dTh (c, d)) = (decide ((a : Int) = c) && (decide ((b : Int) = d) && true)) := by
    simp only [PyData.eqv, PyData.eqvAll, dTh, dN, int_beq, Bool.and_true]
  rw [e, Bool.and_true, ← Bool.decide_and]
  refine decide_eq_decide.mpr ?_
  rw [Prod.mk.injEq]
  omega
theorem any_th (u : Th) : ∀ ts : List Th, ((ts.map dTh).any fun z => PyData.eqv z (dTh u)) = decide (u ∈ ts)
  | [] => rfl
  | t :: ts => by
    rw [List.map_cons, List.any_cons, eqv_th, any_th u ts, ← Bool.decide_or]
    refine decide_eq_decide.mpr ?_
    rw [List.mem_cons]
    exact or_congr eq_comm Iff.rfl
theorem str_beq (x y : Str) : (x == y) = decide (x = y) := by
  by_cases h : x = y
  · rw [decide_eq_true h]
    exact beq_iff_eq.mpr h
  · rw [decide_eq_false h]
    exact beq_eq_false_iff_ne.mpr h
theorem wd_inj {b c : Bool} (h : wd b = wd c) : b = c := by
  cases b <;> cases c <;> first | rfl | exact absurd h (by decide)
theorem eqv_wy (t u : Wy) : PyData.eqv (dWy t) (dWy u) = decide (t = u) := by
  obtain ⟨a, b⟩ := t
  obtain ⟨c, d⟩ := u
  have e : PyData.eqv (dWy (a, b)) (dWy (c, d)) = (decide (wd a = wd c) && (decide ((b : Int) = d) && true)) := by
    simp only [PyData.eqv, PyData.eqvAll, dWy, dN, int_beq, Bool.and_true, str_beq]
  rw [e, Bool.and_true, ← Bool.decide_and]
  refine decide_eq_decide.mpr ?_
  rw [Prod.mk.injEq]
  constructor
  · rintro ⟨h1, h2⟩
    exact ⟨wd_inj h1, by omega⟩
  · rintro ⟨rfl, rfl⟩
    exact ⟨rfl, rfl⟩
theorem any_wy (u : Wy) : ∀ ts : List Wy, ((ts.map dWy).any fun z => PyData.eqv z (dWy u)) = decide (u ∈ ts)
  | [] => rfl
  | t :: ts => by
    rw [List.map_cons, List.any_cons, eqv_wy, any_wy u ts, ← Bool.decide_or]
    refine decide_eq_decide.mpr ?_
    rw [List.mem_cons]
    exact or_congr eq_comm Iff.rfl
end
section
/-! dicts whose keys are things -/
def kt (t : Th) : List Key := [.inl (t.1 : Int), .inl (t.2 : Int)]
theorem kt_inj {x y : Th} (h : kt x = kt y) : x = y := by
  unfold kt at h
  have h1 := (List.cons.inj h).1
  have h2 := (List.cons.inj (List.cons.inj h).2).1
  have h1' := Sum.inl.inj h1
  have h2' := Sum.inl.inj h2
  exact Prod.ext (by omega) (by omega)
theorem kt_v (t : Th) : (kt t).map kV = [nv t.1, nv t.2] := rfl
def tk (F : List Th) : List (List Key × V) := F.map fun t => (kt t, .bl true)
theorem tk_len (F : List Th) : (tk F).length = F.length := List.length_map _
theorem tk_val (x : Th) : ∀ F : List Th, valV (tk F) (kt x) = if x ∈ F then some (.bl true) else none
  | [] => rfl
  | y :: F => by
    by_cases e : y = x
    · subst e
      rw [if_pos List.mem_cons_self]
      exact valV_pos rfl
    · rw [show valV (tk (y :: F)) (kt x) = valV (tk F) (kt x) from valV_neg fun q => e (kt_inj q), tk_val x F]
      by_cases m : x ∈ F
      · rw [if_pos m, if_pos (List.mem_cons_of_mem _ m)]
      · rw [if_neg m, if_neg (by rw [List.mem_cons]; exact fun q => q.elim (fun q => e q.symm) m)]
theorem tk_some (x : Th) (F : List Th) : (valV (tk F) (kt x)).isSome = decide (x ∈ F) := by
  rw [tk_val]
  by_cases m : x ∈ F
  · rw [if_pos m, decide_eq_true m]
    rfl
  · rw [if_neg m, decide_eq_false m]
    rfl
theorem tk_put (x : Th) (F : List Th) : putK (tk F) (kt x) (.bl true) = tk (insT F x) := by
  unfold insT
  by_cases m : x ∈ F
  · rw [if_pos m]
    have h : ((tk F).any fun kv => decide (kv.1 = kt x)) = true := by
      rw [valV_any, tk_some, decide_eq_true m]
    unfold putK
    rw [if_pos h]
    unfold tk
    rw [List.map_map]
    refine List.map_congr_left fun y _ => ?_
    show (if kt y = kt x then (kt y, V.bl true) else (kt y, V.bl true)) = _
    split <;> rfl
  · rw [if_neg m, putK_new _ (by rw [tk_val, if_neg m])]
    unfold tk
    rw [List.map_append]
    rfl
theorem tk_keys {F : List Th} : ∀ e ∈ tk F, ∃ i j : Int, e.1 = [.inl i, .inl j] := fun e he => by
  obtain ⟨t, _, rfl⟩ := List.mem_map.mp he
  exact ⟨_, _, rfl⟩
/-- the keys of such a dict, sorted -/
theorem keys_ths {H : Hp} : ∀ {F : List Th} {bs : List Addr}, IsKeys H (tk F) bs → PL (ThV H) (bs.map V.ref) F
  | [], _, h => by
    cases h
    exact PL.nil
  | t :: F, _, h => by
    cases h with
    | cons h1 h2 => exact (PL.one (P := ThV H) (x := t) ⟨_, rfl, h1⟩).app (keys_ths h2)
end
section
/-! sorted lists of things -/
def thOf (kf : V → Int × Int) (v : V) : Th := ((kf v).1.toNat, (kf v).2.toNat)
theorem srt_ths {H : Hp} {F : List Th} {ys vs : List V} {kf : V → Int × Int} (hP : PL (ThV H) vs F) (hk : ∀ v ∈ vs, ∃ t, v = V.ref t ∧ H t = some (.tup [.int (kf v).1, .int (kf v).2])) (hs : SrtO.Srtd (ltP kf) ys) (hb : SrtO.Stb (ltP kf) ys vs) (hn : F.Nodup) : PL (ThV H) ys (lotT F) := by
  have one : ∀ v t, v ∈ vs → ThV H v t → (kf v).1 = (t.1 : Int) ∧ (kf v).2 = (t.2 : Int) := fun v t hv h => by
    obtain ⟨p, e, h1⟩ := h
    obtain ⟨q, e2, h2⟩ := hk v hv
    rw [e] at e2
    cases e2
    rw [h1] at h2
    have h3 := HO.tup.inj (Option.some.inj h2)
    have h4 := V.int.inj (List.cons.inj h3).1
    have h5 := V.int.inj (List.cons.inj (List.cons.inj h3).2).1
    exact ⟨h4.symm, h5.symm⟩
  have hg : vs.map (thOf kf) = F := by
    refine List.ext_getElem? fun i => ?_
    rw [List.getElem?_map]
    cases e : F[i]? with
    | none =>
      have := List.getElem?_eq_none_iff.mp e
      rw [List.getElem?_eq_none (by rw [hP.1]; exact this)]
      rfl
    | some t =>
      obtain ⟨v, e2, h2⟩ := hP.at e
      rw [e2]
      obtain ⟨h3, h4⟩ := one v t (List.mem_of_getElem? e2) h2
      show some (thOf kf v) = some t
      unfold thOf
      rw [h3, h4]
      rfl
  have hv : ∀ v ∈ vs, ThV H v (thOf kf v) := fun v m => by
    obtain ⟨i, hi⟩ := List.mem_iff_getElem?.mp m
    obtain ⟨t, _, h2⟩ := hP.at' hi
    obtain ⟨h3, h4⟩ := one v t m h2
    have e : thOf kf v = t := by
      unfold thOf
      rw [h3, h4]
      rfl
    rw [e]
    exact h2
  have hp : (ys.map (thOf kf)).Perm F := by
    rw [← hg]
    exact hb.perm.map _
  have hnd : (ys.map (thOf kf)).Nodup := hp.nodup_iff.mpr hn
  have hle : ys.Pairwise fun x y => SrtO.lexB (kf y) (kf x) = false := hs
  have hlt : (ys.map (thOf kf)).Pairwise ltT := by
    rw [List.pairwise_map]
    have h2 : ys.Pairwise fun x y => thOf kf x ≠ thOf kf y := List.pairwise_map.mp hnd
    refine List.Pairwise.imp_of_mem ?_ (hle.and h2)
    intro x y hx hy q
    have kx := hv x (hb.perm.mem_iff.mp hx)
    have ky := hv y (hb.perm.mem_iff.mp hy)
    obtain ⟨x1, x2⟩ := one x _ (hb.perm.mem_iff.mp hx) kx
    obtain ⟨y1, y2⟩ := one y _ (hb.perm.mem_iff.mp hy) ky
    have l := SrtO.lexB_no.mp q.1
    rw [x1, x2, y1, y2] at l
    have ne := q.2
    generalize thOf kf x = u at *
    generalize thOf kf y = v at *
    have ne' : ¬ (u.1 = v.1 ∧ u.2 = v.2) := fun z => ne (Prod.ext z.1 z.2)
    unfold ltT
    omega
  have e : ys.map (thOf kf) = lotT F := asc_uniq hlt asc_lotT fun x => by rw [mem_lotT, hp.mem_iff]
  rw [← e]
  refine ⟨(List.length_map _).symm, fun i v x h1 h2 => ?_⟩
  rw [List.getElem?_map, h1] at h2
  rw [← Option.some.inj h2]
  exact hv v (hb.perm.mem_iff.mp (List.mem_of_getElem? h1))
end
end Lk
/-! list(zip(t, u)), t and u two tuples of one length -/
namespace LZp
open PySem PySem.Spec PyProof.Rows L2 ZpN
theorem zip_no_len : typeLookup (.type "zip") "__len__" = pure none := by rw [typeLookup_type, builtinLookup_eq_fast]; kernel_rfl
theorem zip_no_hint : typeLookup (.type "zip") "__length_hint__" = pure none := by rw [typeLookup_type, builtinLookup_eq_fast]; kernel_rfl
section
variable {prog : Program} {w : World} {A : Around} {s : Shared} {R : Result → Shared → Prop} {z TI TO i1 i2 l1 l2 : Addr} {xs ys : Array Value}
structure ZS (z TI TO i1 i2 l1 l2 : Addr) (xs ys : Array Value) (k : Nat) (h : Heap) : Prop where
  at_ : At h z TI TO
  ti : IsPair h TI (.ref i1) (.ref i2)
  to : ∃ a b, IsPair h TO a b
  i1 : h.IsTupleIter i1 l1 k
  i2 : h.IsTupleIter i2 l2 k
  l1 : h.IsTuple l1 xs
  l2 : h.IsTuple l2 ys
/-- the pairs made so far -/
structure G (xs ys : Array Value) (lo : Addr) (h : Heap) (as : List Addr) : Prop where
  rise : as.Pairwise (· < ·)
  above : ∀ a ∈ as, lo < a
  pairs : ∀ (j : Nat) (a : Addr), as[j]? = some a → ∃ x y, xs[j]? = some x ∧ ys[j]? = some y ∧ IsPair h a x y
theorem ZS.keep {h h' : Heap} {k : Nat} (x : ZS z TI TO i1 i2 l1 l2 xs ys k h) (hk : ∀ b, b = z ∨ b = TI ∨ b = TO ∨ b = i1 ∨ b = i2 ∨ b = l1 ∨ b = l2 → ∀ o, h.get? b = some o → h'.get? b = some o) : ZS z TI TO i1 i2 l1 l2 xs ys k h' := by
  obtain ⟨⟨o1, f, ho, e1⟩, e2, ⟨a, b, e3⟩, e4, e5, e6, e7⟩ := x
  refine ⟨⟨o1, f, ho, hk _ (by simp) _ e1⟩, hk _ (by simp) _ e2, ⟨a, b, hk _ (by simp) _ e3⟩, ?_, ?_, ?_, ?_⟩
  · obtain ⟨o, e, r⟩ := e4
    exact ⟨o, hk _ (by simp) _ e, r⟩
  · obtain ⟨o, e, r⟩ := e5
    exact ⟨o, hk _ (by simp) _ e, r⟩
  · obtain ⟨o, e, r⟩ := e6
    exact ⟨o, hk _ (by simp) _ e, r⟩
  · obtain ⟨o, e, r⟩ := e7
    exact ⟨o, hk _ (by simp) _ e, r⟩
theorem loop {S : Addr} (hh : A.handled = none) (D : ZipApart z TI TO i1 i2 l1 l2) (hsz : xs.size = ys.size) (hn : xs.size ≤ sizeLine) (lt : ∀ b, b = z ∨ b = TI ∨ b = TO ∨ b = i1 ∨ b = i2 ∨ b = l1 ∨ b = l2 → b < S) (res : Value) {h₁ : Heap}
    (hR : ∀ h' tk acc c as, (∀ b o, b ≠ S → b ≠ z → b ≠ TO → b ≠ i1 → b ≠ i2 → h₁.get? b = some o → h'.get? b = some o) → h'.get? S = some { cls := .type "list", dict := none, data := .seq acc c, slots := #[] } → as.length = xs.size → G xs ys S h' as →
      acc.toList = as.map Value.ref → R (.ok (.ret res)) { s with heap := h', toks := tk }) :
    ∀ (k i : Nat) (h : Heap) (tk c : Nat) (acc : Array Value) (as : List Addr), xs.size - i = k → i ≤ xs.size → ZS z TI TO i1 i2 l1 l2 xs ys i h → (∀ b o, b ≠ S → b ≠ z → b ≠ TO → b ≠ i1 → b ≠ i2 → h₁.get? b = some o → h.get? b = some o) →
      h.get? S = some { cls := .type "list", dict := none, data := .seq acc c, slots := #[] } → acc.toList = as.map Value.ref → as.length = i → G xs ys S h as →
      codeAny (model prog w) A (.builtin "list.extend.loop" ⟨[.ref S, .ref z, res], []⟩) R { s with heap := h, toks := tk } := by
  have neS : ∀ b, b = z ∨ b = TI ∨ b = TO ∨ b = i1 ∨ b = i2 ∨ b = l1 ∨ b = l2 → b ≠ S := fun b hb => Nat.ne_of_lt (lt b hb)
  intro k
  induction k with
  | zero =>
    intro i h tk c acc as hk hi hst hkeep hS hacc hal hG
    have hin : i = xs.size := by omega
    obtain ⟨a1, a2, ⟨a, b, a3⟩, a4, a5, a6, a7⟩ := id hst
    refine codeAny_builtin PySem.F.entry_extend_loop ?_
    rw [Around.under_plainId PySem.F.plain_extend_loop _]
    show wpAny _ A.in1 (pyNext (.ref z) >>= _) _ _ _
    refine wpAny_bind (endP (s := { s with heap := h, toks := tk }) (A := A.in1) hh D a1 a2 a3 a4 a5 a6 a7 (Or.inl (by simp [hin])) fun h' he => ?_)
    refine wpAny_pure (hR h' tk acc c as (fun b o h1 h2 h3 h4 h5 e => he b o h2 h3 h4 h5 (hkeep b o h1 h2 h3 h4 h5 e)) (he S _ (neS _ (by simp)).symm (neS _ (by simp)).symm (neS _ (by simp)).symm (neS _ (by simp)).symm hS) (by omega) ⟨hG.rise, hG.above, fun j a hj => ?_⟩ hacc)
    obtain ⟨x, y, e1, e2, e3⟩ := hG.pairs j a hj
    have ab := hG.above a (List.mem_of_getElem? hj)
    have ne : ∀ b, b = z ∨ b = TI ∨ b = TO ∨ b = i1 ∨ b = i2 ∨ b = l1 ∨ b = l2 → a ≠ b := fun b hb => Nat.ne_of_gt (Nat.lt_trans (lt b hb) ab)
    exact ⟨x, y, e1, e2, he a _ (ne _ (by simp)) (ne _ (by simp)) (ne _ (by simp)) (ne _ (by simp)) e3⟩
  | succ k ih =>
    intro i h tk c acc as hk hi hst hkeep hS hacc hal hG
    have hlt : i < xs.size := by omega
    have hlt2 : i < ys.size := by omega
    have hasz : acc.size = i := by rw [← Array.length_toList, hacc, List.length_map, hal]
    obtain ⟨a1, a2, ⟨a, b, a3⟩, a4, a5, a6, a7⟩ := id hst
    refine codeAny_builtin PySem.F.entry_extend_loop ?_
    rw [Around.under_plainId PySem.F.plain_extend_loop _]
    show wpAny _ A.in1 (pyNext (.ref z) >>= _) _ _ _
    refine wpAny_bind (nextP (s := { s with heap := h, toks := tk }) D a1 a2 a3 a4 a5 a6 a7 (x := xs[i]) (y := ys[i]) (by simp [hlt]) (by simp [hlt2]) fun h' b1 b2 b3 b4 b5 b6 b7 => ?_)
    dsimp only at b5 b6 b7 ⊢
    have hS' := b7 S _ (neS _ (by simp)).symm (neS _ (by simp)).symm (neS _ (by simp)).symm (neS _ (by simp)).symm hS
    have up : ∀ b o, b ≠ S → h'.get? b = some o → (h'.update S (Obj.mapSeq (·.push (Value.ref h.objs.size)))).get? b = some o := fun b o hb e => (Heap.get?_update_other _ _ (Ne.symm hb)).trans e
    have hSl : S < h.objs.size := Heap.lt_size hS
    have st' : ZS z TI TO i1 i2 l1 l2 xs ys (i + 1) h' := by
      refine ⟨b1, b7 _ _ D.TIz D.TITO D.TIi1 D.TIi2 a2, b2, b3, b4, ?_, ?_⟩
      · obtain ⟨o, e, r⟩ := a6
        exact ⟨o, b7 _ _ D.l1z D.l1TO D.l1i1 D.l1i2 e, r⟩
      · obtain ⟨o, e, r⟩ := a7
        exact ⟨o, b7 _ _ D.l2z D.l2TO D.l2i1 D.l2i2 e, r⟩
    show wpAny _ A.in1 (updateSeq S (·.push (Value.ref h.objs.size)) >>= _) _ _ _
    refine wpAny_bind ?_
    refine wpAny_updateSeq hS' rfl (wpAny_pure ⟨plainId_quiet PySem.F.plain_extend_loop _, ih (i + 1) _ tk _ (acc.push (Value.ref h.objs.size)) (as ++ [h.objs.size]) (by omega) hlt (st'.keep fun b hb o e => up b o (neS b hb) e)
      (fun b o h1 h2 h3 h4 h5 e => up b o h1 (b7 b o h2 h3 h4 h5 (hkeep b o h1 h2 h3 h4 h5 e))) (Heap.get?_update_self _ hS' rfl) (by rw [Array.toList_push, hacc, List.map_append]; rfl) (by rw [List.length_append, hal]; rfl) ⟨?_, ?_, ?_⟩⟩) (by rw [hasz]; omega) (by show (acc.push (Value.ref h.objs.size)).size ≤ sizeLine + 1; rw [Array.size_push, hasz]; omega)
    · refine List.pairwise_append.mpr ⟨hG.rise, List.pairwise_singleton _ _, fun a ha b hb => ?_⟩
      rw [List.mem_singleton.mp hb]
      obtain ⟨j, hj⟩ := List.mem_iff_getElem?.mp ha
      obtain ⟨_, _, _, _, e⟩ := hG.pairs j a hj
      exact Heap.lt_size e
    · intro a ha
      rcases List.mem_append.mp ha with ha | ha
      · exact hG.above a ha
      · rw [List.mem_singleton.mp ha]; exact hSl
    · intro j b hj
      rcases Nat.lt_trichotomy j as.length with h1 | h1 | h1
      · rw [List.getElem?_append_left h1] at hj
        obtain ⟨x, y, e1, e2, e3⟩ := hG.pairs j b hj
        have ab := hG.above b (List.mem_of_getElem? hj)
        have ne : ∀ c, c = z ∨ c = TI ∨ c = TO ∨ c = i1 ∨ c = i2 ∨ c = l1 ∨ c = l2 → b ≠ c := fun c hc => Nat.ne_of_gt (Nat.lt_trans (lt c hc) ab)
        exact ⟨x, y, e1, e2, up b _ (Nat.ne_of_gt ab) (b7 b _ (ne _ (by simp)) (ne _ (by simp)) (ne _ (by simp)) (ne _ (by simp)) e3)⟩
      · subst h1
        have hb : h.objs.size = b := by simpa using hj
        subst hb
        exact ⟨xs[i], ys[i], by rw [hal]; simp [hlt], by rw [hal]; simp [hlt2], up _ _ (Nat.ne_of_gt hSl) b5⟩
      · have hnone : (as ++ [h.objs.size])[j]? = none := List.getElem?_eq_none (by rw [List.length_append, List.length_singleton]; omega)
        rw [hnone] at hj; cases hj

abbrev Lk : Addr → Addr → Addr → Addr → Addr → Addr → Addr → Addr → Prop := fun z TI TO i1 i2 l1 l2 b => b = z ∨ b = TI ∨ b = TO ∨ b = i1 ∨ b = i2 ∨ b = l1 ∨ b = l2
theorem extend (hh : A.handled = none) (D : ZipApart z TI TO i1 i2 l1 l2) (hsz : xs.size = ys.size) (hn : xs.size ≤ sizeLine) (S : Addr) (lt : ∀ b, b = z ∨ b = TI ∨ b = TO ∨ b = i1 ∨ b = i2 ∨ b = l1 ∨ b = l2 → b < S) (res : Value) (c₀ : Nat)
    (hst : ZS z TI TO i1 i2 l1 l2 xs ys 0 s.heap) (hS : s.heap.get? S = some { cls := .type "list", data := .seq #[] c₀ })
    (hR : ∀ h' tk acc c as, (∀ b o, b ≠ S → b ≠ z → b ≠ TO → b ≠ i1 → b ≠ i2 → s.heap.get? b = some o → h'.get? b = some o) → h'.get? S = some { cls := .type "list", dict := none, data := .seq acc c, slots := #[] } → as.length = xs.size → G xs ys S h' as →
      acc.toList = as.map Value.ref → R (.ok (.ret res)) { s with heap := h', toks := tk }) :
    wpAny (model prog w) A.in1 (Builtin.List.listExtendWith (.ref S) (.ref z) res)
      (fun fin s' => match fin with | .done f => R (.ok f) s' | .again c' => c'.quiet = true ∧ codeAny (model prog w) A c' R s') (fun e s' => R (.error e) s') s := by
  have neS : ∀ b, b = z ∨ b = TI ∨ b = TO ∨ b = i1 ∨ b = i2 ∨ b = l1 ∨ b = l2 → b ≠ S := fun b hb => Nat.ne_of_lt (lt b hb)
  obtain ⟨o1, f, ho, hz⟩ := id hst.at_
  have hT : s.TypeIs (.ref z) "zip" := ⟨_, hz, rfl⟩
  have hSz : S ≠ z := (neS z (by simp)).symm
  unfold Builtin.List.listExtendWith
  refine wpAny_bind (wpAny_typeOf hT ?_)
  have h1 : Builtin.List.listSameRef (.ref S) (.ref z) = false := by simp [Builtin.List.listSameRef, hSz]
  have h2 : (Value.type "zip" == Value.type "list") = false := by decide
  have h3 : (Value.type "zip" == Value.type "tuple") = false := by decide
  simp only [h1, h2, h3, Bool.or_false, Bool.false_eq_true, if_false]
  refine wpAny_bind (iterZ hz ?_)
  refine wpAny_bind (wpAny_holding ?_)
  unfold Builtin.List.listLengthHint
  refine wpAny_bind (wpAny_specialOf hT zip_no_len ?_)
  show wpAny _ A.in1 (specialOf (Value.ref z) (Str.ofString "__length_hint__") >>= _) _ _ _
  refine wpAny_bind (wpAny_specialOf hT zip_no_hint ?_)
  refine wpAny_pure ?_
  show wpAny _ A.in1 (rule "list.extend.makes-room" >>= fun _ => Builtin.List.listTouch (.ref S) >>= fun _ =>
    again (.builtin "list.extend.loop" ⟨[.ref S, .ref z, res], []⟩)) _ _ _
  refine wpAny_bind (wpAny_rule ?_)
  refine wpAny_bind ?_
  show wpAny _ A.in1 (updateSeq S (·.push .none) >>= fun _ => updateSeq S (·.pop)) _ _ _
  refine wpAny_bind (wpAny_updateSeq hS rfl ?_)
  have hS₂ := Heap.get?_update_self (Obj.mapSeq (·.push Value.none)) hS rfl
  refine wpAny_updateSeq (hz := by seq_fits) hS₂ rfl ?_
  have hS₃ := Heap.get?_update_self (Obj.mapSeq (·.pop)) hS₂ rfl
  have oth : ∀ b o, b ≠ S → s.heap.get? b = some o → ((s.heap.update S (Obj.mapSeq (·.push Value.none))).update S (Obj.mapSeq (·.pop))).get? b = some o :=
    fun b o hb e => (Heap.get?_update_other _ _ (Ne.symm hb)).trans ((Heap.get?_update_other _ _ (Ne.symm hb)).trans e)
  refine wpAny_pure ⟨plainId_quiet PySem.F.plain_extend_loop _, loop (s := s) (h₁ := s.heap) hh D hsz hn lt res hR xs.size 0 _ s.toks _ #[] [] (Nat.sub_zero _) (Nat.zero_le _) (hst.keep fun b hb o e => oth b o (neS b hb) e) (fun b o hb _ _ _ _ e => oth b o hb e) hS₃ rfl rfl
    ⟨List.Pairwise.nil, (fun _ ha => nomatch ha), (fun j a hj => by simp at hj)⟩⟩
theorem init (hh : A.handled = none) (D : ZipApart z TI TO i1 i2 l1 l2) (hsz : xs.size = ys.size) (hn : xs.size ≤ sizeLine) (S : Addr) (lt : ∀ b, b = z ∨ b = TI ∨ b = TO ∨ b = i1 ∨ b = i2 ∨ b = l1 ∨ b = l2 → b < S)
    (hst : ZS z TI TO i1 i2 l1 l2 xs ys 0 s.heap) (hS : s.heap.get? S = some { cls := .type "list", data := .seq #[] })
    (hR : ∀ h' tk acc c as, (∀ b o, b ≠ S → b ≠ z → b ≠ TO → b ≠ i1 → b ≠ i2 → s.heap.get? b = some o → h'.get? b = some o) → h'.get? S = some { cls := .type "list", dict := none, data := .seq acc c, slots := #[] } → as.length = xs.size → G xs ys S h' as →
      acc.toList = as.map Value.ref → R (.ok (.ret .none)) { s with heap := h', toks := tk }) :
    wpAny (model prog w) A.in1 (Builtin.«list.__init__» ⟨[.ref S, .ref z], []⟩)
      (fun fin s' => match fin with | .done f => R (.ok f) s' | .again c' => c'.quiet = true ∧ codeAny (model prog w) A c' R s') (fun e s' => R (.error e) s') s := by
  have neS : ∀ b, b = z ∨ b = TI ∨ b = TO ∨ b = i1 ∨ b = i2 ∨ b = l1 ∨ b = l2 → b ≠ S := fun b hb => Nat.ne_of_lt (lt b hb)
  show wpAny _ A.in1 (do let old ← Builtin.List.listItems (.ref S); Builtin.List.listUpdate (.ref S) (fun _ => #[]); letGo old.toList.reverse; Builtin.List.listExtendWith (.ref S) (.ref z) .none) _ _ s
  refine wpAny_bind ?_
  unfold Builtin.List.listItems
  refine wpAny_bind (wpAny_seqItems hS rfl (wpAny_pure ?_))
  show wpAny _ A.in1 (updateSeq S (fun _ => #[]) >>= fun _ => letGo (#[] : Array Value).toList.reverse >>= fun _ => Builtin.List.listExtendWith (.ref S) (.ref z) .none) _ _ s
  refine wpAny_bind (wpAny_updateSeq hS rfl ?_)
  have hS₂ := Heap.get?_update_self (Obj.mapSeq (fun _ => (#[] : Array Value))) hS rfl
  have oth : ∀ b o, b ≠ S → s.heap.get? b = some o → (s.heap.update S (Obj.mapSeq (fun _ => (#[] : Array Value)))).get? b = some o :=
    fun b o hb e => (Heap.get?_update_other _ _ (Ne.symm hb)).trans e
  refine wpAny_bind (wpAny_letGo ?_)
  refine extend hh D hsz hn S lt .none _ (hst.keep fun b hb o e => oth b o (neS b hb) e) hS₂ fun h' tk acc c as hk hS' hl hG hacc => ?_
  exact hR h' tk acc c as (fun b o hb h2 h3 h4 h5 e => hk b o hb h2 h3 h4 h5 (oth b o hb e)) hS' hl hG hacc
end
section
variable {prog : Program} {w : World} {A : Around} {E : Value → Shared → Prop} {s : Shared} {z TI TO i1 i2 l1 l2 : Addr} {xs ys : Array Value}
theorem call_list {Q : Value → Shared → Prop} (hh : A.handled = none) (D : ZipApart z TI TO i1 i2 l1 l2) (hsz : xs.size = ys.size) (hn : xs.size ≤ sizeLine) (hst : ZS z TI TO i1 i2 l1 l2 xs ys 0 s.heap)
    (lt : ∀ b, b = z ∨ b = TI ∨ b = TO ∨ b = i1 ∨ b = i2 ∨ b = l1 ∨ b = l2 → b < s.heap.objs.size)
    (hQ : ∀ h' tk acc c as, (∀ b o, b ≠ z → b ≠ TO → b ≠ i1 → b ≠ i2 → s.heap.get? b = some o → h'.get? b = some o) → h'.get? s.heap.objs.size = some { cls := .type "list", dict := none, data := .seq acc c, slots := #[] } → as.length = xs.size → G xs ys s.heap.objs.size h' as →
      acc.toList = as.map Value.ref → Q (.ref s.heap.objs.size) { s with heap := h', toks := tk }) :
    wpAny (model prog w) A (call (.type "list") [.ref z]) Q E s := by
  refine callType_codes (Q₁ := fun obj s₁ => obj = .ref s.heap.objs.size ∧ s₁ = { s with heap := s.heap.push { cls := .type "list", data := .seq #[] } }) PySem.F.called_list (PySem.F.typeCall_list_1 _) PySem.F.entry_list_init
    (code_list_new _ ⟨rfl, rfl⟩) fun obj s₁ h₁ => ?_
  obtain ⟨rfl, rfl⟩ := h₁
  have hS : (s.heap.push { cls := .type "list", data := .seq #[] }).get? s.heap.objs.size = some { cls := .type "list", data := .seq #[] } := Heap.get?_push_size _ rfl
  refine ⟨⟨_, hS, rfl⟩, PySem.F.args_list_init_2 _ _, init (A := A.in1) hh D hsz hn _ lt (hst.keep fun b _ o e => Heap.get?_push_of_some _ e) hS fun h' tk acc c as hk hS' hl hG hacc => ?_⟩
  exact ⟨rfl, hQ h' tk acc c as (fun b o h2 h3 h4 h5 e => hk b o (Nat.ne_of_lt (Heap.lt_size e)) h2 h3 h4 h5 (Heap.get?_push_of_some _ e)) hS' hl hG hacc⟩
end
/-! the rule of the layer -/
def putP : Hp → List Addr → List (V × V) → Hp
  | H, a :: as, p :: ps => putP (upd H a (.tup [p.1, p.2])) as ps
  | H, _, _ => H
theorem putP_off {b : Addr} : ∀ (as : List Addr) (ps : List (V × V)) (H : Hp), b ∉ as → putP H as ps b = H b
  | [], _, _, _ => rfl
  | _ :: _, [], _, _ => rfl
  | a :: as, p :: ps, H, h => by
    show putP (upd H a (.tup [p.1, p.2])) as ps b = H b
    rw [putP_off as ps _ (fun z => h (List.mem_cons_of_mem _ z)), upd_ne (fun z => h (by rw [z]; exact List.mem_cons_self))]
theorem putP_at : ∀ (as : List Addr) (ps : List (V × V)) (H : Hp), as.length = ps.length → as.Nodup → ∀ (j : Nat) (t : Addr) (p : V × V), as[j]? = some t → ps[j]? = some p → putP H as ps t = some (.tup [p.1, p.2])
  | [], _, _, _, _, j, t, p, h, _ => by cases h
  | _ :: _, [], _, h, _, _, _, _, _, _ => by cases h
  | a :: as, p :: ps, H, h, hn, j, t, q, h1, h2 => by
    have hn' := List.nodup_cons.mp hn
    cases j with
    | zero =>
      cases h1
      cases h2
      show putP (upd H a (.tup [p.1, p.2])) as ps a = some (.tup [p.1, p.2])
      rw [putP_off as ps _ hn'.1, upd_same]
    | succ j => exact putP_at as ps _ (Nat.succ.inj h) hn'.2 j t q h1 h2
theorem laid {X : Cx} {pins : List (Addr × Obj)} {σ : L2.St} {H : Hp} {s : Shared} {h' : Heap} {S : Addr} {tk : Nat} {xs ys : List V} {vs us : List Value} {acc : Array Value} {c : Nat} {as : List Addr} (I : Inv X pins σ H s) (hz : xs.length ≤ sizeLine) (hl : xs.length = ys.length) (kv : Vals xs vs) (ku : Vals ys us)
    (hk : ∀ b o, s.heap.get? b = some o → h'.get? b = some o) (hge : s.heap.objs.size ≤ S) (hS : h'.get? S = some { cls := .type "list", dict := none, data := .seq acc c, slots := #[] }) (has : as.length = xs.length) (hG : G vs.toArray us.toArray S h' as) (hacc : acc.toList = as.map Value.ref) :
    ∃ H' : Hp, Same H H' ∧ H S = none ∧ H' S = some (.lst (as.map V.ref)) ∧ (∀ (j : Nat) (t : Addr) (x y : V), as[j]? = some t → xs[j]? = some x → ys[j]? = some y → H' t = some (.tup [x, y])) ∧ Inv X pins σ H' { s with heap := h', toks := tk } := by
  have hSn : S ∉ as := fun z => Nat.lt_irrefl _ (hG.above _ z)
  have nd : as.Nodup := List.Pairwise.imp (fun {a b} (h : a < b) => Nat.ne_of_lt h) hG.rise
  have new : ∀ t ∈ as, H t = none := fun t ht => I.hok.fresh (Nat.le_of_lt (Nat.lt_of_le_of_lt hge (hG.above t ht)))
  have newS : H S = none := I.hok.fresh hge
  have lz : as.length = (List.zip xs ys).length := by rw [List.length_zip, has]; omega
  have atP := putP_at as (List.zip xs ys) (upd H S (.lst (as.map V.ref))) lz nd
  have off : ∀ b, b ∉ as → b ≠ S → putP (upd H S (.lst (as.map V.ref))) as (List.zip xs ys) b = H b := fun b h1 h2 => by rw [putP_off as _ _ h1, upd_ne h2]
  have low : ∀ b o, s.heap.get? b = some o → b ∉ as ∧ b ≠ S := fun b o e => ⟨fun z => absurd (Heap.lt_size e) (Nat.not_lt.mpr (Nat.le_of_lt (Nat.lt_of_le_of_lt hge (hG.above b z)))), fun z => absurd (Heap.lt_size e) (by rw [z]; exact Nat.not_lt.mpr hge)⟩
  have kp : ∀ b u, H b = some u → (putP (upd H S (.lst (as.map V.ref))) as (List.zip xs ys)) b = some u := fun b u e => by
    rw [off b (fun z => by rw [new b z] at e; cases e) (fun z => by rw [z, newS] at e; cases e)]
    exact e
  have eS : putP (upd H S (.lst (as.map V.ref))) as (List.zip xs ys) S = some (.lst (as.map V.ref)) := by rw [putP_off as _ _ hSn, upd_same]
  refine ⟨putP (upd H S (.lst (as.map V.ref))) as (List.zip xs ys), kp, newS, eS, fun j t x y h1 h2 h3 => atP j t (x, y) h1 (by rw [List.getElem?_zip_eq_some]; exact ⟨h2, h3⟩), ?_⟩
  refine I.call' (ch := []) rfl ⟨fun b o q _ _ _ => hk b o q, fun b o q _ _ _ => ⟨o.slots, hk b o q⟩, fun b o q n _ => ?_, fun b o q _ => ⟨o, hk b o q⟩, fun b xs q => kp b _ q, fun b o u q => kp b _ q, fun b ps q => ⟨#[], by rw [kp b _ q]; simp⟩⟩ (fun b u q => ?_) I.bare fun b z => by simp at z
  · obtain ⟨z1, z2⟩ := low b o q
    rw [off b z1 z2]
    exact n
  · by_cases hb : b ∈ as
    · obtain ⟨j, e1⟩ := List.mem_iff_getElem?.mp hb
      have hj : j < as.length := (List.getElem?_eq_some_iff.mp e1).1
      have hx : xs[j]? = some (xs[j]'(by omega)) := List.getElem?_eq_getElem (by omega)
      have hy : ys[j]? = some (ys[j]'(by omega)) := List.getElem?_eq_getElem (by omega)
      have e3 := atP j b (_, _) e1 (by rw [List.getElem?_zip_eq_some]; exact ⟨hx, hy⟩)
      rw [e3] at q
      cases q
      obtain ⟨vx, vy, f1, f2, f3⟩ := hG.pairs j b e1
      obtain ⟨wx, g1, g2⟩ := kv.get hx
      obtain ⟨wy, g3, g4⟩ := ku.get hy
      have f1' : vs[j]? = some vx := by simpa using f1
      have f2' : us[j]? = some vy := by simpa using f2
      rw [f1'] at g1
      cases g1
      rw [f2'] at g3
      cases g3
      exact ⟨by show 2 ≤ sizeLine; decide, [vx, vy], .cons g2 (.cons g4 .nil), ⟨_, f3, rfl, _, rfl⟩⟩
    · by_cases hb2 : b = S
      · rw [hb2] at q ⊢
        rw [eS] at q
        cases q
        refine ⟨by rw [List.length_map]; omega, acc.toList, c, by rw [hacc]; exact LiI.vals_refs as, ?_⟩
        rw [Array.toArray_toList]
        exact hS
      · rw [off b hb hb2] at q
        exact (I.hok b u q).stay (fun d v _ y => hk d v y) (fun d y => kp d _ y) fun d xs y => kp d _ y
def tLZ (K : PySem.W.Frag) (ta : TA) : TE := fun σ H Q => ta σ H fun vs H1 => ∃ a b xs ys, vs = [.ref a, .ref b] ∧ SqT K H1 a xs ∧ SqT K H1 b ys ∧ xs.length = ys.length ∧
  ∀ (H' : Hp) (p : Addr) (ts : List Addr), Same H1 H' → H1 p = none → H' p = some (.lst (ts.map V.ref)) → ts.length = xs.length → (∀ (j : Nat) (t : Addr) (x y : V), ts[j]? = some t → xs[j]? = some x → ys[j]? = some y → H' t = some (.tup [x, y])) → Q (.ref p) H'
theorem pe_listZip {X : Cx} {e e2 : Expr} {ta : TA} {p p2 pos pos2 : Pos} (hc : X.calm = true) (hg : Gl X "list") (hm : X.mg "list" = none) (hg2 : Gl X "zip") (hm2 : X.mg "zip" = none) (ha : PA X [e, e2] ta)
    (hs : starEach [e, e2] X.env = (false, eval e X.env) :: starEach [e2] X.env := by rfl) (hpl : (backTo pos2 (starEach [e2] X.env)).any (·.1) = false := by rfl)
    (hs2 : starEach [.Call (.Name "zip" p2) [e, e2] [] pos2] X.env = (false, eval (.Call (.Name "zip" p2) [e, e2] [] pos2) X.env) :: starEach [] X.env := by rfl) :
    PE X (.Call (.Name "list" p) [.Call (.Name "zip" p2) [e, e2] [] pos2] [] pos) (tLZ X.K ta) := by
  refine ⟨fun pins s σ H Q I hq => ?_⟩
  refine wpAny_Call_Name_kw (ld_blt I hg hm (by decide +kernel : bootBuiltins "list" = some (.type "list")) ?_)
  refine PyProof.Rows.callWith_type1 ?_ hs2 rfl
  rw [hs2]
  show wpAny _ _ (spliced ((false, eval (.Call (.Name "zip" p2) [e, e2] [] pos2) X.env) :: backTo pos (starEach [] X.env))) _ _ s
  refine Calls.spliced_cons ?_
  refine Call_ (ld_blt I hg2 hm2 PyProof.Rows.boot_zip (PyProof.Rows.callWith_type1 (thn (ha.run pos2 pins s σ H _ I hq) fun us s1 ⟨vs, H1, I1, r1, q1⟩ => ?_) hs hpl))
  obtain ⟨a, b, xs, ys, rfl, hqx, hqy, hl, q⟩ := q1
  obtain ⟨u1, u2, rfl, r, r'⟩ := vals2 r1
  cases r
  cases r'
  obtain ⟨its, rv, p1, hlx⟩ := I1.tuple hqx
  obtain ⟨its2, rv2, p2', _⟩ := I1.tuple hqy
  obtain ⟨o1, ho1, _⟩ := id p1
  obtain ⟨o2, ho2, _⟩ := id p2'
  have lv := rv.length
  have lu := rv2.length
  refine RZ.call_zipT (show s1.heap.IsTuple a its.toArray from p1) (show s1.heap.IsTuple b its2.toArray from p2') fun h' hz hTI hTO h1 h2 hsz hk => ?_
  refine Calls.spliced_nil ?_
  have l1 := Heap.lt_size ho1
  have l2 := Heap.lt_size ho2
  have p1' : h'.IsTuple a its.toArray := by
    obtain ⟨o, e, r⟩ := p1
    exact ⟨o, hk _ _ e, r⟩
  have p2'' : h'.IsTuple b its2.toArray := by
    obtain ⟨o, e, r⟩ := p2'
    exact ⟨o, hk _ _ e, r⟩
  refine call_list (s := { s1 with heap := h' }) (I1.ok.hd hc) (PySem.W.ktu_apart s1.heap.objs.size a b l1 l2) (by rw [List.size_toArray, List.size_toArray]; omega) (by rw [List.size_toArray]; omega)
    ⟨⟨_, _, Or.inl rfl, hz⟩, hTI, ⟨_, _, hTO⟩, h1, h2, p1', p2''⟩ (fun c hc => ?_) fun h2' tk acc c as hk2 hS has hG hacc => ?_
  · show c < h'.objs.size
    rw [hsz]
    rcases hc with z | z | z | z | z | z | z <;> rw [z]
    · exact Nat.add_lt_add_left (by decide) _
    · exact Nat.add_lt_add_left (by decide) _
    · exact Nat.add_lt_add_left (by decide) _
    · exact Nat.lt_add_of_pos_right (by decide)
    · exact Nat.add_lt_add_left (by decide) _
    · exact Nat.lt_of_lt_of_le l1 (Nat.le_add_right _ _)
    · exact Nat.lt_of_lt_of_le l2 (Nat.le_add_right _ _)
  · have keep : ∀ b o, s1.heap.get? b = some o → h2'.get? b = some o := fun b o e => by
      have lb := Heap.lt_size e
      exact hk2 b o (Nat.ne_of_lt (Nat.lt_of_lt_of_le lb (Nat.le_add_right _ _))) (Nat.ne_of_lt (Nat.lt_of_lt_of_le lb (Nat.le_add_right _ _))) (Nat.ne_of_lt lb) (Nat.ne_of_lt (Nat.lt_of_lt_of_le lb (Nat.le_add_right _ _))) (hk b o e)
    have hge : s1.heap.objs.size ≤ h'.objs.size := by rw [hsz]; exact Nat.le_add_right _ _
    rw [List.size_toArray] at has
    obtain ⟨H', k1, k2, k3, k4, J⟩ := laid (tk := tk) I1 hlx hl rv rv2 keep hge hS (by omega) hG hacc
    exact ⟨.ref _, H', J, rfl, q H' _ as k1 k2 k3 (by omega) k4⟩
end LZp
namespace RmD
open PySem PySem.Spec PyProof.Rows L2
/-! l.remove(x), the items data of any depth: the first equal one is gone -/
def rRemD (K : PySem.W.Frag) : V → List V → Hp → VK → Prop := fun x xs H Q => ∃ (l : Addr) (us : List V) (y : V) (d : PyData) (ds : List PyData) (j : Nat) (z : PyData), x = V.ref l ∧ xs = [y] ∧ H l = some (.lst us) ∧ DpAll K H us ds ∧ Dp K H y d ∧
  SeqAt.shaped (.list ds) = true ∧ SeqAt.shaped d = true ∧ ds[j]? = some z ∧ PyData.eqv z d = true ∧ (∀ (m : Nat) (z' : PyData), m < j → ds[m]? = some z' → PyData.eqv z' d = false) ∧ Q .non (upd H l (.lst (us.eraseIdx j)))
section
variable {X : Cx}
theorem mt_removeD (hu : X.A.units + 65 < cLine) : MtM X "list.remove" (rRemD X.K) := by
  intro pins s σ H x xs v ws Q I rx rxs h
  obtain ⟨l, us, y, d, ds, j, z, rfl, rfl, hH, ha, hy, sl, sd, hz, hzj, hno, q⟩ := h
  cases rx
  obtain ⟨u, rfl, ru⟩ := rxs.one
  obtain ⟨bs, r1⟩ := Dp.reads I d y u hy ru
  have hxs : PyData.canLayAll0 ds = true := SeqAt.canLay_of_shaped sl
  have hroom : X.A.units + 1 + min (PyData.depthAll ds) d.depth < cLine := room_in_shaped sd hu
  obtain ⟨zz, its, n, r, hl, e⟩ := I.lstM hH
  obtain ⟨as, h4⟩ := Dp.readsAll I ds _ its ha r
  have hn : its.length = ds.length := SeqAt.ReadsAll.length ds its as h4
  have hp : SeqAt.dataPlace ds d = some j := by
    obtain ⟨hj, hz2⟩ := List.getElem?_eq_some_iff.mp hz
    refine List.findIdx?_eq_some_iff_getElem.mpr ⟨hj, by rw [hz2]; exact hzj, fun m hm => ?_⟩
    have := hno m _ hm (List.getElem?_eq_getElem (by omega))
    simpa using this
  refine SeqAt.remove_list_data (vs := its.toArray) (j := j) ⟨_, e, rfl, n, rfl⟩ (show ReadsAll s.heap its.toArray.toList ds as from h4) r1 (PyData.plainAll_of_canLay0 _ hxs) (PyData.plain_of_canLay0 _ (SeqAt.canLay_of_shaped sd)) hroom hp (by rw [List.size_toArray]; omega) ?_
  have rr := r.eraseIdx j
  refine ⟨.non, _, I.lset (its' := its.eraseIdx j) (t' := s.toks) hH e ?_ rr ?_, rfl, q⟩
  · show its.toArray.eraseIdxIfInBounds j = (its.eraseIdx j).toArray
    rw [List.eraseIdxIfInBounds_toArray]
  · rw [List.length_eraseIdx]
    split <;> omega
end
end RmD
/-! tuple(x) of whatever the layer's list(x) walks: a dict's keys, say -/
namespace TpD
open PySem PySem.Spec PyProof.Rows L2
section
variable {prog : Program} {w : World} {A : Around} {E : Value → Shared → Prop} {s : Shared} {T : String} {r d : Addr} {n : Nat} {P : Nat → Value → Prop} {OK : Heap → Prop}
/-- what is known behind the walk -/
abbrev Gath (s : Shared) (n : Nat) (P : Nat → Value → Prop) (rr : Result) (s' : Shared) : Prop :=
  rr = .ok (.ret (.ref s.heap.objs.size)) ∧ ∃ (h' : Heap) (tk : Nat) (acc : Array Value) (c' : Nat), s' = { s with heap := h', toks := tk } ∧ (∀ b o, s.heap.get? b = some o → h'.get? b = some o) ∧
    h'.get? s.heap.objs.size = some { cls := .type "list", dict := none, data := .seq acc c', slots := #[] } ∧ ItemsOf P acc n
theorem gather {Q : List Value → Shared → Prop} (S : PySem.W.KdlSrc prog w T r d n P OK) (hh : A.handled = none) (hok : OK s.heap) (hn : n ≤ sizeLine)
    (hQ : ∀ (h' : Heap) (tk : Nat) (acc : Array Value), (∀ b o, s.heap.get? b = some o → h'.get? b = some o) → ItemsOf P acc n → Q acc.toList { s with heap := h', toks := tk }) : wpAny (model prog w) A (collect (.ref r)) Q E s := by
  have lt := S.there _ hok
  unfold collect
  refine wpAny_bind (wpAny_runValue (codeAny_builtin F.entry_proto_collect ?_))
  rw [Around.under_plainId F.plain_proto_collect _]
  show wpAny _ A.in1 (newList [] >>= fun l => again (.builtin "list.__iadd__" ⟨[l, .ref r], []⟩)) _ _ s
  refine wpAny_bind (wpAny_newObj_type ?_)
  refine wpAny_pure ⟨plainId_quiet F.plain_list_iadd _, codeAny_builtin F.entry_list_iadd ?_⟩
  rw [Around.under_plainId F.plain_list_iadd _]
  show wpAny _ A.in1 (Builtin.List.listExtendWith (.ref s.heap.objs.size) (.ref r) (.ref s.heap.objs.size)) _ _ _
  refine wpAny_mono (PySem.W.kdl_extend (A := A) (R := Gath s n P) (s := { s with heap := s.heap.push { cls := .type "list", data := .seq ([] : List Value).toArray } }) S hh (S.keep _ _ hok fun b _ o e => Heap.get?_push_of_some _ e) s.heap.objs.size (Nat.ne_of_gt lt.1) (Nat.ne_of_gt lt.2) _ 0 (Heap.get?_push_size _ rfl)
    (fun h' tk acc c' hk e hi => ⟨rfl, h', tk, acc, c', rfl, fun b o q => hk b o (Nat.ne_of_lt (Heap.lt_size q)) (Heap.get?_push_of_some _ q), e, hi⟩) hn) (fun fin s' h => ?_) (fun e s' h => ?_)
  · cases fin with
    | done f =>
      obtain ⟨e, h', tk, acc, c', rfl, hk, hS', hi⟩ := h
      cases e
      show wpAny _ A (load s.heap.objs.size >>= _) _ _ _
      exact wpAny_bind (wpAny_load hS' (wpAny_pure (hQ h' tk acc hk hi)))
    | again c' =>
      refine ⟨h.1, codeAny_mono h.2 fun rr s'' hr' => ?_⟩
      obtain ⟨rfl, h', tk, acc, c', rfl, hk, hS', hi⟩ := hr'
      show wpAny _ A (load s.heap.objs.size >>= _) _ _ _
      exact wpAny_bind (wpAny_load hS' (wpAny_pure (hQ h' tk acc hk hi)))
  · exact absurd h.1 (by simp)
theorem new_of {Q₁ : Value → Shared → Prop} (S : PySem.W.KdlSrc prog w T r d n P OK) (hh : A.handled = none) (hok : OK s.heap) (hn : n ≤ sizeLine)
    (h : ∀ (h' : Heap) (tk : Nat) (acc : Array Value), (∀ b o, s.heap.get? b = some o → h'.get? b = some o) → ItemsOf P acc n → Q₁ (.ref h'.objs.size) { s with heap := h'.push { cls := .type "tuple", data := .seq acc }, toks := tk }) :
    codeAny (model prog w) A (.call (.builtin "tuple.__new__") ⟨[.type "tuple", .ref r], []⟩) (wants Q₁ E) s := by
  refine codeAny_of_tree ?_
  show wpAny _ A.in1 (do checkBuiltinCall "tuple.__new__" ⟨[.type "tuple", .ref r], []⟩; again (.builtin "tuple.__new__" ⟨[.type "tuple", .ref r], []⟩)) _ _ s
  refine wpAny_bind (wpAny_of_eq (F.newCall_tuple_1 _) (wpAny_pure ⟨plainId_quiet F.plain_tuple_new _, codeAny_builtin F.entry_tuple_new ?_⟩))
  rw [Around.under_plainId F.plain_tuple_new _]
  have hsub := sub_tuple_self
  have hinit := init_tuple_lookup
  have hmh := madeHere_tuple
  have hTI := S.type s hok
  have hnl := S.notList
  have hnt := S.notTuple
  have hh1 : A.in1.handled = none := hh
  wp_walk using wpAny_typeOf hTI, gather (A := A.in1) S hh1 hok hn
  intro h' tk acc hk hacc
  show wpAny _ _ (Builtin.Tuple.tupleExact acc.toList.toArray >>= fun v => ret v) _ _ _
  have e : acc.toList.toArray = acc := by simp
  rw [e]
  unfold Builtin.Tuple.tupleExact
  refine wpAny_bind (wpAny_newObj_type ?_ (by show acc.size ≤ sizeLine; rw [hacc.1]; exact hn))
  exact wpAny_pure (h h' tk acc hk hacc)
theorem call_of {Q : Value → Shared → Prop} (S : PySem.W.KdlSrc prog w T r d n P OK) (hh : A.handled = none) (hok : OK s.heap) (hn : n ≤ sizeLine)
    (hQ : ∀ (h' : Heap) (tk : Nat) (acc : Array Value), (∀ b o, s.heap.get? b = some o → h'.get? b = some o) → ItemsOf P acc n → Q (.ref h'.objs.size) { s with heap := h'.push { cls := .type "tuple", data := .seq acc }, toks := tk }) :
    wpAny (model prog w) A (call (.type "tuple") [.ref r]) Q E s :=
  callType_codes (Q₁ := fun obj s₁ => s₁.TypeIs obj "tuple" ∧ Q obj s₁) F.called_tuple (F.typeCall_tuple_1 _) F.entry_object_init
    (new_of (A := A.in1) S hh hok hn fun h' tk acc hk hacc => ⟨⟨_, Heap.get?_push_size _ rfl, rfl⟩, hQ h' tk acc hk hacc⟩) fun obj s₁ h₁ =>
    ⟨h₁.1, F.args_object_init_2 obj _, object_init_meets F.called_tuple.init.lookup F.called_tuple.made (by decide) prog w A.in1 _ s₁ ⟨h₁.1, rfl, h₁.2⟩⟩
end
/-- tuple(d), d's keys tuples -/
def rTupD : List V → Hp → VK → Prop := fun xs H Q => ∃ d kvs, xs = [V.ref d] ∧ Rd H d (.dT kvs) ∧ ∀ p bs, H p = none → IsKeys H kvs bs → Q (.ref p) (upd H p (.tup (bs.map V.ref)))
theorem call_tuple_dT {X : Cx} (hc : X.calm = true) : CallR X (.type "tuple") rTupD := by
  intro pins s σ H xs us Q I r h
  obtain ⟨d, kvs, rfl, hd, q⟩ := h
  obtain ⟨u, rfl, rx⟩ := r.one
  cases rx
  obtain ⟨z, hs, ks, pr, o, es, ep, ho, hx, hdt, he, hn⟩ := (show ObjOk X.prog X.w H s.heap d (.dT kvs) from hd.ok I.hok)
  have l1 : es.size = ks.length := size_of_entries he
  have l2 : kvs.length = ks.length := Paired.length pr
  refine call_of (kdl_raw hs hx hdt) (I.ok.hd hc) ho (by omega) fun h' tk acc kp it => ?_
  have eb : acc.toList = (ks.map fun x => x.2.1).map Value.ref := by
    rw [List.map_map]
    refine List.ext_getElem? fun j => ?_
    rw [List.getElem?_map]
    have hl : acc.toList.length = ks.length := by rw [Array.length_toList, it.1]; exact l1
    cases hb : ks[j]? with
    | none =>
      have h1 := List.getElem?_eq_none_iff.mp hb
      exact List.getElem?_eq_none (by omega)
    | some b =>
      have hj := (List.getElem?_eq_some_iff.mp hb).1
      have hv := List.getElem?_eq_getElem (l := acc.toList) (i := j) (by omega)
      obtain ⟨en, hen, e2⟩ := it.2 j _ (by rw [← Array.getElem?_toList]; exact hv)
      have qe := entry_at he j
      rw [hen, hb] at qe
      rw [hv, e2, show en = entryOfKey (tupleKind (mixKind X.prog X.w)) b from Option.some.inj qe]
      rfl
  have rv : Vals ((ks.map fun x => x.2.1).map V.ref) acc.toList := by rw [eb]; exact vals_refs _
  have hz : ((ks.map fun x => x.2.1).map V.ref).length ≤ sizeLine := by rw [List.length_map, List.length_map]; omega
  have I1 : Inv X pins σ H { s with heap := h', toks := tk } := I.kept (t' := tk) kp
  refine ⟨.ref h'.objs.size, _, I1.laid (t' := tk) (o := .tup ((ks.map fun x => x.2.1).map V.ref)) (fun b o e => Heap.get?_push_of_some _ e) (Nat.le_refl _) ?_, rfl, q _ _ (I1.hok.fresh (Nat.le_refl _)) (isKeys_of pr)⟩
  refine ⟨hz, acc.toList, rv, ?_⟩
  have e : acc.toList.toArray = acc := by simp
  rw [e]
  exact IsTup.new _ _
end TpD
/-! set(t), t a tuple of tuples of ints with few unlike ones, however many there are -/
namespace SeP
open PySem PySem.Spec PyProof.Rows L2
section
variable {P : Program} {w : World} {A : Around} {E : Value → Shared → Prop} {s : Shared}
/-- a set that is just made -/
abbrev sob (w : World) : Obj := { cls := .type "set", dict := none, data := .set #[] 0 (.fresh 0 0 (!w.params.followText "set-order")) }
/-- fewer than 63 unlike ones -/
def Few (ks : List (Addr × List Int)) : Prop := ∀ L : List (Addr × List Int), (∀ p ∈ L, p ∈ ks) → (L.map (·.2)).Nodup → L.length < 63
/-- the set at S holds what the first i brought -/
def Into (P : Program) (w : World) (ks : List (Addr × List Int)) (S : Addr) (i : Nat) (h : Heap) : Prop := ∃ L es ep t, SetTR P w h S L es ep t ∧ Got ks i L
theorem Into.sub {ks L : List (Addr × List Int)} {i : Nat} (g : Got ks i L) : ∀ p ∈ L, p ∈ ks := fun p hp => List.mem_of_mem_take (g.sub p hp)
theorem Into.keep {ks : List (Addr × List Int)} {S : Addr} {i : Nat} {h0 h h' : Heap} (x : Into P w ks S i h) (hk : ∀ p ∈ ks, IsT P w h0 p.2 p.1) (k0 : ∀ b o, h0.get? b = some o → h'.get? b = some o) (kS : ∀ o, h.get? S = some o → h'.get? S = some o) : Into P w ks S i h' := by
  obtain ⟨L, es, ep, t, R, g⟩ := x
  exact ⟨L, es, ep, t, R.keep (fun o e => kS o e) fun p hp => isT_keep (hk p (Into.sub g p hp)) k0, g⟩
/-- one more -/
theorem Into.add {ks : List (Addr × List Int)} {S : Addr} {i : Nat} {p : Addr × List Int} {Q : Bool → Shared → Prop} (few : Few ks) (x : Into P w ks S i s.heap) (hp : ks[i]? = some p) (hx : IsT P w s.heap p.2 p.1) (hu : A.units < cLine)
    (h : ∀ b h' tk, Heap.SameBut S s.heap h' → Into P w ks S (i + 1) h' → s.toks ≤ tk → Q b { s with heap := h', toks := tk }) : wpAny (model P w) A (setAdd S (.ref p.1)) Q E s := by
  obtain ⟨L, es, ep, t, R, g⟩ := x
  have hl := few L (Into.sub g) R.nd
  unfold setAdd
  refine wpAny_holding ?_
  refine wpAny_bind (wpAny_pyHash_tuple hu hx ?_)
  refine add_at (s := { s with toks := s.toks + (p.2.length + 1) }) R hx hu (by omega) fun b h' L' es' ep' t' hsb R2 c1 c2 => ?_
  refine h b h' _ hsb ⟨L', es', ep', t', R2, ?_⟩ (Nat.le_add_right _ _)
  rcases Classical.em (p.2 ∈ L.map (·.2)) with c | c
  · rw [c1 c]
    exact g.same hp c
  · exact g.more hp (c2 c)
/-- the loop of set.update over a walk of such tuples -/
theorem loop {I : Addr} {fp wr : List Addr} {G : Array GenState → Array GenState → Prop} {n : Nat} {Pv : Nat → Value → Prop} {St : Nat → Shared → Prop} {Z : Result → Shared → Prop}
    (W : WalksS P w A.in1 I fp wr G n Pv St) {S : Addr} (hSf : S ∉ fp) {ks : List (Addr × List Int)} (few : Few ks) (hval : ∀ i v, Pv i v → ∃ p, ks[i]? = some p ∧ v = .ref p.1)
    {h0 : Heap} (hk : ∀ p ∈ ks, IsT P w h0 p.2 p.1) (hS0 : h0.get? S = none) (hw0 : ∀ b ∈ wr, h0.get? b = none) (hu : A.in1.units < cLine) :
    ∀ (m : Nat) (s : Shared), m ≤ n → St (n - m) s → (∀ b o, h0.get? b = some o → s.heap.get? b = some o) → Into P w ks S (n - m) s.heap →
      (∀ s', Moved (S :: wr) G s s' → Into P w ks S n s'.heap → (∀ b o, h0.get? b = some o → s'.heap.get? b = some o) → Z (.ok (.ret .none)) s') →
      codeAny (model P w) A (.builtin "set.update.loop" ⟨[.ref S, .ref I], []⟩) Z s := by
  have hSw : S ∉ wr := fun h => hSf (W.sub _ h)
  have old : ∀ {s s' : Shared}, Moved wr G s s' → (∀ b o, h0.get? b = some o → s.heap.get? b = some o) → ∀ b o, h0.get? b = some o → s'.heap.get? b = some o := fun hm q b o e =>
    hm.heap b o (fun hb => by rw [hw0 b hb] at e; cases e) (q b o e)
  have up : ∀ {s s' : Shared}, Moved wr G s s' → Moved (S :: wr) G s s' := fun hm => hm.mono fun b hb => List.mem_cons_of_mem _ hb
  intro m
  induction m with
  | zero =>
    intro s _ st q x hZ
    refine codeAny_builtin F.entry_set_update_loop ?_
    rw [Around.under_plainId F.plain_set_update_loop _]
    show wpAny _ A.in1 (pyNext (.ref I) >>= _) _ _ s
    refine wpAny_bind (W.done s _ _ st fun s' hm => ?_)
    show wpAny _ A.in1 (ret Value.none) _ _ s'
    exact wpAny_pure (hZ s' (up hm) (x.keep hk (old hm q) fun o e => hm.heap S o hSw e) (old hm q))
  | succ m ih =>
    intro s hmn st q x hZ
    have e1 : n - (m + 1) + 1 = n - m := by omega
    refine codeAny_builtin F.entry_set_update_loop ?_
    rw [Around.under_plainId F.plain_set_update_loop _]
    show wpAny _ A.in1 (pyNext (.ref I) >>= _) _ _ s
    refine wpAny_bind (W.item (n - (m + 1)) s _ _ (by omega) st fun v s' hP st' hm => ?_)
    obtain ⟨p, hp, rfl⟩ := hval _ v hP
    have q' := old hm q
    show wpAny _ A.in1 (holding [Value.ref p.1] (setAdd S (.ref p.1)) >>= _) _ _ s'
    refine wpAny_bind (wpAny_holding ?_)
    refine Into.add few (x.keep hk q' fun o e => hm.heap S o hSw e) hp (isT_keep (hk p (List.mem_of_getElem? hp)) q') hu fun b h' tk sb x2 htk => ?_
    have q2 : ∀ b o, h0.get? b = some o → h'.get? b = some o := fun b o e => (sb.2 b (fun z => by rw [z, hS0] at e; cases e)).trans (q' b o e)
    rw [e1] at x2 st'
    refine wpAny_pure ⟨plainId_quiet F.plain_set_update_loop _, ih _ (by omega) (W.frame _ s' _ _ st' htk fun b hb o e => ?_) q2 x2 fun s'' hm'' x'' q'' => ?_⟩
    · rw [sb.2 b (fun h : b = S => hSf (by rw [← h]; exact hb))]
      exact e
    · refine hZ s'' (Moved.trans W.gtrans ((up hm).then_heap htk fun b o hb e => ?_) hm'') x'' q''
      rw [sb.2 b (fun h : b = S => hb (by rw [h]; exact List.mem_cons_self))]
      exact e
/-- what set(t) leaves -/
def Left (P : Program) (w : World) (s : Shared) (ks : List (Addr × List Int)) (s' : Shared) : Prop := ∃ h' tk, s' = { s with heap := h', toks := tk } ∧ Into P w ks s.heap.objs.size ks.length h' ∧ ∀ b o, s.heap.get? b = some o → h'.get? b = some o
theorem call_set_tup {l : Addr} {items : Array Value} {ks : List (Addr × List Int)} {Q : Value → Shared → Prop} (hh : A.handled = none) (hl : s.heap.IsTuple l items) (hit : items.toList = ks.map fun p => Value.ref p.1)
    (hk : ∀ p ∈ ks, IsT P w s.heap p.2 p.1) (few : Few ks) (hu : A.units + 3 < cLine) (h : ∀ s', Left P w s ks s' → Q (.ref s.heap.objs.size) s') :
    wpAny (model P w) A (call (.type "set") [.ref l]) Q E s := by
  have hisz : items.size = ks.length := by
    have q := congrArg List.length hit
    rw [Array.length_toList, List.length_map] at q
    exact q
  have above : ∀ b, s.heap.objs.size ≤ b → s.heap.get? b = none := fun b hb => by
    cases q : s.heap.get? b with
    | none => rfl
    | some o => exact absurd (Nat.lt_of_lt_of_le (Heap.lt_size q) hb) (Nat.lt_irrefl _)
  obtain ⟨c, tl, hmro⟩ := F.called_set.mro
  have hmade := F.called_set.made
  have hsub := F.called_set.sub
  refine wpAny_call (codeAny_of_tree ?_)
  show wpAny _ _ (callAny (.type "set") _) _ _ _
  refine wpAny_pure ⟨Code.quiet_builtin _ (by decide +kernel), codeAny_builtin F.entry_type_call ?_⟩
  rw [Around.under_plain (weight_type_call_type "set" [.ref l] []) rfl]
  have h1 := F.called_set.notType
  have h2 := F.called_set.canCreate
  have hct := F.typeCall_set_1 (.ref l)
  repeat (any_goals (first | assumption | wp_step))
  refine codeAny_mono (code_set_led1 (.ref l) (E := E) (Q₁ := fun obj s₁ => obj = .ref s.heap.objs.size ∧ s₁ = { s with heap := s.heap.push (sob w) }) ⟨rfl, rfl⟩) fun r s₁ hr => ?_
  cases r with
  | error e => exact hr
  | ok fl =>
    cases fl with
    | ret obj =>
      obtain ⟨rfl, rfl⟩ := hr
      have hS : (s.heap.push (sob w)).get? s.heap.objs.size = some (sob w) := Heap.get?_push_size _ rfl
      have hT : Shared.TypeIs { s with heap := s.heap.push (sob w) } (.ref s.heap.objs.size) "set" := ⟨_, hS, rfl⟩
      have hli := F.called_set.init.lookup
      have hbi := F.called_set.init.bind (.ref s.heap.objs.size)
      repeat (any_goals (first | assumption | wp_step))
      refine codeAny_mono (codeAny_call_builtin (R := wants (fun r s₂ => r = .none ∧ Left P w s ks s₂) E) F.called_set.init.plain F.entry_set_init (check_set_init_1 hT ?_)) fun r₂ s₂ hr₂ => ?_
      · obtain ⟨ol, hol, hcl, nl, hdl⟩ := hl
        obtain ⟨ocls, odict, odata, oslots⟩ := ol
        simp only at hcl hdl
        subst hcl; subst hdl
        have hol' : (s.heap.push (sob w)).get? l = some { cls := .type "tuple", dict := odict, data := .seq items nl, slots := oslots } := Heap.get?_push_of_some _ hol
        have hsls := F.sub_tuple_set
        have hslf := F.sub_tuple_frozenset
        have hne : (Value.type "tuple" == Value.type "dict") = false := by decide
        have hl1 : (s.heap.push (sob w)).IsTuple l items := ⟨_, hol', rfl, nl, rfl⟩
        unfold Builtin.«set.__init__» noKeywords Builtin.Frozenset.updateFrom
        generalize hPI : pyIter = PI
        wp_walk
        subst hPI
        refine wpAny_pyIter_tuple hl1 ?_
        refine wpAny_bind (wpAny_runValue ?_)
        have hlS : l < s.heap.objs.size := Heap.lt_size hol
        have hz1 : (s.heap.push (sob w)).objs.size = s.heap.objs.size + 1 := Heap.size_push ..
        have hW := (Walks.tuple (prog := P) (w := w) (A := A.in1.in1.in1) (by simp [hh]) (s.heap.push (sob w)).objs.size l (by rw [hz1]; exact Nat.ne_of_lt (Nat.lt_succ_of_lt hlS)) items).toS
        have hval : ∀ (i : Nat) (v : Value), items[i]? = some v → ∃ p, ks[i]? = some p ∧ v = .ref p.1 := fun i v hv => by
          have q : items.toList[i]? = some v := by rw [Array.getElem?_toList]; exact hv
          rw [hit, List.getElem?_map] at q
          obtain ⟨p, hp, e⟩ := Option.map_eq_some_iff.mp q
          exact ⟨p, hp, e.symm⟩
        have hget : ((s.heap.push (sob w)).push { cls := .type "tuple_iterator", data := .fields #[.ref l, .int 0 0] }).get? s.heap.objs.size = some (sob w) := Heap.get?_push_of_some _ hS
        refine loop hW (S := s.heap.objs.size) (fun hb => ?_) few hval hk (above _ (Nat.le_refl _)) (fun b hb => above b ?_) hu items.size _ (Nat.le_refl _) ?_ (fun b o e => Heap.get?_push_of_some _ (Heap.get?_push_of_some _ e)) ?_ (fun s' hm x q => ?_)
        · rw [hz1] at hb
          simp only [List.mem_cons, List.mem_singleton, List.not_mem_nil, or_false] at hb
          rcases hb with z | z
          · exact absurd z (Nat.ne_of_lt (Nat.lt_succ_self _))
          · exact absurd z (Nat.ne_of_gt hlS)
        · rw [List.mem_singleton.mp hb, hz1]
          exact Nat.le_succ _
        · rw [Nat.sub_self]
          exact ⟨⟨_, Heap.get?_push_size _ rfl, rfl, rfl⟩, hl1.push _⟩
        · rw [Nat.sub_self]
          exact ⟨[], #[], 0, _, setTR_fresh hget, Got.zero ks⟩
        · obtain ⟨h', g2, d', tk', os'⟩ := s'
          have eg : g2 = s.gens := hm.gens
          have ed : d' = s.drawn := hm.drawn
          have eo : os' = s.os := hm.os
          subst eg; subst ed; subst eo
          show wpAny _ _ _ _ _ _
          refine wpAny_pure ?_
          show wpAny _ _ (ret Value.none) _ _ _
          rw [hisz] at x
          exact wpAny_pure ⟨rfl, h', tk', rfl, x, q⟩
      · cases r₂ with
        | error e => exact hr₂
        | ok fl₂ =>
          cases fl₂ with
          | ret r =>
            obtain ⟨rfl, hL⟩ := hr₂
            have hL0 := id hL
            obtain ⟨h', tk, rfl, hx, hq⟩ := hL
            repeat (any_goals (first | assumption | wp_step))
            exact h _ hL0
          | _ => exact hr₂.elim
    | _ => exact hr.elim
end
/-- set(t), t a tuple of tuples of ints, fewer than 63 of them unlike -/
def rSetTup (K : PySem.W.Frag) (P : Program) (w : World) : List V → Hp → VK → Prop := fun xs H Q => ∃ (l : Addr) (ks : List (Addr × List Int)), xs = [V.ref l] ∧ SqT K H l (ks.map fun p => V.ref p.1) ∧ (∀ p ∈ ks, SqT K H p.1 (p.2.map V.int)) ∧ Few ks ∧
  ∀ a L, H a = none → (∀ p ∈ L, p ∈ ks) → (∀ p ∈ ks, p.2 ∈ L.map (·.2)) → Q (.ref a) (upd H a (SetTO P w a L))
theorem cr_setTup {X : Cx} (hc : X.calm = true) (hu : X.A.units + 64 < cLine) : CallR X (.type "set") (rSetTup X.K X.prog X.w) := by
  intro pins s σ H xs us Q I r h
  obtain ⟨l, ks, rfl, hl, hk, hf, q⟩ := h
  rw [Vals.ref1 r]
  obtain ⟨its, rv, pl, hz⟩ := I.tuple hl
  have hn : H s.heap.objs.size = none := I.hok.fresh (Nat.le_refl _)
  refine call_set_tup (P := X.prog) (w := X.w) (I.ok.hd hc) pl (by simpa using refs_of_vals rv) (fun p hp => I.isT (hk p hp)) hf (by omega) fun s' hL => ?_
  obtain ⟨h', tk, rfl, ⟨L, es, ep, t, R, g⟩, k⟩ := hL
  refine ⟨.ref s.heap.objs.size, upd H s.heap.objs.size (SetTO X.prog X.w s.heap.objs.size L), I.laid (t' := tk) k (Nat.le_refl _) (setTO_new R.t0), rfl, q _ L hn (Into.sub g) fun p hp => ?_⟩
  exact g.all p (by rw [List.take_length]; exact hp)
theorem cr_setTupK {X : Cx} {K : PySem.W.Frag} {P : Program} {w : World} (h1 : X.K = K) (h2 : X.prog = P) (h3 : X.w = w) (hc : X.calm = true) (hu : X.A.units + 64 < cLine) : CallR X (.type "set") (rSetTup K P w) := by
  subst h1 h2 h3
  exact cr_setTup hc hu
end SeP
namespace NeD
open PySem PySem.Spec PyProof.Rows L2
/-! a dict of nested keys, locked while it is walked -/
/-- the locked dict at a holds these entries -/
def NDF (K : PySem.W.Frag) (P : Program) (w : World) (H : Hp) (a : Addr) (o : Obj) (xs : List Ent) : Prop :=
  H a = some (.frz o (dno P w a xs)) ∧ (∀ x ∈ xs, NK K H (.ref x.2.1) x.1 ∧ x.1.depth ≤ 8) ∧ (xs.map (·.1)).Nodup ∧ xs.length ≤ sizeLine
theorem frzN {X : Cx} {pins : List (Addr × Obj)} {σ : L2.St} {H : Hp} {s : Shared} {d : Addr} {o : Obj} {xs : List Ent} (I : Inv X pins σ H s) (h : H d = some (.frz o (dno X.prog X.w d xs))) :
    (d == sysModules) = false ∧ s.heap.get? d = some o ∧ o.ExactDict ∧ ∃ (es : Array DictEntry) (ep : Nat) (vs : List (NestedKey × Addr × Value)), o.data = .dict es ep ∧ es.size = xs.length ∧ KX xs vs ∧ es.toList = vs.map (entryOfKey (nestedKind X.prog X.w)) ∧
      ∀ (i : Nat) (e : Ent), xs[i]? = some e → ∃ en : DictEntry, es[i]? = some en ∧ en.key = .ref e.2.1 := by
  have ok : ObjOk X.prog X.w H s.heap d (.frz o (.ext fun h => (d == sysModules) = false ∧ ∃ vs o es ep, KX xs vs ∧ h.get? d = some o ∧ o.ExactDict ∧ o.data = .dict es ep ∧ es.toList = vs.map (entryOfKey (nestedKind X.prog X.w)))) := I.hok d _ h
  obtain ⟨hd, ⟨hs, vs, o', es, ep, r, ho, hx, hdt, he⟩, _⟩ := ok
  rw [hd] at ho
  cases ho
  have l2 : xs.length = vs.length := Paired.length r
  refine ⟨hs, hd, hx, es, ep, vs, hdt, ?_, r, he, fun i e hi => ?_⟩
  · have l1 : es.size = vs.length := size_of_entries he
    omega
  · obtain ⟨b, hb, e1, e2, _⟩ := paired_get r hi
    have q := entry_at he i
    rw [hb] at q
    exact ⟨_, q, by rw [e2]; rfl⟩
/-- the keys of the locked dict, in their order -/
def ItN (P : Program) (w : World) (d : Addr) (o : Obj) (xs : List Ent) : It :=
  ⟨fun i H => H d = some (.frz o (dno P w d xs)) ∧ i < xs.length, fun i H x H' => H' = H ∧ ∃ e : Ent, xs[i]? = some e ∧ x = .ref e.2.1, fun i H => H d = some (.frz o (dno P w d xs)) ∧ xs.length ≤ i⟩
theorem turn_keysN {P : Program} {w : World} {K : PySem.W.Frag} {tg : Expr} {d : Addr} {o : Obj} {es : Array DictEntry} {ep : Nat} {xs : List Ent} (it : Addr) (hod : o.data = .dict es ep) : Turn P w K tg (ItN P w d o xs) [it] it (fun i h => h.IsKeyIter it d i xs.length ep) where
  mem := by simp
  obj := fun i h st b hb => by
    have e : b = it := by simpa using hb
    subst e
    obtain ⟨oi, e, c, dd⟩ := st
    exact ⟨oi, e, fun v z => by rw [dd] at z; cases z⟩
  keep := fun i h h' st k => st.at fun oi e => k it (by simp) oi e
  item := by
    intro X hP hw hK hc i pins s σ H E I hf st hg
    subst hP hw hK
    obtain ⟨hd, hi⟩ := hg
    obtain ⟨f0, f1, f2, f3, f4, f5⟩ := hf it (by simp)
    obtain ⟨hs, hgd, hx, es', ep', vs, hdt, hsz, r, he, ent⟩ := frzN I hd
    obtain ⟨rfl, rfl⟩ := dict_ep hod hdt
    obtain ⟨e0, hkv⟩ : ∃ p, xs[i]? = some p := ⟨xs[i], List.getElem?_eq_getElem hi⟩
    obtain ⟨en, hen, hkey⟩ := ent i e0 hkv
    refine next_key_item st hgd hdt hsz hen fun h' st' sb => ?_
    have I1 : Inv X pins σ H { s with heap := h' } := I.turned (t' := s.toks) (fun b ob hb e => (sb.2 b hb).trans e) f0 f1 f3 f4 f5
    obtain ⟨oi, e, c, dd⟩ := id st'
    exact ⟨en.key, rfl, go_of (s := { s with heap := h' }) e c dd (by decide) ⟨.ref e0.2.1, H, I1, hkey, ⟨rfl, e0, hkv, rfl⟩, st', fun b hb => (hf b hb).1⟩⟩
  done := by
    intro X hP hw hK hc i pins s σ H E I hf st hg
    subst hP hw hK
    obtain ⟨hd, hi⟩ := hg
    obtain ⟨f0, f1, f2, f3, f4, f5⟩ := hf it (by simp)
    obtain ⟨hs, hgd, hx, es', ep', vs, hdt, hsz, r, he, ent⟩ := frzN I hd
    obtain ⟨rfl, rfl⟩ := dict_ep hod hdt
    exact next_key_end (I.ok.hd hc) st hgd hdt hsz hi fun h' eb => ⟨rfl, I.turned (t' := s.toks) (fun b ob hb e => eb b ob hb e) f0 f1 f3 f4 f5⟩
  self := fun A i s Q E st h => by
    refine wpAny_pyIter_slot st.typeIs F.slot_dict_keyiterator_iter (wpAny_call_entry F.slot_dict_keyiterator_iter st.typeIs F.entry_dict_keyiterator_iter ?_ (F.args_dict_keyiterator_iter_1 _))
    show wpAny _ _ (ret (.ref it)) _ _ s
    exact wpAny_pure ⟨_, rfl, "dict_keyiterator", _, st.typeIs, F.slot_dict_keyiterator_next.lookup, h⟩
def iKeysN (P : Program) (w : World) (td : TE) : TI := fun σ H R => td σ H fun x H1 => ∃ d o xs, x = .ref d ∧ H1 d = some (.frz o (dno P w d xs)) ∧ R (ItN P w d o xs) H1
theorem pi_keysN {X : Cx} {tg e : Expr} {td : TE} (he : PE X e td) : PI X tg e (iKeysN X.prog X.w td) := by
  refine ⟨fun pins s σ H R I h => ?_⟩
  refine thn (he.run pins s σ H _ I h) fun u s1 ⟨x, H1, I1, rx, d, o, xs, ex, hd, q⟩ => ?_
  subst ex
  obtain rfl : u = Value.ref d := rx
  obtain ⟨hs, hgd, hx, es, ep, vs, hdt, hsz, r, he', ent⟩ := frzN I1 hd
  refine iter_keys hs hgd hx hdt (pi_one (tk := s1.toks) I1 _ (turn_keysN _ hdt) ⟨_, Heap.get?_push_size _ rfl, rfl, ?_⟩ q)
  rw [hsz] <;> rfl
theorem walk_keysN {P : Program} {w : World} {d : Addr} {o : Obj} {xs : List Ent} : Walk (ItN P w d o xs) xs.length (fun H => H d = some (.frz o (dno P w d xs))) (fun i H x H' => H' = H ∧ ∃ e : Ent, xs[i]? = some e ∧ x = .ref e.2.1) :=
  ⟨fun _ _ hi q => ⟨q, hi⟩, fun _ q => ⟨q, Nat.le_refl _⟩, fun _ _ _ _ _ _ y => y⟩
section
variable {X : Cx} {pins : List (Addr × Obj)} {σ : L2.St} {H : Hp} {s : Shared} {a : Addr} {o' : Obj} {xs : List Ent} {k : NestedKey} {A : Around} {E : Value → Shared → Prop}
theorem NDF.at (I : Inv X pins σ H s) (D : NDF X.K X.prog X.w H a o' xs) : ∃ vs, KX xs vs ∧ s.heap.DictOfH (nestedKind X.prog X.w) a vs := by
  obtain ⟨e, hk, hn, hz⟩ := D
  obtain ⟨hs, ho, he, es, ep, vs, hd, hz2, r, hm, hz3⟩ := frzN I e
  refine ⟨vs, r, o', es, ep, ho, he, hd, hm, ?_, by rw [r.keys]; exact hn⟩
  clear hm he hd hn hz hz2 hz3 e
  induction r with
  | nil => exact fun x hx => nomatch hx
  | @cons p q ps qs h t ih =>
    intro x hx
    rcases List.mem_cons.mp hx with z | hx
    · subst z
      have hp := hk p List.mem_cons_self
      rw [h.1, h.2.1] at hp
      exact ⟨NK.is I _ _ _ hp.1 rfl, hp.2⟩
    · exact ih (fun y hy => hk y (List.mem_cons_of_mem _ hy)) x hx
theorem ndf_get {b : Addr} {y : V} {Q : Value → Shared → Prop} (hu : A.units + 9 < cLine) (I : Inv X pins σ H s) (D : NDF X.K X.prog X.w H a o' xs) (hb : NK X.K H (.ref b) k) (hd : k.depth ≤ 8) (hv : valV (xs.map fun x => (x.1, x.2.2)) k = some y) (h : ∀ u s', Inv X pins σ H s' → RelV y u → Q u s') :
    wpAny (model X.prog X.w) A (getItem (.ref a) (.ref b)) Q E s := by
  obtain ⟨vs, r, dd⟩ := NDF.at I D
  have q := r.val k
  rw [hv] at q
  obtain ⟨u, eu, ru⟩ := RelO.some_of (v := y) (o := (atKey vs k).map (·.2)) (by exact q)
  obtain ⟨p, hp, hp2⟩ := Option.map_eq_some_iff.mp eu
  refine wpAny_getItem_heap (knd := nestedKind X.prog X.w) (show A.units + 1 + 8 < cLine by omega) ⟨NK.is I _ _ _ hb rfl, hd⟩ dd hp ?_
  rw [hp2]
  exact h u _ (I.tok _) ru
end
def tGetF (K : PySem.W.Frag) (P : Program) (w : World) (td ty : TE) : TE := fun σ H Q => td σ H fun x H1 => ty σ H1 fun y H2 => ∃ b a o xs k v, y = .ref b ∧ x = .ref a ∧ NDF K P w H2 a o xs ∧ NK K H2 (.ref b) k ∧ k.depth ≤ 8 ∧ valV (xs.map fun x => (x.1, x.2.2)) k = some v ∧ Q v H2
theorem pe_getF {X : Cx} {o i : Expr} {td ty : TE} {pos : Pos} (hu : X.A.units + 64 < cLine) (ho : PE X o td) (hi : PE X i ty) (hs : NoSl i) : PE X (.Subscript o i pos) (tGetF X.K X.prog X.w td ty) := by
  refine ⟨fun pins s σ H Q I h => ?_⟩
  refine subD_of PySem.F.slot_dict_getitem.lookup hs (thn (ho.run pins s σ H _ I h) fun u s1 ⟨x, H1, I1, rx, q1⟩ => thn (hi.run pins s1 σ H1 _ I1 q1) fun iv s2 ⟨y, H2, I2, ry, b, a, o', xs, k, v, ey, ex, D, hb, hd, hv, q2⟩ => ?_)
  subst ex ey
  obtain rfl : u = Value.ref a := rx
  obtain rfl : iv = Value.ref b := ry
  obtain ⟨vs, r, dd⟩ := NDF.at I2 D
  exact ⟨dd.typeIs, ndf_get (by omega) I2 D hb hd hv fun w' s3 I3 rw' => ⟨v, H2, I3, rw', q2⟩⟩
end NeD
/-! DL3: operators and calls by data. -/
namespace Dl
open PySem L2

/-! ### data as the library's data -/
mutual
def D.py : D → PyData
  | .non => .none
  | .bl b => .bool b
  | .int i => .int i
  | .str x => .str x
  | .tup xs => .tuple (pys xs)
  | .lst xs => .list (pys xs)
  | .zl xs => .list (pys xs)
  | .ty _ => .none
  | .glob _ => .none
  | .dK _ => .none
  | .dT _ => .none
  | .dN _ => .none
  | .ins _ _ => .none
  | .exc _ _ _ _ => .none
def pys : List D → List PyData
  | [] => []
  | d :: ds => d.py :: pys ds
end
mutual
def D.pk : D → Bool
  | .non => true
  | .bl b => true
  | .int i => true
  | .str x => true
  | .tup xs => pks xs
  | .lst xs => pks xs
  | .zl xs => pks xs
  | .ty _ => false
  | .glob _ => false
  | .dK _ => false
  | .dT _ => false
  | .dN _ => false
  | .ins _ _ => false
  | .exc _ _ _ _ => false
def pks : List D → Bool
  | [] => true
  | d :: ds => d.pk && pks ds
end
section
variable {S : Sys} {B : Vol} {A : As} {H : Hp}
mutual
theorem RD.dp : ∀ (d : D) (v : V), d.pk = true → RD S A H v d → Dp S.K H v d.py
  | .non, _, _, .non => .non
  | .bl _, _, _, .bl b => .bl b
  | .int _, _, _, .int i => .int i
  | .str _, _, _, .str x => .str x
  | .tup xs, _, h, .tup e r => .tup (.inl (.inl e)) (RDs.dp xs _ h r)
  | .lst xs, _, h, .lst e n r => .lst (SqL.of e) (RDs.dp xs _ h r)
  | .zl xs, _, h, .zl e r => .lst e.sq (RDs.dp xs _ h r)
  | .exc _ _ _ _, _, h, _ => nomatch h
theorem RDs.dp : ∀ (ds : List D) (vs : List V), pks ds = true → RDs S A H vs ds → DpAll S.K H vs (pys ds)
  | [], _, _, .nil => .nil
  | d :: ds, _, h, .cons r rs => by
    unfold pks at h
    rw [Bool.and_eq_true] at h
    exact .cons (RD.dp d _ h.1 r) (RDs.dp ds _ h.2 rs)
end
theorem TV.dp {v : V} {d : D} (h : TV S A H v d) (k : d.pk = true) : Dp S.K H v d.py := by
  rcases h with h | ⟨p, rfl, h⟩
  · exact h.dp d v k
  · cases d with
    | lst ds => obtain ⟨vs, e, r⟩ := h; exact .lst (SqL.of e) (r.dp ds vs k)
    | dK kds => cases k
    | dT kds => cases k
    | dN kds => cases k
    | ins C f => cases k
    | _ => exact h.elim
end
/-- data that can be told apart by == -/
def Sh (d : D) : Prop := d.pk = true ∧ SeqAt.shaped d.py = true
def deq (a b : D) : Bool := PyData.eqv a.py b.py

/-! ### nums -/
def fI (g : Int → Int → Int) : F2 := fun a b k => match a, b with
  | .int i, .int j => k (.s (.int (g i j)))
  | _, _ => False
def fIC (C : Int → Int → Prop) (g : Int → Int → Int) : F2 := fun a b k => match a, b with
  | .int i, .int j => C i j ∧ k (.s (.int (g i j)))
  | _, _ => False
def fB (g : Int → Int → Bool) : F2 := fun a b k => match a, b with
  | .int i, .int j => k (.s (.bl (g i j)))
  | _, _ => False
def fEq : F2 := fun a b k => Sh a ∧ Sh b ∧ k (.s (.bl (deq a b)))
def fNe : F2 := fun a b k => Sh a ∧ Sh b ∧ k (.s (.bl (!deq a b)))
/-- the items of a list or a tuple -/
def D.its : D → Option (List D)
  | .tup ds => some ds
  | .lst ds => some ds
  | .zl ds => some ds
  | _ => none
section
variable {S : Sys} {B : Vol}
theorem lo_I {g : Int → Int → Int} : OpL S B (rI0 fun i j => .int (g i j)) (fI g) := fun L env σ H Q x y a b k ok hx hy h q => by
  cases a with
  | int i => cases b with
    | int j => exact ⟨i, j, hx.int, hy.int, q _ _ _ h (post_s ok (.int _))⟩
    | _ => exact h.elim
  | _ => exact h.elim
theorem lo_IC {C : Int → Int → Prop} {g : Int → Int → Int} : OpL S B (rI C fun i j => .int (g i j)) (fIC C g) := fun L env σ H Q x y a b k ok hx hy h q => by
  cases a with
  | int i => cases b with
    | int j => exact ⟨i, j, hx.int, hy.int, h.1, q _ _ _ h.2 (post_s ok (.int _))⟩
    | _ => exact h.elim
  | _ => exact h.elim
theorem lo_B {g : Int → Int → Bool} : OpL S B (rI0 fun i j => .bl (g i j)) (fB g) := fun L env σ H Q x y a b k ok hx hy h q => by
  cases a with
  | int i => cases b with
    | int j => exact ⟨i, j, hx.int, hy.int, q _ _ _ h (post_s ok (.bl _))⟩
    | _ => exact h.elim
  | _ => exact h.elim
theorem lo_eq {K : PySem.W.Frag} (hK : S.K = K := by rfl) : OpL S B (rEqD K) fEq := by
  subst hK
  exact fun L env σ H Q x y a b k ok hx hy h q => ⟨_, _, hx.dp h.1.1, hy.dp h.2.1.1, h.1.2, h.2.1.2, q _ _ _ h.2.2 (post_s ok (.bl _))⟩
theorem lo_ne {K : PySem.W.Frag} (hK : S.K = K := by rfl) : OpL S B (rNeD K) fNe := by
  subst hK
  exact fun L env σ H Q x y a b k ok hx hy h q => ⟨_, _, hx.dp h.1.1, hy.dp h.2.1.1, h.1.2, h.2.1.2, q _ _ _ h.2.2 (post_s ok (.bl _))⟩
def fU (g : Int → Int) : F1 := fun a k => match a with
  | .int i => k (.s (.int (g i)))
  | _ => False
theorem lu_I {g : Int → Int} : UnL S B (rU fun i => .int (g i)) (fU g) := fun L env σ H Q x a k ok hx h q => by
  cases a with
  | int i => exact ⟨i, hx.int, q _ _ _ h (post_s ok (.int _))⟩
  | _ => exact h.elim
/-- is None -/
def isNon : D → Bool
  | .non => true
  | _ => false
def fIsN : F2 := fun a b k => match b with
  | .non => k (.s (.bl (isNon a)))
  | _ => False
def fNotN : F2 := fun a b k => match b with
  | .non => k (.s (.bl (!isNon a)))
  | _ => False
theorem tv_non {A : As} {H : Hp} {v : V} {d : D} (h : TV S A H v d) : decide (v = .non) = isNon d := by
  cases d with
  | non => rw [h.non]; rfl
  | _ =>
    exact decide_eq_false (fun e => by
      subst e
      rcases h with h | ⟨p, e, _⟩
      · cases h
      · cases e)
theorem lo_isN : OpL S B (fun x y H Q => y = .non ∧ Q (.bl (decide (x = .non))) H) fIsN := fun L env σ H Q x y a b k ok hx hy h q => by
  cases b with
  | non => exact ⟨hy.non, by rw [tv_non hx]; exact q _ _ _ h (post_s ok (.bl _))⟩
  | _ => exact h.elim
theorem lo_notN : OpL S B (fun x y H Q => y = .non ∧ Q (.bl (!decide (x = .non))) H) fNotN := fun L env σ H Q x y a b k ok hx hy h q => by
  cases b with
  | non => exact ⟨hy.non, by rw [tv_non hx]; exact q _ _ _ h (post_s ok (.bl _))⟩
  | _ => exact h.elim
def fIsB : F2 := fun a b k => match a, b with
  | .bl i, .bl j => k (.s (.bl (decide (i = j))))
  | _, _ => False
def fNotB : F2 := fun a b k => match a, b with
  | .bl i, .bl j => k (.s (.bl (!decide (i = j))))
  | _, _ => False
theorem lo_isB : OpL S B rIsB fIsB := fun L env σ H Q x y a b k ok hx hy h q => by
  cases a with
  | bl i => cases b with
    | bl j => exact ⟨i, j, hx.bl, hy.bl, q _ _ _ h (post_s ok (.bl _))⟩
    | _ => exact h.elim
  | _ => exact h.elim
theorem lo_notB : OpL S B rNotB fNotB := fun L env σ H Q x y a b k ok hx hy h q => by
  cases a with
  | bl i => cases b with
    | bl j => exact ⟨i, j, hx.bl, hy.bl, q _ _ _ h (post_s ok (.bl _))⟩
    | _ => exact h.elim
  | _ => exact h.elim

/-! ### in, an index, a slice, sums -/
def anyIn (ds : List D) (a : D) : Bool := (pys ds).any fun z => PyData.eqv z a.py
def fInL : F2 := fun a b k => match b with
  | .lst ds => Sh a ∧ Sh (.lst ds) ∧ k (.s (.bl (anyIn ds a)))
  | _ => False
def fInT : F2 := fun a b k => match b with
  | .tup ds => Sh a ∧ Sh (.tup ds) ∧ k (.s (.bl (anyIn ds a)))
  | _ => False
def fNiL : F2 := fun a b k => match b with
  | .lst ds => Sh a ∧ Sh (.lst ds) ∧ k (.s (.bl (!anyIn ds a)))
  | _ => False
def fNiT : F2 := fun a b k => match b with
  | .tup ds => Sh a ∧ Sh (.tup ds) ∧ k (.s (.bl (!anyIn ds a)))
  | _ => False
theorem lo_inL {K : PySem.W.Frag} (hK : S.K = K := by rfl) : OpL S B (rInD K) fInL := by
  subst hK
  exact fun L env σ H Q x y a b k ok hx hy h q => by
    cases b with
    | lst ds => exact ⟨_, _, hx.dp h.1.1, hy.dp h.2.1.1, h.1.2, h.2.1.2, q _ _ _ h.2.2 (post_s ok (.bl _))⟩
    | _ => exact h.elim
theorem lo_niL {K : PySem.W.Frag} (hK : S.K = K := by rfl) : OpL S B (rNotInD K) fNiL := by
  subst hK
  exact fun L env σ H Q x y a b k ok hx hy h q => by
    cases b with
    | lst ds => exact ⟨_, _, hx.dp h.1.1, hy.dp h.2.1.1, h.1.2, h.2.1.2, q _ _ _ h.2.2 (post_s ok (.bl _))⟩
    | _ => exact h.elim
theorem lo_inT {K : PySem.W.Frag} (hK : S.K = K := by rfl) : OpL S B (Lk.rInQ K) fInT := by
  subst hK
  exact fun L env σ H Q x y a b k ok hx hy h q => by
    cases b with
    | tup ds => exact ⟨_, _, hx.dp h.1.1, hy.dp h.2.1.1, h.1.2, h.2.1.2, q _ _ _ h.2.2 (post_s ok (.bl _))⟩
    | _ => exact h.elim
theorem lo_niT {K : PySem.W.Frag} (hK : S.K = K := by rfl) : OpL S B (Lk.rNotInQ K) fNiT := by
  subst hK
  exact fun L env σ H Q x y a b k ok hx hy h q => by
    cases b with
    | tup ds => exact ⟨_, _, hx.dp h.1.1, hy.dp h.2.1.1, h.1.2, h.2.1.2, q _ _ _ h.2.2 (post_s ok (.bl _))⟩
    | _ => exact h.elim
/-- the items and how they lie -/
theorem TV.its {A : As} {H : Hp} {v : V} {d : D} {ds : List D} (h : TV S A H v d) (e : d.its = some ds) : ∃ p vs, v = .ref p ∧ (SqL S.K H p vs ∨ SqT S.K H p vs) ∧ RDs S A H vs ds := by
  cases d with
  | tup xs => cases e; obtain ⟨p, vs, e, h1, r⟩ := h.tup; exact ⟨p, vs, e, .inr (.inl (.inl h1)), r⟩
  | lst xs => cases e; obtain ⟨p, vs, e, h1, r⟩ := h.lst; exact ⟨p, vs, e, .inl (SqL.of h1), r⟩
  | zl xs => cases e; obtain ⟨p, vs, e, h1, r⟩ := h.zl; exact ⟨p, vs, e, .inl h1.sq, r⟩
  | _ => cases e
def fIx : F2 := fun a b k => match b with
  | .int i => ob a.its fun ds => ob (atI ds i) fun d => k (.s d)
  | _ => False
theorem atI_rds {A : As} {H : Hp} {vs : List V} {ds : List D} {i : Int} {d : D} (r : RDs S A H vs ds) (h : atI ds i = some d) : ∃ v, atI vs i = some v ∧ RD S A H v d := by
  unfold atI at h ⊢
  rw [r.len]
  cases e : ixN ds.length i with
  | none => rw [e] at h; cases h
  | some j =>
    rw [e] at h
    exact r.at h
theorem lo_ix {K : PySem.W.Frag} (hK : S.K = K := by rfl) : OpL S B (rIx K) fIx := by
  subst hK
  exact fun L env σ H Q x y a b k ok hx hy h q => by
    cases b with
    | int i =>
      obtain ⟨ds, e, h⟩ := ob_of h
      obtain ⟨d, e2, h⟩ := ob_of h
      obtain ⟨p, vs, rfl, hs, r⟩ := hx.its e
      obtain ⟨v, e3, rd⟩ := atI_rds r e2
      have e4 := hy.int
      subst e4
      rcases hs with hs | hs
      · exact .inl ⟨p, vs, i, v, rfl, rfl, hs, e3, q _ _ _ h (post_s ok rd)⟩
      · exact .inr (.inl ⟨p, vs, i, v, rfl, rfl, hs, e3, q _ _ _ h (post_s ok rd)⟩)
    | _ => exact h.elim
/-- a cut of data -/
def cutD (ds : List D) (lo hi : Option Int) : List D := (ds.drop (HT.sIx ds.length 0 lo)).take (HT.sIx ds.length ds.length hi - HT.sIx ds.length 0 lo)
theorem RDs.cut {A : As} {H : Hp} {vs : List V} {ds : List D} (r : RDs S A H vs ds) (lo hi : Option Int) : RDs S A H (cutV vs lo hi) (cutD ds lo hi) := by
  unfold cutV cutD
  rw [r.len]
  exact (r.drop _).take _
def fCat : F2 := fun a b k => match a, b with
  | .tup xs, .tup ys => xs.length + ys.length ≤ sizeLine ∧ k (.s (.tup (xs ++ ys)))
  | _, _ => False
theorem lo_catT {K : PySem.W.Frag} (hK : S.K = K := by rfl) : OpL S B (rCatA K) fCat := by
  subst hK
  exact fun L env σ H Q x y a b k ok hx hy h q => by
    cases a with
    | tup xs => cases b with
      | tup ys =>
        obtain ⟨hl, h⟩ := h
        obtain ⟨p, vs, rfl, h1, r1⟩ := hx.tup
        obtain ⟨p', ws, rfl, h2, r2⟩ := hy.tup
        refine ⟨p, p', vs, ws, rfl, rfl, .inl (.inl h1), .inl (.inl h2), by rw [r1.len, r2.len]; exact hl, fun e => ?_, fun _ e => ?_, fun _ _ p3 hp3 => ?_⟩
        · subst e
          cases r1
          exact q _ _ _ h (post_s ok (.tup h2 r2))
        · subst e
          cases r2
          rw [List.append_nil] at h
          exact q _ _ _ h (post_s ok (.tup h1 r1))
        · exact q _ _ _ h (post_tup ok hp3 (r1.app r2))
      | _ => exact h.elim
    | _ => exact h.elim
def fCatL : F2 := fun a b k => match a, b with
  | .lst xs, .lst ys => xs.length + ys.length ≤ sizeLine ∧ k (.f (.lst (xs ++ ys)))
  | _, _ => False
theorem lo_catL : OpL S B rCat fCatL := fun L env σ H Q x y a b k ok hx hy h q => by
  cases a with
  | lst xs => cases b with
    | lst ys =>
      obtain ⟨hl, h⟩ := h
      obtain ⟨p, vs, rfl, h1, r1⟩ := hx.lst
      obtain ⟨p', ws, rfl, h2, r2⟩ := hy.lst
      exact ⟨p, p', vs, ws, rfl, rfl, h1, h2, by rw [r1.len, r2.len]; exact hl, fun p3 hp3 => q _ _ _ h (post_lst ok hp3 (r1.app r2))⟩
    | _ => exact h.elim
  | _ => exact h.elim
theorem RDs.rep {A : As} {H : Hp} {vs : List V} {ds : List D} (r : RDs S A H vs ds) : ∀ k : Nat, RDs S A H (List.replicate k vs).flatten (List.replicate k ds).flatten
  | 0 => .nil
  | k + 1 => by
    rw [List.replicate_succ, List.replicate_succ, List.flatten_cons, List.flatten_cons]
    exact r.app (r.rep k)
def fRep : F2 := fun a b k => match a, b with
  | .lst xs, .int n => -(2 ^ 63) ≤ n ∧ n < 2 ^ 63 ∧ xs.length * n.toNat ≤ sizeLine ∧ k (.f (.lst (List.replicate n.toNat xs).flatten))
  | _, _ => False
theorem lo_rep : OpL S B rRep fRep := fun L env σ H Q x y a b k ok hx hy h q => by
  cases a with
  | lst xs => cases b with
    | int n =>
      obtain ⟨h1, h2, h3, h⟩ := h
      obtain ⟨p, vs, rfl, e1, r1⟩ := hx.lst
      have e2 := hy.int
      subst e2
      exact ⟨p, n, vs, rfl, rfl, e1, h1, h2, by rw [r1.len]; exact h3, fun p3 hp3 => q _ _ _ h (post_lst ok hp3 (r1.rep _))⟩
    | _ => exact h.elim
  | _ => exact h.elim

/-! ### calls of built-ins -/
theorem TVs.one {A : As} {H : Hp} {xs : List V} {a : D} (h : TVs S A H xs [a]) : ∃ v, xs = [v] ∧ TV S A H v a := by
  match xs, h with
  | [v], h => exact ⟨v, rfl, h.1⟩
theorem TVs.two {A : As} {H : Hp} {xs : List V} {a b : D} (h : TVs S A H xs [a, b]) : ∃ v u, xs = [v, u] ∧ TV S A H v a ∧ TV S A H u b := by
  match xs, h with
  | [v, u], h => exact ⟨v, u, rfl, h.1, h.2.1⟩
def fLen : Fn := fun as k => match as with
  | [a] => ob a.its fun ds => k (.s (.int ds.length))
  | _ => False
theorem cl_len {K : PySem.W.Frag} (hK : S.K = K := by rfl) : CaL S B (fun xs H Q => ∃ p ys, xs = [.ref p] ∧ (SqL K H p ys ∨ SqT K H p ys) ∧ Q (.int ys.length) H) fLen := by
  subst hK
  exact fun L env σ H Q xs as k ok hx h q => by
    match as, h with
    | [a], h =>
      obtain ⟨v, rfl, hv⟩ := hx.one
      obtain ⟨ds, e, h⟩ := ob_of h
      obtain ⟨p, vs, rfl, hs, r⟩ := hv.its e
      exact ⟨p, vs, rfl, hs, by rw [r.len]; exact q _ _ _ h (post_s ok (.int _))⟩
def fListOf : Fn := fun as k => match as with
  | [a] => ob a.its fun ds => k (.f (.lst ds))
  | _ => False
theorem cl_list {K : PySem.W.Frag} (hK : S.K = K := by rfl) : CaL S B (fun xs H Q => ∃ p ys, xs = [.ref p] ∧ (SqL K H p ys ∨ SqT K H p ys) ∧ ∀ l, H l = none → Q (.ref l) (upd H l (.lst ys))) fListOf := by
  subst hK
  exact fun L env σ H Q xs as k ok hx h q => by
    match as, h with
    | [a], h =>
      obtain ⟨v, rfl, hv⟩ := hx.one
      obtain ⟨ds, e, h⟩ := ob_of h
      obtain ⟨p, vs, rfl, hs, r⟩ := hv.its e
      exact ⟨p, vs, rfl, hs, fun l hl => q _ _ _ h (post_lst ok hl r)⟩
def fTupOf : Fn := fun as k => match as with
  | [a] => ob a.its fun ds => k (.s (.tup ds))
  | _ => False
theorem cl_tup {K : PySem.W.Frag} (hK : S.K = K := by rfl) : CaL S B (fun xs H Q => ∃ p ys, xs = [.ref p] ∧ ((SqL K H p ys ∧ ∀ l, H l = none → Q (.ref l) (upd H l (.tup ys))) ∨ (SqT K H p ys ∧ Q (.ref p) H))) fTupOf := by
  subst hK
  exact fun L env σ H Q xs as k ok hx h q => by
    match as, h with
    | [a], h =>
      obtain ⟨v, rfl, hv⟩ := hx.one
      obtain ⟨ds, e, h⟩ := ob_of h
      cases a with
      | tup xs =>
        cases e
        obtain ⟨p, vs, rfl, h1, r⟩ := hv.tup
        exact ⟨p, vs, rfl, .inr ⟨.inl (.inl h1), q _ _ _ h (post_s ok (.tup h1 r))⟩⟩
      | lst xs =>
        cases e
        obtain ⟨p, vs, rfl, h1, r⟩ := hv.lst
        exact ⟨p, vs, rfl, .inl ⟨SqL.of h1, fun l hl => q _ _ _ h (post_tup ok hl r)⟩⟩
      | zl xs =>
        cases e
        obtain ⟨p, vs, rfl, h1, r⟩ := hv.zl
        exact ⟨p, vs, rfl, .inl ⟨h1.sq, fun l hl => q _ _ _ h (post_tup ok hl r)⟩⟩
      | _ => cases e
/-- the nums, the bls of data -/
def nums : List D → Option (List Int)
  | [] => some []
  | .int i :: ds => (nums ds).map (i :: ·)
  | _ => none
def bls : List D → Option (List Bool)
  | [] => some []
  | .bl i :: ds => (bls ds).map (i :: ·)
  | _ => none
theorem RDs.nums {A : As} {H : Hp} : ∀ {vs : List V} {ds : List D} {ns : List Int}, RDs S A H vs ds → nums ds = some ns → vs = ns.map V.int
  | _, _, _, .nil, e => by cases e; rfl
  | _, .int i :: ds, ns, .cons h r, e => by
    cases h
    obtain ⟨ms, e1, rfl⟩ := Option.map_eq_some_iff.mp (show (Dl.nums ds).map (i :: ·) = some ns from e)
    rw [r.nums e1]
    rfl
theorem RDs.bls {A : As} {H : Hp} : ∀ {vs : List V} {ds : List D} {ns : List Bool}, RDs S A H vs ds → bls ds = some ns → vs = ns.map V.bl
  | _, _, _, .nil, e => by cases e; rfl
  | _, .bl i :: ds, ns, .cons h r, e => by
    cases h
    obtain ⟨ms, e1, rfl⟩ := Option.map_eq_some_iff.mp (show (Dl.bls ds).map (i :: ·) = some ns from e)
    rw [r.bls e1]
    rfl
theorem rds_nums {A : As} {H : Hp} : ∀ ns : List Int, RDs S A H (ns.map V.int) (ns.map D.int)
  | [] => .nil
  | n :: ns => .cons (.int n) (rds_nums ns)
def fSum : Fn := fun as k => match as with
  | [.lst ds] => ob (nums ds) fun ns => k (.s (.int ns.sum))
  | _ => False
theorem cl_sum {K : PySem.W.Frag} (hK : S.K = K := by rfl) : CaL S B (rSum K) fSum := by
  subst hK
  exact fun L env σ H Q xs as k ok hx h q => by
    match as, h with
    | [.lst ds], h =>
      obtain ⟨v, rfl, hv⟩ := hx.one
      obtain ⟨ns, e, h⟩ := ob_of h
      obtain ⟨p, vs, rfl, hs, r⟩ := hv.lst
      have e2 := r.nums e
      subst e2
      exact ⟨p, ns, rfl, SqL.of hs, q _ _ _ h (post_s ok (.int _))⟩
def fAll : Fn := fun as k => match as with
  | [.lst ds] => ob (bls ds) fun ns => k (.s (.bl (ns.all id)))
  | _ => False
theorem cl_all {K : PySem.W.Frag} (hK : S.K = K := by rfl) : CaL S B (rAll K) fAll := by
  subst hK
  exact fun L env σ H Q xs as k ok hx h q => by
    match as, h with
    | [.lst ds], h =>
      obtain ⟨v, rfl, hv⟩ := hx.one
      obtain ⟨ns, e, h⟩ := ob_of h
      obtain ⟨p, vs, rfl, hs, r⟩ := hv.lst
      have e2 := r.bls e
      subst e2
      exact ⟨p, ns, rfl, SqL.of hs, q _ _ _ h (post_s ok (.bl _))⟩
def fAny : Fn := fun as k => match as with
  | [.lst ds] => ob (bls ds) fun ns => k (.s (.bl (ns.any id)))
  | _ => False
theorem cl_any {K : PySem.W.Frag} (hK : S.K = K := by rfl) : CaL S B (rAny K) fAny := by
  subst hK
  exact fun L env σ H Q xs as k ok hx h q => by
    match as, h with
    | [.lst ds], h =>
      obtain ⟨v, rfl, hv⟩ := hx.one
      obtain ⟨ns, e, h⟩ := ob_of h
      obtain ⟨p, vs, rfl, hs, r⟩ := hv.lst
      have e2 := r.bls e
      subst e2
      exact ⟨p, ns, rfl, SqL.of hs, q _ _ _ h (post_s ok (.bl _))⟩
def fMax2 : Fn := fun as k => match as with
  | [.int i, .int j] => k (.s (.int (if j > i then j else i)))
  | _ => False
def fMin2 : Fn := fun as k => match as with
  | [.int i, .int j] => k (.s (.int (if j < i then j else i)))
  | _ => False
theorem cl_max2 : CaL S B (fun xs H Q => ∃ i j, xs = [.int i, .int j] ∧ Q (.int (if j > i then j else i)) H) fMax2 := fun L env σ H Q xs as k ok hx h q => by
  match as, h with
  | [.int i, .int j], h =>
    obtain ⟨v, u, rfl, hv, hu⟩ := hx.two
    rw [hv.int, hu.int]
    exact ⟨i, j, rfl, q _ _ _ h (post_s ok (.int _))⟩
theorem cl_min2 : CaL S B (fun xs H Q => ∃ i j, xs = [.int i, .int j] ∧ Q (.int (if j < i then j else i)) H) fMin2 := fun L env σ H Q xs as k ok hx h q => by
  match as, h with
  | [.int i, .int j], h =>
    obtain ⟨v, u, rfl, hv, hu⟩ := hx.two
    rw [hv.int, hu.int]
    exact ⟨i, j, rfl, q _ _ _ h (post_s ok (.int _))⟩
def fAbs : Fn := fun as k => match as with
  | [.int i] => k (.s (.int (if i < 0 then -i else i)))
  | _ => False
theorem cl_abs : CaL S B (fun xs H Q => ∃ i, xs = [.int i] ∧ Q (.int (if i < 0 then -i else i)) H) fAbs := fun L env σ H Q xs as k ok hx h q => by
  match as, h with
  | [.int i], h =>
    obtain ⟨v, rfl, hv⟩ := hx.one
    rw [hv.int]
    exact ⟨i, rfl, q _ _ _ h (post_s ok (.int _))⟩
/-- isinstance with a built-in class -/
def D.tn : D → Option String
  | .non => some "NoneType" | .bl _ => some "bool" | .int _ => some "int" | .str _ => some "str"
  | .tup _ => some "tuple" | .lst _ => some "list" | .zl _ => some "list"
  | _ => none
theorem TV.tyx {A : As} {H : Hp} {v : V} {d : D} {t : String} (h : TV S A H v d) (e : d.tn = some t) : TyX S.K H v (.type t) := by
  cases d with
  | non => cases e; rw [h.non]; exact .base .non
  | bl b => cases e; rw [h.bl]; exact .base (.bl b)
  | int i => cases e; rw [h.int]; exact .base (.int i)
  | str x => cases e; rw [h.str]; exact .base (.str x)
  | tup xs => cases e; obtain ⟨p, vs, rfl, h1, _⟩ := h.tup; exact .base (.tup h1)
  | lst xs => cases e; obtain ⟨p, vs, rfl, h1, _⟩ := h.lst; exact .base (.lst h1)
  | zl xs => cases e; obtain ⟨p, vs, rfl, h1, _⟩ := h.zl; exact Lk.tyL h1.sq
  | _ => cases e
def fIsi : Fn := fun as k => match as with
  | [a, .ty n] => ∃ t r, a.tn = some t ∧ kitB t n = some r ∧ k (.s (.bl r))
  | [.ins C _, .glob C'] => C = C' ∧ k (.s (.bl true))
  | _ => False
/-- what isinstance with own classes asks -/
def OwnCl (K : PySem.W.Frag) : Prop := ∀ (C : Addr) (H : Hp) (p dx : Addr) (fs : List (Str × V)), H p = some (.ins C dx fs) → TyX K H (.ref p) (.ref C) ∧ PySem.W.kitOne K (.ref C) (.ref C) = some true
end
end Dl
/-! DL4: the rest of expressions: displays, tests, slices, fields, dicts. -/
namespace Dl
open PySem L2

/-! ### what stands in a slot is given away -/
section
variable {S : Sys} {B : Vol} {L : As} {env : Env} {σ : St} {H : Hp}
theorem get_set {α : Type} {l : List α} {i j : Nat} {x y : α} (h : (l.set i x)[j]? = some y) : (j = i ∧ y = x ∧ i < l.length) ∨ (j ≠ i ∧ l[j]? = some y) := by
  by_cases e : j = i
  · subst e
    have hl : j < (l.set j x).length := (List.getElem?_eq_some_iff.mp h).1
    rw [List.length_set] at hl
    rw [List.getElem?_set_self hl] at h
    exact .inl ⟨rfl, (Option.some.inj h).symm, hl⟩
  · rw [List.getElem?_set_ne (Ne.symm e)] at h
    exact .inr ⟨e, h⟩
theorem ow_sub {env env' : Env} {σ σ' : St} (h : ∀ (i : Nat) (c : Cell), env'[i]? = some (some c) → c.own = true → (∃ c0 : Cell, env[i]? = some (some c0) ∧ c0.own = true) ∧ σ'[i]? = σ[i]?) : ∀ a, Ow B env' σ' a → Ow B env σ a := fun a z => z.elim .inl fun ⟨i, c, h1, h2, h3⟩ => by
  obtain ⟨⟨c0, h4, h5⟩, e⟩ := h i c h1 h2
  exact .inr ⟨i, c0, h4, h5, by rw [← e]; exact h3⟩
/-- fewer owned slots: all else as it was -/
theorem Ok.less {env' : Env} {σ' : St} (ok : Ok S B L env σ H) (hl : σ'.length = env'.length) (hsub : ∀ (i : Nat) (c : Cell), env'[i]? = some (some c) → c.own = true → (∃ c0 : Cell, env[i]? = some (some c0) ∧ c0.own = true) ∧ σ'[i]? = σ[i]?)
    (hc : ∀ (i : Nat) (c : Cell), env'[i]? = some (some c) → ∃ v, σ'[i]? = some (some v) ∧ (CellOk S (Av B L env' σ') L H v c ∨ CellOk S (Av B L env σ) L H v c)) : Ok S B L env' σ' H := by
  have hs := ow_sub (B := B) hsub
  have w : ∀ a, Av B L env' σ' a → Av B L env σ a := fun a z => z.elim .inl fun y => .inr (hs a y)
  refine ⟨hl, fun i c h => ?_, fun i j c c' a h1 h2 h3 h4 h5 h6 => ?_, fun a z => ok.sep a (hs a z), ok.al, ok.bag, fun i c a h1 h2 h3 => ?_⟩
  · obtain ⟨v, h1, h2⟩ := hc i c h
    refine ⟨v, h1, h2.elim id fun h2 => ?_⟩
    cases c with
    | s d => exact RD.weak h2 w
    | o d => obtain ⟨q, e, z⟩ := h2; exact ⟨q, e, z.weak w⟩
    | m d => obtain ⟨q, e, z⟩ := h2; exact ⟨q, e, z.weak w⟩
    | b d => exact h2.elim (fun z => .inl (RD.weak z w)) fun ⟨q, e, l, z⟩ => .inr ⟨q, e, l, z.weak w⟩
  · obtain ⟨⟨c0, g1, g2⟩, e1⟩ := hsub i c h1 h2
    obtain ⟨⟨c1, g3, g4⟩, e2⟩ := hsub j c' h3 h4
    exact ok.inj i j c0 c1 a g1 g2 g3 g4 (by rw [← e1]; exact h5) (by rw [← e2]; exact h6)
  · obtain ⟨⟨c0, g1, g2⟩, e1⟩ := hsub i c h1 h2
    exact ok.dv i c0 a g1 g2 (by rw [← e1]; exact h3)
/-- an owned object that nobody else owns is shared from now on -/
theorem Ok.esc (ok : Ok S B L env σ H) {i : Nat} {d : D} (h : env[i]? = some (some (.o d))) : Ok S B L (env.set i (some (.s d))) σ H ∧ Step B env σ H (env.set i (some (.s d))) σ H := by
  have hil := (List.getElem?_eq_some_iff.mp h).1
  have hsub : ∀ (j : Nat) (c : Cell), (env.set i (some (.s d)))[j]? = some (some c) → c.own = true → (∃ c0 : Cell, env[j]? = some (some c0) ∧ c0.own = true) ∧ σ[j]? = σ[j]? := fun j c h1 h2 => by
    rcases get_set h1 with ⟨_, e, _⟩ | ⟨_, h3⟩
    · cases e; cases h2
    · exact ⟨⟨c, h3, h2⟩, rfl⟩
  refine ⟨ok.less (by rw [List.length_set]; exact ok.len) hsub fun j c h1 => ?_, fun a o h1 _ => h1, fun a z => .inl (ow_sub hsub a z), fun j d' h1 => ?_, fun j d' h1 => ?_, fun _ z => z⟩
  · rcases get_set h1 with ⟨e1, e2, _⟩ | ⟨n1, h3⟩
    · cases e2
      subst e1
      obtain ⟨v, hv, q, e, z⟩ := ok.at_ j _ h
      subst e
      refine ⟨_, hv, .inl ((z.weak fun a y => y.elim .inl fun w => .inr (ow_sub hsub a w)).rd fun y => ?_)⟩
      rcases y with y | y | ⟨j', c', g1, g2, g3⟩
      · exact ok.sep q (.inr ⟨j, _, h, rfl, hv⟩) y
      · exact ok.dv j _ q h rfl hv y
      · rcases get_set g1 with ⟨_, e3, _⟩ | ⟨n2, g4⟩
        · cases e3; cases g2
        · exact n2 (ok.inj j' j _ _ q g4 g2 h rfl g3 hv)
    · obtain ⟨v, hv, z⟩ := ok.at_ j c h3
      exact ⟨v, hv, .inr z⟩
  · rcases get_set h1 with ⟨_, e, _⟩ | ⟨_, h3⟩
    · cases e
    · exact ⟨⟨_, h3⟩, rfl⟩
  · rcases get_set h1 with ⟨_, e, _⟩ | ⟨_, h3⟩
    · cases e
    · exact ⟨h3, rfl⟩
/-- as shared data: the datum, the slots behind it -/
def shr (env : Env) : AV → (D → Env → Prop) → Prop
  | .s d, k => k d env
  | .f d, k => k d env
  | .r i, k => match env[i]? with
    | some (some (.s d)) => k d env
    | some (some (.o d)) => k d (env.set i (some (.s d)))
    | _ => False
theorem VlA.shr (ok : Ok S B L env σ H) {v : V} {av : AV} (h : VlA S (Av B L env σ) σ H v av.hold) {k : D → Env → Prop} (hk : Dl.shr env av k) : ∃ d env', k d env' ∧ Ok S B L env' σ H ∧ Step B env σ H env' σ H ∧ RD S (Av B L env' σ) H v d := by
  cases av with
  | s d => exact ⟨d, env, hk, ok, .refl, h⟩
  | f d => exact ⟨d, env, hk, ok, .refl, h⟩
  | r i =>
    have hk : (match env[i]? with | some (some (.s d)) => k d env | some (some (.o d)) => k d (env.set i (some (.s d))) | _ => False) := hk
    have hv : σ[i]? = some (some v) := h
    split at hk
    · rename_i d hc
      exact ⟨d, env, hk, ok, .refl, ok.slot hc hv⟩
    · rename_i d hc
      have hil := (List.getElem?_eq_some_iff.mp hc).1
      obtain ⟨ok', st⟩ := ok.esc hc
      exact ⟨d, _, hk, ok', st, ok'.slot (List.getElem?_set_self hil) hv⟩
    · exact hk.elim
def shrs : List AV → Env → (List D → Env → Prop) → Prop
  | [], env, k => k [] env
  | a :: as, env, k => shr env a fun d env1 => shrs as env1 fun ds env2 => k (d :: ds) env2
theorem VlA.step {env' : Env} {H' : Hp} {v : V} {av : AV} (ok : Ok S B L env σ H) (st : Step B env σ H env' σ H') (h : VlA S (Av B L env σ) σ H v av) : VlA S (Av B L env' σ) σ H' v av := by
  cases av with
  | s d => exact RD.step ok st h
  | f d => exact h
  | r i => exact h
theorem VlAs.step {env' : Env} {H' : Hp} (ok : Ok S B L env σ H) (st : Step B env σ H env' σ H') : ∀ {vs : List V} {avs : List AV}, VlAs S (Av B L env σ) σ H vs avs → VlAs S (Av B L env' σ) σ H' vs avs
  | [], [], _ => trivial
  | _ :: _, _ :: _, h => ⟨h.1.step ok st, VlAs.step ok st h.2⟩
theorem VlAs.shrs : ∀ {vs : List V} {avs : List AV} {env : Env} {k : List D → Env → Prop}, Ok S B L env σ H → VlAs S (Av B L env σ) σ H vs avs → (∀ a ∈ avs, a.hold = a) → Dl.shrs avs env k →
    ∃ ds env', k ds env' ∧ Ok S B L env' σ H ∧ Step B env σ H env' σ H ∧ RDs S (Av B L env' σ) H vs ds
  | [], [], env, k, ok, _, _, hk => ⟨[], env, hk, ok, .refl, .nil⟩
  | v :: vs, a :: as, env, k, ok, h, ha, hk => by
    have h1 : VlA S (Av B L env σ) σ H v a.hold := by rw [ha a (List.mem_cons_self ..)]; exact h.1
    obtain ⟨d, env1, hk1, ok1, st1, r1⟩ := h1.shr ok hk
    obtain ⟨ds, env2, hk2, ok2, st2, r2⟩ := VlAs.shrs ok1 (VlAs.step ok st1 h.2) (fun b hb => ha b (List.mem_cons_of_mem _ hb)) hk1
    exact ⟨d :: ds, env2, hk2, ok2, st1.trans st2, .cons (r1.step ok1 st2) r2⟩
theorem VlAs.held : ∀ {vs : List V} {avs : List AV} {A : As}, VlAs S A σ H vs avs → ∀ a ∈ avs, a.hold = a
  | [], [], _, _, a, ha => absurd ha (by simp)
  | _ :: _, b :: _, _, h, a, ha => by
    rcases List.mem_cons.mp ha with e | e
    · subst e
      cases a with
      | f d => exact (show False from h.1).elim
      | _ => rfl
    · exact VlAs.held h.2 a e
end

/-! ### displays -/
section
variable {S : Sys} {B : Vol}
def dTup (ta : TDA) : TDE := fun env k => ta env fun as env1 => shrs as env1 fun ds env2 => ds.length ≤ sizeLine ∧ k (.s (.tup ds)) env2
def dLst (ta : TDA) : TDE := fun env k => ta env fun as env1 => shrs as env1 fun ds env2 => ds.length ≤ sizeLine ∧ k (.f (.lst ds)) env2
theorem lf_tup {ta : TA} {da : TDA} (ha : LfA S B ta da) : LfE S B (tTup ta) (dTup da) := fun L env σ H Q k ok h hk => by
  refine ha L env σ H _ _ ok h fun avs env1 vs H1 h1 ok1 st1 l1 => ?_
  obtain ⟨ds, env2, ⟨hl, h2⟩, ok2, st2, r2⟩ := l1.shrs ok1 l1.held h1
  exact ⟨by rw [r2.len]; exact hl, fun p hp => hk _ _ _ _ h2 ((post_tup ok2 hp r2).trans (st1.trans st2))⟩
theorem lf_lst {ta : TA} {da : TDA} (ha : LfA S B ta da) : LfE S B (tLst ta) (dLst da) := fun L env σ H Q k ok h hk => by
  refine ha L env σ H _ _ ok h fun avs env1 vs H1 h1 ok1 st1 l1 => ?_
  obtain ⟨ds, env2, ⟨hl, h2⟩, ok2, st2, r2⟩ := l1.shrs ok1 l1.held h1
  exact ⟨by rw [r2.len]; exact hl, fun p hp => hk _ _ _ _ h2 ((post_lst ok2 hp r2).trans (st1.trans st2))⟩
def dNewK : TDE := fun env k => k (.f (.dK [])) env
def dNewT : TDE := fun env k => k (.f (.dT [])) env
def dNewN : TDE := fun env k => k (.f (.dN [])) env
theorem lf_newK : LfE S B tDNewK dNewK := fun L env σ H Q k ok h hk p hp => hk _ _ _ _ h ⟨step_new hp, p, rfl, hp, ok.new hp, [], upd_same, rfl, .nil⟩
theorem lf_newT : LfE S B tDNewT dNewT := fun L env σ H Q k ok h hk p hp => hk _ _ _ _ h ⟨step_new hp, p, rfl, hp, ok.new hp, [], upd_same, rfl, .nil⟩
theorem lf_newN {P : Program} {w : World} (hP : S.P = P := by rfl) (hw : S.w = w := by rfl) : LfE S B (NeD.tNew P w) dNewN := by
  subst hP hw
  exact fun L env σ H Q k ok h hk p hp => hk _ _ _ _ h ⟨step_new hp, p, rfl, hp, ok.new hp, [], ⟨[], upd_same, rfl, fun _ h => absurd h (by simp), List.nodup_nil, Nat.zero_le _⟩, rfl, .nil⟩

/-! ### tests -/
/-- truth -/
def D.tru : D → Option Bool
  | .non => some false | .bl b => some b | .int i => some (i != 0)
  | .tup xs => some (!xs.isEmpty) | .lst xs => some (!xs.isEmpty) | .zl xs => some (!xs.isEmpty)
  | _ => none
def dTB (t : TDE) : TDT := fun env k => t env fun a env1 => match a.get env1 with
  | some (.bl b) => k b env1
  | _ => False
theorem get_bl {env : Env} {a : AV} {k : Bool → Env → Prop} (h : (match a.get env with | some (.bl b) => k b env | _ => False : Prop)) : ∃ b, a.get env = some (.bl b) ∧ k b env := by
  split at h
  · rename_i b e
    exact ⟨b, e, h⟩
  · exact h.elim
theorem lf_tB {te : TE} {t : TDE} (he : LfE S B te t) : LfT S B (tB te) (dTB t) := fun L env σ H Q k ok h hk => by
  refine he L env σ H _ _ ok h fun av env1 v H1 h1 p1 => ?_
  obtain ⟨b, e, h2⟩ := get_bl h1
  obtain ⟨ok1, st1, l1⟩ := p1.vl ok
  exact ⟨b, (l1.tv ok1 (by rw [AV.get_hold]; exact e)).bl, hk _ _ _ h2 ok1 st1⟩
theorem lf_tTest {te : TE} {t : TDE} (he : LfE S B te t) : LfT S B (tTest te) (dTB t) := fun L env σ H Q k ok h hk => lf_tB he L env σ H Q k ok h hk
def dTru (t : TDE) : TDT := fun env k => t env fun a env1 => ob (a.get env1) fun d => ob d.tru fun b => k b env1
theorem lf_tru {te : TE} {t : TDE} {K : PySem.W.Frag} (he : LfE S B te t) (hK : S.K = K := by rfl) : LfT S B (fun σ H Q => te σ H fun x H' => ∃ k, TruV K x H' k ∧ Q k H') (dTru t) := by
  subst hK
  exact fun L env σ H Q k ok h hk => by
    refine he L env σ H _ _ ok h fun av env1 v H1 h1 p1 => ?_
    obtain ⟨d, e1, h2⟩ := ob_of h1
    obtain ⟨b, e2, h3⟩ := ob_of h2
    obtain ⟨ok1, st1, l1⟩ := p1.vl ok
    have tv := l1.tv ok1 (by rw [AV.get_hold]; exact e1)
    refine ⟨b, ?_, hk _ _ _ h3 ok1 st1⟩
    cases d with
    | non => cases e2; rw [tv.non]; rfl
    | bl c => cases e2; rw [tv.bl]; rfl
    | int i => cases e2; rw [tv.int]; rfl
    | tup xs => cases e2; obtain ⟨p, vs, rfl, h4, r⟩ := tv.tup; exact .inr (.inl ⟨vs, .inl (.inl h4), by cases r <;> rfl⟩)
    | lst xs => cases e2; obtain ⟨p, vs, rfl, h4, r⟩ := tv.lst; exact .inl ⟨vs, SqL.of h4, by cases r <;> rfl⟩
    | zl xs => cases e2; obtain ⟨p, vs, rfl, h4, r⟩ := tv.zl; exact .inl ⟨vs, h4.sq, by cases r <;> rfl⟩
    | _ => cases e2
/-! and, or, not -/
def dAnd (t u : TDT) : TDT := fun env k => t env fun c env1 => IfB c (u env1 k) (k false env1)
def dOr (t u : TDT) : TDT := fun env k => t env fun c env1 => IfB c (k true env1) (u env1 k)
def dNot (t : TDT) : TDT := fun env k => t env fun c env1 => k (!c) env1
theorem lf_tAnd {t u : TT} {dt du : TDT} (h1 : LfT S B t dt) (h2 : LfT S B u du) : LfT S B (tAnd t u) (dAnd dt du) := fun L env σ H Q k ok h hk => by
  refine h1 L env σ H _ _ ok h fun c env1 H1 g ok1 st1 => ?_
  cases c with
  | true =>
    (replace g := g.t rfl; simp only [if_true])
    exact h2 L env1 σ H1 _ _ ok1 g fun b env2 H2 g2 ok2 st2 => hk _ _ _ g2 ok2 (st1.trans st2)
  | false =>
    (replace g := g.f rfl; simp only [Bool.false_eq_true, if_false])
    exact hk _ _ _ g ok1 st1
theorem lf_tOr {t u : TT} {dt du : TDT} (h1 : LfT S B t dt) (h2 : LfT S B u du) : LfT S B (tOr t u) (dOr dt du) := fun L env σ H Q k ok h hk => by
  refine h1 L env σ H _ _ ok h fun c env1 H1 g ok1 st1 => ?_
  cases c with
  | false =>
    (replace g := g.f rfl; simp only [Bool.false_eq_true, if_false])
    exact h2 L env1 σ H1 _ _ ok1 g fun b env2 H2 g2 ok2 st2 => hk _ _ _ g2 ok2 (st1.trans st2)
  | true =>
    (replace g := g.t rfl; simp only [if_true])
    exact hk _ _ _ g ok1 st1
theorem lf_tNot {t : TT} {dt : TDT} (h1 : LfT S B t dt) : LfT S B (tNot t) (dNot dt) := fun L env σ H Q k ok h hk => h1 L env σ H _ _ ok h fun c env1 H1 g ok1 st1 => hk _ _ _ g ok1 st1
def dAndV (ta tb : TDE) : TDE := fun env k => ta env fun a env1 => match a.get env1 with
  | some (.bl c) => IfB c (tb env1 k) (k (.s (.bl false)) env1)
  | _ => False
def dOrV (ta tb : TDE) : TDE := fun env k => ta env fun a env1 => match a.get env1 with
  | some (.bl c) => IfB c (k (.s (.bl true)) env1) (tb env1 k)
  | _ => False
def dNotV (ta : TDE) : TDE := fun env k => ta env fun a env1 => match a.get env1 with
  | some (.bl c) => k (.s (.bl (!c))) env1
  | _ => False
theorem get_bl2 {env : Env} {a : AV} {k : Bool → Prop} (h : (match a.get env with | some (.bl b) => k b | _ => False : Prop)) : ∃ b, a.get env = some (.bl b) ∧ k b := by
  split at h
  · rename_i b e
    exact ⟨b, e, h⟩
  · exact h.elim
theorem lf_andV {ta tb : TE} {da db : TDE} (h1 : LfE S B ta da) (h2 : LfE S B tb db) : LfE S B (tAndV ta tb) (dAndV da db) := fun L env σ H Q k ok h hk => by
  refine h1 L env σ H _ _ ok h fun a env1 v H1 g p1 => ?_
  obtain ⟨c, e, g⟩ := get_bl2 g
  obtain ⟨ok1, st1, l1⟩ := p1.vl ok
  refine ⟨c, (l1.tv ok1 (by rw [AV.get_hold]; exact e)).bl, ?_⟩
  cases c with
  | true =>
    (replace g := g.t rfl; simp only [if_true])
    exact h2 L env1 σ H1 _ _ ok1 g fun b env2 v2 H2 g2 p2 => hk _ _ _ _ g2 (p2.trans st1)
  | false =>
    (replace g := g.f rfl; simp only [Bool.false_eq_true, if_false])
    exact hk _ _ _ _ g ((post_s ok1 (.bl _)).trans st1)
theorem lf_orV {ta tb : TE} {da db : TDE} (h1 : LfE S B ta da) (h2 : LfE S B tb db) : LfE S B (tOrV ta tb) (dOrV da db) := fun L env σ H Q k ok h hk => by
  refine h1 L env σ H _ _ ok h fun a env1 v H1 g p1 => ?_
  obtain ⟨c, e, g⟩ := get_bl2 g
  obtain ⟨ok1, st1, l1⟩ := p1.vl ok
  refine ⟨c, (l1.tv ok1 (by rw [AV.get_hold]; exact e)).bl, ?_⟩
  cases c with
  | false =>
    (replace g := g.f rfl; simp only [Bool.false_eq_true, if_false])
    exact h2 L env1 σ H1 _ _ ok1 g fun b env2 v2 H2 g2 p2 => hk _ _ _ _ g2 (p2.trans st1)
  | true =>
    (replace g := g.t rfl; simp only [if_true])
    exact hk _ _ _ _ g ((post_s ok1 (.bl _)).trans st1)
theorem lf_notV {ta : TE} {da : TDE} (h1 : LfE S B ta da) : LfE S B (tNotV ta) (dNotV da) := fun L env σ H Q k ok h hk => by
  refine h1 L env σ H _ _ ok h fun a env1 v H1 g p1 => ?_
  obtain ⟨c, e, g⟩ := get_bl2 g
  obtain ⟨ok1, st1, l1⟩ := p1.vl ok
  exact ⟨c, (l1.tv ok1 (by rw [AV.get_hold]; exact e)).bl, hk _ _ _ _ g ((post_s ok1 (.bl _)).trans st1)⟩
def dIfE (t : TDT) (ta tb : TDE) : TDE := fun env k => t env fun c env1 => IfB c (ta env1 k) (tb env1 k)
theorem lf_ifE {t : TT} {ta tb : TE} {dt : TDT} {da db : TDE} (h0 : LfT S B t dt) (h1 : LfE S B ta da) (h2 : LfE S B tb db) : LfE S B (tIf t ta tb) (dIfE dt da db) := fun L env σ H Q k ok h hk => by
  refine h0 L env σ H _ _ ok h fun c env1 H1 g ok1 st1 => ?_
  cases c with
  | true =>
    (replace g := g.t rfl; simp only [if_true])
    exact h1 L env1 σ H1 _ _ ok1 g fun b env2 v2 H2 g2 p2 => hk _ _ _ _ g2 (p2.trans st1)
  | false =>
    (replace g := g.f rfl; simp only [Bool.false_eq_true, if_false])
    exact h2 L env1 σ H1 _ _ ok1 g fun b env2 v2 H2 g2 p2 => hk _ _ _ _ g2 (p2.trans st1)
/-- a op1 b op2 c -/
def dChain (f g : F2) (ta tb tc : TDE) : TDE := fun env k => ta env fun a env1 => tb env1 fun b env2 => ob (a.get env2) fun x => ob (b.get env2) fun y => f x y fun r => match r with
  | .s (.bl c) => IfB c (tc env2 fun c' env3 => ob (b.get env3) fun y' => ob (c'.get env3) fun z => g y' z fun r => k r env3) (k (.s (.bl false)) env2)
  | _ => False
theorem lf_chain {r r' : R2} {f g : F2} {ta tb tc : TE} {da db dc : TDE} (hr : OpL S B r f) (hr' : OpL S B r' g) (ha : LfE S B ta da) (hb : LfE S B tb db) (hc : LfE S B tc dc) : LfE S B (tChain r r' ta tb tc) (dChain f g da db dc) := fun L env σ H Q k ok h hk => by
  refine ha L env σ H _ _ ok h fun av env1 v H1 h1 p1 => ?_
  obtain ⟨ok1, st1, fin⟩ := p1.held ok
  refine hb _ env1 σ H1 _ _ ok1 h1 fun aw env2 u H2 h2 p2 => ?_
  obtain ⟨ok2, st2, l2⟩ := p2.vl ok1
  obtain ⟨ok3, l3, w⟩ := fin env2 H2 ok2 st2
  obtain ⟨x, e1, h2⟩ := ob_of h2
  obtain ⟨y, e2, h2⟩ := ob_of h2
  have p2' : VlA S (Av B L env2 σ) σ H2 u aw.hold := l2.weak w
  refine hr L env2 σ H2 _ v u x y _ ok3 (l3.tv ok3 (by rw [AV.get_hold]; exact e1)) (p2'.tv ok3 (by rw [AV.get_hold]; exact e2)) h2 fun av3 v3 H3 h3 p3 => ?_
  split at h3
  · rename_i c
    obtain ⟨st3, ok4, r3⟩ := p3
    cases r3
    refine ⟨c, rfl, ?_⟩
    cases c with
    | false =>
      (replace h3 := h3.f rfl; simp only [Bool.false_eq_true, if_false])
      exact hk _ _ _ _ h3 ((post_s ok4 (.bl _)).trans ((st1.trans st2).trans st3))
    | true =>
      (replace h3 := h3.t rfl; simp only [if_true])
      refine hc L env2 σ H3 _ _ ok4 h3 fun aw4 env4 v4 H4 h4 p4 => ?_
      obtain ⟨ok5, st5, l5⟩ := p4.vl ok4
      obtain ⟨y', e5, h4⟩ := ob_of h4
      obtain ⟨z', e6, h4⟩ := ob_of h4
      have l6 := (p2'.step ok3 st3).step ok4 st5
      refine hr' L env4 σ H4 _ u v4 y' z' _ ok5 (l6.tv ok5 (by rw [AV.get_hold]; exact e5)) (l5.tv ok5 (by rw [AV.get_hold]; exact e6)) h4 fun av6 v6 H6 h6 p6 => ?_
      exact hk _ _ _ _ h6 (p6.trans (((st1.trans st2).trans st3).trans st5))
  · exact h3.elim

/-! slices -/
abbrev TDO := Env → (Option Int → Env → Prop) → Prop
def LfO (S : Sys) (B : Vol) (t : TO) (d : TDO) : Prop := ∀ (L : As) (env : Env) (σ : St) (H : Hp) (Q : Option Int → Hp → Prop) (k : Option Int → Env → Prop), Ok S B L env σ H → d env k → (∀ o env' H', k o env' → Ok S B L env' σ H' → Step B env σ H env' σ H' → Q o H') → t σ H Q
def dNoPart : TDO := fun env k => k none env
def dPart (t : TDE) : TDO := fun env k => t env fun a env1 => match a.get env1 with
  | some (.int i) => k (some i) env1
  | _ => False
theorem lf_noPart : LfO S B tNoPart dNoPart := fun L env σ H Q k ok h hk => hk _ _ _ h ok .refl
theorem lf_part {te : TE} {t : TDE} (he : LfE S B te t) : LfO S B (tPart te) (dPart t) := fun L env σ H Q k ok h hk => by
  refine he L env σ H _ _ ok h fun av env1 v H1 h1 p1 => ?_
  split at h1
  · rename_i i e
    obtain ⟨ok1, st1, l1⟩ := p1.vl ok
    exact ⟨i, (l1.tv ok1 (by rw [AV.get_hold]; exact e)).int, hk _ _ _ h1 ok1 st1⟩
  · exact h1.elim
def fSlT : D → Option Int → Option Int → (AV → Prop) → Prop := fun a lo hi k => match a with
  | .tup ds => k (.s (.tup (cutD ds lo hi)))
  | _ => False
def fSlL : D → Option Int → Option Int → (AV → Prop) → Prop := fun a lo hi k => match a with
  | .lst ds => k (.f (.lst (cutD ds lo hi)))
  | .zl ds => k (.f (.lst (cutD ds lo hi)))
  | _ => False
def SlL (S : Sys) (B : Vol) (r : V → Option Int → Option Int → Hp → VK → Prop) (f : D → Option Int → Option Int → (AV → Prop) → Prop) : Prop := ∀ (L : As) (env : Env) (σ : St) (H : Hp) (Q : VK) (x : V) (a : D) (lo hi : Option Int) (k : AV → Prop), Ok S B L env σ H → TV S (Av B L env σ) H x a → f a lo hi k →
  (∀ av v H', k av → Post S B L env σ H av env v H' → Q v H') → r x lo hi H Q
theorem cutV_whole {vs : List V} {lo hi : Option Int} (h : HT.sIx vs.length 0 lo = 0 ∧ HT.sIx vs.length vs.length hi = vs.length) : cutV vs lo hi = vs := by
  unfold cutV
  rw [h.1, h.2, List.drop_zero, Nat.sub_zero]
  exact List.take_of_length_le (Nat.le_refl _)
theorem ls_T {K : PySem.W.Frag} (hK : S.K = K := by rfl) : SlL S B (rSlA K) fSlT := by
  subst hK
  exact fun L env σ H Q x a lo hi k ok hx h q => by
    cases a with
    | tup ds =>
      obtain ⟨p, vs, rfl, h1, r⟩ := hx.tup
      refine ⟨p, vs, rfl, .inl (.inl h1), fun w => ?_, fun _ p2 hp2 => q _ _ _ h (post_tup ok hp2 (r.cut lo hi))⟩
      have r2 := r.cut lo hi
      rw [cutV_whole w] at r2
      exact q _ _ _ h (post_s ok (.tup h1 r2))
    | _ => exact h.elim
theorem ls_L {K : PySem.W.Frag} (hK : S.K = K := by rfl) : SlL S B (rSlL K) fSlL := by
  subst hK
  exact fun L env σ H Q x a lo hi k ok hx h q => by
    cases a with
    | lst ds =>
      obtain ⟨p, vs, rfl, h1, r⟩ := hx.lst
      exact ⟨p, vs, rfl, SqL.of h1, fun p2 hp2 => q _ _ _ h (post_lst ok hp2 (r.cut lo hi))⟩
    | zl ds =>
      obtain ⟨p, vs, rfl, h1, r⟩ := hx.zl
      exact ⟨p, vs, rfl, h1.sq, fun p2 hp2 => q _ _ _ h (post_lst ok hp2 (r.cut lo hi))⟩
    | _ => exact h.elim
def dSl (f : D → Option Int → Option Int → (AV → Prop) → Prop) (t : TDE) (l h : TDO) : TDE := fun env k => t env fun a env1 => l env1 fun lo env2 => h env2 fun hi env3 => ob (a.get env3) fun x => f x lo hi fun r => k r env3
theorem lf_sl {r : V → Option Int → Option Int → Hp → VK → Prop} {f : D → Option Int → Option Int → (AV → Prop) → Prop} {te : TE} {tl th : TO} {t : TDE} {l hh : TDO} (hr : SlL S B r f) (he : LfE S B te t) (hl : LfO S B tl l) (hu : LfO S B th hh) : LfE S B (tSl r te tl th) (dSl f t l hh) := fun L env σ H Q k ok h hk => by
  refine he L env σ H _ _ ok h fun av env1 v H1 h1 p1 => ?_
  obtain ⟨ok1, st1, fin⟩ := p1.held ok
  refine hl _ env1 σ H1 _ _ ok1 h1 fun lo env2 H2 h2 ok2 st2 => ?_
  refine hu _ env2 σ H2 _ _ ok2 h2 fun hi env3 H3 h3 ok3 st3 => ?_
  obtain ⟨ok4, l4, w⟩ := fin env3 H3 ok3 (st2.trans st3)
  obtain ⟨x, e1, h3⟩ := ob_of h3
  exact hr L env3 σ H3 Q v x lo hi _ ok4 (l4.tv ok4 (by rw [AV.get_hold]; exact e1)) h3 fun av5 v5 H5 h5 p5 => hk _ _ _ _ h5 (p5.trans (st1.trans (st2.trans st3)))

/-! fields -/
def look (fs : List (Str × D)) (f : Str) : Option D := fs.lookup f
theorem lookup_rds {A : As} {H : Hp} {f : Str} : ∀ {fs : List (Str × V)} {fds : List (Str × D)} {d : D}, fs.map (·.1) = fds.map (·.1) → RDs S A H (fs.map (·.2)) (fds.map (·.2)) → fds.lookup f = some d → ∃ v, fs.lookup f = some v ∧ RD S A H v d
  | [], [], _, _, _, e => by cases e
  | [], _ :: _, _, e, _, _ => by cases e
  | _ :: _, [], _, e, _, _ => by cases e
  | (x, v) :: fs, (y, d0) :: fds, d, e, r, l => by
    cases e' : (show x = y from (List.cons.inj e).1)
    cases r with
    | cons r1 r2 =>
      unfold List.lookup at l ⊢
      cases q : f == x with
      | true =>
        rw [q] at l
        cases l
        exact ⟨v, rfl, r1⟩
      | false =>
        rw [q] at l
        exact lookup_rds (List.cons.inj e).2 r2 l
/-- an attribute of an object of a class with these facts -/
def dFld (t : TDE) (C : Addr) (f : Str) : TDE := fun env k => t env fun a env1 => match a.get env1 with
  | some (.ins C' fs) => C' = C ∧ ob (fs.lookup f) fun d => k (.s d) env1
  | _ => False
theorem lf_fld {te : TE} {t : TDE} {C : Addr} {f : Str} {K : PySem.W.Frag} (hc : Cls S.K C) (hn : NoAttr S.K C f) (he : LfE S B te t) (hK : S.K = K := by rfl) : LfE S B (tFld K te f) (dFld t C f) := by
  subst hK
  exact fun L env σ H Q k ok h hk => by
    refine he L env σ H _ _ ok h fun av env1 v H1 h1 p1 => ?_
    split at h1
    · rename_i C' fs e
      obtain ⟨rfl, h1⟩ := h1
      obtain ⟨d, e2, h1⟩ := ob_of h1
      obtain ⟨ok1, st1, l1⟩ := p1.vl ok
      obtain ⟨p, dx, vs, rfl, h4, h5, r⟩ := (l1.tv ok1 (by rw [AV.get_hold]; exact e)).ins
      obtain ⟨v, e3, rd⟩ := lookup_rds h5 r e2
      exact ⟨p, C', dx, vs, v, rfl, h4, hc, hn, e3, hk _ _ _ _ h1 ((post_s ok1 rd).trans st1)⟩
    · exact h1.elim
end
end Dl
/-! DL5: dicts and what is changed in place. -/
namespace Dl
open PySem L2

/-! ### keys -/
def D.key : D → Option Key
  | .int i => some (.inl i)
  | .str x => some (.inr x)
  | _ => none
def keys : List D → Option (List Key)
  | [] => some []
  | d :: ds => match d.key, keys ds with
    | some k, some ks => some (k :: ks)
    | _, _ => none
def D.keyT : D → Option (List Key)
  | .tup ds => keys ds
  | _ => none
mutual
def D.keyN : D → Option NestedKey
  | .non => some .none
  | .int i => some (.num i)
  | .str x => some (.text x)
  | .tup ds => (keysN ds).map .tup
  | _ => none
def keysN : List D → Option (List NestedKey)
  | [] => some []
  | d :: ds => match d.keyN, keysN ds with
    | some k, some ks => some (k :: ks)
    | _, _ => none
end
section
variable {κ : Type} [DecidableEq κ]
def valD (kds : List (κ × D)) (k : κ) : Option D := (kds.find? fun kv => decide (kv.1 = k)).map (·.2)
def putD (kds : List (κ × D)) (k : κ) (d : D) : List (κ × D) :=
  if (kds.any fun kv => decide (kv.1 = k)) = true then kds.map (fun kv => if kv.1 = k then (kv.1, d) else kv) else kds ++ [(k, d)]
variable {S : Sys} {B : Vol} {A : As} {H : Hp}
theorem val_rds {k : κ} : ∀ {kvs : List (κ × V)} {kds : List (κ × D)}, kvs.map (·.1) = kds.map (·.1) → RDs S A H (kvs.map (·.2)) (kds.map (·.2)) →
    (valV kvs k).isSome = (valD kds k).isSome ∧ ∀ d, valD kds k = some d → ∃ v, valV kvs k = some v ∧ RD S A H v d
  | [], [], _, _ => ⟨rfl, fun d h => by cases h⟩
  | [], _ :: _, e, _ => by cases e
  | _ :: _, [], e, _ => by cases e
  | (x, v) :: kvs, (y, d0) :: kds, e, r => by
    cases (show x = y from (List.cons.inj e).1)
    cases r with
    | cons r1 r2 =>
      have ih := val_rds (k := k) (List.cons.inj e).2 r2
      unfold valV valD
      rw [List.find?_cons, List.find?_cons]
      by_cases q : x = k
      · rw [decide_eq_true q]
        exact ⟨rfl, fun d h => ⟨v, rfl, by cases h; exact r1⟩⟩
      · rw [decide_eq_false q]
        exact ih
theorem any_keys {k : κ} {α β : Type} : ∀ {l : List (κ × α)} {m : List (κ × β)}, l.map (·.1) = m.map (·.1) → (l.any fun kv => decide (kv.1 = k)) = (m.any fun kv => decide (kv.1 = k))
  | [], [], _ => rfl
  | [], _ :: _, e => by cases e
  | _ :: _, [], e => by cases e
  | (x, v) :: l, (y, d) :: m, e => by
    cases (show x = y from (List.cons.inj e).1)
    rw [List.any_cons, List.any_cons, any_keys (List.cons.inj e).2]
theorem map_rds {k : κ} {v : V} {d : D} (h : RD S A H v d) : ∀ {kvs : List (κ × V)} {kds : List (κ × D)}, kvs.map (·.1) = kds.map (·.1) → RDs S A H (kvs.map (·.2)) (kds.map (·.2)) →
    (kvs.map fun kv => if kv.1 = k then (kv.1, v) else kv).map (·.1) = (kds.map fun kv => if kv.1 = k then (kv.1, d) else kv).map (·.1) ∧ RDs S A H ((kvs.map fun kv => if kv.1 = k then (kv.1, v) else kv).map (·.2)) ((kds.map fun kv => if kv.1 = k then (kv.1, d) else kv).map (·.2))
  | [], [], _, _ => ⟨rfl, .nil⟩
  | [], _ :: _, e, _ => by cases e
  | _ :: _, [], e, _ => by cases e
  | (x, v0) :: kvs, (y, d0) :: kds, e, r => by
    cases (show x = y from (List.cons.inj e).1)
    cases r with
    | cons r1 r2 =>
      obtain ⟨i1, i2⟩ := map_rds h (k := k) (List.cons.inj e).2 r2
      simp only [List.map_cons]
      by_cases q : x = k
      · simp only [q, if_true]
        exact ⟨by rw [i1], .cons h i2⟩
      · simp only [q, if_false]
        exact ⟨by rw [i1], .cons r1 i2⟩
theorem put_rds {k : κ} {v : V} {d : D} (h : RD S A H v d) {kvs : List (κ × V)} {kds : List (κ × D)} (e : kvs.map (·.1) = kds.map (·.1)) (r : RDs S A H (kvs.map (·.2)) (kds.map (·.2))) :
    (putK kvs k v).map (·.1) = (putD kds k d).map (·.1) ∧ RDs S A H ((putK kvs k v).map (·.2)) ((putD kds k d).map (·.2)) := by
  unfold putK putD
  rw [any_keys e]
  split
  · exact map_rds h e r
  · rw [List.map_append, List.map_append, List.map_append, List.map_append, e]
    exact ⟨rfl, r.app (.one h)⟩
end
section
variable {S : Sys} {B : Vol} {A : As} {H : Hp}
theorem RD.key {v : V} {d : D} {k : Key} (h : RD S A H v d) (e : d.key = some k) : v = kV k := by
  cases d with
  | int i => cases h; cases e; rfl
  | str x => cases h; cases e; rfl
  | _ => cases e
theorem RDs.keys : ∀ {vs : List V} {ds : List D} {ks : List Key}, RDs S A H vs ds → Dl.keys ds = some ks → vs = ks.map kV
  | _, _, _, .nil, e => by cases e; rfl
  | _, d :: ds, ks, .cons h r, e => by
    unfold Dl.keys at e
    split at e
    · rename_i k' ks' e1 e2
      cases e
      rw [h.key e1, r.keys e2]
      rfl
    · cases e
theorem TV.rdk {v : V} {d : D} (h : TV S A H v d) (n : ∀ p, ¬ Top S A H p d) : RD S A H v d := h.elim id fun ⟨p, _, z⟩ => (n p z).elim
theorem TV.key {v : V} {d : D} {k : Key} (h : TV S A H v d) (e : d.key = some k) : v = kV k := by
  cases d with
  | int i => cases e; rw [h.int]; rfl
  | str x => cases e; rw [h.str]; rfl
  | _ => cases e
theorem TV.keyT {v : V} {d : D} {k : List Key} (h : TV S A H v d) (e : d.keyT = some k) : ∃ b, v = .ref b ∧ H b = some (.tup (k.map kV)) := by
  cases d with
  | tup ds =>
    obtain ⟨p, vs, rfl, h1, r⟩ := h.tup
    have e2 := r.keys e
    subst e2
    exact ⟨p, rfl, h1⟩
  | _ => cases e
mutual
theorem RD.keyN : ∀ (d : D) (v : V) (k : NestedKey), RD S A H v d → d.keyN = some k → NeD.NK S.K H v k
  | .non, _, _, .non, e => by cases e; exact .non
  | .int i, _, _, .int _, e => by cases e; exact .int i
  | .str x, _, _, .str _, e => by cases e; exact .str x
  | .tup ds, _, k, .tup h r, e => by
    unfold D.keyN at e
    obtain ⟨ks, e1, rfl⟩ := Option.map_eq_some_iff.mp e
    exact .tup (.inl (.inl h)) (RDs.keyN ds _ ks r e1)
theorem RDs.keyN : ∀ (ds : List D) (vs : List V) (ks : List NestedKey), RDs S A H vs ds → keysN ds = some ks → NeD.NKs S.K H vs ks
  | [], _, _, .nil, e => by cases e; exact .nil
  | d :: ds, _, ks, .cons h r, e => by
    unfold keysN at e
    split at e
    · rename_i k' ks' e1 e2
      cases e
      exact .cons (RD.keyN d _ _ h e1) (RDs.keyN ds _ _ r e2)
    · cases e
end

/-! ### d[k], k in d -/
def fDGet : F2 := fun a b k => match a with
  | .dK kds => ob b.key fun x => ob (valD kds x) fun d => k (.s d)
  | .dT kds => ob b.keyT fun x => ob (valD kds x) fun d => k (.s d)
  | _ => False
def isIn (a b : D) : Option Bool := match b with
  | .dK kds => a.key.map fun x => (valD kds x).isSome
  | .dT kds => a.keyT.map fun x => (valD kds x).isSome
  | _ => none
def fDIn : F2 := fun a b k => ob (isIn a b) fun r => k (.s (.bl r))
def fDNi : F2 := fun a b k => ob (isIn a b) fun r => k (.s (.bl (!r)))
theorem lo_dget : OpL S B (fun x y H Q => ∃ a v, x = .ref a ∧ DGet H a y (some v) ∧ Q v H) fDGet := fun L env σ H Q x y a b k ok hx hy h q => by
  cases a with
  | dK kds =>
    obtain ⟨z, e1, h⟩ := ob_of h
    obtain ⟨d, e2, h⟩ := ob_of h
    obtain ⟨p, kvs, rfl, h1, h2, r⟩ := hx.dK
    obtain ⟨v, e3, rd⟩ := (val_rds h2 r).2 d e2
    exact ⟨p, v, rfl, .inl ⟨kvs, z, h1, hy.key e1, e3.symm⟩, q _ _ _ h (post_s ok rd)⟩
  | dT kds =>
    obtain ⟨z, e1, h⟩ := ob_of h
    obtain ⟨d, e2, h⟩ := ob_of h
    obtain ⟨p, kvs, rfl, h1, h2, r⟩ := hx.dT
    obtain ⟨v, e3, rd⟩ := (val_rds h2 r).2 d e2
    obtain ⟨bb, rfl, h4⟩ := hy.keyT e1
    exact ⟨p, v, rfl, .inr ⟨kvs, z, bb, h1, rfl, h4, e3.symm⟩, q _ _ _ h (post_s ok rd)⟩
  | _ => exact h.elim
theorem din_of {x y : V} {a b : D} {r : Bool} (hx : TV S A H x a) (hy : TV S A H y b) (e : isIn a b = some r) : ∃ p o, y = .ref p ∧ DGet H p x o ∧ o.isSome = r := by
  cases b with
  | dK kds =>
    obtain ⟨z, e1, e2⟩ := Option.map_eq_some_iff.mp (show a.key.map (fun x => (valD kds x).isSome) = some r from e)
    obtain ⟨p, kvs, rfl, h1, h2, r⟩ := hy.dK
    exact ⟨p, _, rfl, .inl ⟨kvs, z, h1, hx.key e1, rfl⟩, (val_rds h2 r).1.trans e2⟩
  | dT kds =>
    obtain ⟨z, e1, e2⟩ := Option.map_eq_some_iff.mp (show a.keyT.map (fun x => (valD kds x).isSome) = some r from e)
    obtain ⟨p, kvs, rfl, h1, h2, r⟩ := hy.dT
    obtain ⟨bb, rfl, h4⟩ := hx.keyT e1
    exact ⟨p, _, rfl, .inr ⟨kvs, z, bb, h1, rfl, h4, rfl⟩, (val_rds h2 r).1.trans e2⟩
  | _ => cases e
theorem lo_din : OpL S B (fun y x H Q => ∃ a o, x = .ref a ∧ DGet H a y o ∧ Q (.bl o.isSome) H) fDIn := fun L env σ H Q x y a b k ok hx hy h q => by
  obtain ⟨r, e, h⟩ := ob_of h
  obtain ⟨p, o, e1, g, rfl⟩ := din_of hx hy e
  exact ⟨p, o, e1, g, q _ _ _ h (post_s ok (.bl _))⟩
theorem lo_dni : OpL S B (fun y x H Q => ∃ a o, x = .ref a ∧ DGet H a y o ∧ Q (.bl (!o.isSome)) H) fDNi := fun L env σ H Q x y a b k ok hx hy h q => by
  obtain ⟨r, e, h⟩ := ob_of h
  obtain ⟨p, o, e1, g, rfl⟩ := din_of hx hy e
  exact ⟨p, o, e1, g, q _ _ _ h (post_s ok (.bl _))⟩
theorem lf_dget {td ty : TE} {dd dy : TDE} (h1 : LfE S B td dd) (h2 : LfE S B ty dy) : LfE S B (tDGet td ty) (dOp fDGet dd dy) := lf_op lo_dget h1 h2
theorem lf_din {td ty : TE} {dd dy : TDE} (h1 : LfE S B ty dy) (h2 : LfE S B td dd) : LfE S B (tDIn ty td) (dOp fDIn dy dd) := lf_op lo_din h1 h2
theorem lf_dni {td ty : TE} {dd dy : TDE} (h1 : LfE S B ty dy) (h2 : LfE S B td dd) : LfE S B (tDNotIn ty td) (dOp fDNi dy dd) := lf_op lo_dni h1 h2

/-! ### an owned object is changed -/
variable {L : As} {env : Env} {σ : St}
def Cell.with (c : Cell) (d : D) : Cell := match c with
  | .s _ => .s d | .o _ => .o d | .m _ => .m d | .b _ => .b d
theorem kp_own {A : As} {H : Hp} {p : Addr} {o : HO} (ha : A p) (hm : ∃ u, H p = some u ∧ Mut (some u)) : Kp A A H (upd H p o) := by
  obtain ⟨u0, hu, hmu⟩ := hm
  have nt : ∀ {q u}, H q = some u → ¬ Mut (some u) → q ≠ p := fun {q u} h n e => by
    subst e
    rw [hu] at h; cases h; exact n hmu
  refine ⟨fun q xs h => ?_, fun q xs h => by rw [upd_ne (nt h fun z => z)]; exact h, fun q xs h n => by rw [upd_ne (fun e => n (by rw [e]; exact ha))]; exact h, fun q ob xs h => by rw [upd_ne (nt h fun z => z)]; exact h, fun q u h n => ⟨?_, n⟩, fun q C dx fs h n => by rw [upd_ne (fun e => n (by rw [e]; exact ha))]; exact h, fun q fs h => by rw [upd_ne (nt h fun z => z)]; exact h⟩
  · rcases h with h | ⟨ob, h⟩
    · exact .inl (by rw [upd_ne (nt h fun z => z)]; exact h)
    · exact .inr ⟨ob, by rw [upd_ne (nt h fun z => z)]; exact h⟩
  · have hne : q ≠ p := fun e => n (by rw [e]; exact ha)
    rcases h with h | ⟨ob, h⟩
    · exact .inl (by rw [upd_ne hne]; exact h)
    · exact .inr ⟨ob, by rw [upd_ne hne]; exact h⟩
theorem Ok.write (ok : Ok S B L env σ H) {i : Nat} {c : Cell} {p : Addr} {o : HO} {d : D} (hi : env[i]? = some (some c)) (hc : c.own = true) (hv : σ[i]? = some (some (.ref p))) (ho : Own S (Av B L env σ) (upd H p o) p d) :
    Ok S B L (env.set i (some (c.with d))) σ (upd H p o) ∧ Step B env σ H (env.set i (some (c.with d))) σ (upd H p o) := by
  have hil := (List.getElem?_eq_some_iff.mp hi).1
  have how : Ow B env σ p := .inr ⟨i, c, hi, hc, hv⟩
  have kp : Kp (Av B L env σ) (Av B L env σ) H (upd H p o) := kp_own (.inr how) (ok.ow how)
  have hwo : (c.with d).own = true := by cases c <;> first | rfl | cases hc
  have hsub : ∀ (j : Nat) (c' : Cell), (env.set i (some (c.with d)))[j]? = some (some c') → c'.own = true → (∃ c0 : Cell, env[j]? = some (some c0) ∧ c0.own = true) ∧ σ[j]? = σ[j]? := fun j c' h1 h2 => by
    rcases get_set h1 with ⟨e1, e2, _⟩ | ⟨_, h3⟩
    · subst e1; exact ⟨⟨c, hi, hc⟩, rfl⟩
    · exact ⟨⟨c', h3, h2⟩, rfl⟩
  have hs := ow_sub (B := B) hsub
  have w : ∀ a, Av B L (env.set i (some (c.with d))) σ a → Av B L env σ a := fun a z => z.elim .inl fun y => .inr (hs a y)
  have hn : H p ≠ none := by
    obtain ⟨u, hu, _⟩ := ok.ow how
    rw [hu]
    exact fun z => nomatch z
  refine ⟨⟨by rw [List.length_set]; exact ok.len, fun j c' h1 => ?_, fun j1 j2 c1 c2 a g1 g2 g3 g4 g5 g6 => ?_, fun a z => ok.sep a (hs a z), fun a z => ?_, B.stab H _ (fun a o' va h => by rw [upd_ne (fun e => ok.dv i c p hi hc hv (by rw [← e]; exact va))]; exact h) ok.bag, fun j c' a g1 g2 g3 => ?_⟩, fun a u h1 h2 => ?_, fun a z => .inl (hs a z), fun j d' h1 => ?_, fun j d' h1 => ?_, fun a h1 => ?_⟩
  · rcases get_set h1 with ⟨e1, e2, _⟩ | ⟨nj, h3⟩
    · cases e2
      subst e1
      refine ⟨_, hv, ?_⟩
      cases c with
      | o d0 => exact ⟨p, rfl, ho.weak w⟩
      | m d0 => exact ⟨p, rfl, ho.weak w⟩
      | s d0 => cases hc
      | b d0 => cases hc
    · obtain ⟨v, hv2, z⟩ := ok.at_ j c' h3
      refine ⟨v, hv2, ?_⟩
      cases c' with
      | s d0 => exact RD.weak (RD.mono kp z) w
      | o d0 =>
        obtain ⟨q, e, y⟩ := z
        have hq : q ≠ p := fun e3 => by subst e3; subst e; exact nj (ok.inj j i _ _ q h3 rfl hi hc hv2 hv)
        exact ⟨q, e, (y.mono kp fun u hu => by rw [upd_ne hq]; exact hu).weak w⟩
      | m d0 =>
        obtain ⟨q, e, y⟩ := z
        have hq : q ≠ p := fun e3 => by subst e3; subst e; exact nj (ok.inj j i _ _ q h3 rfl hi hc hv2 hv)
        exact ⟨q, e, (y.mono kp fun u hu => by rw [upd_ne hq]; exact hu).weak w⟩
      | b d0 =>
        rcases z with z | ⟨q, e, l, y⟩
        · exact .inl (RD.weak (RD.mono kp z) w)
        · have hq : q ≠ p := fun e3 => by subst e3; exact ok.sep q how l
          refine .inr ⟨q, e, l, (y.mono kp (fun u hu => ?_) (fun C dx fs hu => by rw [upd_ne hq]; exact hu) fun xs hu => by rw [upd_ne hq]; exact hu).weak w⟩
          rcases hu with hu | ⟨ob, hu⟩
          · exact .inl (by rw [upd_ne hq]; exact hu)
          · exact .inr ⟨ob, by rw [upd_ne hq]; exact hu⟩
  · obtain ⟨⟨c0, k1, k2⟩, _⟩ := hsub j1 c1 g1 g2
    obtain ⟨⟨c3, k3, k4⟩, _⟩ := hsub j2 c2 g3 g4
    exact ok.inj j1 j2 c0 c3 a k1 k2 k3 k4 g5 g6
  · by_cases e : a = p
    · subst e; rw [upd_same]; exact fun z => nomatch z
    · rw [upd_ne e]; exact ok.al a z
  · obtain ⟨⟨c0, k1, k2⟩, _⟩ := hsub j c' g1 g2
    exact ok.dv j c0 a k1 k2 g3
  · rw [upd_ne (fun e => h2 (by rw [e]; exact how))]; exact h1
  · rcases get_set h1 with ⟨e1, e2, _⟩ | ⟨_, h3⟩
    · subst e1
      cases c with
      | m d0 => exact ⟨⟨_, hi⟩, rfl⟩
      | o d0 => cases e2
      | s d0 => cases hc
      | b d0 => cases hc
    · exact ⟨⟨_, h3⟩, rfl⟩
  · rcases get_set h1 with ⟨e1, e2, _⟩ | ⟨_, h3⟩
    · subst e1
      cases c with
      | m d0 => cases e2
      | o d0 => cases e2
      | s d0 => cases hc
      | b d0 => cases hc
    · exact ⟨h3, rfl⟩
  · by_cases e : a = p
    · subst e; rw [upd_same] at h1; cases h1
    · rw [upd_ne e] at h1; exact h1

/-! ### methods of owned lists -/
/-- the slot of what is changed -/
def ownAt (env : Env) (i : Nat) (k : Cell → Prop) : Prop := match env[i]? with
  | some (some (.o d)) => k (.o d)
  | some (some (.m d)) => k (.m d)
  | _ => False
theorem ownAt_of {i : Nat} {k : Cell → Prop} (h : ownAt env i k) : ∃ c : Cell, env[i]? = some (some c) ∧ c.own = true ∧ k c := by
  unfold ownAt at h
  split at h
  · rename_i d e; exact ⟨_, e, rfl, h⟩
  · rename_i d e; exact ⟨_, e, rfl, h⟩
  · exact h.elim
theorem Ok.ownd (ok : Ok S B L env σ H) {i : Nat} {c : Cell} (h : env[i]? = some (some c)) (hc : c.own = true) : ∃ p, σ[i]? = some (some (.ref p)) ∧ Own S (Av B L env σ) H p c.d := by
  obtain ⟨v, hv, z⟩ := ok.at_ i c h
  cases c with
  | o d => obtain ⟨q, e, y⟩ := z; exact ⟨q, by rw [hv, e], y⟩
  | m d => obtain ⟨q, e, y⟩ := z; exact ⟨q, by rw [hv, e], y⟩
  | s d => cases hc
  | b d => cases hc
/-- a method by contents: what it is behind it, what it gives -/
abbrev FM := D → List D → (D → D → Prop) → Prop
def MtL (S : Sys) (r : V → List V → Hp → VK → Prop) (f : FM) : Prop := ∀ (A : As) (H : Hp) (p : Addr) (d : D) (vs : List V) (ds : List D) (k : D → D → Prop) (Q : VK), A p → Own S A H p d → RDs S A H vs ds → f d ds k →
  (∀ d' e v o, k d' e → (∀ H', Kp A A H H' → H' p = some o → Own S A H' p d') → RD S A H v e → Q v (upd H p o)) → r (.ref p) vs H Q
def isL : D → Prop
  | .lst _ => True
  | _ => False
def dBM (f : FM) (td : TDE) (ta : TDA) : TDE := fun env k => td env fun a env1 => match a with
  | .r i => ownAt env1 i fun c0 => isL c0.d ∧ ta env1 fun as env2 => shrs as env2 fun ds env3 => ownAt env3 i fun c => f c.d ds fun d' e => k (.s e) (env3.set i (some (c.with d')))
  | _ => False
theorem own_ty {A : As} {H : Hp} {p : Addr} {d : D} {K : PySem.W.Frag} (h : Own S A H p d) (hl : isL d) : tyV K "list" (.ref p) H := by
  cases d with
  | lst xs =>
    obtain ⟨vs, e, _⟩ := h
    exact .inl ⟨rfl, _, SqL.of e⟩
  | _ => exact hl.elim
theorem lf_bm {r : V → List V → Hp → VK → Prop} {f : FM} {to : TE} {ta : TA} {td : TDE} {da : TDA} {K : PySem.W.Frag} (hr : MtL S r f) (ho : LfE S B to td) (ha : LfA S B ta da) : LfE S B (tBM K "list" r to ta) (dBM f td da) := fun L env σ H Q k ok h hk => by
  refine ho L env σ H _ _ ok h fun av env1 v H1 h1 p1 => ?_
  obtain ⟨st1, p1⟩ := p1
  cases av with
  | s d => exact h1.elim
  | f d => exact h1.elim
  | r i =>
    obtain ⟨ok1, hv⟩ := p1
    obtain ⟨c0, g1, g3, g2, h1⟩ := ownAt_of h1
    obtain ⟨p0, hp0, w0⟩ := ok1.ownd g1 g3
    rw [hv] at hp0
    cases hp0
    refine ⟨own_ty w0 g2, ha L env1 σ H1 _ _ ok1 h1 fun avs env2 vs H2 h2 ok2 st2 l2 => ?_⟩
    obtain ⟨ds, env3, h3, ok3, st3, r3⟩ := l2.shrs ok2 l2.held h2
    obtain ⟨c, e4, e5, h4⟩ := ownAt_of h3
    obtain ⟨p, hp, w⟩ := ok3.ownd e4 e5
    rw [hv] at hp
    cases hp
    have how : Av B L env3 σ p0 := .inr (.inr ⟨i, c, e4, e5, hv⟩)
    refine hr _ H2 p0 c.d vs ds _ Q how w r3 h4 fun d' e v2 o g hw hrd => ?_
    have kp := kp_own (o := o) how (ok3.ow (.inr ⟨i, c, e4, e5, hv⟩))
    obtain ⟨ok5, st5⟩ := ok3.write e4 e5 hv (hw _ kp upd_same)
    exact hk _ _ _ _ g ⟨st1.trans (st2.trans (st3.trans st5)), ok5, RD.weak (RD.mono kp hrd) fun a z => z.elim .inl fun y => .inr (ow_sub (fun j c' g1 g2 => by
      rcases get_set g1 with ⟨e1, e2, _⟩ | ⟨_, g3⟩
      · subst e1; exact ⟨⟨c, e4, e5⟩, rfl⟩
      · exact ⟨⟨c', g3, g2⟩, rfl⟩) a y)⟩
def dBM0 (f : FM) (td : TDE) : TDE := fun env k => td env fun a env1 => match a with
  | .r i => ownAt env1 i fun c => isL c.d ∧ f c.d [] fun d' e => k (.s e) (env1.set i (some (c.with d')))
  | _ => False
theorem lf_bm0 {r : V → List V → Hp → VK → Prop} {f : FM} {to : TE} {td : TDE} {K : PySem.W.Frag} (hr : MtL S r f) (ho : LfE S B to td) : LfE S B (tBM0 K "list" r to) (dBM0 f td) := fun L env σ H Q k ok h hk => by
  refine ho L env σ H _ _ ok h fun av env1 v H1 h1 p1 => ?_
  obtain ⟨st1, p1⟩ := p1
  cases av with
  | s d => exact h1.elim
  | f d => exact h1.elim
  | r i =>
    obtain ⟨ok1, hv⟩ := p1
    obtain ⟨c, e4, e5, g2, h4⟩ := ownAt_of h1
    obtain ⟨p0, hp0, w⟩ := ok1.ownd e4 e5
    rw [hv] at hp0
    cases hp0
    refine ⟨own_ty w g2, ?_⟩
    have how : Av B L env1 σ p0 := .inr (.inr ⟨i, c, e4, e5, hv⟩)
    refine hr _ H1 p0 c.d [] [] _ Q how w .nil h4 fun d' e v2 o g hw hrd => ?_
    have kp := kp_own (o := o) how (ok1.ow (.inr ⟨i, c, e4, e5, hv⟩))
    obtain ⟨ok5, st5⟩ := ok1.write e4 e5 hv (hw _ kp upd_same)
    exact hk _ _ _ _ g ⟨st1.trans st5, ok5, RD.weak (RD.mono kp hrd) fun a z => z.elim .inl fun y => .inr (ow_sub (fun j c' g1 g2 => by
      rcases get_set g1 with ⟨e1, e2, _⟩ | ⟨_, g3⟩
      · subst e1; exact ⟨⟨c, e4, e5⟩, rfl⟩
      · exact ⟨⟨c', g3, g2⟩, rfl⟩) a y)⟩
def fAppend : FM := fun d ds k => match d, ds with
  | .lst xs, [x] => xs.length < sizeLine ∧ k (.lst (xs ++ [x])) .non
  | _, _ => False
theorem lm_append : MtL S rAppend fAppend := fun A H p d vs ds k Q ha w r h q => by
  match d, ds, r, h with
  | .lst xs, [x], .cons r1 .nil, h =>
    obtain ⟨us, e, r2⟩ := w
    exact ⟨p, us, _, rfl, rfl, e, by rw [r2.len]; exact h.1, q _ _ _ _ h.2 (fun H' kp e' => ⟨_, e', (r2.app (.one r1)).mono kp⟩) .non⟩
def fPop : FM := fun d ds k => match d, ds with
  | .lst xs, [] => ob xs[xs.length - 1]? fun x => k (.lst xs.dropLast) x
  | _, _ => False
theorem lm_pop : MtL S rPop fPop := fun A H p d vs ds k Q ha w r h q => by
  match d, ds, r, h with
  | .lst xs, [], .nil, h =>
    obtain ⟨us, e, r2⟩ := w
    obtain ⟨x, e1, h⟩ := ob_of h
    obtain ⟨v, e2, rv⟩ := r2.at e1
    exact ⟨p, us, v, rfl, rfl, e, by rw [r2.len]; exact e2, q _ _ _ _ h (fun H' kp e' => ⟨_, e', r2.dropLast.mono kp⟩) rv⟩
def fPopAt : FM := fun d ds k => match d, ds with
  | .lst xs, [.int i] => -(2 ^ 63) ≤ i ∧ i < 2 ^ 63 ∧ ob (seqIndex? i xs.length) fun j => ob xs[j]? fun x => k (.lst (xs.eraseIdx j)) x
  | _, _ => False
theorem lm_popAt : MtL S rPopAt fPopAt := fun A H p d vs ds k Q ha w r h q => by
  match d, ds, h with
  | .lst xs, [.int i], h =>
    cases r with
    | cons r1 r0 =>
      cases r0
      cases r1
      obtain ⟨us, e, r2⟩ := w
      obtain ⟨b1, b2, h⟩ := h
      obtain ⟨j, e0, h⟩ := ob_of h
      obtain ⟨x, e1, h⟩ := ob_of h
      obtain ⟨v, e2, rv⟩ := r2.at e1
      exact ⟨p, us, i, j, v, rfl, rfl, e, b1, b2, by rw [r2.len]; exact e0, e2, q _ _ _ _ h (fun H' kp e' => ⟨_, e', (r2.eraseIdx j).mono kp⟩) rv⟩
end
end Dl
/-! DL6: statements, loops, comprehensions. -/
namespace Dl
open PySem L2

structure EndsD where
  nx : Env → Prop
  rt : AV → Env → Prop
  bk : Env → Prop := fun _ => False
  ct : Env → Prop := fun _ => False
  xx : Addr → Option (List (Str × D)) → Env → Prop := fun _ _ _ => False
abbrev TDS := EndsD → Env → Prop
abbrev TDG := D → Env → (Env → Prop) → Prop
/-- what an error carries -/
def XdI (S : Sys) (A : As) (H : Hp) (dd : Option Addr) : Option (List (Str × D)) → Prop
  | none => dd = none
  | some fds => ∃ d fs, dd = some d ∧ H d = some (.xd fs) ∧ fs.map (·.1) = fds.map (·.1) ∧ RDs S A H (fs.map (·.2)) (fds.map (·.2))
theorem XdI.mono {S : Sys} {A A' : As} {H H' : Hp} {dd : Option Addr} : ∀ {fo : Option (List (Str × D))}, XdI S A H dd fo → Kp A A' H H' → XdI S A' H' dd fo
  | none, h, _ => h
  | some _, ⟨d, fs, e, h, n, r⟩, k => ⟨d, fs, e, k.x _ _ h, n, r.mono k⟩
theorem XdI.weak {S : Sys} {A A' : As} {H : Hp} {dd : Option Addr} {fo : Option (List (Str × D))} (h : XdI S A H dd fo) (w : ∀ a, A' a → A a) : XdI S A' H dd fo := h.mono (Kp.weak w)
/-- what is behind a statement -/
structure Rel (S : Sys) (B : Vol) (L : As) (env : Env) (σ : St) (H : Hp) (D : Ends) (E : EndsD) : Prop where
  nx : ∀ env' σ' H', E.nx env' → Ok S B L env' σ' H' → Step B env σ H env' σ' H' → D.nx σ' H'
  rt : ∀ av env' σ' v H', E.rt av env' → Step B env σ H env' σ' H' → PostV S B L env' σ' H H' v av → D.rt v H'
  bk : ∀ env' σ' H', E.bk env' → Ok S B L env' σ' H' → Step B env σ H env' σ' H' → D.bk σ' H'
  ct : ∀ env' σ' H', E.ct env' → Ok S B L env' σ' H' → Step B env σ H env' σ' H' → D.ct σ' H'
  xx : ∀ C fo env' σ' H' dd, E.xx C fo env' → Ok S B L env' σ' H' → Step B env σ H env' σ' H' → XdI S (Av B L env' σ') H' dd fo → B.W (.ref C) dd σ' H'
def LfS (S : Sys) (B : Vol) (ts : TS) (t : TDS) : Prop := ∀ (L : As) (env : Env) (σ : St) (H : Hp) (D : Ends) (E : EndsD), Ok S B L env σ H → t E env → Rel S B L env σ H D E → ts D σ H
/-- the slots as they were, but those of ts -/
def Off (ts : List Nat) (σ σ' : St) : Prop := σ'.length = σ.length ∧ ∀ i : Nat, i ∉ ts → σ'[i]? = σ[i]?
def LfG (S : Sys) (B : Vol) (tg : TG) (g : TDG) (ts : List Nat) : Prop := ∀ (L : As) (env : Env) (σ : St) (H : Hp) (v : V) (d : D) (Q : St → Hp → Prop) (k : Env → Prop), Ok S B L env σ H → RD S (Av B L env σ) H v d → g d env k →
  (∀ env' σ', k env' → Ok S B L env' σ' H → Step B env σ H env' σ' H → Off ts σ σ' → Q σ' H) → tg v σ H Q
section
variable {S : Sys} {B : Vol} {L : As} {env env' : Env} {σ σ' : St} {H H' : Hp} {W : Ends} {E : EndsD}
theorem PostV.mono {v : V} {av : AV} {H2 : Hp} (h : PostV S B L env σ H H' v av) (al : ∀ a, H a = none → H2 a = none) : PostV S B L env σ H2 H' v av := by
  cases av with
  | s d => exact h
  | r i => exact h
  | f d => obtain ⟨p, e, n, z⟩ := h; exact ⟨p, e, al p n, z⟩
theorem Rel.step (r : Rel S B L env σ H W E) (st : Step B env σ H env' σ' H') : Rel S B L env' σ' H' W E :=
  ⟨fun e s h k o t => r.nx e s h k o (st.trans t), fun a e s v h k t p => r.rt a e s v h k (st.trans t) (p.mono st.al), fun e s h k o t => r.bk e s h k o (st.trans t), fun e s h k o t => r.ct e s h k o (st.trans t), fun C fo e s h dd k o t x => r.xx C fo e s h dd k o (st.trans t) x⟩
/-- a slot gets something shared -/
theorem Ok.setS (ok : Ok S B L env σ H) {i : Nat} {v : V} {d : D} (hi : i < env.length) (h : RD S (Av B L env σ) H v d) : Ok S B L (env.set i (some (.s d))) (σ.set i (some v)) H ∧ Step B env σ H (env.set i (some (.s d))) (σ.set i (some v)) H := by
  have hsub : ∀ (j : Nat) (c : Cell), (env.set i (some (.s d)))[j]? = some (some c) → c.own = true → (∃ c0 : Cell, env[j]? = some (some c0) ∧ c0.own = true) ∧ (σ.set i (some v))[j]? = σ[j]? := fun j c h1 h2 => by
    rcases get_set h1 with ⟨_, e, _⟩ | ⟨n, h3⟩
    · cases e; cases h2
    · exact ⟨⟨c, h3, h2⟩, List.getElem?_set_ne (Ne.symm n)⟩
  refine ⟨ok.less (by rw [List.length_set, List.length_set]; exact ok.len) hsub fun j c h1 => ?_, fun a o h1 _ => h1, fun a z => .inl (ow_sub hsub a z), fun j d' h1 => ?_, fun j d' h1 => ?_, fun _ z => z⟩
  · rcases get_set h1 with ⟨e1, e2, _⟩ | ⟨n1, h3⟩
    · cases e2
      subst e1
      exact ⟨v, List.getElem?_set_self (by rw [ok.len]; exact hi), .inr h⟩
    · obtain ⟨u, hu, z⟩ := ok.at_ j c h3
      exact ⟨u, by rw [List.getElem?_set_ne (Ne.symm n1)]; exact hu, .inr z⟩
  · rcases get_set h1 with ⟨_, e, _⟩ | ⟨n, h3⟩
    · cases e
    · exact ⟨⟨_, h3⟩, List.getElem?_set_ne (Ne.symm n)⟩
  · rcases get_set h1 with ⟨_, e, _⟩ | ⟨n, h3⟩
    · cases e
    · exact ⟨h3, List.getElem?_set_ne (Ne.symm n)⟩
/-- a slot gets a new object for its own -/
theorem Ok.setO {p : Addr} (ok : Ok S B (La L p) env σ H) (hb : ∀ (i : Nat) (d : Dl.D), env[i]? = some (some (.b d)) → σ[i]? = some (some (.ref p)) → RD S (Av B (La L p) env σ) H (.ref p) d) (hL : ¬ L p) {i : Nat} {d : Dl.D} (hi : i < env.length) (h : Own S (Av B (La L p) env σ) H p d) :
    Ok S B L (env.set i (some (.o d))) (σ.set i (some (.ref p))) H ∧ (∀ a, Ow B (env.set i (some (.o d))) (σ.set i (some (.ref p))) a → Ow B env σ a ∨ a = p) := by
  have hown : ∀ a, Ow B (env.set i (some (.o d))) (σ.set i (some (.ref p))) a → Ow B env σ a ∨ a = p := fun a z => z.elim (fun z => .inl (.inl z)) fun ⟨j, c, h1, h2, h3⟩ => by
    rcases get_set h1 with ⟨e1, e2, _⟩ | ⟨n1, h4⟩
    · subst e1
      rw [List.getElem?_set_self (by rw [ok.len]; exact hi)] at h3
      cases h3
      exact .inr rfl
    · rw [List.getElem?_set_ne (Ne.symm n1)] at h3
      exact .inl (.inr ⟨j, c, h4, h2, h3⟩)
  have w : ∀ a, Av B L (env.set i (some (.o d))) (σ.set i (some (.ref p))) a → Av B (La L p) env σ a := fun a z => z.elim (fun y => .inl (.inl y)) fun y => (hown a y).elim .inr fun e => .inl (.inr e)
  have hp : ¬ Ow B env σ p := la_out ok
  refine ⟨⟨by rw [List.length_set, List.length_set]; exact ok.len, fun j c h1 => ?_, fun j1 j2 c1 c2 a g1 g2 g3 g4 g5 g6 => ?_, fun a z q => ?_, fun a z => ok.al a (.inl z), ok.bag, fun j c a g1 g2 g3 va => ?_⟩, hown⟩
  · rcases get_set h1 with ⟨e1, e2, _⟩ | ⟨n1, h3⟩
    · cases e2
      subst e1
      exact ⟨_, List.getElem?_set_self (by rw [ok.len]; exact hi), p, rfl, h.weak w⟩
    · obtain ⟨u, hu, z⟩ := ok.at_ j c h3
      refine ⟨u, by rw [List.getElem?_set_ne (Ne.symm n1)]; exact hu, ?_⟩
      cases c with
      | s d0 => exact RD.weak z w
      | o d0 => obtain ⟨q, e, y⟩ := z; exact ⟨q, e, y.weak w⟩
      | m d0 => obtain ⟨q, e, y⟩ := z; exact ⟨q, e, y.weak w⟩
      | b d0 =>
        rcases z with z | ⟨q, e, l, y⟩
        · exact .inl (RD.weak z w)
        · rcases l with l | rfl
          · exact .inr ⟨q, e, l, y.weak w⟩
          · subst e
            exact .inl (RD.weak (hb j d0 h3 hu) w)
  · rcases get_set g1 with ⟨e1, e2, _⟩ | ⟨n1, h3⟩ <;> rcases get_set g3 with ⟨e3, e4, _⟩ | ⟨n2, h4⟩
    · rw [e1, e3]
    · subst e1
      rw [List.getElem?_set_self (by rw [ok.len]; exact hi)] at g5
      cases g5
      rw [List.getElem?_set_ne (Ne.symm n2)] at g6
      exact (hp (.inr ⟨j2, c2, h4, g4, g6⟩)).elim
    · subst e3
      rw [List.getElem?_set_self (by rw [ok.len]; exact hi)] at g6
      cases g6
      rw [List.getElem?_set_ne (Ne.symm n1)] at g5
      exact (hp (.inr ⟨j1, c1, h3, g2, g5⟩)).elim
    · rw [List.getElem?_set_ne (Ne.symm n1)] at g5
      rw [List.getElem?_set_ne (Ne.symm n2)] at g6
      exact ok.inj j1 j2 c1 c2 a h3 g2 h4 g4 g5 g6
  · rcases hown a z with y | rfl
    · exact ok.sep a y (.inl q)
    · exact hL q
  · rcases get_set g1 with ⟨e1, e2, _⟩ | ⟨n1, h3⟩
    · subst e1
      rw [List.getElem?_set_self (by rw [ok.len]; exact hi)] at g3
      cases g3
      exact hp (.inl va)
    · rw [List.getElem?_set_ne (Ne.symm n1)] at g3
      exact ok.dv j c a h3 g2 g3 va
/-- lent slots, a new address kept clear of -/
theorem kp_step {p : Addr} (ok : Ok S B L env σ H) (st : Step B env σ H env' σ' H') (hn : H p = none) : Kp (Av B L env σ) (Av B (La L p) env' σ') H H' := by
  have k := st.kp ok
  refine ⟨k.t, k.u, k.l, k.z, fun q u h n => ⟨(k.r q u h n).1, ?_⟩, k.i, k.x⟩
  rintro ((z | z) | z)
  · exact n (.inl z)
  · rw [z] at h
    rcases h with h | ⟨ob, h⟩ <;> · rw [hn] at h; cases h
  · exact (k.r q u h n).2 (.inr z)
theorem Step.lent2 {p : Addr} (ok : Ok S B L env σ H) (st : Step B env σ H env' σ H') (hn : H p = none) : ∀ (i : Nat) (d : D), env'[i]? = some (some (.b d)) → σ[i]? = some (some (.ref p)) → RD S (Av B (La L p) env' σ) H' (.ref p) d := fun i d h h2 => by
  obtain ⟨h0, _⟩ := st.b i d h
  rcases ok.slot h0 h2 with z | ⟨q, e, hl, _⟩
  · exact z.mono (kp_step ok st hn)
  · cases e
    exact absurd hn (ok.al _ hl)

/-! ### plain statements -/
def dNext : TDS := fun E env => E.nx env
def dSeq (t u : TDS) : TDS := fun E env => t { E with nx := u E } env
def dBreak : TDS := fun E env => E.bk env
def dCont : TDS := fun E env => E.ct env
def dDrop (t : TDE) : TDS := fun E env => t env fun _ env1 => E.nx env1
def dRet (t : TDE) : TDS := fun E env => t env fun a env1 => E.rt a env1
def dRetN : TDS := fun E env => E.rt (.s .non) env
def dIf (c : TDT) (t u : TDS) : TDS := fun E env => c env fun b env1 => IfB b (t E env1) (u E env1)
def dNever : TDS := fun _ _ => False
theorem lf_next : LfS S B tNext dNext := fun L env σ H W E ok h r => r.nx _ _ _ h ok .refl
theorem lf_seq {t u : TS} {dt du : TDS} (h1 : LfS S B t dt) (h2 : LfS S B u du) : LfS S B (tSeq t u) (dSeq dt du) := fun L env σ H W E ok h r =>
  h1 L env σ H _ _ ok h ⟨fun e s g k o st => h2 L e s g W E o k (r.step st), r.rt, r.bk, r.ct, r.xx⟩
theorem lf_break : LfS S B tBreak dBreak := fun L env σ H W E ok h r => r.bk _ _ _ h ok .refl
theorem lf_cont : LfS S B tCont dCont := fun L env σ H W E ok h r => r.ct _ _ _ h ok .refl
theorem lf_never : LfS S B tNever dNever := fun L env σ H W E ok h r => h.elim
theorem lf_drop {te : TE} {t : TDE} (he : LfE S B te t) : LfS S B (tDrop te) (dDrop t) := fun L env σ H W E ok h r =>
  he L env σ H _ _ ok h fun av env1 v H1 h1 p1 => by
    obtain ⟨ok1, st1, _⟩ := p1.vl ok
    exact r.nx _ _ _ h1 ok1 st1
theorem lf_ret {te : TE} {t : TDE} (he : LfE S B te t) : LfS S B (tRet te) (dRet t) := fun L env σ H W E ok h r =>
  he L env σ H _ _ ok h fun av env1 v H1 h1 p1 => r.rt _ _ _ _ _ h1 p1.1 p1.2
theorem lf_retN : LfS S B tRetN dRetN := fun L env σ H W E ok h r => r.rt _ _ _ _ _ h .refl ⟨ok, .non⟩
theorem lf_if {c : TT} {t u : TS} {dc : TDT} {dt du : TDS} (h0 : LfT S B c dc) (h1 : LfS S B t dt) (h2 : LfS S B u du) : LfS S B (tIfS c t u) (dIf dc dt du) := fun L env σ H W E ok h r => by
  refine h0 L env σ H _ _ ok h fun b env1 H1 g ok1 st1 => ?_
  cases b with
  | true => (replace g := g.t rfl; simp only [if_true]); exact h1 L env1 σ H1 W E ok1 g (r.step st1)
  | false => (replace g := g.f rfl; simp only [Bool.false_eq_true, if_false]); exact h2 L env1 σ H1 W E ok1 g (r.step st1)
/-- x = e, shared -/
def dSet (i : Nat) (t : TDE) : TDS := fun E env => t env fun a env1 => shr env1 a fun d env2 => Nat.blt i env2.length = true ∧ E.nx (env2.set i (some (.s d)))
theorem lf_set {te : TE} {t : TDE} {i : Nat} (he : LfE S B te t) : LfS S B (tAsg te (gName i)) (dSet i t) := fun L env σ H W E ok h r =>
  he L env σ H _ _ ok h fun av env1 v H1 h1 p1 => by
    obtain ⟨ok1, st1, l1⟩ := p1.vl ok
    obtain ⟨d, env2, ⟨hl, h2⟩, ok2, st2, r2⟩ := l1.shr ok1 h1
    obtain ⟨ok3, st3⟩ := ok2.setS (Nat.le_of_ble_eq_true hl) r2
    exact r.nx _ _ _ h2 ok3 (st1.trans (st2.trans st3))
/-- x = e, a new object for its own -/
def dSetO (i : Nat) (t : TDE) : TDS := fun E env => t env fun a env1 => match a with
  | .f d => Nat.blt i env1.length = true ∧ E.nx (env1.set i (some (.o d)))
  | .r j => match env1[j]? with
    | some (some (.o d)) => Nat.blt i env1.length = true ∧ Nat.beq i j = false ∧ E.nx ((env1.set j none).set i (some (.o d)))
    | _ => False
  | _ => False
/-- a slot is forgotten -/
theorem Ok.drop (ok : Ok S B L env σ H) {j : Nat} : Ok S B L (env.set j none) σ H ∧ Step B env σ H (env.set j none) σ H := by
  have hsub : ∀ (i : Nat) (c : Cell), (env.set j none)[i]? = some (some c) → c.own = true → (∃ c0 : Cell, env[i]? = some (some c0) ∧ c0.own = true) ∧ σ[i]? = σ[i]? := fun i c h1 h2 => by
    rcases get_set h1 with ⟨_, e, _⟩ | ⟨n, h3⟩
    · cases e
    · exact ⟨⟨c, h3, h2⟩, rfl⟩
  refine ⟨ok.less (by rw [List.length_set]; exact ok.len) hsub fun i c h1 => ?_, fun a o h1 _ => h1, fun a z => .inl (ow_sub hsub a z), fun i d' h1 => ?_, fun i d' h1 => ?_, fun _ z => z⟩
  · rcases get_set h1 with ⟨_, e, _⟩ | ⟨n1, h3⟩
    · cases e
    · obtain ⟨u, hu, z⟩ := ok.at_ i c h3
      exact ⟨u, hu, .inr z⟩
  · rcases get_set h1 with ⟨_, e, _⟩ | ⟨n, h3⟩
    · cases e
    · exact ⟨⟨_, h3⟩, rfl⟩
  · rcases get_set h1 with ⟨_, e, _⟩ | ⟨n, h3⟩
    · cases e
    · exact ⟨h3, rfl⟩
theorem Ok.move (ok : Ok S B L env σ H) {i j : Nat} {d : D} {v : V} (hj : env[j]? = some (some (.o d))) (hv : σ[j]? = some (some v)) (hi : i < env.length) (ne : i ≠ j) :
    Ok S B L ((env.set j none).set i (some (.o d))) (σ.set i (some v)) H ∧ Step B env σ H ((env.set j none).set i (some (.o d))) (σ.set i (some v)) H := by
  obtain ⟨u, hu, p, e, w⟩ := ok.at_ j _ hj
  rw [hv] at hu
  cases hu
  subst e
  have how : Ow B env σ p := .inr ⟨j, _, hj, rfl, hv⟩
  -- first the slot as lent ground
  have okd := (ok.drop (j := j)).1
  have hnp : ¬ Ow B (env.set j none) σ p := fun z => z.elim (ok.dv j _ p hj rfl hv) fun ⟨k, c, h1, h2, h3⟩ => by
    rcases get_set h1 with ⟨_, e, _⟩ | ⟨n, h4⟩
    · cases e
    · exact n (ok.inj k j c _ p h4 h2 hj rfl h3 hv)
  have hw : ∀ a, Av B (La L p) (env.set j none) σ a → Av B L env σ a := fun a z => z.elim (fun y => y.elim .inl fun e => .inr (by rw [e]; exact how)) fun y => .inr (by
    rcases y with y | ⟨k, c, h1, h2, h3⟩
    · exact .inl y
    rcases get_set h1 with ⟨_, e, _⟩ | ⟨n, h4⟩
    · cases e
    · exact .inr ⟨k, c, h4, h2, h3⟩)
  have okl : Ok S B (La L p) (env.set j none) σ H := by
    refine ⟨okd.len, fun k c h1 => ?_, okd.inj, fun a z y => ?_, fun a z => ?_, okd.bag, okd.dv⟩
    · rcases get_set h1 with ⟨_, e, _⟩ | ⟨n, h4⟩
      · cases e
      · obtain ⟨u, hu, z⟩ := ok.at_ k c h4
        refine ⟨u, hu, ?_⟩
        cases c with
        | s d0 => exact RD.weak z hw
        | o d0 => obtain ⟨q, e, y⟩ := z; exact ⟨q, e, y.weak hw⟩
        | m d0 => obtain ⟨q, e, y⟩ := z; exact ⟨q, e, y.weak hw⟩
        | b d0 => exact z.elim (fun z => .inl (RD.weak z hw)) fun ⟨q, e, l, y⟩ => .inr ⟨q, e, .inl l, y.weak hw⟩
    · rcases y with y | rfl
      · exact okd.sep a z y
      · exact hnp z
    · rcases z with z | rfl
      · exact ok.al a z
      · obtain ⟨o, ho, _⟩ := ok.ow how
        rw [ho]
        exact fun z => nomatch z
  have hlent : ∀ (k : Nat) (d0 : D), (env.set j none)[k]? = some (some (.b d0)) → σ[k]? = some (some (.ref p)) → RD S (Av B (La L p) (env.set j none) σ) H (.ref p) d0 := fun k d0 h1 h2 => by
    rcases get_set h1 with ⟨_, e, _⟩ | ⟨n, h4⟩
    · cases e
    · rcases ok.slot h4 h2 with z | ⟨q, e, l, _⟩
      · exact RD.weak z hw
      · cases e
        exact (ok.sep p how l).elim
  obtain ⟨ok2, hown⟩ := okl.setO hlent (ok.sep p how) (i := i) (d := d) (by rw [List.length_set]; exact hi) (w.weak hw)
  refine ⟨ok2, fun a o h1 _ => h1, fun a z => ?_, fun k d' h1 => ?_, fun k d' h1 => ?_, fun _ z => z⟩
  · rcases hown a z with (y | ⟨k, c, h1, h2, h3⟩) | rfl
    · exact .inl (.inl y)
    · rcases get_set h1 with ⟨_, e, _⟩ | ⟨n, h4⟩
      · cases e
      · exact .inl (.inr ⟨k, c, h4, h2, h3⟩)
    · exact .inl how
  · rcases get_set h1 with ⟨_, e, _⟩ | ⟨n, h3⟩
    · cases e
    · rcases get_set h3 with ⟨_, e, _⟩ | ⟨_, h4⟩
      · cases e
      · exact ⟨⟨_, h4⟩, List.getElem?_set_ne (Ne.symm n)⟩
  · rcases get_set h1 with ⟨_, e, _⟩ | ⟨n, h3⟩
    · cases e
    · rcases get_set h3 with ⟨_, e, _⟩ | ⟨_, h4⟩
      · cases e
      · exact ⟨h4, List.getElem?_set_ne (Ne.symm n)⟩
theorem lf_setO {te : TE} {t : TDE} {i : Nat} (he : LfE S B te t) : LfS S B (tAsg te (gName i)) (dSetO i t) := fun L env σ H W E ok h r =>
  he L env σ H _ _ ok h fun av env1 v H1 h1 p1 => by
    cases av with
    | s d => exact h1.elim
    | f d =>
      obtain ⟨hl, h1⟩ := h1
      have hl := Nat.le_of_ble_eq_true hl
      obtain ⟨st1, p, rfl, hn, ok1, w1⟩ := p1
      obtain ⟨ok2, hown⟩ := ok1.setO (st1.lent2 ok hn) (fun z => ok.al p z hn) hl w1
      refine r.nx _ _ _ h1 ok2 ⟨st1.e, fun a z => ?_, fun j d' g => ?_, fun j d' g => ?_, st1.al⟩
      · rcases hown a z with y | rfl
        · exact st1.n a y
        · exact .inr hn
      · rcases get_set g with ⟨_, e, _⟩ | ⟨n, g2⟩
        · cases e
        · obtain ⟨k1, k2⟩ := st1.m j d' g2
          exact ⟨k1, (List.getElem?_set_ne (Ne.symm n)).trans k2⟩
      · rcases get_set g with ⟨_, e, _⟩ | ⟨n, g2⟩
        · cases e
        · obtain ⟨k1, k2⟩ := st1.b j d' g2
          exact ⟨k1, (List.getElem?_set_ne (Ne.symm n)).trans k2⟩
    | r j =>
      have h1 : (match env1[j]? with | some (some (.o d)) => Nat.blt i env1.length = true ∧ Nat.beq i j = false ∧ E.nx ((env1.set j none).set i (some (.o d))) | _ => False) := h1
      obtain ⟨st1, ok1, hv⟩ := p1
      split at h1
      · rename_i d hj
        obtain ⟨hl, ne, h1⟩ := h1
        have hl := Nat.le_of_ble_eq_true hl
        have ne : i ≠ j := fun e => by rw [e] at ne; simp at ne
        obtain ⟨ok2, st2⟩ := ok1.move hj hv hl ne
        exact r.nx _ _ _ h1 ok2 (st1.trans st2)
      · exact h1.elim
end
end Dl
/-! DL7: targets, what a loop walks, lending, loops. -/
namespace Dl
open PySem L2
section
variable {S : Sys} {B : Vol} {L : As} {env env' : Env} {σ σ' : St} {H H' : Hp} {W : Ends} {E : EndsD}

/-! ### targets -/
def dgName (i : Nat) : TDG := fun d env k => Nat.blt i env.length = true ∧ k (env.set i (some (.s d)))
theorem lg_name {i : Nat} : LfG S B (gName i) (dgName i) [i] := fun L env σ H v d Q k ok hr h hk => by
  obtain ⟨ok1, st1⟩ := ok.setS (Nat.le_of_ble_eq_true h.1) hr
  exact hk _ _ h.2 ok1 st1 ⟨List.length_set, fun j hj => List.getElem?_set_ne fun e => hj (by simp [e])⟩
abbrev TDGs := List D → Env → (Env → Prop) → Prop
def LfGs (S : Sys) (B : Vol) (tg : TGs) (g : TDGs) (ts : List Nat) : Prop := ∀ (L : As) (env : Env) (σ : St) (H : Hp) (vs : List V) (ds : List D) (Q : St → Hp → Prop) (k : Env → Prop), Ok S B L env σ H → RDs S (Av B L env σ) H vs ds → g ds env k →
  (∀ env' σ', k env' → Ok S B L env' σ' H → Step B env σ H env' σ' H → Off ts σ σ' → Q σ' H) → tg vs σ H Q
def dgNil : TDGs := fun ds env k => match ds with
  | [] => k env
  | _ => False
def dgCons (g : TDG) (r : TDGs) : TDGs := fun ds env k => match ds with
  | d :: ds => g d env fun env1 => r ds env1 k
  | _ => False
theorem lg_nil : LfGs S B gNil dgNil [] := fun L env σ H vs ds Q k ok hr h hk => by
  match ds, h with
  | [], h => cases hr; exact ⟨rfl, hk _ _ h ok .refl ⟨rfl, fun _ _ => rfl⟩⟩
theorem lg_cons {tg : TG} {tr : TGs} {g : TDG} {r : TDGs} {ts us : List Nat} (h1 : LfG S B tg g ts) (h2 : LfGs S B tr r us) : LfGs S B (gCons tg tr) (dgCons g r) (ts ++ us) := fun L env σ H vs ds Q k ok hr h hk => by
  match ds, hr, h with
  | d :: ds, .cons r1 r2, h =>
    refine ⟨_, _, rfl, h1 L env σ H _ d _ _ ok r1 h fun env1 σ1 g1 ok1 st1 f1 => ?_⟩
    exact h2 L env1 σ1 H _ ds _ _ ok1 (r2.step ok st1) g1 fun env2 σ2 g2 ok2 st2 f2 => hk _ _ g2 ok2 (st1.trans st2) ⟨f2.1.trans f1.1, fun i hi => (f2.2 i fun z => hi (List.mem_append_right _ z)).trans (f1.2 i fun z => hi (List.mem_append_left _ z))⟩
def dgTup (n : Nat) (r : TDGs) : TDG := fun d env k => match d with
  | .tup ds => ds.length = n ∧ r ds env k
  | _ => False
theorem lg_tup {K : PySem.W.Frag} {n : Nat} {tr : TGs} {r : TDGs} {ts : List Nat} (h1 : LfGs S B tr r ts) : LfG S B (gTup K n tr) (dgTup n r) ts := fun L env σ H v d Q k ok hr h hk => by
  match d, hr, h with
  | .tup ds, .tup e rr, h => exact ⟨_, _, rfl, .inl (.inl e), by rw [rr.len]; exact h.1, h1 L env σ H _ ds _ _ ok rr h.2 hk⟩
/-- an assignment to more than one name -/
def dAsg (t : TDE) (g : TDG) : TDS := fun E env => t env fun a env1 => shr env1 a fun d env2 => g d env2 E.nx
theorem lf_asg {te : TE} {tg : TG} {t : TDE} {g : TDG} {ts : List Nat} (he : LfE S B te t) (hg : LfG S B tg g ts) : LfS S B (tAsg te tg) (dAsg t g) := fun L env σ H W E ok h r =>
  he L env σ H _ _ ok h fun av env1 v H1 h1 p1 => by
    obtain ⟨ok1, st1, l1⟩ := p1.vl ok
    obtain ⟨d, env2, h2, ok2, st2, r2⟩ := l1.shr ok1 h1
    exact hg L env2 σ H1 v d _ _ ok2 r2 h2 fun env3 σ3 h3 ok3 st3 _ => r.nx _ _ _ h3 ok3 (st1.trans (st2.trans st3))

/-! ### lending -/
def bwE (bw : Option Nat) (env : Env) : Env := match bw with
  | none => env
  | some i => match env[i]? with
    | some (some c) => env.set i (some (.b c.d))
    | _ => env
def unb (bw : Option Nat) (env envn : Env) : Option Env := match bw with
  | none => some envn
  | some i => match env[i]?, envn[i]? with
    | some (some c), some (some (.b _)) => some (envn.set i (some c))
    | _, _ => none
theorem Ok.bor (ok : Ok S B L env σ H) {j : Nat} {c : Cell} {p : Addr} (hj : env[j]? = some (some c)) (hc : c.own = true) (hv : σ[j]? = some (some (.ref p))) : Ok S B (La L p) (env.set j (some (.b c.d))) σ H := by
  obtain ⟨q, hq, w⟩ := ok.ownd hj hc
  rw [hv] at hq
  cases hq
  have how : Ow B env σ p := .inr ⟨j, _, hj, hc, hv⟩
  have hnp : ¬ Ow B (env.set j (some (.b c.d))) σ p := fun z => z.elim (ok.dv j _ p hj hc hv) fun ⟨k, c', h1, h2, h3⟩ => by
    rcases get_set h1 with ⟨_, e, _⟩ | ⟨n, h4⟩
    · cases e; cases h2
    · exact n (ok.inj k j c' _ p h4 h2 hj hc h3 hv)
  have hsub : ∀ a, Ow B (env.set j (some (.b c.d))) σ a → Ow B env σ a := fun a z => z.elim .inl fun ⟨k, c', h1, h2, h3⟩ => by
    rcases get_set h1 with ⟨_, e, _⟩ | ⟨n, h4⟩
    · cases e; cases h2
    · exact .inr ⟨k, c', h4, h2, h3⟩
  have hw : ∀ a, Av B (La L p) (env.set j (some (.b c.d))) σ a → Av B L env σ a := fun a z => z.elim (fun y => y.elim .inl fun e => .inr (by rw [e]; exact how)) fun y => .inr (hsub a y)
  refine ⟨by rw [List.length_set]; exact ok.len, fun k c' h1 => ?_, fun j1 j2 c1 c2 a g1 g2 g3 g4 g5 g6 => ?_, fun a z y => ?_, fun a z => ?_, ok.bag, fun k c' a g1 g2 g3 => ?_⟩
  · rcases get_set h1 with ⟨e1, e, _⟩ | ⟨n, h4⟩
    · cases e
      subst e1
      exact ⟨_, hv, .inr ⟨p, rfl, .inr rfl, w.top.weak hw⟩⟩
    · obtain ⟨u, hu, z⟩ := ok.at_ k c' h4
      refine ⟨u, hu, ?_⟩
      cases c' with
      | s d0 => exact RD.weak z hw
      | o d0 => obtain ⟨q, e, y⟩ := z; exact ⟨q, e, y.weak hw⟩
      | m d0 => obtain ⟨q, e, y⟩ := z; exact ⟨q, e, y.weak hw⟩
      | b d0 => exact z.elim (fun z => .inl (RD.weak z hw)) fun ⟨q, e, l, y⟩ => .inr ⟨q, e, .inl l, y.weak hw⟩
  · rcases get_set g1 with ⟨_, e, _⟩ | ⟨_, h3⟩
    · cases e; cases g2
    · rcases get_set g3 with ⟨_, e, _⟩ | ⟨_, h4⟩
      · cases e; cases g4
      · exact ok.inj j1 j2 c1 c2 a h3 g2 h4 g4 g5 g6
  · rcases y with y | rfl
    · exact ok.sep a (hsub a z) y
    · exact hnp z
  · rcases z with z | rfl
    · exact ok.al a z
    · obtain ⟨o, ho, _⟩ := ok.ow how
      rw [ho]
      exact fun z => nomatch z
  · rcases get_set g1 with ⟨_, e, _⟩ | ⟨_, h3⟩
    · cases e; cases g2
    · exact ok.dv k c' a h3 g2 g3
theorem Top.own {A : As} {p : Addr} (hm : ∃ o, H p = some o ∧ Mut (some o)) : ∀ {d : D}, Top S A H p d → Own S A H p d
  | .lst _, h => h
  | .dK _, ⟨kvs, e, r⟩ => ⟨kvs, by
    rcases e with e | ⟨ob, e⟩
    · exact e
    · obtain ⟨o, h1, h2⟩ := hm; rw [e] at h1; cases h1; exact h2.elim, r⟩
  | .dT _, ⟨kvs, e, r⟩ => ⟨kvs, by
    rcases e with e | ⟨ob, e⟩
    · exact e
    · obtain ⟨o, h1, h2⟩ := hm; rw [e] at h1; cases h1; exact h2.elim, r⟩
  | .dN _, ⟨kvs, ⟨xs, e, z⟩, r⟩ => ⟨kvs, ⟨xs, by
    rcases e with e | ⟨ob, e⟩
    · exact e
    · obtain ⟨o, h1, h2⟩ := hm; rw [e] at h1; cases h1; exact h2.elim, z⟩, r⟩
  | .ins _ _, h => h
/-- no owned thing is shared where it stands -/
theorem RD.noown {A : As} {p : Addr} {d : D} (ha : A p) (w : ∃ (A' : As) (H' : Hp), Own S A' H' p d) (h : RD S A H (.ref p) d) : False := by
  obtain ⟨A', H', w⟩ := w
  cases d with
  | lst xs => cases h with | lst e n r => exact n ha
  | dK xs => cases h with | dK e n q r => exact n ha
  | dT xs => cases h with | dT e n q r => exact n ha
  | dN xs => cases h with | dN e n q r => exact n ha
  | ins C xs => cases h with | ins e n q r => exact n ha
  | _ => exact w.elim
/-- what was lent comes back -/
theorem Ok.unbor {i : Nat} {c : Cell} {p : Addr} (hc : c.own = true) (ok' : Ok S B (La L p) env' σ' H') (hb : env'[i]? = some (some (.b c.d))) (hv : σ'[i]? = some (some (.ref p))) (hL : ¬ L p) (hm : ∃ o, H' p = some o ∧ Mut (some o))
    (hw : ∃ (A' : As) (H' : Hp), Own S A' H' p c.d) (hj : ∀ (j : Nat) (d : D), j ≠ i → env'[j]? = some (some (.b d)) → σ'[j]? = some (some (.ref p)) → RD S (Av B (La L p) env' σ') H' (.ref p) d) : Ok S B L (env'.set i (some c)) σ' H' := by
  have hil := (List.getElem?_eq_some_iff.mp hb).1
  have hnp : ¬ Ow B env' σ' p := fun z => ok'.sep p z (.inr rfl)
  have hown : ∀ a, Ow B (env'.set i (some c)) σ' a → Ow B env' σ' a ∨ a = p := fun a z => z.elim (fun z => .inl (.inl z)) fun ⟨k, c', h1, h2, h3⟩ => by
    rcases get_set h1 with ⟨e1, e, _⟩ | ⟨n, h4⟩
    · subst e1
      rw [hv] at h3
      cases h3
      exact .inr rfl
    · exact .inl (.inr ⟨k, c', h4, h2, h3⟩)
  have w : ∀ a, Av B L (env'.set i (some c)) σ' a → Av B (La L p) env' σ' a := fun a z => z.elim (fun y => .inl (.inl y)) fun y => (hown a y).elim .inr fun e => .inl (.inr e)
  refine ⟨by rw [List.length_set]; exact ok'.len, fun k c' h1 => ?_, fun j1 j2 c1 c2 a g1 g2 g3 g4 g5 g6 => ?_, fun a z y => ?_, fun a z => ok'.al a (.inl z), ok'.bag, fun k c' a g1 g2 g3 va => ?_⟩
  · rcases get_set h1 with ⟨e1, e, _⟩ | ⟨n, h4⟩
    · cases e
      subst e1
      refine ⟨_, hv, ?_⟩
      have ho : Own S (Av B L (env'.set k (some c)) σ') H' p c.d := by
        rcases ok'.slot hb hv with z | ⟨q, e, _, z⟩
        · exact (RD.noown (.inl (.inr rfl)) hw z).elim
        · cases e
          exact (z.own hm).weak w
      cases c with
      | o d => exact ⟨p, rfl, ho⟩
      | m d => exact ⟨p, rfl, ho⟩
      | s d => cases hc
      | b d => cases hc
    · obtain ⟨u, hu, z⟩ := ok'.at_ k c' h4
      refine ⟨u, hu, ?_⟩
      cases c' with
      | s d0 => exact RD.weak z w
      | o d0 => obtain ⟨q, e, y⟩ := z; exact ⟨q, e, y.weak w⟩
      | m d0 => obtain ⟨q, e, y⟩ := z; exact ⟨q, e, y.weak w⟩
      | b d0 =>
        rcases z with z | ⟨q, e, l, y⟩
        · exact .inl (RD.weak z w)
        · rcases l with l | rfl
          · exact .inr ⟨q, e, l, y.weak w⟩
          · subst e
            exact .inl (RD.weak (hj k d0 n h4 hu) w)
  · rcases get_set g1 with ⟨e1, e2, _⟩ | ⟨n1, h3⟩ <;> rcases get_set g3 with ⟨e3, e4, _⟩ | ⟨n2, h4⟩
    · rw [e1, e3]
    · subst e1
      rw [hv] at g5
      cases g5
      exact (hnp (.inr ⟨j2, c2, h4, g4, g6⟩)).elim
    · subst e3
      rw [hv] at g6
      cases g6
      exact (hnp (.inr ⟨j1, c1, h3, g2, g5⟩)).elim
    · exact ok'.inj j1 j2 c1 c2 a h3 g2 h4 g4 g5 g6
  · rcases hown a z with h | rfl
    · exact ok'.sep a h (.inl y)
    · exact hL y
  · rcases get_set g1 with ⟨e1, e2, _⟩ | ⟨n1, h3⟩
    · subst e1
      rw [hv] at g3
      cases g3
      exact hnp (.inl va)
    · exact ok'.dv k c' a h3 g2 g3 va
end
end Dl
/-! DL8: loops. -/
namespace Dl
open PySem L2
/-- an item, given at H2, leaving H3 -/
def Item (S : Sys) (A : As) (H2 : Hp) (x : V) (H3 : Hp) (d : D) : Prop := (H3 = H2 ∧ RD S A H2 x d) ∨ ∃ T vs es, x = .ref T ∧ H2 T = none ∧ H3 = upd H2 T (.tup vs) ∧ d = .tup es ∧ RDs S A H2 vs es
/-- what is walked: while what it leans on stays, it gives these data -/
def Src (S : Sys) (A Hd : As) (H : Hp) (J : It) (ds : List D) : Prop := ∃ (n : Nat) (G : Hp → Prop) (Y : Nat → Hp → V → Hp → Prop), n = ds.length ∧ Walk J n G Y ∧ ∀ (A' : As) (H2 : Hp), Kp A A' H H2 → (∀ p o, Hd p → H p = some o → H2 p = some o) →
  G H2 ∧ ∀ (i : Nat) x H3, i < n → Y i H2 x H3 → ∃ d, ds[i]? = some d ∧ Item S A' H2 x H3 d
def Hold (L : As) (σ : St) (bw : Option Nat) : As := fun p => L p ∨ ∃ i : Nat, bw = some i ∧ σ[i]? = some (some (.ref p))
def bwL (L : As) (σ : St) (bw : Option Nat) : As := Hold L σ bw
abbrev TDI := Env → (List D → Option Nat → Env → Prop) → Prop
def LfI (S : Sys) (B : Vol) (ti : TI) (t : TDI) : Prop := ∀ (L : As) (env : Env) (σ : St) (H : Hp) (R : It → Hp → Prop) (k : List D → Option Nat → Env → Prop), Ok S B L env σ H → t env k →
  (∀ ds bw env' H' J, k ds bw env' → Ok S B L env' σ H' → Step B env σ H env' σ H' → (∀ i, bw = some i → ∃ c : Cell, env'[i]? = some (some c) ∧ c.own = true) → Src S (Av B L env' σ) (Hold L σ bw) H' J ds → R J H') → ti σ H R
section
variable {S : Sys} {B : Vol} {L : As} {env env' : Env} {σ σ' : St} {H H' : Hp} {W : Ends} {E : EndsD}
theorem Kp.pre {A B A' : As} (h : Kp B A' H H') (w : ∀ a, B a → A a) : Kp A A' H H' := ⟨h.t, h.u, fun p xs e n => h.l p xs e fun z => n (w p z), h.z, fun p u e n => h.r p u e fun z => n (w p z), fun p C dx fs e n => h.i p C dx fs e fun z => n (w p z), h.x⟩
theorem Src.pre {A B Hd Hd' : As} {J : It} {ds : List D} (h : Src S A Hd H J ds) (w : ∀ a, B a → A a) (v : ∀ a, Hd a → Hd' a) : Src S B Hd' H J ds := by
  obtain ⟨n, G, Y, e, wk, st⟩ := h
  exact ⟨n, G, Y, e, wk, fun A' H2 k hp => st A' H2 (k.pre w) fun p o z => hp p o (v p z)⟩
theorem Item.ok {x : V} {d : D} {H2 H3 : Hp} (ok : Ok S B L env σ H2) (h : Item S (Av B L env σ) H2 x H3 d) : Ok S B L env σ H3 ∧ Step B env σ H2 env σ H3 ∧ RD S (Av B L env σ) H3 x d := by
  rcases h with ⟨rfl, h⟩ | ⟨T, vs, es, rfl, hT, rfl, rfl, h⟩
  · exact ⟨ok, .refl, h⟩
  · obtain ⟨st, o, r⟩ := post_tup ok hT h
    exact ⟨o, st, r⟩
/-- a loop over what is walked -/
theorem for_core {J : It} {ds : List D} {g : TG} {tb : TS} {dg : TDG} {db : TDS} {I : Nat → Env → Prop} {Nx : Env → Prop} {Rt : AV → Env → Prop} {Xx : Addr → Option (List (Str × D)) → Env → Prop} {ts : List Nat} (hg : LfG S B g dg ts) (hb : LfS S B tb db) (ok : Ok S B L env σ H) (src : Src S (Av B L env σ) L H J ds)
    (h0 : I 0 env) (hs : ∀ (i : Nat) d envi, ds[i]? = some d → I i envi → dg d envi fun env2 => db { nx := I (i + 1), rt := Rt, bk := Nx, ct := I (i + 1), xx := Xx } env2) (hd : ∀ envn, I ds.length envn → Nx envn) (r : Rel S B L env σ H W { nx := Nx, rt := Rt, xx := Xx }) :
    ∃ Wl : Nat → Nat → St → Hp → Prop, (∃ m, Wl 0 m σ H) ∧ ∀ i m σ H, Wl i m σ H →
      (J.stop i H ∧ W.nx σ H) ∨ (J.go i H ∧ ∃ N : St → Hp → Prop, (∀ σ' H', N σ' H' → ∃ m', m' < m ∧ Wl (i + 1) m' σ' H') ∧ ∀ x H', J.yld i H x H' → g x σ H' fun σ2 H2 => tb { W with nx := N, ct := N, bk := W.nx } σ2 H2) := by
  obtain ⟨n, G, Y, en, wk, stb⟩ := src
  have stab : ∀ {envi σ2 H2}, Ok S B L envi σ2 H2 → Step B env σ H envi σ2 H2 → G H2 ∧ ∀ (i : Nat) x H3, i < n → Y i H2 x H3 → ∃ d, ds[i]? = some d ∧ Item S (Av B L envi σ2) H2 x H3 d := fun {envi σ2 H2} o2 s2 => stb _ H2 (s2.kp ok) fun p o hp h1 => s2.e p o h1 fun z => ok.sep p z hp
  refine for_it wk (fun i σ2 H2 => ∃ envi, I i envi ∧ Ok S B L envi σ2 H2 ∧ Step B env σ H envi σ2 H2) ⟨env, h0, ok, .refl⟩ (fun i σ2 H2 _ z => ?_) (fun i x σ2 H2 H3 hi z hy => ?_) (fun σ2 H2 z => ?_)
  · obtain ⟨envi, _, o2, s2⟩ := z
    exact (stab o2 s2).1
  · obtain ⟨envi, hI, o2, s2⟩ := z
    obtain ⟨d, hd2, it⟩ := (stab o2 s2).2 i x H3 hi hy
    obtain ⟨o3, s3, rd⟩ := it.ok o2
    refine hg L envi σ2 H3 x d _ _ o3 rd (hs i d envi hd2 hI) fun env4 σ4 h4 o4 s4 _ => ?_
    have s5 := s2.trans (s3.trans s4)
    exact hb L env4 σ4 H3 _ _ o4 h4 ⟨fun e s h k o t => ⟨e, k, o, s5.trans t⟩, fun a e s v h k t p => r.rt a e s v h k (s5.trans t) (p.mono s5.al), fun e s h k o t => r.nx e s h k o (s5.trans t), fun e s h k o t => ⟨e, k, o, s5.trans t⟩, fun C fo e s h dd k o t x => r.xx C fo e s h dd k o (s5.trans t) x⟩
  · obtain ⟨envi, hI, o2, s2⟩ := z
    rw [en] at hI
    exact r.nx _ _ _ (hd envi hI) o2 s2
def rtb (bw : Option Nat) (env : Env) (rt : AV → Env → Prop) : AV → Env → Prop := match bw with
  | none => rt
  | some i => fun av e => match av with
    | .s d => ob (unb (some i) env e) (rt (.s d))
    | _ => False
/-- behind lending -/
theorem Ok.back (ok : Ok S B L env σ H) {i : Nat} {c : Cell} {p : Addr} (hi : env[i]? = some (some c)) (hc : c.own = true) (hv : σ[i]? = some (some (.ref p))) {e env2 : Env} {σ2 : St} {H2 : Hp} (hu : unb (some i) env e = some env2) {L' : As} (hL1 : ∀ a, L a → L' a) (hL2 : ∀ a, L' a → L a ∨ H a = none) (o2 : Ok S B (La L' p) e σ2 H2) (s2 : Step B (env.set i (some (.b c.d))) σ H e σ2 H2) :
    Ok S B L' env2 σ2 H2 ∧ Step B env σ H env2 σ2 H2 ∧ (∀ a, Av B L' env2 σ2 a → Av B (La L' p) e σ2 a) := by
  have okb := ok.bor hi hc hv
  have how : Ow B env σ p := .inr ⟨i, c, hi, hc, hv⟩
  have hu : (match env[i]?, e[i]? with | some (some c), some (some (.b _)) => some (e.set i (some c)) | _, _ => none) = some env2 := hu
  rw [hi] at hu
  split at hu
  · rename_i c' d e1 e2
    cases e1
    cases hu
    obtain ⟨h3, h4⟩ := s2.b i d e2
    have hil : i < env.length := (List.getElem?_eq_some_iff.mp hi).1
    rw [List.getElem?_set_self hil] at h3
    cases h3
    have hv2 : σ2[i]? = some (some (.ref p)) := by rw [h4]; exact hv
    obtain ⟨u, hu1, hu2⟩ := ok.ow how
    have hn2 : H2 p = some u := s2.e p u hu1 fun z => okb.sep p z (.inr rfl)
    obtain ⟨q, hq, w⟩ := ok.ownd hi hc
    rw [hv] at hq
    cases hq
    have ok3 := Ok.unbor (S := S) (L := L') (env' := e) (σ' := σ2) (H' := H2) hc o2 e2 hv2 (fun z => (hL2 p z).elim (ok.sep p how) fun z => by rw [hu1] at z; cases z) ⟨u, hn2, hu2⟩ ⟨_, _, w⟩ fun j d hj h5 h6 => by
      obtain ⟨h7, h8⟩ := s2.b j d h5
      rw [List.getElem?_set_ne (Ne.symm hj)] at h7
      rw [h8] at h6
      have z : RD S (Av B (La L p) (env.set i (some (.b c.d))) σ) H (.ref p) d := by
        rcases ok.slot h7 h6 with z | ⟨q, e, l, _⟩
        · refine z.weak fun a y => ?_
          rcases y with (y | rfl) | y | ⟨k, c', g1, g2, g3⟩
          · exact .inl y
          · exact .inr how
          · exact .inr (.inl y)
          · rcases get_set g1 with ⟨_, e, _⟩ | ⟨_, g4⟩
            · cases e; cases g2
            · exact .inr (.inr ⟨k, c', g4, g2, g3⟩)
        · cases e
          exact (ok.sep p how l).elim
      have k := s2.kp okb
      refine z.mono (Kp.mk k.t k.u k.l k.z (fun q u h n => ⟨(k.r q u h n).1, ?_⟩) k.i k.x)
      rintro ((y | y) | y)
      · rcases hL2 q y with y | y
        · exact (k.r q u h n).2 (.inl (.inl y))
        · rcases h with h | ⟨ob, h⟩ <;> · rw [y] at h; cases h
      · exact (k.r q u h n).2 (.inl (.inr y))
      · exact (k.r q u h n).2 (.inr y)
    have hown : ∀ a, Ow B (e.set i (some c)) σ2 a → Ow B e σ2 a ∨ a = p := fun a z => z.elim (fun z => .inl (.inl z)) fun ⟨k, c', h1, h2, h3⟩ => by
      rcases get_set h1 with ⟨e1, e, _⟩ | ⟨n, h4⟩
      · subst e1
        rw [hv2] at h3
        cases h3
        exact .inr rfl
      · exact .inl (.inr ⟨k, c', h4, h2, h3⟩)
    have hsubE : ∀ a, Ow B (env.set i (some (.b c.d))) σ a → Ow B env σ a := fun a z => z.elim .inl fun ⟨k, c', h1, h2, h3⟩ => by
      rcases get_set h1 with ⟨_, e, _⟩ | ⟨n, h4⟩
      · cases e; cases h2
      · exact .inr ⟨k, c', h4, h2, h3⟩
    refine ⟨ok3, ⟨fun a o h1 h2 => s2.e a o h1 fun z => h2 (hsubE a z), fun a z => ?_, fun j d' h1 => ?_, fun j d' h1 => ?_, s2.al⟩, fun a z => z.elim (fun y => .inl (.inl y)) fun y => (hown a y).elim .inr fun e => .inl (.inr e)⟩
    · rcases hown a z with y | rfl
      · exact (s2.n a y).imp (hsubE a) id
      · exact .inl how
    · rcases get_set h1 with ⟨e3, e4, _⟩ | ⟨n, h5⟩
      · subst e3
        cases e4
        exact ⟨⟨_, hi⟩, h4⟩
      · obtain ⟨⟨d0, h6⟩, h7⟩ := s2.m j d' h5
        rw [List.getElem?_set_ne (Ne.symm n)] at h6
        exact ⟨⟨d0, h6⟩, h7⟩
    · rcases get_set h1 with ⟨e3, e4, _⟩ | ⟨n, h5⟩
      · subst e3
        cases e4
        cases hc
      · obtain ⟨h6, h7⟩ := s2.b j d' h5
        rw [List.getElem?_set_ne (Ne.symm n)] at h6
        exact ⟨h6, h7⟩
  · cases hu
theorem Rel.bor (r : Rel S B L env σ H W E) (ok : Ok S B L env σ H) {i : Nat} {c : Cell} {p : Addr} (hi : env[i]? = some (some c)) (hc : c.own = true) (hv : σ[i]? = some (some (.ref p))) :
    Rel S B (La L p) (env.set i (some (.b c.d))) σ H W { nx := fun e => ob (unb (some i) env e) E.nx, rt := rtb (some i) env E.rt, xx := fun C fo e => ob (unb (some i) env e) (E.xx C fo) } := by
  refine ⟨fun e s h k o t => ?_, fun a e s v h k t q => ?_, fun e s h k o t => k.elim, fun e s h k o t => k.elim, fun C fo e s h dd k o t x => ?_⟩
  · obtain ⟨env2, hu, k⟩ := ob_of k
    obtain ⟨o2, s2, _⟩ := ok.back hi hc hv hu (fun _ z => z) (fun _ z => .inl z) o t
    exact r.nx _ _ _ k o2 s2
  · cases a with
    | s d =>
      obtain ⟨env2, hu, k⟩ := ob_of (show ob (unb (some i) env e) (E.rt (.s d)) from k)
      obtain ⟨o2, s2, w⟩ := ok.back hi hc hv hu (fun _ z => z) (fun _ z => .inl z) q.1 t
      exact r.rt _ _ _ _ _ k s2 ⟨o2, q.2.weak w⟩
    | f d => exact (show False from k).elim
    | r j => exact (show False from k).elim
  · obtain ⟨env2, hu, k⟩ := ob_of k
    obtain ⟨o2, s2, w⟩ := ok.back hi hc hv hu (fun _ z => z) (fun _ z => .inl z) o t
    exact r.xx _ _ _ _ _ _ k o2 s2 (x.weak w)
def dFor (src : TDI) (g : TDG) (tb : TDS) : TDS := fun E env => src env fun ds bw env1 => ∃ I : Nat → Env → Prop, I 0 (bwE bw env1) ∧
  (∀ (i : Nat) d envi, ds[i]? = some d → I i envi → g d envi fun env2 => tb { nx := I (i + 1), rt := rtb bw env1 E.rt, bk := fun e => ob (unb bw env1 e) E.nx, ct := I (i + 1), xx := fun C fo e => ob (unb bw env1 e) (E.xx C fo) } env2) ∧ ∀ envn, I ds.length envn → ob (unb bw env1 envn) E.nx
theorem lf_for {wi : TI} {g : TG} {tb : TS} {src : TDI} {dg : TDG} {db : TDS} {ts : List Nat} (hi : LfI S B wi src) (hg : LfG S B g dg ts) (hb : LfS S B tb db) : LfS S B (tFor wi g tb) (dFor src dg db) := fun L env σ H W E ok h r => by
  refine hi L env σ H _ _ ok h fun ds bw env1 H1 J h1 ok1 st1 hbw sr => ?_
  obtain ⟨I, h0, hs, hd⟩ := h1
  have r1 := r.step st1
  cases bw with
  | none => exact for_core hg hb ok1 (sr.pre (fun _ z => z) fun a z => z.elim id fun ⟨_, e, _⟩ => nomatch e) h0 hs hd ⟨fun e s h k o t => r1.nx e s h k o t, r1.rt, fun _ _ _ k => k.elim, fun _ _ _ k => k.elim, fun C fo e s h dd k o t x => r1.xx C fo e s h dd k o t x⟩
  | some i =>
    obtain ⟨c, hi, hc⟩ := hbw i rfl
    obtain ⟨p, hv, _⟩ := ok1.ownd hi hc
    have e1 : bwE (some i) env1 = env1.set i (some (.b c.d)) := by
      show (match env1[i]? with | some (some c) => env1.set i (some (.b c.d)) | _ => env1) = _
      rw [hi]
    rw [e1] at h0
    refine for_core hg hb (ok1.bor hi hc hv) (sr.pre (fun a z => ?_) fun a z => z.elim .inl fun ⟨j, e, e2⟩ => ?_) h0 hs hd (r1.bor ok1 hi hc hv)
    · rcases z with (z | rfl) | z | ⟨k, c', g1, g2, g3⟩
      · exact .inl z
      · exact .inr (.inr ⟨i, c, hi, hc, hv⟩)
      · exact .inr (.inl z)
      · rcases get_set g1 with ⟨_, e, _⟩ | ⟨_, g4⟩
        · cases e; cases g2
        · exact .inr (.inr ⟨k, c', g4, g2, g3⟩)
    · cases e
      rw [hv] at e2
      cases e2
      exact .inr rfl

/-! ### what is walked -/
def srcOf (env : Env) (a : AV) (k : D → Option Nat → Prop) : Prop := match a with
  | .s d => k d none
  | .f d => k d none
  | .r i => match env[i]? with
    | some (some c) => k c.d (if c.own = true then some i else none)
    | _ => False
theorem srcOf_get {a : AV} {k : D → Option Nat → Prop} (h : srcOf env a k) : ∃ d bw, a.get env = some d ∧ k d bw ∧ (bw = none ∧ (∀ i, a = .r i → ∃ c : Cell, env[i]? = some (some c) ∧ c.own = false) ∨ ∃ i c, a = .r i ∧ bw = some i ∧ env[i]? = some (some c) ∧ c.own = true ∧ c.d = d) := by
  cases a with
  | s d => exact ⟨d, none, rfl, h, .inl ⟨rfl, fun i e => nomatch e⟩⟩
  | f d => exact ⟨d, none, rfl, h, .inl ⟨rfl, fun i e => nomatch e⟩⟩
  | r i =>
    have h : (match env[i]? with | some (some c) => k c.d (if c.own = true then some i else none) | _ => False) := h
    split at h
    · rename_i c e
      refine ⟨c.d, _, ?_, h, ?_⟩
      · show (match env[i]? with | some (some c) => some c.d | _ => none) = _
        rw [e]
      · cases q : c.own with
        | true => exact .inr ⟨i, c, rfl, rfl, e, q, rfl⟩
        | false => exact .inl ⟨rfl, fun j ej => by cases ej; exact ⟨c, e, q⟩⟩
    · exact h.elim
/-- a list that stays: shared, lent or kept by its owner -/
theorem src_lst {K : PySem.W.Frag} {v : V} {a : AV} {ds : List D} {bw : Option Nat} (hK : S.K = K) (ok : Ok S B L env σ H) (hv : VlA S (Av B L env σ) σ H v a.hold) (hg : a.get env = some (.lst ds) ∨ a.get env = some (.zl ds))
    (hb : bw = none ∧ (∀ i, a = .r i → ∃ c : Cell, env[i]? = some (some c) ∧ c.own = false) ∨ ∃ i c, a = .r i ∧ bw = some i ∧ env[i]? = some (some c) ∧ c.own = true) :
    ∃ p vs, v = .ref p ∧ SqL K H p vs ∧ RDs S (Av B L env σ) H vs ds ∧ ∀ (A' : As) H2, Kp (Av B L env σ) A' H H2 → (∀ q o, Hold L σ bw q → H q = some o → H2 q = some o) → SqL K H2 p vs := by
  subst hK
  rcases hg with hg | hg
  · -- a list
    have tv := hv.tv ok (by rw [AV.get_hold]; exact hg)
    rcases tv with tv | ⟨p, rfl, vs, h1, r⟩
    · cases tv with
      | lst h1 n r => exact ⟨_, _, rfl, SqL.of h1, r, fun A' H2 k _ => SqL.of (k.l _ _ h1 n)⟩
    · refine ⟨p, vs, rfl, SqL.of h1, r, fun A' H2 k hp => ?_⟩
      by_cases hq : Hold L σ bw p
      · exact SqL.of (hp p _ hq h1)
      · -- it is shared, then
        refine SqL.of ?_
        cases a with
        | s d => cases hg; cases hv with | lst h2 n r2 => exact k.l _ _ h1 n
        | f d => cases hg; cases hv with | lst h2 n r2 => exact k.l _ _ h1 n
        | r i =>
          have hs : σ[i]? = some (some (.ref p)) := hv
          rcases hb with ⟨rfl, hb⟩ | ⟨j, c, e, rfl, e2, e3⟩
          · obtain ⟨c, e1, e2⟩ := hb i rfl
            have hd : c.d = .lst ds := by
              have this : (match env[i]? with | some (some c) => some c.d | _ => none) = some (.lst ds) := hg
              rw [e1] at this
              exact Option.some.inj this
            have hc := ok.slot e1 hs
            cases c with
            | s d => cases hd; cases hc with | lst h2 n r2 => exact k.l _ _ h1 n
            | o d => cases e2
            | m d => cases e2
            | b d =>
              cases hd
              rcases hc with hc | ⟨q, e, l, _⟩
              · cases hc with | lst h2 n r2 => exact k.l _ _ h1 n
              · cases e
                exact (hq (.inl l)).elim
          · cases e
            exact (hq (.inr ⟨i, rfl, hs⟩)).elim
  · have tv := hv.tv ok (by rw [AV.get_hold]; exact hg)
    obtain ⟨p, vs, rfl, h1, r⟩ := tv.zl
    exact ⟨p, vs, rfl, h1.sq, r, fun A' H2 k _ => (k.zz h1).sq⟩
def lsts : D → Option (List D)
  | .lst ds => some ds
  | .zl ds => some ds
  | _ => none
theorem lsts_of {a : AV} {d : D} {ds : List D} (h : a.get env = some d) (e : lsts d = some ds) : a.get env = some (.lst ds) ∨ a.get env = some (.zl ds) := by
  cases d with
  | lst xs => cases e; exact .inl h
  | zl xs => cases e; exact .inr h
  | _ => cases e
def dIL (t : TDE) : TDI := fun env k => t env fun a env1 => srcOf env1 a fun d bw => ob (lsts d) fun ds => k ds bw env1
theorem own_bw {a : AV} {bw : Option Nat} {d : D} (hb : bw = none ∧ (∀ i, a = .r i → ∃ c : Cell, env[i]? = some (some c) ∧ c.own = false) ∨ ∃ i c, a = .r i ∧ bw = some i ∧ env[i]? = some (some c) ∧ c.own = true ∧ c.d = d) :
    (bw = none ∧ (∀ i, a = .r i → ∃ c : Cell, env[i]? = some (some c) ∧ c.own = false) ∨ ∃ i c, a = .r i ∧ bw = some i ∧ env[i]? = some (some c) ∧ c.own = true) ∧ ∀ i, bw = some i → ∃ c : Cell, env[i]? = some (some c) ∧ c.own = true := by
  rcases hb with ⟨rfl, hb⟩ | ⟨i, c, e1, e2, e3, e4, _⟩
  · exact ⟨.inl ⟨rfl, hb⟩, fun _ e => nomatch e⟩
  · exact ⟨.inr ⟨i, c, e1, e2, e3, e4⟩, fun j e => by rw [e2] at e; cases e; exact ⟨c, e3, e4⟩⟩
theorem li_list {K : PySem.W.Frag} {tl : TE} {t : TDE} (he : LfE S B tl t) (hK : S.K = K := by rfl) : LfI S B (iList K tl) (dIL t) := fun L env σ H R k ok h hk => by
  refine he L env σ H _ _ ok h fun av env1 v H1 h1 p1 => ?_
  obtain ⟨ok1, st1, l1⟩ := p1.vl ok
  obtain ⟨d, bw, e1, h1, hb⟩ := srcOf_get h1
  obtain ⟨ds, e2, h1⟩ := ob_of h1
  obtain ⟨hb, hbw⟩ := own_bw hb
  obtain ⟨p, vs, rfl, hs, r, stay⟩ := src_lst hK ok1 l1 (lsts_of e1 e2) hb
  refine ⟨p, rfl, ⟨vs, hs⟩, hk _ _ _ _ _ h1 ok1 st1 hbw ⟨vs.length, _, _, r.len, walk_list (K := K) (a := p) (xs := vs), fun A' H2 kp hp => ⟨stay A' H2 kp hp, fun i x H3 hi hy => ?_⟩⟩⟩
  obtain ⟨rfl, hx⟩ := hy
  obtain ⟨d', e3, rd⟩ := r.at' hx
  exact ⟨d', e3, .inl ⟨rfl, rd.mono kp⟩⟩
def dIT (t : TDE) : TDI := fun env k => t env fun a env1 => match a.get env1 with
  | some (.tup ds) => k ds none env1
  | _ => False
theorem li_tup {K : PySem.W.Frag} {tl : TE} {t : TDE} (he : LfE S B tl t) (hK : S.K = K := by rfl) : LfI S B (iTup K tl) (dIT t) := fun L env σ H R k ok h hk => by
  subst hK
  refine he L env σ H _ _ ok h fun av env1 v H1 h1 p1 => ?_
  obtain ⟨ok1, st1, l1⟩ := p1.vl ok
  split at h1
  · rename_i ds e
    obtain ⟨p, vs, rfl, hs, r⟩ := (l1.tv ok1 (by rw [AV.get_hold]; exact e)).tup
    refine ⟨p, rfl, ⟨vs, .inl (.inl hs)⟩, hk _ _ _ _ _ h1 ok1 st1 (fun _ z => nomatch z) ⟨vs.length, _, _, r.len, walk_tup (K := S.K) (a := p) (xs := vs), fun A' H2 kp hp => ⟨.inl (.inl (kp.u _ _ hs)), fun i x H3 hi hy => ?_⟩⟩⟩
    obtain ⟨rfl, hx⟩ := hy
    obtain ⟨d', e3, rd⟩ := r.at' hx
    exact ⟨d', e3, .inl ⟨rfl, rd.mono kp⟩⟩
  · exact h1.elim
/-- the ints from lo on -/
def rng (lo : Int) (n : Nat) : List D := (List.range n).map fun i : Nat => D.int (lo + (i : Int))
theorem rng_len {lo : Int} {n : Nat} : (rng lo n).length = n := by simp [rng]
theorem rng_at {lo : Int} {n i : Nat} (h : i < n) : (rng lo n)[i]? = some (.int (lo + (i : Int))) := by
  unfold rng
  rw [List.getElem?_map, List.getElem?_range h]
  rfl
theorem src_rng {lo : Int} {n : Nat} {A Hd : As} : Src S A Hd H (Itr lo n) (rng lo n) :=
  ⟨n, _, _, rng_len.symm, walk_range, fun A' H2 kp hp => ⟨trivial, fun i x H3 hi hy => ⟨_, rng_at hi, .inl ⟨hy.1, by rw [hy.2]; exact .int _⟩⟩⟩⟩
def dIR1 (ta : TDA) : TDI := fun env k => ta env fun as env1 => match gets env1 as with
  | some [.int j] => -(2 ^ 62) ≤ j ∧ j < 2 ^ 62 ∧ k (rng 0 j.toNat) none env1
  | _ => False
def dIR2 (ta : TDA) : TDI := fun env k => ta env fun as env1 => match gets env1 as with
  | some [.int i, .int j] => (-(2 ^ 62) ≤ i ∧ i < 2 ^ 62 ∧ -(2 ^ 62) ≤ j ∧ j < 2 ^ 62) ∧ k (rng i (j - i).toNat) none env1
  | _ => False
theorem li_range1 {ta : TA} {da : TDA} (ha : LfA S B ta da) : LfI S B (iRng1 ta) (dIR1 da) := fun L env σ H R k ok h hk => by
  refine ha L env σ H _ _ ok h fun avs env1 vs H1 h1 ok1 st1 l1 => ?_
  split at h1
  · rename_i j e
    obtain ⟨v, rfl, hv⟩ := (l1.tvs ok1 e).one
    rw [hv.int]
    exact ⟨j, rfl, h1.1, h1.2.1, hk _ _ _ _ _ h1.2.2 ok1 st1 (fun _ z => nomatch z) src_rng⟩
  · exact h1.elim
theorem li_range2 {ta : TA} {da : TDA} (ha : LfA S B ta da) : LfI S B (iRng2 ta) (dIR2 da) := fun L env σ H R k ok h hk => by
  refine ha L env σ H _ _ ok h fun avs env1 vs H1 h1 ok1 st1 l1 => ?_
  split at h1
  · rename_i i j e
    obtain ⟨v, u, rfl, hv, hu⟩ := (l1.tvs ok1 e).two
    rw [hv.int, hu.int]
    exact ⟨i, j, rfl, h1.1, hk _ _ _ _ _ h1.2 ok1 st1 (fun _ z => nomatch z) src_rng⟩
  · exact h1.elim
end
end Dl
/-! DL9: while, comprehensions, d[k] = v, calls, what a def promises. -/
namespace Dl
open PySem L2
section
variable {S : Sys} {B : Vol} {L : As} {env env' : Env} {σ σ' : St} {H H' : Hp} {W : Ends} {E : EndsD}

/-! ### while -/
def dWhile (c : TDT) (tb : TDS) : TDS := fun E env => ∃ I : Nat → Env → Prop, (∃ m, I m env) ∧ ∀ m env1, I m env1 →
  c env1 fun b env2 => IfB b (tb { nx := fun e => ∃ m', m' < m ∧ I m' e, rt := E.rt, bk := E.nx, ct := fun e => ∃ m', m' < m ∧ I m' e, xx := E.xx } env2) (E.nx env2)
theorem lf_while {c : TT} {tb : TS} {dc : TDT} {db : TDS} (hc : LfT S B c dc) (hb : LfS S B tb db) : LfS S B (tWhile c tb) (dWhile dc db) := fun L env σ H W E ok h r => by
  obtain ⟨I, ⟨m0, h0⟩, turn⟩ := h
  refine ⟨fun m σ2 H2 => ∃ e, I m e ∧ Ok S B L e σ2 H2 ∧ Step B env σ H e σ2 H2, ⟨m0, env, h0, ok, .refl⟩, ?_⟩
  rintro m σ2 H2 ⟨e, hI, o2, s2⟩
  refine hc L e σ2 H2 _ _ o2 (turn m e hI) fun b env3 H3 h3 o3 s3 => ?_
  have s5 := s2.trans s3
  cases b with
  | false =>
    (replace h3 := h3.f rfl; simp only [Bool.false_eq_true, if_false])
    exact r.nx _ _ _ h3 o3 s5
  | true =>
    (replace h3 := h3.t rfl; simp only [if_true])
    refine ⟨fun σ' H' => ∃ m', m' < m ∧ ∃ e, I m' e ∧ Ok S B L e σ' H' ∧ Step B env σ H e σ' H', fun _ _ z => z, ?_⟩
    exact hb L env3 σ2 H3 _ _ o3 h3 ⟨fun e s h k o t => k.elim fun m' z => ⟨m', z.1, e, z.2, o, s5.trans t⟩, fun a e s v h k t p => r.rt a e s v h k (s5.trans t) (p.mono s5.al), fun e s h k o t => r.nx e s h k o (s5.trans t), fun e s h k o t => k.elim fun m' z => ⟨m', z.1, e, z.2, o, s5.trans t⟩, fun C fo e s h dd k o t x => r.xx C fo e s h dd k o (s5.trans t) x⟩

/-! ### comprehensions -/
/-- the slots of a comprehension's own names, wiped -/
def wipeE (env : Env) : List Nat → Env
  | [] => env
  | v :: vs => (wipeE env vs).set v none
theorem Ok.wipe1 (ok : Ok S B L env σ H) {j : Nat} : Ok S B L (env.set j none) (σ.set j none) H ∧ Step B env σ H (env.set j none) (σ.set j none) H := by
  have hsub : ∀ (i : Nat) (c : Cell), (env.set j none)[i]? = some (some c) → c.own = true → (∃ c0 : Cell, env[i]? = some (some c0) ∧ c0.own = true) ∧ (σ.set j none)[i]? = σ[i]? := fun i c h1 h2 => by
    rcases get_set h1 with ⟨_, e, _⟩ | ⟨n, h3⟩
    · cases e
    · exact ⟨⟨c, h3, h2⟩, List.getElem?_set_ne (Ne.symm n)⟩
  refine ⟨ok.less (by rw [List.length_set, List.length_set]; exact ok.len) hsub fun i c h1 => ?_, fun a o h1 _ => h1, fun a z => .inl (ow_sub hsub a z), fun i d' h1 => ?_, fun i d' h1 => ?_, fun _ z => z⟩
  · rcases get_set h1 with ⟨_, e, _⟩ | ⟨n1, h3⟩
    · cases e
    · obtain ⟨u, hu, z⟩ := ok.at_ i c h3
      exact ⟨u, by rw [List.getElem?_set_ne (Ne.symm n1)]; exact hu, .inr z⟩
  · rcases get_set h1 with ⟨_, e, _⟩ | ⟨n, h3⟩
    · cases e
    · exact ⟨⟨_, h3⟩, List.getElem?_set_ne (Ne.symm n)⟩
  · rcases get_set h1 with ⟨_, e, _⟩ | ⟨n, h3⟩
    · cases e
    · exact ⟨h3, List.getElem?_set_ne (Ne.symm n)⟩
theorem Ok.wipe (ok : Ok S B L env σ H) : ∀ vs : List Nat, Ok S B L (wipeE env vs) (wipe σ vs) H ∧ Step B env σ H (wipeE env vs) (wipe σ vs) H
  | [] => ⟨ok, .refl⟩
  | v :: vs => by
    obtain ⟨o1, s1⟩ := ok.wipe vs
    obtain ⟨o2, s2⟩ := o1.wipe1 (j := v)
    exact ⟨o2, s1.trans s2⟩
def keepS : Option (Option Cell) → Option Cell
  | some (some (.s d)) => some (.s d)
  | _ => none
/-- behind a comprehension: its own names hold what they held, if that was shared -/
def rest (env envn : Env) : List Nat → Env
  | [] => envn
  | v :: vs => (rest env envn vs).set v (keepS env[v]?)
/-- back to the slots ahead of the comprehension -/
theorem wipe_ne {σ : St} {i : Nat} : ∀ {vs : List Nat}, i ∉ vs → (wipe σ vs)[i]? = σ[i]?
  | [], _ => rfl
  | v :: vs, h => by
    have h1 : i ≠ v := fun e => h (by simp [e])
    unfold wipe
    rw [List.getElem?_set_ne (Ne.symm h1)]
    exact wipe_ne fun z => h (List.mem_cons_of_mem _ z)
theorem rest_get {env envn : Env} {i : Nat} {c : Cell} : ∀ {vs : List Nat}, (rest env envn vs)[i]? = some (some c) → (i ∈ vs ∧ ∃ d, c = .s d ∧ env[i]? = some (some (.s d))) ∨ (i ∉ vs ∧ envn[i]? = some (some c))
  | [], h => .inr ⟨by simp, h⟩
  | v :: vs, h => by
    unfold rest at h
    rcases get_set h with ⟨e1, e2, _⟩ | ⟨n, h3⟩
    · subst e1
      refine .inl ⟨List.mem_cons_self .., ?_⟩
      unfold keepS at e2
      split at e2
      · rename_i d e
        cases e2
        exact ⟨d, rfl, e⟩
      · cases e2
    · rcases rest_get (vs := vs) h3 with ⟨m, z⟩ | ⟨m, z⟩
      · exact .inl ⟨List.mem_cons_of_mem _ m, z⟩
      · exact .inr ⟨fun z => (List.mem_cons.mp z).elim n m, z⟩
theorem rest_len {env envn : Env} : ∀ {vs : List Nat}, (rest env envn vs).length = envn.length
  | [] => rfl
  | v :: vs => by unfold rest; rw [List.length_set, rest_len]
theorem Ok.rest (ok : Ok S B L env σ H) {vs : List Nat} {envn : Env} {Hn : Hp} {D : Addr} (hD : H D = none) (o : Ok S B (La L D) envn (L2.wipe σ vs) Hn) (st : Step B env σ H envn (L2.wipe σ vs) Hn) : Ok S B (La L D) (Dl.rest env envn vs) σ Hn ∧ Step B env σ H (Dl.rest env envn vs) σ Hn := by
  have hsub : ∀ (i : Nat) (c : Cell), (Dl.rest env envn vs)[i]? = some (some c) → c.own = true → (∃ c0 : Cell, envn[i]? = some (some c0) ∧ c0.own = true) ∧ σ[i]? = (L2.wipe σ vs)[i]? := fun i c h1 h2 => by
    rcases rest_get h1 with ⟨_, d, e, _⟩ | ⟨m, h3⟩
    · rw [e] at h2; cases h2
    · exact ⟨⟨c, h3, h2⟩, (wipe_ne m).symm⟩
  have hs := ow_sub (B := B) hsub
  have w : ∀ a, Av B (La L D) (Dl.rest env envn vs) σ a → Av B (La L D) envn (L2.wipe σ vs) a := fun a z => z.elim .inl fun y => .inr (hs a y)
  refine ⟨o.less (by rw [rest_len, ← o.len, wipe_length]) hsub fun i c h1 => ?_, st.e, fun a z => st.n a (hs a z), fun i d' h1 => ?_, fun i d' h1 => ?_, st.al⟩
  · rcases rest_get h1 with ⟨_, d, e, h3⟩ | ⟨m, h3⟩
    · subst e
      obtain ⟨v, hv, z⟩ := ok.at_ i _ h3
      exact ⟨v, hv, .inr (RD.mono (kp_step ok st hD) z)⟩
    · obtain ⟨v, hv, z⟩ := o.at_ i c h3
      exact ⟨v, by rw [← wipe_ne m]; exact hv, .inr z⟩
  · rcases rest_get h1 with ⟨_, d, e, h3⟩ | ⟨m, h3⟩
    · cases e
    · exact ⟨(st.m i d' h3).1, rfl⟩
  · rcases rest_get h1 with ⟨_, d, e, h3⟩ | ⟨m, h3⟩
    · cases e
    · exact ⟨(st.b i d' h3).1, rfl⟩
def dYes : TDT := fun env k => k true env
theorem lf_yes : LfT S B tYes dYes := fun L env σ H Q k ok h hk => hk _ _ _ h ok .refl
def dLc (src : TDI) (g : TDG) (tt : TDT) (te : TDE) (vs : List Nat) : TDE := fun env k => src env fun ds bw env1 => ds.length ≤ sizeLine ∧ ∃ I : Nat → List D → Env → Prop, I 0 [] (wipeE (bwE bw env1) vs) ∧
  (∀ (i : Nat) d acc envi, ds[i]? = some d → acc.length ≤ i → I i acc envi → g d envi fun env2 => tt env2 fun b env3 => IfB b (te env3 fun a env4 => shr env4 a fun x env5 => I (i + 1) (acc ++ [x]) (wipeE env5 vs)) (I (i + 1) acc (wipeE env3 vs))) ∧
  ∀ acc envn, acc.length ≤ ds.length → I ds.length acc envn → ob (unb bw env1 (rest (bwE bw env1) envn vs)) fun env2 => k (.f (.lst acc)) env2
theorem wipe_in {σ : St} {i : Nat} : ∀ {vs : List Nat}, i ∈ vs → i < σ.length → (L2.wipe σ vs)[i]? = some none
  | v :: vs, h, hl => by
    unfold L2.wipe
    by_cases e : i = v
    · subst e
      exact List.getElem?_set_self (by rw [wipe_length]; exact hl)
    · rw [List.getElem?_set_ne (Ne.symm e)]
      exact wipe_in ((List.mem_cons.mp h).resolve_left e) hl
theorem off_wipe {ts vs : List Nat} {σ σ2 : St} (f : Off ts (L2.wipe σ vs) σ2) (h : ∀ i ∈ ts, i ∈ vs) : L2.wipe σ2 vs = L2.wipe σ vs := by
  refine List.ext_getElem? fun i => ?_
  by_cases hi : i ∈ vs
  · by_cases hl : i < σ.length
    · rw [wipe_in hi hl, wipe_in hi (by rw [f.1, wipe_length]; exact hl)]
    · rw [List.getElem?_eq_none (by rw [wipe_length, f.1, wipe_length]; omega), List.getElem?_eq_none (by rw [wipe_length]; omega)]
  · rw [wipe_ne hi, f.2 i fun z => hi (h i z)]
theorem lc_core {J : It} {ds : List D} {g : TG} {tt : TT} {te : TE} {vs ts : List Nat} {dg : TDG} {dt : TDT} {de : TDE} {I : Nat → List D → Env → Prop} {Q : VK} {k : List D → Env → Prop} (hg : LfG S B g dg ts) (hts : ∀ i ∈ ts, i ∈ vs) (ht : LfT S B tt dt) (he : LfE S B te de) (ok : Ok S B L env σ H) (src : Src S (Av B L env σ) L H J ds) (hl : ds.length ≤ sizeLine)
    (h0 : I 0 [] (wipeE env vs)) (hs : ∀ (i : Nat) d acc envi, ds[i]? = some d → acc.length ≤ i → I i acc envi → dg d envi fun env2 => dt env2 fun b env3 => IfB b (de env3 fun a env4 => shr env4 a fun x env5 => I (i + 1) (acc ++ [x]) (wipeE env5 vs)) (I (i + 1) acc (wipeE env3 vs)))
    (hd : ∀ acc envn, acc.length ≤ ds.length → I ds.length acc envn → k acc (Dl.rest env envn vs)) (hk : ∀ acc env2 p Hn, k acc env2 → H p = none → Ok S B (La L p) env2 σ Hn → Step B env σ H env2 σ Hn → Own S (Av B (La L p) env2 σ) Hn p (.lst acc) → Q (.ref p) Hn) :
    ∀ D, H D = none → ∃ Wl : Nat → Nat → Hp → Prop, (∃ m, Wl 0 m (upd H D (.lst []))) ∧ ∀ i m H, Wl i m H →
      (J.stop i H ∧ Q (.ref D) H) ∨ (J.go i H ∧ ∃ Nx : Hp → Prop, (∀ H', Nx H' → ∃ m', m' < m ∧ Wl (i + 1) m' H') ∧ ∀ x H', J.yld i H x H' → g x (L2.wipe σ vs) H' fun σ2 H2 => L2.wipe σ2 vs = L2.wipe σ vs ∧ tt σ2 H2 fun b H3 =>
        if b = true then te σ2 H3 fun y H4 => ∃ acc, H4 D = some (.lst acc) ∧ acc.length < sizeLine ∧ Nx (upd H4 D (.lst (acc ++ [y]))) else Nx H3) := by
  intro D hD
  obtain ⟨n, G, Y, en, wk, stb⟩ := src
  have okD : Ok S B (La L D) env σ (upd H D (.lst [])) := ok.new hD
  have stD : Step B env σ H env σ (upd H D (.lst [])) := step_new hD
  obtain ⟨okw, stw⟩ := okD.wipe vs
  have st0 := stD.trans stw
  have stab : ∀ {envi H2}, Ok S B (La L D) envi (L2.wipe σ vs) H2 → Step B env σ H envi (L2.wipe σ vs) H2 → G H2 ∧ ∀ (i : Nat) x H3, i < n → Y i H2 x H3 → ∃ d, ds[i]? = some d ∧ Item S (Av B (La L D) envi (L2.wipe σ vs)) H2 x H3 d := fun {envi H2} o2 s2 => stb _ H2 (kp_step ok s2 hD) fun p o hp h1 => s2.e p o h1 fun z => ok.sep p z hp
  refine lc_it wk (fun i H2 => ∃ acc envi us, I i acc envi ∧ acc.length ≤ i ∧ Ok S B (La L D) envi (L2.wipe σ vs) H2 ∧ Step B env σ H envi (L2.wipe σ vs) H2 ∧ H2 D = some (.lst us) ∧ RDs S (Av B (La L D) envi (L2.wipe σ vs)) H2 us acc) ⟨[], _, [], h0, Nat.le_refl _, okw, st0, upd_same, .nil⟩ (fun i H2 _ z => ?_) (fun i x H2 H3 hi z hy => ?_) (fun H2 z => ?_)
  · obtain ⟨acc, envi, us, _, _, o2, s2, _⟩ := z
    exact (stab o2 s2).1
  · obtain ⟨acc, envi, us, hI, ha, o2, s2, eD, rA⟩ := z
    obtain ⟨d, hd2, it⟩ := (stab o2 s2).2 i x H3 hi hy
    obtain ⟨o3, s3, rd⟩ := it.ok o2
    refine hg _ envi _ H3 x d _ _ o3 rd (hs i d acc envi hd2 ha hI) fun env4 σ4 h4 o4 s4 f4 => ⟨off_wipe f4 hts, ?_⟩
    refine ht _ env4 σ4 H3 _ _ o4 h4 fun b env5 H5 h5 o5 s5 => ?_
    have s25 := s3.trans (s4.trans s5)
    have ewp : L2.wipe σ4 vs = L2.wipe σ vs := off_wipe f4 hts
    have eD5 : H5 D = some (.lst us) := s25.e D _ eD fun z => o2.sep D z (.inr rfl)
    cases b with
    | false =>
      (replace h5 := h5.f rfl; simp only [Bool.false_eq_true, if_false])
      obtain ⟨o6, s6⟩ := o5.wipe vs
      rw [ewp] at o6 s6
      exact ⟨acc, _, us, h5, Nat.le_succ_of_le ha, o6, s2.trans (s25.trans s6), eD5, rA.step o2 (s25.trans s6)⟩
    | true =>
      (replace h5 := h5.t rfl; simp only [if_true])
      refine he _ env5 σ4 H5 _ _ o5 h5 fun av env6 y H6 h6 p6 => ?_
      obtain ⟨o6, s6, l6⟩ := p6.vl o5
      obtain ⟨xd, env7, h7, o7, s7, r7⟩ := l6.shr o6 h6
      have s27 := s25.trans (s6.trans s7)
      have eD6 : H6 D = some (.lst us) := (s6.e D _ eD5 fun z => o5.sep D z (.inr rfl))
      have rA7 := rA.step o2 s27
      obtain ⟨o8, s8⟩ := o7.wipe vs
      rw [ewp] at o8 s8
      have hnD : ¬ Ow B (wipeE env7 vs) (L2.wipe σ vs) D := fun z => o8.sep D z (.inr rfl)
      have rA8 := rA7.step o7 s8
      have r8 : RD S (Av B (La L D) (wipeE env7 vs) (L2.wipe σ vs)) H6 y xd := RD.step o7 s8 r7
      have kp : Kp (Av B (La L D) (wipeE env7 vs) (L2.wipe σ vs)) (Av B (La L D) (wipeE env7 vs) (L2.wipe σ vs)) H6 (upd H6 D (.lst (us ++ [y]))) := kp_own (.inl (.inr rfl)) ⟨_, eD6, trivial⟩
      have hu : us.length < sizeLine := by
        rw [rA.len]
        omega
      have o9 : Ok S B (La L D) (wipeE env7 vs) (L2.wipe σ vs) (upd H6 D (.lst (us ++ [y]))) := by
        refine ⟨o8.len, fun k c hc => ?_, o8.inj, o8.sep, fun a z => ?_, B.stab H6 _ (fun a o' va h => by rw [upd_ne (fun e => hnD (.inl (by rw [← e]; exact va)))]; exact h) o8.bag, o8.dv⟩
        · obtain ⟨u, hu, z⟩ := o8.at_ k c hc
          refine ⟨u, hu, ?_⟩
          cases c with
          | s d0 => exact RD.mono kp z
          | o d0 => obtain ⟨q, e, y⟩ := z; exact ⟨q, e, y.mono kp fun o ho => by rw [upd_ne (fun e3 => hnD (.inr ⟨k, _, hc, rfl, by rw [hu, e, e3]⟩))]; exact ho⟩
          | m d0 => obtain ⟨q, e, y⟩ := z; exact ⟨q, e, y.mono kp fun o ho => by rw [upd_ne (fun e3 => hnD (.inr ⟨k, _, hc, rfl, by rw [hu, e, e3]⟩))]; exact ho⟩
          | b d0 =>
            rcases z with z | ⟨q, e, l, y⟩
            · exact .inl (RD.mono kp z)
            · by_cases hq : q = D
              · -- a lent slot can't be at the new list
                subst hq
                have sAll := s2.trans (s27.trans s8)
                have r0 := sAll.b k d0 hc
                have hu2 : (L2.wipe σ vs)[k]? = some (some (.ref q)) := by rw [hu, e]
                rw [r0.2] at hu2
                rcases ok.slot r0.1 hu2 with z | ⟨q', e', l', _⟩
                · exact .inl (by rw [e]; exact (z.mono (kp_step ok sAll hD)).mono kp)
                · cases e'
                  exact (ok.al _ l' hD).elim
              · refine .inr ⟨q, e, l, y.mono kp (fun u hu => ?_) (fun C dx fs hu => by rw [upd_ne hq]; exact hu) fun xs hu => by rw [upd_ne hq]; exact hu⟩
                rcases hu with hu | ⟨ob, hu⟩
                · exact .inl (by rw [upd_ne hq]; exact hu)
                · exact .inr ⟨ob, by rw [upd_ne hq]; exact hu⟩
        · by_cases e : a = D
          · subst e; rw [upd_same]; exact fun z => nomatch z
          · rw [upd_ne e]; exact o8.al a z
      refine ⟨us, eD6, hu, acc ++ [xd], _, us ++ [y], h7, by rw [List.length_append]; exact Nat.add_le_add_right ha 1, o9, ?_, upd_same, (rA8.app (.one r8)).mono kp⟩
      have sAll := s2.trans (s27.trans s8)
      refine ⟨fun a o h1 h2 => ?_, sAll.n, sAll.m, sAll.b, fun a h1 => ?_⟩
      · have ne : a ≠ D := ne_of_none h1 hD
        rw [upd_ne ne]
        exact sAll.e a o h1 h2
      · by_cases e : a = D
        · rw [e]; exact hD
        · rw [upd_ne e] at h1; exact sAll.al a h1
  · obtain ⟨acc, envi, us, hI, ha, o2, s2, eD, rA⟩ := z
    rw [en] at hI ha
    -- back to the slots
    obtain ⟨o3, s3⟩ := ok.rest (vs := vs) hD o2 s2
    refine hk acc _ D H2 (hd acc envi ha hI) hD o3 s3 ⟨us, eD, rA.weak fun a z => z.elim .inl fun y => .inr ?_⟩
    rcases y with y | ⟨k, c, h1, h2, h3⟩
    · exact .inl y
    rcases rest_get h1 with ⟨_, d, e, _⟩ | ⟨m, h4⟩
    · rw [e] at h2; cases h2
    · exact .inr ⟨k, c, h4, h2, by rw [wipe_ne m]; exact h3⟩
/-- more to be kept clear of, in another order -/
theorem Ok.iff {L' : As} (ok : Ok S B L env σ H) (h : ∀ a, L' a ↔ L a) : Ok S B L' env σ H := by
  have e : L' = L := funext fun a => propext (h a)
  rw [e]
  exact ok
theorem lf_lc {wi : TI} {g : TG} {tt : TT} {te : TE} {vs ts : List Nat} {src : TDI} {dg : TDG} {dt : TDT} {de : TDE} (hi : LfI S B wi src) (hg : LfG S B g dg ts) (ht : LfT S B tt dt) (he : LfE S B te de) (hts : ∀ i ∈ ts, i ∈ vs := by decide) : LfE S B (tLc wi g tt te vs) (dLc src dg dt de vs) := fun L env σ H Q k ok h hk => by
  refine hi L env σ H _ _ ok h fun ds bw env1 H1 J h1 ok1 st1 hbw sr => ?_
  obtain ⟨hl, I, h0, hs, hd⟩ := h1
  cases bw with
  | none =>
    refine lc_core (k := fun acc env2 => k (.f (.lst acc)) env2) hg hts ht he ok1 (sr.pre (fun _ z => z) fun a z => z.elim id fun ⟨_, e, _⟩ => nomatch e) hl h0 hs (fun acc envn ha hI => hd acc envn ha hI) fun acc env2 p Hn hkk hp ok2 st2 w => ?_
    exact hk _ _ _ _ hkk ⟨st1.trans st2, p, rfl, st1.al p hp, ok2, w⟩
  | some i =>
    obtain ⟨c, hi, hc⟩ := hbw i rfl
    obtain ⟨p, hv, _⟩ := ok1.ownd hi hc
    have e1 : bwE (some i) env1 = env1.set i (some (.b c.d)) := by
      show (match env1[i]? with | some (some c) => env1.set i (some (.b c.d)) | _ => env1) = _
      rw [hi]
    rw [e1] at h0 hd
    have okb := ok1.bor hi hc hv
    refine lc_core (k := fun acc env2 => ob (unb (some i) env1 env2) fun env3 => k (.f (.lst acc)) env3) hg hts ht he okb (sr.pre (fun a z => ?_) fun a z => z.elim .inl fun ⟨j, e, e2⟩ => ?_) hl h0 hs (fun acc envn ha hI => hd acc envn ha hI) fun acc env2 D Hn hkk hp ok2 st2 w => ?_
    · rcases z with (z | rfl) | z | ⟨k, c', g1, g2, g3⟩
      · exact .inl z
      · exact .inr (.inr ⟨i, c, hi, hc, hv⟩)
      · exact .inr (.inl z)
      · rcases get_set g1 with ⟨_, e, _⟩ | ⟨_, g4⟩
        · cases e; cases g2
        · exact .inr (.inr ⟨k, c', g4, g2, g3⟩)
    · cases e
      rw [hv] at e2
      cases e2
      exact .inr rfl
    · obtain ⟨env3, hu, hkk⟩ := ob_of hkk
      have sw : ∀ a, La (La L D) p a ↔ La (La L p) D a := fun a => ⟨fun z => z.elim (fun z => z.elim (fun y => .inl (.inl y)) .inr) fun y => .inl (.inr y), fun z => z.elim (fun z => z.elim (fun y => .inl (.inl y)) .inr) fun y => .inl (.inr y)⟩
      obtain ⟨o3, s3, w3⟩ := ok1.back hi hc hv hu (L' := La L D) (fun _ z => .inl z) (fun a z => z.elim .inl fun e => .inr (by rw [e]; exact hp)) (ok2.iff sw) st2
      refine hk _ _ _ _ hkk ⟨st1.trans s3, D, rfl, st1.al D hp, o3, w.weak fun a z => ?_⟩
      rcases w3 a z with y | y
      · exact .inl ((sw a).mp y)
      · exact .inr y

/-! ### d[k] = v -/
def dDput (td ty tv : TDE) : TDS := fun E env => tv env fun av env1 => td env1 fun ad env2 => ty env2 fun ak env3 => ob (ak.get env3) fun kd => shr env3 av fun d env4 => match ad with
  | .r i => ownAt env4 i fun c => match c.d with
    | .dK kds => ob kd.key fun k => kds.length < sizeLine ∧ E.nx (env4.set i (some (c.with (.dK (putD kds k d)))))
    | .dT kds => ob kd.keyT fun k => kds.length < sizeLine ∧ E.nx (env4.set i (some (c.with (.dT (putD kds k d)))))
    | _ => False
  | _ => False
theorem keys_len {κ α β : Type} {l : List (κ × α)} {m : List (κ × β)} (h : l.map (·.1) = m.map (·.1)) : l.length = m.length := by
  have := congrArg List.length h
  rwa [List.length_map, List.length_map] at this
theorem shr_hold {a : AV} {k : D → Env → Prop} (h : shr env a k) : shr env a.hold k := by cases a <;> exact h
theorem lf_dput {td ty tv : TE} {dd dy dv : TDE} (h1 : LfE S B td dd) (h2 : LfE S B ty dy) (h3 : LfE S B tv dv) : LfS S B (sDPut td ty tv) (dDput dd dy dv) := fun L env σ H W E ok h r => by
  refine h3 L env σ H _ _ ok h fun av env1 v H1 g1 p1 => ?_
  obtain ⟨ok1, st1, fin1⟩ := p1.held ok
  refine h1 _ env1 σ H1 _ _ ok1 g1 fun ad env2 x H2 g2 p2 => ?_
  obtain ⟨ok2, st2, fin2⟩ := p2.held ok1
  refine h2 _ env2 σ H2 _ _ ok2 g2 fun ak env3 y H3 g3 p3 => ?_
  obtain ⟨ok3, st3, l3⟩ := p3.vl ok2
  obtain ⟨ok4, l4, w4⟩ := fin2 env3 H3 ok3 st3
  obtain ⟨ok5, l5, w5⟩ := fin1 env3 H3 ok4 (st2.trans st3)
  obtain ⟨kd, e1, g3⟩ := ob_of g3
  have l3' : VlA S (Av B L env3 σ) σ H3 y ak.hold := (l3.weak w4).weak w5
  have tk := l3'.tv ok5 (by rw [AV.get_hold]; exact e1)
  obtain ⟨d, env4, g4, ok6, st6, rd⟩ := l5.shr ok5 g3
  cases ad with
  | s d => exact g4.elim
  | f d => exact g4.elim
  | r i =>
    have hv : σ[i]? = some (some x) := l4
    obtain ⟨c, e4, e5, g5⟩ := ownAt_of g4
    obtain ⟨p, hp, w⟩ := ok6.ownd e4 e5
    rw [hv] at hp
    cases hp
    have how : Av B L env4 σ p := .inr (.inr ⟨i, c, e4, e5, hv⟩)
    have stA := st1.trans (st2.trans (st3.trans st6))
    have tk6 : TV S (Av B L env4 σ) H3 y kd := tk.mono (st6.kp ok5) fun q e => ⟨fun u z => z, fun _ _ _ z => z, fun _ z => z⟩
    split at g5
    · rename_i kds ed
      rw [ed] at w
      obtain ⟨kvs, hH, hk, rs⟩ := w
      obtain ⟨kk, e6, hl, g5⟩ := ob_of g5
      obtain ⟨q1, q2⟩ := put_rds (k := kk) rd hk rs
      refine ⟨p, _, rfl, .inl ⟨kvs, kk, hH, tk6.key e6, by rw [keys_len hk]; exact hl, rfl⟩, ?_⟩
      obtain ⟨ok7, st7⟩ := ok6.write (o := .dK (putK kvs kk v)) (d := .dK (putD kds kk d)) e4 e5 hv ⟨_, upd_same, q1, q2.mono (kp_own how ⟨_, hH, trivial⟩)⟩
      exact r.nx _ _ _ g5 ok7 (stA.trans st7)
    · rename_i kds ed
      rw [ed] at w
      obtain ⟨kvs, hH, hk, rs⟩ := w
      obtain ⟨kk, e6, hl, g5⟩ := ob_of g5
      obtain ⟨q1, q2⟩ := put_rds (k := kk) rd hk rs
      obtain ⟨bb, rfl, hb⟩ := tk6.keyT e6
      refine ⟨p, _, rfl, .inr ⟨kvs, kk, bb, hH, rfl, hb, by rw [keys_len hk]; exact hl, rfl⟩, ?_⟩
      obtain ⟨ok7, st7⟩ := ok6.write (o := .dT (putK kvs kk v)) (d := .dT (putD kds kk d)) e4 e5 hv ⟨_, upd_same, q1, q2.mono (kp_own how ⟨_, hH, trivial⟩)⟩
      exact r.nx _ _ _ g5 ok7 (stA.trans st7)
    · exact g5.elim
end
end Dl
/-! DLA: what a def promises by data; calls. -/
namespace Dl
open PySem L2
/-- which parameter is changed in place; which are lent only -/
def isM (mp : Option Nat) (j : Nat) : Bool := match mp with
  | none => false
  | some i => i == j
def ArgOk (S : Sys) (L A : As) (H : Hp) (m b : Bool) (v : V) (d : D) : Prop :=
  bif m then ∃ p, v = .ref p ∧ ¬ L p ∧ Own S A H p d else bif b then RD S A H v d ∨ ∃ p, v = .ref p ∧ L p ∧ Top S A H p d else RD S A H v d
structure ArgsOk (S : Sys) (L A : As) (H : Hp) (mp : Option Nat) (ms : List Bool) (vs : List V) (ds : List D) : Prop where
  lv : vs.length = ms.length
  ld : ds.length = ms.length
  ok : ∀ (i : Nat) b v d, ms[i]? = some b → vs[i]? = some v → ds[i]? = some d → ArgOk S L A H (isM mp i) b v d
  mp : ∀ i, mp = some i → i < ms.length
def MA (mp : Option Nat) (vs : List V) : As := fun a => ∃ i, mp = some i ∧ vs[i]? = some (.ref a)
def Ao (B : Vol) (L : As) (mp : Option Nat) (vs : List V) : As := fun a => L a ∨ B.V a ∨ MA mp vs a
abbrev DSp := List D → (D → Bool → Option D → Prop) → Prop
def MsOk (S : Sys) (A : As) (H : Hp) (M : As) (md : Option D) : Prop := ∀ a, M a → ∃ d, md = some d ∧ Own S A H a d
structure ResOk (S : Sys) (B : Vol) (A M : As) (H H' : Hp) (d : D) (fr : Bool) (md : Option D) (v : V) : Prop where
  e : ∀ a o, H a = some o → ¬ M a → ¬ B.V a → H' a = some o
  al : ∀ a, H' a = none → H a = none
  bag : B.Bag H'
  r : if fr = true then ∃ p, v = .ref p ∧ H p = none ∧ Own S (La A p) H' p d ∧ MsOk S (La A p) H' M md else RD S A H' v d ∧ MsOk S A H' M md
/-- a promise: Bs tells what may change meanwhile, by the arguments -/
def spD (S : Sys) (Bs : Vol → List D → Prop) (mp : Option Nat) (ms : List Bool) (f : DSp) : Sp := fun vs H Q _ => ∃ (B : Vol) (L : As) (ds : List D), Bs B ds ∧ B.Bag H ∧ (∀ a, L a → H a ≠ none) ∧ (∀ a, B.V a → ¬ L a) ∧ (∀ a, MA mp vs a → ¬ B.V a) ∧ ArgsOk S L (Ao B L mp vs) H mp ms vs ds ∧
  ∃ k, f ds k ∧ ∀ d fr md v H', k d fr md → ResOk S B (Ao B L mp vs) (MA mp vs) H H' d fr md v → Q v H'
def plain : Vol → List D → Prop := fun B _ => B = noVol
/-- the bag, as a volatile thing -/
def bagVol (b g : Addr) : Vol := ⟨fun a => a = b ∨ a = g, fun H => Lk.BagAt H b g, fun H H' h ⟨sd, c, al, gs, e1, e2, ne, z⟩ => ⟨sd, c, al, gs, h _ _ (.inl rfl) e1, h _ _ (.inr rfl) e2, ne, z⟩, fun H a ⟨sd, c, al, gs, e1, e2, ne, z⟩ h => by
  rcases h with rfl | rfl
  · exact ⟨_, e1, trivial⟩
  · exact ⟨_, e2, trivial⟩, fun _ _ _ _ => False⟩
def baggy : Vol → List D → Prop := fun B ds => ∃ b g r, B = bagVol b g ∧ ds = .glob b :: r

/-! ### the def's side -/
def cellAt (m b : Bool) (d : D) : Cell := bif m then .m d else bif b then .b d else .s d
def env0 (mp : Option Nat) : Nat → List Bool → List D → Nat → Env
  | j, b :: bs, d :: ds, n + 1 => some (cellAt (isM mp j) b d) :: env0 mp (j + 1) bs ds n
  | _, _, _, n => List.replicate n none
def finV (k : D → Bool → Option D → Prop) (av : AV) (env : Env) (md : Option D) : Prop := match av with
  | .s d => k d false md
  | .f d => k d true md
  | .r i => match env[i]? with
    | some (some (.o d)) => k d true md
    | _ => False
def fin (mp : Option Nat) (k : D → Bool → Option D → Prop) (av : AV) (env : Env) : Prop := match mp with
  | none => finV k av env none
  | some j => match env[j]? with
    | some (some (.m d)) => finV k av env (some d)
    | _ => False
section
variable {S : Sys} {B : Vol} {L : As} {H H' : Hp}
theorem env0_len {mp : Option Nat} : ∀ {j : Nat} {ms : List Bool} {ds : List D} {n : Nat}, (env0 mp j ms ds n).length = n
  | _, [], _, n => by simp [env0]
  | _, _ :: _, [], n => by simp [env0]
  | _, _ :: _, _ :: _, 0 => by simp [env0]
  | j, m :: ms, d :: ds, n + 1 => by unfold env0; rw [List.length_cons, env0_len]
theorem env0_get {mp : Option Nat} : ∀ {j : Nat} {ms : List Bool} {ds : List D} {n i : Nat} {c : Cell}, (env0 mp j ms ds n)[i]? = some (some c) → ∃ b d, ms[i]? = some b ∧ ds[i]? = some d ∧ c = cellAt (isM mp (j + i)) b d
  | _, [], _, n, i, c, e => by
    unfold env0 at e
    rw [List.getElem?_replicate] at e
    split at e <;> cases e
  | _, _ :: _, [], n, i, c, e => by
    unfold env0 at e
    rw [List.getElem?_replicate] at e
    split at e <;> cases e
  | _, _ :: _, _ :: _, 0, i, c, e => by
    unfold env0 at e
    cases e
  | j, m :: ms, d :: ds, n + 1, 0, c, e => by
    cases e
    exact ⟨m, d, rfl, rfl, rfl⟩
  | j, m :: ms, d :: ds, n + 1, i + 1, c, e => by
    obtain ⟨b, d', h1, h2, h3⟩ := env0_get (j := j + 1) (ms := ms) (ds := ds) (n := n) (i := i) e
    exact ⟨b, d', h1, h2, by rw [h3, Nat.add_assoc, Nat.add_comm 1 i]⟩
theorem start_get {N : List Str} {vs : List V} {i : Nat} {v : V} (h : vs[i]? = some v) : (L2.start N vs)[i]? = some (some v) := by
  unfold L2.start
  have hl := (List.getElem?_eq_some_iff.mp h).1
  rw [List.getElem?_append_left (by rw [List.length_map]; exact hl), List.getElem?_map, h]
  rfl
theorem isM_iff {mp : Option Nat} {j : Nat} : isM mp j = true ↔ mp = some j := by
  unfold isM
  cases mp with
  | none => simp
  | some i => simp
theorem cellAt_own {m b : Bool} {d : D} (h : (cellAt m b d).own = true) : m = true := by
  cases m with
  | true => rfl
  | false => cases b <;> cases h
variable {mp : Option Nat} {ms : List Bool} {vs : List V} {ds : List D} {N : List Str}
theorem start_ow (a : ArgsOk S L (Ao B L mp vs) H mp ms vs ds) {n : Nat} {x : Addr} : Ow B (env0 mp 0 ms ds n) (L2.start N vs) x → B.V x ∨ MA mp vs x := fun z => z.imp id fun ⟨i, c, h1, h2, h3⟩ => by
  obtain ⟨b, d, e1, e2, rfl⟩ := env0_get h1
  rw [Nat.zero_add] at h2
  have e := isM_iff.mp (cellAt_own h2)
  have hi : i < vs.length := by rw [a.lv]; exact (List.getElem?_eq_some_iff.mp e1).1
  have hv := List.getElem?_eq_getElem hi
  rw [start_get hv] at h3
  cases h3' : vs[i] with
  | ref y =>
    rw [h3'] at h3 hv
    cases h3
    exact ⟨i, e, hv⟩
  | _ => rw [h3'] at h3; cases h3
theorem ow_start (a : ArgsOk S L (Ao B L mp vs) H mp ms vs ds) {n : Nat} (hn : ms.length ≤ n) {x : Addr} (h : MA mp vs x) : Ow B (env0 mp 0 ms ds n) (L2.start N vs) x := by
  obtain ⟨i, e, hv⟩ := h
  have hi := a.mp i e
  have key : ∀ (j : Nat) (ms : List Bool) (ds : List D) (n i : Nat), i < ms.length → ds.length = ms.length → ms.length ≤ n → mp = some (j + i) → ∃ d, (env0 mp j ms ds n)[i]? = some (some (.m d)) := by
    intro j ms
    induction ms generalizing j with
    | nil => intro ds n i h; cases h
    | cons b ms ih =>
      intro ds n i h1 h2 h3 h4
      cases ds with
      | nil => cases h2
      | cons d ds =>
        cases n with
        | zero => cases h3
        | succ n =>
          cases i with
          | zero =>
            refine ⟨d, ?_⟩
            show some (some (cellAt (isM mp j) b d)) = _
            rw [isM_iff.mpr (show mp = some j from h4)]
            rfl
          | succ i => exact ih (j + 1) ds n i (Nat.lt_of_succ_lt_succ h1) (Nat.succ.inj h2) (Nat.le_of_succ_le_succ h3) (by rw [h4]; congr 1; omega)
  obtain ⟨d, hd⟩ := key 0 ms ds n i hi a.ld hn (by rw [e, Nat.zero_add])
  exact .inr ⟨i, _, hd, rfl, start_get hv⟩
theorem start_ok (hL : ∀ x, L x → H x ≠ none) (hB : B.Bag H) (hVL : ∀ a, B.V a → ¬ L a) (hMV : ∀ a, MA mp vs a → ¬ B.V a) (a : ArgsOk S L (Ao B L mp vs) H mp ms vs ds) (hn : ms.length ≤ N.length) : Ok S B L (env0 mp 0 ms ds N.length) (L2.start N vs) H := by
  have w : ∀ x, Av B L (env0 mp 0 ms ds N.length) (L2.start N vs) x → Ao B L mp vs x := fun x z => z.elim .inl fun y => .inr (start_ow a y)
  refine ⟨?_, fun i c h => ?_, fun i j c c' x h1 h2 h3 h4 h5 h6 => ?_, fun x h hl => ?_, hL, hB, fun i c x h1 h2 h3 => ?_⟩
  · rw [env0_len]
    unfold L2.start
    rw [List.length_append, List.length_map, List.length_replicate, a.lv]
    omega
  · obtain ⟨b, d, e1, e2, rfl⟩ := env0_get h
    rw [Nat.zero_add]
    have hi : i < vs.length := by rw [a.lv]; exact (List.getElem?_eq_some_iff.mp e1).1
    have hv := List.getElem?_eq_getElem hi
    refine ⟨_, start_get hv, ?_⟩
    have z := a.ok i b _ d e1 hv e2
    unfold ArgOk at z
    cases q : isM mp i with
    | true =>
      rw [q] at z
      obtain ⟨p, e, _, y⟩ := z
      exact ⟨p, e, y.weak w⟩
    | false =>
      rw [q] at z
      cases b with
      | true => exact z.elim (fun y => .inl (RD.weak y w)) fun ⟨p, e, l, y⟩ => .inr ⟨p, e, l, y.weak w⟩
      | false => exact RD.weak z w
  · obtain ⟨b, d, _, _, rfl⟩ := env0_get h1
    obtain ⟨b', d', _, _, rfl⟩ := env0_get h3
    rw [Nat.zero_add] at h2 h4
    have e1 := isM_iff.mp (cellAt_own h2)
    have e2 := isM_iff.mp (cellAt_own h4)
    rw [e1] at e2
    exact Option.some.inj e2
  · rcases start_ow a h with h | ⟨i, e, hv⟩
    · exact hVL x h hl
    have hi := a.mp i e
    obtain ⟨p, e3, n, _⟩ : ∃ p, V.ref x = .ref p ∧ ¬ L p ∧ Own S (Ao B L mp vs) H p (ds[i]'(by rw [a.ld]; exact hi)) := by
      have z := a.ok i _ _ _ (List.getElem?_eq_getElem hi) hv (List.getElem?_eq_getElem (by rw [a.ld]; exact hi))
      unfold ArgOk at z
      rw [isM_iff.mpr e] at z
      exact z
    cases e3
    exact n hl
  · obtain ⟨b, d, e1, e2, rfl⟩ := env0_get h1
    rw [Nat.zero_add] at h2
    have hi : i < vs.length := by rw [a.lv]; exact (List.getElem?_eq_some_iff.mp e1).1
    have hv := List.getElem?_eq_getElem hi
    rw [start_get hv] at h3
    exact hMV x ⟨i, isM_iff.mp (cellAt_own h2), by rw [hv]; exact Option.some.inj h3⟩
/-- the end of a def -/
theorem fin_ok (hL : ∀ x, L x → H x ≠ none) (hB : B.Bag H) (hVL : ∀ a, B.V a → ¬ L a) (hMV : ∀ a, MA mp vs a → ¬ B.V a) (a : ArgsOk S L (Ao B L mp vs) H mp ms vs ds) (hn : ms.length ≤ N.length) {k : D → Bool → Option D → Prop} {av : AV} {env' : Env} {σ' : St} {v : V} (hf : fin mp k av env') (st : Step B (env0 mp 0 ms ds N.length) (L2.start N vs) H env' σ' H') (pv : PostV S B L env' σ' H H' v av) :
    ∃ d fr md, k d fr md ∧ ResOk S B (Ao B L mp vs) (MA mp vs) H H' d fr md v := by
  have ok0 := start_ok hL hB hVL hMV a hn
  -- the changed parameter's slot
  have hm : ∃ md, finV k av env' md ∧ ∀ x, MA mp vs x → ∃ (j : Nat) (d : D), md = some d ∧ env'[j]? = some (some (.m d)) ∧ σ'[j]? = some (some (.ref x)) := by
    cases mp with
    | none => exact ⟨none, hf, fun x ⟨i, e, _⟩ => nomatch e⟩
    | some j =>
      have hf : (match env'[j]? with | some (some (.m d)) => finV k av env' (some d) | _ => False : Prop) := hf
      split at hf
      · rename_i d e
        refine ⟨some d, hf, fun x ⟨i, ei, hv⟩ => ?_⟩
        cases ei
        exact ⟨j, d, rfl, e, by rw [(st.m j d e).2]; exact start_get hv⟩
      · exact hf.elim
  obtain ⟨md, hf, hm⟩ := hm
  have hMow : ∀ x, MA mp vs x → Ow B env' σ' x := fun x hx => by
    obtain ⟨j, d, _, e, e2⟩ := hm x hx
    exact .inr ⟨j, _, e, rfl, e2⟩
  have w : ∀ x, Ao B L mp vs x → Av B L env' σ' x := fun x z => z.elim .inl fun y => .inr (y.elim .inl (hMow x))
  have e1 : ∀ x o, H x = some o → ¬ MA mp vs x → ¬ B.V x → H' x = some o := fun x o h1 h2 h3 => st.e x o h1 fun z => (start_ow a z).elim h3 h2
  have ms_of : ∀ {A : As} {L' : As}, Ok S B L' env' σ' H' → (∀ x, A x → Av B L' env' σ' x) → MsOk S A H' (MA mp vs) md := fun {A L'} ok hw x hx => by
    obtain ⟨j, d, e, e2, e3⟩ := hm x hx
    obtain ⟨p, hp, o⟩ := ok.ownd e2 rfl
    rw [e3] at hp
    cases hp
    exact ⟨d, e, o.weak hw⟩
  cases av with
  | s d => exact ⟨d, false, md, hf, e1, st.al, pv.1.bag, pv.2.weak w, ms_of pv.1 w⟩
  | f d =>
    obtain ⟨p, rfl, n, ok', o⟩ := pv
    have w2 : ∀ x, La (Ao B L mp vs) p x → Av B (La L p) env' σ' x := fun x z => z.elim (fun y => (w x y).elim (fun q => .inl (.inl q)) .inr) fun e => .inl (.inr e)
    exact ⟨d, true, md, hf, e1, st.al, ok'.bag, p, rfl, n, o.weak w2, ms_of ok' w2⟩
  | r i =>
    have hf : (match env'[i]? with | some (some (.o d)) => k d true md | _ => False : Prop) := hf
    split at hf
    · rename_i d e
      obtain ⟨ok', hv⟩ := pv
      obtain ⟨p, hp, o⟩ := ok'.ownd e rfl
      rw [hv] at hp
      cases hp
      have how : Ow B env' σ' p := .inr ⟨i, _, e, rfl, hv⟩
      have hnp : H p = none := by
        rcases st.n p how with z | z
        · have z := (start_ow a z).resolve_left (ok'.dv i _ p e rfl hv)
          obtain ⟨j, d', _, g1, g2⟩ := hm p z
          have := ok'.inj i j _ _ p e rfl g1 rfl hv g2
          subst this
          rw [e] at g1
          cases g1
        · exact z
      have w2 : ∀ x, La (Ao B L mp vs) p x → Av B L env' σ' x := fun x z => z.elim (w x) fun e => by rw [e]; exact .inr how
      exact ⟨d, true, md, hf, e1, st.al, ok'.bag, p, rfl, hnp, o.weak w2, ms_of ok' w2⟩
    · exact hf.elim
end
section
variable {P : Program} {w : World} {K : PySem.W.Frag} {mg : Str → Option Value} {base : Heap}
/-- a def keeps its promise -/
theorem okD {x qual : Str} {st : Stmt} {f : Addr} {fd : FuncData} {N ps : List Str} {lv : Nat} {mp : Option Nat} {ms : List Bool} {sp : DSp} {Bs : Vol → List D → Prop} (F : Fun K x qual st f fd) (Sc : FnScope N ps (defScope st)) (hl : ms.length = ps.length) (hn : ms.length ≤ N.length)
    (hbody : ∀ (cdv : Value) (A : Around) (outer : List PySem.Env) (s : Shared) (H : Hp) (E : XK), Room lv (A.deeper (PyProof.Rows.envOfC qual (defScope st) s.heap.objs.size f cdv)) →
      ∃ (t : TS) (dt : Vol → TDS), PSs (cxOf CX0 P w K mg base N qual (defScope st) f cdv A outer s H E).nox (defBody st) t ∧ (∀ B, LfS ⟨P, w, K⟩ B t (dt B)) ∧ ∀ B ds k, Bs B ds → ds.length = ms.length → sp ds k → dt B { nx := fun e => fin mp k (.s .non) e, rt := fin mp k } (env0 mp 0 ms ds N.length)) : FnOk P w K mg base CX0 (lv + 1) f fd ps (spD ⟨P, w, K⟩ Bs mp ms sp) := by
  refine F.ok Sc (fun vs H Q E h => ?_) (fun cdv A outer s H vs Q E hr h => ?_)
  · obtain ⟨B, L, ds, _, _, _, _, _, a, _⟩ := h
    exact a.lv.trans hl
  · obtain ⟨B, L, ds, hBs, hB, hL, hVL, hMV, a, k, hk, hQ⟩ := h
    obtain ⟨t, dt, h1, h2, h3⟩ := hbody cdv A outer s H E hr
    have ok0 := start_ok hL hB hVL hMV a hn
    refine ⟨t, h1, h2 B L _ _ H _ _ ok0 (h3 B ds k hBs a.ld hk) ⟨fun e σ' H' g o st => ?_, fun av e σ' v H' g st pv => ?_, fun _ _ _ z => z.elim, fun _ _ _ z => z.elim, fun _ _ _ _ _ _ z => z.elim⟩⟩
    · obtain ⟨d, fr, md, hkk, r⟩ := fin_ok hL hB hVL hMV a hn (v := .non) g st ⟨o, .non⟩
      exact hQ d fr md _ _ hkk r
    · obtain ⟨d, fr, md, hkk, r⟩ := fin_ok hL hB hVL hMV a hn g st pv
      exact hQ d fr md _ _ hkk r
end
/-! ### calls -/
/-- what is to be kept is given away -/
def escs : List Bool → Option Nat → Nat → List AV → Env → (Env → Prop) → Prop
  | b :: bs, mp, j, a :: as, env, k => if (b || isM mp j) = true then escs bs mp (j + 1) as env k else shr env a fun _ env1 => escs bs mp (j + 1) as env1 k
  | [], _, _, [], env, k => k env
  | _, _, _, _, _, _ => False
/-- is the slot i not among these -/
def nor (i : Nat) : List AV → Bool
  | [] => true
  | .r j :: as => !(j == i) && nor i as
  | _ :: as => nor i as
def owR (env : Env) (a : AV) (as : List AV) : Bool := match a with
  | .r i => (match env[i]? with
    | some (some c) => c.own
    | _ => false) && nor i as
  | _ => false
def keptR (env : Env) (a : AV) : Bool := match a with
  | .s _ => true
  | .r i => (match env[i]? with
    | some (some (.s _)) => true
    | _ => false)
  | .f _ => false
/-- each argument as its parameter asks -/
def mOk (env : Env) : List Bool → Option Nat → Nat → List AV → Bool
  | b :: bs, mp, j, a :: as => (if isM mp j = true then owR env a as else if b = true then true else keptR env a) && mOk env bs mp (j + 1) as
  | [], _, _, [] => true
  | _, _, _, _ => false
/-- the changed one gets its new contents -/
def setM (mp : Option Nat) (as : List AV) (env : Env) (md : Option D) (k : Env → Prop) : Prop := match mp with
  | none => k env
  | some j => match as[j]?, md with
    | some (.r i), some d => ownAt env i fun c => k (env.set i (some (c.with d)))
    | _, _ => False
def dCall (mp : Option Nat) (ms : List Bool) (f : DSp) (ta : TDA) : TDE := fun env k => ta env fun as env1 => escs ms mp 0 as env1 fun env2 => mOk env2 ms mp 0 as = true ∧ ob (gets env2 as) fun ds => f ds fun d fr md => setM mp as env2 md fun env3 => k (if fr = true then .f d else .s d) env3
section
variable {S : Sys} {B : Vol} {L : As} {env env' : Env} {σ : St} {H H' : Hp}
theorem escs_ok : ∀ {bs : List Bool} {mp : Option Nat} {j : Nat} {vs : List V} {as : List AV} {env : Env} {k : Env → Prop}, Ok S B L env σ H → VlAs S (Av B L env σ) σ H vs as → escs bs mp j as env k → ∃ env', k env' ∧ Ok S B L env' σ H ∧ Step B env σ H env' σ H ∧ as.length = bs.length
  | [], mp, j, [], [], env, k, ok, _, h => ⟨env, h, ok, .refl, rfl⟩
  | b :: bs, mp, j, v :: vs, a :: as, env, k, ok, hv, h => by
    unfold escs at h
    split at h
    · obtain ⟨env', h1, h2, h3, h4⟩ := escs_ok ok hv.2 h
      exact ⟨env', h1, h2, h3, congrArg (· + 1) h4⟩
    · have h1 : VlA S (Av B L env σ) σ H v a.hold := by
        cases a with
        | f d => exact (show False from hv.1).elim
        | _ => exact hv.1
      obtain ⟨d, env1, h2, ok1, st1, _⟩ := h1.shr ok h
      obtain ⟨env', h3, h4, h5, h6⟩ := escs_ok ok1 (VlAs.step ok st1 hv.2) h2
      exact ⟨env', h3, h4, st1.trans h5, congrArg (· + 1) h6⟩
  | [], _, _, _ :: _, _ :: _, _, _, _, _, h => h.elim
  | _ :: _, _, _, [], [], _, _, _, _, h => h.elim
theorem vlas_len : ∀ {vs : List V} {as : List AV} {A : As}, VlAs S A σ H vs as → vs.length = as.length
  | [], [], _, _ => rfl
  | _ :: _, _ :: _, _, h => congrArg (· + 1) (vlas_len h.2)
theorem vlas_at : ∀ {vs : List V} {as : List AV} {A : As} {i : Nat} {v : V} {a : AV}, VlAs S A σ H vs as → vs[i]? = some v → as[i]? = some a → VlA S A σ H v a
  | _ :: _, _ :: _, _, 0, _, _, h, e1, e2 => by cases e1; cases e2; exact h.1
  | _ :: _, _ :: _, _, i + 1, _, _, h, e1, e2 => vlas_at h.2 (by simpa using e1) (by simpa using e2)
theorem gets_at : ∀ {as : List AV} {ds : List D} {i : Nat} {d : D} {a : AV}, gets env as = some ds → ds[i]? = some d → as[i]? = some a → a.get env = some d
  | [], _, i, d, a, e, h, h2 => by cases h2
  | x :: as, ds, i, d, a, e, h, h2 => by
    unfold gets at e
    split at e
    · rename_i d' ds' e1 e2
      cases e
      cases i with
      | zero => cases h; cases h2; exact e1
      | succ i => exact gets_at e2 (by simpa using h) (by simpa using h2)
    · cases e
theorem gets_len : ∀ {as : List AV} {ds : List D}, gets env as = some ds → ds.length = as.length
  | [], _, e => by cases e; rfl
  | x :: as, ds, e => by
    unfold gets at e
    split at e
    · rename_i d' ds' e1 e2
      cases e
      exact congrArg (· + 1) (gets_len e2)
    · cases e
theorem owR_of {a : AV} {as : List AV} (h : owR env a as = true) : ∃ n c, a = .r n ∧ env[n]? = some (some c) ∧ c.own = true ∧ nor n as = true := by
  cases a with
  | r n =>
    have h : ((match env[n]? with | some (some c) => c.own | _ => false) && nor n as) = true := h
    rw [Bool.and_eq_true] at h
    obtain ⟨h, h2⟩ := h
    split at h
    · rename_i c e; exact ⟨n, c, rfl, e, h, h2⟩
    · cases h
  | s d => cases h
  | f d => cases h
theorem keptR_of {a : AV} (h : keptR env a = true) : (∃ d, a = .s d) ∨ ∃ n d, a = .r n ∧ env[n]? = some (some (.s d)) := by
  cases a with
  | s d => exact .inl ⟨d, rfl⟩
  | f d => cases h
  | r n =>
    have h : (match env[n]? with | some (some (.s _)) => true | _ => false) = true := h
    split at h
    · rename_i d e; exact .inr ⟨n, d, rfl, e⟩
    · cases h
theorem mOk_len : ∀ {bs : List Bool} {mp : Option Nat} {j : Nat} {as : List AV}, mOk env bs mp j as = true → bs.length = as.length
  | [], _, _, [], _ => rfl
  | _ :: bs, mp, j, _ :: as, h => by
    unfold mOk at h
    rw [Bool.and_eq_true] at h
    exact congrArg (· + 1) (mOk_len h.2)
  | [], _, _, _ :: _, h => by cases h
  | _ :: _, _, _, [], h => by cases h
theorem mOk_at : ∀ {bs : List Bool} {mp : Option Nat} {j : Nat} {as : List AV} {i : Nat} {b : Bool} {a : AV}, mOk env bs mp j as = true → bs[i]? = some b → as[i]? = some a →
    (isM mp (j + i) = true → ∃ n c, a = .r n ∧ env[n]? = some (some c) ∧ c.own = true) ∧ (isM mp (j + i) = false → b = false → (∃ d, a = .s d) ∨ ∃ n d, a = .r n ∧ env[n]? = some (some (.s d)))
  | b :: bs, mp, j, x :: as, 0, b', a, h, e1, e2 => by
    cases e1
    cases e2
    unfold mOk at h
    rw [Bool.and_eq_true] at h
    rw [Nat.add_zero]
    refine ⟨fun m => ?_, fun m hb => ?_⟩
    · rw [if_pos m] at h
      obtain ⟨n, c, e, e2, e3, _⟩ := owR_of h.1
      exact ⟨n, c, e, e2, e3⟩
    · rw [if_neg (by rw [m]; exact Bool.false_ne_true), if_neg (by rw [hb]; exact Bool.false_ne_true)] at h
      exact keptR_of h.1
  | b :: bs, mp, j, x :: as, i + 1, b', a, h, e1, e2 => by
    unfold mOk at h
    rw [Bool.and_eq_true] at h
    have := mOk_at (j := j + 1) (i := i) h.2 (by simpa using e1) (by simpa using e2)
    rw [Nat.add_assoc, Nat.add_comm 1 i] at this
    exact this
theorem nor_at {n : Nat} : ∀ {as : List AV} {i : Nat} {m : Nat}, nor n as = true → as[i]? = some (.r m) → m ≠ n
  | .r j :: as, 0, m, h, e => by
    cases e
    unfold nor at h
    rw [Bool.and_eq_true] at h
    intro q
    rw [q] at h
    simp at h
  | .r j :: as, i + 1, m, h, e => by
    unfold nor at h
    rw [Bool.and_eq_true] at h
    exact nor_at h.2 (by simpa using e)
  | .s d :: as, 0, m, h, e => by cases e
  | .f d :: as, 0, m, h, e => by cases e
  | .s d :: as, i + 1, m, h, e => nor_at (as := as) (i := i) h (by simpa using e)
  | .f d :: as, i + 1, m, h, e => nor_at (as := as) (i := i) h (by simpa using e)
/-- the changed argument stands in no later place -/
theorem mOk_nor : ∀ {bs : List Bool} {mp : Option Nat} {j : Nat} {as : List AV} {i k : Nat} {n m : Nat}, mOk env bs mp j as = true → isM mp (j + i) = true → as[i]? = some (.r n) → i < k → as[k]? = some (.r m) → m ≠ n
  | [], _, _, [], i, k, n, m, h, hm, e, _, e2 => by cases e
  | [], _, _, _ :: _, i, k, n, m, h, hm, e, _, e2 => by cases h
  | _ :: _, _, _, [], i, k, n, m, h, hm, e, _, e2 => by cases h
  | b :: bs, mp, j, x :: as, 0, k + 1, n, m, h, hm, e, _, e2 => by
    cases e
    unfold mOk at h
    rw [Bool.and_eq_true, if_pos (show isM mp j = true from hm)] at h
    obtain ⟨n', c, e3, _, _, h4⟩ := owR_of h.1
    cases e3
    exact nor_at h4 (by simpa using e2)
  | b :: bs, mp, j, x :: as, i + 1, k + 1, n, m, h, hm, e, hl, e2 => by
    unfold mOk at h
    rw [Bool.and_eq_true] at h
    exact mOk_nor (j := j + 1) (i := i) (k := k) h.2 (by rw [Nat.add_assoc, Nat.add_comm 1 i]; exact hm) (by simpa using e) (Nat.lt_of_succ_lt_succ hl) (by simpa using e2)
theorem lf_call {mp : Option Nat} {ms : List Bool} {f : DSp} {ta : TA} {da : TDA} {X : XK} (Bx : Vol) (hx : Bx = noVol ∨ Bx = B) {Bs : Vol → List D → Prop} {f' : DSp} (hf : ∀ ds k, f' ds k → Bs Bx ds ∧ f ds k) (ha : LfA S B ta da) (h00 : mp = none ∨ (mp = some 0 ∧ 0 < ms.length) := by first | exact .inl rfl | exact .inr ⟨rfl, by decide⟩) : LfE S B (tCall (spD S Bs mp ms f) [] X ta) (dCall mp ms f' da) := fun L env σ H Q k ok h hk => by
  have h0 : mp = none ∨ mp = some 0 := h00.imp id fun z => z.1
  refine ha L env σ H _ _ ok h fun avs env1 vs H1 h1 ok1 st1 l1 => ?_
  obtain ⟨env2, ⟨hm, h2⟩, ok2, st2, hlen⟩ := escs_ok ok1 l1 h1
  obtain ⟨ds, e2, h2⟩ := ob_of h2
  have l2 := VlAs.step ok1 st2 l1
  have hlv := vlas_len l2
  have hld := gets_len e2
  -- the changed one
  have hMa : ∀ a, MA mp vs a → ∃ n c, mp = some 0 ∧ avs[0]? = some (.r n) ∧ env2[n]? = some (some c) ∧ c.own = true ∧ σ[n]? = some (some (.ref a)) ∧ vs[0]? = some (.ref a) := fun a ⟨i, e, hv⟩ => by
    have e0 : i = 0 := by
      rcases h0 with h0 | h0
      · rw [h0] at e; cases e
      · rw [h0] at e; cases e; rfl
    subst e0
    have hl : 0 < avs.length := by rw [← hlv]; exact (List.getElem?_eq_some_iff.mp hv).1
    have ha0 := List.getElem?_eq_getElem hl
    have hb0 := List.getElem?_eq_getElem (show 0 < ms.length by rw [mOk_len hm]; exact hl)
    obtain ⟨n, c, ea, ec, eo⟩ := (mOk_at hm hb0 ha0).1 (isM_iff.mpr e)
    have z := vlas_at l2 hv ha0
    rw [ea] at z ha0
    exact ⟨n, c, e, ha0, ec, eo, z, hv⟩
  have hMo : ∀ a, MA mp vs a → Ow B env2 σ a := fun a h => by
    obtain ⟨n, c, _, _, ec, eo, es, _⟩ := hMa a h
    exact .inr ⟨n, c, ec, eo, es⟩
  have hMV : ∀ a, MA mp vs a → ¬ B.V a := fun a h => by
    obtain ⟨n, c, _, _, ec, eo, es, _⟩ := hMa a h
    exact ok2.dv n c a ec eo es
  have hxV : ∀ a, Bx.V a → B.V a := fun a h => by
    rcases hx with e | e
    · rw [e] at h; exact h.elim
    · rw [← e]; exact h
  let Lc : As := fun a => Av B L env2 σ a ∧ ¬ MA mp vs a ∧ ¬ Bx.V a
  have hA : ∀ a, Ao Bx Lc mp vs a ↔ Av B L env2 σ a := fun a => ⟨fun z => z.elim (fun y => y.1) fun y => .inr (y.elim (fun y => .inl (hxV a y)) (hMo a)), fun z => by
    by_cases q : MA mp vs a
    · exact .inr (.inr q)
    · by_cases q2 : Bx.V a
      · exact .inr (.inl q2)
      · exact .inl ⟨z, q, q2⟩⟩
  have eA : Ao Bx Lc mp vs = Av B L env2 σ := funext fun a => propext (hA a)
  have hLc : ∀ a, Lc a → H1 a ≠ none := fun a z => by
    rcases z.1 with y | y
    · exact ok2.al a y
    · obtain ⟨o, ho, _⟩ := ok2.ow y
      rw [ho]
      exact fun z => nomatch z
  have args : ArgsOk S Lc (Ao Bx Lc mp vs) H1 mp ms vs ds := by
    refine ⟨by rw [hlv, mOk_len hm], by rw [hld, mOk_len hm], fun i b v d g1 g2 g3 => ?_, fun i e => ?_⟩
    · rw [eA]
      have hi : i < avs.length := by rw [← hlv]; exact (List.getElem?_eq_some_iff.mp g2).1
      have ga := List.getElem?_eq_getElem hi
      have va := vlas_at l2 g2 ga
      have gd := gets_at e2 g3 ga
      have hmo := mOk_at hm g1 ga
      rw [Nat.zero_add] at hmo
      unfold ArgOk
      cases q : isM mp i with
      | true =>
        obtain ⟨n, c, ea, ec, eo⟩ := hmo.1 q
        rw [ea] at va gd
        obtain ⟨p, hp, w⟩ := ok2.ownd ec eo
        have va : σ[n]? = some (some v) := va
        rw [va] at hp
        cases hp
        have hd : c.d = d := by
          have gd : (match env2[n]? with | some (some c) => some c.d | _ => none) = some d := gd
          rw [ec] at gd
          exact Option.some.inj gd
        rw [← hd]
        exact ⟨p, rfl, fun z => z.2.1 ⟨i, isM_iff.mp q, g2⟩, w⟩
      | false =>
        have nm : mp ≠ some i := fun e => by
          have := isM_iff.mpr e
          rw [q] at this
          cases this
        cases b with
        | false =>
          rcases hmo.2 q rfl with ⟨x, ea⟩ | ⟨n, x, ea, ec⟩
          · rw [ea] at va gd
            cases gd
            exact va
          · rw [ea] at va gd
            have gd : (match env2[n]? with | some (some c) => some c.d | _ => none) = some d := gd
            rw [ec] at gd
            cases gd
            exact ok2.slot ec va
        | true =>
          show RD S (Av B L env2 σ) H1 v d ∨ ∃ p, v = .ref p ∧ Lc p ∧ Top S (Av B L env2 σ) H1 p d
          cases ea : avs[i] with
          | s x =>
            rw [ea] at va gd
            cases gd
            exact .inl va
          | f x =>
            rw [ea] at va
            exact va.elim
          | r n =>
            rw [ea] at va gd ga
            have va : σ[n]? = some (some v) := va
            have gd : (match env2[n]? with | some (some c) => some c.d | _ => none) = some d := gd
            split at gd
            · rename_i c ec
              cases gd
              have sl := ok2.slot ec va
              have hne : ∀ p, v = .ref p → c.own = true → ¬ MA mp vs p := fun p ep eo hp => by
                obtain ⟨n', c', em, g4, g5, g6, g7, g8⟩ := hMa p hp
                rw [ep] at va
                have en := ok2.inj n n' c c' p ec eo g5 g6 va g7
                subst en
                have hi0 : 0 < i := by
                  rcases Nat.eq_zero_or_pos i with z | z
                  · subst z; exact (nm em).elim
                  · exact z
                exact mOk_nor (j := 0) (i := 0) (k := i) hm (isM_iff.mpr em) g4 hi0 ga rfl
              cases c with
              | s x => exact .inl sl
              | o x => obtain ⟨p, e, w⟩ := sl; exact .inr ⟨p, e, ⟨.inr (.inr ⟨n, _, ec, rfl, by rw [va, e]⟩), hne p e rfl, fun z => ok2.dv n _ p ec rfl (by rw [va, e]) (hxV p z)⟩, w.top⟩
              | m x => obtain ⟨p, e, w⟩ := sl; exact .inr ⟨p, e, ⟨.inr (.inr ⟨n, _, ec, rfl, by rw [va, e]⟩), hne p e rfl, fun z => ok2.dv n _ p ec rfl (by rw [va, e]) (hxV p z)⟩, w.top⟩
              | b x =>
                rcases sl with sl | ⟨p, e, l, w⟩
                · exact .inl sl
                · exact .inr ⟨p, e, ⟨.inl l, fun z => ok2.sep p (hMo p z) l, fun z => ok2.sep p (.inl (hxV p z)) l⟩, w⟩
            · cases gd
    · rcases h0 with h0 | h0
      · rw [h0] at e; cases e
      · have e1 : i = 0 := by rw [h0] at e; cases e; rfl
        subst e1
        rcases h00 with z | z
        · rw [z] at h0; cases h0
        · exact z.2
  have hBx : Bx.Bag H1 := by
    rcases hx with e | e
    · rw [e]; trivial
    · rw [e]; exact ok2.bag
  refine ⟨Bx, Lc, ds, (hf _ _ h2).1, hBx, hLc, fun a z y => y.2.2 z, by rw [List.append_nil]; exact fun a z y => hMV a z (hxV a y), by rw [List.append_nil]; exact args, _, (hf _ _ h2).2, fun d fr md v H' hkk r => ?_⟩
  rw [List.append_nil] at r
  rw [eA] at r
  -- the new state
  have hex : ∀ a o, H1 a = some o → ¬ Av B L env2 σ a → H' a = some o := fun a o h1 h2 => r.e a o h1 (fun z => h2 (.inr (hMo a z))) fun z => h2 (.inr (.inl (hxV a z)))
  have hbag : B.Bag H' := by
    rcases hx with e | e
    · exact B.stab H1 H' (fun a o va h => r.e a o h (fun z => hMV a z va) fun z => by rw [e] at z; exact z) ok2.bag
    · rw [← e]; exact r.bag
  have kpG : ∀ (A' : As), (∀ a, A' a → Av B L env2 σ a ∨ H1 a = none) → Kp (Av B L env2 σ) A' H1 H' := fun A' hA' => by
    have nt : ∀ q o, H1 q = some o → ¬ Mut (some o) → H' q = some o := fun q o h1 h2 => by
      have no : ¬ Ow B env2 σ q := fun z => by
        obtain ⟨u, hu, hmu⟩ := ok2.ow z
        rw [h1] at hu
        cases hu
        exact h2 hmu
      exact r.e q o h1 (fun z => no (hMo q z)) fun z => no (.inl (hxV q z))
    refine ⟨fun q xs h => ?_, fun q xs h => nt q _ h fun z => z, fun q xs h n => hex q _ h n, fun q ob xs h => nt q _ h fun z => z, fun q u h n => ⟨?_, fun z => ?_⟩, fun q C dx fs h n => hex q _ h n, fun q fs h => nt q _ h fun z => z⟩
    · rcases h with h | ⟨ob, h⟩
      · exact .inl (nt q _ h fun z => z)
      · exact .inr ⟨ob, nt q _ h fun z => z⟩
    · rcases h with h | ⟨ob, h⟩
      · exact .inl (hex q _ h n)
      · exact .inr ⟨ob, hex q _ h n⟩
    · rcases hA' q z with y | y
      · exact n y
      · rcases h with h | ⟨ob, h⟩ <;> · rw [y] at h; cases h
  have keyG : ∀ (Lx : As), (∀ a, L a → Lx a) → (∀ a, Lx a → L a ∨ H1 a = none) → (∀ a, Lx a → H' a ≠ none) → MsOk S (Av B Lx env2 σ) H' (MA mp vs) md → ∀ env3,
      (env3.length = env2.length ∧ ∀ (i : Nat) (c' : Cell), env3[i]? = some (some c') → (∃ a c0 d0, σ[i]? = some (some (.ref a)) ∧ MA mp vs a ∧ env2[i]? = some (some c0) ∧ c0.own = true ∧ c' = c0.with d0 ∧ md = some d0) ∨ (env2[i]? = some (some c') ∧ (c'.own = true → ∀ a, σ[i]? = some (some (.ref a)) → ¬ MA mp vs a))) →
      Ok S B Lx env3 σ H' ∧ Step B env2 σ H1 env3 σ H' ∧ ∀ a, Av B Lx env3 σ a → Av B Lx env2 σ a := fun Lx hx1 hx2 hx3 hms env3 ⟨hle, h3⟩ => by
    have own_with : ∀ {c : Cell} {d : D}, c.own = true → (c.with d).own = true := fun {c d} h => by cases c <;> first | rfl | cases h
    have hsub : ∀ a, Ow B env3 σ a → Ow B env2 σ a := fun a z => z.elim .inl fun ⟨i, c', g1, g2, g3⟩ => by
      rcases h3 i c' g1 with ⟨b, c0, d0, k1, k2, k3, k4, k5, _⟩ | ⟨k1, _⟩
      · exact .inr ⟨i, c0, k3, k4, g3⟩
      · exact .inr ⟨i, c', k1, g2, g3⟩
    have w : ∀ a, Av B Lx env3 σ a → Av B Lx env2 σ a := fun a z => z.elim .inl fun y => .inr (hsub a y)
    have kp : Kp (Av B L env2 σ) (Av B Lx env3 σ) H1 H' := kpG _ fun a z => z.elim (fun y => (hx2 a y).imp .inl id) fun y => .inl (.inr (hsub a y))
    refine ⟨⟨by rw [hle]; exact ok2.len, fun i c' g1 => ?_, fun i j c c' a g1 g2 g3 g4 g5 g6 => ?_, fun a z y => ?_, hx3, hbag, fun i c a g1 g2 g3 => ?_⟩, ⟨fun a o g1 g2 => r.e a o g1 (fun z => g2 (hMo a z)) fun z => g2 (.inl (hxV a z)), fun a z => .inl (hsub a z), fun i d' g1 => ?_, fun i d' g1 => ?_, r.al⟩, w⟩
    · rcases h3 i c' g1 with ⟨a, c0, d0, k1, k2, k3, k4, k5, k6⟩ | ⟨k1, k2⟩
      · refine ⟨_, k1, ?_⟩
        obtain ⟨d1, k7, k8⟩ := hms a k2
        rw [k6] at k7
        cases k7
        subst k5
        cases c0 with
        | o x => exact ⟨a, rfl, k8.weak w⟩
        | m x => exact ⟨a, rfl, k8.weak w⟩
        | s x => cases k4
        | b x => cases k4
      · obtain ⟨u, hu, z⟩ := ok2.at_ i c' k1
        refine ⟨u, hu, ?_⟩
        cases c' with
        | s x => exact RD.mono kp z
        | o x => obtain ⟨q, e, y⟩ := z; exact ⟨q, e, y.mono kp fun o g => r.e q o g (k2 rfl q (by rw [hu, e])) fun z => ok2.dv i _ q k1 rfl (by rw [hu, e]) (hxV q z)⟩
        | m x => obtain ⟨q, e, y⟩ := z; exact ⟨q, e, y.mono kp fun o g => r.e q o g (k2 rfl q (by rw [hu, e])) fun z => ok2.dv i _ q k1 rfl (by rw [hu, e]) (hxV q z)⟩
        | b x =>
          rcases z with z | ⟨q, e, l, y⟩
          · exact .inl (RD.mono kp z)
          · have nq : ¬ MA mp vs q := fun z => ok2.sep q (hMo q z) l
            have nv : ¬ Bx.V q := fun z => ok2.sep q (.inl (hxV q z)) l
            refine .inr ⟨q, e, hx1 q l, y.mono kp (fun u g => ?_) (fun C dx fs g => r.e q _ g nq nv) fun xs g => r.e q _ g nq nv⟩
            rcases g with g | ⟨ob, g⟩
            · exact .inl (r.e q _ g nq nv)
            · exact .inr ⟨ob, r.e q _ g nq nv⟩
    · have sub1 : ∀ {i : Nat} {c : Cell} {a : Addr}, env3[i]? = some (some c) → c.own = true → ∃ c0 : Cell, env2[i]? = some (some c0) ∧ c0.own = true := fun {i c a} g1 g2 => by
        rcases h3 i c g1 with ⟨b, c0, d0, k1, k2, k3, k4, k5, _⟩ | ⟨k1, _⟩
        · exact ⟨c0, k3, k4⟩
        · exact ⟨c, k1, g2⟩
      obtain ⟨c0, k1, k2⟩ := sub1 (a := a) g1 g2
      obtain ⟨c1, k3, k4⟩ := sub1 (a := a) g3 g4
      exact ok2.inj i j c0 c1 a k1 k2 k3 k4 g5 g6
    · rcases hx2 a y with y | y
      · exact ok2.sep a (hsub a z) y
      · obtain ⟨o, ho, _⟩ := ok2.ow (hsub a z)
        rw [y] at ho
        cases ho
    · rcases h3 i c g1 with ⟨b, c0, d0, k1, k2, k3, k4, k5, _⟩ | ⟨k1, _⟩
      · exact ok2.dv i c0 a k3 k4 g3
      · exact ok2.dv i c a k1 g2 g3
    · rcases h3 i _ g1 with ⟨b, c0, d0, k1, k2, k3, k4, k5, _⟩ | ⟨k1, _⟩
      · cases c0 with
        | m x => exact ⟨⟨x, k3⟩, rfl⟩
        | o x => cases k5
        | s x => cases k5
        | b x => cases k5
      · exact ⟨⟨_, k1⟩, rfl⟩
    · rcases h3 i _ g1 with ⟨b, c0, d0, k1, k2, k3, k4, k5, _⟩ | ⟨k1, _⟩
      · cases c0 with
        | b x => cases k4
        | m x => cases k5
        | o x => cases k5
        | s x => cases k5
      · exact ⟨k1, rfl⟩
  have hset : ∃ env3, k (if fr = true then .f d else .s d) env3 ∧ (env3.length = env2.length ∧ ∀ (i : Nat) (c' : Cell), env3[i]? = some (some c') → (∃ a c0 d0, σ[i]? = some (some (.ref a)) ∧ MA mp vs a ∧ env2[i]? = some (some c0) ∧ c0.own = true ∧ c' = c0.with d0 ∧ md = some d0) ∨ (env2[i]? = some (some c') ∧ (c'.own = true → ∀ a, σ[i]? = some (some (.ref a)) → ¬ MA mp vs a))) := by
    rcases h00 with e | ⟨e, hl⟩
    · subst e
      exact ⟨env2, hkk, rfl, fun i c' g => .inr ⟨g, fun _ a _ ⟨j, ej, _⟩ => nomatch ej⟩⟩
    · subst e
      have hkk : (match avs[0]?, md with | some (AV.r i), some x => ownAt env2 i fun c => k (if fr = true then .f d else .s d) (env2.set i (some (c.with x))) | _, _ => False) := hkk
      split at hkk
      · rename_i n x e1 e3
        obtain ⟨c, ec, eo, hkk⟩ := ownAt_of hkk
        obtain ⟨p, hp, _⟩ := ok2.ownd ec eo
        have hl0 : 0 < vs.length := by rw [args.lv]; exact hl
        have hv0 := List.getElem?_eq_getElem hl0
        have va : σ[n]? = some (some vs[0]) := vlas_at l2 hv0 e1
        have hma : MA (some 0) vs p := ⟨0, rfl, by rw [hv0, ← Option.some.inj (Option.some.inj (va.symm.trans hp))]⟩
        refine ⟨_, hkk, by rw [List.length_set], fun i c' g => ?_⟩
        rcases get_set g with ⟨g1, g2, _⟩ | ⟨g1, g2⟩
        · cases g2
          subst g1
          exact .inl ⟨p, c, x, hp, hma, ec, eo, rfl, rfl⟩
        · refine .inr ⟨g2, fun go a ga hm2 => ?_⟩
          obtain ⟨n', c2, _, q1, q2, q3, q4, _⟩ := hMa a hm2
          rw [e1] at q1
          cases q1
          exact g1 (ok2.inj i n c' c a g2 go ec eo ga q4)
      · exact hkk.elim
  obtain ⟨env3, hkk, h3⟩ := hset
  have st12 := st1.trans st2
  have hLk : ∀ a, L a → H' a ≠ none := fun a z y => ok2.al a z (r.al a y)
  cases fr with
  | true =>
    obtain ⟨p, rfl, hn, ow, hms⟩ := r.r
    have eW : ∀ a, Av B (La L p) env2 σ a ↔ La (Av B L env2 σ) p a := fun a => ⟨fun z => z.elim (fun y => y.elim (fun q => .inl (.inl q)) .inr) fun y => .inl (.inr y), fun z => z.elim (fun y => y.elim (fun q => .inl (.inl q)) .inr) fun y => .inl (.inr y)⟩
    have eW' : Av B (La L p) env2 σ = La (Av B L env2 σ) p := funext fun a => propext (eW a)
    obtain ⟨o3, s3, w3⟩ := keyG (La L p) (fun _ z => .inl z) (fun a z => z.elim .inl fun e => .inr (by rw [e]; exact hn)) (fun a z => z.elim (hLk a) fun e => by
      rw [e]
      obtain ⟨o, ho, _⟩ := ow.mut
      rw [ho]
      exact fun z => nomatch z) (by rw [eW']; exact hms) env3 h3
    exact hk _ _ _ _ hkk ⟨st12.trans s3, p, rfl, st12.al p hn, o3, ow.weak fun a z => (eW a).mp (w3 a z)⟩
  | false =>
    obtain ⟨rd, hms⟩ := r.r
    obtain ⟨o3, s3, w3⟩ := keyG L (fun _ z => z) (fun a z => .inl z) hLk hms env3 h3
    exact hk _ _ _ _ hkk ⟨st12.trans s3, o3, rd.weak w3⟩
/-- of a plain def -/
theorem lf_callP {mp : Option Nat} {ms : List Bool} {f : DSp} {ta : TA} {da : TDA} {X : XK} (ha : LfA S B ta da) (h00 : mp = none ∨ (mp = some 0 ∧ 0 < ms.length) := by first | exact .inl rfl | exact .inr ⟨rfl, by decide⟩) : LfE S B (tCall (spD S plain mp ms f) [] X ta) (dCall mp ms f da) :=
  lf_call noVol (.inl rfl) (fun _ _ h => ⟨rfl, h⟩) ha h00
/-- of a def that draws from the bag -/
def drawn (B : Vol) (f : DSp) : DSp := fun ds k => baggy B ds ∧ f ds k
theorem lf_callV {mp : Option Nat} {ms : List Bool} {f : DSp} {ta : TA} {da : TDA} {X : XK} (ha : LfA S B ta da) (h00 : mp = none ∨ (mp = some 0 ∧ 0 < ms.length) := by first | exact .inl rfl | exact .inr ⟨rfl, by decide⟩) : LfE S B (tCall (spD S baggy mp ms f) [] X ta) (dCall mp ms (drawn B f) da) :=
  lf_call B (.inr rfl) (fun _ _ h => h) ha h00
end
end Dl
/-! DLB: more rules, the written part told. -/
namespace Dl
open PySem L2

/-! ### rules that tell K -/
section
variable {K : PySem.W.Frag} {X : Cx}
theorem ixK (h : X.K = K) : IxR X (rIx K) := by subst h; exact ix_seq
theorem slTK' (h : X.K = K) : SlR X (rSlA K) := by subst h; exact sl_tupA
theorem slLK (h : X.K = K) : SlR X (rSlL K) := by subst h; exact sl_list
theorem eqK (h : X.K = K) (hu : X.A.units + 64 < cLine) : OpR X (compareOp .Eq) (rEqD K) := by subst h; exact op_eqD hu
theorem neK (h : X.K = K) (hu : X.A.units + 64 < cLine) : OpR X (compareOp .NotEq) (rNeD K) := by subst h; exact op_neD hu
theorem inLK (h : X.K = K) (hu : X.A.units + 65 < cLine) : OpR X (compareOp .In) (rInD K) := by subst h; exact op_inD hu
theorem niLK (h : X.K = K) (hu : X.A.units + 65 < cLine) : OpR X (compareOp .NotIn) (rNotInD K) := by subst h; exact op_notInD hu
theorem inTK (h : X.K = K) (hu : X.A.units + 65 < cLine) : OpR X (compareOp .In) (Lk.rInQ K) := by subst h; exact Lk.op_inQ hu
theorem niTK (h : X.K = K) (hu : X.A.units + 65 < cLine) : OpR X (compareOp .NotIn) (Lk.rNotInQ K) := by subst h; exact Lk.op_notInQ hu
theorem catTK (h : X.K = K) : OpR X (binaryOp .Add) (rCatA K) := by subst h; exact op_catA
theorem repTK (h : X.K = K) : OpR X (binaryOp .Mult) (rRepT K) := by subst h; exact op_repT
theorem lenK' (h : X.K = K) : CallR X (.builtin "len") (fun xs H Q => ∃ p ys, xs = [.ref p] ∧ (SqL K H p ys ∨ SqT K H p ys) ∧ Q (.int ys.length) H) := by subst h; exact call_len_seq
theorem listK (h : X.K = K) : CallR X (.type "list") (fun xs H Q => ∃ p ys, xs = [.ref p] ∧ (SqL K H p ys ∨ SqT K H p ys) ∧ ∀ l, H l = none → Q (.ref l) (upd H l (.lst ys))) := by subst h; exact call_list_of
theorem tupK (h : X.K = K) : CallR X (.type "tuple") (fun xs H Q => ∃ p ys, xs = [.ref p] ∧ ((SqL K H p ys ∧ ∀ l, H l = none → Q (.ref l) (upd H l (.tup ys))) ∨ (SqT K H p ys ∧ Q (.ref p) H))) := by subst h; exact call_tuple_of
theorem sumK (h : X.K = K) (hc : X.calm = true) : CallR X (.builtin "sum") (rSum K) := by subst h; exact cr_sum hc
theorem allK (h : X.K = K) (hc : X.calm = true) : CallR X (.builtin "all") (rAll K) := by subst h; exact cr_all hc
theorem anyK (h : X.K = K) (hc : X.calm = true) : CallR X (.builtin "any") (rAny K) := by subst h; exact cr_any hc
theorem isiK (h : X.K = K) : CallR X (.builtin "isinstance") (rIsi K) := by subst h; exact call_isi
theorem sortIK (h : X.K = K) : CallR X (.builtin "sorted") (rSortedI K) := by subst h; exact cr_sortedI
theorem sortPK (h : X.K = K) : CallR X (.builtin "sorted") (rSortedPO K) := by subst h; exact cr_sortedPO
theorem ps_may {X : Cx} {st : Stmt} {t : TS} (h : PS X st t) : PS X st (fun D σ H => tLock t D σ H ∨ t D σ H) := ⟨fun pins s σ H D I z => z.elim ((ps_lock h).run pins s σ H D I) (h.run pins s σ H D I)⟩
theorem pe_may {X : Cx} {e : Expr} {t : TE} (h : PE X e t) : PE X e (fun σ H Q => tLockE t σ H Q ∨ t σ H Q) := ⟨fun pins s σ H Q I z => z.elim ((pe_lock h).run pins s σ H Q I) (h.run pins s σ H Q I)⟩
end

section
variable {S : Sys} {B : Vol} {L : As} {env env' : Env} {σ σ' : St} {H H' : Hp}
/-! ### isinstance -/
def OwnCls (K : PySem.W.Frag) (C : Addr) : Prop := (∀ (H : Hp) (p dx : Addr) (fs : List (Str × V)), H p = some (.ins C dx fs) → TyX K H (.ref p) (.ref C)) ∧ PySem.W.kitOne K (.ref C) (.ref C) = some true
def fIsi1 (Cs : Addr → Prop) : Fn := fun as k => match as with
  | [a, .ty n] => match a.tn with
    | some t => ∃ r, kitB t n = some r ∧ k (.s (.bl r))
    | none => False
  | [.ins C _, .glob C'] => C = C' ∧ Cs C ∧ k (.s (.bl true))
  | _ => False
theorem cl_isi {K : PySem.W.Frag} {Cs : Addr → Prop} (hC : ∀ C, Cs C → OwnCls K C) (hK : S.K = K := by rfl) : CaL S B (rIsi K) (fIsi1 Cs) := by
  subst hK
  exact fun L env σ H Q xs as k ok hx h q => by
    match as, h with
    | [a, .ty n], h =>
      obtain ⟨v, u, rfl, hv, hu⟩ := hx.two
      rw [hu.ty]
      have h : (match a.tn with | some t => ∃ r, kitB t n = some r ∧ k (.s (.bl r)) | none => False) := by
        cases a <;> exact h
      split at h
      · rename_i t e
        obtain ⟨r, hr, h⟩ := h
        exact ⟨v, .ty n, .type t, .type n, r, rfl, .ty n, hv.tyx e, kit_ty hr, q _ _ _ h (post_s ok (.bl _))⟩
      · exact h.elim
    | [.ins C fs, .glob C'], h =>
      obtain ⟨v, u, rfl, hv, hu⟩ := hx.two
      rw [hu.glob]
      obtain ⟨rfl, hCs, h⟩ := h
      obtain ⟨p, dx, vs, rfl, h1, _⟩ := hv.ins
      obtain ⟨o1, o2⟩ := hC C hCs
      exact ⟨_, _, .ref C, .ref C, true, rfl, .own C, o1 H p dx vs h1, o2, q _ _ _ h (post_s ok (.bl _))⟩

/-! ### sorted, lists and tuples of dicts -/
def fSortI : Fn := fun as k => match as with
  | [.lst ds] => ob (nums ds) fun ns => ∀ ns' : List Int, ns'.Perm ns → ns'.Pairwise (· ≤ ·) → k (.f (.lst (ns'.map .int)))
  | _ => False
theorem cl_sortI {K : PySem.W.Frag} (hK : S.K = K := by rfl) : CaL S B (rSortedI K) fSortI := by
  subst hK
  exact fun L env σ H Q xs as k ok hx h q => by
    match as, h with
    | [.lst ds], h =>
      obtain ⟨v, rfl, hv⟩ := hx.one
      obtain ⟨ns, e, h⟩ := ob_of h
      obtain ⟨p, vs, rfl, hs, r⟩ := hv.lst
      have e2 := r.nums e
      subst e2
      exact ⟨p, ns, rfl, SqL.of hs, fun ns' p' h1 h2 hp => q _ _ _ (h ns' h1 h2) (post_lst ok hp (rds_nums ns'))⟩
/-- the int keys of a dict -/
def intK : List Key → Option (List Int)
  | [] => some []
  | .inl i :: ks => (intK ks).map (i :: ·)
  | _ => none
theorem intK_of : ∀ {ks : List Key} {ns : List Int}, intK ks = some ns → ks = ns.map Sum.inl
  | [], _, e => by cases e; rfl
  | .inl i :: ks, ns, e => by
    obtain ⟨ms, e1, rfl⟩ := Option.map_eq_some_iff.mp (show (intK ks).map (i :: ·) = some ns from e)
    rw [intK_of e1]
    rfl
def fSortDK : Fn := fun as k => match as with
  | [.dK kds] => ob (intK (kds.map (·.1))) fun ns => ∀ ns' : List Int, ns'.Perm ns → ns'.Pairwise (· ≤ ·) → k (.f (.lst (ns'.map .int)))
  | _ => False
theorem cl_sortDK : CaL S B SoD.rSortDA fSortDK := fun L env σ H Q xs as k ok hx h q => by
  match as, h with
  | [.dK kds], h =>
    obtain ⟨v, rfl, hv⟩ := hx.one
    obtain ⟨ns, e, h⟩ := ob_of h
    obtain ⟨p, kvs, rfl, hs, hk, r⟩ := hv.dK
    exact ⟨p, kvs, ns, rfl, hs, hk.trans (intK_of e), fun ns' p' h1 h2 hp => q _ _ _ (h ns' h1 h2) (post_lst ok hp (rds_nums ns'))⟩
/-- a key as data -/
def ofKey : Key → D
  | .inl i => .int i
  | .inr x => .str x
theorem rd_key {A : As} {H : Hp} (k : Key) : RD S A H (kV k) (ofKey k) := by
  cases k with
  | inl i => exact .int i
  | inr x => exact .str x
theorem rds_keys {A : As} {H : Hp} : ∀ ks : List Key, RDs S A H (ks.map kV) (ks.map ofKey)
  | [] => .nil
  | k :: ks => .cons (rd_key k) (rds_keys ks)
def ofKeyT (k : List Key) : D := .tup (k.map ofKey)
theorem rds_isKeys {A : As} {H : Hp} : ∀ {kvs : List (List Key × V)} {bs : List Addr}, IsKeys H kvs bs → RDs S A H (bs.map V.ref) (kvs.map fun kv => ofKeyT kv.1)
  | [], [], _ => .nil
  | _ :: _, _ :: _, .cons h t => .cons (.tup h (rds_keys _)) (rds_isKeys t)
theorem map_fst {α β γ : Type} (f : α → γ) : ∀ {l : List (α × β)}, (l.map fun x => f x.1) = (l.map (·.1)).map f
  | [] => rfl
  | x :: l => by simp
def fListDT : Fn := fun as k => match as with
  | [.dT kds] => k (.f (.lst (kds.map fun kv => ofKeyT kv.1)))
  | _ => False
theorem cl_listDT : CaL S B (fun xs H Q => ∃ d kvs, xs = [V.ref d] ∧ Rd H d (.dT kvs) ∧ ∀ p bs, H p = none → IsKeys H kvs bs → Q (.ref p) (upd H p (.lst (bs.map V.ref)))) fListDT := fun L env σ H Q xs as k ok hx h q => by
  match as, h with
  | [.dT kds], h =>
    obtain ⟨v, rfl, hv⟩ := hx.one
    obtain ⟨p, kvs, rfl, hs, hk, r⟩ := hv.dT
    refine ⟨p, kvs, rfl, hs, fun p' bs hp hb => q _ _ _ h (post_lst ok hp ?_)⟩
    have := rds_isKeys (S := S) (A := Av B L env σ) hb
    rw [map_fst, hk] at this
    rw [map_fst]
    exact this
def fTupDT : Fn := fun as k => match as with
  | [.dT kds] => k (.s (.tup (kds.map fun kv => ofKeyT kv.1)))
  | _ => False
theorem cl_tupDT : CaL S B TpD.rTupD fTupDT := fun L env σ H Q xs as k ok hx h q => by
  match as, h with
  | [.dT kds], h =>
    obtain ⟨v, rfl, hv⟩ := hx.one
    obtain ⟨p, kvs, rfl, hs, hk, r⟩ := hv.dT
    refine ⟨p, kvs, rfl, hs, fun p' bs hp hb => q _ _ _ h (post_tup ok hp ?_)⟩
    have := rds_isKeys (S := S) (A := Av B L env σ) hb
    rw [map_fst, hk] at this
    rw [map_fst]
    exact this

/-! ### more walks -/
def dIR3 (ta : TDA) : TDI := fun env k => ta env fun as env1 => match gets env1 as with
  | some [.int i, .int j, .int c] => ∃ n, RgC i j c n ∧ k ((List.range n).map fun m : Nat => D.int (i + (m : Int) * c)) none env1
  | _ => False
theorem TVs.three {A : As} {H : Hp} {xs : List V} {a b c : D} (h : TVs S A H xs [a, b, c]) : ∃ v u w, xs = [v, u, w] ∧ TV S A H v a ∧ TV S A H u b ∧ TV S A H w c := by
  match xs, h with
  | [v, u, w], h => exact ⟨v, u, w, rfl, h.1, h.2.1, h.2.2.1⟩
theorem li_range3 {ta : TA} {da : TDA} (ha : LfA S B ta da) : LfI S B (iRng3 ta) (dIR3 da) := fun L env σ H R k ok h hk => by
  refine ha L env σ H _ _ ok h fun avs env1 vs H1 h1 ok1 st1 l1 => ?_
  split at h1
  · rename_i i j c e
    obtain ⟨v, u, w, rfl, hv, hu, hw⟩ := (l1.tvs ok1 e).three
    rw [hv.int, hu.int, hw.int]
    obtain ⟨n, hr, h1⟩ := h1
    refine ⟨i, j, c, n, rfl, hr, hk _ _ _ _ _ h1 ok1 st1 (fun _ z => nomatch z) ⟨n, _, _, by simp, walk_rangeC, fun A' H2 kp hp => ⟨trivial, fun m x H3 hm hy => ⟨D.int (i + (m : Int) * c), ?_, .inl ⟨hy.1, by rw [hy.2]; exact .int _⟩⟩⟩⟩⟩
    rw [List.getElem?_map, List.getElem?_range hm]
    rfl
  · exact h1.elim
/-- enumerate(t) -/
def enumD (i : Nat) : List D → List D
  | [] => []
  | d :: ds => .tup [.int i, d] :: enumD (i + 1) ds
theorem enumD_len : ∀ {ds : List D} {i : Nat}, (enumD i ds).length = ds.length
  | [], _ => rfl
  | _ :: ds, i => congrArg (· + 1) (enumD_len (ds := ds) (i := i + 1))
theorem enumD_at : ∀ {ds : List D} {i j : Nat} {d : D}, ds[j]? = some d → (enumD i ds)[j]? = some (.tup [.int ((i + j : Nat) : Int), d])
  | _ :: ds, i, 0, d, h => by cases h; rfl
  | _ :: ds, i, j + 1, d, h => by
    have := enumD_at (ds := ds) (i := i + 1) (j := j) (d := d) (by simpa using h)
    rw [show i + (j + 1) = i + 1 + j by omega]
    exact this
def dIE (ta : TDA) : TDI := fun env k => ta env fun as env1 => match gets env1 as with
  | some [.tup ds] => k (enumD 0 ds) none env1
  | _ => False
theorem li_enumT {K : PySem.W.Frag} {ta : TA} {da : TDA} (ha : LfA S B ta da) (hK : S.K = K := by rfl) : LfI S B (EnT.iEnumT K ta) (dIE da) := fun L env σ H R k ok h hk => by
  subst hK
  refine ha L env σ H _ _ ok h fun avs env1 vs H1 h1 ok1 st1 l1 => ?_
  split at h1
  · rename_i ds e
    obtain ⟨v, rfl, hv⟩ := (l1.tvs ok1 e).one
    obtain ⟨p, us, rfl, hs, r⟩ := hv.tup
    refine ⟨p, us, rfl, .inl (.inl hs), hk _ _ _ _ _ h1 ok1 st1 (fun _ z => nomatch z) ⟨us.length, _, _, by rw [enumD_len, r.len], EnT.walkE (K := S.K) (a := p) (xs := us), fun A' H2 kp hp => ⟨.inl (.inl (kp.u _ _ hs)), fun i x H3 hi hy => ?_⟩⟩⟩
    obtain ⟨T, x1, y1, rfl, hT, rfl, e1, e2⟩ := hy
    cases e1
    obtain ⟨d', e3, rd⟩ := r.at' e2
    refine ⟨_, enumD_at e3, .inr ⟨T, _, _, rfl, hT, rfl, rfl, ?_⟩⟩
    rw [Nat.zero_add]
    exact .cons (.int _) (.cons (rd.mono kp) .nil)
  · exact h1.elim
def dIRev (ta : TDA) : TDI := fun env k => ta env fun as env1 => match as with
  | [a] => srcOf env1 a fun d bw => ob (lsts d) fun ds => k ds.reverse bw env1
  | _ => False
theorem li_rev {K : PySem.W.Frag} {ta : TA} {da : TDA} (ha : LfA S B ta da) (hK : S.K = K := by rfl) : LfI S B (iRev K ta) (dIRev da) := fun L env σ H R k ok h hk => by
  refine ha L env σ H _ _ ok h fun avs env1 vs H1 h1 ok1 st1 l1 => ?_
  match avs, vs, h1, l1 with
  | [av], [v], h1, l1 =>
    obtain ⟨d, bw, e1, h1, hb⟩ := srcOf_get h1
    obtain ⟨ds, e2, h1⟩ := ob_of h1
    obtain ⟨hb, hbw⟩ := own_bw hb
    have lh : VlA S (Av B L env1 σ) σ H1 v av.hold := by
      have := l1.1
      cases av with
      | f d => exact (show False from this).elim
      | _ => exact this
    obtain ⟨p, us, rfl, hs, r, stay⟩ := src_lst hK ok1 lh (lsts_of e1 e2) hb
    refine ⟨p, us, rfl, hs, hk _ _ _ _ _ h1 ok1 st1 hbw ⟨us.length, _, _, by rw [List.length_reverse, r.len], walk_rev (K := K) (a := p) (xs := us), fun A' H2 kp hp => ⟨stay A' H2 kp hp, fun i x H3 hi hy => ?_⟩⟩⟩
    obtain ⟨rfl, hx⟩ := hy
    obtain ⟨d', e3, rd⟩ := r.at' hx
    refine ⟨d', ?_, .inl ⟨rfl, rd.mono kp⟩⟩
    rw [List.getElem?_reverse (by rw [← r.len]; exact hi), ← r.len]
    exact e3

/-! ### a number is drawn -/
def dPick (B : Vol) (ta : TDA) : TDE := fun env k => ta env fun as env1 => match gets env1 as with
  | some [.glob b, .int m] => (∃ g, B = bagVol b g) ∧ 0 < m ∧ m < 1073741824 ∧ ∀ r : Nat, (r : Int) < m → k (.s (.int r)) env1
  | _ => False
/-- only volatile things have changed -/
theorem Ok.vol (ok : Ok S B L env σ H) (e : ∀ a o, H a = some o → ¬ B.V a → H' a = some o) (hb : B.Bag H') (hn : ∀ a, H' a = none → H a = none) : Ok S B L env σ H' ∧ Step B env σ H env σ H' := by
  have st : Step B env σ H env σ H' := ⟨fun a o h1 h2 => e a o h1 fun z => h2 (.inl z), fun _ z => .inl z, fun _ _ z => ⟨⟨_, z⟩, rfl⟩, fun _ _ z => ⟨z, rfl⟩, hn⟩
  have kp := st.kp ok
  refine ⟨⟨ok.len, fun i c h => ?_, ok.inj, ok.sep, fun a z y => ok.al a z (hn a y), hb, ok.dv⟩, st⟩
  obtain ⟨v, h1, h2⟩ := ok.at_ i c h
  refine ⟨v, h1, ?_⟩
  cases c with
  | s d => exact RD.mono kp h2
  | o d => obtain ⟨q, eq, z⟩ := h2; exact ⟨q, eq, z.mono kp fun o g => e q o g (ok.dv i _ q h rfl (by rw [h1, eq]))⟩
  | m d => obtain ⟨q, eq, z⟩ := h2; exact ⟨q, eq, z.mono kp fun o g => e q o g (ok.dv i _ q h rfl (by rw [h1, eq]))⟩
  | b d =>
    rcases h2 with z | ⟨q, eq, l, z⟩
    · exact .inl (RD.mono kp z)
    · have nv : ¬ B.V q := fun w => ok.sep q (.inl w) l
      refine .inr ⟨q, eq, l, z.mono kp (fun u g => ?_) (fun C dx fs g => e q _ g nv) fun xs g => e q _ g nv⟩
      rcases g with g | ⟨ob, g⟩
      · exact .inl (e q _ g nv)
      · exact .inr ⟨ob, e q _ g nv⟩
/-- the promise of what draws a number (as its law's own text has it) -/
def spPick : Sp := fun vs H Q _ => ∃ (b g : Addr) (m : Nat), vs = [.ref b, Lk.nv m] ∧ 0 < m ∧ m < 1073741824 ∧ Lk.BagAt H b g ∧ ∀ (r : Nat) H', r < m → Lk.BagAt H' b g → Lk.Fb b g H H' → Q (Lk.nv r) H'
theorem lf_pick {sp : Sp} {ta : TA} {da : TDA} {X : XK} (hsp : ∀ vs H Q E, spPick vs H Q E → sp vs H Q E) (ha : LfA S B ta da) : LfE S B (tCall sp [] X ta) (dPick B da) := fun L env σ H Q k ok h hk => by
  refine ha L env σ H _ _ ok h fun avs env1 vs H1 h1 ok1 st1 l1 => ?_
  split at h1
  · rename_i b m e
    obtain ⟨v, u, rfl, hv, hu⟩ := (l1.tvs ok1 e).two
    obtain ⟨⟨g, eB⟩, hm0, hm1, h1⟩ := h1
    rw [hv.glob, hu.int]
    have hb := ok1.bag
    rw [eB] at hb
    refine hsp _ _ _ _ ⟨b, g, m.toNat, ?_, by omega, by omega, hb, fun r H' hr hb' f => ?_⟩
    · show [V.ref b, V.int m] ++ [] = [V.ref b, V.int ((m.toNat : Nat) : Int)]
      rw [show ((m.toNat : Nat) : Int) = m by omega]
      rfl
    · have hn : ∀ a, H' a = none → H1 a = none := fun a z => by
        by_cases e1 : a = b
        · obtain ⟨sd, c, al, gs, e2, _⟩ := id hb'
          rw [e1, e2] at z
          cases z
        · by_cases e2 : a = g
          · obtain ⟨sd, c, al, gs, _, e3, _⟩ := id hb'
            rw [e2, e3] at z
            cases z
          · cases q : H1 a with
            | none => rfl
            | some o => rw [f a o e1 e2 q] at z; cases z
      obtain ⟨ok2, st2⟩ := ok1.vol (H' := H') (fun a o g1 g2 => f a o (fun z => g2 (by rw [eB]; exact .inl z)) (fun z => g2 (by rw [eB]; exact .inr z)) g1) (by rw [eB]; exact hb') hn
      exact hk _ _ _ _ (h1 r (by omega)) ⟨st1.trans st2, ok2, .int _⟩
  · exact h1.elim
end
end Dl
/-! DLC: dict comprehensions. -/
namespace Dl
open PySem L2
theorem putD_len {κ : Type} [DecidableEq κ] (kds : List (κ × D)) (k : κ) (d : D) : (putD kds k d).length ≤ kds.length + 1 := by
  unfold putD
  split
  · rw [List.length_map]; omega
  · rw [List.length_append]; exact Nat.le_refl _
section
variable {S : Sys} {B : Vol} {L : As} {env env' : Env} {σ σ' : St} {H H' : Hp}

def dDcT (src : TDI) (g : TDG) (tt : TDT) (tk tv : TDE) (vs : List Nat) : TDE := fun env k => src env fun ds bw env1 => ds.length ≤ sizeLine ∧ ∃ I : Nat → List (List Key × D) → Env → Prop, I 0 [] (wipeE (bwE bw env1) vs) ∧
  (∀ (i : Nat) d acc envi, ds[i]? = some d → acc.length ≤ i → I i acc envi → g d envi fun env2 => tt env2 fun b env3 => IfB b (tk env3 fun ak env4 => tv env4 fun av env5 => ob (ak.get env5) fun kd => ob kd.keyT fun kk => shr env5 av fun x env6 => I (i + 1) (putD acc kk x) (wipeE env6 vs)) (I (i + 1) acc (wipeE env3 vs))) ∧
  ∀ acc envn, acc.length ≤ ds.length → I ds.length acc envn → ob (unb bw env1 (rest (bwE bw env1) envn vs)) fun env2 => k (.f (.dT acc)) env2
theorem dc_coreT {J : It} {ds : List D} {g : TG} {tt : TT} {tk tv : TE} {vs ts : List Nat} {dg : TDG} {dt : TDT} {dk dv : TDE} {I : Nat → List (List Key × D) → Env → Prop} {Q : VK} {k : List (List Key × D) → Env → Prop} (hg : LfG S B g dg ts) (hts : ∀ i ∈ ts, i ∈ vs) (ht : LfT S B tt dt) (hke : LfE S B tk dk) (he : LfE S B tv dv) (ok : Ok S B L env σ H) (src : Src S (Av B L env σ) L H J ds) (hl : ds.length ≤ sizeLine)
    (h0 : I 0 [] (wipeE env vs)) (hs : ∀ (i : Nat) d acc envi, ds[i]? = some d → acc.length ≤ i → I i acc envi → dg d envi fun env2 => dt env2 fun b env3 => IfB b (dk env3 fun ak env4 => dv env4 fun av env5 => ob (ak.get env5) fun kd => ob kd.keyT fun kk => shr env5 av fun x env6 => I (i + 1) (putD acc kk x) (wipeE env6 vs)) (I (i + 1) acc (wipeE env3 vs)))
    (hd : ∀ acc envn, acc.length ≤ ds.length → I ds.length acc envn → k acc (Dl.rest env envn vs)) (hk : ∀ acc env2 p Hn, k acc env2 → H p = none → Ok S B (La L p) env2 σ Hn → Step B env σ H env2 σ Hn → Own S (Av B (La L p) env2 σ) Hn p (.dT acc) → Q (.ref p) Hn) :
    ∀ D, H D = none → ∃ Wl : Nat → Nat → Hp → Prop, (∃ m, Wl 0 m (upd H D (.dT []))) ∧ ∀ i m H, Wl i m H →
      (J.stop i H ∧ Q (.ref D) H) ∨ (J.go i H ∧ ∃ Nx : Hp → Prop, (∀ H', Nx H' → ∃ m', m' < m ∧ Wl (i + 1) m' H') ∧ ∀ x H', J.yld i H x H' → g x (L2.wipe σ vs) H' fun σ2 H2 => L2.wipe σ2 vs = L2.wipe σ vs ∧ tt σ2 H2 fun b H3 =>
        if b = true then tk σ2 H3 fun y H4 => tv σ2 H4 fun z H5 => ∃ H6, DPut H5 D y z H6 ∧ Nx H6 else Nx H3) := by
  intro D hD
  obtain ⟨n, G, Y, en, wk, stb⟩ := src
  have okD : Ok S B (La L D) env σ (upd H D (.dT [])) := ok.new hD
  have stD : Step B env σ H env σ (upd H D (.dT [])) := step_new hD
  obtain ⟨okw, stw⟩ := okD.wipe vs
  have st0 := stD.trans stw
  have stab : ∀ {envi H2}, Ok S B (La L D) envi (L2.wipe σ vs) H2 → Step B env σ H envi (L2.wipe σ vs) H2 → G H2 ∧ ∀ (i : Nat) x H3, i < n → Y i H2 x H3 → ∃ d, ds[i]? = some d ∧ Item S (Av B (La L D) envi (L2.wipe σ vs)) H2 x H3 d := fun {envi H2} o2 s2 => stb _ H2 (kp_step ok s2 hD) fun p o hp h1 => s2.e p o h1 fun z => ok.sep p z hp
  refine DcG.dg_it wk (fun i H2 => ∃ acc envi us, I i acc envi ∧ acc.length ≤ i ∧ Ok S B (La L D) envi (L2.wipe σ vs) H2 ∧ Step B env σ H envi (L2.wipe σ vs) H2 ∧ H2 D = some (.dT us) ∧ us.map (·.1) = acc.map (·.1) ∧ RDs S (Av B (La L D) envi (L2.wipe σ vs)) H2 (us.map (·.2)) (acc.map (·.2))) ⟨[], _, [], h0, Nat.le_refl _, okw, st0, upd_same, rfl, .nil⟩ (fun i H2 _ z => ?_) (fun i x H2 H3 hi z hy => ?_) (fun H2 z => ?_)
  · obtain ⟨acc, envi, us, _, _, o2, s2, _⟩ := z
    exact (stab o2 s2).1
  · obtain ⟨acc, envi, us, hI, ha, o2, s2, eD, rK, rA⟩ := z
    obtain ⟨d, hd2, it⟩ := (stab o2 s2).2 i x H3 hi hy
    obtain ⟨o3, s3, rd⟩ := it.ok o2
    refine hg _ envi _ H3 x d _ _ o3 rd (hs i d acc envi hd2 ha hI) fun env4 σ4 h4 o4 s4 f4 => ⟨off_wipe f4 hts, ?_⟩
    refine ht _ env4 σ4 H3 _ _ o4 h4 fun b env5 H5 h5 o5 s5 => ?_
    have s25 := s3.trans (s4.trans s5)
    have ewp : L2.wipe σ4 vs = L2.wipe σ vs := off_wipe f4 hts
    have eD5 : H5 D = some (.dT us) := s25.e D _ eD fun z => o2.sep D z (.inr rfl)
    cases b with
    | false =>
      (replace h5 := h5.f rfl; simp only [Bool.false_eq_true, if_false])
      obtain ⟨o6, s6⟩ := o5.wipe vs
      rw [ewp] at o6 s6
      exact ⟨acc, _, us, h5, Nat.le_succ_of_le ha, o6, s2.trans (s25.trans s6), eD5, rK, rA.step o2 (s25.trans s6)⟩
    | true =>
      (replace h5 := h5.t rfl; simp only [if_true])
      refine hke _ env5 σ4 H5 _ _ o5 h5 fun ak env6 yk Hk hk6 pk => ?_
      obtain ⟨ok6, sk6, fink⟩ := pk.held o5
      refine he _ env6 σ4 Hk _ _ ok6 hk6 fun av env7 y H6 h6 p6 => ?_
      obtain ⟨o6', s6, l6'⟩ := p6.vl ok6
      obtain ⟨o6, lk6, w6⟩ := fink env7 H6 o6' s6
      have l6 := l6'.weak w6
      obtain ⟨kd, e1, h6⟩ := ob_of h6
      obtain ⟨kk, e2, h6⟩ := ob_of h6
      have tk6 := lk6.tv o6 (by rw [AV.get_hold]; exact e1)
      obtain ⟨xd, env8, h7, o7, s7, r7⟩ := l6.shr o6 h6
      have s27 := s25.trans ((sk6.trans s6).trans s7)
      have eD6 : H6 D = some (.dT us) := (sk6.trans s6).e D _ eD5 fun z => o5.sep D z (.inr rfl)
      have rA7 := rA.step o2 s27
      obtain ⟨o8, s8⟩ := o7.wipe vs
      rw [ewp] at o8 s8
      have hnD : ¬ Ow B (wipeE env8 vs) (L2.wipe σ vs) D := fun z => o8.sep D z (.inr rfl)
      have rA8 := rA7.step o7 s8
      have r8 : RD S (Av B (La L D) (wipeE env8 vs) (L2.wipe σ vs)) H6 y xd := RD.step o7 s8 r7
      have hu : us.length < sizeLine := by
        rw [keys_len rK]
        omega
      obtain ⟨q1, q2⟩ := put_rds (k := kk) r8 rK rA8
      have kp : Kp (Av B (La L D) (wipeE env8 vs) (L2.wipe σ vs)) (Av B (La L D) (wipeE env8 vs) (L2.wipe σ vs)) H6 (upd H6 D (.dT (putK us kk y))) := kp_own (.inl (.inr rfl)) ⟨_, eD6, trivial⟩
      have o9 : Ok S B (La L D) (wipeE env8 vs) (L2.wipe σ vs) (upd H6 D (.dT (putK us kk y))) := by
        refine ⟨o8.len, fun k c hc => ?_, o8.inj, o8.sep, fun a z => ?_, B.stab H6 _ (fun a o' va h => by rw [upd_ne (fun e => hnD (.inl (by rw [← e]; exact va)))]; exact h) o8.bag, o8.dv⟩
        · obtain ⟨u, hu, z⟩ := o8.at_ k c hc
          refine ⟨u, hu, ?_⟩
          cases c with
          | s d0 => exact RD.mono kp z
          | o d0 => obtain ⟨q, e, y⟩ := z; exact ⟨q, e, y.mono kp fun o ho => by rw [upd_ne (fun e3 => hnD (.inr ⟨k, _, hc, rfl, by rw [hu, e, e3]⟩))]; exact ho⟩
          | m d0 => obtain ⟨q, e, y⟩ := z; exact ⟨q, e, y.mono kp fun o ho => by rw [upd_ne (fun e3 => hnD (.inr ⟨k, _, hc, rfl, by rw [hu, e, e3]⟩))]; exact ho⟩
          | b d0 =>
            rcases z with z | ⟨q, e, l, y⟩
            · exact .inl (RD.mono kp z)
            · by_cases hq : q = D
              · subst hq
                have sAll := s2.trans (s27.trans s8)
                have r0 := sAll.b k d0 hc
                have hu2 : (L2.wipe σ vs)[k]? = some (some (.ref q)) := by rw [hu, e]
                rw [r0.2] at hu2
                rcases ok.slot r0.1 hu2 with z | ⟨q', e', l', _⟩
                · exact .inl (by rw [e]; exact (z.mono (kp_step ok sAll hD)).mono kp)
                · cases e'
                  exact (ok.al _ l' hD).elim
              · refine .inr ⟨q, e, l, y.mono kp (fun u hu => ?_) (fun C dx fs hu => by rw [upd_ne hq]; exact hu) fun xs hu => by rw [upd_ne hq]; exact hu⟩
                rcases hu with hu | ⟨ob, hu⟩
                · exact .inl (by rw [upd_ne hq]; exact hu)
                · exact .inr ⟨ob, by rw [upd_ne hq]; exact hu⟩
        · by_cases e : a = D
          · subst e; rw [upd_same]; exact fun z => nomatch z
          · rw [upd_ne e]; exact o8.al a z
      have fin : ∃ acc envi us_1, I (i + 1) acc envi ∧ acc.length ≤ i + 1 ∧ Ok S B (La L D) envi (L2.wipe σ vs) (upd H6 D (.dT (putK us kk y))) ∧ Step B env σ H envi (L2.wipe σ vs) (upd H6 D (.dT (putK us kk y))) ∧ (upd H6 D (.dT (putK us kk y))) D = some (.dT us_1) ∧ us_1.map (·.1) = acc.map (·.1) ∧ RDs S (Av B (La L D) envi (L2.wipe σ vs)) (upd H6 D (.dT (putK us kk y))) (us_1.map (·.2)) (acc.map (·.2)) := by
        refine ⟨putD acc kk xd, _, putK us kk y, h7, Nat.le_trans (putD_len acc kk xd) (Nat.add_le_add_right ha 1), o9, ?_, upd_same, q1, q2.mono kp⟩
        have sAll := s2.trans (s27.trans s8)
        refine ⟨fun a o h1 h2 => ?_, sAll.n, sAll.m, sAll.b, fun a h1 => ?_⟩
        · have ne : a ≠ D := ne_of_none h1 hD
          rw [upd_ne ne]
          exact sAll.e a o h1 h2
        · by_cases e : a = D
          · rw [e]; exact hD
          · rw [upd_ne e] at h1; exact sAll.al a h1
      obtain ⟨bb, eb, hb⟩ := tk6.keyT e2
      subst eb
      exact ⟨_, DPut.t eD6 hb hu, fin⟩
  · obtain ⟨acc, envi, us, hI, ha, o2, s2, eD, rK, rA⟩ := z
    rw [en] at hI ha
    obtain ⟨o3, s3⟩ := ok.rest (vs := vs) hD o2 s2
    refine hk acc _ D H2 (hd acc envi ha hI) hD o3 s3 ⟨us, eD, rK, rA.weak fun a z => z.elim .inl fun y => .inr ?_⟩
    rcases y with y | ⟨k, c, h1, h2, h3⟩
    · exact .inl y
    rcases rest_get h1 with ⟨_, d, e, _⟩ | ⟨m, h4⟩
    · rw [e] at h2; cases h2
    · exact .inr ⟨k, c, h4, h2, by rw [wipe_ne m]; exact h3⟩
theorem lf_dcT {wi : TI} {g : TG} {tt : TT} {tk tv : TE} {vs ts : List Nat} {src : TDI} {dg : TDG} {dt : TDT} {dk dv : TDE} (hi : LfI S B wi src) (hg : LfG S B g dg ts) (ht : LfT S B tt dt) (hke : LfE S B tk dk) (he : LfE S B tv dv) (hts : ∀ i ∈ ts, i ∈ vs := by decide) : LfE S B (DcG.tDg (.dT []) wi g tt tk tv vs) (dDcT src dg dt dk dv vs) := fun L env σ H Q k ok h hk => by
  refine hi L env σ H _ _ ok h fun ds bw env1 H1 J h1 ok1 st1 hbw sr => ?_
  obtain ⟨hl, I, h0, hs, hd⟩ := h1
  cases bw with
  | none =>
    refine dc_coreT (k := fun acc env2 => k (.f (.dT acc)) env2) hg hts ht hke he ok1 (sr.pre (fun _ z => z) fun a z => z.elim id fun ⟨_, e, _⟩ => nomatch e) hl h0 hs (fun acc envn ha hI => hd acc envn ha hI) fun acc env2 p Hn hkk hp ok2 st2 w => ?_
    exact hk _ _ _ _ hkk ⟨st1.trans st2, p, rfl, st1.al p hp, ok2, w⟩
  | some i =>
    obtain ⟨c, hi, hc⟩ := hbw i rfl
    obtain ⟨p, hv, _⟩ := ok1.ownd hi hc
    have e1 : bwE (some i) env1 = env1.set i (some (.b c.d)) := by
      show (match env1[i]? with | some (some c) => env1.set i (some (.b c.d)) | _ => env1) = _
      rw [hi]
    rw [e1] at h0 hd
    have okb := ok1.bor hi hc hv
    refine dc_coreT (k := fun acc env2 => ob (unb (some i) env1 env2) fun env3 => k (.f (.dT acc)) env3) hg hts ht hke he okb (sr.pre (fun a z => ?_) fun a z => z.elim .inl fun ⟨j, e, e2⟩ => ?_) hl h0 hs (fun acc envn ha hI => hd acc envn ha hI) fun acc env2 D Hn hkk hp ok2 st2 w => ?_
    · rcases z with (z | rfl) | z | ⟨k, c', g1, g2, g3⟩
      · exact .inl z
      · exact .inr (.inr ⟨i, c, hi, hc, hv⟩)
      · exact .inr (.inl z)
      · rcases get_set g1 with ⟨_, e, _⟩ | ⟨_, g4⟩
        · cases e; cases g2
        · exact .inr (.inr ⟨k, c', g4, g2, g3⟩)
    · cases e
      rw [hv] at e2
      cases e2
      exact .inr rfl
    · obtain ⟨env3, hu, hkk⟩ := ob_of hkk
      have sw : ∀ a, La (La L D) p a ↔ La (La L p) D a := fun a => ⟨fun z => z.elim (fun z => z.elim (fun y => .inl (.inl y)) .inr) fun y => .inl (.inr y), fun z => z.elim (fun z => z.elim (fun y => .inl (.inl y)) .inr) fun y => .inl (.inr y)⟩
      obtain ⟨o3, s3, w3⟩ := ok1.back hi hc hv hu (L' := La L D) (fun _ z => .inl z) (fun a z => z.elim .inl fun e => .inr (by rw [e]; exact hp)) (ok2.iff sw) st2
      refine hk _ _ _ _ hkk ⟨st1.trans s3, D, rfl, st1.al D hp, o3, w.weak fun a z => ?_⟩
      rcases w3 a z with y | y
      · exact .inl ((sw a).mp y)
      · exact .inr y

def dDcK (src : TDI) (g : TDG) (tt : TDT) (tk tv : TDE) (vs : List Nat) : TDE := fun env k => src env fun ds bw env1 => ds.length ≤ sizeLine ∧ ∃ I : Nat → List (Key × D) → Env → Prop, I 0 [] (wipeE (bwE bw env1) vs) ∧
  (∀ (i : Nat) d acc envi, ds[i]? = some d → acc.length ≤ i → I i acc envi → g d envi fun env2 => tt env2 fun b env3 => IfB b (tk env3 fun ak env4 => tv env4 fun av env5 => ob (ak.get env5) fun kd => ob kd.key fun kk => shr env5 av fun x env6 => I (i + 1) (putD acc kk x) (wipeE env6 vs)) (I (i + 1) acc (wipeE env3 vs))) ∧
  ∀ acc envn, acc.length ≤ ds.length → I ds.length acc envn → ob (unb bw env1 (rest (bwE bw env1) envn vs)) fun env2 => k (.f (.dK acc)) env2
theorem dc_coreK {J : It} {ds : List D} {g : TG} {tt : TT} {tk tv : TE} {vs ts : List Nat} {dg : TDG} {dt : TDT} {dk dv : TDE} {I : Nat → List (Key × D) → Env → Prop} {Q : VK} {k : List (Key × D) → Env → Prop} (hg : LfG S B g dg ts) (hts : ∀ i ∈ ts, i ∈ vs) (ht : LfT S B tt dt) (hke : LfE S B tk dk) (he : LfE S B tv dv) (ok : Ok S B L env σ H) (src : Src S (Av B L env σ) L H J ds) (hl : ds.length ≤ sizeLine)
    (h0 : I 0 [] (wipeE env vs)) (hs : ∀ (i : Nat) d acc envi, ds[i]? = some d → acc.length ≤ i → I i acc envi → dg d envi fun env2 => dt env2 fun b env3 => IfB b (dk env3 fun ak env4 => dv env4 fun av env5 => ob (ak.get env5) fun kd => ob kd.key fun kk => shr env5 av fun x env6 => I (i + 1) (putD acc kk x) (wipeE env6 vs)) (I (i + 1) acc (wipeE env3 vs)))
    (hd : ∀ acc envn, acc.length ≤ ds.length → I ds.length acc envn → k acc (Dl.rest env envn vs)) (hk : ∀ acc env2 p Hn, k acc env2 → H p = none → Ok S B (La L p) env2 σ Hn → Step B env σ H env2 σ Hn → Own S (Av B (La L p) env2 σ) Hn p (.dK acc) → Q (.ref p) Hn) :
    ∀ D, H D = none → ∃ Wl : Nat → Nat → Hp → Prop, (∃ m, Wl 0 m (upd H D (.dK []))) ∧ ∀ i m H, Wl i m H →
      (J.stop i H ∧ Q (.ref D) H) ∨ (J.go i H ∧ ∃ Nx : Hp → Prop, (∀ H', Nx H' → ∃ m', m' < m ∧ Wl (i + 1) m' H') ∧ ∀ x H', J.yld i H x H' → g x (L2.wipe σ vs) H' fun σ2 H2 => L2.wipe σ2 vs = L2.wipe σ vs ∧ tt σ2 H2 fun b H3 =>
        if b = true then tk σ2 H3 fun y H4 => tv σ2 H4 fun z H5 => ∃ kvs k, y = kV k ∧ H5 D = some (.dK kvs) ∧ kvs.length < sizeLine ∧ Nx (upd H5 D (.dK (putK kvs k z))) else Nx H3) := by
  intro D hD
  obtain ⟨n, G, Y, en, wk, stb⟩ := src
  have okD : Ok S B (La L D) env σ (upd H D (.dK [])) := ok.new hD
  have stD : Step B env σ H env σ (upd H D (.dK [])) := step_new hD
  obtain ⟨okw, stw⟩ := okD.wipe vs
  have st0 := stD.trans stw
  have stab : ∀ {envi H2}, Ok S B (La L D) envi (L2.wipe σ vs) H2 → Step B env σ H envi (L2.wipe σ vs) H2 → G H2 ∧ ∀ (i : Nat) x H3, i < n → Y i H2 x H3 → ∃ d, ds[i]? = some d ∧ Item S (Av B (La L D) envi (L2.wipe σ vs)) H2 x H3 d := fun {envi H2} o2 s2 => stb _ H2 (kp_step ok s2 hD) fun p o hp h1 => s2.e p o h1 fun z => ok.sep p z hp
  refine EnT.dc_it wk (fun i H2 => ∃ acc envi us, I i acc envi ∧ acc.length ≤ i ∧ Ok S B (La L D) envi (L2.wipe σ vs) H2 ∧ Step B env σ H envi (L2.wipe σ vs) H2 ∧ H2 D = some (.dK us) ∧ us.map (·.1) = acc.map (·.1) ∧ RDs S (Av B (La L D) envi (L2.wipe σ vs)) H2 (us.map (·.2)) (acc.map (·.2))) ⟨[], _, [], h0, Nat.le_refl _, okw, st0, upd_same, rfl, .nil⟩ (fun i H2 _ z => ?_) (fun i x H2 H3 hi z hy => ?_) (fun H2 z => ?_)
  · obtain ⟨acc, envi, us, _, _, o2, s2, _⟩ := z
    exact (stab o2 s2).1
  · obtain ⟨acc, envi, us, hI, ha, o2, s2, eD, rK, rA⟩ := z
    obtain ⟨d, hd2, it⟩ := (stab o2 s2).2 i x H3 hi hy
    obtain ⟨o3, s3, rd⟩ := it.ok o2
    refine hg _ envi _ H3 x d _ _ o3 rd (hs i d acc envi hd2 ha hI) fun env4 σ4 h4 o4 s4 f4 => ⟨off_wipe f4 hts, ?_⟩
    refine ht _ env4 σ4 H3 _ _ o4 h4 fun b env5 H5 h5 o5 s5 => ?_
    have s25 := s3.trans (s4.trans s5)
    have ewp : L2.wipe σ4 vs = L2.wipe σ vs := off_wipe f4 hts
    have eD5 : H5 D = some (.dK us) := s25.e D _ eD fun z => o2.sep D z (.inr rfl)
    cases b with
    | false =>
      (replace h5 := h5.f rfl; simp only [Bool.false_eq_true, if_false])
      obtain ⟨o6, s6⟩ := o5.wipe vs
      rw [ewp] at o6 s6
      exact ⟨acc, _, us, h5, Nat.le_succ_of_le ha, o6, s2.trans (s25.trans s6), eD5, rK, rA.step o2 (s25.trans s6)⟩
    | true =>
      (replace h5 := h5.t rfl; simp only [if_true])
      refine hke _ env5 σ4 H5 _ _ o5 h5 fun ak env6 yk Hk hk6 pk => ?_
      obtain ⟨ok6, sk6, fink⟩ := pk.held o5
      refine he _ env6 σ4 Hk _ _ ok6 hk6 fun av env7 y H6 h6 p6 => ?_
      obtain ⟨o6', s6, l6'⟩ := p6.vl ok6
      obtain ⟨o6, lk6, w6⟩ := fink env7 H6 o6' s6
      have l6 := l6'.weak w6
      obtain ⟨kd, e1, h6⟩ := ob_of h6
      obtain ⟨kk, e2, h6⟩ := ob_of h6
      have tk6 := lk6.tv o6 (by rw [AV.get_hold]; exact e1)
      obtain ⟨xd, env8, h7, o7, s7, r7⟩ := l6.shr o6 h6
      have s27 := s25.trans ((sk6.trans s6).trans s7)
      have eD6 : H6 D = some (.dK us) := (sk6.trans s6).e D _ eD5 fun z => o5.sep D z (.inr rfl)
      have rA7 := rA.step o2 s27
      obtain ⟨o8, s8⟩ := o7.wipe vs
      rw [ewp] at o8 s8
      have hnD : ¬ Ow B (wipeE env8 vs) (L2.wipe σ vs) D := fun z => o8.sep D z (.inr rfl)
      have rA8 := rA7.step o7 s8
      have r8 : RD S (Av B (La L D) (wipeE env8 vs) (L2.wipe σ vs)) H6 y xd := RD.step o7 s8 r7
      have hu : us.length < sizeLine := by
        rw [keys_len rK]
        omega
      obtain ⟨q1, q2⟩ := put_rds (k := kk) r8 rK rA8
      have kp : Kp (Av B (La L D) (wipeE env8 vs) (L2.wipe σ vs)) (Av B (La L D) (wipeE env8 vs) (L2.wipe σ vs)) H6 (upd H6 D (.dK (putK us kk y))) := kp_own (.inl (.inr rfl)) ⟨_, eD6, trivial⟩
      have o9 : Ok S B (La L D) (wipeE env8 vs) (L2.wipe σ vs) (upd H6 D (.dK (putK us kk y))) := by
        refine ⟨o8.len, fun k c hc => ?_, o8.inj, o8.sep, fun a z => ?_, B.stab H6 _ (fun a o' va h => by rw [upd_ne (fun e => hnD (.inl (by rw [← e]; exact va)))]; exact h) o8.bag, o8.dv⟩
        · obtain ⟨u, hu, z⟩ := o8.at_ k c hc
          refine ⟨u, hu, ?_⟩
          cases c with
          | s d0 => exact RD.mono kp z
          | o d0 => obtain ⟨q, e, y⟩ := z; exact ⟨q, e, y.mono kp fun o ho => by rw [upd_ne (fun e3 => hnD (.inr ⟨k, _, hc, rfl, by rw [hu, e, e3]⟩))]; exact ho⟩
          | m d0 => obtain ⟨q, e, y⟩ := z; exact ⟨q, e, y.mono kp fun o ho => by rw [upd_ne (fun e3 => hnD (.inr ⟨k, _, hc, rfl, by rw [hu, e, e3]⟩))]; exact ho⟩
          | b d0 =>
            rcases z with z | ⟨q, e, l, y⟩
            · exact .inl (RD.mono kp z)
            · by_cases hq : q = D
              · subst hq
                have sAll := s2.trans (s27.trans s8)
                have r0 := sAll.b k d0 hc
                have hu2 : (L2.wipe σ vs)[k]? = some (some (.ref q)) := by rw [hu, e]
                rw [r0.2] at hu2
                rcases ok.slot r0.1 hu2 with z | ⟨q', e', l', _⟩
                · exact .inl (by rw [e]; exact (z.mono (kp_step ok sAll hD)).mono kp)
                · cases e'
                  exact (ok.al _ l' hD).elim
              · refine .inr ⟨q, e, l, y.mono kp (fun u hu => ?_) (fun C dx fs hu => by rw [upd_ne hq]; exact hu) fun xs hu => by rw [upd_ne hq]; exact hu⟩
                rcases hu with hu | ⟨ob, hu⟩
                · exact .inl (by rw [upd_ne hq]; exact hu)
                · exact .inr ⟨ob, by rw [upd_ne hq]; exact hu⟩
        · by_cases e : a = D
          · subst e; rw [upd_same]; exact fun z => nomatch z
          · rw [upd_ne e]; exact o8.al a z
      have fin : ∃ acc envi us_1, I (i + 1) acc envi ∧ acc.length ≤ i + 1 ∧ Ok S B (La L D) envi (L2.wipe σ vs) (upd H6 D (.dK (putK us kk y))) ∧ Step B env σ H envi (L2.wipe σ vs) (upd H6 D (.dK (putK us kk y))) ∧ (upd H6 D (.dK (putK us kk y))) D = some (.dK us_1) ∧ us_1.map (·.1) = acc.map (·.1) ∧ RDs S (Av B (La L D) envi (L2.wipe σ vs)) (upd H6 D (.dK (putK us kk y))) (us_1.map (·.2)) (acc.map (·.2)) := by
        refine ⟨putD acc kk xd, _, putK us kk y, h7, Nat.le_trans (putD_len acc kk xd) (Nat.add_le_add_right ha 1), o9, ?_, upd_same, q1, q2.mono kp⟩
        have sAll := s2.trans (s27.trans s8)
        refine ⟨fun a o h1 h2 => ?_, sAll.n, sAll.m, sAll.b, fun a h1 => ?_⟩
        · have ne : a ≠ D := ne_of_none h1 hD
          rw [upd_ne ne]
          exact sAll.e a o h1 h2
        · by_cases e : a = D
          · rw [e]; exact hD
          · rw [upd_ne e] at h1; exact sAll.al a h1
      exact ⟨us, kk, tk6.key e2, eD6, hu, fin⟩
  · obtain ⟨acc, envi, us, hI, ha, o2, s2, eD, rK, rA⟩ := z
    rw [en] at hI ha
    obtain ⟨o3, s3⟩ := ok.rest (vs := vs) hD o2 s2
    refine hk acc _ D H2 (hd acc envi ha hI) hD o3 s3 ⟨us, eD, rK, rA.weak fun a z => z.elim .inl fun y => .inr ?_⟩
    rcases y with y | ⟨k, c, h1, h2, h3⟩
    · exact .inl y
    rcases rest_get h1 with ⟨_, d, e, _⟩ | ⟨m, h4⟩
    · rw [e] at h2; cases h2
    · exact .inr ⟨k, c, h4, h2, by rw [wipe_ne m]; exact h3⟩
theorem lf_dcK {wi : TI} {g : TG} {tt : TT} {tk tv : TE} {vs ts : List Nat} {src : TDI} {dg : TDG} {dt : TDT} {dk dv : TDE} (hi : LfI S B wi src) (hg : LfG S B g dg ts) (ht : LfT S B tt dt) (hke : LfE S B tk dk) (he : LfE S B tv dv) (hts : ∀ i ∈ ts, i ∈ vs := by decide) : LfE S B (tDc wi g tt tk tv vs) (dDcK src dg dt dk dv vs) := fun L env σ H Q k ok h hk => by
  refine hi L env σ H _ _ ok h fun ds bw env1 H1 J h1 ok1 st1 hbw sr => ?_
  obtain ⟨hl, I, h0, hs, hd⟩ := h1
  cases bw with
  | none =>
    refine dc_coreK (k := fun acc env2 => k (.f (.dK acc)) env2) hg hts ht hke he ok1 (sr.pre (fun _ z => z) fun a z => z.elim id fun ⟨_, e, _⟩ => nomatch e) hl h0 hs (fun acc envn ha hI => hd acc envn ha hI) fun acc env2 p Hn hkk hp ok2 st2 w => ?_
    exact hk _ _ _ _ hkk ⟨st1.trans st2, p, rfl, st1.al p hp, ok2, w⟩
  | some i =>
    obtain ⟨c, hi, hc⟩ := hbw i rfl
    obtain ⟨p, hv, _⟩ := ok1.ownd hi hc
    have e1 : bwE (some i) env1 = env1.set i (some (.b c.d)) := by
      show (match env1[i]? with | some (some c) => env1.set i (some (.b c.d)) | _ => env1) = _
      rw [hi]
    rw [e1] at h0 hd
    have okb := ok1.bor hi hc hv
    refine dc_coreK (k := fun acc env2 => ob (unb (some i) env1 env2) fun env3 => k (.f (.dK acc)) env3) hg hts ht hke he okb (sr.pre (fun a z => ?_) fun a z => z.elim .inl fun ⟨j, e, e2⟩ => ?_) hl h0 hs (fun acc envn ha hI => hd acc envn ha hI) fun acc env2 D Hn hkk hp ok2 st2 w => ?_
    · rcases z with (z | rfl) | z | ⟨k, c', g1, g2, g3⟩
      · exact .inl z
      · exact .inr (.inr ⟨i, c, hi, hc, hv⟩)
      · exact .inr (.inl z)
      · rcases get_set g1 with ⟨_, e, _⟩ | ⟨_, g4⟩
        · cases e; cases g2
        · exact .inr (.inr ⟨k, c', g4, g2, g3⟩)
    · cases e
      rw [hv] at e2
      cases e2
      exact .inr rfl
    · obtain ⟨env3, hu, hkk⟩ := ob_of hkk
      have sw : ∀ a, La (La L D) p a ↔ La (La L p) D a := fun a => ⟨fun z => z.elim (fun z => z.elim (fun y => .inl (.inl y)) .inr) fun y => .inl (.inr y), fun z => z.elim (fun z => z.elim (fun y => .inl (.inl y)) .inr) fun y => .inl (.inr y)⟩
      obtain ⟨o3, s3, w3⟩ := ok1.back hi hc hv hu (L' := La L D) (fun _ z => .inl z) (fun a z => z.elim .inl fun e => .inr (by rw [e]; exact hp)) (ok2.iff sw) st2
      refine hk _ _ _ _ hkk ⟨st1.trans s3, D, rfl, st1.al D hp, o3, w.weak fun a z => ?_⟩
      rcases w3 a z with y | y
      · exact .inl ((sw a).mp y)
      · exact .inr y
end
end Dl
/-! DLD: new instances, fields, displays, nested keys. -/
namespace Dl
open PySem L2
section
variable {S : Sys} {B : Vol} {L : As} {env env' : Env} {σ σ' : St} {H H' : Hp} {W : Ends} {E : EndsD}
/-- a new object that is still held back is changed -/
theorem Ok.bump {env0 : Env} {σ0 : St} {H0 H6 : Hp} {D : Addr} {o : HO} (ok : Ok S B L env0 σ0 H0) (hD : H0 D = none) (o8 : Ok S B (La L D) env σ H6) (sAll : Step B env0 σ0 H0 env σ H6) (hσ : ∀ (k : Nat) d0, env[k]? = some (some (.b d0)) → σ[k]? = σ0[k]?) (hm : ∃ u, H6 D = some u ∧ Mut (some u)) :
    Ok S B (La L D) env σ (upd H6 D o) ∧ Kp (Av B (La L D) env σ) (Av B (La L D) env σ) H6 (upd H6 D o) ∧ Step B env0 σ0 H0 env σ (upd H6 D o) := by
  have hnD : ¬ Ow B env σ D := fun z => o8.sep D z (.inr rfl)
  have kp : Kp (Av B (La L D) env σ) (Av B (La L D) env σ) H6 (upd H6 D o) := kp_own (.inl (.inr rfl)) hm
  refine ⟨⟨o8.len, fun k c hc => ?_, o8.inj, o8.sep, fun a z => ?_, B.stab H6 _ (fun a o' va h => by rw [upd_ne (fun e => hnD (.inl (by rw [← e]; exact va)))]; exact h) o8.bag, o8.dv⟩, kp, ⟨fun a o h1 h2 => ?_, sAll.n, sAll.m, sAll.b, fun a h1 => ?_⟩⟩
  · obtain ⟨u, hu, z⟩ := o8.at_ k c hc
    refine ⟨u, hu, ?_⟩
    cases c with
    | s d0 => exact RD.mono kp z
    | o d0 => obtain ⟨q, e, y⟩ := z; exact ⟨q, e, y.mono kp fun o ho => by rw [upd_ne (fun e3 => hnD (.inr ⟨k, _, hc, rfl, by rw [hu, e, e3]⟩))]; exact ho⟩
    | m d0 => obtain ⟨q, e, y⟩ := z; exact ⟨q, e, y.mono kp fun o ho => by rw [upd_ne (fun e3 => hnD (.inr ⟨k, _, hc, rfl, by rw [hu, e, e3]⟩))]; exact ho⟩
    | b d0 =>
      rcases z with z | ⟨q, e, l, y⟩
      · exact .inl (RD.mono kp z)
      · by_cases hq : q = D
        · subst hq
          have r0 := sAll.b k d0 hc
          have hu2 : σ[k]? = some (some (.ref q)) := by rw [hu, e]
          rw [r0.2] at hu2
          rcases ok.slot r0.1 hu2 with z | ⟨q', e', l', _⟩
          · exact .inl (by rw [e]; exact (z.mono (kp_step ok sAll hD)).mono kp)
          · cases e'
            exact (ok.al _ l' hD).elim
        · refine .inr ⟨q, e, l, y.mono kp (fun u hu => ?_) (fun C dx fs hu => by rw [upd_ne hq]; exact hu) fun xs hu => by rw [upd_ne hq]; exact hu⟩
          rcases hu with hu | ⟨ob, hu⟩
          · exact .inl (by rw [upd_ne hq]; exact hu)
          · exact .inr ⟨ob, by rw [upd_ne hq]; exact hu⟩
  · by_cases e : a = D
    · subst e; rw [upd_same]; exact fun z => nomatch z
    · rw [upd_ne e]; exact o8.al a z
  · rw [upd_ne (ne_of_none h1 hD)]
    exact sAll.e a o h1 h2
  · by_cases e : a = D
    · rw [e]; exact hD
    · rw [upd_ne e] at h1; exact sAll.al a h1
/-! {k: v} -/
def dDisp1 (tk tv : TDE) : TDE := fun env k => tk env fun ak env1 => tv env1 fun av env2 => ob (ak.get env2) fun kd => ob kd.key fun kk => shr env2 av fun d env3 => k (.f (.dK [(kk, d)])) env3
theorem lf_disp1 {tk tv : TE} {dk dv : TDE} (h1 : LfE S B tk dk) (h2 : LfE S B tv dv) : LfE S B (tDisp [(tk, tv)]) (dDisp1 dk dv) := fun L env σ H Q k ok h hk p hp => by
  have ok0 := ok.new (o := .dK []) hp
  have st0 : Step B env σ H env σ (upd H p (.dK [])) := step_new hp
  refine h1 _ env σ _ _ _ ok0 h fun ak env1 x H1 g1 p1 => ?_
  obtain ⟨ok1, st1, fin1⟩ := p1.held ok0
  refine h2 _ env1 σ H1 _ _ ok1 g1 fun av env2 y H2 g2 p2 => ?_
  obtain ⟨ok2, st2, l2⟩ := p2.vl ok1
  obtain ⟨ok3, l3, w3⟩ := fin1 env2 H2 ok2 st2
  obtain ⟨kd, e1, g2⟩ := ob_of g2
  obtain ⟨kk, e2, g2⟩ := ob_of g2
  have tkk := (l3.tv ok3 (by rw [AV.get_hold]; exact e1)).key e2
  obtain ⟨d, env3, g3, ok4, st4, rd⟩ := (l2.weak w3).shr ok3 g2
  have sA := st1.trans (st2.trans st4)
  have e3 : H2 p = some (.dK []) := (st1.trans st2).e p _ upd_same fun z => ok0.sep p z (.inr rfl)
  obtain ⟨ok5, kp5, st5⟩ := Ok.bump (o := .dK [(kk, y)]) ok hp ok4 (st0.trans sA) (fun _ _ _ => rfl) ⟨_, e3, trivial⟩
  exact ⟨e3, [(kk, y)], by rw [tkk]; rfl, (by show 1 ≤ 15; decide), hk _ _ _ _ g3 ⟨st5, p, rfl, hp, ok5, [(kk, y)], upd_same, rfl, .cons (rd.mono kp5) .nil⟩⟩

/-! ### two names at once, x += e -/
def dPar (i j : Nat) (ta : TDA) : TDS := fun E env => ta env fun as env1 => match as with
  | [a, b] => shr env1 a fun d env2 => shr env2 b fun e env3 => Nat.blt i env3.length = true ∧ Nat.blt j env3.length = true ∧ E.nx ((env3.set i (some (.s d))).set j (some (.s e)))
  | _ => False
theorem lf_par {i j : Nat} {ta : TA} {da : TDA} (ha : LfA S B ta da) : LfS S B (tPar i j ta) (dPar i j da) := fun L env σ H W E ok h r => by
  refine ha L env σ H _ _ ok h fun avs env1 vs H1 h1 ok1 st1 l1 => ?_
  match avs, vs, h1, l1 with
  | [a, b], [v, w], h1, l1 =>
    have ea := l1.held a (List.mem_cons_self ..)
    have eb := l1.held b (List.mem_cons_of_mem _ (List.mem_cons_self ..))
    obtain ⟨d, env2, h2, ok2, st2, r2⟩ := VlA.shr ok1 (av := a) (by rw [ea]; exact l1.1) h1
    have l3 := VlA.step ok1 st2 l1.2.1
    obtain ⟨e, env3, ⟨hi, hj, h3⟩, ok3, st3, r3⟩ := VlA.shr ok2 (av := b) (by rw [eb]; exact l3) h2
    have hi := Nat.le_of_ble_eq_true hi
    have hj := Nat.le_of_ble_eq_true hj
    obtain ⟨ok4, st4⟩ := ok3.setS hi (r2.step ok2 st3)
    obtain ⟨ok5, st5⟩ := ok4.setS (i := j) (by rw [List.length_set]; exact hj) (r3.step ok3 st4)
    exact ⟨v, w, rfl, r.nx _ _ _ h3 ok5 (st1.trans (st2.trans (st3.trans (st4.trans st5))))⟩
def dAug (f : Int → Int → Int) (i : Nat) (t : TDE) : TDS := fun E env => match env[i]? with
  | some (some (.s (.int x))) => t env fun a env1 => match a.get env1 with
    | some (.int y) => Nat.blt i env1.length = true ∧ E.nx (env1.set i (some (.s (.int (f x y)))))
    | _ => False
  | _ => False
theorem lf_aug {i : Nat} {f : Int → Int → Int} {te : TE} {t : TDE} (he : LfE S B te t) : LfS S B (tAug i te (ipI f)) (dAug f i t) := fun L env σ H W E ok h r => by
  have h : (match env[i]? with | some (some (.s (.int x))) => t env fun a env1 => (match a.get env1 with | some (.int y) => Nat.blt i env1.length = true ∧ E.nx (env1.set i (some (.s (.int (f x y))))) | _ => False) | _ => False) := h
  split at h
  · rename_i x hx
    obtain ⟨v, hv, rv⟩ := ok.at_ i _ hx
    cases rv
    refine ⟨.int x, hv, he L env σ H _ _ ok h fun av env1 u H1 h1 p1 => ?_⟩
    obtain ⟨ok1, st1, l1⟩ := p1.vl ok
    split at h1
    · rename_i y e
      have e2 := (l1.tv ok1 (by rw [AV.get_hold]; exact e)).int
      subst e2
      refine ⟨x, y, rfl, rfl, ?_⟩
      obtain ⟨ok2, st2⟩ := ok1.setS (Nat.le_of_ble_eq_true h1.1) (.int (f x y))
      exact r.nx _ _ _ h1.2 ok2 (st1.trans st2)
    · exact h1.elim
  · exact h.elim

/-! ### a field of an owned instance is set -/
def putFD (f : Str) (d : D) : List (Str × D) → List (Str × D)
  | [] => [(f, d)]
  | (g, x) :: r => if g = f then (g, d) :: r else (g, x) :: putFD f d r
theorem putF_rds {A : As} {H : Hp} {f : Str} {v : V} {d : D} (h : RD S A H v d) : ∀ {fs : List (Str × V)} {fds : List (Str × D)}, fs.map (·.1) = fds.map (·.1) → RDs S A H (fs.map (·.2)) (fds.map (·.2)) → (putF f v fs).map (·.1) = (putFD f d fds).map (·.1) ∧ RDs S A H ((putF f v fs).map (·.2)) ((putFD f d fds).map (·.2))
  | [], [], _, _ => ⟨rfl, .one h⟩
  | [], _ :: _, e, _ => by cases e
  | _ :: _, [], e, _ => by cases e
  | (x, v0) :: fs, (y, d0) :: fds, e, r => by
    cases (show x = y from (List.cons.inj e).1)
    cases r with
    | cons r1 r2 =>
      obtain ⟨i1, i2⟩ := putF_rds h (f := f) (List.cons.inj e).2 r2
      unfold putF putFD
      by_cases q : x = f
      · rw [if_pos q, if_pos q]
        exact ⟨by rw [List.map_cons, List.map_cons, (List.cons.inj e).2], .cons h r2⟩
      · rw [if_neg q, if_neg q]
        exact ⟨by rw [List.map_cons, List.map_cons, i1], .cons r1 i2⟩
def dFldSet (td tv : TDE) (C : Addr) (f : Str) : TDS := fun E env => tv env fun av env1 => td env1 fun ad env2 => shr env2 av fun d env3 => match ad with
  | .r i => ownAt env3 i fun c => match c.d with
    | .ins C' fs => C' = C ∧ fs.length < 1000 ∧ E.nx (env3.set i (some (c.with (.ins C (putFD f d fs)))))
    | _ => False
  | _ => False
theorem lf_fldset {K : PySem.W.Frag} {td tv : TE} {dd dv : TDE} {C : Addr} {f : Str} (hc : Cls S.K C) (hn : NoAttr S.K C f) (h1 : LfE S B td dd) (h2 : LfE S B tv dv) (hK : S.K = K := by rfl) : LfS S B (sFld K td tv f) (dFldSet dd dv C f) := by
  subst hK
  exact fun L env σ H W E ok h r => by
    refine h2 L env σ H _ _ ok h fun av env1 v H1 g1 p1 => ?_
    obtain ⟨ok1, st1, fin1⟩ := p1.held ok
    refine h1 _ env1 σ H1 _ _ ok1 g1 fun ad env2 x H2 g2 p2 => ?_
    obtain ⟨ok2, st2, l2⟩ := p2.vl ok1
    obtain ⟨ok3, l3, w3⟩ := fin1 env2 H2 ok2 st2
    obtain ⟨d, env3, g3, ok4, st4, rd⟩ := l3.shr ok3 g2
    cases ad with
    | s d => exact g3.elim
    | f d => exact g3.elim
    | r i =>
      have hv : σ[i]? = some (some x) := l2
      obtain ⟨c, e4, e5, g5⟩ := ownAt_of g3
      obtain ⟨p, hp, w⟩ := ok4.ownd e4 e5
      rw [hv] at hp
      cases hp
      have how : Av B L env3 σ p := .inr (.inr ⟨i, c, e4, e5, hv⟩)
      split at g5
      · rename_i C' fs ed
        obtain ⟨rfl, hl, g5⟩ := g5
        rw [ed] at w
        obtain ⟨dx, vs, hH, hk, rs⟩ := w
        obtain ⟨q1, q2⟩ := putF_rds (f := f) rd hk rs
        refine ⟨p, C', dx, vs, rfl, hH, hc, hn, by rw [keys_len hk]; exact hl, ?_⟩
        obtain ⟨ok7, st7⟩ := ok4.write (o := .ins C' dx (putF f v vs)) (d := .ins C' (putFD f d fs)) e4 e5 hv ⟨dx, _, upd_same, q1, q2.mono (kp_own how ⟨_, hH, trivial⟩)⟩
        exact r.nx _ _ _ g5 ok7 (st1.trans (st2.trans (st4.trans st7)))
      · exact g5.elim
/-! ### a new instance -/
def dMake (C : Addr) (ms : List Bool) (f : DSp) (ta : TDA) : TDE := fun env k => ta env fun as env1 => escs ms none 0 as env1 fun env2 => mOk env2 ms none 0 as = true ∧ ob (gets env2 as) fun ds => f (.ins C [] :: ds) fun d fr md => match d, fr, md with
  | .non, false, some m => k (.f m) env2
  | _, _, _ => False
theorem lf_make {C : Addr} {b0 : Bool} {ms : List Bool} {f : DSp} {ta : TA} {da : TDA} {X : XK} (ha : LfA S B ta da) : LfE S B (tMake C (spD S plain (some 0) (b0 :: ms) f) [] X ta) (dMake C ms f da) := fun L env σ H Q k ok h hk => by
  refine ha L env σ H _ _ ok h fun avs env1 vs H1 h1 ok1 st1 l1 x dx hx hdx ne => ?_
  obtain ⟨env2, ⟨hm, h2⟩, ok2, st2, hlen⟩ := escs_ok ok1 l1 h1
  obtain ⟨ds, e2, h2⟩ := ob_of h2
  have l2 := VlAs.step ok1 st2 l1
  have hlv := vlas_len l2
  have hld := gets_len e2
  rw [List.append_nil]
  -- the two new objects
  have oka := ok2.new (o := .own x) hdx
  have sta : Step B env2 σ H1 env2 σ (upd H1 dx (.own x)) := step_new hdx
  have hx2 : (upd H1 dx (.own x)) x = none := by rw [upd_ne ne.symm]; exact hx
  have okb := oka.new (o := .ins C dx []) hx2
  have stb : Step B env2 σ (upd H1 dx (.own x)) env2 σ (upd (upd H1 dx (.own x)) x (.ins C dx [])) := step_new hx2
  have stab := sta.trans stb
  generalize eH : upd (upd H1 dx (.own x)) x (.ins C dx []) = H2 at okb stb stab
  have exx : H2 x = some (.ins C dx []) := by rw [← eH]; exact upd_same
  let Lc : As := Av B L env2 σ
  have nx : ¬ Lc x := fun z => z.elim (fun y => ok2.al x y hx) fun y => by
    obtain ⟨o, ho, _⟩ := ok2.ow y
    rw [hx] at ho
    cases ho
  have hMA : ∀ a, MA (some 0) (V.ref x :: vs) a ↔ a = x := fun a => ⟨fun ⟨i, e, hv⟩ => by cases e; cases hv; rfl, fun e => ⟨0, rfl, by rw [e]; rfl⟩⟩
  have kp : Kp (Av B L env2 σ) (Ao noVol Lc (some 0) (V.ref x :: vs)) H1 H2 := by
    have k0 := stab.kp ok2
    refine ⟨k0.t, k0.u, k0.l, k0.z, fun q u g n => ⟨(k0.r q u g n).1, fun z => ?_⟩, k0.i, k0.x⟩
    rcases z with z | z | z
    · exact n z
    · exact z
    · rw [(hMA q).mp z] at g
      rcases g with g | ⟨ob, g⟩ <;> · rw [hx] at g; cases g
  have args : ArgsOk S Lc (Ao noVol Lc (some 0) (V.ref x :: vs)) H2 (some 0) (b0 :: ms) (V.ref x :: vs) (D.ins C [] :: ds) := by
    refine ⟨by rw [List.length_cons, List.length_cons, hlv, mOk_len hm], by rw [List.length_cons, List.length_cons, hld, mOk_len hm], fun i b v d g1 g2 g3 => ?_, fun i e => by cases e; exact Nat.zero_lt_succ _⟩
    cases i with
    | zero =>
      cases g2
      cases g3
      exact ⟨x, rfl, nx, dx, [], exx, rfl, .nil⟩
    | succ i =>
      have g1 : ms[i]? = some b := by simpa using g1
      have g2 : vs[i]? = some v := by simpa using g2
      have g3 : ds[i]? = some d := by simpa using g3
      have hi : i < avs.length := by rw [← hlv]; exact (List.getElem?_eq_some_iff.mp g2).1
      have ga := List.getElem?_eq_getElem hi
      have va := vlas_at l2 g2 ga
      have gd := gets_at e2 g3 ga
      have hmo := mOk_at hm g1 ga
      show ArgOk S Lc _ H2 false b v d
      cases b with
      | false =>
        rcases hmo.2 rfl rfl with ⟨y, ea⟩ | ⟨n, y, ea, ec⟩
        · rw [ea] at va gd
          cases gd
          exact RD.mono kp va
        · rw [ea] at va gd
          have gd : (match env2[n]? with | some (some c) => some c.d | _ => none) = some d := gd
          rw [ec] at gd
          cases gd
          exact RD.mono kp (ok2.slot ec va)
      | true =>
        have stay : ∀ q o, H1 q = some o → H2 q = some o := fun q o g => by
          rw [← eH, upd_ne (ne_of_none g hx), upd_ne (ne_of_none g hdx)]
          exact g
        have tv := va.tv ok2 gd (av := avs[i])
        show RD S _ H2 v d ∨ ∃ p, v = .ref p ∧ Lc p ∧ Top S _ H2 p d
        have mk : ∀ p, Lc p → Top S (Av B L env2 σ) H1 p d → Top S (Ao noVol Lc (some 0) (V.ref x :: vs)) H2 p d := fun p _ w => w.mono kp (fun u g => g.elim (fun z => .inl (stay _ _ z)) fun ⟨ob, z⟩ => .inr ⟨ob, stay _ _ z⟩) (fun C dx fs g => stay _ _ g) fun xs g => stay _ _ g
        cases ea : avs[i] with
        | s y =>
          rw [ea] at va gd
          cases gd
          exact .inl (RD.mono kp va)
        | f y =>
          rw [ea] at va
          exact va.elim
        | r n =>
          rw [ea] at va gd
          have va : σ[n]? = some (some v) := va
          have gd : (match env2[n]? with | some (some c) => some c.d | _ => none) = some d := gd
          split at gd
          · rename_i c ec
            cases gd
            have sl := ok2.slot ec va
            cases c with
            | s y => exact .inl (RD.mono kp sl)
            | o y => obtain ⟨p, e, w⟩ := sl; exact .inr ⟨p, e, .inr (.inr ⟨n, _, ec, rfl, by rw [va, e]⟩), mk p (.inr (.inr ⟨n, _, ec, rfl, by rw [va, e]⟩)) w.top⟩
            | m y => obtain ⟨p, e, w⟩ := sl; exact .inr ⟨p, e, .inr (.inr ⟨n, _, ec, rfl, by rw [va, e]⟩), mk p (.inr (.inr ⟨n, _, ec, rfl, by rw [va, e]⟩)) w.top⟩
            | b y =>
              rcases sl with sl | ⟨p, e, l, w⟩
              · exact .inl (RD.mono kp sl)
              · exact .inr ⟨p, e, .inl l, mk p (.inl l) w⟩
          · cases gd
  have hLc : ∀ a, Lc a → H2 a ≠ none := fun a z y => by
    have y1 := stab.al a y
    rcases z with z | z
    · exact ok2.al a z y1
    · obtain ⟨o, ho, _⟩ := ok2.ow z
      rw [y1] at ho
      cases ho
  refine ⟨noVol, Lc, _, rfl, trivial, hLc, fun a z => z.elim, fun a _ z => z, args, _, h2, fun d fr md v H' hkk r => ?_⟩
  split at hkk
  · rename_i m
    obtain ⟨rd, hms⟩ := r.r
    cases rd
    obtain ⟨m', em, ow⟩ := hms x ((hMA x).mpr rfl)
    cases em
    refine ⟨rfl, hk _ _ _ _ hkk ?_⟩
    have e1 : ∀ a o, H1 a = some o → H' a = some o := fun a o g => r.e a o (by rw [← eH, upd_ne (ne_of_none g hx), upd_ne (ne_of_none g hdx)]; exact g) (fun z => by rw [(hMA a).mp z] at g; rw [hx] at g; cases g) fun z => z
    have al1 : ∀ a, H' a = none → H1 a = none := fun a z => stab.al a (r.al a z)
    have st3 : Step B env2 σ H1 env2 σ H' := ⟨fun a o g _ => e1 a o g, fun _ z => .inl z, fun _ _ z => ⟨⟨_, z⟩, rfl⟩, fun _ _ z => ⟨z, rfl⟩, al1⟩
    have kp3 := kp_step ok2 st3 hx
    refine ⟨(st1.trans st2).trans st3, x, rfl, (st1.trans st2).al x hx, ⟨ok2.len, fun i c g => ?_, ok2.inj, fun a z y => ?_, fun a z y => ?_, B.stab H1 H' (fun a o _ g => e1 a o g) ok2.bag, ok2.dv⟩, ow.weak fun a z => ?_⟩
    · obtain ⟨u, hu, z⟩ := ok2.at_ i c g
      refine ⟨u, hu, ?_⟩
      cases c with
      | s y => exact RD.mono kp3 z
      | o y => obtain ⟨q, e, w⟩ := z; exact ⟨q, e, w.mono kp3 fun o g => e1 q o g⟩
      | m y => obtain ⟨q, e, w⟩ := z; exact ⟨q, e, w.mono kp3 fun o g => e1 q o g⟩
      | b y =>
        rcases z with z | ⟨q, e, l, w⟩
        · exact .inl (RD.mono kp3 z)
        · exact .inr ⟨q, e, .inl l, w.mono kp3 (fun u g => g.elim (fun z => .inl (e1 _ _ z)) fun ⟨ob, z⟩ => .inr ⟨ob, e1 _ _ z⟩) (fun C dx fs g => e1 _ _ g) fun xs g => e1 _ _ g⟩
    · rcases y with y | rfl
      · exact ok2.sep a z y
      · exact nx (.inr z)
    · rcases z with z | rfl
      · exact ok2.al a z (al1 a y)
      · obtain ⟨o, ho, _⟩ := ow.mut
        rw [y] at ho
        cases ho
    · rcases z with (z | rfl) | z
      · exact .inl (.inl z)
      · exact .inr (.inr ((hMA _).mpr rfl))
      · exact .inl (.inr z)
  · exact hkk.elim
end
end Dl
namespace NeD
open PySem PySem.Spec PyProof.Rows L2
/-! len and list of a dict of nested keys -/
section
variable {X : Cx}
theorem call_lenDN : CallR X (.builtin "len") (fun zs H Q => ∃ a kvs, zs = [.ref a] ∧ ND X.K X.prog X.w H a kvs ∧ Q (.int kvs.length) H) := by
  intro pins s σ H zs us Q I r h
  obtain ⟨a, kvs, rfl, D, q⟩ := h
  obtain ⟨u, rfl, rx⟩ := r.one
  cases rx
  obtain ⟨xs, e, ek, hk, hn, hz⟩ := D
  obtain ⟨hs, vs, r, dd⟩ := ND.at I e hk hn
  have hl : kvs.length = vs.length := by rw [ek, List.length_map]; exact Paired.length r
  have hl2 : vs.length = xs.length := (Paired.length r).symm
  rw [sizeLine_eq] at hz
  refine call_len_dictH hs dd (by omega) ?_
  rw [← hl]
  exact ⟨.int kvs.length, H, I.tok _, ⟨_, rfl⟩, q⟩
theorem kx_addr : ∀ {xs : List Ent} {ks : List (NestedKey × Addr × Value)}, KX xs ks → (ks.map fun x => x.2.1) = xs.map fun x => x.2.1
  | [], [], _ => rfl
  | _ :: _, _ :: _, .cons h t => by rw [List.map_cons, List.map_cons, h.2.1, kx_addr t]
/-- the dict's entries, the object named -/
def NE (K : PySem.W.Frag) (P : Program) (w : World) (H : Hp) (a : Addr) (xs : List Ent) : Prop := H a = some (dno P w a xs) ∧ (∀ x ∈ xs, NK K H (.ref x.2.1) x.1 ∧ x.1.depth ≤ 8) ∧ (xs.map (·.1)).Nodup ∧ xs.length ≤ sizeLine
theorem call_list_dN (hc : X.calm = true) : CallR X (.type "list") (fun zs H Q => ∃ a xs, zs = [.ref a] ∧ NE X.K X.prog X.w H a xs ∧ ∀ p, H p = none → Q (.ref p) (upd H p (.lst ((xs.map fun x => x.2.1).map V.ref)))) := by
  intro pins s σ H zs us Q I r h
  obtain ⟨d, xs, rfl, ⟨e, hk, hn, hz⟩, q⟩ := h
  obtain ⟨u, rfl, rx⟩ := r.one
  cases rx
  obtain ⟨hs, ks, r, dd⟩ := ND.at I e hk hn
  obtain ⟨o, es, ep, ho, hx, hdt, he, zz, zz2⟩ := dd
  have l1 : es.size = ks.length := size_of_entries he
  have l2 : xs.length = ks.length := Paired.length r
  refine PySem.W.kdl_call (kdl_raw hs hx hdt) (I.ok.hd hc) ho (by omega) fun h' tk acc' c' kp e' it => ?_
  have ea : acc'.toList = ks.map fun x => Value.ref x.2.1 := by
    have hl : acc'.toList.length = ks.length := by rw [Array.length_toList, it.1]; exact l1
    apply List.ext_getElem?
    intro j
    rw [List.getElem?_map]
    cases hj : acc'.toList[j]? with
    | none =>
      have h1 := List.getElem?_eq_none_iff.mp hj
      rw [List.getElem?_eq_none (by omega)]
      rfl
    | some v =>
      obtain ⟨en, hen, hv⟩ := it.2 j v (by rw [← Array.getElem?_toList]; exact hj)
      rw [← Array.getElem?_toList, he, List.getElem?_map] at hen
      obtain ⟨b, hb, e2⟩ := Option.map_eq_some_iff.mp hen
      rw [hv, hb, ← e2]
      rfl
  have eb : acc'.toList = (ks.map fun x => x.2.1).map Value.ref := by rw [ea, List.map_map]; rfl
  have ex : (ks.map fun x => x.2.1) = xs.map fun x => x.2.1 := kx_addr r
  rw [ex] at eb
  have rv : Vals ((xs.map fun x => x.2.1).map V.ref) acc'.toList := by rw [eb]; exact vals_refs _
  have hz2 : ((xs.map fun x => x.2.1).map V.ref).length ≤ sizeLine := by rw [List.length_map, List.length_map]; exact hz
  refine ⟨.ref s.heap.objs.size, _, I.laid (t' := tk) (o := .lst ((xs.map fun x => x.2.1).map V.ref)) kp (Nat.le_refl _) ?_, rfl, q _ (I.hok.fresh (Nat.le_refl _))⟩
  exact ⟨hz2, acc'.toList, c', rv, by rw [Array.toArray_toList]; exact e'⟩
/-! d[y] = v, the object named -/
theorem ne_put {pins : List (Addr × Obj)} {σ : L2.St} {H : Hp} {s : Shared} {a : Addr} {xs : List Ent} {k : NestedKey} {A : Around} {E : Value → Shared → Prop} {b : Addr} {y : V} {u : Value} {Q : Unit → Shared → Prop} (hu : A.units + 9 < cLine) (I : Inv X pins σ H s) (D : NE X.K X.prog X.w H a xs) (hb : NK X.K H (.ref b) k) (hd : k.depth ≤ 8) (ry : RelV y u)
    (h : ∀ s', Inv X pins σ (upd H a (dno X.prog X.w a (putX xs k b y))) s' → Q () s') : wpAny (model X.prog X.w) A (setItem (.ref a) (.ref b) u) Q E s := by
  obtain ⟨e, hk, hn, hz⟩ := D
  obtain ⟨hs, vs, r, dd⟩ := ND.at I e hk hn
  refine wpAny_setItem_heap (knd := nestedKind X.prog X.w) (hsz := by rw [← Paired.length r]; exact hz) (show A.units + 1 + 8 < cLine by omega) ⟨NK.is I _ _ _ hb rfl, hd⟩ dd fun h' dd' sb => ?_
  obtain ⟨o, es, ep, ho, he, hdd, hm, _, _⟩ := dd'
  exact h _ (d_write I (by rw [e]; exact True.intro) sb ⟨o, ho⟩ (dno_ok hs (putX_rel r k b ry) ho he hdd hm))
def sPutE (K : PySem.W.Frag) (P : Program) (w : World) (td ty tv : TE) : TS := fun D σ H => tv σ H fun v H1 => td σ H1 fun x H2 => ty σ H2 fun y H3 => ∃ b a xs k, y = .ref b ∧ x = .ref a ∧ NE K P w H3 a xs ∧ NK K H3 (.ref b) k ∧ k.depth ≤ 8 ∧
  D.nx σ (upd H3 a (dno P w a (putX xs k b v)))
theorem ps_putE {o i value : Expr} {td ty tv : TE} {pos pos' : Pos} (hu : X.A.units + 64 < cLine) (ho : PE X o td) (hi : PE X i ty) (hv : PE X value tv) (hs : swapsWith value (some (.Subscript o i pos')) pos.line X.env = pure false) :
    PS X (.Assign [.Subscript o i pos'] value pos) (sPutE X.K X.prog X.w td ty tv) := by
  refine ⟨fun pins s σ H D I h => ?_⟩
  refine wpAny_Assign_Subscript (thn (hv.run pins s σ H _ I h) fun r s1 ⟨v, H1, I1, rv, q1⟩ => thn (ho.run pins s1 σ H1 _ I1 q1) fun u s2 ⟨x, H2, I2, rx, q2⟩ => thn (hi.run pins s2 σ H2 _ I2 q2) fun iv s3 ⟨y, H3, I3, ry, b, a, xs, k, ey, ex, N, hb, hd, q3⟩ => ?_) hs
  subst ex ey
  obtain rfl : u = Value.ref a := rx
  obtain rfl : iv = Value.ref b := ry
  exact ne_put (by omega) I3 N hb hd rv fun s4 I4 => ⟨σ, _, I4, q3⟩
end
end NeD
namespace Dl
open PySem L2 Lk
variable {S : Sys} {B : Vol} {L : As} {env env' : Env} {σ σ' : St} {H H' : Hp}
/-! ### calls that want an object of one's own -/
def CaO (S : Sys) (B : Vol) (r : List V → Hp → VK → Prop) (f : D → (AV → Prop) → Prop) : Prop := ∀ (L : As) (env : Env) (σ : St) (H : Hp) (Q : VK) (p : Addr) (d : D) (k : AV → Prop), Ok S B L env σ H → Own S (Av B L env σ) H p d → f d k →
  (∀ av v H', k av → Post S B L env σ H av env v H' → Q v H') → r [.ref p] H Q
def dCO (f : D → (AV → Prop) → Prop) (da : TDA) : TDE := fun env k => da env fun as env1 => match as with
  | [.r i] => ownAt env1 i fun c => f c.d fun r => k r env1
  | _ => False
theorem lf_co {r : List V → Hp → VK → Prop} {f : D → (AV → Prop) → Prop} {ta : TA} {da : TDA} (hr : CaO S B r f) (ha : LfA S B ta da) : LfE S B (tCB r ta) (dCO f da) := fun L env σ H Q k ok h hk => by
  refine ha L env σ H _ _ ok h fun avs env1 vs H1 h1 ok1 st1 l1 => ?_
  match avs, vs, h1, l1 with
  | [.r i], [v], h1, l1 =>
    obtain ⟨c, e4, e5, h2⟩ := ownAt_of h1
    obtain ⟨p, hp, w⟩ := ok1.ownd e4 e5
    have hv : σ[i]? = some (some v) := l1.1
    rw [hv] at hp
    cases hp
    exact hr L env1 σ H1 Q p c.d _ ok1 w h2 fun av3 v3 H3 h3 p3 => hk _ _ _ _ h3 (p3.trans st1)
def fLenK : D → (AV → Prop) → Prop := fun d k => match d with
  | .dK kds => k (.s (.int kds.length))
  | _ => False
theorem cl_lenDK : CaO S B (fun xs H Q => ∃ a kvs, xs = [V.ref a] ∧ H a = some (.dK kvs) ∧ Q (.int kvs.length) H) fLenK := fun L env σ H Q p d k ok w h q => by
  match d, w, h with
  | .dK kds, ⟨kvs, e, hk, _⟩, h =>
    refine ⟨p, kvs, rfl, e, q _ _ _ h (post_s ok ?_)⟩
    rw [keys_len hk]
    exact .int _
def fListK : D → (AV → Prop) → Prop := fun d k => match d with
  | .dK kds => k (.f (.lst (kds.map fun kv => ofKey kv.1)))
  | _ => False
theorem cl_listDK : CaO S B rListD fListK := fun L env σ H Q p d k ok w h q => by
  match d, w, h with
  | .dK kds, ⟨kvs, e, hk, _⟩, h =>
    refine ⟨p, kvs, rfl, e, fun l hl => q _ _ _ h (post_lst ok hl ?_)⟩
    have := rds_keys (S := S) (A := Av B L env σ) (H := H) (kvs.map (·.1))
    rw [hk] at this
    rw [map_fst, map_fst, hk]
    exact this
def fLenN : D → (AV → Prop) → Prop := fun d k => match d with
  | .dN kds => k (.s (.int kds.length))
  | _ => False
theorem cl_lenDN {K : PySem.W.Frag} {P : Program} {w : World} (hK : S.K = K := by rfl) (hP : S.P = P := by rfl) (hw : S.w = w := by rfl) : CaO S B (fun zs H Q => ∃ a kvs, zs = [.ref a] ∧ NeD.ND K P w H a kvs ∧ Q (.int kvs.length) H) fLenN := by
  subst hK hP hw
  exact fun L env σ H Q p d k ok w h q => by
    match d, w, h with
    | .dN kds, ⟨kvs, e, hk, _⟩, h =>
      refine ⟨p, kvs, rfl, e.nd, q _ _ _ h (post_s ok ?_)⟩
      rw [keys_len hk]
      exact .int _
mutual
def ofKeyN : NestedKey → D
  | .none => .non
  | .num i => .int i
  | .text x => .str x
  | .tup ks => .tup (ofKeysN ks)
def ofKeysN : List NestedKey → List D
  | [] => []
  | k :: ks => ofKeyN k :: ofKeysN ks
end
mutual
theorem ns_rd {A : As} : ∀ {v : V} {k : NestedKey}, NS H v k → RD S A H v (ofKeyN k)
  | _, _, .non => .non
  | _, _, .int i => .int i
  | _, _, .str x => .str x
  | _, _, .tup h r => .tup h (nss_rd r)
theorem nss_rd {A : As} : ∀ {vs : List V} {ks : List NestedKey}, NSs H vs ks → RDs S A H vs (ofKeysN ks)
  | _, _, .nil => .nil
  | _, _, .cons h r => .cons (ns_rd h) (nss_rd r)
end
def fListN : D → (AV → Prop) → Prop := fun d k => match d with
  | .dN kds => k (.f (.lst (kds.map fun kv => ofKeyN kv.1)))
  | _ => False
theorem rds_ents {A : As} : ∀ {xs : List NeD.Ent}, (∀ x ∈ xs, NS H (.ref x.2.1) x.1 ∧ x.1.depth ≤ 8) → RDs S A H ((xs.map fun x => x.2.1).map V.ref) (xs.map fun x => ofKeyN x.1)
  | [], _ => .nil
  | x :: xs, h => .cons (ns_rd (h x List.mem_cons_self).1) (rds_ents fun y hy => h y (List.mem_cons_of_mem _ hy))
theorem cl_listDN {K : PySem.W.Frag} {P : Program} {w : World} (hK : S.K = K := by rfl) (hP : S.P = P := by rfl) (hw : S.w = w := by rfl) : CaO S B (fun zs H Q => ∃ a xs, zs = [.ref a] ∧ NeD.NE K P w H a xs ∧ ∀ p, H p = none → Q (.ref p) (upd H p (.lst ((xs.map fun x => x.2.1).map V.ref)))) fListN := by
  subst hK hP hw
  exact fun L env σ H Q p d k ok w h q => by
    match d, w, h with
    | .dN kds, ⟨kvs, ⟨xs, e, ek, hk, hn, hz⟩, hks, _⟩, h =>
      refine ⟨p, xs, rfl, ⟨e, fun x hx => ⟨(hk x hx).1.nk, (hk x hx).2⟩, hn, hz⟩, fun l hl => q _ _ _ h (post_lst ok hl ?_)⟩
      have := rds_ents (S := S) (A := Av B L env σ) hk
      rw [map_fst (f := ofKeyN), show xs.map (·.1) = kds.map (·.1) by rw [← hks, ek, List.map_map]; rfl, ← map_fst] at this
      exact this

/-! ### dicts of nested keys -/
mutual
theorem RD.keyS {A : As} : ∀ (d : D) (v : V) (k : NestedKey), RD S A H v d → d.keyN = some k → NS H v k
  | .non, _, _, .non, e => by cases e; exact .non
  | .int i, _, _, .int _, e => by cases e; exact .int i
  | .str x, _, _, .str _, e => by cases e; exact .str x
  | .tup ds, _, k, .tup h r, e => by
    unfold D.keyN at e
    obtain ⟨ks, e1, rfl⟩ := Option.map_eq_some_iff.mp e
    exact .tup h (RDs.keyS ds _ ks r e1)
theorem RDs.keyS {A : As} : ∀ (ds : List D) (vs : List V) (ks : List NestedKey), RDs S A H vs ds → keysN ds = some ks → NSs H vs ks
  | [], _, _, .nil, e => by cases e; exact .nil
  | d :: ds, _, ks, .cons h r, e => by
    unfold keysN at e
    split at e
    · rename_i k' ks' e1 e2
      cases e
      exact .cons (RD.keyS d _ _ h e1) (RDs.keyS ds _ _ r e2)
    · cases e
end
/-- a tuple as a key -/
def D.keyNT : D → Option NestedKey
  | .tup ds => (keysN ds).map .tup
  | _ => none
theorem TV.keyNT {A : As} {v : V} {d : D} {k : NestedKey} (h : TV S A H v d) (e : d.keyNT = some k) : ∃ b, v = .ref b ∧ NS H (.ref b) k := by
  match d, e with
  | .tup ds, e =>
    obtain ⟨ks, e1, rfl⟩ := Option.map_eq_some_iff.mp (show (keysN ds).map NestedKey.tup = some k from e)
    rcases h with h | ⟨p, rfl, h⟩
    · cases h with
      | tup h r => exact ⟨_, rfl, .tup h (RDs.keyS ds _ ks r e1)⟩
    · exact h.elim
def onN (k : List (NestedKey × D) → Prop) : D → Prop
  | .dN kds => k kds
  | _ => False
theorem onN_of {k : List (NestedKey × D) → Prop} : ∀ {d : D}, onN k d → ∃ kds, d = .dN kds ∧ k kds
  | .dN kds, h => ⟨kds, rfl, h⟩
def ownN (env : Env) (a : AV) (k : List (NestedKey × D) → Prop) : Prop := match a with
  | .r i => ownAt env i fun c => onN k c.d
  | _ => False
theorem ownN_hold {a : AV} {k : List (NestedKey × D) → Prop} (h : ownN env a k) : ownN env a.hold k := by cases a <;> exact h
theorem ownN_of {a : AV} {k : List (NestedKey × D) → Prop} {A : As} {x : V} (ok : Ok S B L env σ H) (h : ownN env a k) (l : VlA S A σ H x a) : ∃ (p : Addr) (kds : List (NestedKey × D)) (kvs : List (NestedKey × V)), x = .ref p ∧ NDS S H p kvs ∧ kvs.map (·.1) = kds.map (·.1) ∧ RDs S (Av B L env σ) H (kvs.map (·.2)) (kds.map (·.2)) ∧ k kds := by
  cases a with
  | s d => exact (show False from h).elim
  | f d => exact (show False from h).elim
  | r i =>
    obtain ⟨c, e4, e5, h2⟩ := ownAt_of (show ownAt env i (fun c => onN k c.d) from h)
    obtain ⟨p, hp, w⟩ := ok.ownd e4 e5
    have hv : σ[i]? = some (some x) := l
    rw [hv] at hp
    cases hp
    obtain ⟨kds, e, h3⟩ := onN_of h2
    rw [e] at w
    obtain ⟨kvs, h1, h4, h5⟩ := w
    exact ⟨p, kds, kvs, rfl, h1, h4, h5, h3⟩
def dNIn (neg : Bool) (ty td : TDE) : TDE := fun env k => ty env fun ak env1 => td env1 fun ad env2 => ob (ak.get env2) fun kd => ob kd.keyNT fun kk => ownN env2 ad fun kds => kk.depth ≤ 8 ∧ k (.s (.bl (if neg then !(valD kds kk).isSome else (valD kds kk).isSome))) env2
theorem lf_tin {K : PySem.W.Frag} {P : Program} {w : World} {neg : Bool} {ty td : TE} {dy dd : TDE} (h1 : LfE S B ty dy) (h2 : LfE S B td dd) (hK : S.K = K := by rfl) (hP : S.P = P := by rfl) (hw : S.w = w := by rfl) : LfE S B (NeD.tIn K P w neg ty td) (dNIn neg dy dd) := by
  subst hK hP hw
  exact fun L env σ H Q k ok h hk => by
    refine h1 L env σ H _ _ ok h fun ak env1 y H1 g1 p1 => ?_
    obtain ⟨ok1, st1, fin1⟩ := p1.held ok
    refine h2 _ env1 σ H1 _ _ ok1 g1 fun ad env2 x H2 g2 p2 => ?_
    obtain ⟨ok2, st2, l2⟩ := p2.vl ok1
    obtain ⟨ok3, l3, w3⟩ := fin1 env2 H2 ok2 st2
    obtain ⟨kd, e1, g2⟩ := ob_of g2
    obtain ⟨kk, e2, g2⟩ := ob_of g2
    have tk := l3.tv ok3 (by rw [AV.get_hold]; exact e1)
    obtain ⟨b, rfl, hb⟩ := tk.keyNT e2
    have l2' : VlA S (Av B L env2 σ) σ H2 x ad.hold := l2.weak w3
    obtain ⟨p, kds, kvs, rfl, h5, h6, h7, hd, g3⟩ := ownN_of ok3 (ownN_hold g2) l2'
    refine ⟨b, p, kvs, kk, rfl, rfl, h5.nd, hb.nk, hd, ?_⟩
    rw [(val_rds (k := kk) h6 h7).1]
    exact hk _ _ _ _ g3 ⟨st1.trans st2, ok3, .bl _⟩
def dNGet (td ty : TDE) : TDE := fun env k => td env fun ad env1 => ty env1 fun ak env2 => ob (ak.get env2) fun kd => ob kd.keyNT fun kk => ownN env2 ad fun kds => kk.depth ≤ 8 ∧ ob (valD kds kk) fun d => k (.s d) env2
theorem lf_nget {K : PySem.W.Frag} {P : Program} {w : World} {ty td : TE} {dy dd : TDE} (h1 : LfE S B td dd) (h2 : LfE S B ty dy) (hK : S.K = K := by rfl) (hP : S.P = P := by rfl) (hw : S.w = w := by rfl) : LfE S B (NeD.tGet K P w td ty) (dNGet dd dy) := by
  subst hK hP hw
  exact fun L env σ H Q k ok h hk => by
    refine h1 L env σ H _ _ ok h fun ad env1 x H1 g1 p1 => ?_
    obtain ⟨ok1, st1, fin1⟩ := p1.held ok
    refine h2 _ env1 σ H1 _ _ ok1 g1 fun ak env2 y H2 g2 p2 => ?_
    obtain ⟨ok2, st2, l2⟩ := p2.vl ok1
    obtain ⟨ok3, l3, w3⟩ := fin1 env2 H2 ok2 st2
    obtain ⟨kd, e1, g2⟩ := ob_of g2
    obtain ⟨kk, e2, g2⟩ := ob_of g2
    have tk : TV S (Av B L env2 σ) H2 y kd := (l2.weak w3).tv ok3 (by rw [AV.get_hold]; exact e1)
    obtain ⟨b, rfl, hb⟩ := tk.keyNT e2
    obtain ⟨p, kds, kvs, rfl, h5, h6, h7, hd, g3⟩ := ownN_of ok3 (ownN_hold g2) l3
    obtain ⟨d, e3, g4⟩ := ob_of g3
    obtain ⟨v, hv, rv⟩ := (val_rds (k := kk) h6 h7).2 d e3
    exact ⟨b, p, kvs, kk, v, rfl, rfl, h5.nd, hb.nk, hd, hv, hk _ _ _ _ g4 ⟨st1.trans st2, ok3, rv⟩⟩
def dNPut (td ty tv : TDE) : TDS := fun E env => tv env fun av env1 => td env1 fun ad env2 => ty env2 fun ak env3 => ob (ak.get env3) fun kd => ob kd.keyNT fun kk => shr env3 av fun d env4 => match ad with
  | .r i => ownAt env4 i fun c => onN (fun kds => kk.depth ≤ 8 ∧ kds.length < sizeLine ∧ E.nx (env4.set i (some (c.with (.dN (putD kds kk d)))))) c.d
  | _ => False
theorem lf_nput {K : PySem.W.Frag} {P : Program} {w : World} {td ty tv : TE} {dd dy dv : TDE} (h1 : LfE S B td dd) (h2 : LfE S B ty dy) (h3 : LfE S B tv dv) (hK : S.K = K := by rfl) (hP : S.P = P := by rfl) (hw : S.w = w := by rfl) : LfS S B (NeD.sPutE K P w td ty tv) (dNPut dd dy dv) := by
  subst hK hP hw
  exact fun L env σ H W E ok h r => by
    refine h3 L env σ H _ _ ok h fun av env1 v H1 g1 p1 => ?_
    obtain ⟨ok1, st1, fin1⟩ := p1.held ok
    refine h1 _ env1 σ H1 _ _ ok1 g1 fun ad env2 x H2 g2 p2 => ?_
    obtain ⟨ok2, st2, fin2⟩ := p2.held ok1
    refine h2 _ env2 σ H2 _ _ ok2 g2 fun ak env3 y H3 g3 p3 => ?_
    obtain ⟨ok3, st3, l3⟩ := p3.vl ok2
    obtain ⟨ok4, l4, w4⟩ := fin2 env3 H3 ok3 st3
    obtain ⟨ok5, l5, w5⟩ := fin1 env3 H3 ok4 (st2.trans st3)
    obtain ⟨kd, e1, g3⟩ := ob_of g3
    obtain ⟨kk, e2, g3⟩ := ob_of g3
    have l3' : VlA S (Av B L env3 σ) σ H3 y ak.hold := (l3.weak w4).weak w5
    have tk := l3'.tv ok5 (by rw [AV.get_hold]; exact e1)
    obtain ⟨b, rfl, hb⟩ := tk.keyNT e2
    obtain ⟨d, env4, g4, ok6, st6, rd⟩ := l5.shr ok5 g3
    cases ad with
    | s d => exact (show False from g4).elim
    | f d => exact (show False from g4).elim
    | r i =>
      have hv : σ[i]? = some (some x) := l4
      obtain ⟨c, e4, e5, g5⟩ := ownAt_of g4
      obtain ⟨p, hp, w⟩ := ok6.ownd e4 e5
      rw [hv] at hp
      cases hp
      have how : Av B L env4 σ p := .inr (.inr ⟨i, c, e4, e5, hv⟩)
      have stA := st1.trans (st2.trans (st3.trans st6))
      obtain ⟨kds, ed, hd, hl, g6⟩ := onN_of g5
      rw [ed] at w
      obtain ⟨kvs, ⟨xs, ex, ek, hks, hn, hz⟩, hk, rs⟩ := w
      obtain ⟨q1, q2⟩ := put_rds (k := kk) rd hk rs
      have hxl : xs.length < sizeLine := by
        have e1 := keys_len hk
        rw [ek, List.length_map] at e1
        rw [e1]
        exact hl
      refine ⟨b, p, xs, kk, rfl, rfl, ⟨ex, fun z hz => ⟨(hks z hz).1.nk, (hks z hz).2⟩, hn, hz⟩, hb.nk, hd, ?_⟩
      have up : ∀ (c : Addr) (ys : List V), H3 c = some (.tup ys) → (upd H3 p (NeD.dno S.P S.w p (NeD.putX xs kk b v))) c = some (.tup ys) := fun c ys q => by
        rw [upd_ne (fun z => by subst z; rw [ex] at q; cases q)]
        exact q
      have hks2 : ∀ z ∈ NeD.putX xs kk b v, NS (upd H3 p (NeD.dno S.P S.w p (NeD.putX xs kk b v))) (.ref z.2.1) z.1 ∧ z.1.depth ≤ 8 := fun z hz' => by
        rcases NeD.putX_mem hz' with ⟨x, hx, e1, e2⟩ | ⟨e1, e2⟩
        · rw [e1, e2]
          exact ⟨(hks x hx).1.mono up, (hks x hx).2⟩
        · rw [e1, e2]
          exact ⟨hb.mono up, hd⟩
      obtain ⟨ok7, st7⟩ := ok6.write (o := NeD.dno S.P S.w p (NeD.putX xs kk b v)) (d := .dN (putD kds kk d)) e4 e5 hv
        ⟨putK kvs kk v, ⟨NeD.putX xs kk b v, upd_same, by rw [NeD.putX_put, ek], hks2, NeD.putX_nodup hn, by have := NeD.putX_len xs kk b v; omega⟩, q1, q2.mono (kp_own how ⟨_, ex, trivial⟩)⟩
      exact r.nx _ _ _ g6 ok7 (stA.trans st7)
/-- tuple(range(n)) -/
def dTupRg (t : TDE) : TDE := fun env k => t env fun a env1 => match a.get env1 with
  | some (.int j) => RgOk 0 j ∧ k (.s (.tup (rng 0 j.toNat))) env1
  | _ => False
theorem rds_rng {A : As} : ∀ (xs : List Nat), RDs S A H (xs.map fun i : Nat => V.int (0 + (i : Nat))) (xs.map fun i : Nat => D.int (0 + (i : Int)))
  | [] => .nil
  | x :: xs => .cons (.int _) (rds_rng xs)
theorem lf_tupRg {ta : TE} {t : TDE} (he : LfE S B ta t) : LfE S B (tTupRg (tRg1 ta)) (dTupRg t) := fun L env σ H Q k ok h hk => by
  refine he L env σ H _ _ ok h fun av env1 v H1 h1 p1 => ?_
  obtain ⟨ok1, st1, l1⟩ := p1.vl ok
  split at h1
  · rename_i j e
    have hv := l1.tv ok1 (d := .int j) (by rw [AV.get_hold]; exact e)
    rw [hv.int]
    obtain ⟨hr, h2⟩ := h1
    refine ⟨j, rfl, hr, fun q hq => ?_⟩
    unfold rgV
    rw [Int.sub_zero]
    exact hk _ _ _ _ h2 ((post_tup ok1 hq (rds_rng _)).trans st1)
  · exact h1.elim
theorem piL {K : PySem.W.Frag} {X : Cx} {tg t : Expr} {te : TE} (h : X.K = K) (ht : PE X t te) : PI X tg t (iList K te) := by
  subst h
  exact pi_list ht
end Dl
/-! tuple * n, n from 1 on: my own rule beside the layer's for n from 2 on -/
namespace RpT
open PySem PySem.Spec PyProof.Rows L2
theorem tuple_mul1 (l : Addr) (items : Array Value) (n : Nat) (dd : Option Addr) (sl : Array (Option Value)) (u : Tok) : Meets (Builtin.«tuple.__mul__» {pos := [.ref l, .int 1 u]}) fun _ R s => s.heap.get? l = some {cls := .type "tuple", dict := dd, data := .seq items n, slots := sl} ∧ R (.ok (.ret (.ref l))) s := by
  refine Meets.of_wp fun prog w A R s h => ?_
  obtain ⟨hl, hR⟩ := h
  obtain ⟨h, g, d, t, os⟩ := s
  show wpAny _ _ (asIndex (Value.int 1 u) >>= fun n => ite ((decide (n < -2 ^ 63) || decide (n ≥ 2 ^ 63)) = true) _ (Builtin.Tuple.tupleItemsOf (.ref l) >>= fun xs => ite ((xs.isEmpty || n == 1) = true) (Builtin.Tuple.tupleIsExact (.ref l) >>= fun b => ite (b = true) (rule "tuple.repeat.same-object" >>= fun _ => ret (.ref l)) _) _)) _ _ _
  refine wpAny_bind ?_
  refine wpAny_bind ?_
  refine wpAny_pure ?_
  refine wpAny_pure ?_
  refine wpAny_ite_false (by decide) ?_
  refine wpAny_bind ?_
  refine wpAny_bind ?_
  refine wpAny_bind ?_
  refine wpAny_load' hl ?_
  refine wpAny_pure ?_
  refine wpAny_pure ?_
  refine wpAny_ite_true (by simp) ?_
  refine wpAny_bind ?_
  refine wpAny_bind ?_
  refine wpAny_typeOf_ref hl ?_
  refine wpAny_pure ?_
  refine wpAny_ite_true (show decide ((Value.type "tuple" == Value.type "tuple") = true) = true by decide) ?_
  refine wpAny_bind ?_
  refine wpAny_rule ?_
  refine wpAny_pure ?_
  exact ⟨_, rfl, hR⟩
def rRepTA (K : PySem.W.Frag) : R2 := fun x y H Q => ∃ l k xs, x = .ref l ∧ y = .int k ∧ SqT K H l xs ∧ xs ≠ [] ∧ 1 ≤ k ∧ k ≤ 1000 ∧ xs.length ≤ 1000 ∧ (k = 1 → Q (.ref l) H) ∧ (2 ≤ k → ∀ p, H p = none → Q (.ref p) (upd H p (.tup (List.replicate k.toNat xs).flatten)))
theorem op_repTA {X : Cx} : OpR X (binaryOp .Mult) (rRepTA X.K) := by
  intro pins s σ H x y v u Q I rx ry h
  obtain ⟨l, k, xs, rfl, rfl, hT, hne, h1, h2, hz, q1, q2⟩ := h
  by_cases e : k = 1
  · subst e
    obtain ⟨t, rfl⟩ := ry
    cases rx
    obtain ⟨its, r, ⟨⟨cls, dd, data, sl⟩, ho, hc, n, hd⟩, hs⟩ := I.tuple hT
    cases hc
    cases hd
    have ht : s.TypeIs (Value.ref l) "tuple" := ⟨_, ho, rfl⟩
    refine wpAny_binaryOp_repeat_ref (T := "tuple") (U := "int") (id := "tuple.__mul__") (idr := "int.__rmul__") (by decide) ht (fun s' => typeIs_int _ _ _) noFill_tuple_mul F.fills_int_mul F.slot_int_rmul repeat_tuple F.slot_int_index.lookup ?_
    refine call_meets F.slot_int_rmul (typeIs_int _ _ _) F.entry_int_rmul (F.args_int_rmul_2 _ _) (int_rmul_tuple _ _ _ _ _ _ _) ⟨ho, rfl, ht, ?_⟩
    refine call_meets F.slot_tuple_mul ht F.entry_tuple_mul (F.args_tuple_mul_2 _ _) (tuple_mul1 _ _ _ _ _ _) ⟨ho, ?_⟩
    exact ⟨V.ref l, H, I, rfl, q1 rfl⟩
  · exact op_repT pins s σ H _ _ v u Q I rx ry ⟨l, k, xs, rfl, rfl, hT, hne, by omega, h2, hz, q2 (by omega)⟩
end RpT
/-! DLX: errors. -/
namespace Dl
open PySem L2
abbrev XF := Addr → Option (List (Str × D)) → Env → Prop
abbrev TDX := Env → (AV → Env → Prop) → XF → Prop
/-- an expression that may raise -/
def LfX (S : Sys) (B : Vol) (te : TE) (t : TDX) : Prop := ∀ (L : As) (env : Env) (σ : St) (H : Hp) (Q : VK) (k : AV → Env → Prop) (kx : XF), Ok S B L env σ H → t env k kx →
  (∀ av env' v H', k av env' → Post S B L env σ H av env' v H' → Q v H') →
  (∀ C fo env' dd H', kx C fo env' → Ok S B L env' σ H' → Step B env σ H env' σ H' → XdI S (Av B L env' σ) H' dd fo → B.W (.ref C) dd σ H') → te σ H Q
section
variable {S : Sys} {B : Vol} {L : As} {env env' : Env} {σ σ' : St} {H H' : Hp}
/-- where nothing is raised -/
theorem lf_noX {te : TE} {t : TDX} (h : LfX S B te t) : LfE S B te (fun env k => t env k fun _ _ _ => False) := fun L env σ H Q k ok h0 hk => h L env σ H Q k _ ok h0 hk fun _ _ _ _ _ z => z.elim
def dSetX (i : Nat) (t : TDX) : TDS := fun E env => t env (fun a env1 => shr env1 a fun d env2 => Nat.blt i env2.length = true ∧ E.nx (env2.set i (some (.s d)))) E.xx
theorem lf_setX {te : TE} {t : TDX} {i : Nat} (he : LfX S B te t) : LfS S B (tAsg te (gName i)) (dSetX i t) := fun L env σ H W E ok h r =>
  he L env σ H _ _ _ ok h (fun av env1 v H1 h1 p1 => by
    obtain ⟨ok1, st1, l1⟩ := p1.vl ok
    obtain ⟨d, env2, ⟨hl, h2⟩, ok2, st2, r2⟩ := l1.shr ok1 h1
    obtain ⟨ok3, st3⟩ := ok2.setS (Nat.le_of_ble_eq_true hl) r2
    exact r.nx _ _ _ h2 ok3 (st1.trans (st2.trans st3))) fun C fo env' dd H' k o st x => r.xx C fo env' σ H' dd k o st x
def dDropX (t : TDX) : TDS := fun E env => t env (fun _ env1 => E.nx env1) E.xx
theorem lf_dropX {te : TE} {t : TDX} (he : LfX S B te t) : LfS S B (tDrop te) (dDropX t) := fun L env σ H W E ok h r =>
  he L env σ H _ _ _ ok h (fun av env1 v H1 h1 p1 => by
    obtain ⟨ok1, st1, _⟩ := p1.vl ok
    exact r.nx _ _ _ h1 ok1 st1) fun C fo env' dd H' k o st x => r.xx C fo env' σ H' dd k o st x
def dRetX (t : TDX) : TDS := fun E env => t env (fun a env1 => E.rt a env1) E.xx
theorem lf_retX {te : TE} {t : TDX} (he : LfX S B te t) : LfS S B (tRet te) (dRetX t) := fun L env σ H W E ok h r =>
  he L env σ H _ _ _ ok h (fun av env1 v H1 h1 p1 => r.rt _ _ _ _ _ h1 p1.1 p1.2) fun C fo env' dd H' k o st x => r.xx C fo env' σ H' dd k o st x
def dAsgX (t : TDX) (g : TDG) : TDS := fun E env => t env (fun a env1 => shr env1 a fun d env2 => g d env2 E.nx) E.xx
theorem lf_asgX {te : TE} {tg : TG} {t : TDX} {g : TDG} {ts : List Nat} (he : LfX S B te t) (hg : LfG S B tg g ts) : LfS S B (tAsg te tg) (dAsgX t g) := fun L env σ H W E ok h r =>
  he L env σ H _ _ _ ok h (fun av env1 v H1 h1 p1 => by
    obtain ⟨ok1, st1, l1⟩ := p1.vl ok
    obtain ⟨d, env2, h2, ok2, st2, r2⟩ := l1.shr ok1 h1
    exact hg L env2 σ H1 v d _ _ ok2 r2 h2 fun env3 σ3 h3 ok3 st3 _ => r.nx _ _ _ h3 ok3 (st1.trans (st2.trans st3))) fun C fo env' dd H' k o st x => r.xx C fo env' σ H' dd k o st x

/-! ### promises of defs that may raise -/
abbrev DSpX := List D → (D → Bool → Option D → Prop) → (Addr → Option (List (Str × D)) → Option D → Prop) → Prop
structure ResX (S : Sys) (B : Vol) (A M : As) (H H' : Hp) (fo : Option (List (Str × D))) (md : Option D) (dd : Option Addr) : Prop where
  e : ∀ a o, H a = some o → ¬ M a → ¬ B.V a → H' a = some o
  al : ∀ a, H' a = none → H a = none
  bag : B.Bag H'
  ms : MsOk S A H' M md
  x : XdI S A H' dd fo
def spDX (S : Sys) (Bs : Vol → List D → Prop) (mp : Option Nat) (ms : List Bool) (f : DSpX) : Sp := fun vs H Q E => ∃ (B : Vol) (L : As) (ds : List D), Bs B ds ∧ B.Bag H ∧ (∀ a, L a → H a ≠ none) ∧ (∀ a, B.V a → ¬ L a) ∧ (∀ a, MA mp vs a → ¬ B.V a) ∧ ArgsOk S L (Ao B L mp vs) H mp ms vs ds ∧
  ∃ k kx, f ds k kx ∧ (∀ d fr md v H', k d fr md → ResOk S B (Ao B L mp vs) (MA mp vs) H H' d fr md v → Q v H') ∧ ∀ C fo md dd H', kx C fo md → ResX S B (Ao B L mp vs) (MA mp vs) H H' fo md dd → E (.ref C) dd H'
def finX (mp : Option Nat) (kx : Addr → Option (List (Str × D)) → Option D → Prop) (C : Addr) (fo : Option (List (Str × D))) (env : Env) : Prop := match mp with
  | none => kx C fo none
  | some j => match env[j]? with
    | some (some (.m d)) => kx C fo (some d)
    | _ => False
end
def Vol.wish (B : Vol) (W : WX) : Vol := { B with W := W }
section
variable {S : Sys} {B : Vol} {L : As} {env env' : Env} {σ σ' : St} {H H' : Hp} {W : WX}
theorem Ok.wish (o : Ok S B L env σ H) : Ok S (B.wish W) L env σ H := ⟨o.len, o.at_, o.inj, o.sep, o.al, o.bag, o.dv⟩
theorem Ok.unwish (o : Ok S (B.wish W) L env σ H) : Ok S B L env σ H := ⟨o.len, o.at_, o.inj, o.sep, o.al, o.bag, o.dv⟩
theorem Step.wish (o : Step B env σ H env' σ' H') : Step (B.wish W) env σ H env' σ' H' := ⟨o.e, o.n, o.m, o.b, o.al⟩
theorem Step.unwish (o : Step (B.wish W) env σ H env' σ' H') : Step B env σ H env' σ' H' := ⟨o.e, o.n, o.m, o.b, o.al⟩
theorem PostV.unwish {v : V} : ∀ {av : AV}, PostV S (B.wish W) L env σ H H' v av → PostV S B L env σ H H' v av
  | .s d, ⟨o, r⟩ => ⟨o.unwish, r⟩
  | .f d, ⟨p, e, n, o, w⟩ => ⟨p, e, n, o.unwish, w⟩
  | .r i, ⟨o, h⟩ => ⟨o.unwish, h⟩
end
section
variable {S : Sys} {B : Vol} {L : As} {H H' : Hp} {mp : Option Nat} {ms : List Bool} {vs : List V} {ds : List D} {N : List Str}
theorem finX_ok (hL : ∀ x, L x → H x ≠ none) (hB : B.Bag H) (hVL : ∀ a, B.V a → ¬ L a) (hMV : ∀ a, MA mp vs a → ¬ B.V a) (a : ArgsOk S L (Ao B L mp vs) H mp ms vs ds) (hn : ms.length ≤ N.length) {kx : Addr → Option (List (Str × D)) → Option D → Prop} {C : Addr} {fo : Option (List (Str × D))} {dd : Option Addr} {env' : Env} {σ' : St} (hf : finX mp kx C fo env') (st : Step B (env0 mp 0 ms ds N.length) (L2.start N vs) H env' σ' H') (ok : Ok S B L env' σ' H') (x : XdI S (Av B L env' σ') H' dd fo) :
    ∃ md, kx C fo md ∧ ResX S B (Ao B L mp vs) (MA mp vs) H H' fo md dd := by
  have hm : ∃ md, kx C fo md ∧ ∀ x, MA mp vs x → ∃ (j : Nat) (d : D), md = some d ∧ env'[j]? = some (some (.m d)) ∧ σ'[j]? = some (some (.ref x)) := by
    cases mp with
    | none => exact ⟨none, hf, fun x ⟨i, e, _⟩ => nomatch e⟩
    | some j =>
      have hf : (match env'[j]? with | some (some (.m d)) => kx C fo (some d) | _ => False : Prop) := hf
      split at hf
      · rename_i d e
        refine ⟨some d, hf, fun x ⟨i, ei, hv⟩ => ?_⟩
        cases ei
        exact ⟨j, d, rfl, e, by rw [(st.m j d e).2]; exact start_get hv⟩
      · exact hf.elim
  obtain ⟨md, hf, hm⟩ := hm
  have hMow : ∀ x, MA mp vs x → Ow B env' σ' x := fun x hx => by
    obtain ⟨j, d, _, e, e2⟩ := hm x hx
    exact .inr ⟨j, _, e, rfl, e2⟩
  have w : ∀ x, Ao B L mp vs x → Av B L env' σ' x := fun x z => z.elim .inl fun y => .inr (y.elim .inl (hMow x))
  refine ⟨md, hf, fun x o h1 h2 h3 => st.e x o h1 fun z => (start_ow a z).elim h3 h2, st.al, ok.bag, fun x hx => ?_, x.weak w⟩
  obtain ⟨j, d, e, e2, e3⟩ := hm x hx
  obtain ⟨p, hp, o⟩ := ok.ownd e2 rfl
  rw [e3] at hp
  cases hp
  exact ⟨d, e, o.weak w⟩
end
section
variable {P : Program} {w : World} {K : PySem.W.Frag} {mg : Str → Option Value} {base : Heap}
/-- a def that may raise keeps its promise -/
theorem okDX {x qual : Str} {st : Stmt} {f : Addr} {fd : FuncData} {N ps : List Str} {lv : Nat} {mp : Option Nat} {ms : List Bool} {sp : DSpX} {Bs : Vol → List D → Prop} (F : Fun K x qual st f fd) (Sc : FnScope N ps (defScope st)) (hl : ms.length = ps.length) (hn : ms.length ≤ N.length)
    (hbs : ∀ B W ds, Bs B ds → Bs (B.wish W) ds)
    (hbody : ∀ (cdv : Value) (A : Around) (outer : List PySem.Env) (s : Shared) (H : Hp) (E : XK), Room lv (A.deeper (PyProof.Rows.envOfC qual (defScope st) s.heap.objs.size f cdv)) →
      ∃ (t : TS) (dt : Vol → TDS), PSs (cxOf (L2.CX P w) P w K mg base N qual (defScope st) f cdv A outer s H E) (defBody st) t ∧ (∀ B, B.W = (fun c d _ H => E c d H) → LfS ⟨P, w, K⟩ B t (dt B)) ∧ ∀ B ds k kx, Bs B ds → ds.length = ms.length → sp ds k kx → dt B { nx := fun e => fin mp k (.s .non) e, rt := fin mp k, xx := finX mp kx } (env0 mp 0 ms ds N.length)) : FnOk P w K mg base (L2.CX P w) (lv + 1) f fd ps (spDX ⟨P, w, K⟩ Bs mp ms sp) := by
  refine F.okX Sc (fun vs H Q E h => ?_) (fun cdv A outer s H vs Q E hr h => ?_)
  · obtain ⟨B, L, ds, _, _, _, _, _, a, _⟩ := h
    exact a.lv.trans hl
  · obtain ⟨B, L, ds, hBs, hB, hL, hVL, hMV, a, k, kx, hk, hQ, hX⟩ := h
    obtain ⟨t, dt, h1, h2, h3⟩ := hbody cdv A outer s H E hr
    have ok0 := start_ok hL hB hVL hMV a hn
    refine ⟨t, h1, h2 (B.wish _) rfl L _ _ H _ _ ok0.wish (h3 (B.wish _) ds k kx (hbs _ _ _ hBs) a.ld hk) ⟨fun e σ' H' g o st => ?_, fun av e σ' v H' g st pv => ?_, fun _ _ _ z => z.elim, fun _ _ _ z => z.elim, fun C fo e σ' H' dd g o st x => ?_⟩⟩
    · obtain ⟨d, fr, md, hkk, r⟩ := fin_ok hL hB hVL hMV a hn (v := .non) g st.unwish ⟨o.unwish, .non⟩
      exact hQ d fr md _ _ hkk r
    · obtain ⟨d, fr, md, hkk, r⟩ := fin_ok hL hB hVL hMV a hn g st.unwish pv.unwish
      exact hQ d fr md _ _ hkk r
    · obtain ⟨md, hkk, r⟩ := finX_ok hL hB hVL hMV a hn g st.unwish o.unwish x
      exact hX C fo md dd H' hkk r
end
section
variable {P : Program} {w : World} {K : PySem.W.Frag} {mg : Str → Option Value} {base : Heap}
/-- a def with except clauses, of which nothing is raised -/
theorem okDT {x qual : Str} {st : Stmt} {f : Addr} {fd : FuncData} {N ps : List Str} {lv : Nat} {mp : Option Nat} {ms : List Bool} {sp : DSp} {Bs : Vol → List D → Prop} (F : Fun K x qual st f fd) (Sc : FnScope N ps (defScope st)) (hl : ms.length = ps.length) (hn : ms.length ≤ N.length)
    (hbs : ∀ B ds, Bs B ds → Bs (B.wish fun _ _ _ _ => False) ds)
    (hbody : ∀ (cdv : Value) (A : Around) (outer : List PySem.Env) (s : Shared) (H : Hp) (E : XK), Room lv (A.deeper (PyProof.Rows.envOfC qual (defScope st) s.heap.objs.size f cdv)) →
      ∃ (t : TS) (dt : Vol → TDS), PSs (cxOf CX0 P w K mg base N qual (defScope st) f cdv A outer s H E).nox (defBody st) t ∧ (∀ B, B.W = (fun _ _ _ _ => False) → LfS ⟨P, w, K⟩ B t (dt B)) ∧ ∀ B ds k, Bs B ds → ds.length = ms.length → sp ds k → dt B { nx := fun e => fin mp k (.s .non) e, rt := fin mp k } (env0 mp 0 ms ds N.length)) : FnOk P w K mg base CX0 (lv + 1) f fd ps (spD ⟨P, w, K⟩ Bs mp ms sp) := by
  refine F.ok Sc (fun vs H Q E h => ?_) (fun cdv A outer s H vs Q E hr h => ?_)
  · obtain ⟨B, L, ds, _, _, _, _, _, a, _⟩ := h
    exact a.lv.trans hl
  · obtain ⟨B, L, ds, hBs, hB, hL, hVL, hMV, a, k, hk, hQ⟩ := h
    obtain ⟨t, dt, h1, h2, h3⟩ := hbody cdv A outer s H E hr
    have ok0 := start_ok hL hB hVL hMV a hn
    refine ⟨t, h1, h2 (B.wish _) rfl L _ _ H _ _ ok0.wish (h3 (B.wish _) ds k (hbs _ _ hBs) a.ld hk) ⟨fun e σ' H' g o st => ?_, fun av e σ' v H' g st pv => ?_, fun _ _ _ z => z.elim, fun _ _ _ z => z.elim, fun _ _ _ _ _ _ z => z.elim⟩⟩
    · obtain ⟨d, fr, md, hkk, r⟩ := fin_ok hL hB hVL hMV a hn (v := .non) g st.unwish ⟨o.unwish, .non⟩
      exact hQ d fr md _ _ hkk r
    · obtain ⟨d, fr, md, hkk, r⟩ := fin_ok hL hB hVL hMV a hn g st.unwish pv.unwish
      exact hQ d fr md _ _ hkk r
end
/-! ### calls of such -/
def dCallX (mp : Option Nat) (ms : List Bool) (f : DSpX) (ta : TDA) : TDX := fun env k kx => ta env fun as env1 => escs ms mp 0 as env1 fun env2 => mOk env2 ms mp 0 as = true ∧ ob (gets env2 as) fun ds => f ds (fun d fr md => setM mp as env2 md fun env3 => k (if fr = true then .f d else .s d) env3) fun C fo md => setM mp as env2 md fun env3 => kx C fo env3
section
variable {S : Sys} {B : Vol} {L : As} {env env' : Env} {σ : St} {H H' : Hp}
theorem lx_call {mp : Option Nat} {ms : List Bool} {f : DSpX} {ta : TA} {da : TDA} {Wx : WX} (Bx : Vol) (hx : Bx = noVol ∨ Bx = B) {Bs : Vol → List D → Prop} {f' : DSpX} (hf : ∀ ds k kx, f' ds k kx → Bs Bx ds ∧ f ds k kx) (hW : B.W = Wx) (ha : LfA S B ta da) (h00 : mp = none ∨ (mp = some 0 ∧ 0 < ms.length) := by first | exact .inl rfl | exact .inr ⟨rfl, by decide⟩) : LfX S B (tCallS (spDX S Bs mp ms f) (WE Wx) ta) (dCallX mp ms f' da) := fun L env σ H Q k kx ok h hk hkx => by
  subst hW
  have h0 : mp = none ∨ mp = some 0 := h00.imp id fun z => z.1
  refine ha L env σ H _ _ ok h fun avs env1 vs H1 h1 ok1 st1 l1 => ?_
  obtain ⟨env2, ⟨hm, h2⟩, ok2, st2, hlen⟩ := escs_ok ok1 l1 h1
  obtain ⟨ds, e2, h2⟩ := ob_of h2
  have l2 := VlAs.step ok1 st2 l1
  have hlv := vlas_len l2
  have hld := gets_len e2
  -- the changed one
  have hMa : ∀ a, MA mp vs a → ∃ n c, mp = some 0 ∧ avs[0]? = some (.r n) ∧ env2[n]? = some (some c) ∧ c.own = true ∧ σ[n]? = some (some (.ref a)) ∧ vs[0]? = some (.ref a) := fun a ⟨i, e, hv⟩ => by
    have e0 : i = 0 := by
      rcases h0 with h0 | h0
      · rw [h0] at e; cases e
      · rw [h0] at e; cases e; rfl
    subst e0
    have hl : 0 < avs.length := by rw [← hlv]; exact (List.getElem?_eq_some_iff.mp hv).1
    have ha0 := List.getElem?_eq_getElem hl
    have hb0 := List.getElem?_eq_getElem (show 0 < ms.length by rw [mOk_len hm]; exact hl)
    obtain ⟨n, c, ea, ec, eo⟩ := (mOk_at hm hb0 ha0).1 (isM_iff.mpr e)
    have z := vlas_at l2 hv ha0
    rw [ea] at z ha0
    exact ⟨n, c, e, ha0, ec, eo, z, hv⟩
  have hMo : ∀ a, MA mp vs a → Ow B env2 σ a := fun a h => by
    obtain ⟨n, c, _, _, ec, eo, es, _⟩ := hMa a h
    exact .inr ⟨n, c, ec, eo, es⟩
  have hMV : ∀ a, MA mp vs a → ¬ B.V a := fun a h => by
    obtain ⟨n, c, _, _, ec, eo, es, _⟩ := hMa a h
    exact ok2.dv n c a ec eo es
  have hxV : ∀ a, Bx.V a → B.V a := fun a h => by
    rcases hx with e | e
    · rw [e] at h; exact h.elim
    · rw [← e]; exact h
  let Lc : As := fun a => Av B L env2 σ a ∧ ¬ MA mp vs a ∧ ¬ Bx.V a
  have hA : ∀ a, Ao Bx Lc mp vs a ↔ Av B L env2 σ a := fun a => ⟨fun z => z.elim (fun y => y.1) fun y => .inr (y.elim (fun y => .inl (hxV a y)) (hMo a)), fun z => by
    by_cases q : MA mp vs a
    · exact .inr (.inr q)
    · by_cases q2 : Bx.V a
      · exact .inr (.inl q2)
      · exact .inl ⟨z, q, q2⟩⟩
  have eA : Ao Bx Lc mp vs = Av B L env2 σ := funext fun a => propext (hA a)
  have hLc : ∀ a, Lc a → H1 a ≠ none := fun a z => by
    rcases z.1 with y | y
    · exact ok2.al a y
    · obtain ⟨o, ho, _⟩ := ok2.ow y
      rw [ho]
      exact fun z => nomatch z
  have args : ArgsOk S Lc (Ao Bx Lc mp vs) H1 mp ms vs ds := by
    refine ⟨by rw [hlv, mOk_len hm], by rw [hld, mOk_len hm], fun i b v d g1 g2 g3 => ?_, fun i e => ?_⟩
    · rw [eA]
      have hi : i < avs.length := by rw [← hlv]; exact (List.getElem?_eq_some_iff.mp g2).1
      have ga := List.getElem?_eq_getElem hi
      have va := vlas_at l2 g2 ga
      have gd := gets_at e2 g3 ga
      have hmo := mOk_at hm g1 ga
      rw [Nat.zero_add] at hmo
      unfold ArgOk
      cases q : isM mp i with
      | true =>
        obtain ⟨n, c, ea, ec, eo⟩ := hmo.1 q
        rw [ea] at va gd
        obtain ⟨p, hp, w⟩ := ok2.ownd ec eo
        have va : σ[n]? = some (some v) := va
        rw [va] at hp
        cases hp
        have hd : c.d = d := by
          have gd : (match env2[n]? with | some (some c) => some c.d | _ => none) = some d := gd
          rw [ec] at gd
          exact Option.some.inj gd
        rw [← hd]
        exact ⟨p, rfl, fun z => z.2.1 ⟨i, isM_iff.mp q, g2⟩, w⟩
      | false =>
        have nm : mp ≠ some i := fun e => by
          have := isM_iff.mpr e
          rw [q] at this
          cases this
        cases b with
        | false =>
          rcases hmo.2 q rfl with ⟨x, ea⟩ | ⟨n, x, ea, ec⟩
          · rw [ea] at va gd
            cases gd
            exact va
          · rw [ea] at va gd
            have gd : (match env2[n]? with | some (some c) => some c.d | _ => none) = some d := gd
            rw [ec] at gd
            cases gd
            exact ok2.slot ec va
        | true =>
          show RD S (Av B L env2 σ) H1 v d ∨ ∃ p, v = .ref p ∧ Lc p ∧ Top S (Av B L env2 σ) H1 p d
          cases ea : avs[i] with
          | s x =>
            rw [ea] at va gd
            cases gd
            exact .inl va
          | f x =>
            rw [ea] at va
            exact va.elim
          | r n =>
            rw [ea] at va gd ga
            have va : σ[n]? = some (some v) := va
            have gd : (match env2[n]? with | some (some c) => some c.d | _ => none) = some d := gd
            split at gd
            · rename_i c ec
              cases gd
              have sl := ok2.slot ec va
              have hne : ∀ p, v = .ref p → c.own = true → ¬ MA mp vs p := fun p ep eo hp => by
                obtain ⟨n', c', em, g4, g5, g6, g7, g8⟩ := hMa p hp
                rw [ep] at va
                have en := ok2.inj n n' c c' p ec eo g5 g6 va g7
                subst en
                have hi0 : 0 < i := by
                  rcases Nat.eq_zero_or_pos i with z | z
                  · subst z; exact (nm em).elim
                  · exact z
                exact mOk_nor (j := 0) (i := 0) (k := i) hm (isM_iff.mpr em) g4 hi0 ga rfl
              cases c with
              | s x => exact .inl sl
              | o x => obtain ⟨p, e, w⟩ := sl; exact .inr ⟨p, e, ⟨.inr (.inr ⟨n, _, ec, rfl, by rw [va, e]⟩), hne p e rfl, fun z => ok2.dv n _ p ec rfl (by rw [va, e]) (hxV p z)⟩, w.top⟩
              | m x => obtain ⟨p, e, w⟩ := sl; exact .inr ⟨p, e, ⟨.inr (.inr ⟨n, _, ec, rfl, by rw [va, e]⟩), hne p e rfl, fun z => ok2.dv n _ p ec rfl (by rw [va, e]) (hxV p z)⟩, w.top⟩
              | b x =>
                rcases sl with sl | ⟨p, e, l, w⟩
                · exact .inl sl
                · exact .inr ⟨p, e, ⟨.inl l, fun z => ok2.sep p (hMo p z) l, fun z => ok2.sep p (.inl (hxV p z)) l⟩, w⟩
            · cases gd
    · rcases h0 with h0 | h0
      · rw [h0] at e; cases e
      · have e1 : i = 0 := by rw [h0] at e; cases e; rfl
        subst e1
        rcases h00 with z | z
        · rw [z] at h0; cases h0
        · exact z.2
  have hBx : Bx.Bag H1 := by
    rcases hx with e | e
    · rw [e]; trivial
    · rw [e]; exact ok2.bag
  refine ⟨Bx, Lc, ds, (hf _ _ _ h2).1, hBx, hLc, fun a z y => y.2.2 z, fun a z y => hMV a z (hxV a y), args, _, _, (hf _ _ _ h2).2, fun d fr md v H' hkk r => ?_, fun C fo md dd H' hkk r => ?_⟩
  · rw [eA] at r
    -- the new state
    have hex : ∀ a o, H1 a = some o → ¬ Av B L env2 σ a → H' a = some o := fun a o h1 h2 => r.e a o h1 (fun z => h2 (.inr (hMo a z))) fun z => h2 (.inr (.inl (hxV a z)))
    have hbag : B.Bag H' := by
      rcases hx with e | e
      · exact B.stab H1 H' (fun a o va h => r.e a o h (fun z => hMV a z va) fun z => by rw [e] at z; exact z) ok2.bag
      · rw [← e]; exact r.bag
    have kpG : ∀ (A' : As), (∀ a, A' a → Av B L env2 σ a ∨ H1 a = none) → Kp (Av B L env2 σ) A' H1 H' := fun A' hA' => by
      have nt : ∀ q o, H1 q = some o → ¬ Mut (some o) → H' q = some o := fun q o h1 h2 => by
        have no : ¬ Ow B env2 σ q := fun z => by
          obtain ⟨u, hu, hmu⟩ := ok2.ow z
          rw [h1] at hu
          cases hu
          exact h2 hmu
        exact r.e q o h1 (fun z => no (hMo q z)) fun z => no (.inl (hxV q z))
      refine ⟨fun q xs h => ?_, fun q xs h => nt q _ h fun z => z, fun q xs h n => hex q _ h n, fun q ob xs h => nt q _ h fun z => z, fun q u h n => ⟨?_, fun z => ?_⟩, fun q C dx fs h n => hex q _ h n, fun q fs h => nt q _ h fun z => z⟩
      · rcases h with h | ⟨ob, h⟩
        · exact .inl (nt q _ h fun z => z)
        · exact .inr ⟨ob, nt q _ h fun z => z⟩
      · rcases h with h | ⟨ob, h⟩
        · exact .inl (hex q _ h n)
        · exact .inr ⟨ob, hex q _ h n⟩
      · rcases hA' q z with y | y
        · exact n y
        · rcases h with h | ⟨ob, h⟩ <;> · rw [y] at h; cases h
    have keyG : ∀ (Lx : As), (∀ a, L a → Lx a) → (∀ a, Lx a → L a ∨ H1 a = none) → (∀ a, Lx a → H' a ≠ none) → MsOk S (Av B Lx env2 σ) H' (MA mp vs) md → ∀ env3,
        (env3.length = env2.length ∧ ∀ (i : Nat) (c' : Cell), env3[i]? = some (some c') → (∃ a c0 d0, σ[i]? = some (some (.ref a)) ∧ MA mp vs a ∧ env2[i]? = some (some c0) ∧ c0.own = true ∧ c' = c0.with d0 ∧ md = some d0) ∨ (env2[i]? = some (some c') ∧ (c'.own = true → ∀ a, σ[i]? = some (some (.ref a)) → ¬ MA mp vs a))) →
        Ok S B Lx env3 σ H' ∧ Step B env2 σ H1 env3 σ H' ∧ ∀ a, Av B Lx env3 σ a → Av B Lx env2 σ a := fun Lx hx1 hx2 hx3 hms env3 ⟨hle, h3⟩ => by
      have own_with : ∀ {c : Cell} {d : D}, c.own = true → (c.with d).own = true := fun {c d} h => by cases c <;> first | rfl | cases h
      have hsub : ∀ a, Ow B env3 σ a → Ow B env2 σ a := fun a z => z.elim .inl fun ⟨i, c', g1, g2, g3⟩ => by
        rcases h3 i c' g1 with ⟨b, c0, d0, k1, k2, k3, k4, k5, _⟩ | ⟨k1, _⟩
        · exact .inr ⟨i, c0, k3, k4, g3⟩
        · exact .inr ⟨i, c', k1, g2, g3⟩
      have w : ∀ a, Av B Lx env3 σ a → Av B Lx env2 σ a := fun a z => z.elim .inl fun y => .inr (hsub a y)
      have kp : Kp (Av B L env2 σ) (Av B Lx env3 σ) H1 H' := kpG _ fun a z => z.elim (fun y => (hx2 a y).imp .inl id) fun y => .inl (.inr (hsub a y))
      refine ⟨⟨by rw [hle]; exact ok2.len, fun i c' g1 => ?_, fun i j c c' a g1 g2 g3 g4 g5 g6 => ?_, fun a z y => ?_, hx3, hbag, fun i c a g1 g2 g3 => ?_⟩, ⟨fun a o g1 g2 => r.e a o g1 (fun z => g2 (hMo a z)) fun z => g2 (.inl (hxV a z)), fun a z => .inl (hsub a z), fun i d' g1 => ?_, fun i d' g1 => ?_, r.al⟩, w⟩
      · rcases h3 i c' g1 with ⟨a, c0, d0, k1, k2, k3, k4, k5, k6⟩ | ⟨k1, k2⟩
        · refine ⟨_, k1, ?_⟩
          obtain ⟨d1, k7, k8⟩ := hms a k2
          rw [k6] at k7
          cases k7
          subst k5
          cases c0 with
          | o x => exact ⟨a, rfl, k8.weak w⟩
          | m x => exact ⟨a, rfl, k8.weak w⟩
          | s x => cases k4
          | b x => cases k4
        · obtain ⟨u, hu, z⟩ := ok2.at_ i c' k1
          refine ⟨u, hu, ?_⟩
          cases c' with
          | s x => exact RD.mono kp z
          | o x => obtain ⟨q, e, y⟩ := z; exact ⟨q, e, y.mono kp fun o g => r.e q o g (k2 rfl q (by rw [hu, e])) fun z => ok2.dv i _ q k1 rfl (by rw [hu, e]) (hxV q z)⟩
          | m x => obtain ⟨q, e, y⟩ := z; exact ⟨q, e, y.mono kp fun o g => r.e q o g (k2 rfl q (by rw [hu, e])) fun z => ok2.dv i _ q k1 rfl (by rw [hu, e]) (hxV q z)⟩
          | b x =>
            rcases z with z | ⟨q, e, l, y⟩
            · exact .inl (RD.mono kp z)
            · have nq : ¬ MA mp vs q := fun z => ok2.sep q (hMo q z) l
              have nv : ¬ Bx.V q := fun z => ok2.sep q (.inl (hxV q z)) l
              refine .inr ⟨q, e, hx1 q l, y.mono kp (fun u g => ?_) (fun C dx fs g => r.e q _ g nq nv) fun xs g => r.e q _ g nq nv⟩
              rcases g with g | ⟨ob, g⟩
              · exact .inl (r.e q _ g nq nv)
              · exact .inr ⟨ob, r.e q _ g nq nv⟩
      · have sub1 : ∀ {i : Nat} {c : Cell} {a : Addr}, env3[i]? = some (some c) → c.own = true → ∃ c0 : Cell, env2[i]? = some (some c0) ∧ c0.own = true := fun {i c a} g1 g2 => by
          rcases h3 i c g1 with ⟨b, c0, d0, k1, k2, k3, k4, k5, _⟩ | ⟨k1, _⟩
          · exact ⟨c0, k3, k4⟩
          · exact ⟨c, k1, g2⟩
        obtain ⟨c0, k1, k2⟩ := sub1 (a := a) g1 g2
        obtain ⟨c1, k3, k4⟩ := sub1 (a := a) g3 g4
        exact ok2.inj i j c0 c1 a k1 k2 k3 k4 g5 g6
      · rcases hx2 a y with y | y
        · exact ok2.sep a (hsub a z) y
        · obtain ⟨o, ho, _⟩ := ok2.ow (hsub a z)
          rw [y] at ho
          cases ho
      · rcases h3 i c g1 with ⟨b, c0, d0, k1, k2, k3, k4, k5, _⟩ | ⟨k1, _⟩
        · exact ok2.dv i c0 a k3 k4 g3
        · exact ok2.dv i c a k1 g2 g3
      · rcases h3 i _ g1 with ⟨b, c0, d0, k1, k2, k3, k4, k5, _⟩ | ⟨k1, _⟩
        · cases c0 with
          | m x => exact ⟨⟨x, k3⟩, rfl⟩
          | o x => cases k5
          | s x => cases k5
          | b x => cases k5
        · exact ⟨⟨_, k1⟩, rfl⟩
      · rcases h3 i _ g1 with ⟨b, c0, d0, k1, k2, k3, k4, k5, _⟩ | ⟨k1, _⟩
        · cases c0 with
          | b x => cases k4
          | m x => cases k5
          | o x => cases k5
          | s x => cases k5
        · exact ⟨k1, rfl⟩
    have hset : ∃ env3, k (if fr = true then .f d else .s d) env3 ∧ (env3.length = env2.length ∧ ∀ (i : Nat) (c' : Cell), env3[i]? = some (some c') → (∃ a c0 d0, σ[i]? = some (some (.ref a)) ∧ MA mp vs a ∧ env2[i]? = some (some c0) ∧ c0.own = true ∧ c' = c0.with d0 ∧ md = some d0) ∨ (env2[i]? = some (some c') ∧ (c'.own = true → ∀ a, σ[i]? = some (some (.ref a)) → ¬ MA mp vs a))) := by
      rcases h00 with e | ⟨e, hl⟩
      · subst e
        exact ⟨env2, hkk, rfl, fun i c' g => .inr ⟨g, fun _ a _ ⟨j, ej, _⟩ => nomatch ej⟩⟩
      · subst e
        have hkk : (match avs[0]?, md with | some (AV.r i), some x => ownAt env2 i fun c => k (if fr = true then .f d else .s d) (env2.set i (some (c.with x))) | _, _ => False) := hkk
        split at hkk
        · rename_i n x e1 e3
          obtain ⟨c, ec, eo, hkk⟩ := ownAt_of hkk
          obtain ⟨p, hp, _⟩ := ok2.ownd ec eo
          have hl0 : 0 < vs.length := by rw [args.lv]; exact hl
          have hv0 := List.getElem?_eq_getElem hl0
          have va : σ[n]? = some (some vs[0]) := vlas_at l2 hv0 e1
          have hma : MA (some 0) vs p := ⟨0, rfl, by rw [hv0, ← Option.some.inj (Option.some.inj (va.symm.trans hp))]⟩
          refine ⟨_, hkk, by rw [List.length_set], fun i c' g => ?_⟩
          rcases get_set g with ⟨g1, g2, _⟩ | ⟨g1, g2⟩
          · cases g2
            subst g1
            exact .inl ⟨p, c, x, hp, hma, ec, eo, rfl, rfl⟩
          · refine .inr ⟨g2, fun go a ga hm2 => ?_⟩
            obtain ⟨n', c2, _, q1, q2, q3, q4, _⟩ := hMa a hm2
            rw [e1] at q1
            cases q1
            exact g1 (ok2.inj i n c' c a g2 go ec eo ga q4)
        · exact hkk.elim
    obtain ⟨env3, hkk, h3⟩ := hset
    have st12 := st1.trans st2
    have hLk : ∀ a, L a → H' a ≠ none := fun a z y => ok2.al a z (r.al a y)
    cases fr with
    | true =>
      obtain ⟨p, rfl, hn, ow, hms⟩ := r.r
      have eW : ∀ a, Av B (La L p) env2 σ a ↔ La (Av B L env2 σ) p a := fun a => ⟨fun z => z.elim (fun y => y.elim (fun q => .inl (.inl q)) .inr) fun y => .inl (.inr y), fun z => z.elim (fun y => y.elim (fun q => .inl (.inl q)) .inr) fun y => .inl (.inr y)⟩
      have eW' : Av B (La L p) env2 σ = La (Av B L env2 σ) p := funext fun a => propext (eW a)
      obtain ⟨o3, s3, w3⟩ := keyG (La L p) (fun _ z => .inl z) (fun a z => z.elim .inl fun e => .inr (by rw [e]; exact hn)) (fun a z => z.elim (hLk a) fun e => by
        rw [e]
        obtain ⟨o, ho, _⟩ := ow.mut
        rw [ho]
        exact fun z => nomatch z) (by rw [eW']; exact hms) env3 h3
      exact hk _ _ _ _ hkk ⟨st12.trans s3, p, rfl, st12.al p hn, o3, ow.weak fun a z => (eW a).mp (w3 a z)⟩
    | false =>
      obtain ⟨rd, hms⟩ := r.r
      obtain ⟨o3, s3, w3⟩ := keyG L (fun _ z => z) (fun a z => .inl z) hLk hms env3 h3
      exact hk _ _ _ _ hkk ⟨st12.trans s3, o3, rd.weak w3⟩
  · rw [eA] at r
    -- the new state
    have hex : ∀ a o, H1 a = some o → ¬ Av B L env2 σ a → H' a = some o := fun a o h1 h2 => r.e a o h1 (fun z => h2 (.inr (hMo a z))) fun z => h2 (.inr (.inl (hxV a z)))
    have hbag : B.Bag H' := by
      rcases hx with e | e
      · exact B.stab H1 H' (fun a o va h => r.e a o h (fun z => hMV a z va) fun z => by rw [e] at z; exact z) ok2.bag
      · rw [← e]; exact r.bag
    have kpG : ∀ (A' : As), (∀ a, A' a → Av B L env2 σ a ∨ H1 a = none) → Kp (Av B L env2 σ) A' H1 H' := fun A' hA' => by
      have nt : ∀ q o, H1 q = some o → ¬ Mut (some o) → H' q = some o := fun q o h1 h2 => by
        have no : ¬ Ow B env2 σ q := fun z => by
          obtain ⟨u, hu, hmu⟩ := ok2.ow z
          rw [h1] at hu
          cases hu
          exact h2 hmu
        exact r.e q o h1 (fun z => no (hMo q z)) fun z => no (.inl (hxV q z))
      refine ⟨fun q xs h => ?_, fun q xs h => nt q _ h fun z => z, fun q xs h n => hex q _ h n, fun q ob xs h => nt q _ h fun z => z, fun q u h n => ⟨?_, fun z => ?_⟩, fun q C dx fs h n => hex q _ h n, fun q fs h => nt q _ h fun z => z⟩
      · rcases h with h | ⟨ob, h⟩
        · exact .inl (nt q _ h fun z => z)
        · exact .inr ⟨ob, nt q _ h fun z => z⟩
      · rcases h with h | ⟨ob, h⟩
        · exact .inl (hex q _ h n)
        · exact .inr ⟨ob, hex q _ h n⟩
      · rcases hA' q z with y | y
        · exact n y
        · rcases h with h | ⟨ob, h⟩ <;> · rw [y] at h; cases h
    have keyG : ∀ (Lx : As), (∀ a, L a → Lx a) → (∀ a, Lx a → L a ∨ H1 a = none) → (∀ a, Lx a → H' a ≠ none) → MsOk S (Av B Lx env2 σ) H' (MA mp vs) md → ∀ env3,
        (env3.length = env2.length ∧ ∀ (i : Nat) (c' : Cell), env3[i]? = some (some c') → (∃ a c0 d0, σ[i]? = some (some (.ref a)) ∧ MA mp vs a ∧ env2[i]? = some (some c0) ∧ c0.own = true ∧ c' = c0.with d0 ∧ md = some d0) ∨ (env2[i]? = some (some c') ∧ (c'.own = true → ∀ a, σ[i]? = some (some (.ref a)) → ¬ MA mp vs a))) →
        Ok S B Lx env3 σ H' ∧ Step B env2 σ H1 env3 σ H' ∧ ∀ a, Av B Lx env3 σ a → Av B Lx env2 σ a := fun Lx hx1 hx2 hx3 hms env3 ⟨hle, h3⟩ => by
      have own_with : ∀ {c : Cell} {d : D}, c.own = true → (c.with d).own = true := fun {c d} h => by cases c <;> first | rfl | cases h
      have hsub : ∀ a, Ow B env3 σ a → Ow B env2 σ a := fun a z => z.elim .inl fun ⟨i, c', g1, g2, g3⟩ => by
        rcases h3 i c' g1 with ⟨b, c0, d0, k1, k2, k3, k4, k5, _⟩ | ⟨k1, _⟩
        · exact .inr ⟨i, c0, k3, k4, g3⟩
        · exact .inr ⟨i, c', k1, g2, g3⟩
      have w : ∀ a, Av B Lx env3 σ a → Av B Lx env2 σ a := fun a z => z.elim .inl fun y => .inr (hsub a y)
      have kp : Kp (Av B L env2 σ) (Av B Lx env3 σ) H1 H' := kpG _ fun a z => z.elim (fun y => (hx2 a y).imp .inl id) fun y => .inl (.inr (hsub a y))
      refine ⟨⟨by rw [hle]; exact ok2.len, fun i c' g1 => ?_, fun i j c c' a g1 g2 g3 g4 g5 g6 => ?_, fun a z y => ?_, hx3, hbag, fun i c a g1 g2 g3 => ?_⟩, ⟨fun a o g1 g2 => r.e a o g1 (fun z => g2 (hMo a z)) fun z => g2 (.inl (hxV a z)), fun a z => .inl (hsub a z), fun i d' g1 => ?_, fun i d' g1 => ?_, r.al⟩, w⟩
      · rcases h3 i c' g1 with ⟨a, c0, d0, k1, k2, k3, k4, k5, k6⟩ | ⟨k1, k2⟩
        · refine ⟨_, k1, ?_⟩
          obtain ⟨d1, k7, k8⟩ := hms a k2
          rw [k6] at k7
          cases k7
          subst k5
          cases c0 with
          | o x => exact ⟨a, rfl, k8.weak w⟩
          | m x => exact ⟨a, rfl, k8.weak w⟩
          | s x => cases k4
          | b x => cases k4
        · obtain ⟨u, hu, z⟩ := ok2.at_ i c' k1
          refine ⟨u, hu, ?_⟩
          cases c' with
          | s x => exact RD.mono kp z
          | o x => obtain ⟨q, e, y⟩ := z; exact ⟨q, e, y.mono kp fun o g => r.e q o g (k2 rfl q (by rw [hu, e])) fun z => ok2.dv i _ q k1 rfl (by rw [hu, e]) (hxV q z)⟩
          | m x => obtain ⟨q, e, y⟩ := z; exact ⟨q, e, y.mono kp fun o g => r.e q o g (k2 rfl q (by rw [hu, e])) fun z => ok2.dv i _ q k1 rfl (by rw [hu, e]) (hxV q z)⟩
          | b x =>
            rcases z with z | ⟨q, e, l, y⟩
            · exact .inl (RD.mono kp z)
            · have nq : ¬ MA mp vs q := fun z => ok2.sep q (hMo q z) l
              have nv : ¬ Bx.V q := fun z => ok2.sep q (.inl (hxV q z)) l
              refine .inr ⟨q, e, hx1 q l, y.mono kp (fun u g => ?_) (fun C dx fs g => r.e q _ g nq nv) fun xs g => r.e q _ g nq nv⟩
              rcases g with g | ⟨ob, g⟩
              · exact .inl (r.e q _ g nq nv)
              · exact .inr ⟨ob, r.e q _ g nq nv⟩
      · have sub1 : ∀ {i : Nat} {c : Cell} {a : Addr}, env3[i]? = some (some c) → c.own = true → ∃ c0 : Cell, env2[i]? = some (some c0) ∧ c0.own = true := fun {i c a} g1 g2 => by
          rcases h3 i c g1 with ⟨b, c0, d0, k1, k2, k3, k4, k5, _⟩ | ⟨k1, _⟩
          · exact ⟨c0, k3, k4⟩
          · exact ⟨c, k1, g2⟩
        obtain ⟨c0, k1, k2⟩ := sub1 (a := a) g1 g2
        obtain ⟨c1, k3, k4⟩ := sub1 (a := a) g3 g4
        exact ok2.inj i j c0 c1 a k1 k2 k3 k4 g5 g6
      · rcases hx2 a y with y | y
        · exact ok2.sep a (hsub a z) y
        · obtain ⟨o, ho, _⟩ := ok2.ow (hsub a z)
          rw [y] at ho
          cases ho
      · rcases h3 i c g1 with ⟨b, c0, d0, k1, k2, k3, k4, k5, _⟩ | ⟨k1, _⟩
        · exact ok2.dv i c0 a k3 k4 g3
        · exact ok2.dv i c a k1 g2 g3
      · rcases h3 i _ g1 with ⟨b, c0, d0, k1, k2, k3, k4, k5, _⟩ | ⟨k1, _⟩
        · cases c0 with
          | m x => exact ⟨⟨x, k3⟩, rfl⟩
          | o x => cases k5
          | s x => cases k5
          | b x => cases k5
        · exact ⟨⟨_, k1⟩, rfl⟩
      · rcases h3 i _ g1 with ⟨b, c0, d0, k1, k2, k3, k4, k5, _⟩ | ⟨k1, _⟩
        · cases c0 with
          | b x => cases k4
          | m x => cases k5
          | o x => cases k5
          | s x => cases k5
        · exact ⟨k1, rfl⟩
    have hset : ∃ env3, kx C fo env3 ∧ (env3.length = env2.length ∧ ∀ (i : Nat) (c' : Cell), env3[i]? = some (some c') → (∃ a c0 d0, σ[i]? = some (some (.ref a)) ∧ MA mp vs a ∧ env2[i]? = some (some c0) ∧ c0.own = true ∧ c' = c0.with d0 ∧ md = some d0) ∨ (env2[i]? = some (some c') ∧ (c'.own = true → ∀ a, σ[i]? = some (some (.ref a)) → ¬ MA mp vs a))) := by
      rcases h00 with e | ⟨e, hl⟩
      · subst e
        exact ⟨env2, hkk, rfl, fun i c' g => .inr ⟨g, fun _ a _ ⟨j, ej, _⟩ => nomatch ej⟩⟩
      · subst e
        have hkk : (match avs[0]?, md with | some (AV.r i), some x => ownAt env2 i fun c => kx C fo (env2.set i (some (c.with x))) | _, _ => False) := hkk
        split at hkk
        · rename_i n x e1 e3
          obtain ⟨c, ec, eo, hkk⟩ := ownAt_of hkk
          obtain ⟨p, hp, _⟩ := ok2.ownd ec eo
          have hl0 : 0 < vs.length := by rw [args.lv]; exact hl
          have hv0 := List.getElem?_eq_getElem hl0
          have va : σ[n]? = some (some vs[0]) := vlas_at l2 hv0 e1
          have hma : MA (some 0) vs p := ⟨0, rfl, by rw [hv0, ← Option.some.inj (Option.some.inj (va.symm.trans hp))]⟩
          refine ⟨_, hkk, by rw [List.length_set], fun i c' g => ?_⟩
          rcases get_set g with ⟨g1, g2, _⟩ | ⟨g1, g2⟩
          · cases g2
            subst g1
            exact .inl ⟨p, c, x, hp, hma, ec, eo, rfl, rfl⟩
          · refine .inr ⟨g2, fun go a ga hm2 => ?_⟩
            obtain ⟨n', c2, _, q1, q2, q3, q4, _⟩ := hMa a hm2
            rw [e1] at q1
            cases q1
            exact g1 (ok2.inj i n c' c a g2 go ec eo ga q4)
        · exact hkk.elim
    obtain ⟨env3, hkk, h3⟩ := hset
    have st12 := st1.trans st2
    have hLk : ∀ a, L a → H' a ≠ none := fun a z y => ok2.al a z (r.al a y)
    obtain ⟨o3, s3, w3⟩ := keyG L (fun _ z => z) (fun a z => .inl z) hLk r.ms env3 h3
    exact hkx C fo env3 dd H' hkk o3 (st12.trans s3) (r.x.weak w3)

def plainX : Vol → List D → Prop := fun B _ => ∃ W, B = noVol.wish W
/-- of a def that may raise and draws nothing -/
theorem lx_callP {mp : Option Nat} {ms : List Bool} {f : DSpX} {ta : TA} {da : TDA} {Wx : WX} (hW : B.W = Wx) (ha : LfA S B ta da) (h00 : mp = none ∨ (mp = some 0 ∧ 0 < ms.length) := by first | exact .inl rfl | exact .inr ⟨rfl, by decide⟩) : LfX S B (tCallS (spDX S plainX mp ms f) (WE Wx) ta) (dCallX mp ms f da) :=
  lx_call noVol (.inl rfl) (fun _ _ _ h => ⟨⟨noVol.W, rfl⟩, h⟩) hW ha h00

theorem LfA.wish {ta : TA} {da : TDA} {W : WX} (ha : LfA S B ta da) : LfA S (B.wish W) ta da := fun L env σ H Q k ok h hk => ha L env σ H Q k ok.unwish h fun avs env' vs H' h1 o st l => hk avs env' vs H' h1 o.wish st.wish l
/-- where it raises nothing -/
def dCallN (mp : Option Nat) (ms : List Bool) (f : DSpX) (ta : TDA) : TDE := fun env k => dCallX mp ms f ta env k fun _ _ _ => False
theorem lx_callN {mp : Option Nat} {ms : List Bool} {f : DSpX} {ta : TA} {da : TDA} {Wx : WX} (ha : LfA S B ta da) (h00 : mp = none ∨ (mp = some 0 ∧ 0 < ms.length) := by first | exact .inl rfl | exact .inr ⟨rfl, by decide⟩) : LfE S B (tCallS (spDX S plainX mp ms f) (WE Wx) ta) (dCallN mp ms f da) := fun L env σ H Q k ok h hk =>
  lx_callP (B := B.wish Wx) rfl (LfA.wish ha) h00 L env σ H Q k _ ok.wish h (fun av env' v H' h1 p => hk av env' v H' h1 ⟨p.1.unwish, p.2.unwish⟩) fun _ _ _ _ _ z => z.elim

/-! ### raise -/
/-- the __init__ of an error: one field -/
def spXI (K : PySem.W.Frag) (C : Addr) (f : Str) : Sp := fun vs H Q _ => ∃ (a : Addr) (v : V), vs = [.ref a, v] ∧ H a = some (exo a C none) ∧ ∀ dx, H dx = none → dx ≠ a → Q .non (upd (upd H dx (exd dx [(f, v)])) a (exo a C (some dx)))
def dRaise (C : Addr) (f : Str) (ta : TDA) : TDS := fun E env => ta env fun as env1 => match as with
  | [a] => shr env1 a fun d env2 => E.xx C (some [(f, d)]) env2
  | _ => False
theorem xd_new {p : Addr} {fs : List (Str × V)} {fds : List (Str × D)} (ok : Ok S B L env σ H) (hp : H p = none) (hn : fs.map (·.1) = fds.map (·.1)) (h : RDs S (Av B L env σ) H (fs.map (·.2)) (fds.map (·.2))) : Ok S B L env σ (upd H p (.xd fs)) ∧ Step B env σ H env σ (upd H p (.xd fs)) ∧ XdI S (Av B L env σ) (upd H p (.xd fs)) (some p) (some fds) := by
  have ok' := (ok.new (o := .xd fs) hp)
  exact ⟨ok'.unla ((step_new (o := .xd fs) hp).lent ok hp), step_new hp, p, fs, rfl, upd_same, hn, h.step ok (step_new hp)⟩
theorem lf_raise {K : PySem.W.Frag} {C : Addr} {f : Str} {ta : TA} {da : TDA} {Wx : WX} (hW : B.W = Wx) (ha : LfA S B ta da) : LfS S B (fun _ σ H => tMkO C (spXI K C f) [] ta σ H fun cls d H' => Wx cls d σ H') (dRaise C f da) := fun L env σ H W E ok h r => by
  subst hW
  refine ha L env σ H _ _ ok h fun avs env1 vs H1 h1 ok1 st1 l1 => ?_
  match avs, vs, h1, l1 with
  | [a], [v], h1, l1 =>
    have l2 : VlA S (Av B L env1 σ) σ H1 v a.hold := by
      cases a with
      | f d => exact (show False from l1.1).elim
      | _ => exact l1.1
    obtain ⟨d, env2, h2, ok2, st2, r2⟩ := l2.shr ok1 h1
    refine ⟨by simp, fun x hx => ⟨x, v, rfl, upd_same, fun dx hd ne => ⟨rfl, dx, [(f, v)], upd_same, by rw [upd_ne ne, upd_same], ?_, ?_⟩⟩⟩
    · rw [upd_ne ne] at hd
      exact hd
    · rw [upd_ne ne] at hd
      have eH : upd (del (upd (upd (upd H1 x (exo x C none)) dx (exd dx [(f, v)])) x (exo x C (some dx))) x) dx (.xd [(f, v)]) = upd H1 dx (.xd [(f, v)]) := by
        funext b
        by_cases e : b = dx
        · subst e; rw [upd_same, upd_same]
        · rw [upd_ne e, upd_ne e]
          unfold del
          by_cases e2 : b = x
          · rw [if_pos e2, e2, hx]
          · rw [if_neg e2, upd_ne e2, upd_ne e, upd_ne e2]
      rw [eH]
      obtain ⟨o3, s3, x3⟩ := xd_new (fs := [(f, v)]) (fds := [(f, d)]) ok2 hd rfl (.cons r2 .nil)
      exact r.xx _ _ _ _ _ _ h2 o3 (st1.trans (st2.trans s3)) x3
  | [], _, h1, _ => exact h1.elim
  | _ :: _ :: _, _, h1, _ => exact h1.elim
def dRaise0 (C : Addr) : TDS := fun E env => E.xx C none env
theorem lf_raise0 {C : Addr} {Wx : WX} (hW : B.W = Wx) : LfS S B (fun _ σ H => Wx (.ref C) none σ H) (dRaise0 C) := fun L env σ H W E ok h r => by
  subst hW
  exact r.xx _ _ _ _ _ _ h ok .refl rfl

/-! ### try -/
def tTry (K : PySem.W.Frag) (c : Value) (i : Nat) (tb : WX → TS) (ts : Addr → Value → Option Addr → TS) (Wout : WX) : TS := fun D σ H => tb (wAs K c i ts Wout D) D σ H
def tTryO (K : PySem.W.Frag) (c : Value) (tb : WX → TS) (ts : Addr → Value → Option Addr → TS) (Wout : WX) : TS := fun D σ H => tb (wOnly K c ts Wout D) D σ H
theorem ps_tryD {X : Cx} {x n : Str} {c : Value} {i : Nat} {body suite : List Stmt} {b₀ : Stmt} {np pos pos' : Pos} {tb : WX → TS} {ts : Addr → Value → Option Addr → TS} {Wout : WX} (hs : X.stack = X.env :: X.outer) (hf : X.env.frame = some X.env.locals) (hN : X.N.Nodup) (hi : X.N[i]? = some n) (hl : X.env.kindOf n = some NameKind.local) (hc : Names X x c) (tk : Takes X Wout)
    (hb : ∀ (W : WX) (pn : List (Addr × Obj)) (xe : Value → Shared → Prop), Takes (X.tr pn xe) W → PassesOwn (model X.prog X.w) X.A X.env xe → PSs (X.tr pn xe) body (tb W))
    (hsu : ∀ (a : Addr) (oe : Obj) (cls : Value) (d : Option Addr) (pn : List (Addr × Obj)), Zc cls d oe → (∃ vs, oe.data = Data.fields vs) → PSs (X.suite a ((a, oe) :: pn)) (b₀ :: suite) (ts a cls d)) :
    PS X (Stmt.Try body [ExceptHandler.ExceptHandler (some (Expr.Name x np)) (some n) (b₀ :: suite) pos'] [] [] pos) (tTry X.K c i tb ts Wout) := ps_try_as hs hf hN hi hl hc tk hb hsu
theorem ps_tryOD {X : Cx} {x : Str} {c : Value} {body suite : List Stmt} {b₀ : Stmt} {np pos pos' : Pos} {tb : WX → TS} {ts : Addr → Value → Option Addr → TS} {Wout : WX} (hs : X.stack = X.env :: X.outer) (hf : X.env.frame = some X.env.locals) (hc : Names X x c) (tk : Takes X Wout)
    (hb : ∀ (W : WX) (pn : List (Addr × Obj)) (xe : Value → Shared → Prop), Takes (X.tr pn xe) W → PassesOwn (model X.prog X.w) X.A X.env xe → PSs (X.tr pn xe) body (tb W))
    (hsu : ∀ (a : Addr) (oe : Obj) (cls : Value) (d : Option Addr) (pn : List (Addr × Obj)), Zc cls d oe → (∃ vs, oe.data = Data.fields vs) → PSs (X.suite a ((a, oe) :: pn)) (b₀ :: suite) (ts a cls d)) :
    PS X (Stmt.Try body [ExceptHandler.ExceptHandler (some (Expr.Name x np)) none (b₀ :: suite) pos'] [] [] pos) (tTryO X.K c tb ts Wout) := ps_try_only hs hf hc tk hb hsu
def dTry (K : PySem.W.Frag) (c : Value) (i : Nat) (db : TDS) (ds : Addr → Value → Option Addr → TDS) : TDS := fun E env => db { E with xx := fun C fo e => ∃ b, PySem.W.exmOne K (.ref C) c = some b ∧ (b = true → Nat.blt i e.length = true ∧ match fo with
  | none => ∀ a, ds a (.ref C) none { nx := fun e => E.nx (e.set i none), rt := E.rt, bk := fun e => E.bk (e.set i none), ct := fun e => E.ct (e.set i none) } (e.set i (some (.s (.glob a))))
  | some fds => ∀ a dd, ds a (.ref C) (some dd) { nx := fun e => E.nx (e.set i none), rt := E.rt, bk := fun e => E.bk (e.set i none), ct := fun e => E.ct (e.set i none) } (e.set i (some (.s (.exc a C dd fds))))) ∧ (b = false → E.xx C fo e) } env
/-- behind an except suite -/
theorem Rel.suite {D : Ends} {E : EndsD} {env env' : Env} {σ σ' : St} {H H' : Hp} {i : Nat} (r : Rel S B L env σ H D E) (s : Step B env σ H env' σ' H') :
    Rel S B L env' σ' H' { nx := fun σ' H' => D.nx (σ'.set i none) H', rt := D.rt, bk := fun σ' H' => D.bk (σ'.set i none) H', ct := fun σ' H' => D.ct (σ'.set i none) H' } { nx := fun e => E.nx (e.set i none), rt := E.rt, bk := fun e => E.bk (e.set i none), ct := fun e => E.ct (e.set i none) } := by
  have r := r.step s
  refine ⟨fun e s h k o t => ?_, r.rt, fun e s h k o t => ?_, fun e s h k o t => ?_, fun _ _ _ _ _ _ z => z.elim⟩ <;> obtain ⟨o2, s2⟩ := o.wipe1 (j := i)
  · exact r.nx _ _ _ k o2 (t.trans s2)
  · exact r.bk _ _ _ k o2 (t.trans s2)
  · exact r.ct _ _ _ k o2 (t.trans s2)
theorem lf_try {K : PySem.W.Frag} {c : Value} {i : Nat} {tb : WX → TS} {ts : Addr → Value → Option Addr → TS} {Wout : WX} {db : TDS} {ds : Addr → Value → Option Addr → TDS} (hb : ∀ W B', B'.W = W → LfS S B' (tb W) db) (hs : ∀ a cls d, LfS S B (ts a cls d) (ds a cls d)) (hW : B.W = Wout) :
    LfS S B (tTry K c i tb ts Wout) (dTry K c i db ds) := fun L env σ H D E ok h r => by
  refine hb _ (B.wish (wAs K c i ts Wout D)) rfl L env σ H D _ ok.wish h ⟨fun e s h k o t => r.nx e s h k o.unwish t.unwish, fun a e s v h k t p => r.rt a e s v h k t.unwish p.unwish, fun e s h k o t => r.bk e s h k o.unwish t.unwish, fun e s h k o t => r.ct e s h k o.unwish t.unwish, fun C fo e s h dd k o t x => ?_⟩
  obtain ⟨b, hb1, hb2, hb3⟩ := k
  refine ⟨b, hb1, fun eb a ha => ?_, fun eb => hW ▸ (r.xx C fo e s h dd (hb3 eb) o.unwish t.unwish x)⟩
  obtain ⟨hl, hb2⟩ := hb2 eb
  have hl := Nat.le_of_ble_eq_true hl
  cases fo with
  | none =>
    cases x
    obtain ⟨o2, s2⟩ := o.unwish.setS (v := .ref a) (d := .glob a) hl (.glob a)
    exact hs _ _ _ L _ _ h _ _ o2 (hb2 a) (r.suite (t.unwish.trans s2))
  | some fds =>
    obtain ⟨d, fs, rfl, h1, h2, h3⟩ := x
    obtain ⟨o2, s2⟩ := o.unwish.setS (v := .ref a) (d := .exc a C d fds) hl (.exc h1 h2 h3)
    exact hs _ _ _ L _ _ h _ _ o2 (hb2 a d) (r.suite (t.unwish.trans s2))
/-- no name for the error -/
def dTryO (K : PySem.W.Frag) (c : Value) (db : TDS) (ds : Addr → Value → Option Addr → TDS) : TDS := fun E env => db { E with xx := fun C fo e => ∃ b, PySem.W.exmOne K (.ref C) c = some b ∧ (b = true → match fo with
  | none => ∀ a, ds a (.ref C) none { E with xx := fun _ _ _ => False } e
  | some _ => ∀ a dd, ds a (.ref C) (some dd) { E with xx := fun _ _ _ => False } e) ∧ (b = false → E.xx C fo e) } env
theorem lf_tryO {K : PySem.W.Frag} {c : Value} {tb : WX → TS} {ts : Addr → Value → Option Addr → TS} {Wout : WX} {db : TDS} {ds : Addr → Value → Option Addr → TDS} (hb : ∀ W B', B'.W = W → LfS S B' (tb W) db) (hs : ∀ a cls d, LfS S B (ts a cls d) (ds a cls d)) (hW : B.W = Wout) :
    LfS S B (tTryO K c tb ts Wout) (dTryO K c db ds) := fun L env σ H D E ok h r => by
  refine hb _ (B.wish (wOnly K c ts Wout D)) rfl L env σ H D _ ok.wish h ⟨fun e s h k o t => r.nx e s h k o.unwish t.unwish, fun a e s v h k t p => r.rt a e s v h k t.unwish p.unwish, fun e s h k o t => r.bk e s h k o.unwish t.unwish, fun e s h k o t => r.ct e s h k o.unwish t.unwish, fun C fo e s h dd k o t x => ?_⟩
  obtain ⟨b, hb1, hb2, hb3⟩ := k
  refine ⟨b, hb1, fun eb a ha => ?_, fun eb => hW ▸ (r.xx C fo e s h dd (hb3 eb) o.unwish t.unwish x)⟩
  have hb2 := hb2 eb
  have r2 := r.step t.unwish
  have r3 : Rel S B L e s h D { E with xx := fun _ _ _ => False } := ⟨r2.nx, r2.rt, r2.bk, r2.ct, fun _ _ _ _ _ _ z => z.elim⟩
  cases fo with
  | none =>
    cases x
    exact hs _ _ _ L _ _ h _ _ o.unwish (hb2 a) r3
  | some fds =>
    obtain ⟨d, fs, rfl, h1, h2, h3⟩ := x
    exact hs _ _ _ L _ _ h _ _ o.unwish (hb2 a d) r3
/-- e.f of a caught error -/
def dXf (a : Addr) (cls : Value) (d : Option Addr) (C : Addr) (f : Str) (te : TDE) : TDE := fun env k => te env fun av env1 => ob (av.get env1) fun x => match x with
  | .exc a' C' dd fds => (a' = a ∧ cls = .ref C ∧ d = some dd) ∧ ob (fds.lookup f) fun y => k (.s y) env1
  | _ => False
theorem lf_xf {a : Addr} {cls : Value} {d : Option Addr} {C : Addr} {f : Str} {te : TE} {de : TDE} (he : LfE S B te de) : LfE S B (tXf a cls d C f te) (dXf a cls d C f de) := fun L env σ H Q k ok h hk => by
  refine he L env σ H _ _ ok h fun av env1 v H1 h1 p1 => ?_
  obtain ⟨ok1, st1, l1⟩ := p1.vl ok
  obtain ⟨x, e1, g1⟩ := ob_of h1
  cases x with
  | exc a' C' dd fds =>
    obtain ⟨⟨rfl, rfl, rfl⟩, g2⟩ := g1
    obtain ⟨y, e2, g3⟩ := ob_of g2
    rcases l1.tv ok1 (by rw [AV.get_hold]; exact e1) with z | ⟨_, _, z⟩
    · cases z with
      | exc h2 h3 h4 =>
        obtain ⟨u, e3, rd⟩ := lookup_rds h3 h4 e2
        exact ⟨rfl, rfl, _, _, _, rfl, h2, e3, hk _ _ _ _ g3 ((post_s ok1 rd).trans st1)⟩
    · exact z.elim
  | _ => exact (show False from g1).elim
end

/-! ### tuple * n, int(n), x, y = [], e -/
section
variable {S : Sys} {B : Vol} {L : As} {env env' : Env} {σ : St} {H H' : Hp}
theorem repTAK {X : Cx} {K : PySem.W.Frag} (h : X.K = K) : OpR X (binaryOp .Mult) (RpT.rRepTA K) := by subst h; exact RpT.op_repTA
def fRepT : F2 := fun a b k => match a, b with
  | .tup xs, .int n => (xs ≠ [] ∧ 1 ≤ n ∧ n ≤ 1000 ∧ xs.length ≤ 1000) ∧ k (.s (.tup (List.replicate n.toNat xs).flatten))
  | _, _ => False
theorem lo_repT {K : PySem.W.Frag} (hK : S.K = K := by rfl) : OpL S B (RpT.rRepTA K) fRepT := by
  subst hK
  exact fun L env σ H Q x y a b k ok hx hy h q => by
    cases a with
    | tup xs => cases b with
      | int n =>
        obtain ⟨⟨h1, h2, h3, h4⟩, h⟩ := h
        obtain ⟨p, vs, rfl, e1, r1⟩ := hx.tup
        have e2 := hy.int
        subst e2
        refine ⟨p, n, vs, rfl, rfl, .inl (.inl e1), fun e => h1 (by subst e; cases r1; rfl), h2, h3, by rw [r1.len]; exact h4, fun e => ?_, fun _ p3 hp3 => q _ _ _ h (post_tup ok hp3 (r1.rep _))⟩
        subst e
        have e3 : (List.replicate (1 : Int).toNat xs).flatten = xs := by simp
        rw [e3] at h
        exact q _ _ _ h (post_s ok (.tup e1 r1))
      | _ => exact h.elim
    | _ => exact h.elim
def fInt : Fn := fun as k => match as with
  | [.int i] => k (.s (.int i))
  | [.bl b] => k (.s (.int (if b then 1 else 0)))
  | _ => False
theorem cl_int : CaL S B (fun xs H Q => (∃ i, xs = [.int i] ∧ Q (.int i) H) ∨ ∃ k, xs = [.bl k] ∧ Q (.int (if k then 1 else 0)) H) fInt := fun L env σ H Q xs as k ok hx h q => by
  match as, h with
  | [.int i], h =>
    obtain ⟨v, rfl, hv⟩ := hx.one
    rw [hv.int]
    exact .inl ⟨i, rfl, q _ _ _ h (post_s ok (.int _))⟩
  | [.bl b], h =>
    obtain ⟨v, rfl, hv⟩ := hx.one
    rw [hv.bl]
    exact .inr ⟨b, rfl, q _ _ _ h (post_s ok (.int _))⟩
def dParO (i j : Nat) (t u : TDE) : TDS := fun E env => t env fun a env1 => match a with
  | .f d => u env1 fun b env2 => shr env2 b fun e env3 => Nat.blt i env3.length = true ∧ Nat.blt j env3.length = true ∧ E.nx ((env3.set i (some (.o d))).set j (some (.s e)))
  | _ => False
theorem lf_parO {i j : Nat} {te tu : TE} {t u : TDE} (ht : LfE S B te t) (hu : LfE S B tu u) : LfS S B (tPar i j (tCons te (tCons tu tNil))) (dParO i j t u) := fun L env σ H W E ok h r => by
  refine ht L env σ H _ _ ok h fun av env1 v H1 h1 p1 => ?_
  cases av with
  | s d => exact h1.elim
  | r k => exact h1.elim
  | f d =>
    obtain ⟨st1, p, rfl, hn, ok1, w1⟩ := p1
    refine hu (La L p) env1 σ H1 _ _ ok1 h1 fun aw env2 w H2 h2 p2 => ?_
    obtain ⟨ok2, st2, l2⟩ := p2.vl ok1
    obtain ⟨e, env3, ⟨hi, hj, h3⟩, ok3, st3, r3⟩ := l2.shr ok2 h2
    have hi := Nat.le_of_ble_eq_true hi
    have hj := Nat.le_of_ble_eq_true hj
    have stT := st1.trans (st2.trans st3)
    have w3 := w1.step ok1 (st2.trans st3) (la_out ok1)
    obtain ⟨ok4, hown⟩ := ok3.setO (stT.lent2 ok hn) (fun z => ok.al p z hn) hi w3
    have ww : ∀ a, Av B L (env3.set i (some (.o d))) (σ.set i (some (.ref p))) a → Av B (La L p) env3 σ a := fun a z => z.elim (fun y => .inl (.inl y)) fun y => (hown a y).elim .inr fun e => .inl (.inr e)
    obtain ⟨ok5, st5⟩ := ok4.setS (i := j) (by rw [List.length_set]; exact hj) (r3.weak ww)
    refine ⟨_, _, rfl, r.nx _ _ _ h3 ok5 (Step.trans ⟨stT.e, fun a z => ?_, fun j d' g => ?_, fun j d' g => ?_, stT.al⟩ st5)⟩
    · rcases hown a z with y | rfl
      · exact stT.n a y
      · exact .inr hn
    · rcases get_set g with ⟨_, e, _⟩ | ⟨n, g2⟩
      · cases e
      · obtain ⟨k1, k2⟩ := stT.m j d' g2
        exact ⟨k1, (List.getElem?_set_ne (Ne.symm n)).trans k2⟩
    · rcases get_set g with ⟨_, e, _⟩ | ⟨n, g2⟩
      · cases e
      · obtain ⟨k1, k2⟩ := stT.b j d' g2
        exact ⟨k1, (List.getElem?_set_ne (Ne.symm n)).trans k2⟩
end

/-! ### where ways meet again: what holds behind, said once -/
section
variable {S : Sys} {B : Vol}
def dJoin (t : TDS) : TDS := fun E env => ∃ J : Env → Prop, t { E with nx := J } env ∧ ∀ e, J e → E.nx e
theorem lf_join {ts : TS} {t : TDS} (h : LfS S B ts t) : LfS S B ts (dJoin t) := fun L env σ H W E ok h0 r => by
  obtain ⟨J, h1, h2⟩ := h0
  exact h L env σ H W _ ok h1 ⟨fun e s g k o st => r.nx e s g (h2 e k) o st, r.rt, r.bk, r.ct, r.xx⟩
def dJoinE (t : TDE) : TDE := fun env k => ∃ J : AV → Env → Prop, t env J ∧ ∀ a e, J a e → k a e
theorem lf_joinE {te : TE} {t : TDE} (h : LfE S B te t) : LfE S B te (dJoinE t) := fun L env σ H Q k ok h0 hk => by
  obtain ⟨J, h1, h2⟩ := h0
  exact h L env σ H Q _ ok h1 fun av e v H' g p => hk av e v H' (h2 av e g) p
def dJoinT (t : TDT) : TDT := fun env k => ∃ J : Bool → Env → Prop, t env J ∧ ∀ b e, J b e → k b e
theorem lf_joinT {tt : TT} {t : TDT} (h : LfT S B tt t) : LfT S B tt (dJoinT t) := fun L env σ H Q k ok h0 hk => by
  obtain ⟨J, h1, h2⟩ := h0
  exact h L env σ H Q _ ok h1 fun b e H' g o st => hk b e H' (h2 b e g) o st
end

/-! ### a law: the bag first, then data -/
def spBag (K : PySem.W.Frag) : Sp := fun vs H Q _ => ∃ (p : Addr) (ns : List Int), vs = [.ref p] ∧ SqL K H p (ns.map V.int) ∧ ns.length ≤ 63 ∧ ∀ b g H', Same H H' → H b = none → H g = none → Lk.BagAt H' b g → Q (.ref b) H'
def spLaw (K : PySem.W.Frag) : Sp := fun vs H Q _ => ∃ (p : Addr) (ns : List Int), vs = [.ref p] ∧ SqL K H p (ns.map V.int) ∧ ns.length ≤ 63 ∧ ∀ H', Q (.bl true) H'
def envLaw (b : Addr) (n : Nat) : Env := none :: some (.s (.glob b)) :: List.replicate (n - 2) none
theorem envLaw_at {b : Addr} {n i : Nat} {c : Cell} (h : (envLaw b n)[i]? = some (some c)) : i = 1 ∧ c = .s (.glob b) := by
  match i, h with
  | 0, h => cases h
  | 1, h => cases h; exact ⟨rfl, rfl⟩
  | i + 2, h =>
    have h : (List.replicate (n - 2) (none : Option Cell))[i]? = some (some c) := h
    rw [List.getElem?_replicate] at h
    split at h <;> cases h
theorem okLaw {P : Program} {w : World} {K : PySem.W.Frag} {mg : Str → Option Value} {base : Heap} {x qual : Str} {st : Stmt} {f : Addr} {fd : FuncData} {N : List Str} {lv : Nat} (F : Fun K x qual st f fd) (Sc : FnScope N ["_law_script"] (defScope st)) (hN : 2 ≤ N.length)
    (hbody : ∀ (cdv : Value) (A : Around) (outer : List PySem.Env) (s : Shared) (H : Hp) (E : XK), Room lv (A.deeper (PyProof.Rows.envOfC qual (defScope st) s.heap.objs.size f cdv)) →
      ∃ (X : XK) (t : TS) (dt : Vol → TDS), PSs (cxOf CX0 P w K mg base N qual (defScope st) f cdv A outer s H E).nox (defBody st) (tSeq (tAsg (tCall (spBag K) [] X (tCons (tVar 0) tNil)) (gName 1)) t) ∧ (∀ B, LfS ⟨P, w, K⟩ B t (dt B)) ∧
      ∀ b g, dt (bagVol b g) { nx := fun _ => False, rt := fun av _ => av = .s (.bl true) } (envLaw b N.length)) : FnOk P w K mg base CX0 (lv + 1) f fd ["_law_script"] (spLaw K) := by
  refine F.ok Sc (fun vs H Q E h => ?_) (fun cdv A outer s H vs Q E hr h => ?_)
  · obtain ⟨p, ns, rfl, _⟩ := h
    rfl
  obtain ⟨p, ns, rfl, hS, hn, k⟩ := h
  obtain ⟨X, t, dt, h1, h2, h3⟩ := hbody cdv A outer s H E hr
  refine ⟨_, h1, ?_⟩
  refine ⟨.ref p, start_get rfl, p, ns, rfl, hS, hn, fun b g H' S hb hg BA => ?_⟩
  have hlen : (L2.start N [V.ref p]).length = N.length := by
    unfold L2.start
    rw [List.length_append, List.length_map, List.length_replicate]
    show 1 + (N.length - 1) = _
    omega
  refine h2 (bagVol b g) (fun _ => False) (envLaw b N.length) _ H' _ _ ?_ (h3 b g) ⟨fun _ _ _ z => z.elim, fun av env' σ' v H2 e st pv => ?_, fun _ _ _ z => z.elim, fun _ _ _ z => z.elim, fun _ _ _ _ _ _ z => z.elim⟩
  · refine ⟨?_, fun i c h => ?_, fun i j c c' a h1 h2 => ?_, fun a _ z => z, fun a z => z.elim, BA, fun i c a h1 h2 => ?_⟩
    · show ((L2.start N [V.ref p]).set 1 (some (.ref b))).length = (none :: some _ :: List.replicate (N.length - 2) none).length
      rw [List.length_set, hlen, List.length_cons, List.length_cons, List.length_replicate]
      omega
    · obtain ⟨rfl, rfl⟩ := envLaw_at h
      exact ⟨.ref b, List.getElem?_set_self (by rw [hlen]; omega), .glob b⟩
    · obtain ⟨rfl, rfl⟩ := envLaw_at h1
      cases h2
    · obtain ⟨rfl, rfl⟩ := envLaw_at h1
      cases h2
  · subst e
    obtain ⟨_, r⟩ := pv
    cases r
    exact k _
end Dl
/-! tuple * n for any small n: nothing below 1 -/
namespace RpT
open PySem PySem.Spec PyProof.Rows L2
theorem tuple_mul0 (l : Addr) (items : Array Value) (n : Nat) (dd : Option Addr) (sl : Array (Option Value)) (u : Tok) (hne : items.isEmpty = false) : Meets (Builtin.«tuple.__mul__» {pos := [.ref l, .int 0 u]}) fun _ R s => s.heap.get? l = some {cls := .type "tuple", dict := dd, data := .seq items n, slots := sl} ∧ R (.ok (.ret (.ref s.heap.objs.size))) { heap := s.heap.push { cls := .type "tuple", data := .seq #[] }, gens := s.gens, drawn := s.drawn, toks := s.toks, os := s.os } := by
  refine Meets.of_wp fun prog w A R s h => ?_
  obtain ⟨hl, hR⟩ := h
  obtain ⟨h, g, d, t, os⟩ := s
  show wpAny _ _ (asIndex (Value.int 0 u) >>= fun n => ite ((decide (n < -2 ^ 63) || decide (n ≥ 2 ^ 63)) = true) _ (Builtin.Tuple.tupleItemsOf (.ref l) >>= fun xs => ite ((xs.isEmpty || n == 1) = true) _ (ite ((decide (n ≤ 0) || xs.isEmpty) = true) (Builtin.Tuple.tupleExact #[] >>= fun r => ret r) _))) _ _ _
  refine wpAny_bind ?_
  refine wpAny_bind ?_
  refine wpAny_pure ?_
  refine wpAny_pure ?_
  refine wpAny_ite_false (by decide) ?_
  refine wpAny_bind ?_
  refine wpAny_bind ?_
  refine wpAny_bind ?_
  refine wpAny_load' hl ?_
  refine wpAny_pure ?_
  refine wpAny_pure ?_
  refine wpAny_ite_false (by simp [hne]) ?_
  refine wpAny_ite_true (by simp) ?_
  refine wpAny_bind ?_
  refine wpAny_bind ?_
  refine wpAny_alloc' ?_
  refine wpAny_pure ?_
  refine wpAny_pure ?_
  exact ⟨_, rfl, hR⟩
def rRepT0 (K : PySem.W.Frag) : R2 := fun x y H Q => ∃ l k xs, x = .ref l ∧ y = .int k ∧ SqT K H l xs ∧ xs ≠ [] ∧ 0 ≤ k ∧ k ≤ 1000 ∧ xs.length ≤ 1000 ∧ (k = 1 → Q (.ref l) H) ∧ (k ≠ 1 → ∀ p, H p = none → Q (.ref p) (upd H p (.tup (List.replicate k.toNat xs).flatten)))
theorem op_repT0 {X : Cx} : OpR X (binaryOp .Mult) (rRepT0 X.K) := by
  intro pins s σ H x y v u Q I rx ry h
  obtain ⟨l, k, xs, rfl, rfl, hT, hne, h1, h2, hz, q1, q2⟩ := h
  by_cases e : k = 0
  · subst e
    obtain ⟨t, rfl⟩ := ry
    cases rx
    obtain ⟨its, r, ⟨⟨cls, dd, data, sl⟩, ho, hc, n, hd⟩, hs⟩ := I.tuple hT
    cases hc
    cases hd
    have ht : s.TypeIs (Value.ref l) "tuple" := ⟨_, ho, rfl⟩
    have hem : its.toArray.isEmpty = false := by
      cases its with
      | nil => exact absurd (List.eq_nil_of_length_eq_zero (by have := r.length; simpa using this)) hne
      | cons a b => rfl
    refine wpAny_binaryOp_repeat_ref (T := "tuple") (U := "int") (id := "tuple.__mul__") (idr := "int.__rmul__") (by decide) ht (fun s' => typeIs_int _ _ _) noFill_tuple_mul F.fills_int_mul F.slot_int_rmul repeat_tuple F.slot_int_index.lookup ?_
    refine call_meets F.slot_int_rmul (typeIs_int _ _ _) F.entry_int_rmul (F.args_int_rmul_2 _ _) (int_rmul_tuple _ _ _ _ _ _ _) ⟨ho, rfl, ht, ?_⟩
    refine call_meets F.slot_tuple_mul ht F.entry_tuple_mul (F.args_tuple_mul_2 _ _) (tuple_mul0 _ _ _ _ _ _ hem) ⟨ho, ?_⟩
    have hf := I.hok.fresh (Nat.le_refl s.heap.objs.size)
    refine ⟨V.ref s.heap.objs.size, _, ?_, rfl, q2 (by decide) _ hf⟩
    refine I.laid (fun b u e => Heap.get?_push_of_some _ e) (Nat.le_refl _) ?_
    exact ⟨Nat.zero_le _, [], .nil, IsTup.new _ #[]⟩
  · by_cases e1 : k = 1
    · exact op_repTA pins s σ H _ _ v u Q I rx ry ⟨l, k, xs, rfl, rfl, hT, hne, by omega, h2, hz, q1, fun h => by omega⟩
    · exact op_repTA pins s σ H _ _ v u Q I rx ry ⟨l, k, xs, rfl, rfl, hT, hne, by omega, h2, hz, q1, fun _ => q2 e1⟩
end RpT
/-! DLF: more rules: zip of two tuples, bit_length, a written dict's get, tuple * n from 0 on. -/
/-! the get of a dict that the program's text holds -/
namespace KGt
open PySem PySem.Spec PyProof.Rows L2
def IsKD (K : PySem.W.Frag) (w : World) (p : Addr) : Prop := ∃ es n, KDict K w p es n
def tKGet (K : PySem.W.Frag) (w : World) (to ty : TE) : TE := fun σ H Q => to σ H fun x H1 => ∃ p, x = .ref p ∧ IsKD K w p ∧ ty σ H1 fun y H2 => ∃ z r, y = .str z ∧ PySem.W.nsIn K p z = some r ∧ (r = none → Q .non H2) ∧ ∀ u, r = some u → ∃ v, RelV v u ∧ Q v H2
theorem pe_kget {X : Cx} {o e : Expr} {apos cpos : Pos} {to ty : TE} (ho : PE X o to) (hi : PE X e ty) (m : M1 X o (Str.ofString "get") apos e cpos) : PE X ((o.Attribute (Str.ofString "get") apos).Call [e] [] cpos) (tKGet X.K X.w to ty) := by
  refine ⟨fun pins s σ H Q I h => ?_⟩
  refine wpAny_Call_method (T := "dict") (id := "dict.get") m.base m.few m.line PySem.F.plainAttrs_dict PySem.F.slot_dict_get PySem.F.type_dict_get ?_
  refine thn (ho.run pins s σ H _ I h) fun u s1 ⟨x, H1, I1, rx, p, ex, ⟨es, n, kd⟩, h2⟩ => ?_
  subst ex
  obtain rfl : u = Value.ref p := rx
  have hM := PySem.W.mapOf_K (prog := X.prog) (w := X.w) I1.kIn kd.at_ kd.lit
  refine ⟨hM.typeIs, fun b e => by cases e; exact ⟨_, I1.kIn _ _ kd.at_, rfl⟩, ?_⟩
  rw [m.trees]
  refine wpAny_dict_get1 (knd := strKind X.prog X.w) kd.low (thn (hi.run pins s1 σ H1 _ I1 h2) fun v s2 ⟨y, H2, I2, ry, z, r, ey, hr, q0, q1⟩ => ?_)
  subst ey
  obtain ⟨t, rfl⟩ := ry
  have hM2 := PySem.W.mapOf_K (prog := X.prog) (w := X.w) I2.kIn kd.at_ kd.lit
  refine ⟨z, _, strKind_is _ _ z t, hM2, ?_⟩
  have e := PySem.W.find_K kd.at_ hr
  show EP X pins σ Q ((findBy Value.isStrOf es z).getD Value.none) _
  rw [e]
  cases r with
  | none => exact ⟨V.non, H2, I2.tok _, rfl, q0 rfl⟩
  | some u =>
    obtain ⟨v, hv, q⟩ := q1 u rfl
    exact ⟨v, H2, I2.tok _, hv, q⟩
end KGt

namespace Dl
open PySem L2 Lk
variable {S : Sys} {B : Vol} {L : As} {env env' : Env} {σ σ' : St} {H H' : Hp}
def dKGet (ws : List (Str × Int)) (dy : TDE) : TDE := fun env k => dy env fun a env1 => ob (a.get env1) fun x => match x with
  | .str z => ob (ws.lookup z) fun i => k (.s (.int i)) env1
  | _ => False
theorem lf_kget {K : PySem.W.Frag} {w : World} {p : Addr} {ws : List (Str × Int)} {ty : TE} {dy : TDE} (hd : KGt.IsKD K w p) (hf : ∀ z i, ws.lookup z = some i → ∃ t, PySem.W.nsIn K p z = some (some (.int i t))) (he : LfE S B ty dy) : LfE S B (KGt.tKGet K w (tC (.ref p)) ty) (dKGet ws dy) := fun L env σ H Q k ok h hk => by
  refine ⟨p, rfl, hd, he L env σ H _ _ ok h fun av env1 v H1 h1 p1 => ?_⟩
  obtain ⟨ok1, st1, l1⟩ := p1.vl ok
  obtain ⟨x, e1, h2⟩ := ob_of h1
  cases x with
  | str z =>
    obtain ⟨i, e2, h3⟩ := ob_of h2
    have e3 := (l1.tv ok1 (by rw [AV.get_hold]; exact e1)).str
    obtain ⟨t, e4⟩ := hf z i e2
    exact ⟨z, _, e3, e4, (fun z => nomatch z), fun u e => by cases e; exact ⟨.int i, ⟨t, rfl⟩, hk _ _ _ _ h3 ((post_s ok1 (.int i)).trans st1)⟩⟩
  | _ => exact (show False from h2).elim
def dBits (dy : TDE) : TDE := fun env k => dy env fun a env1 => ob (a.get env1) fun x => match x with
  | .int i => k (.s (.int (PySem.Builtin.Int.intBits i : Nat))) env1
  | _ => False
theorem lf_bits {ty : TE} {dy : TDE} (he : LfE S B ty dy) : LfE S B (tBits ty) (dBits dy) := fun L env σ H Q k ok h hk => by
  refine he L env σ H _ _ ok h fun av env1 v H1 h1 p1 => ?_
  obtain ⟨ok1, st1, l1⟩ := p1.vl ok
  obtain ⟨x, e1, h2⟩ := ob_of h1
  cases x with
  | int i => exact ⟨i, (l1.tv ok1 (by rw [AV.get_hold]; exact e1)).int, hk _ _ _ _ h2 ((post_s ok1 (.int _)).trans st1)⟩
  | _ => exact (show False from h2).elim
/-! zip of two tuples -/
def zipD : List D → List D → List D
  | x :: xs, y :: ys => .tup [x, y] :: zipD xs ys
  | _, _ => []
theorem zipD_len : ∀ {xs ys : List D}, xs.length = ys.length → (zipD xs ys).length = xs.length
  | [], [], _ => rfl
  | _ :: xs, _ :: ys, h => congrArg (· + 1) (zipD_len (xs := xs) (ys := ys) (Nat.succ.inj h))
theorem zipD_at : ∀ {xs ys : List D} {i : Nat} {x y : D}, xs[i]? = some x → ys[i]? = some y → (zipD xs ys)[i]? = some (.tup [x, y])
  | _ :: _, _ :: _, 0, _, _, h1, h2 => by cases h1; cases h2; rfl
  | _ :: xs, _ :: ys, i + 1, _, _, h1, h2 => zipD_at (xs := xs) (ys := ys) (i := i) (by simpa using h1) (by simpa using h2)
theorem zipD_get : ∀ {xs ys : List D} {i : Nat} {d : D}, (zipD xs ys)[i]? = some d → ∃ x y, xs[i]? = some x ∧ ys[i]? = some y ∧ d = .tup [x, y]
  | x :: xs, y :: ys, 0, d, h => by cases h; exact ⟨x, y, rfl, rfl, rfl⟩
  | _ :: xs, _ :: ys, i + 1, d, h => by
    obtain ⟨x, y, h1, h2, h3⟩ := zipD_get (xs := xs) (ys := ys) (i := i) (by simpa [zipD] using h)
    exact ⟨x, y, by simpa using h1, by simpa using h2, h3⟩
  | [], _, i, d, h => by simp [zipD] at h
  | _ :: _, [], i, d, h => by simp [zipD] at h
def dIZip (ta : TDA) : TDI := fun env k => ta env fun as env1 => match gets env1 as with
  | some [.tup xs, .tup ys] => xs.length = ys.length ∧ k (zipD xs ys) none env1
  | _ => False
theorem li_zipN {K : PySem.W.Frag} {ta : TA} {da : TDA} (ha : LfA S B ta da) (hK : S.K = K := by rfl) : LfI S B (ZpN.iZipN K ta) (dIZip da) := fun L env σ H R k ok h hk => by
  subst hK
  refine ha L env σ H _ _ ok h fun avs env1 vs H1 h1 ok1 st1 l1 => ?_
  split at h1
  · rename_i xs ys e
    obtain ⟨hl, h1⟩ := h1
    obtain ⟨v, u, rfl, hv, hu⟩ := (l1.tvs ok1 e).two
    obtain ⟨p, vs, rfl, hs, r⟩ := hv.tup
    obtain ⟨q, us, rfl, hs2, r2⟩ := hu.tup
    have hl2 : vs.length = us.length := by rw [r.len, r2.len, hl]
    refine ⟨p, q, vs, us, rfl, .inl (.inl hs), .inl (.inl hs2), hk _ _ _ _ _ h1 ok1 st1 (fun _ z => nomatch z) ⟨vs.length, _, _, by rw [zipD_len hl, r.len], ZpN.walkT (K := S.K) (a := p) (b := q) hl2, fun A' H2 kp hp => ⟨⟨.inl (.inl (kp.u _ _ hs)), .inl (.inl (kp.u _ _ hs2))⟩, fun i x H3 hi hy => ?_⟩⟩⟩
    obtain ⟨T, x1, y1, rfl, hT, rfl, e1, e2⟩ := hy
    obtain ⟨d1, e3, rd1⟩ := r.at' e1
    obtain ⟨d2, e4, rd2⟩ := r2.at' e2
    exact ⟨_, zipD_at e3 e4, .inr ⟨T, _, _, rfl, hT, rfl, rfl, .cons (rd1.mono kp) (.cons (rd2.mono kp) .nil)⟩⟩
  · exact h1.elim
theorem li_zipA {K : PySem.W.Frag} {ta : TA} {da : TDA} (ha : LfA S B ta da) (hK : S.K = K := by rfl) : LfI S B (RZ.iZipA K ta) (dIZip da) := fun L env σ H R k ok h hk => by
  subst hK
  refine ha L env σ H _ _ ok h fun avs env1 vs H1 h1 ok1 st1 l1 => ?_
  split at h1
  · rename_i xs ys e
    obtain ⟨hl, h1⟩ := h1
    obtain ⟨v, u, rfl, hv, hu⟩ := (l1.tvs ok1 e).two
    obtain ⟨p, vs, rfl, hs, r⟩ := hv.tup
    obtain ⟨q, us, rfl, hs2, r2⟩ := hu.tup
    have hl2 : vs.length = us.length := by rw [r.len, r2.len, hl]
    refine ⟨p, q, vs, us, rfl, (.inr ⟨.inl (.inl hs), .inl (.inl hs2), hk _ _ _ _ _ h1 ok1 st1 (fun _ z => nomatch z) ⟨vs.length, _, _, by rw [zipD_len hl, r.len], ZpN.walkT (K := S.K) (a := p) (b := q) hl2, fun A' H2 kp hp => ⟨⟨.inl (.inl (kp.u _ _ hs)), .inl (.inl (kp.u _ _ hs2))⟩, fun i x H3 hi hy => ?_⟩⟩⟩)⟩
    obtain ⟨T, x1, y1, rfl, hT, rfl, e1, e2⟩ := hy
    obtain ⟨d1, e3, rd1⟩ := r.at' e1
    obtain ⟨d2, e4, rd2⟩ := r2.at' e2
    exact ⟨_, zipD_at e3 e4, .inr ⟨T, _, _, rfl, hT, rfl, rfl, .cons (rd1.mono kp) (.cons (rd2.mono kp) .nil)⟩⟩
  · exact h1.elim
/-! tuple * n -/
theorem repT0K {X : Cx} {K : PySem.W.Frag} (h : X.K = K) : OpR X (binaryOp .Mult) (RpT.rRepT0 K) := by subst h; exact RpT.op_repT0
def fRepT0 : F2 := fun a b k => match a, b with
  | .tup xs, .int n => (xs ≠ [] ∧ 0 ≤ n ∧ n ≤ 1000 ∧ xs.length ≤ 1000) ∧ k (.s (.tup (List.replicate n.toNat xs).flatten))
  | _, _ => False
theorem lo_repT0 {K : PySem.W.Frag} (hK : S.K = K := by rfl) : OpL S B (RpT.rRepT0 K) fRepT0 := by
  subst hK
  exact fun L env σ H Q x y a b k ok hx hy h q => by
    cases a with
    | tup xs => cases b with
      | int n =>
        obtain ⟨⟨h1, h2, h3, h4⟩, h⟩ := h
        obtain ⟨p, vs, rfl, e1, r1⟩ := hx.tup
        have e2 := hy.int
        subst e2
        refine ⟨p, n, vs, rfl, rfl, .inl (.inl e1), fun e => h1 (by subst e; cases r1; rfl), h2, h3, by rw [r1.len]; exact h4, fun e => ?_, fun _ p3 hp3 => q _ _ _ h (post_tup ok hp3 (r1.rep _))⟩
        subst e
        have e3 : (List.replicate (1 : Int).toNat xs).flatten = xs := by simp
        rw [e3] at h
        exact q _ _ _ h (post_s ok (.tup e1 r1))
      | _ => exact h.elim
    | _ => exact h.elim
end Dl
/-! DLG: helpers of the texts: lines, dicts made of lists, rows as data and as keys. -/
namespace Dl
open PySem L2 Lk
theorem u65 {k : Nat} {A : Around} (hr : Room k A) : A.units + 65 < cLine := by
  have := hr.un
  omega
theorem hu1 {k : Nat} {A : Around} (hr : Room k A) : A.units + 1 < cLine := by
  have := hr.un
  omega
theorem both {a b : Prop} [Decidable a] [Decidable b] (h1 : a) (h2 : b) : (decide a && decide b) = true := by
  rw [decide_eq_true h1, decide_eq_true h2]
  rfl
theorem le_line {n : Nat} (h : n ≤ 100000) : n ≤ sizeLine := by
  rw [sizeLine_eq]
  omega
theorem ob_mk {α : Type} {o : Option α} {k : α → Prop} {x : α} (e : o = some x) (h : k x) : ob o k := by
  rw [e]
  exact h
theorem bls_rep : ∀ n : Nat, bls (List.replicate n (D.bl true)) = some (List.replicate n true)
  | 0 => rfl
  | n + 1 => by
    rw [List.replicate_succ, List.replicate_succ]
    show (bls (List.replicate n (D.bl true))).map (true :: ·) = _
    rw [bls_rep n]
    rfl
theorem all_rep (n : Nat) : (List.replicate n true).all id = true := by simp
theorem deq_ints (i j : Int) : deq (.int i) (.int j) = decide (i = j) := rfl
theorem deq_strs (x y : Str) : deq (.str x) (.str y) = decide (x = y) := rfl
theorem deq_int (i : Int) : deq (.int i) (.int i) = true := decide_eq_true rfl
theorem deq_str (x : Str) : deq (.str x) (.str x) = true := decide_eq_true rfl
theorem deq_bl (b : Bool) : deq (.bl b) (.bl b) = true := by cases b <;> rfl
/-! lists -/
theorem map_at {α : Type} {f : α → D} {xs : List α} {i : Nat} {d : D} (h : (xs.map f)[i]? = some d) : ∃ x, xs[i]? = some x ∧ d = f x := by
  rw [List.getElem?_map] at h
  obtain ⟨x, hx, e⟩ := Option.map_eq_some_iff.mp h
  exact ⟨x, hx, e.symm⟩
theorem take_map {α β : Type} {f : α → β} {xs : List α} {i : Nat} {x : α} (h : xs[i]? = some x) : (xs.take i).map f ++ [f x] = (xs.take (i + 1)).map f := by
  rw [List.take_add_one, h, List.map_append]
  rfl
theorem enum_at {α : Type} {f : α → D} {xs : List α} {i : Nat} {d : D} (h : (enumD 0 (xs.map f))[i]? = some d) : ∃ x, xs[i]? = some x ∧ d = .tup [.int (i : Int), f x] := by
  have hl := (List.getElem?_eq_some_iff.mp h).1
  rw [enumD_len, List.length_map] at hl
  refine ⟨xs[i], List.getElem?_eq_getElem hl, ?_⟩
  have := enumD_at (i := 0) (j := i) (d := f xs[i]) (ds := xs.map f) (by rw [List.getElem?_map, List.getElem?_eq_getElem hl]; rfl)
  rw [this, Nat.zero_add] at h
  exact (Option.some.inj h).symm
theorem atI_nat {ds : List D} {i : Nat} (h : i < ds.length) : atI ds (i : Int) = ds[i]? := by
  unfold atI
  rw [show ixN ds.length (i : Int) = some i by unfold ixN; simp [h]]
  rfl
theorem at_map {α : Type} {f : α → D} {xs : List α} {i : Nat} {x : α} (h : xs[i]? = some x) : atI (xs.map f) (i : Int) = some (f x) := by
  have := (List.getElem?_eq_some_iff.mp h).1
  rw [atI_nat (by rw [List.length_map]; exact this), List.getElem?_map, h]
  rfl
theorem len_of {α : Type} {xs : List α} {i : Nat} {x : α} (h : xs[i]? = some x) : i < xs.length := (List.getElem?_eq_some_iff.mp h).1
theorem not_take {α : Type} {B : List α} (hn : B.Nodup) {i : Nat} {x : α} (h : B[i]? = some x) : ¬ x ∈ B.take i := by
  intro q
  obtain ⟨j, hj⟩ := List.mem_iff_getElem?.mp q
  have hj2 : j < i := by
    have := (List.getElem?_eq_some_iff.mp hj).1
    rw [List.length_take] at this
    omega
  rw [List.getElem?_take_of_lt hj2] at hj
  have h1 := (List.getElem?_eq_some_iff.mp hj)
  have h2 := (List.getElem?_eq_some_iff.mp h)
  have h3 := (List.getElem_inj hn (i := j) (j := i) (h₀ := h1.1) (h₁ := h2.1)).mp (h1.2.trans h2.2.symm)
  omega
/-! dicts made of lists -/
section
variable {κ : Type} [DecidableEq κ] {α : Type}
theorem valD_pos {kds : List (κ × D)} {k x : κ} {d : D} (e : x = k) : valD ((x, d) :: kds) k = some d := by
  unfold valD
  rw [List.find?_cons, decide_eq_true e]
  rfl
theorem valD_neg {kds : List (κ × D)} {k x : κ} {d : D} (e : x ≠ k) : valD ((x, d) :: kds) k = valD kds k := by
  unfold valD
  rw [List.find?_cons, decide_eq_false e]
theorem valD_none {kf : α → κ} {vf : α → D} {k : κ} : ∀ {xs : List α}, (∀ x ∈ xs, kf x ≠ k) → valD (xs.map fun x => (kf x, vf x)) k = none
  | [], _ => rfl
  | x :: xs, h => by
    rw [List.map_cons, valD_neg (h x List.mem_cons_self)]
    exact valD_none fun y hy => h y (List.mem_cons_of_mem _ hy)
theorem valD_some {kf : α → κ} {vf : α → D} {x : α} : ∀ {xs : List α}, x ∈ xs → (∀ y ∈ xs, kf y = kf x → y = x) → valD (xs.map fun x => (kf x, vf x)) (kf x) = some (vf x)
  | y :: xs, h, hi => by
    rw [List.map_cons]
    by_cases e : kf y = kf x
    · have := hi y List.mem_cons_self e
      subst this
      exact valD_pos rfl
    · rw [valD_neg e]
      refine valD_some ?_ fun z hz => hi z (List.mem_cons_of_mem _ hz)
      rcases List.mem_cons.mp h with rfl | h
      · exact absurd rfl e
      · exact h
theorem valD_isSome {kf : α → κ} {vf : α → D} {k : κ} : ∀ {xs : List α}, (valD (xs.map fun x => (kf x, vf x)) k).isSome = decide (∃ x ∈ xs, kf x = k)
  | [] => by simp [valD]
  | x :: xs => by
    rw [List.map_cons]
    by_cases e : kf x = k
    · rw [valD_pos e, decide_eq_true ⟨x, List.mem_cons_self, e⟩]
      rfl
    · rw [valD_neg e, valD_isSome]
      simp [e]
theorem putD_new {kds : List (κ × D)} {k : κ} {d : D} (h : valD kds k = none) : putD kds k d = kds ++ [(k, d)] := by
  unfold putD
  rw [if_neg]
  intro q
  obtain ⟨p, hp, e⟩ := List.any_eq_true.mp q
  unfold valD at h
  rw [Option.map_eq_none_iff, List.find?_eq_none] at h
  exact h p hp e
end
/-! rows as data -/
def dn (x : Nat) : D := .int (x : Int)
def dns (xs : List Nat) : D := .tup (xs.map dn)
def drow (r : Row) : D := .tup [dn r.1, dns r.2]
def drows (R : List Row) : D := .tup (R.map drow)
theorem row_at {R : List Row} {i : Nat} {r : Row} (h : R[i]? = some r) : rowAt R i = r := by
  unfold rowAt
  rw [List.getD_eq_getElem?_getD, h]
  rfl
theorem row_get {R : List Row} {i : Nat} (h : i < R.length) : R[i]? = some (rowAt R i) := by
  unfold rowAt
  rw [List.getD_eq_getElem?_getD, List.getElem?_eq_getElem h]
  rfl
theorem rows_at {R : List Row} {i : Nat} (h : i < R.length) : (R.map drow)[i]? = some (drow (rowAt R i)) := by
  rw [List.getElem?_map, row_get h]
  rfl
theorem rng_dns (n : Nat) : rng 0 n = (List.range n).map dn := by
  unfold rng
  refine List.map_congr_left fun i _ => ?_
  rw [Int.zero_add]
  rfl
/-! numbers as keys -/
def nks (xs : List Nat) : List NestedKey := xs.map fun p : Nat => .num p
theorem nks_inj : ∀ {xs ys : List Nat}, nks xs = nks ys → xs = ys
  | [], [], _ => rfl
  | [], _ :: _, h => by cases h
  | _ :: _, [], h => by cases h
  | x :: xs, y :: ys, h => by
    have h1 := (List.cons.inj h).1
    have h2 := nks_inj (List.cons.inj h).2
    injection h1 with h3
    rw [h2, Int.ofNat.inj h3]
theorem keysN_nks : ∀ xs : List Nat, keysN (xs.map dn) = some (nks xs)
  | [] => rfl
  | x :: xs => by
    show (match (D.int x).keyN, keysN (xs.map dn) with
      | some k, some ks => some (k :: ks)
      | _, _ => none) = _
    rw [keysN_nks xs]
    rfl
theorem keyN_dns (xs : List Nat) : (dns xs).keyN = some (.tup (nks xs)) := by
  show (keysN (xs.map dn)).map NestedKey.tup = _
  rw [keysN_nks]
  rfl
theorem of_nks : ∀ xs : List Nat, ofKeysN (nks xs) = xs.map dn
  | [] => rfl
  | x :: xs => by
    show D.int x :: ofKeysN (nks xs) = _
    rw [of_nks xs]
    rfl
theorem dep_nks : ∀ xs : List Nat, NestedKey.depthAll (nks xs) ≤ 1
  | [] => Nat.zero_le _
  | x :: xs => by
    show max (NestedKey.depth (.num x)) (NestedKey.depthAll (nks xs)) ≤ 1
    have := dep_nks xs
    have h : NestedKey.depth (.num x) = 0 := rfl
    omega
end Dl
/-! DLH: two own names set at once to two new objects. -/
namespace Dl
open PySem L2 Lk
section
variable {S : Sys} {B : Vol}
def dParOO (i j : Nat) (t u : TDE) : TDS := fun E env => t env fun a env1 => match a with
  | .f d => u env1 fun b env2 => match b with
    | .f e => Nat.beq i j = false ∧ Nat.blt i env2.length = true ∧ Nat.blt j env2.length = true ∧ E.nx ((env2.set i (some (.o d))).set j (some (.o e)))
    | _ => False
  | _ => False
theorem lf_parOO {i j : Nat} {te tu : TE} {t u : TDE} (ht : LfE S B te t) (hu : LfE S B tu u) : LfS S B (tPar i j (tCons te (tCons tu tNil))) (dParOO i j t u) := fun L env σ H W E ok h r => by
  refine ht L env σ H _ _ ok h fun av env1 v H1 h1 p1 => ?_
  cases av with
  | s d => exact h1.elim
  | r k => exact h1.elim
  | f d =>
    obtain ⟨st1, p, rfl, hn, ok1, w1⟩ := p1
    refine hu (La L p) env1 σ H1 _ _ ok1 h1 fun aw env2 w H2 h2 p2 => ?_
    cases aw with
    | s d => exact h2.elim
    | r k => exact h2.elim
    | f e =>
      obtain ⟨st2, q, rfl, hn2, ok2, w2⟩ := p2
      obtain ⟨hij, hi, hj, h3⟩ := h2
      have hij : i ≠ j := fun z => by rw [z, Nat.beq_refl] at hij; cases hij
      have hi := Nat.le_of_ble_eq_true hi
      have hj := Nat.le_of_ble_eq_true hj
      obtain ⟨ok3, hown2⟩ := ok2.setO (st2.lent2 ok1 hn2) (fun z => ok1.al q z hn2) hj w2
      have ww : ∀ a, Av B (La L p) (env2.set j (some (.o e))) (σ.set j (some (.ref q))) a → Av B (La (La L p) q) env2 σ a := fun a z => z.elim (fun y => .inl (.inl y)) fun y => (hown2 a y).elim .inr fun e => .inl (.inr e)
      have w1b : Own S (Av B (La (La L p) q) env2 σ) H2 p d := w1.mono (kp_step ok1 st2 hn2) fun o z => st2.e _ _ z (la_out ok1)
      have hb3 : ∀ (k : Nat) (d' : D), (env2.set j (some (.o e)))[k]? = some (some (.b d')) → (σ.set j (some (.ref q)))[k]? = some (some (.ref p)) → RD S (Av B (La L p) (env2.set j (some (.o e))) (σ.set j (some (.ref q)))) H2 (.ref p) d' := fun k d' h h2 => by
        rcases get_set h with ⟨_, e', _⟩ | ⟨n, h3⟩
        · cases e'
        · rw [List.getElem?_set_ne (Ne.symm n)] at h2
          exact (((st1.lent2 ok hn) k d' (st2.b k d' h3).1 h2).mono (kp_step ok1 st2 hn2)).weak ww
      obtain ⟨ok4, hown4⟩ := ok3.setO hb3 (fun z => ok.al p z hn) (by rw [List.length_set]; exact hi) (w1b.weak ww)
      have stT := st1.trans st2
      have ec1 : (env2.set j (some (.o e))).set i (some (.o d)) = (env2.set i (some (.o d))).set j (some (.o e)) := List.set_comm _ _ hij.symm
      have ec2 : (σ.set j (some (V.ref q))).set i (some (V.ref p)) = (σ.set i (some (V.ref p))).set j (some (V.ref q)) := List.set_comm _ _ hij.symm
      rw [ec1, ec2] at ok4
      rw [ec1, ec2] at hown4
      refine ⟨_, _, rfl, r.nx _ _ _ h3 ok4 ⟨stT.e, fun a z => ?_, fun k d' g => ?_, fun k d' g => ?_, stT.al⟩⟩
      · rcases hown4 a z with y | rfl
        · rcases hown2 a y with y | rfl
          · exact stT.n a y
          · exact .inr (st1.al _ hn2)
        · exact .inr hn
      · rcases get_set g with ⟨_, e, _⟩ | ⟨n, g2⟩
        · cases e
        · rcases get_set g2 with ⟨_, e, _⟩ | ⟨n2, g3⟩
          · cases e
          · obtain ⟨k1, k2⟩ := stT.m k d' g3
            exact ⟨k1, (List.getElem?_set_ne (Ne.symm n)).trans ((List.getElem?_set_ne (Ne.symm n2)).trans k2)⟩
      · rcases get_set g with ⟨_, e, _⟩ | ⟨n, g2⟩
        · cases e
        · rcases get_set g2 with ⟨_, e, _⟩ | ⟨n2, g3⟩
          · cases e
          · obtain ⟨k1, k2⟩ := stT.b k d' g3
            exact ⟨k1, (List.getElem?_set_ne (Ne.symm n)).trans ((List.getElem?_set_ne (Ne.symm n2)).trans k2)⟩
end
/-! data that can be laid and compared -/
structure Fl (n : Nat) (d : D) : Prop where
  pk : d.pk = true
  lay : PyData.canLay0 d.py = true
  dep : PyData.depth d.py ≤ n
theorem fl_list {n : Nat} : ∀ {ds : List D}, (∀ d ∈ ds, Fl n d) → pks ds = true ∧ PyData.canLayAll0 (pys ds) = true ∧ PyData.depthAll (pys ds) ≤ n
  | [], _ => ⟨rfl, rfl, Nat.zero_le _⟩
  | d :: ds, h => by
    obtain ⟨h1, h2, h3⟩ := fl_list fun x hx => h x (List.mem_cons_of_mem _ hx)
    have f := h d List.mem_cons_self
    refine ⟨?_, ?_, ?_⟩
    · show (d.pk && pks ds) = true
      rw [f.pk, h1]
      rfl
    · show (PyData.canLay0 d.py && PyData.canLayAll0 (pys ds)) = true
      rw [f.lay, h2]
      rfl
    · show max (PyData.depth d.py) (PyData.depthAll (pys ds)) ≤ n
      have := f.dep
      omega
theorem Fl.tup {n : Nat} {ds : List D} (h : ∀ d ∈ ds, Fl n d) : Fl (n + 1) (.tup ds) := by
  obtain ⟨h1, h2, h3⟩ := fl_list h
  refine ⟨h1, h2, ?_⟩
  show PyData.depthAll (pys ds) + 1 ≤ n + 1
  omega
theorem Fl.lst {n : Nat} {ds : List D} (h : ∀ d ∈ ds, Fl n d) : Fl (n + 1) (.lst ds) := by
  obtain ⟨h1, h2, h3⟩ := fl_list h
  refine ⟨h1, h2, ?_⟩
  show PyData.depthAll (pys ds) + 1 ≤ n + 1
  omega
theorem Fl.int (n : Nat) (i : Int) : Fl n (.int i) := ⟨rfl, rfl, Nat.zero_le _⟩
theorem Fl.dns (n : Nat) (xs : List Nat) : Fl (n + 1) (dns xs) := Fl.tup fun d hd => by
  obtain ⟨x, _, rfl⟩ := List.mem_map.mp hd
  exact Fl.int _ _
theorem Fl.sh {n : Nat} {d : D} (h : Fl n d) (hn : n ≤ 64) : Sh d := ⟨h.pk, by
  unfold SeqAt.shaped
  rw [Bool.and_eq_true, decide_eq_true_eq]
  have := h.dep
  exact ⟨h.lay, by omega⟩⟩
theorem fl_cons {n : Nat} {d : D} {ds : List D} (h : Fl n d) (hs : ∀ x ∈ ds, Fl n x) : ∀ x ∈ d :: ds, Fl n x := fun x hx => by
  rcases List.mem_cons.mp hx with rfl | hx
  · exact h
  · exact hs x hx
theorem fl_nil {n : Nat} : ∀ x ∈ ([] : List D), Fl n x := fun x hx => by cases hx
theorem eqv_dns : ∀ xs ys : List Nat, PyData.eqvAll (pys (xs.map dn)) (pys (ys.map dn)) = decide (xs = ys)
  | [], [] => rfl
  | [], _ :: _ => by rw [decide_eq_false (by simp)]; rfl
  | _ :: _, [] => by rw [decide_eq_false (by simp)]; rfl
  | x :: xs, y :: ys => by
    show (((x : Int) == (y : Int)) && PyData.eqvAll (pys (xs.map dn)) (pys (ys.map dn))) = _
    rw [eqv_dns xs ys]
    by_cases e : x = y
    · subst e
      simp
    · rw [decide_eq_false (show ¬ (x :: xs = y :: ys) by simp [e])]
      have : ((x : Int) == (y : Int)) = false := by simp; omega
      rw [this]
      rfl
theorem beq_nat (x y : Nat) : ((x : Int) == (y : Int)) = decide (x = y) := by
  by_cases e : x = y
  · subst e
    simp
  · rw [decide_eq_false e]
    simp
    omega
theorem any_map {α : Type} {f : α → D} {P : α → Prop} [DecidablePred P] {u : D} (h : ∀ x, PyData.eqv (f x).py u.py = decide (P x)) : ∀ xs : List α, anyIn (xs.map f) u = decide (∃ x ∈ xs, P x)
  | [] => by rw [decide_eq_false (fun ⟨_, h, _⟩ => by cases h)]; rfl
  | x :: xs => by
    have ih := any_map h xs
    show (PyData.eqv (f x).py u.py || anyIn (xs.map f) u) = _
    rw [ih, h x]
    by_cases e : P x
    · have he : ∃ y ∈ x :: xs, P y := ⟨x, List.mem_cons_self, e⟩
      rw [decide_eq_true e, decide_eq_true he]
      rfl
    · rw [decide_eq_false e, Bool.false_or]
      refine decide_eq_decide.mpr ⟨fun ⟨y, hy, q⟩ => ⟨y, List.mem_cons_of_mem _ hy, q⟩, fun ⟨y, hy, q⟩ => ?_⟩
      rcases List.mem_cons.mp hy with rfl | hy
      · exact absurd q e
      · exact ⟨y, hy, q⟩
end Dl
/-! DLI: enumerate of lists, len of dicts of tuple keys, list(zip(t, u)). -/
namespace Dl
open PySem L2
section
variable {S : Sys} {B : Vol} {L : As} {env env' : Env} {σ σ' : St} {H H' : Hp}
/-- enumerate(l), l a list -/
def dIEL (ta : TDA) : TDI := fun env k => ta env fun as env1 => match as with
  | [a] => srcOf env1 a fun d bw => ob (lsts d) fun ds => k (enumD 0 ds) bw env1
  | _ => False
theorem li_enumL {K : PySem.W.Frag} {ta : TA} {da : TDA} (ha : LfA S B ta da) (hK : S.K = K := by rfl) : LfI S B (iEnum K ta) (dIEL da) := fun L env σ H R k ok h hk => by
  subst hK
  refine ha L env σ H _ _ ok h fun avs env1 vs H1 h1 ok1 st1 l1 => ?_
  match avs, vs, h1, l1 with
  | [av], [v], h1, l1 =>
    obtain ⟨d, bw, e1, h1, hb⟩ := srcOf_get h1
    obtain ⟨ds, e2, h1⟩ := ob_of h1
    obtain ⟨hb, hbw⟩ := own_bw hb
    have lh : VlA S (Av B L env1 σ) σ H1 v av.hold := by
      have := l1.1
      cases av with
      | f d => exact (show False from this).elim
      | _ => exact this
    obtain ⟨p, us, rfl, hs, r, stay⟩ := src_lst (K := S.K) rfl ok1 lh (lsts_of e1 e2) hb
    refine ⟨p, us, rfl, hs, hk _ _ _ _ _ h1 ok1 st1 hbw ⟨us.length, _, _, by rw [enumD_len, r.len], walk_enum (K := S.K) (a := p) (xs := us), fun A' H2 kp hp => ⟨stay A' H2 kp hp, fun i x H3 hi hy => ?_⟩⟩⟩
    obtain ⟨T, x1, y1, rfl, hT, rfl, e1, e2⟩ := hy
    cases e1
    obtain ⟨d', e3, rd⟩ := r.at' e2
    refine ⟨_, enumD_at e3, .inr ⟨T, _, _, rfl, hT, rfl, rfl, ?_⟩⟩
    rw [Nat.zero_add]
    exact .cons (.int _) (.cons (rd.mono kp) .nil)
def fLenT : D → (AV → Prop) → Prop := fun d k => match d with
  | .dT kds => k (.s (.int kds.length))
  | _ => False
theorem cl_lenDT : CaO S B rLenT fLenT := fun L env σ H Q p d k ok w h q => by
  match d, w, h with
  | .dT kds, ⟨kvs, e, hk, _⟩, h =>
    refine ⟨p, kvs, rfl, e, q _ _ _ h (post_s ok ?_)⟩
    rw [keys_len hk]
    exact .int _
/-! the heap has grown -/
theorem step_same {env : Env} {σ : St} {H H' : Hp} (s : Same H H') : Step B env σ H env σ H' where
  e := fun a u h _ => s _ _ h
  n := fun _ z => .inl z
  m := fun _ _ z => ⟨⟨_, z⟩, rfl⟩
  b := fun _ _ z => ⟨z, rfl⟩
  al := fun a h => by
    cases e : H a with
    | none => rfl
    | some o => rw [s _ _ e] at h; cases h
theorem kp_same {L : As} {env : Env} {σ : St} {H H' : Hp} {p : Addr} (ok : Ok S B L env σ H) (s : Same H H') (hp : H p = none) : Kp (Av B L env σ) (Av B (La L p) env σ) H H' := by
  have k := (step_same (B := B) (env := env) (σ := σ) s).kp ok
  refine ⟨k.t, k.u, k.l, k.z, fun q u h n => ⟨(k.r q u h n).1, ?_⟩, k.i, k.x⟩
  rintro ((z | z) | z)
  · exact n (.inl z)
  · rw [z] at h
    rcases h with h | ⟨ob, h⟩ <;> · rw [hp] at h; cases h
  · exact n (.inr z)
theorem Ok.grow {L : As} {env : Env} {σ : St} {H H' : Hp} {p : Addr} {o : HO} (ok : Ok S B L env σ H) (s : Same H H') (hp : H p = none) (hq : H' p = some o) : Ok S B (La L p) env σ H' := by
  have kp := kp_same ok s hp
  refine ⟨ok.len, fun i c h => ?_, ok.inj, ?_, ?_, B.stab H _ (fun a o' va h => s _ _ h) ok.bag, ok.dv⟩
  · obtain ⟨v, h1, h2⟩ := ok.at_ i c h
    refine ⟨v, h1, ?_⟩
    cases c with
    | s d => exact RD.mono kp h2
    | o d => obtain ⟨q, e, z⟩ := h2; exact ⟨q, e, z.mono kp fun o' h => s _ _ h⟩
    | m d => obtain ⟨q, e, z⟩ := h2; exact ⟨q, e, z.mono kp fun o' h => s _ _ h⟩
    | b d =>
      rcases h2 with h2 | ⟨q, e, l, z⟩
      · exact .inl (RD.mono kp h2)
      refine .inr ⟨q, e, .inl l, z.mono kp (fun u h => ?_) (fun C dx fs h => s _ _ h) fun xs h => s _ _ h⟩
      rcases h with h | ⟨ob, h⟩
      · exact .inl (s _ _ h)
      · exact .inr ⟨ob, s _ _ h⟩
  · rintro a z (q | rfl)
    · exact ok.sep a z q
    · obtain ⟨o, h1, _⟩ := ok.ow z
      rw [hp] at h1; cases h1
  · rintro a (z | rfl)
    · intro q
      exact ok.al a z ((step_same (B := B) (env := env) (σ := σ) s).al a q)
    · rw [hq]
      exact fun z => nomatch z
/-- list(zip(t, u)) -/
def zipT : List D → List D → List D
  | x :: xs, y :: ys => .tup [x, y] :: zipT xs ys
  | _, _ => []
def dLZ (ta : TDA) : TDE := fun env k => ta env fun as env1 => match gets env1 as with
  | some [.tup xs, .tup ys] => xs.length = ys.length ∧ k (.f (.lst (zipT xs ys))) env1
  | _ => False
theorem rds_zip {A A' : As} (kp : Kp A A' H H') : ∀ {us vs : List V} {xs ys : List D} {ts : List Addr}, RDs S A H us xs → RDs S A H vs ys → us.length = vs.length → ts.length = us.length → (∀ (j : Nat) (t : Addr) (x y : V), ts[j]? = some t → us[j]? = some x → vs[j]? = some y → H' t = some (.tup [x, y])) → RDs S A' H' (ts.map V.ref) (zipT xs ys)
  | _, _, _, _, [], .nil, .nil, _, _, _ => .nil
  | u :: us, v :: vs, _, _, t :: ts, .cons h1 r1, .cons h2 r2, e1, e2, h => .cons (.tup (h 0 t u v rfl rfl rfl) (.cons (h1.mono kp) (.cons (h2.mono kp) .nil))) (rds_zip kp r1 r2 (Nat.succ.inj e1) (Nat.succ.inj e2) fun j t x y a b c => h (j + 1) t x y a b c)
theorem lf_listZip {K : PySem.W.Frag} {ta : TA} {da : TDA} (ha : LfA S B ta da) (hK : S.K = K := by rfl) : LfE S B (LZp.tLZ K ta) (dLZ da) := fun L env σ H Q k ok h hk => by
  subst hK
  refine ha L env σ H _ _ ok h fun avs env1 vs H1 h1 ok1 st1 l1 => ?_
  split at h1
  · rename_i xs ys e
    obtain ⟨hl, h1⟩ := h1
    obtain ⟨v, u, rfl, hv, hu⟩ := (l1.tvs ok1 e).two
    obtain ⟨p, vs, rfl, hs1, r1⟩ := hv.tup
    obtain ⟨q, us, rfl, hs2, r2⟩ := hu.tup
    refine ⟨p, q, vs, us, rfl, .inl (.inl hs1), .inl (.inl hs2), by rw [r1.len, r2.len]; exact hl, fun H' l ts s hl0 hl1 htl hts => hk _ _ _ _ h1 ?_⟩
    have pp : Post S B L env1 σ H1 (.f (.lst (zipT xs ys))) env1 (.ref l) H' := ⟨step_same s, l, rfl, hl0, ok1.grow s hl0 hl1, ts.map V.ref, hl1, rds_zip (kp_same ok1 s hl0) r1 r2 (by rw [r1.len, r2.len]; exact hl) htl hts⟩
    exact pp.trans st1
  · exact h1.elim
end
end Dl
/-! DLJ: a dict of one's own is locked while a statement walks over it. -/
namespace Dl
open PySem L2
section
variable {S : Sys} {B : Vol} {L : As} {env env' : Env} {σ σ' : St} {H H' : Hp} {W : Ends} {E : EndsD} {p : Addr}
structure Dic (u : HO) : Prop where
  t : ∀ ys, u ≠ .tup ys
  l : ∀ ys, u ≠ .lst ys
  i : ∀ C dx fs, u ≠ .ins C dx fs
  x : ∀ fs, u ≠ .xd fs
  f : ∀ ob v, u ≠ .frz ob v
theorem dic_K {kvs : List (Key × V)} : Dic (.dK kvs) := ⟨(fun _ z => nomatch z), (fun _ z => nomatch z), (fun _ _ _ z => nomatch z), (fun _ z => nomatch z), (fun _ _ z => nomatch z)⟩
theorem dic_T {kvs : List (List Key × V)} : Dic (.dT kvs) := ⟨(fun _ z => nomatch z), (fun _ z => nomatch z), (fun _ _ _ z => nomatch z), (fun _ z => nomatch z), (fun _ _ z => nomatch z)⟩
/-- locked or not -/
def Lk1 (u o : HO) : Prop := o = u ∨ ∃ ob, o = .frz ob u
theorem lk_rd {u o w : HO} (du : Dic u) (h : Lk1 u o) (hp : H p = some o) (r : Rd H p w) : w = u ∨ ∃ ob, w = .frz ob u := by
  rcases r with r | ⟨ob, r⟩
  · rw [hp] at r
    cases r
    exact h
  · rw [hp] at r
    cases r
    rcases h with h | ⟨ob2, h⟩
    · exact absurd h.symm (du.f _ _)
    · cases h
      exact .inl rfl
theorem kp_swap {A : As} {u o o' : HO} (du : Dic u) (h : Lk1 u o) (hp : H p = some o) (ha : A p) : Kp A A H (upd H p o') := by
  have ne : ∀ {q : Addr} {w : HO}, Rd H q w → (w ≠ u) → (∀ ob, w ≠ .frz ob u) → q ≠ p := fun r n1 n2 e => by
    subst e
    rcases lk_rd du h hp r with z | ⟨ob, z⟩
    · exact n1 z
    · exact n2 _ z
  refine ⟨fun q xs r => ?_, fun q xs r => ?_, fun q xs r n => ?_, fun q ob xs r => ?_, fun q w r n => ?_, fun q C dx fs r n => ?_, fun q fs r => ?_⟩
  · have := ne r (fun z => du.t _ z.symm) (fun _ z => nomatch z)
    rcases r with r | ⟨ob, r⟩
    · exact .inl (by rw [upd_ne this]; exact r)
    · exact .inr ⟨ob, by rw [upd_ne this]; exact r⟩
  · rw [upd_ne (ne (.inl r) (fun z => du.t _ z.symm) (fun _ z => nomatch z))]
    exact r
  · rw [upd_ne (show q ≠ p from fun e => n (e ▸ ha))]
    exact r
  · rw [upd_ne (ne (.inr ⟨ob, r⟩) (fun z => du.l _ z.symm) (fun _ z => nomatch z))]
    exact r
  · have hq : q ≠ p := fun e => n (e ▸ ha)
    refine ⟨?_, n⟩
    rcases r with r | ⟨ob, r⟩
    · exact .inl (by rw [upd_ne hq]; exact r)
    · exact .inr ⟨ob, by rw [upd_ne hq]; exact r⟩
  · rw [upd_ne (show q ≠ p from fun e => n (e ▸ ha))]
    exact r
  · rw [upd_ne (ne (.inl r) (fun z => du.x _ z.symm) (fun _ z => nomatch z))]
    exact r
theorem rd_swap {u o o' w : HO} {q : Addr} (du : Dic u) (h : Lk1 u o) (h' : Lk1 u o') (hp : H p = some o) (dw : Dic w) (r : Rd H q w) : Rd (upd H p o') q w := by
  by_cases e : q = p
  · subst e
    have hw : w = u := by
      rcases lk_rd du h hp r with z | ⟨ob, z⟩
      · exact z
      · exact absurd z (dw.f _ _)
    subst hw
    rcases h' with rfl | ⟨ob, rfl⟩
    · exact .inl upd_same
    · exact .inr ⟨ob, upd_same⟩
  · rcases r with r | ⟨ob, r⟩
    · exact .inl (by rw [upd_ne e]; exact r)
    · exact .inr ⟨ob, by rw [upd_ne e]; exact r⟩
theorem dic_N {P : Program} {w : World} {a : Addr} {xs : List NeD.Ent} : Dic (NeD.dno P w a xs) := ⟨(fun _ => NeD.dno_ne fun _ z => nomatch z), (fun _ => NeD.dno_ne fun _ z => nomatch z), (fun _ _ _ => NeD.dno_ne fun _ z => nomatch z), (fun _ => NeD.dno_ne fun _ z => nomatch z), (fun _ _ => NeD.dno_ne fun _ z => nomatch z)⟩
/-- the object at p is locked, or unlocked: nothing else is told of it -/
structure Sw (H : Hp) (p : Addr) (u o o' : HO) : Prop where
  du : Dic u
  h : Lk1 u o
  h' : Lk1 u o'
  hp : H p = some o
section
variable {u o o' : HO}
theorem Sw.ne (s : Sw H p u o o') {q : Addr} {w : HO} (r : Rd H q w) (n1 : w ≠ u) (n2 : ∀ ob, w ≠ .frz ob u) : q ≠ p := fun e => by
  subst e
  rcases lk_rd s.du s.h s.hp r with z | ⟨ob, z⟩
  · exact n1 z
  · exact n2 _ z
theorem Sw.tup (s : Sw H p u o o') {q : Addr} {ys : List V} (e : H q = some (.tup ys)) : (upd H p o') q = some (.tup ys) := by
  rw [upd_ne (s.ne (.inl e) (fun z => s.du.t _ z.symm) (fun _ z => nomatch z))]
  exact e
theorem Sw.lst (s : Sw H p u o o') {q : Addr} {ys : List V} (e : H q = some (.lst ys)) : (upd H p o') q = some (.lst ys) := by
  rw [upd_ne (s.ne (.inl e) (fun z => s.du.l _ z.symm) (fun _ z => nomatch z))]
  exact e
theorem Sw.fl (s : Sw H p u o o') {q : Addr} {ob : PySem.Obj} {ys : List V} (e : H q = some (.frz ob (.lst ys))) : (upd H p o') q = some (.frz ob (.lst ys)) := by
  rw [upd_ne (s.ne (.inr ⟨ob, e⟩) (fun z => s.du.l _ z.symm) (fun _ z => nomatch z))]
  exact e
theorem Sw.ins (s : Sw H p u o o') {q C dx : Addr} {fs : List (Str × V)} (e : H q = some (.ins C dx fs)) : (upd H p o') q = some (.ins C dx fs) := by
  rw [upd_ne (s.ne (.inl e) (fun z => s.du.i _ _ _ z.symm) (fun _ z => nomatch z))]
  exact e
theorem Sw.xd (s : Sw H p u o o') {q : Addr} {fs : List (Str × V)} (e : H q = some (.xd fs)) : (upd H p o') q = some (.xd fs) := by
  rw [upd_ne (s.ne (.inl e) (fun z => s.du.x _ z.symm) (fun _ z => nomatch z))]
  exact e
theorem Sw.rd (s : Sw H p u o o') {q : Addr} {w : HO} (dw : Dic w) (r : Rd H q w) : Rd (upd H p o') q w := rd_swap s.du s.h s.h' s.hp dw r
theorem Sw.ndr (s : Sw H p u o o') {q : Addr} {kvs : List (NestedKey × V)} (z : NDR S H q kvs) : NDR S (upd H p o') q kvs := by
  obtain ⟨xs, h1, h2, h3, h4, h5⟩ := z
  exact ⟨xs, s.rd dic_N h1, h2, fun x hx => ⟨(h3 x hx).1.mono fun _ _ => s.tup, (h3 x hx).2⟩, h4, h5⟩
mutual
theorem RD.swap {A : As} (s : Sw H p u o o') : ∀ {v : V} {d : D}, RD S A H v d → RD S A (upd H p o') v d
  | _, _, .non => .non
  | _, _, .bl b => .bl b
  | _, _, .int i => .int i
  | _, _, .str x => .str x
  | _, _, .ty n => .ty n
  | _, _, .glob a => .glob a
  | _, _, .tup h r => .tup (s.tup h) (RDs.swap s r)
  | _, _, .lst h n r => .lst (s.lst h) n (RDs.swap s r)
  | _, _, .zl h r => .zl (h.elim (fun ⟨ob, z⟩ => .inl ⟨ob, s.fl z⟩) .inr) (RDs.swap s r)
  | _, _, .dK h n e r => .dK (s.rd dic_K h) n e (RDs.swap s r)
  | _, _, .dT h n e r => .dT (s.rd dic_T h) n e (RDs.swap s r)
  | _, _, .dN h n e r => .dN (s.ndr h) n e (RDs.swap s r)
  | _, _, .ins h n e r => .ins (s.ins h) n e (RDs.swap s r)
  | _, _, .exc h e r => .exc (s.xd h) e (RDs.swap s r)
theorem RDs.swap {A : As} (s : Sw H p u o o') : ∀ {vs : List V} {ds : List D}, RDs S A H vs ds → RDs S A (upd H p o') vs ds
  | _, _, .nil => .nil
  | _, _, .cons h r => .cons (RD.swap s h) (RDs.swap s r)
end
theorem Top.swap {A : As} (s : Sw H p u o o') {q : Addr} : ∀ {d : D}, Top S A H q d → Top S A (upd H p o') q d
  | .lst _, ⟨vs, h1, r⟩ => ⟨vs, s.lst h1, r.swap s⟩
  | .dK _, ⟨kvs, h1, e, r⟩ => ⟨kvs, s.rd dic_K h1, e, r.swap s⟩
  | .dT _, ⟨kvs, h1, e, r⟩ => ⟨kvs, s.rd dic_T h1, e, r.swap s⟩
  | .dN _, ⟨kvs, h1, e, r⟩ => ⟨kvs, s.ndr h1, e, r.swap s⟩
  | .ins _ _, ⟨dx, fs, h1, e, r⟩ => ⟨dx, fs, s.ins h1, e, r.swap s⟩
theorem Own.swap {A : As} (s : Sw H p u o o') {q : Addr} (hq : q ≠ p) : ∀ {d : D}, Own S A H q d → Own S A (upd H p o') q d
  | .lst _, ⟨vs, h1, r⟩ => ⟨vs, s.lst h1, r.swap s⟩
  | .dK _, ⟨kvs, h1, e, r⟩ => ⟨kvs, by rw [upd_ne hq]; exact h1, e, r.swap s⟩
  | .dT _, ⟨kvs, h1, e, r⟩ => ⟨kvs, by rw [upd_ne hq]; exact h1, e, r.swap s⟩
  | .dN _, ⟨kvs, ⟨xs, h1, h2, h3, h4⟩, e, r⟩ => ⟨kvs, ⟨xs, by rw [upd_ne hq]; exact h1, h2, fun x hx => ⟨(h3 x hx).1.mono fun _ _ => s.tup, (h3 x hx).2⟩, h4⟩, e, r.swap s⟩
  | .ins _ _, ⟨dx, fs, h1, e, r⟩ => ⟨dx, fs, s.ins h1, e, r.swap s⟩
/-- the lock is set, or taken away -/
theorem Ok.swap (ok : Ok S B L env σ H) (s : Sw H p u o o') (hn : ¬ Ow B env σ p) : Ok S B L env σ (upd H p o') := by
  refine ⟨ok.len, fun i c hc => ?_, ok.inj, ok.sep, fun a z => ?_, B.stab H _ (fun a o2 va ha => ?_) ok.bag, ok.dv⟩
  · obtain ⟨v, h1, h2⟩ := ok.at_ i c hc
    refine ⟨v, h1, ?_⟩
    cases c with
    | s d => exact RD.swap s h2
    | o d =>
      obtain ⟨q, e, z⟩ := h2
      subst e
      exact ⟨q, rfl, z.swap s fun e => hn (.inr ⟨i, _, hc, rfl, e ▸ h1⟩)⟩
    | m d =>
      obtain ⟨q, e, z⟩ := h2
      subst e
      exact ⟨q, rfl, z.swap s fun e => hn (.inr ⟨i, _, hc, rfl, e ▸ h1⟩)⟩
    | b d =>
      rcases h2 with h2 | ⟨q, e, l, z⟩
      · exact .inl (RD.swap s h2)
      · exact .inr ⟨q, e, l, z.swap s⟩
  · by_cases e : a = p
    · rw [e, upd_same]
      exact fun z => nomatch z
    · rw [upd_ne e]
      exact ok.al a z
  · rw [upd_ne (show a ≠ p from fun e => hn (.inl (e ▸ va)))]
    exact ha
end
/-- what a locked statement does -/
theorem Step.lockd {u : HO} {od : PySem.Obj} (st : Step B env σ (upd H p (.frz od u)) env' σ' H') (hp : H p = some u) (hn : ¬ Ow B env σ p) : H' p = some (.frz od u) ∧ Step B env σ H env' σ' (upd H' p u) := by
  refine ⟨st.e _ _ upd_same hn, fun a o h n => ?_, fun a z => ?_, st.m, st.b, fun a h => ?_⟩
  · by_cases e : a = p
    · rw [e, upd_same, ← hp, ← e]
      exact h
    · rw [upd_ne e]
      exact st.e a o (by rw [upd_ne e]; exact h) n
  · rcases st.n a z with y | y
    · exact .inl y
    · by_cases e : a = p
      · rw [e, upd_same] at y
        cases y
      · rw [upd_ne e] at y
        exact .inr y
  · by_cases e : a = p
    · rw [e, upd_same] at h
      cases h
    · rw [upd_ne e] at h
      have := st.al a h
      rw [upd_ne e] at this
      exact this
/-- a loop over what is walked, kept by what is nobody's -/
theorem for_core2 {J : It} {ds : List D} {g : TG} {tb : TS} {dg : TDG} {db : TDS} {I : Nat → Env → Prop} {Nx : Env → Prop} {Rt : AV → Env → Prop} {Xx : Addr → Option (List (Str × D)) → Env → Prop} {ts : List Nat} (hg : LfG S B g dg ts) (hb : LfS S B tb db) (ok : Ok S B L env σ H) (src : Src S (Av B L env σ) (fun a => ¬ Ow B env σ a) H J ds)
    (h0 : I 0 env) (hs : ∀ (i : Nat) d envi, ds[i]? = some d → I i envi → dg d envi fun env2 => db { nx := I (i + 1), rt := Rt, bk := Nx, ct := I (i + 1), xx := Xx } env2) (hd : ∀ envn, I ds.length envn → Nx envn) (r : Rel S B L env σ H W { nx := Nx, rt := Rt, xx := Xx }) :
    ∃ Wl : Nat → Nat → St → Hp → Prop, (∃ m, Wl 0 m σ H) ∧ ∀ i m σ H, Wl i m σ H →
      (J.stop i H ∧ W.nx σ H) ∨ (J.go i H ∧ ∃ N : St → Hp → Prop, (∀ σ' H', N σ' H' → ∃ m', m' < m ∧ Wl (i + 1) m' σ' H') ∧ ∀ x H', J.yld i H x H' → g x σ H' fun σ2 H2 => tb { W with nx := N, ct := N, bk := W.nx } σ2 H2) := by
  obtain ⟨n, G, Y, en, wk, stb⟩ := src
  have stab : ∀ {envi σ2 H2}, Ok S B L envi σ2 H2 → Step B env σ H envi σ2 H2 → G H2 ∧ ∀ (i : Nat) x H3, i < n → Y i H2 x H3 → ∃ d, ds[i]? = some d ∧ Item S (Av B L envi σ2) H2 x H3 d := fun {envi σ2 H2} o2 s2 => stb _ H2 (s2.kp ok) fun p o hp h1 => s2.e p o h1 hp
  refine for_it wk (fun i σ2 H2 => ∃ envi, I i envi ∧ Ok S B L envi σ2 H2 ∧ Step B env σ H envi σ2 H2) ⟨env, h0, ok, .refl⟩ (fun i σ2 H2 _ z => ?_) (fun i x σ2 H2 H3 hi z hy => ?_) (fun σ2 H2 z => ?_)
  · obtain ⟨envi, _, o2, s2⟩ := z
    exact (stab o2 s2).1
  · obtain ⟨envi, hI, o2, s2⟩ := z
    obtain ⟨d, hd2, it⟩ := (stab o2 s2).2 i x H3 hi hy
    obtain ⟨o3, s3, rd⟩ := it.ok o2
    refine hg L envi σ2 H3 x d _ _ o3 rd (hs i d envi hd2 hI) fun env4 σ4 h4 o4 s4 _ => ?_
    have s5 := s2.trans (s3.trans s4)
    exact hb L env4 σ4 H3 _ _ o4 h4 ⟨fun e s h k o t => ⟨e, k, o, s5.trans t⟩, fun a e s v h k t p => r.rt a e s v h k (s5.trans t) (p.mono s5.al), fun e s h k o t => r.nx e s h k o (s5.trans t), fun e s h k o t => ⟨e, k, o, s5.trans t⟩, fun C fo e s h dd k o t x => r.xx C fo e s h dd k o (s5.trans t) x⟩
  · obtain ⟨envi, hI, o2, s2⟩ := z
    rw [en] at hI
    exact r.nx _ _ _ (hd envi hI) o2 s2
def keysD : D → Option (List D)
  | .dK kds => some (kds.map fun kv => ofKey kv.1)
  | .dT kds => some (kds.map fun kv => ofKeyT kv.1)
  | _ => none
/-- a dict's own keys, told -/
def Keys (u : HO) (ds : List D) : Prop := (∃ kvs : List (Key × V), u = .dK kvs ∧ ds = kvs.map fun kv => ofKey kv.1) ∨ ∃ kvs : List (List Key × V), u = .dT kvs ∧ ds = kvs.map fun kv => ofKeyT kv.1
theorem Keys.dic {u : HO} {ds : List D} (h : Keys u ds) : Dic u ∧ Mut (some u) := by
  rcases h with ⟨_, rfl, _⟩ | ⟨_, rfl, _⟩
  · exact ⟨dic_K, trivial⟩
  · exact ⟨dic_T, trivial⟩
theorem top_keys {A : As} {d : D} {ds : List D} (h : Top S A H p d) (e : keysD d = some ds) : ∃ u, Rd H p u ∧ Keys u ds := by
  cases d with
  | dK kds =>
    obtain ⟨kvs, h1, h2, _⟩ := h
    cases e
    exact ⟨_, h1, .inl ⟨kvs, rfl, by rw [map_fst, map_fst, h2]⟩⟩
  | dT kds =>
    obtain ⟨kvs, h1, h2, _⟩ := h
    cases e
    exact ⟨_, h1, .inr ⟨kvs, rfl, by rw [map_fst, map_fst, h2]⟩⟩
  | _ => cases e
theorem rd_dK {A : As} {v : V} {kds : List (Key × D)} (h : RD S A H v (.dK kds)) : ∃ p kvs, v = .ref p ∧ ¬ A p ∧ Rd H p (.dK kvs) ∧ kvs.map (·.1) = kds.map (·.1) := by
  cases h with
  | dK h1 n h2 _ => exact ⟨_, _, rfl, n, h1, h2⟩
theorem rd_dT {A : As} {v : V} {kds : List (List Key × D)} (h : RD S A H v (.dT kds)) : ∃ p kvs, v = .ref p ∧ ¬ A p ∧ Rd H p (.dT kvs) ∧ kvs.map (·.1) = kds.map (·.1) := by
  cases h with
  | dT h1 n h2 _ => exact ⟨_, _, rfl, n, h1, h2⟩
theorem rd_keysD {A : As} {v : V} {d : D} {ds : List D} (h : RD S A H v d) (e : keysD d = some ds) : ∃ p u, v = .ref p ∧ ¬ A p ∧ Rd H p u ∧ Keys u ds := by
  cases d with
  | dK kds =>
    obtain ⟨p, kvs, rfl, n, h1, h2⟩ := rd_dK h
    cases e
    exact ⟨_, _, rfl, n, h1, .inl ⟨kvs, rfl, by rw [map_fst, map_fst, h2]⟩⟩
  | dT kds =>
    obtain ⟨p, kvs, rfl, n, h1, h2⟩ := rd_dT h
    cases e
    exact ⟨_, _, rfl, n, h1, .inr ⟨kvs, rfl, by rw [map_fst, map_fst, h2]⟩⟩
  | _ => cases e
theorem cell_keys (ok : Ok S B L env σ H) {i : Nat} {c : Cell} {ds : List D} (hi : env[i]? = some (some c)) (hc : c.own = false) (e : keysD c.d = some ds) : ∃ p u, σ[i]? = some (some (.ref p)) ∧ ¬ Ow B env σ p ∧ Rd H p u ∧ Keys u ds := by
  obtain ⟨v, hv, z⟩ := ok.at_ i c hi
  cases c with
  | s d =>
    obtain ⟨p, u, rfl, n, r, k⟩ := rd_keysD z e
    exact ⟨p, u, hv, fun y => n (.inr y), r, k⟩
  | b d =>
    rcases z with z | ⟨p, rfl, l, z⟩
    · obtain ⟨p, u, rfl, n, r, k⟩ := rd_keysD z e
      exact ⟨p, u, hv, fun y => n (.inr y), r, k⟩
    · obtain ⟨u, r, k⟩ := top_keys z e
      exact ⟨p, u, hv, fun y => ok.sep p y l, r, k⟩
  | o d => cases hc
  | m d => cases hc
/-- what is walked, locked -/
theorem src_keys {u : HO} {od : PySem.Obj} {ds : List D} {i : Nat} {R : It → Hp → Prop} (hk : Keys u ds) (hσ : σ[i]? = some (some (.ref p))) (hf : H p = some (.frz od u)) (h : ∀ J, (∀ (A Hd : As), Hd p → Src S A Hd H J ds) → R J H) : iKeys (tVar i) σ H R := by
  refine ⟨_, hσ, p, od, rfl, ?_⟩
  rcases hk with ⟨kvs, rfl, rfl⟩ | ⟨kvs, rfl, rfl⟩
  · refine .inl ⟨kvs, hf, h _ fun A Hd hd => ⟨kvs.length, _, _, (List.length_map ..).symm, walk_keys (d := p) (o := od) (kvs := kvs), fun A' H2 kp hp => ⟨hp p _ hd hf, fun j x H3 hj hy => ?_⟩⟩⟩
    obtain ⟨rfl, k, v, h1, rfl⟩ := hy
    exact ⟨ofKey k, by rw [List.getElem?_map, h1]; rfl, .inl ⟨rfl, rd_key k⟩⟩
  · refine .inr ⟨kvs, hf, h _ fun A Hd hd => ⟨kvs.length, _, _, (List.length_map ..).symm, walk_keysT (d := p) (o := od) (kvs := kvs), fun A' H2 kp hp => ⟨hp p _ hd hf, fun j x H3 hj hy => ?_⟩⟩⟩
    obtain ⟨rfl, k, v, q, h1, rfl, h2⟩ := hy
    exact ⟨ofKeyT k, by rw [List.getElem?_map, h1]; rfl, .inl ⟨rfl, .tup h2 (rds_keys k)⟩⟩
def rts (rt : AV → Env → Prop) : AV → Env → Prop := fun av e => match av with
  | .s d => rt (.s d) e
  | _ => False
def lockEnds (W : Ends) (p : Addr) (od : PySem.Obj) (u : HO) : Ends := ⟨fun σ' H' => H' p = some (.frz od u) ∧ W.nx σ' (upd H' p u), fun v H' => H' p = some (.frz od u) ∧ W.rt v (upd H' p u), fun σ' H' => H' p = some (.frz od u) ∧ W.bk σ' (upd H' p u), fun σ' H' => H' p = some (.frz od u) ∧ W.ct σ' (upd H' p u)⟩
theorem Rel.lockd {u : HO} {od : PySem.Obj} {Nx : Env → Prop} {Rt : AV → Env → Prop} (r : Rel S B L env σ H W { nx := Nx, rt := rts Rt }) (du : Dic u) (hp : H p = some u) (hn : ¬ Ow B env σ p) : Rel S B L env σ (upd H p (.frz od u)) (lockEnds W p od u) { nx := Nx, rt := rts Rt } := by
  have hn' : ∀ {e : Env} {s : St} {h : Hp}, Step B env σ (upd H p (.frz od u)) e s h → ¬ Ow B e s p := fun t z => by
    rcases t.n p z with y | y
    · exact hn y
    · rw [upd_same] at y
      cases y
  refine ⟨fun e s h k o t => ?_, fun a e s v h k t q => ?_, fun e s h k o t => k.elim, fun e s h k o t => k.elim, fun C fo e s h dd k o t x => k.elim⟩
  · obtain ⟨hf, st⟩ := t.lockd hp hn
    exact ⟨hf, r.nx e s _ k (o.swap ⟨du, .inr ⟨od, rfl⟩, .inl rfl, hf⟩ (hn' t)) st⟩
  · cases a with
    | s d =>
      obtain ⟨hf, st⟩ := t.lockd hp hn
      have sw : Sw h p u (.frz od u) u := ⟨du, .inr ⟨od, rfl⟩, .inl rfl, hf⟩
      exact ⟨hf, r.rt (.s d) e s v _ k st ⟨q.1.swap sw (hn' t), q.2.swap sw⟩⟩
    | f d => exact (show False from k).elim
    | r j => exact (show False from k).elim
/-- for k in d -/
def dForK (i : Nat) (g : TDG) (tb : TDS) : TDS := fun E env => match env[i]? with
  | some (some c) => ob (keysD c.d) fun ds => ∃ I : Nat → Env → Prop, I 0 (bwE (if c.own = true then some i else none) env) ∧
    (∀ (j : Nat) d envi, ds[j]? = some d → I j envi → g d envi fun env2 => tb { nx := I (j + 1), rt := rts (rtb (if c.own = true then some i else none) env E.rt), bk := fun e => ob (unb (if c.own = true then some i else none) env e) E.nx, ct := I (j + 1) } env2) ∧
    ∀ envn, I ds.length envn → ob (unb (if c.own = true then some i else none) env envn) E.nx
  | _ => False
theorem forK_core {i : Nat} {g : TG} {tb : TS} {dg : TDG} {db : TDS} {ts : List Nat} (hg : LfG S B g dg ts) (hb : LfS S B tb db) {c : Cell} {ds : List D} {I : Nat → Env → Prop} {Nx : Env → Prop} {Rt : AV → Env → Prop} (ok : Ok S B L env σ H) (hi : env[i]? = some (some c)) (hc : c.own = false) (hk : keysD c.d = some ds)
    (h0 : I 0 env) (hs : ∀ (j : Nat) d envi, ds[j]? = some d → I j envi → dg d envi fun env2 => db { nx := I (j + 1), rt := rts Rt, bk := Nx, ct := I (j + 1) } env2) (hd : ∀ envn, I ds.length envn → Nx envn) (r : Rel S B L env σ H W { nx := Nx, rt := rts Rt }) :
    tLock (tFor (iKeys (tVar i)) g tb) W σ H ∨ tFor (iKeys (tVar i)) g tb W σ H := by
  obtain ⟨p, u, hσ, hn, rd, ks⟩ := cell_keys ok hi hc hk
  obtain ⟨du, mu⟩ := ks.dic
  rcases rd with hp | ⟨od, hp⟩
  · refine .inl ⟨p, u, hp, mu, fun od => ?_⟩
    have okl := ok.swap ⟨du, .inl rfl, .inr ⟨od, rfl⟩, hp⟩ hn
    exact src_keys (S := S) ks hσ (od := od) upd_same fun J sr => for_core2 hg hb okl (sr _ _ hn) h0 hs hd (r.lockd (od := od) du hp hn)
  · exact .inr (src_keys (S := S) ks hσ (od := od) hp fun J sr => for_core2 hg hb ok (sr _ _ hn) h0 hs hd r)
theorem Rel.rts {Nx : Env → Prop} {Rt : AV → Env → Prop} {E : EndsD} (r : Rel S B L env σ H W E) (hn : ∀ e, Nx e → E.nx e) (hr : ∀ d e, Rt (.s d) e → E.rt (.s d) e) : Rel S B L env σ H W { nx := Nx, rt := rts Rt } := by
  refine ⟨fun e s h k o t => r.nx e s h (hn e k) o t, fun a e s v h k t q => ?_, fun e s h k o t => k.elim, fun e s h k o t => k.elim, fun C fo e s h dd k o t x => k.elim⟩
  cases a with
  | s d => exact r.rt _ _ _ _ _ (hr d e k) t q
  | f d => exact (show False from k).elim
  | r j => exact (show False from k).elim
theorem lf_forK {i : Nat} {g : TG} {tb : TS} {dg : TDG} {db : TDS} {ts : List Nat} (hg : LfG S B g dg ts) (hb : LfS S B tb db) : LfS S B (fun D σ H => tLock (tFor (iKeys (tVar i)) g tb) D σ H ∨ tFor (iKeys (tVar i)) g tb D σ H) (dForK i dg db) := fun L env σ H W E ok h r => by
  unfold dForK at h
  split at h
  · rename_i c hi
    obtain ⟨ds, hk, h⟩ := ob_of h
    obtain ⟨I, h0, hs, hd⟩ := h
    cases hc : c.own with
    | false =>
      rw [hc] at h0 hs hd
      exact forK_core hg hb ok hi hc hk h0 hs hd (r.rts (fun _ k => k) fun _ _ k => k)
    | true =>
      rw [hc] at h0 hs hd
      obtain ⟨p, hv, _⟩ := ok.ownd hi hc
      have e1 : bwE (some i) env = env.set i (some (.b c.d)) := by
        show (match env[i]? with | some (some c) => env.set i (some (.b c.d)) | _ => env) = _
        rw [hi]
      have h0 : I 0 (env.set i (some (.b c.d))) := e1 ▸ h0
      have hlt : i < env.length := (List.getElem?_eq_some_iff.mp hi).1
      exact forK_core (c := .b c.d) hg hb (ok.bor hi hc hv) (List.getElem?_set_self hlt) rfl hk h0 hs hd ((r.bor ok hi hc hv).rts (fun _ k => k) fun _ _ k => k)
  · exact h.elim
end
end Dl
/-! DLKa: the cores of comprehensions, kept by what is nobody's. -/
namespace Dl
open PySem L2
section
variable {S : Sys} {B : Vol} {L : As} {env env' : Env} {σ σ' : St} {H H' : Hp} {W : Ends} {E : EndsD}
theorem lc_core2 {J : It} {ds : List D} {g : TG} {tt : TT} {te : TE} {vs ts : List Nat} {dg : TDG} {dt : TDT} {de : TDE} {I : Nat → List D → Env → Prop} {Q : VK} {k : List D → Env → Prop} (hg : LfG S B g dg ts) (hts : ∀ i ∈ ts, i ∈ vs) (ht : LfT S B tt dt) (he : LfE S B te de) (ok : Ok S B L env σ H) (src : Src S (Av B L env σ) (fun a => ¬ Ow B env σ a) H J ds) (hl : ds.length ≤ sizeLine)
    (h0 : I 0 [] (wipeE env vs)) (hs : ∀ (i : Nat) d acc envi, ds[i]? = some d → acc.length ≤ i → I i acc envi → dg d envi fun env2 => dt env2 fun b env3 => IfB b (de env3 fun a env4 => shr env4 a fun x env5 => I (i + 1) (acc ++ [x]) (wipeE env5 vs)) (I (i + 1) acc (wipeE env3 vs)))
    (hd : ∀ acc envn, acc.length ≤ ds.length → I ds.length acc envn → k acc (Dl.rest env envn vs)) (hk : ∀ acc env2 p Hn, k acc env2 → H p = none → Ok S B (La L p) env2 σ Hn → Step B env σ H env2 σ Hn → Own S (Av B (La L p) env2 σ) Hn p (.lst acc) → Q (.ref p) Hn) :
    ∀ D, H D = none → ∃ Wl : Nat → Nat → Hp → Prop, (∃ m, Wl 0 m (upd H D (.lst []))) ∧ ∀ i m H, Wl i m H →
      (J.stop i H ∧ Q (.ref D) H) ∨ (J.go i H ∧ ∃ Nx : Hp → Prop, (∀ H', Nx H' → ∃ m', m' < m ∧ Wl (i + 1) m' H') ∧ ∀ x H', J.yld i H x H' → g x (L2.wipe σ vs) H' fun σ2 H2 => L2.wipe σ2 vs = L2.wipe σ vs ∧ tt σ2 H2 fun b H3 =>
        if b = true then te σ2 H3 fun y H4 => ∃ acc, H4 D = some (.lst acc) ∧ acc.length < sizeLine ∧ Nx (upd H4 D (.lst (acc ++ [y]))) else Nx H3) := by
  intro D hD
  obtain ⟨n, G, Y, en, wk, stb⟩ := src
  have okD : Ok S B (La L D) env σ (upd H D (.lst [])) := ok.new hD
  have stD : Step B env σ H env σ (upd H D (.lst [])) := step_new hD
  obtain ⟨okw, stw⟩ := okD.wipe vs
  have st0 := stD.trans stw
  have stab : ∀ {envi H2}, Ok S B (La L D) envi (L2.wipe σ vs) H2 → Step B env σ H envi (L2.wipe σ vs) H2 → G H2 ∧ ∀ (i : Nat) x H3, i < n → Y i H2 x H3 → ∃ d, ds[i]? = some d ∧ Item S (Av B (La L D) envi (L2.wipe σ vs)) H2 x H3 d := fun {envi H2} o2 s2 => stb _ H2 (kp_step ok s2 hD) fun p o hp h1 => s2.e p o h1 hp
  refine lc_it wk (fun i H2 => ∃ acc envi us, I i acc envi ∧ acc.length ≤ i ∧ Ok S B (La L D) envi (L2.wipe σ vs) H2 ∧ Step B env σ H envi (L2.wipe σ vs) H2 ∧ H2 D = some (.lst us) ∧ RDs S (Av B (La L D) envi (L2.wipe σ vs)) H2 us acc) ⟨[], _, [], h0, Nat.le_refl _, okw, st0, upd_same, .nil⟩ (fun i H2 _ z => ?_) (fun i x H2 H3 hi z hy => ?_) (fun H2 z => ?_)
  · obtain ⟨acc, envi, us, _, _, o2, s2, _⟩ := z
    exact (stab o2 s2).1
  · obtain ⟨acc, envi, us, hI, ha, o2, s2, eD, rA⟩ := z
    obtain ⟨d, hd2, it⟩ := (stab o2 s2).2 i x H3 hi hy
    obtain ⟨o3, s3, rd⟩ := it.ok o2
    refine hg _ envi _ H3 x d _ _ o3 rd (hs i d acc envi hd2 ha hI) fun env4 σ4 h4 o4 s4 f4 => ⟨off_wipe f4 hts, ?_⟩
    refine ht _ env4 σ4 H3 _ _ o4 h4 fun b env5 H5 h5 o5 s5 => ?_
    have s25 := s3.trans (s4.trans s5)
    have ewp : L2.wipe σ4 vs = L2.wipe σ vs := off_wipe f4 hts
    have eD5 : H5 D = some (.lst us) := s25.e D _ eD fun z => o2.sep D z (.inr rfl)
    cases b with
    | false =>
      (replace h5 := h5.f rfl; simp only [Bool.false_eq_true, if_false])
      obtain ⟨o6, s6⟩ := o5.wipe vs
      rw [ewp] at o6 s6
      exact ⟨acc, _, us, h5, Nat.le_succ_of_le ha, o6, s2.trans (s25.trans s6), eD5, rA.step o2 (s25.trans s6)⟩
    | true =>
      (replace h5 := h5.t rfl; simp only [if_true])
      refine he _ env5 σ4 H5 _ _ o5 h5 fun av env6 y H6 h6 p6 => ?_
      obtain ⟨o6, s6, l6⟩ := p6.vl o5
      obtain ⟨xd, env7, h7, o7, s7, r7⟩ := l6.shr o6 h6
      have s27 := s25.trans (s6.trans s7)
      have eD6 : H6 D = some (.lst us) := (s6.e D _ eD5 fun z => o5.sep D z (.inr rfl))
      have rA7 := rA.step o2 s27
      obtain ⟨o8, s8⟩ := o7.wipe vs
      rw [ewp] at o8 s8
      have hnD : ¬ Ow B (wipeE env7 vs) (L2.wipe σ vs) D := fun z => o8.sep D z (.inr rfl)
      have rA8 := rA7.step o7 s8
      have r8 : RD S (Av B (La L D) (wipeE env7 vs) (L2.wipe σ vs)) H6 y xd := RD.step o7 s8 r7
      have kp : Kp (Av B (La L D) (wipeE env7 vs) (L2.wipe σ vs)) (Av B (La L D) (wipeE env7 vs) (L2.wipe σ vs)) H6 (upd H6 D (.lst (us ++ [y]))) := kp_own (.inl (.inr rfl)) ⟨_, eD6, trivial⟩
      have hu : us.length < sizeLine := by
        rw [rA.len]
        omega
      have o9 : Ok S B (La L D) (wipeE env7 vs) (L2.wipe σ vs) (upd H6 D (.lst (us ++ [y]))) := by
        refine ⟨o8.len, fun k c hc => ?_, o8.inj, o8.sep, fun a z => ?_, B.stab H6 _ (fun a o' va h => by rw [upd_ne (fun e => hnD (.inl (by rw [← e]; exact va)))]; exact h) o8.bag, o8.dv⟩
        · obtain ⟨u, hu, z⟩ := o8.at_ k c hc
          refine ⟨u, hu, ?_⟩
          cases c with
          | s d0 => exact RD.mono kp z
          | o d0 => obtain ⟨q, e, y⟩ := z; exact ⟨q, e, y.mono kp fun o ho => by rw [upd_ne (fun e3 => hnD (.inr ⟨k, _, hc, rfl, by rw [hu, e, e3]⟩))]; exact ho⟩
          | m d0 => obtain ⟨q, e, y⟩ := z; exact ⟨q, e, y.mono kp fun o ho => by rw [upd_ne (fun e3 => hnD (.inr ⟨k, _, hc, rfl, by rw [hu, e, e3]⟩))]; exact ho⟩
          | b d0 =>
            rcases z with z | ⟨q, e, l, y⟩
            · exact .inl (RD.mono kp z)
            · by_cases hq : q = D
              · -- a lent slot can't be at the new list
                subst hq
                have sAll := s2.trans (s27.trans s8)
                have r0 := sAll.b k d0 hc
                have hu2 : (L2.wipe σ vs)[k]? = some (some (.ref q)) := by rw [hu, e]
                rw [r0.2] at hu2
                rcases ok.slot r0.1 hu2 with z | ⟨q', e', l', _⟩
                · exact .inl (by rw [e]; exact (z.mono (kp_step ok sAll hD)).mono kp)
                · cases e'
                  exact (ok.al _ l' hD).elim
              · refine .inr ⟨q, e, l, y.mono kp (fun u hu => ?_) (fun C dx fs hu => by rw [upd_ne hq]; exact hu) fun xs hu => by rw [upd_ne hq]; exact hu⟩
                rcases hu with hu | ⟨ob, hu⟩
                · exact .inl (by rw [upd_ne hq]; exact hu)
                · exact .inr ⟨ob, by rw [upd_ne hq]; exact hu⟩
        · by_cases e : a = D
          · subst e; rw [upd_same]; exact fun z => nomatch z
          · rw [upd_ne e]; exact o8.al a z
      refine ⟨us, eD6, hu, acc ++ [xd], _, us ++ [y], h7, by rw [List.length_append]; exact Nat.add_le_add_right ha 1, o9, ?_, upd_same, (rA8.app (.one r8)).mono kp⟩
      have sAll := s2.trans (s27.trans s8)
      refine ⟨fun a o h1 h2 => ?_, sAll.n, sAll.m, sAll.b, fun a h1 => ?_⟩
      · have ne : a ≠ D := ne_of_none h1 hD
        rw [upd_ne ne]
        exact sAll.e a o h1 h2
      · by_cases e : a = D
        · rw [e]; exact hD
        · rw [upd_ne e] at h1; exact sAll.al a h1
  · obtain ⟨acc, envi, us, hI, ha, o2, s2, eD, rA⟩ := z
    rw [en] at hI ha
    -- back to the slots
    obtain ⟨o3, s3⟩ := ok.rest (vs := vs) hD o2 s2
    refine hk acc _ D H2 (hd acc envi ha hI) hD o3 s3 ⟨us, eD, rA.weak fun a z => z.elim .inl fun y => .inr ?_⟩
    rcases y with y | ⟨k, c, h1, h2, h3⟩
    · exact .inl y
    rcases rest_get h1 with ⟨_, d, e, _⟩ | ⟨m, h4⟩
    · rw [e] at h2; cases h2
    · exact .inr ⟨k, c, h4, h2, by rw [wipe_ne m]; exact h3⟩
theorem dc_coreT2 {J : It} {ds : List D} {g : TG} {tt : TT} {tk tv : TE} {vs ts : List Nat} {dg : TDG} {dt : TDT} {dk dv : TDE} {I : Nat → List (List Key × D) → Env → Prop} {Q : VK} {k : List (List Key × D) → Env → Prop} (hg : LfG S B g dg ts) (hts : ∀ i ∈ ts, i ∈ vs) (ht : LfT S B tt dt) (hke : LfE S B tk dk) (he : LfE S B tv dv) (ok : Ok S B L env σ H) (src : Src S (Av B L env σ) (fun a => ¬ Ow B env σ a) H J ds) (hl : ds.length ≤ sizeLine)
    (h0 : I 0 [] (wipeE env vs)) (hs : ∀ (i : Nat) d acc envi, ds[i]? = some d → acc.length ≤ i → I i acc envi → dg d envi fun env2 => dt env2 fun b env3 => IfB b (dk env3 fun ak env4 => dv env4 fun av env5 => ob (ak.get env5) fun kd => ob kd.keyT fun kk => shr env5 av fun x env6 => I (i + 1) (putD acc kk x) (wipeE env6 vs)) (I (i + 1) acc (wipeE env3 vs)))
    (hd : ∀ acc envn, acc.length ≤ ds.length → I ds.length acc envn → k acc (Dl.rest env envn vs)) (hk : ∀ acc env2 p Hn, k acc env2 → H p = none → Ok S B (La L p) env2 σ Hn → Step B env σ H env2 σ Hn → Own S (Av B (La L p) env2 σ) Hn p (.dT acc) → Q (.ref p) Hn) :
    ∀ D, H D = none → ∃ Wl : Nat → Nat → Hp → Prop, (∃ m, Wl 0 m (upd H D (.dT []))) ∧ ∀ i m H, Wl i m H →
      (J.stop i H ∧ Q (.ref D) H) ∨ (J.go i H ∧ ∃ Nx : Hp → Prop, (∀ H', Nx H' → ∃ m', m' < m ∧ Wl (i + 1) m' H') ∧ ∀ x H', J.yld i H x H' → g x (L2.wipe σ vs) H' fun σ2 H2 => L2.wipe σ2 vs = L2.wipe σ vs ∧ tt σ2 H2 fun b H3 =>
        if b = true then tk σ2 H3 fun y H4 => tv σ2 H4 fun z H5 => ∃ H6, DPut H5 D y z H6 ∧ Nx H6 else Nx H3) := by
  intro D hD
  obtain ⟨n, G, Y, en, wk, stb⟩ := src
  have okD : Ok S B (La L D) env σ (upd H D (.dT [])) := ok.new hD
  have stD : Step B env σ H env σ (upd H D (.dT [])) := step_new hD
  obtain ⟨okw, stw⟩ := okD.wipe vs
  have st0 := stD.trans stw
  have stab : ∀ {envi H2}, Ok S B (La L D) envi (L2.wipe σ vs) H2 → Step B env σ H envi (L2.wipe σ vs) H2 → G H2 ∧ ∀ (i : Nat) x H3, i < n → Y i H2 x H3 → ∃ d, ds[i]? = some d ∧ Item S (Av B (La L D) envi (L2.wipe σ vs)) H2 x H3 d := fun {envi H2} o2 s2 => stb _ H2 (kp_step ok s2 hD) fun p o hp h1 => s2.e p o h1 hp
  refine DcG.dg_it wk (fun i H2 => ∃ acc envi us, I i acc envi ∧ acc.length ≤ i ∧ Ok S B (La L D) envi (L2.wipe σ vs) H2 ∧ Step B env σ H envi (L2.wipe σ vs) H2 ∧ H2 D = some (.dT us) ∧ us.map (·.1) = acc.map (·.1) ∧ RDs S (Av B (La L D) envi (L2.wipe σ vs)) H2 (us.map (·.2)) (acc.map (·.2))) ⟨[], _, [], h0, Nat.le_refl _, okw, st0, upd_same, rfl, .nil⟩ (fun i H2 _ z => ?_) (fun i x H2 H3 hi z hy => ?_) (fun H2 z => ?_)
  · obtain ⟨acc, envi, us, _, _, o2, s2, _⟩ := z
    exact (stab o2 s2).1
  · obtain ⟨acc, envi, us, hI, ha, o2, s2, eD, rK, rA⟩ := z
    obtain ⟨d, hd2, it⟩ := (stab o2 s2).2 i x H3 hi hy
    obtain ⟨o3, s3, rd⟩ := it.ok o2
    refine hg _ envi _ H3 x d _ _ o3 rd (hs i d acc envi hd2 ha hI) fun env4 σ4 h4 o4 s4 f4 => ⟨off_wipe f4 hts, ?_⟩
    refine ht _ env4 σ4 H3 _ _ o4 h4 fun b env5 H5 h5 o5 s5 => ?_
    have s25 := s3.trans (s4.trans s5)
    have ewp : L2.wipe σ4 vs = L2.wipe σ vs := off_wipe f4 hts
    have eD5 : H5 D = some (.dT us) := s25.e D _ eD fun z => o2.sep D z (.inr rfl)
    cases b with
    | false =>
      (replace h5 := h5.f rfl; simp only [Bool.false_eq_true, if_false])
      obtain ⟨o6, s6⟩ := o5.wipe vs
      rw [ewp] at o6 s6
      exact ⟨acc, _, us, h5, Nat.le_succ_of_le ha, o6, s2.trans (s25.trans s6), eD5, rK, rA.step o2 (s25.trans s6)⟩
    | true =>
      (replace h5 := h5.t rfl; simp only [if_true])
      refine hke _ env5 σ4 H5 _ _ o5 h5 fun ak env6 yk Hk hk6 pk => ?_
      obtain ⟨ok6, sk6, fink⟩ := pk.held o5
      refine he _ env6 σ4 Hk _ _ ok6 hk6 fun av env7 y H6 h6 p6 => ?_
      obtain ⟨o6', s6, l6'⟩ := p6.vl ok6
      obtain ⟨o6, lk6, w6⟩ := fink env7 H6 o6' s6
      have l6 := l6'.weak w6
      obtain ⟨kd, e1, h6⟩ := ob_of h6
      obtain ⟨kk, e2, h6⟩ := ob_of h6
      have tk6 := lk6.tv o6 (by rw [AV.get_hold]; exact e1)
      obtain ⟨xd, env8, h7, o7, s7, r7⟩ := l6.shr o6 h6
      have s27 := s25.trans ((sk6.trans s6).trans s7)
      have eD6 : H6 D = some (.dT us) := (sk6.trans s6).e D _ eD5 fun z => o5.sep D z (.inr rfl)
      have rA7 := rA.step o2 s27
      obtain ⟨o8, s8⟩ := o7.wipe vs
      rw [ewp] at o8 s8
      have hnD : ¬ Ow B (wipeE env8 vs) (L2.wipe σ vs) D := fun z => o8.sep D z (.inr rfl)
      have rA8 := rA7.step o7 s8
      have r8 : RD S (Av B (La L D) (wipeE env8 vs) (L2.wipe σ vs)) H6 y xd := RD.step o7 s8 r7
      have hu : us.length < sizeLine := by
        rw [keys_len rK]
        omega
      obtain ⟨q1, q2⟩ := put_rds (k := kk) r8 rK rA8
      have kp : Kp (Av B (La L D) (wipeE env8 vs) (L2.wipe σ vs)) (Av B (La L D) (wipeE env8 vs) (L2.wipe σ vs)) H6 (upd H6 D (.dT (putK us kk y))) := kp_own (.inl (.inr rfl)) ⟨_, eD6, trivial⟩
      have o9 : Ok S B (La L D) (wipeE env8 vs) (L2.wipe σ vs) (upd H6 D (.dT (putK us kk y))) := by
        refine ⟨o8.len, fun k c hc => ?_, o8.inj, o8.sep, fun a z => ?_, B.stab H6 _ (fun a o' va h => by rw [upd_ne (fun e => hnD (.inl (by rw [← e]; exact va)))]; exact h) o8.bag, o8.dv⟩
        · obtain ⟨u, hu, z⟩ := o8.at_ k c hc
          refine ⟨u, hu, ?_⟩
          cases c with
          | s d0 => exact RD.mono kp z
          | o d0 => obtain ⟨q, e, y⟩ := z; exact ⟨q, e, y.mono kp fun o ho => by rw [upd_ne (fun e3 => hnD (.inr ⟨k, _, hc, rfl, by rw [hu, e, e3]⟩))]; exact ho⟩
          | m d0 => obtain ⟨q, e, y⟩ := z; exact ⟨q, e, y.mono kp fun o ho => by rw [upd_ne (fun e3 => hnD (.inr ⟨k, _, hc, rfl, by rw [hu, e, e3]⟩))]; exact ho⟩
          | b d0 =>
            rcases z with z | ⟨q, e, l, y⟩
            · exact .inl (RD.mono kp z)
            · by_cases hq : q = D
              · subst hq
                have sAll := s2.trans (s27.trans s8)
                have r0 := sAll.b k d0 hc
                have hu2 : (L2.wipe σ vs)[k]? = some (some (.ref q)) := by rw [hu, e]
                rw [r0.2] at hu2
                rcases ok.slot r0.1 hu2 with z | ⟨q', e', l', _⟩
                · exact .inl (by rw [e]; exact (z.mono (kp_step ok sAll hD)).mono kp)
                · cases e'
                  exact (ok.al _ l' hD).elim
              · refine .inr ⟨q, e, l, y.mono kp (fun u hu => ?_) (fun C dx fs hu => by rw [upd_ne hq]; exact hu) fun xs hu => by rw [upd_ne hq]; exact hu⟩
                rcases hu with hu | ⟨ob, hu⟩
                · exact .inl (by rw [upd_ne hq]; exact hu)
                · exact .inr ⟨ob, by rw [upd_ne hq]; exact hu⟩
        · by_cases e : a = D
          · subst e; rw [upd_same]; exact fun z => nomatch z
          · rw [upd_ne e]; exact o8.al a z
      have fin : ∃ acc envi us_1, I (i + 1) acc envi ∧ acc.length ≤ i + 1 ∧ Ok S B (La L D) envi (L2.wipe σ vs) (upd H6 D (.dT (putK us kk y))) ∧ Step B env σ H envi (L2.wipe σ vs) (upd H6 D (.dT (putK us kk y))) ∧ (upd H6 D (.dT (putK us kk y))) D = some (.dT us_1) ∧ us_1.map (·.1) = acc.map (·.1) ∧ RDs S (Av B (La L D) envi (L2.wipe σ vs)) (upd H6 D (.dT (putK us kk y))) (us_1.map (·.2)) (acc.map (·.2)) := by
        refine ⟨putD acc kk xd, _, putK us kk y, h7, Nat.le_trans (putD_len acc kk xd) (Nat.add_le_add_right ha 1), o9, ?_, upd_same, q1, q2.mono kp⟩
        have sAll := s2.trans (s27.trans s8)
        refine ⟨fun a o h1 h2 => ?_, sAll.n, sAll.m, sAll.b, fun a h1 => ?_⟩
        · have ne : a ≠ D := ne_of_none h1 hD
          rw [upd_ne ne]
          exact sAll.e a o h1 h2
        · by_cases e : a = D
          · rw [e]; exact hD
          · rw [upd_ne e] at h1; exact sAll.al a h1
      obtain ⟨bb, eb, hb⟩ := tk6.keyT e2
      subst eb
      exact ⟨_, DPut.t eD6 hb hu, fin⟩
  · obtain ⟨acc, envi, us, hI, ha, o2, s2, eD, rK, rA⟩ := z
    rw [en] at hI ha
    obtain ⟨o3, s3⟩ := ok.rest (vs := vs) hD o2 s2
    refine hk acc _ D H2 (hd acc envi ha hI) hD o3 s3 ⟨us, eD, rK, rA.weak fun a z => z.elim .inl fun y => .inr ?_⟩
    rcases y with y | ⟨k, c, h1, h2, h3⟩
    · exact .inl y
    rcases rest_get h1 with ⟨_, d, e, _⟩ | ⟨m, h4⟩
    · rw [e] at h2; cases h2
    · exact .inr ⟨k, c, h4, h2, by rw [wipe_ne m]; exact h3⟩
theorem dc_coreK2 {J : It} {ds : List D} {g : TG} {tt : TT} {tk tv : TE} {vs ts : List Nat} {dg : TDG} {dt : TDT} {dk dv : TDE} {I : Nat → List (Key × D) → Env → Prop} {Q : VK} {k : List (Key × D) → Env → Prop} (hg : LfG S B g dg ts) (hts : ∀ i ∈ ts, i ∈ vs) (ht : LfT S B tt dt) (hke : LfE S B tk dk) (he : LfE S B tv dv) (ok : Ok S B L env σ H) (src : Src S (Av B L env σ) (fun a => ¬ Ow B env σ a) H J ds) (hl : ds.length ≤ sizeLine)
    (h0 : I 0 [] (wipeE env vs)) (hs : ∀ (i : Nat) d acc envi, ds[i]? = some d → acc.length ≤ i → I i acc envi → dg d envi fun env2 => dt env2 fun b env3 => IfB b (dk env3 fun ak env4 => dv env4 fun av env5 => ob (ak.get env5) fun kd => ob kd.key fun kk => shr env5 av fun x env6 => I (i + 1) (putD acc kk x) (wipeE env6 vs)) (I (i + 1) acc (wipeE env3 vs)))
    (hd : ∀ acc envn, acc.length ≤ ds.length → I ds.length acc envn → k acc (Dl.rest env envn vs)) (hk : ∀ acc env2 p Hn, k acc env2 → H p = none → Ok S B (La L p) env2 σ Hn → Step B env σ H env2 σ Hn → Own S (Av B (La L p) env2 σ) Hn p (.dK acc) → Q (.ref p) Hn) :
    ∀ D, H D = none → ∃ Wl : Nat → Nat → Hp → Prop, (∃ m, Wl 0 m (upd H D (.dK []))) ∧ ∀ i m H, Wl i m H →
      (J.stop i H ∧ Q (.ref D) H) ∨ (J.go i H ∧ ∃ Nx : Hp → Prop, (∀ H', Nx H' → ∃ m', m' < m ∧ Wl (i + 1) m' H') ∧ ∀ x H', J.yld i H x H' → g x (L2.wipe σ vs) H' fun σ2 H2 => L2.wipe σ2 vs = L2.wipe σ vs ∧ tt σ2 H2 fun b H3 =>
        if b = true then tk σ2 H3 fun y H4 => tv σ2 H4 fun z H5 => ∃ kvs k, y = kV k ∧ H5 D = some (.dK kvs) ∧ kvs.length < sizeLine ∧ Nx (upd H5 D (.dK (putK kvs k z))) else Nx H3) := by
  intro D hD
  obtain ⟨n, G, Y, en, wk, stb⟩ := src
  have okD : Ok S B (La L D) env σ (upd H D (.dK [])) := ok.new hD
  have stD : Step B env σ H env σ (upd H D (.dK [])) := step_new hD
  obtain ⟨okw, stw⟩ := okD.wipe vs
  have st0 := stD.trans stw
  have stab : ∀ {envi H2}, Ok S B (La L D) envi (L2.wipe σ vs) H2 → Step B env σ H envi (L2.wipe σ vs) H2 → G H2 ∧ ∀ (i : Nat) x H3, i < n → Y i H2 x H3 → ∃ d, ds[i]? = some d ∧ Item S (Av B (La L D) envi (L2.wipe σ vs)) H2 x H3 d := fun {envi H2} o2 s2 => stb _ H2 (kp_step ok s2 hD) fun p o hp h1 => s2.e p o h1 hp
  refine EnT.dc_it wk (fun i H2 => ∃ acc envi us, I i acc envi ∧ acc.length ≤ i ∧ Ok S B (La L D) envi (L2.wipe σ vs) H2 ∧ Step B env σ H envi (L2.wipe σ vs) H2 ∧ H2 D = some (.dK us) ∧ us.map (·.1) = acc.map (·.1) ∧ RDs S (Av B (La L D) envi (L2.wipe σ vs)) H2 (us.map (·.2)) (acc.map (·.2))) ⟨[], _, [], h0, Nat.le_refl _, okw, st0, upd_same, rfl, .nil⟩ (fun i H2 _ z => ?_) (fun i x H2 H3 hi z hy => ?_) (fun H2 z => ?_)
  · obtain ⟨acc, envi, us, _, _, o2, s2, _⟩ := z
    exact (stab o2 s2).1
  · obtain ⟨acc, envi, us, hI, ha, o2, s2, eD, rK, rA⟩ := z
    obtain ⟨d, hd2, it⟩ := (stab o2 s2).2 i x H3 hi hy
    obtain ⟨o3, s3, rd⟩ := it.ok o2
    refine hg _ envi _ H3 x d _ _ o3 rd (hs i d acc envi hd2 ha hI) fun env4 σ4 h4 o4 s4 f4 => ⟨off_wipe f4 hts, ?_⟩
    refine ht _ env4 σ4 H3 _ _ o4 h4 fun b env5 H5 h5 o5 s5 => ?_
    have s25 := s3.trans (s4.trans s5)
    have ewp : L2.wipe σ4 vs = L2.wipe σ vs := off_wipe f4 hts
    have eD5 : H5 D = some (.dK us) := s25.e D _ eD fun z => o2.sep D z (.inr rfl)
    cases b with
    | false =>
      (replace h5 := h5.f rfl; simp only [Bool.false_eq_true, if_false])
      obtain ⟨o6, s6⟩ := o5.wipe vs
      rw [ewp] at o6 s6
      exact ⟨acc, _, us, h5, Nat.le_succ_of_le ha, o6, s2.trans (s25.trans s6), eD5, rK, rA.step o2 (s25.trans s6)⟩
    | true =>
      (replace h5 := h5.t rfl; simp only [if_true])
      refine hke _ env5 σ4 H5 _ _ o5 h5 fun ak env6 yk Hk hk6 pk => ?_
      obtain ⟨ok6, sk6, fink⟩ := pk.held o5
      refine he _ env6 σ4 Hk _ _ ok6 hk6 fun av env7 y H6 h6 p6 => ?_
      obtain ⟨o6', s6, l6'⟩ := p6.vl ok6
      obtain ⟨o6, lk6, w6⟩ := fink env7 H6 o6' s6
      have l6 := l6'.weak w6
      obtain ⟨kd, e1, h6⟩ := ob_of h6
      obtain ⟨kk, e2, h6⟩ := ob_of h6
      have tk6 := lk6.tv o6 (by rw [AV.get_hold]; exact e1)
      obtain ⟨xd, env8, h7, o7, s7, r7⟩ := l6.shr o6 h6
      have s27 := s25.trans ((sk6.trans s6).trans s7)
      have eD6 : H6 D = some (.dK us) := (sk6.trans s6).e D _ eD5 fun z => o5.sep D z (.inr rfl)
      have rA7 := rA.step o2 s27
      obtain ⟨o8, s8⟩ := o7.wipe vs
      rw [ewp] at o8 s8
      have hnD : ¬ Ow B (wipeE env8 vs) (L2.wipe σ vs) D := fun z => o8.sep D z (.inr rfl)
      have rA8 := rA7.step o7 s8
      have r8 : RD S (Av B (La L D) (wipeE env8 vs) (L2.wipe σ vs)) H6 y xd := RD.step o7 s8 r7
      have hu : us.length < sizeLine := by
        rw [keys_len rK]
        omega
      obtain ⟨q1, q2⟩ := put_rds (k := kk) r8 rK rA8
      have kp : Kp (Av B (La L D) (wipeE env8 vs) (L2.wipe σ vs)) (Av B (La L D) (wipeE env8 vs) (L2.wipe σ vs)) H6 (upd H6 D (.dK (putK us kk y))) := kp_own (.inl (.inr rfl)) ⟨_, eD6, trivial⟩
      have o9 : Ok S B (La L D) (wipeE env8 vs) (L2.wipe σ vs) (upd H6 D (.dK (putK us kk y))) := by
        refine ⟨o8.len, fun k c hc => ?_, o8.inj, o8.sep, fun a z => ?_, B.stab H6 _ (fun a o' va h => by rw [upd_ne (fun e => hnD (.inl (by rw [← e]; exact va)))]; exact h) o8.bag, o8.dv⟩
        · obtain ⟨u, hu, z⟩ := o8.at_ k c hc
          refine ⟨u, hu, ?_⟩
          cases c with
          | s d0 => exact RD.mono kp z
          | o d0 => obtain ⟨q, e, y⟩ := z; exact ⟨q, e, y.mono kp fun o ho => by rw [upd_ne (fun e3 => hnD (.inr ⟨k, _, hc, rfl, by rw [hu, e, e3]⟩))]; exact ho⟩
          | m d0 => obtain ⟨q, e, y⟩ := z; exact ⟨q, e, y.mono kp fun o ho => by rw [upd_ne (fun e3 => hnD (.inr ⟨k, _, hc, rfl, by rw [hu, e, e3]⟩))]; exact ho⟩
          | b d0 =>
            rcases z with z | ⟨q, e, l, y⟩
            · exact .inl (RD.mono kp z)
            · by_cases hq : q = D
              · subst hq
                have sAll := s2.trans (s27.trans s8)
                have r0 := sAll.b k d0 hc
                have hu2 : (L2.wipe σ vs)[k]? = some (some (.ref q)) := by rw [hu, e]
                rw [r0.2] at hu2
                rcases ok.slot r0.1 hu2 with z | ⟨q', e', l', _⟩
                · exact .inl (by rw [e]; exact (z.mono (kp_step ok sAll hD)).mono kp)
                · cases e'
                  exact (ok.al _ l' hD).elim
              · refine .inr ⟨q, e, l, y.mono kp (fun u hu => ?_) (fun C dx fs hu => by rw [upd_ne hq]; exact hu) fun xs hu => by rw [upd_ne hq]; exact hu⟩
                rcases hu with hu | ⟨ob, hu⟩
                · exact .inl (by rw [upd_ne hq]; exact hu)
                · exact .inr ⟨ob, by rw [upd_ne hq]; exact hu⟩
        · by_cases e : a = D
          · subst e; rw [upd_same]; exact fun z => nomatch z
          · rw [upd_ne e]; exact o8.al a z
      have fin : ∃ acc envi us_1, I (i + 1) acc envi ∧ acc.length ≤ i + 1 ∧ Ok S B (La L D) envi (L2.wipe σ vs) (upd H6 D (.dK (putK us kk y))) ∧ Step B env σ H envi (L2.wipe σ vs) (upd H6 D (.dK (putK us kk y))) ∧ (upd H6 D (.dK (putK us kk y))) D = some (.dK us_1) ∧ us_1.map (·.1) = acc.map (·.1) ∧ RDs S (Av B (La L D) envi (L2.wipe σ vs)) (upd H6 D (.dK (putK us kk y))) (us_1.map (·.2)) (acc.map (·.2)) := by
        refine ⟨putD acc kk xd, _, putK us kk y, h7, Nat.le_trans (putD_len acc kk xd) (Nat.add_le_add_right ha 1), o9, ?_, upd_same, q1, q2.mono kp⟩
        have sAll := s2.trans (s27.trans s8)
        refine ⟨fun a o h1 h2 => ?_, sAll.n, sAll.m, sAll.b, fun a h1 => ?_⟩
        · have ne : a ≠ D := ne_of_none h1 hD
          rw [upd_ne ne]
          exact sAll.e a o h1 h2
        · by_cases e : a = D
          · rw [e]; exact hD
          · rw [upd_ne e] at h1; exact sAll.al a h1
      exact ⟨us, kk, tk6.key e2, eD6, hu, fin⟩
  · obtain ⟨acc, envi, us, hI, ha, o2, s2, eD, rK, rA⟩ := z
    rw [en] at hI ha
    obtain ⟨o3, s3⟩ := ok.rest (vs := vs) hD o2 s2
    refine hk acc _ D H2 (hd acc envi ha hI) hD o3 s3 ⟨us, eD, rK, rA.weak fun a z => z.elim .inl fun y => .inr ?_⟩
    rcases y with y | ⟨k, c, h1, h2, h3⟩
    · exact .inl y
    rcases rest_get h1 with ⟨_, d, e, _⟩ | ⟨m, h4⟩
    · rw [e] at h2; cases h2
    · exact .inr ⟨k, c, h4, h2, by rw [wipe_ne m]; exact h3⟩
end
end Dl
/-! DLK: comprehensions over the keys of a dict. -/
namespace Dl
open PySem L2
section
variable {S : Sys} {B : Vol} {L : As} {env env' : Env} {σ σ' : St} {H H' : Hp} {W : Ends} {E : EndsD} {p : Addr}
/-- the keys of the dict in a slot -/
def dIKeys (i : Nat) : TDI := fun env k => match env[i]? with
  | some (some c) => ob (keysD c.d) fun ds => k ds (if c.own = true then some i else none) env
  | _ => False
theorem lcK_core {i : Nat} {g : TG} {tt : TT} {te : TE} {vs ts : List Nat} {dg : TDG} {dt : TDT} {de : TDE} {c : Cell} {ds : List D} {I : Nat → List D → Env → Prop} {Q : VK} {k : List D → Env → Prop} (hg : LfG S B g dg ts) (hts : ∀ i ∈ ts, i ∈ vs) (ht : LfT S B tt dt) (he : LfE S B te de) (ok : Ok S B L env σ H) (hi : env[i]? = some (some c)) (hc : c.own = false) (hk : keysD c.d = some ds) (hl : ds.length ≤ sizeLine)
    (h0 : I 0 [] (wipeE env vs)) (hs : ∀ (i : Nat) d acc envi, ds[i]? = some d → acc.length ≤ i → I i acc envi → dg d envi fun env2 => dt env2 fun b env3 => IfB b (de env3 fun a env4 => shr env4 a fun x env5 => I (i + 1) (acc ++ [x]) (wipeE env5 vs)) (I (i + 1) acc (wipeE env3 vs)))
    (hd : ∀ acc envn, acc.length ≤ ds.length → I ds.length acc envn → k acc (Dl.rest env envn vs)) (hkk : ∀ acc env2 q Hn, k acc env2 → H q = none → Ok S B (La L q) env2 σ Hn → Step B env σ H env2 σ Hn → Own S (Av B (La L q) env2 σ) Hn q (.lst acc) → Q (.ref q) Hn) :
    tLockE (tLc (iKeys (tVar i)) g tt te vs) σ H Q ∨ tLc (iKeys (tVar i)) g tt te vs σ H Q := by
  obtain ⟨p, u, hσ, hn, rd, ks⟩ := cell_keys ok hi hc hk
  obtain ⟨du, mu⟩ := ks.dic
  rcases rd with hp | ⟨od, hp⟩
  · refine .inl ⟨p, u, hp, mu, fun od => ?_⟩
    have okl := ok.swap ⟨du, .inl rfl, .inr ⟨od, rfl⟩, hp⟩ hn
    refine src_keys (S := S) ks hσ (od := od) upd_same fun J sr => lc_core2 (Q := fun v H2 => H2 p = some (.frz od u) ∧ Q v (upd H2 p u)) hg hts ht he okl (sr _ _ hn) hl h0 hs hd fun acc env2 q Hn hk2 hq o2 st w => ?_
    have hqp : q ≠ p := fun e => by rw [e, upd_same] at hq; cases hq
    rw [upd_ne hqp] at hq
    obtain ⟨hf, st2⟩ := st.lockd hp hn
    have sw : Sw Hn p u (.frz od u) u := ⟨du, .inr ⟨od, rfl⟩, .inl rfl, hf⟩
    have hn' : ¬ Ow B env2 σ p := fun z => by
      rcases st.n p z with y | y
      · exact hn y
      · rw [upd_same] at y
        cases y
    exact ⟨hf, hkk acc env2 q _ hk2 hq (o2.swap sw hn') st2 (w.swap sw hqp)⟩
  · exact .inr (src_keys (S := S) ks hσ (od := od) hp fun J sr => lc_core2 hg hts ht he ok (sr _ _ hn) hl h0 hs hd hkk)
theorem lf_lcK {i : Nat} {g : TG} {tt : TT} {te : TE} {vs ts : List Nat} {dg : TDG} {dt : TDT} {de : TDE} (hg : LfG S B g dg ts) (ht : LfT S B tt dt) (he : LfE S B te de) (hts : ∀ i ∈ ts, i ∈ vs := by decide) : LfE S B (fun σ H Q => tLockE (tLc (iKeys (tVar i)) g tt te vs) σ H Q ∨ tLc (iKeys (tVar i)) g tt te vs σ H Q) (dLc (dIKeys i) dg dt de vs) := fun L env σ H Q k ok h hk => by
  unfold dLc dIKeys at h
  split at h
  · rename_i c hi
    obtain ⟨ds, hkd, hl, I, h0, hs, hd⟩ := ob_of h
    cases hc : c.own with
    | false =>
      rw [hc] at h0 hd
      exact lcK_core (k := fun acc env2 => k (.f (.lst acc)) env2) hg hts ht he ok hi hc hkd hl h0 hs (fun acc envn ha hI => hd acc envn ha hI) fun acc env2 q Hn hkk hq ok2 st2 w => hk _ _ _ _ hkk ⟨st2, q, rfl, hq, ok2, w⟩
    | true =>
      rw [hc] at h0 hd
      obtain ⟨p, hv, _⟩ := ok.ownd hi hc
      have e1 : bwE (some i) env = env.set i (some (.b c.d)) := by
        show (match env[i]? with | some (some c) => env.set i (some (.b c.d)) | _ => env) = _
        rw [hi]
      have h0 : I 0 [] (wipeE (bwE (some i) env) vs) := h0
      have hd : ∀ acc envn, acc.length ≤ ds.length → I ds.length acc envn → ob (unb (some i) env (rest (bwE (some i) env) envn vs)) fun env2 => k (.f (.lst acc)) env2 := hd
      rw [e1] at h0 hd
      have hlt : i < env.length := (List.getElem?_eq_some_iff.mp hi).1
      refine lcK_core (c := .b c.d) (k := fun acc env2 => ob (unb (some i) env env2) fun env3 => k (.f (.lst acc)) env3) hg hts ht he (ok.bor hi hc hv) (List.getElem?_set_self hlt) rfl hkd hl h0 hs (fun acc envn ha hI => hd acc envn ha hI) fun acc env2 D Hn hkk hp ok2 st2 w => ?_
      obtain ⟨env3, hu, hkk⟩ := ob_of hkk
      have sw : ∀ a, La (La L D) p a ↔ La (La L p) D a := fun a => ⟨fun z => z.elim (fun z => z.elim (fun y => .inl (.inl y)) .inr) fun y => .inl (.inr y), fun z => z.elim (fun z => z.elim (fun y => .inl (.inl y)) .inr) fun y => .inl (.inr y)⟩
      obtain ⟨o3, s3, w3⟩ := ok.back hi hc hv hu (L' := La L D) (fun _ z => .inl z) (fun a z => z.elim .inl fun e => .inr (by rw [e]; exact hp)) (ok2.iff sw) st2
      refine hk _ _ _ _ hkk ⟨s3, D, rfl, hp, o3, w.weak fun a z => ?_⟩
      rcases w3 a z with y | y
      · exact .inl ((sw a).mp y)
      · exact .inr y
  · exact h.elim
theorem dcTK_core {i : Nat} {g : TG} {tt : TT} {tk tv : TE} {vs ts : List Nat} {dg : TDG} {dt : TDT} {dk dv : TDE} {c : Cell} {ds : List D} {I : Nat → List (List Key × D) → Env → Prop} {Q : VK} {k : List (List Key × D) → Env → Prop} (hg : LfG S B g dg ts) (hts : ∀ i ∈ ts, i ∈ vs) (ht : LfT S B tt dt) (hke : LfE S B tk dk) (he : LfE S B tv dv) (ok : Ok S B L env σ H) (hi : env[i]? = some (some c)) (hc : c.own = false) (hk : keysD c.d = some ds) (hl : ds.length ≤ sizeLine)
    (h0 : I 0 [] (wipeE env vs)) (hs : ∀ (i : Nat) d acc envi, ds[i]? = some d → acc.length ≤ i → I i acc envi → dg d envi fun env2 => dt env2 fun b env3 => IfB b (dk env3 fun ak env4 => dv env4 fun av env5 => ob (ak.get env5) fun kd => ob kd.keyT fun kk => shr env5 av fun x env6 => I (i + 1) (putD acc kk x) (wipeE env6 vs)) (I (i + 1) acc (wipeE env3 vs)))
    (hd : ∀ acc envn, acc.length ≤ ds.length → I ds.length acc envn → k acc (Dl.rest env envn vs)) (hkk : ∀ acc env2 q Hn, k acc env2 → H q = none → Ok S B (La L q) env2 σ Hn → Step B env σ H env2 σ Hn → Own S (Av B (La L q) env2 σ) Hn q (.dT acc) → Q (.ref q) Hn) :
    tLockE (DcG.tDg (.dT []) (iKeys (tVar i)) g tt tk tv vs) σ H Q ∨ DcG.tDg (.dT []) (iKeys (tVar i)) g tt tk tv vs σ H Q := by
  obtain ⟨p, u, hσ, hn, rd, ks⟩ := cell_keys ok hi hc hk
  obtain ⟨du, mu⟩ := ks.dic
  rcases rd with hp | ⟨od, hp⟩
  · refine .inl ⟨p, u, hp, mu, fun od => ?_⟩
    have okl := ok.swap ⟨du, .inl rfl, .inr ⟨od, rfl⟩, hp⟩ hn
    refine src_keys (S := S) ks hσ (od := od) upd_same fun J sr => dc_coreT2 (Q := fun v H2 => H2 p = some (.frz od u) ∧ Q v (upd H2 p u)) hg hts ht hke he okl (sr _ _ hn) hl h0 hs hd fun acc env2 q Hn hk2 hq o2 st w => ?_
    have hqp : q ≠ p := fun e => by rw [e, upd_same] at hq; cases hq
    rw [upd_ne hqp] at hq
    obtain ⟨hf, st2⟩ := st.lockd hp hn
    have sw : Sw Hn p u (.frz od u) u := ⟨du, .inr ⟨od, rfl⟩, .inl rfl, hf⟩
    have hn' : ¬ Ow B env2 σ p := fun z => by
      rcases st.n p z with y | y
      · exact hn y
      · rw [upd_same] at y
        cases y
    exact ⟨hf, hkk acc env2 q _ hk2 hq (o2.swap sw hn') st2 (w.swap sw hqp)⟩
  · exact .inr (src_keys (S := S) ks hσ (od := od) hp fun J sr => dc_coreT2 hg hts ht hke he ok (sr _ _ hn) hl h0 hs hd hkk)
theorem lf_dcTK {i : Nat} {g : TG} {tt : TT} {tk tv : TE} {vs ts : List Nat} {dg : TDG} {dt : TDT} {dk dv : TDE} (hg : LfG S B g dg ts) (ht : LfT S B tt dt) (hke : LfE S B tk dk) (he : LfE S B tv dv) (hts : ∀ i ∈ ts, i ∈ vs := by decide) : LfE S B (fun σ H Q => tLockE (DcG.tDg (.dT []) (iKeys (tVar i)) g tt tk tv vs) σ H Q ∨ DcG.tDg (.dT []) (iKeys (tVar i)) g tt tk tv vs σ H Q) (dDcT (dIKeys i) dg dt dk dv vs) := fun L env σ H Q k ok h hk => by
  unfold dDcT dIKeys at h
  split at h
  · rename_i c hi
    obtain ⟨ds, hkd, hl, I, h0, hs, hd⟩ := ob_of h
    cases hc : c.own with
    | false =>
      rw [hc] at h0 hd
      exact dcTK_core (k := fun acc env2 => k (.f (.dT acc)) env2) hg hts ht hke he ok hi hc hkd hl h0 hs (fun acc envn ha hI => hd acc envn ha hI) fun acc env2 q Hn hkk hq ok2 st2 w => hk _ _ _ _ hkk ⟨st2, q, rfl, hq, ok2, w⟩
    | true =>
      rw [hc] at h0 hd
      obtain ⟨p, hv, _⟩ := ok.ownd hi hc
      have e1 : bwE (some i) env = env.set i (some (.b c.d)) := by
        show (match env[i]? with | some (some c) => env.set i (some (.b c.d)) | _ => env) = _
        rw [hi]
      have h0 : I 0 [] (wipeE (bwE (some i) env) vs) := h0
      have hd : ∀ acc envn, acc.length ≤ ds.length → I ds.length acc envn → ob (unb (some i) env (rest (bwE (some i) env) envn vs)) fun env2 => k (.f (.dT acc)) env2 := hd
      rw [e1] at h0 hd
      have hlt : i < env.length := (List.getElem?_eq_some_iff.mp hi).1
      refine dcTK_core (c := .b c.d) (k := fun acc env2 => ob (unb (some i) env env2) fun env3 => k (.f (.dT acc)) env3) hg hts ht hke he (ok.bor hi hc hv) (List.getElem?_set_self hlt) rfl hkd hl h0 hs (fun acc envn ha hI => hd acc envn ha hI) fun acc env2 D Hn hkk hp ok2 st2 w => ?_
      obtain ⟨env3, hu, hkk⟩ := ob_of hkk
      have sw : ∀ a, La (La L D) p a ↔ La (La L p) D a := fun a => ⟨fun z => z.elim (fun z => z.elim (fun y => .inl (.inl y)) .inr) fun y => .inl (.inr y), fun z => z.elim (fun z => z.elim (fun y => .inl (.inl y)) .inr) fun y => .inl (.inr y)⟩
      obtain ⟨o3, s3, w3⟩ := ok.back hi hc hv hu (L' := La L D) (fun _ z => .inl z) (fun a z => z.elim .inl fun e => .inr (by rw [e]; exact hp)) (ok2.iff sw) st2
      refine hk _ _ _ _ hkk ⟨s3, D, rfl, hp, o3, w.weak fun a z => ?_⟩
      rcases w3 a z with y | y
      · exact .inl ((sw a).mp y)
      · exact .inr y
  · exact h.elim
theorem dcKK_core {i : Nat} {g : TG} {tt : TT} {tk tv : TE} {vs ts : List Nat} {dg : TDG} {dt : TDT} {dk dv : TDE} {c : Cell} {ds : List D} {I : Nat → List (Key × D) → Env → Prop} {Q : VK} {k : List (Key × D) → Env → Prop} (hg : LfG S B g dg ts) (hts : ∀ i ∈ ts, i ∈ vs) (ht : LfT S B tt dt) (hke : LfE S B tk dk) (he : LfE S B tv dv) (ok : Ok S B L env σ H) (hi : env[i]? = some (some c)) (hc : c.own = false) (hk : keysD c.d = some ds) (hl : ds.length ≤ sizeLine)
    (h0 : I 0 [] (wipeE env vs)) (hs : ∀ (i : Nat) d acc envi, ds[i]? = some d → acc.length ≤ i → I i acc envi → dg d envi fun env2 => dt env2 fun b env3 => IfB b (dk env3 fun ak env4 => dv env4 fun av env5 => ob (ak.get env5) fun kd => ob kd.key fun kk => shr env5 av fun x env6 => I (i + 1) (putD acc kk x) (wipeE env6 vs)) (I (i + 1) acc (wipeE env3 vs)))
    (hd : ∀ acc envn, acc.length ≤ ds.length → I ds.length acc envn → k acc (Dl.rest env envn vs)) (hkk : ∀ acc env2 q Hn, k acc env2 → H q = none → Ok S B (La L q) env2 σ Hn → Step B env σ H env2 σ Hn → Own S (Av B (La L q) env2 σ) Hn q (.dK acc) → Q (.ref q) Hn) :
    tLockE (tDc (iKeys (tVar i)) g tt tk tv vs) σ H Q ∨ tDc (iKeys (tVar i)) g tt tk tv vs σ H Q := by
  obtain ⟨p, u, hσ, hn, rd, ks⟩ := cell_keys ok hi hc hk
  obtain ⟨du, mu⟩ := ks.dic
  rcases rd with hp | ⟨od, hp⟩
  · refine .inl ⟨p, u, hp, mu, fun od => ?_⟩
    have okl := ok.swap ⟨du, .inl rfl, .inr ⟨od, rfl⟩, hp⟩ hn
    refine src_keys (S := S) ks hσ (od := od) upd_same fun J sr => dc_coreK2 (Q := fun v H2 => H2 p = some (.frz od u) ∧ Q v (upd H2 p u)) hg hts ht hke he okl (sr _ _ hn) hl h0 hs hd fun acc env2 q Hn hk2 hq o2 st w => ?_
    have hqp : q ≠ p := fun e => by rw [e, upd_same] at hq; cases hq
    rw [upd_ne hqp] at hq
    obtain ⟨hf, st2⟩ := st.lockd hp hn
    have sw : Sw Hn p u (.frz od u) u := ⟨du, .inr ⟨od, rfl⟩, .inl rfl, hf⟩
    have hn' : ¬ Ow B env2 σ p := fun z => by
      rcases st.n p z with y | y
      · exact hn y
      · rw [upd_same] at y
        cases y
    exact ⟨hf, hkk acc env2 q _ hk2 hq (o2.swap sw hn') st2 (w.swap sw hqp)⟩
  · exact .inr (src_keys (S := S) ks hσ (od := od) hp fun J sr => dc_coreK2 hg hts ht hke he ok (sr _ _ hn) hl h0 hs hd hkk)
theorem lf_dcKK {i : Nat} {g : TG} {tt : TT} {tk tv : TE} {vs ts : List Nat} {dg : TDG} {dt : TDT} {dk dv : TDE} (hg : LfG S B g dg ts) (ht : LfT S B tt dt) (hke : LfE S B tk dk) (he : LfE S B tv dv) (hts : ∀ i ∈ ts, i ∈ vs := by decide) : LfE S B (fun σ H Q => tLockE (tDc (iKeys (tVar i)) g tt tk tv vs) σ H Q ∨ tDc (iKeys (tVar i)) g tt tk tv vs σ H Q) (dDcK (dIKeys i) dg dt dk dv vs) := fun L env σ H Q k ok h hk => by
  unfold dDcK dIKeys at h
  split at h
  · rename_i c hi
    obtain ⟨ds, hkd, hl, I, h0, hs, hd⟩ := ob_of h
    cases hc : c.own with
    | false =>
      rw [hc] at h0 hd
      exact dcKK_core (k := fun acc env2 => k (.f (.dK acc)) env2) hg hts ht hke he ok hi hc hkd hl h0 hs (fun acc envn ha hI => hd acc envn ha hI) fun acc env2 q Hn hkk hq ok2 st2 w => hk _ _ _ _ hkk ⟨st2, q, rfl, hq, ok2, w⟩
    | true =>
      rw [hc] at h0 hd
      obtain ⟨p, hv, _⟩ := ok.ownd hi hc
      have e1 : bwE (some i) env = env.set i (some (.b c.d)) := by
        show (match env[i]? with | some (some c) => env.set i (some (.b c.d)) | _ => env) = _
        rw [hi]
      have h0 : I 0 [] (wipeE (bwE (some i) env) vs) := h0
      have hd : ∀ acc envn, acc.length ≤ ds.length → I ds.length acc envn → ob (unb (some i) env (rest (bwE (some i) env) envn vs)) fun env2 => k (.f (.dK acc)) env2 := hd
      rw [e1] at h0 hd
      have hlt : i < env.length := (List.getElem?_eq_some_iff.mp hi).1
      refine dcKK_core (c := .b c.d) (k := fun acc env2 => ob (unb (some i) env env2) fun env3 => k (.f (.dK acc)) env3) hg hts ht hke he (ok.bor hi hc hv) (List.getElem?_set_self hlt) rfl hkd hl h0 hs (fun acc envn ha hI => hd acc envn ha hI) fun acc env2 D Hn hkk hp ok2 st2 w => ?_
      obtain ⟨env3, hu, hkk⟩ := ob_of hkk
      have sw : ∀ a, La (La L D) p a ↔ La (La L p) D a := fun a => ⟨fun z => z.elim (fun z => z.elim (fun y => .inl (.inl y)) .inr) fun y => .inl (.inr y), fun z => z.elim (fun z => z.elim (fun y => .inl (.inl y)) .inr) fun y => .inl (.inr y)⟩
      obtain ⟨o3, s3, w3⟩ := ok.back hi hc hv hu (L' := La L D) (fun _ z => .inl z) (fun a z => z.elim .inl fun e => .inr (by rw [e]; exact hp)) (ok2.iff sw) st2
      refine hk _ _ _ _ hkk ⟨s3, D, rfl, hp, o3, w.weak fun a z => ?_⟩
      rcases w3 a z with y | y
      · exact .inl ((sw a).mp y)
      · exact .inr y
  · exact h.elim
/-- set to what is read off a locked dict -/
theorem lf_may {te : TE} {i : Nat} {t : TDS} (h : LfS S B (tAsg (fun σ H Q => tLockE te σ H Q ∨ te σ H Q) (gName i)) t) : LfS S B (fun D σ H => tLock (tAsg te (gName i)) D σ H ∨ tAsg te (gName i) D σ H) t := h
end
end Dl
/-! DLL: sorted of dicts whose keys are pairs. -/
namespace Dl
open PySem L2
section
variable {S : Sys} {B : Vol} {L : As} {env env' : Env} {σ σ' : St} {H H' : Hp}
def dPair (x : Int × Int) : D := .tup [.int x.1, .int x.2]
def pk (x : Int × Int) : List Key := [.inl x.1, .inl x.2]
theorem rds_map {A : As} {f : V → D} : ∀ {vs : List V}, (∀ v ∈ vs, RD S A H v (f v)) → RDs S A H vs (vs.map f)
  | [], _ => .nil
  | v :: vs, h => .cons (h v List.mem_cons_self) (rds_map fun x hx => h x (List.mem_cons_of_mem _ hx))
theorem isKeys_pairs {kf : V → Int × Int} : ∀ {kvs : List (List Key × V)} {bs : List Addr} {ps : List (Int × Int)}, IsKeys H kvs bs → kvs.map (·.1) = ps.map pk → (∀ v ∈ bs.map V.ref, ∃ t, v = V.ref t ∧ H t = some (.tup [.int (kf v).1, .int (kf v).2])) → (bs.map V.ref).map kf = ps
  | [], [], [], _, _, _ => rfl
  | [], [], _ :: _, _, e, _ => by cases e
  | _ :: _, _ :: _, [], _, e, _ => by cases e
  | kv :: kvs, b :: bs, x :: ps, .cons h t, e, hk => by
    have e1 : kv.1 = pk x := (List.cons.inj e).1
    have e2 := (List.cons.inj e).2
    obtain ⟨t', e3, h3⟩ := hk (.ref b) List.mem_cons_self
    cases e3
    have h' : H b = some (.tup (kv.1.map kV)) := h
    rw [e1, h3] at h'
    have h4 : ([V.int (kf (.ref b)).1, V.int (kf (.ref b)).2] : List V) = [V.int x.1, V.int x.2] := by
      injection h' with h'
      injection h' with h'
    injection h4 with h5 h6
    injection h5 with h5
    injection h6 with h6 _
    injection h6 with h6
    rw [List.map_cons, List.map_cons, isKeys_pairs t e2 fun v hv => hk v (List.mem_cons_of_mem _ hv)]
    exact congrArg (· :: ps) (Prod.ext h5 h6)
def fSortDP : Fn := fun as k => match as with
  | [.dT kds] => ∃ ps : List (Int × Int), kds.map (·.1) = ps.map pk ∧ ∀ qs : List (Int × Int), qs.Perm ps → qs.Pairwise (fun x y => SrtO.lexB y x = false) → k (.f (.lst (qs.map dPair)))
  | _ => False
theorem cl_sortDP : CaL S B SoP.rSortDP fSortDP := fun L env σ H Q xs as k ok hx h q => by
  match as, h with
  | [.dT kds], h =>
    obtain ⟨v, rfl, hv⟩ := hx.one
    obtain ⟨ps, e, h⟩ := h
    obtain ⟨p, kvs, rfl, hs, hk, r⟩ := hv.dT
    have hps : kvs.map (·.1) = ps.map pk := hk.trans e
    refine ⟨p, kvs, rfl, hs, fun x hx => ?_, fun bs kf ys p' hb hf h1 h2 hp => ?_⟩
    · have : x.1 ∈ kvs.map (·.1) := List.mem_map_of_mem hx
      rw [hps] at this
      obtain ⟨y, _, e⟩ := List.mem_map.mp this
      exact ⟨y.1, y.2, e.symm⟩
    · have ek := isKeys_pairs hb hps hf
      have hperm : (ys.map kf).Perm ps := by
        rw [← ek]
        exact h2.perm.map kf
      have hpw : (ys.map kf).Pairwise (fun x y => SrtO.lexB y x = false) := List.pairwise_map.mpr h1
      have hr : RDs S (Av B L env σ) H ys (ys.map fun v => dPair (kf v)) := rds_map fun v hv => by
        obtain ⟨t, rfl, ht⟩ := hf v (h2.perm.mem_iff.mp hv)
        exact .tup ht (.cons (.int _) (.cons (.int _) .nil))
      have := q _ _ _ (h (ys.map kf) hperm hpw) (post_lst ok hp (ds := (ys.map kf).map dPair) (by rw [List.map_map]; exact hr))
      exact this
end
end Dl
/-! DLM: d.get(k), d.get(k, x). -/
namespace Dl
open PySem L2
section
variable {S : Sys} {B : Vol} {L : As} {env env' : Env} {σ σ' : St} {H H' : Hp}
def isDct : D → Bool
  | .dK _ => true
  | .dT _ => true
  | _ => false
/-- what a dict tells of a key -/
def getO (x y : D) : Option (Option D) := match x with
  | .dK kds => y.key.map fun k => valD kds k
  | .dT kds => y.keyT.map fun k => valD kds k
  | _ => none
theorem dct_at {A : As} {v : V} {d : D} (h : TV S A H v d) (e : isDct d = true) : ∃ p, v = .ref p ∧ IsD H p := by
  cases d with
  | dK kds =>
    obtain ⟨p, kvs, rfl, h1, _⟩ := h.dK
    exact ⟨p, rfl, .inl ⟨kvs, h1⟩⟩
  | dT kds =>
    obtain ⟨p, kvs, rfl, h1, _⟩ := h.dT
    exact ⟨p, rfl, .inr ⟨kvs, h1⟩⟩
  | _ => cases e
theorem getO_of {A : As} {p : Addr} {y : V} {a b : D} {o : Option D} (hx : TV S A H (.ref p) a) (hy : TV S A H y b) (e : getO a b = some o) : ∃ r : Option V, DGet H p y r ∧ (∀ d, o = some d → ∃ v, r = some v ∧ RD S A H v d) ∧ (o = none → r = none) := by
  have fin : ∀ {r : Option V}, (r.isSome = o.isSome ∧ ∀ d, o = some d → ∃ v, r = some v ∧ RD S A H v d) → (∀ d, o = some d → ∃ v, r = some v ∧ RD S A H v d) ∧ (o = none → r = none) := fun {r} z => ⟨z.2, fun q => by
    have := z.1
    rw [q] at this
    cases r with
    | none => rfl
    | some v => cases this⟩
  cases a with
  | dK kds =>
    obtain ⟨k, e1, e2⟩ := Option.map_eq_some_iff.mp (show b.key.map (fun k => valD kds k) = some o from e)
    obtain ⟨q, kvs, e3, h1, h2, r⟩ := hx.dK
    cases e3
    subst e2
    exact ⟨_, .inl ⟨kvs, k, h1, hy.key e1, rfl⟩, fin (val_rds h2 r)⟩
  | dT kds =>
    obtain ⟨k, e1, e2⟩ := Option.map_eq_some_iff.mp (show b.keyT.map (fun k => valD kds k) = some o from e)
    obtain ⟨q, kvs, e3, h1, h2, r⟩ := hx.dT
    cases e3
    subst e2
    obtain ⟨bb, rfl, h4⟩ := hy.keyT e1
    exact ⟨_, .inr ⟨kvs, k, bb, h1, rfl, h4, rfl⟩, fin (val_rds h2 r)⟩
  | _ => cases e
def dGet1 (td ty : TDE) : TDE := fun env k => td env fun a env1 => ob (a.get env1) fun x => isDct x = true ∧ ty env1 fun b env2 => ob (a.get env2) fun x => ob (b.get env2) fun y => ob (getO x y) fun o => k (.s (o.getD .non)) env2
theorem lf_get1 {td ty : TE} {dd dy : TDE} (h1 : LfE S B td dd) (h2 : LfE S B ty dy) : LfE S B (tDGet1 td ty) (dGet1 dd dy) := fun L env σ H Q k ok h hk => by
  refine h1 L env σ H _ _ ok h fun av env1 v H1 g1 p1 => ?_
  obtain ⟨ok1, st1, fin⟩ := p1.held ok
  obtain ⟨x0, e0, hd, g1⟩ := ob_of g1
  obtain ⟨okA, lA, _⟩ := fin env1 H1 ok1 .refl
  obtain ⟨p, rfl, isd⟩ := dct_at (lA.tv okA (by rw [AV.get_hold]; exact e0)) hd
  refine ⟨p, rfl, isd, ?_⟩
  refine h2 _ env1 σ H1 _ _ ok1 g1 fun aw env2 u H2 g2 p2 => ?_
  obtain ⟨ok2, st2, l2⟩ := p2.vl ok1
  obtain ⟨ok3, l3, w⟩ := fin env2 H2 ok2 st2
  obtain ⟨x, e1, g2⟩ := ob_of g2
  obtain ⟨y, e2, g2⟩ := ob_of g2
  obtain ⟨o, e3, g2⟩ := ob_of g2
  obtain ⟨r, hg, hs, hn⟩ := getO_of (l3.tv ok3 (by rw [AV.get_hold]; exact e1)) ((l2.weak w).tv ok3 (by rw [AV.get_hold]; exact e2)) e3
  refine ⟨r, hg, ?_⟩
  cases o with
  | none =>
    rw [hn rfl]
    exact hk _ _ _ _ g2 ((post_s ok3 .non).trans (st1.trans st2))
  | some d =>
    obtain ⟨z, rfl, rd⟩ := hs d rfl
    exact hk _ _ _ _ g2 ((post_s ok3 rd).trans (st1.trans st2))
def dGet2 (td ty tx : TDE) : TDE := fun env k => td env fun a env1 => ob (a.get env1) fun x => isDct x = true ∧ ty env1 fun b env2 => tx env2 fun c env3 => ob (a.get env3) fun x => ob (b.get env3) fun y => ob (getO x y) fun o => shr env3 c fun d env4 => k (.s (o.getD d)) env4
theorem lf_get2 {td ty tx : TE} {dd dy dx : TDE} (h1 : LfE S B td dd) (h2 : LfE S B ty dy) (h3 : LfE S B tx dx) : LfE S B (tDGet2 td ty tx) (dGet2 dd dy dx) := fun L env σ H Q k ok h hk => by
  refine h1 L env σ H _ _ ok h fun av env1 v H1 g1 p1 => ?_
  obtain ⟨ok1, st1, fin1⟩ := p1.held ok
  obtain ⟨x0, e0, hd, g1⟩ := ob_of g1
  obtain ⟨okA, lA, _⟩ := fin1 env1 H1 ok1 .refl
  obtain ⟨p, rfl, isd⟩ := dct_at (lA.tv okA (by rw [AV.get_hold]; exact e0)) hd
  refine ⟨p, rfl, isd, ?_⟩
  refine h2 _ env1 σ H1 _ _ ok1 g1 fun aw env2 u H2 g2 p2 => ?_
  obtain ⟨ok2, st2, fin2⟩ := p2.held ok1
  refine h3 _ env2 σ H2 _ _ ok2 g2 fun ax env3 z H3 g3 p3 => ?_
  obtain ⟨ok3, st3, l3⟩ := p3.vl ok2
  obtain ⟨ok4, l4, w4⟩ := fin2 env3 H3 ok3 st3
  obtain ⟨ok5, l5, w5⟩ := fin1 env3 H3 ok4 (st2.trans st3)
  obtain ⟨x, e1, g3⟩ := ob_of g3
  obtain ⟨y, e2, g3⟩ := ob_of g3
  obtain ⟨o, e3, g3⟩ := ob_of g3
  obtain ⟨r, hg, hs, hn⟩ := getO_of (l5.tv ok5 (by rw [AV.get_hold]; exact e1)) ((l4.weak w5).tv ok5 (by rw [AV.get_hold]; exact e2)) e3
  obtain ⟨d, env4, g4, ok6, st6, rd⟩ := ((l3.weak w4).weak w5).shr ok5 g3
  have stA := st1.trans (st2.trans (st3.trans st6))
  refine ⟨r, hg, ?_⟩
  cases o with
  | none =>
    rw [hn rfl]
    exact hk _ _ _ _ g4 ((post_s ok6 rd).trans stA)
  | some d' =>
    obtain ⟨z', rfl, rd'⟩ := hs d' rfl
    exact hk _ _ _ _ g4 ((post_s ok6 (rd'.step ok5 st6)).trans stA)
end
end Dl
/-! DLN: l.remove(x); sorted of a list of pairs. -/
namespace Dl
open PySem L2
section
variable {S : Sys} {B : Vol} {L : As} {env env' : Env} {σ σ' : St} {H H' : Hp}
theorem pys_map : ∀ ds : List D, pys ds = ds.map D.py
  | [] => rfl
  | d :: ds => by
    show d.py :: pys ds = _
    rw [pys_map ds]
    rfl
def fRemove : FM := fun d ds k => match d, ds with
  | .lst xs, [y] => Sh y ∧ Sh (.lst xs) ∧ ∃ j z, xs[j]? = some z ∧ deq z y = true ∧ (∀ m z', m < j → xs[m]? = some z' → deq z' y = false) ∧ k (.lst (xs.eraseIdx j)) .non
  | _, _ => False
theorem lm_remove {K : PySem.W.Frag} (hK : S.K = K := by rfl) : MtL S (RmD.rRemD K) fRemove := by
  subst hK
  exact fun A H p d vs ds k Q ha w r h q => by
    match d, ds, r, h with
    | .lst xs, [y], .cons r1 .nil, h =>
      obtain ⟨us, e, r2⟩ := w
      obtain ⟨sy, sx, j, z, hz, hzy, hno, h⟩ := h
      have dpx : DpAll S.K H us (pys xs) := RDs.dp xs _ sx.1 r2
      have dpy := RD.dp y _ sy.1 r1
      refine ⟨p, us, _, y.py, pys xs, j, z.py, rfl, rfl, e, dpx, dpy, sx.2, sy.2, by rw [pys_map, List.getElem?_map, hz]; rfl, hzy, fun m z' hm h' => ?_, q _ _ _ _ h (fun H' kp e' => ⟨_, e', (r2.eraseIdx j).mono kp⟩) .non⟩
      rw [pys_map, List.getElem?_map] at h'
      obtain ⟨x, hx, rfl⟩ := Option.map_eq_some_iff.mp h'
      exact hno m x hm hx
/-- sorted of a list of pairs -/
def fSortP : Fn := fun as k => match as with
  | [.lst ds] => ∃ ps : List (Int × Int), ds = ps.map dPair ∧ ∀ qs : List (Int × Int), qs.Perm ps → qs.Pairwise (fun x y => SrtO.lexB y x = false) → k (.f (.lst (qs.map dPair)))
  | _ => False
theorem rds_pair {A : As} : ∀ {vs : List V} {ps : List (Int × Int)}, RDs S A H vs (ps.map dPair) → ∀ v ∈ vs, ∃ t i j, v = V.ref t ∧ H t = some (.tup [.int i, .int j])
  | _, [], .nil, v, hv => by cases hv
  | _, x :: ps, .cons h r, v, hv => by
    rcases List.mem_cons.mp hv with rfl | hv
    · cases h with
      | tup h1 r1 =>
        cases r1 with
        | cons a r2 =>
          cases a
          cases r2 with
          | cons b r3 =>
            cases b
            cases r3
            exact ⟨_, _, _, rfl, h1⟩
    · exact rds_pair r v hv
/-- what a value's two numbers are, at this heap -/
noncomputable def pairAt (H : Hp) (v : V) : Int × Int := match v with
  | .ref t => match H t with
    | some (.tup [.int i, .int j]) => (i, j)
    | _ => (0, 0)
  | _ => (0, 0)
theorem rds_pairAt {A : As} : ∀ {vs : List V} {ps : List (Int × Int)}, RDs S A H vs (ps.map dPair) → vs.map (pairAt H) = ps
  | _, [], .nil => rfl
  | _, x :: ps, .cons h r => by
    rw [List.map_cons, rds_pairAt r]
    cases h with
    | tup h1 r1 =>
      cases r1 with
      | cons a r2 =>
        cases a
        cases r2 with
        | cons b r3 =>
          cases b
          cases r3
          refine congrArg (· :: ps) ?_
          show (match H _ with | some (.tup [.int i, .int j]) => (i, j) | _ => (0, 0)) = x
          rw [h1]
theorem pairAt_ok {A : As} {vs : List V} {ps : List (Int × Int)} (r : RDs S A H vs (ps.map dPair)) : ∀ v ∈ vs, ∃ t, v = V.ref t ∧ H t = some (.tup [.int (pairAt H v).1, .int (pairAt H v).2]) := fun v hv => by
  obtain ⟨t, i, j, rfl, h⟩ := rds_pair r v hv
  refine ⟨t, rfl, ?_⟩
  have e : pairAt H (.ref t) = (i, j) := by
    show (match H t with | some (.tup [.int i, .int j]) => (i, j) | _ => (0, 0)) = _
    rw [h]
  rw [e]
  exact h
theorem cl_sortP {K : PySem.W.Frag} (hK : S.K = K := by rfl) : CaL S B (rSortedPO K) fSortP := by
  subst hK
  exact fun L env σ H Q xs as k ok hx h q => by
    match as, h with
    | [.lst ds], h =>
      obtain ⟨v, rfl, hv⟩ := hx.one
      obtain ⟨ps, rfl, h⟩ := h
      obtain ⟨p, vs, rfl, hs, r⟩ := hv.lst
      have hf := pairAt_ok r
      refine ⟨p, vs, pairAt H, rfl, SqL.of hs, hf, fun ys p' h1 h2 hp => ?_⟩
      have hperm : (ys.map (pairAt H)).Perm ps := by
        rw [← rds_pairAt r]
        exact h2.perm.map _
      have hpw : (ys.map (pairAt H)).Pairwise (fun x y => SrtO.lexB y x = false) := List.pairwise_map.mpr h1
      have hr : RDs S (Av B L env σ) H ys (ys.map fun v => dPair (pairAt H v)) := rds_map fun v hv => by
        obtain ⟨t, e, ht⟩ := hf v (h2.perm.mem_iff.mp hv)
        subst e
        exact .tup ht (.cons (.int _) (.cons (.int _) .nil))
      exact q _ _ _ (h (ys.map (pairAt H)) hperm hpw) (post_lst ok hp (ds := (ys.map (pairAt H)).map dPair) (by rw [List.map_map]; exact hr))
end
end Dl
/-! d.clear() of a dict whose keys are tuples -/
namespace DClT
open PySem PySem.Spec PyProof.Rows L2
def rDClearT : V → List V → Hp → VK → Prop := fun x vs H Q => ∃ (a : Addr) (kvs : List (List L2.Key × V)), x = .ref a ∧ vs = [] ∧ H a = some (.dT kvs) ∧ Q .non (upd H a (.dT []))
theorem mtd_clearT {X : Cx} : MtR X "dict.clear" rDClearT := by
  intro pins s σ H x xs v us Q I rx rxs h
  obtain ⟨a, kvs, rfl, rfl, ha, q⟩ := h
  cases rx
  cases rxs
  obtain ⟨z, hd, xs', rel, o, es, ep, ho, hx, hdat, hl, hrest⟩ := dt_of I.hok ha
  have hr : s.heap.DictRaw a es ep := ⟨o, ho, hx, hdat⟩
  have hz : es.size ≤ sizeLine := by
    have e := congrArg List.length hl
    rw [List.length_map, Array.length_toList] at e
    rw [e, ← Paired.length rel]
    exact z
  refine call_meetsIn PySem.F.slot_dict_clear hr.typeIs PySem.F.entry_dict_clear (PySem.F.args_dict_clear_1 _) (meets_dict_clear_raw a) ⟨es, ep, hr, hz, fun h' hr' hs' => ?_⟩
  obtain ⟨o', ho', hc', hd'⟩ := hr'
  refine ⟨.non, upd H a (.dT []), d_write (t' := s.toks) I (by rw [ha]; exact True.intro) hs' ⟨_, ho'⟩ ?_, rfl, q⟩
  exact ⟨Nat.zero_le _, hd, [], .nil, o', #[], ep + 1, ho', hc', hd', rfl, List.nodup_nil⟩
end DClT
/-! DLO: d.clear() of a dict of tuple keys. -/
namespace Dl
open PySem L2
section
variable {S : Sys} {B : Vol} {L : As} {env env' : Env} {σ σ' : St} {H H' : Hp}
def fClearT : FM := fun d ds k => match d, ds with
  | .dT _, [] => k (.dT []) .non
  | _, _ => False
theorem lm_clearT : MtL S DClT.rDClearT fClearT := fun A H p d vs ds k Q ha w r h q => by
  match d, ds, r, h with
  | .dT kds, [], .nil, h =>
    obtain ⟨kvs, e, hk, r2⟩ := w
    exact ⟨p, kvs, rfl, rfl, e, q _ _ _ _ h (fun H' kp e' => ⟨[], e', rfl, .nil⟩) .non⟩
def isDT : D → Prop
  | .dT _ => True
  | _ => False
def dBMd0 (f : FM) (td : TDE) : TDE := fun env k => td env fun a env1 => match a with
  | .r i => ownAt env1 i fun c => isDT c.d ∧ f c.d [] fun d' e => k (.s e) (env1.set i (some (c.with d')))
  | _ => False
theorem lf_bmd0 {r : V → List V → Hp → VK → Prop} {f : FM} {to : TE} {td : TDE} {K : PySem.W.Frag} (hty : ∀ (H : Hp) (p : Addr) (kvs : List (List Key × V)), H p = some (.dT kvs) → tyV K "dict" (.ref p) H) (hr : MtL S r f) (ho : LfE S B to td) : LfE S B (tBM0 K "dict" r to) (dBMd0 f td) := fun L env σ H Q k ok h hk => by
  refine ho L env σ H _ _ ok h fun av env1 v H1 h1 p1 => ?_
  obtain ⟨st1, p1⟩ := p1
  cases av with
  | s d => exact h1.elim
  | f d => exact h1.elim
  | r i =>
    obtain ⟨ok1, hv⟩ := p1
    obtain ⟨c, e4, e5, g2, h4⟩ := ownAt_of h1
    obtain ⟨p0, hp0, w⟩ := ok1.ownd e4 e5
    rw [hv] at hp0
    cases hp0
    have ty : tyV K "dict" (.ref p0) H1 := by
      cases hd : c.d with
      | dT kds =>
        rw [hd] at w
        obtain ⟨kvs, e, _⟩ := w
        exact hty _ _ _ e
      | _ => rw [hd] at g2; exact g2.elim
    refine ⟨ty, ?_⟩
    have how : Av B L env1 σ p0 := .inr (.inr ⟨i, c, e4, e5, hv⟩)
    refine hr _ H1 p0 c.d [] [] _ Q how w .nil h4 fun d' e v2 o g hw hrd => ?_
    have kp := kp_own (o := o) how (ok1.ow (.inr ⟨i, c, e4, e5, hv⟩))
    obtain ⟨ok5, st5⟩ := ok1.write e4 e5 hv (hw _ kp upd_same)
    exact hk _ _ _ _ g ⟨st1.trans st5, ok5, RD.weak (RD.mono kp hrd) fun a z => z.elim .inl fun y => .inr (ow_sub (fun j c' g1 g2 => by
      rcases get_set g1 with ⟨e1, e2, _⟩ | ⟨_, g3⟩
      · subst e1; exact ⟨⟨c, e4, e5⟩, rfl⟩
      · exact ⟨⟨c', g3, g2⟩, rfl⟩) a y)⟩
theorem lf_dclear {to : TE} {td : TDE} {K : PySem.W.Frag} (ho : LfE S B to td) : LfE S B (tBM0 K "dict" DClT.rDClearT to) (dBMd0 fClearT td) := lf_bmd0 (fun H p kvs e => .inr (.inr (.inl ⟨rfl, .inr ⟨kvs, e⟩⟩))) lm_clearT ho
end
end Dl
/-! DLP: texts: split, join, str, int of a text, isdigit, isascii, a sign of a text, a display with a star. -/
namespace Dl
open PySem L2
section
variable {X : Cx}
theorem call_str_any : CallR X (.type "str") (fun xs H Q => (∃ i, xs = [.int i] ∧ i.natAbs.log2 < 1920 ∧ Q (.str (toString i)) H) ∨ ∃ a, xs = [.str a] ∧ Q (.str a) H) := fun pins s σ H xs us Q I r h => h.elim (call_str_int pins s σ H xs us Q I r) (SkE.call_str_str pins s σ H xs us Q I r)
theorem pe_joinK {K : PySem.W.Frag} {o e : Expr} {to te : TE} {apos pos : Pos} (hK : X.K = K) (ho : PE X o to) (he : PE X e te) (hs : starEach [e] X.env = [(false, eval e X.env)] := by rfl) (hbase : attributeBase o "join" X.env (eval o X.env) = eval o X.env := by rfl) (hline : (apos.endLine == pos.line) = true := by rfl) :
    PE X (.Call (.Attribute o "join" apos) [e] [] pos) (tM1 (fun x xs H Q => ∃ a p, ∃ ys : List Str, x = .str a ∧ xs = [.ref p] ∧ (SqL K H p (ys.map V.str) ∨ SqT K H p (ys.map V.str)) ∧
      (ys.map (·.length)).sum + ys.length * a.length ≤ 16777216 ∧ Q (.str (Txt.join a ys)) H) to te) := by
  subst hK
  exact pe_join ho he hs hbase hline
theorem pa_starK {K : PySem.W.Frag} {e : Expr} {es : List Expr} {p : Pos} {te : TE} {t : TA} (hK : X.K = K) (he : PE X e te) (hr : PA X es t) (hs : starEach (.Starred e p :: es) X.env = (true, eval e X.env) :: starEach es X.env := by rfl) : PA X (.Starred e p :: es) (StX.tStar K te t) := by
  subst hK
  exact StX.pa_star he hr hs
end
section
variable {S : Sys} {B : Vol} {L : As} {env env' : Env} {σ σ' : St} {H H' : Hp}
def isStr : D → Bool
  | .str _ => true
  | _ => false
theorem isStr_of {d : D} (h : isStr d = true) : ∃ x, d = .str x := by
  cases d with
  | str x => exact ⟨x, rfl⟩
  | _ => cases h
def txs : List D → Option (List Str)
  | [] => some []
  | .str x :: ds => (txs ds).map (x :: ·)
  | _ => none
theorem RDs.txs {A : As} : ∀ {vs : List V} {ds : List D} {ns : List Str}, RDs S A H vs ds → txs ds = some ns → vs = ns.map V.str
  | _, _, _, .nil, e => by cases e; rfl
  | _, .str i :: ds, ns, .cons h r, e => by
    cases h
    obtain ⟨ms, e1, rfl⟩ := Option.map_eq_some_iff.mp (show (Dl.txs ds).map (i :: ·) = some ns from e)
    rw [r.txs e1]
    rfl
theorem strs_map : ∀ xs : List Str, txs (xs.map D.str) = some xs
  | [] => rfl
  | x :: xs => by
    show (txs (xs.map D.str)).map (x :: ·) = _
    rw [strs_map xs]
    rfl
theorem rds_strs {A : As} : ∀ ns : List Str, RDs S A H (ns.map V.str) (ns.map D.str)
  | [] => .nil
  | n :: ns => .cons (.str n) (rds_strs ns)
/-! methods of texts -/
def M1L (S : Sys) (B : Vol) (r : V → List V → Hp → VK → Prop) (f : F2) : Prop := OpL S B (fun x y H Q => r x [y] H Q) f
def M0L (S : Sys) (B : Vol) (r : V → List V → Hp → VK → Prop) (f : F1) : Prop := UnL S B (fun x H Q => r x [] H Q) f
def dM0 (f : F1) (ta : TDE) : TDE := fun env k => ta env fun a env1 => ob (a.get env1) fun x => isStr x = true ∧ f x fun r => k r env1
def dM1 (f : F2) (ta tb : TDE) : TDE := fun env k => ta env fun a env1 => ob (a.get env1) fun x => isStr x = true ∧ tb env1 fun b env2 => ob (a.get env2) fun x => ob (b.get env2) fun y => f x y fun r => k r env2
theorem lf_m0 {r : V → List V → Hp → VK → Prop} {f : F1} {ta : TE} {da : TDE} (hr : M0L S B r f) (ha : LfE S B ta da) : LfE S B (tM0 r ta) (dM0 f da) := fun L env σ H Q k ok h hk => by
  refine ha L env σ H _ _ ok h fun av env1 v H1 h1 p1 => ?_
  obtain ⟨ok1, st1, l1⟩ := p1.vl ok
  obtain ⟨x, e1, h2, h3⟩ := ob_of h1
  have tv := l1.tv ok1 (by rw [AV.get_hold]; exact e1)
  obtain ⟨z, rfl⟩ := isStr_of h2
  exact ⟨⟨z, tv.str⟩, hr L env1 σ H1 Q v _ _ ok1 tv h3 fun av3 v3 H3 h3 p3 => hk _ _ _ _ h3 (p3.trans st1)⟩
theorem lf_m1 {r : V → List V → Hp → VK → Prop} {f : F2} {ta tb : TE} {da db : TDE} (hr : M1L S B r f) (ha : LfE S B ta da) (hb : LfE S B tb db) : LfE S B (tM1 r ta tb) (dM1 f da db) := fun L env σ H Q k ok h hk => by
  refine ha L env σ H _ _ ok h fun av env1 v H1 h1 p1 => ?_
  obtain ⟨ok1, st1, fin⟩ := p1.held ok
  obtain ⟨x0, e0, h2, h1⟩ := ob_of h1
  obtain ⟨okA, lA, _⟩ := fin env1 H1 ok1 .refl
  obtain ⟨z, rfl⟩ := isStr_of h2
  refine ⟨⟨z, (lA.tv okA (by rw [AV.get_hold]; exact e0)).str⟩, ?_⟩
  refine hb _ env1 σ H1 _ _ ok1 h1 fun aw env2 u H2 h2 p2 => ?_
  obtain ⟨ok2, st2, l2⟩ := p2.vl ok1
  obtain ⟨ok3, l3, w⟩ := fin env2 H2 ok2 st2
  obtain ⟨x, e1, h2⟩ := ob_of h2
  obtain ⟨y, e2, h2⟩ := ob_of h2
  refine hr L env2 σ H2 Q v u x y _ ok3 (l3.tv ok3 (by rw [AV.get_hold]; exact e1)) ((l2.weak w).tv ok3 (by rw [AV.get_hold]; exact e2)) h2 fun av3 v3 H3 h3 p3 => ?_
  exact hk _ _ _ _ h3 (p3.trans (st1.trans st2))
def fSplit : F2 := fun a b k => match a, b with
  | .str x, .str y => (y.length == 0) = false ∧ x.length + 2 ≤ sizeLine ∧ k (.f (.lst ((Txt.split x y).map D.str)))
  | _, _ => False
theorem lm_split : M1L S B (fun x xs H Q => ∃ a b, x = .str a ∧ xs = [.str b] ∧ (b.length == 0) = false ∧ a.length + 2 ≤ sizeLine ∧ rNewStrs (Txt.split a b) H Q) fSplit := fun L env σ H Q x y a b k ok hx hy h q => by
  match a, b, h with
  | .str u, .str v, h => exact ⟨u, v, hx.str, by rw [hy.str], h.1, h.2.1, fun p hp => q _ _ _ h.2.2 (post_lst ok hp (rds_strs _))⟩
def fJoin : F2 := fun a b k => match a with
  | .str x => ob b.its fun ds => ob (txs ds) fun ys => (ys.map (·.length)).sum + ys.length * x.length ≤ 16777216 ∧ k (.s (.str (Txt.join x ys)))
  | _ => False
theorem lm_join {K : PySem.W.Frag} (hK : S.K = K := by rfl) : M1L S B (fun x xs H Q => ∃ a p, ∃ ys : List Str, x = .str a ∧ xs = [.ref p] ∧ (SqL K H p (ys.map V.str) ∨ SqT K H p (ys.map V.str)) ∧ (ys.map (·.length)).sum + ys.length * a.length ≤ 16777216 ∧ Q (.str (Txt.join a ys)) H) fJoin := by
  subst hK
  exact fun L env σ H Q x y a b k ok hx hy h q => by
    match a, h with
    | .str u, h =>
      obtain ⟨ds, e1, h⟩ := ob_of h
      obtain ⟨ys, e2, hz, h⟩ := ob_of h
      obtain ⟨p, vs, rfl, hs, r⟩ := hy.its e1
      have e3 := r.txs e2
      subst e3
      exact ⟨u, p, ys, hx.str, rfl, hs, hz, q _ _ _ h (post_s ok (.str _))⟩
def fDigit : F1 := fun a k => match a with
  | .str x => k (.s (.bl (Txt.isdigit x)))
  | _ => False
def fAscii : F1 := fun a k => match a with
  | .str x => k (.s (.bl (Txt.isascii x)))
  | _ => False
theorem lm_isdigit : M0L S B (fun x xs H Q => ∃ a, x = .str a ∧ xs = [] ∧ True ∧ Q (.bl (Txt.isdigit a)) H) fDigit := fun L env σ H Q x a k ok hx h q => by
  match a, h with
  | .str u, h => exact ⟨u, hx.str, rfl, trivial, q _ _ _ h (post_s ok (.bl _))⟩
theorem lm_isascii : M0L S B (fun x xs H Q => ∃ a, x = .str a ∧ xs = [] ∧ True ∧ Q (.bl (Txt.isascii a)) H) fAscii := fun L env σ H Q x a k ok hx h q => by
  match a, h with
  | .str u, h => exact ⟨u, hx.str, rfl, trivial, q _ _ _ h (post_s ok (.bl _))⟩
/-! calls -/
def fStr : Fn := fun as k => match as with
  | [.int i] => i.natAbs.log2 < 1920 ∧ k (.s (.str (Str.ofString (toString i))))
  | [.str x] => k (.s (.str x))
  | _ => False
theorem cl_str : CaL S B (fun xs H Q => (∃ i, xs = [.int i] ∧ i.natAbs.log2 < 1920 ∧ Q (.str (toString i)) H) ∨ ∃ a, xs = [.str a] ∧ Q (.str a) H) fStr := fun L env σ H Q xs as k ok hx h q => by
  match as, h with
  | [.int i], h =>
    obtain ⟨v, rfl, hv⟩ := hx.one
    exact .inl ⟨i, by rw [hv.int], h.1, q _ _ _ h.2 (post_s ok (.str _))⟩
  | [.str i], h =>
    obtain ⟨v, rfl, hv⟩ := hx.one
    exact .inr ⟨i, by rw [hv.str], q _ _ _ h (post_s ok (.str _))⟩
def fIntS : Fn := fun as k => match as with
  | [.str x] => ob (PySem.intText? x) fun n => x.length ≤ 640 ∧ k (.s (.int n))
  | _ => False
theorem cl_intS : CaL S B (fun xs H Q => ∃ a n, xs = [.str a] ∧ PySem.intText? a = some n ∧ a.length ≤ 640 ∧ Q (.int n) H) fIntS := fun L env σ H Q xs as k ok hx h q => by
  match as, h with
  | [.str i], h =>
    obtain ⟨v, rfl, hv⟩ := hx.one
    obtain ⟨n, e, hz, h⟩ := ob_of h
    exact ⟨i, n, by rw [hv.str], e, hz, q _ _ _ h (post_s ok (.int _))⟩
def fLenS : Fn := fun as k => match as with
  | [.str x] => x.length ≤ sizeLine ∧ k (.s (.int (x.length : Nat)))
  | _ => False
theorem cl_lenS : CaL S B (fun xs H Q => ∃ z, xs = [.str z] ∧ z.length ≤ sizeLine ∧ Q (.int z.length) H) fLenS := fun L env σ H Q xs as k ok hx h q => by
  match as, h with
  | [.str i], h =>
    obtain ⟨v, rfl, hv⟩ := hx.one
    exact ⟨i, by rw [hv.str], h.1, q _ _ _ h.2 (post_s ok (.int _))⟩
def fIxS : F2 := fun a b k => match a, b with
  | .str x, .int i => x.length ≤ sizeLine ∧ ob (atI x.cps.toList i) fun c => k (.s (.str ⟨#[c]⟩))
  | _, _ => False
theorem lo_ixS : OpL S B rIxS fIxS := fun L env σ H Q x y a b k ok hx hy h q => by
  match a, b, h with
  | .str u, .int i, h =>
    obtain ⟨hz, h⟩ := h
    obtain ⟨c, e, h⟩ := ob_of h
    exact ⟨u, i, c, hx.str, hy.int, hz, e, q _ _ _ h (post_s ok (.str _))⟩
/-! a display whose last item has a star -/
def dStar (t : TDE) : TDA := fun env k => t env fun a env1 => match a with
  | .s (.tup ds) => k (ds.map AV.s) env1
  | _ => False
theorem vlas_s {A : As} : ∀ {vs : List V} {ds : List D}, RDs S A H vs ds → VlAs S A σ H vs (ds.map AV.s)
  | _, _, .nil => trivial
  | _, _, .cons h r => ⟨h, vlas_s r⟩
theorem lf_star {K : PySem.W.Frag} {te : TE} {t : TDE} (he : LfE S B te t) (hK : S.K = K := by rfl) : LfA S B (StX.tStar K te tNil) (dStar t) := by
  subst hK
  exact fun L env σ H Q k ok h hk => by
    refine he L env σ H _ _ ok h fun av env1 v H1 h1 p1 => ?_
    match av, h1, p1 with
    | .s (.tup ds), h1, ⟨st, ok1, rd⟩ =>
      cases rd with
      | tup hp r => exact ⟨_, _, rfl, .inl (.inl (.inl hp)), by
        show Q (_ ++ []) H1
        rw [List.append_nil]
        exact hk _ _ _ _ h1 ok1 st (vlas_s r)⟩
theorem shrs_s : ∀ {ds : List D} {env : Env} {k : List D → Env → Prop}, k ds env → shrs (ds.map AV.s) env k
  | [], _, _, h => h
  | d :: ds, env, k, h => by
    show shrs (ds.map AV.s) env fun es env2 => k (d :: es) env2
    exact shrs_s h
/-! three names at once -/
def dPar3 (i j l : Nat) (ta : TDA) : TDS := fun E env => ta env fun as env1 => match as with
  | [a, b, c] => shr env1 a fun d env2 => shr env2 b fun e env3 => shr env3 c fun f env4 => (Nat.blt i env4.length = true ∧ Nat.blt j env4.length = true ∧ Nat.blt l env4.length = true) ∧ E.nx (((env4.set i (some (.s d))).set j (some (.s e))).set l (some (.s f)))
  | _ => False
theorem lf_par3 {i j l : Nat} {ta : TA} {da : TDA} (ha : LfA S B ta da) : LfS S B (tPar3 i j l ta) (dPar3 i j l da) := fun L env σ H W E ok h r => by
  refine ha L env σ H _ _ ok h fun avs env1 vs H1 h1 ok1 st1 l1 => ?_
  match avs, vs, h1, l1 with
  | [a, b, c], [u, v, w], h1, l1 =>
    have ea := l1.held a (List.mem_cons_self ..)
    have eb := l1.held b (List.mem_cons_of_mem _ (List.mem_cons_self ..))
    have ec := l1.held c (List.mem_cons_of_mem _ (List.mem_cons_of_mem _ (List.mem_cons_self ..)))
    obtain ⟨d, env2, h2, ok2, st2, r2⟩ := VlA.shr ok1 (av := a) (by rw [ea]; exact l1.1) h1
    have lb := VlA.step ok1 st2 l1.2.1
    obtain ⟨e, env3, h3, ok3, st3, r3⟩ := VlA.shr ok2 (av := b) (by rw [eb]; exact lb) h2
    have lc := VlA.step ok2 st3 (VlA.step ok1 st2 l1.2.2.1)
    obtain ⟨f, env4, ⟨⟨hi, hj, hl⟩, h4⟩, ok4, st4, r4⟩ := VlA.shr ok3 (av := c) (by rw [ec]; exact lc) h3
    have hi := Nat.le_of_ble_eq_true hi
    have hj := Nat.le_of_ble_eq_true hj
    have hl := Nat.le_of_ble_eq_true hl
    obtain ⟨ok5, st5⟩ := ok4.setS hi ((r2.step ok2 st3).step ok3 st4)
    obtain ⟨ok6, st6⟩ := ok5.setS (i := j) (by rw [List.length_set]; exact hj) ((r3.step ok3 st4).step ok4 st5)
    obtain ⟨ok7, st7⟩ := ok6.setS (i := l) (by rw [List.length_set, List.length_set]; exact hl) ((r4.step ok4 st5).step ok5 st6)
    exact ⟨u, v, w, rfl, r.nx _ _ _ h4 ok7 (st1.trans (st2.trans (st3.trans (st4.trans (st5.trans (st6.trans st7))))))⟩
end
end Dl
/-! DLQ: x == y by a class's own __eq__, where it is true. -/
namespace Dl
open PySem L2
section
variable {S : Sys} {B : Vol} {L : As} {env : Env} {σ : St} {H H' : Hp}
theorem rd_ext {p : Addr} {u : HO} (s : Ext H H') (h : Rd H p u) : Rd H' p u := h.elim (fun h => .inl (s _ _ h)) fun ⟨ob, h⟩ => .inr ⟨ob, s _ _ h⟩
theorem kp_ext {A : As} (s : Ext H H') : Kp A A H H' := ⟨fun _ _ h => rd_ext s h, fun _ _ h => s _ _ h, fun _ _ h _ => s _ _ h, fun _ _ _ h => s _ _ h, fun _ _ h n => ⟨rd_ext s h, n⟩, fun _ _ _ _ h _ => s _ _ h, fun _ _ h => s _ _ h⟩
theorem Ok.ext (ok : Ok S B L env σ H) (s : Ext H H') : Ok S B L env σ H' := by
  have kp := kp_ext (A := Av B L env σ) s
  refine ⟨ok.len, fun i c h => ?_, ok.inj, ok.sep, fun a z q => ?_, B.stab H _ (fun a o' va h => s _ _ h) ok.bag, ok.dv⟩
  · obtain ⟨v, h1, h2⟩ := ok.at_ i c h
    refine ⟨v, h1, ?_⟩
    cases c with
    | s d => exact RD.mono kp h2
    | o d => obtain ⟨q, e, z⟩ := h2; exact ⟨q, e, z.mono kp fun o' h => s _ _ h⟩
    | m d => obtain ⟨q, e, z⟩ := h2; exact ⟨q, e, z.mono kp fun o' h => s _ _ h⟩
    | b d =>
      rcases h2 with h2 | ⟨q, e, l, z⟩
      · exact .inl (RD.mono kp h2)
      · exact .inr ⟨q, e, l, z.mono kp (fun u h => rd_ext s h) (fun C dx fs h => s _ _ h) fun xs h => s _ _ h⟩
  · cases e : H a with
    | none => exact ok.al a z e
    | some o => rw [s _ _ e] at q; cases q
theorem step_ext (s : Ext H H') : Step B env σ H env σ H' := ⟨fun a o h _ => s _ _ h, fun _ z => .inl z, fun _ _ z => ⟨⟨_, z⟩, rfl⟩, fun _ _ z => ⟨z, rfl⟩, fun a h => by
  cases e : H a with
  | none => rfl
  | some o => rw [s _ _ e] at h; cases h⟩
/-- two instances to be read, as data -/
def EqR (S : Sys) (P : D → D → Prop) : Addr → Addr → Hp → Prop := fun a b H => ∃ (L : As) (d e : D), (∀ x, L x → H x ≠ none) ∧ P d e ∧ (RD S L H (.ref a) d ∨ (L a ∧ Top S L H a d)) ∧ (RD S L H (.ref b) e ∨ (L b ∧ Top S L H b e))
def fEq2 (P : D → D → Prop) : DSp := fun ds k => ∃ d e, ds = [d, e] ∧ P d e ∧ k (.bl true) false none
theorem eq_promise {S : Sys} {mg : Str → Option Value} {base : Heap} {CX : CXT} {n : Nat} {f : Addr} {fd : FuncData} {ps : List Str} {P : D → D → Prop} (F : FnOk S.P S.w S.K mg base CX n f fd ps (spD S plain none [true, true] (fEq2 P))) : FnOk S.P S.w S.K mg base CX n f fd ps (spEq (EqR S P)) :=
  F.imp fun vs H Q E h => by
    obtain ⟨a, b, rfl, ⟨L, d, e, hl, hP, h1, h2⟩, hq⟩ := h
    have w : ∀ x, Ao noVol L none [V.ref a, V.ref b] x → L x := fun x z => by
      rcases z with z | z | ⟨i, z, _⟩
      · exact z
      · exact z.elim
      · cases z
    have go : ∀ {x : Addr} {d : D}, (RD S L H (.ref x) d ∨ (L x ∧ Top S L H x d)) → RD S (Ao noVol L none [V.ref a, V.ref b]) H (.ref x) d ∨ ∃ p, V.ref x = .ref p ∧ L p ∧ Top S (Ao noVol L none [V.ref a, V.ref b]) H p d := fun h => h.elim (fun h => .inl (h.weak w)) fun h => .inr ⟨_, rfl, h.1, h.2.weak w⟩
    refine ⟨noVol, L, [d, e], rfl, trivial, hl, fun _ z => z.elim, fun x z => ?_, ⟨rfl, rfl, fun i bb v dd e1 e2 e3 => ?_, fun i z => by cases z⟩, fun d fr md => d = .bl true ∧ fr = false ∧ md = none, ⟨d, e, rfl, hP, rfl, rfl, rfl⟩, fun d fr md v H' hk r => ?_⟩
    · obtain ⟨i, z, _⟩ := z
      cases z
    · match i, e1, e2, e3 with
      | 0, e1, e2, e3 =>
        cases e1; cases e2; cases e3
        exact go h1
      | 1, e1, e2, e3 =>
        cases e1; cases e2; cases e3
        exact go h2
      | i + 2, e1, e2, e3 => simp at e1
    · obtain ⟨rfl, rfl, rfl⟩ := hk
      have := r.r
      rw [if_neg (by decide)] at this
      obtain ⟨hv, _⟩ := this
      cases hv
      exact hq H' fun x o h => r.e x o h (fun ⟨i, z, _⟩ => by cases z) fun z => z.elim
theorem pe_eqI {X : Cx} {S : Sys} {CX : CXT} {C f : Addr} {fd : FuncData} {ps : List Str} {P : D → D → Prop} {E : XK} {n : Nat} (eP : X.prog = S.P) (ew : X.w = S.w) (eK : X.K = S.K) (F : FnOk S.P S.w S.K X.mg X.base CX n f fd ps (spD S plain none [true, true] (fEq2 P)))
    (hr : Room n X.A) (hs : PySem.W.findIn S.K (.ref C) "__eq__" = some (some (.ref f))) (hf : PySem.W.isFn S.K (.ref f) = true) (hb : Binds S.K fd ps []) (hx : Passes CX X E) : OpR X (compareOp .Eq) (rEqG (DIns C (EqR S P))) := by
  obtain ⟨P', w', K'⟩ := S
  cases eP; cases ew; cases eK
  exact op_eqG (rcG_ins (eq_promise F) hs hf hb hx) hr
def fEqI (C : Addr) (P : D → D → Prop) : F2 := fun a b k => match a, b with
  | .ins C1 fs, .ins C2 gs => (C1 = C ∧ C2 = C) ∧ P (.ins C1 fs) (.ins C2 gs) ∧ k (.s (.bl true))
  | _, _ => False
theorem tv_held {v : V} {C : Addr} {fs : List (Str × D)} {A : As} (h : TV S A H v (.ins C fs)) : ∃ p dx gs, v = .ref p ∧ H p = some (.ins C dx gs) ∧ (RD S A H (.ref p) (.ins C fs) ∨ (A p ∧ Top S A H p (.ins C fs))) := by
  obtain ⟨p, dx, gs, rfl, hp, hk, hr⟩ := h.ins
  refine ⟨p, dx, gs, rfl, hp, ?_⟩
  by_cases ha : A p
  · exact .inr ⟨ha, dx, gs, hp, hk, hr⟩
  · exact .inl (.ins hp ha hk hr)
theorem lo_eqI {C : Addr} {P : D → D → Prop} : OpL S B (rEqG (DIns C (EqR S P))) (fEqI C P) := fun L env σ H Q x y a b k ok hx hy h q => by
  match a, b, h with
  | .ins C1 fs, .ins C2 gs, h =>
    obtain ⟨⟨rfl, rfl⟩, hP, h⟩ := h
    obtain ⟨p, dx, us, rfl, hp, rp⟩ := tv_held hx
    obtain ⟨p', dx', us', rfl, hp', rp'⟩ := tv_held hy
    refine ⟨⟨p, p', dx, dx', us, us', rfl, rfl, hp, hp', Av B L env σ, _, _, fun a z => ?_, hP, rp, rp'⟩, fun H' e => q _ _ _ h ⟨step_ext e, ok.ext e, .bl _⟩⟩
    rcases z with z | z
    · exact ok.al a z
    · obtain ⟨o, e, _⟩ := ok.ow z
      rw [e]
      exact fun z => nomatch z
end
end Dl
namespace Lk
open PySem L2
def top (i : Nat) : Stmt := PySem.Challenge.pw_lookdown_k05_whole_texts_there_and_back.main.body.getD i (.Pass ⟨0, 0, 0, 0⟩)
abbrev s_is_integer : Stmt := top 1
abbrev s_is_between : Stmt := top 2
abbrev s_is_tuple_of : Stmt := top 3
abbrev s_Book_init : Stmt := inClass (top 10) 0
abbrev s_Book_eq : Stmt := inClass (top 10) 1
abbrev s_check_frame : Stmt := top 11
abbrev s_check_rules : Stmt := top 12
abbrev s_check_moves : Stmt := top 13
abbrev s_is_rule : Stmt := top 14
abbrev s_is_move : Stmt := top 15
abbrev s_is_price : Stmt := top 16
abbrev s_Web_init : Stmt := inClass (top 18) 0
abbrev s_Web_eq : Stmt := inClass (top 18) 1
abbrev s_is_value : Stmt := top 19
abbrev s_book_text : Stmt := top 21
abbrev s_web_text : Stmt := top 22
abbrev s_line_of : Stmt := top 23
abbrev s_read_book : Stmt := top 24
abbrev s_book_parts : Stmt := top 25
abbrev s_first_move : Stmt := top 26
abbrev s_rule : Stmt := top 27
abbrev s_move : Stmt := top 28
abbrev s_read_web : Stmt := top 29
abbrev s_numbers_behind : Stmt := top 30
abbrev s_numbers_of : Stmt := top 31
abbrev s_is_number : Stmt := top 32
abbrev s_law_bag : Stmt := top 34
abbrev s_law_pick : Stmt := top 35
abbrev s_law_price : Stmt := top 36
abbrev s_law_arities : Stmt := top 37
abbrev s_law_rules : Stmt := top 38
abbrev s_law_moves : Stmt := top 39
abbrev s_law_book : Stmt := top 40
abbrev s_law_same : Stmt := top 41
abbrev s_law_great_book : Stmt := top 42
abbrev s_law_free_values : Stmt := top 43
abbrev s_law_book_lines : Stmt := top 44
abbrev s_law_web_lines : Stmt := top 45
abbrev s_law_sound_book : Stmt := top 46
abbrev s_law : Stmt := top 47
theorem sc_is_integer : FnScope ["thing"] ["thing"] (defScope s_is_integer) := ⟨rfl, rfl, rfl, by decide +kernel, rfl, by decide +kernel, by decide +kernel⟩
theorem sc_is_between : FnScope ["low", "high", "thing"] ["low", "high", "thing"] (defScope s_is_between) := ⟨rfl, rfl, rfl, by decide +kernel, rfl, by decide +kernel, by decide +kernel⟩
theorem sc_is_tuple_of : FnScope ["low", "high", "thing"] ["low", "high", "thing"] (defScope s_is_tuple_of) := ⟨rfl, rfl, rfl, by decide +kernel, rfl, by decide +kernel, by decide +kernel⟩
theorem sc_Book_init : FnScope ["self", "arities", "kinds", "rules", "moves"] ["self", "arities", "kinds", "rules", "moves"] (defScope s_Book_init) := ⟨rfl, rfl, rfl, by decide +kernel, rfl, by decide +kernel, by decide +kernel⟩
theorem sc_Book_eq : FnScope ["self", "other"] ["self", "other"] (defScope s_Book_eq) := ⟨rfl, rfl, rfl, by decide +kernel, rfl, by decide +kernel, by decide +kernel⟩
theorem sc_check_frame : FnScope ["arities", "kinds", "rules", "moves", "arity"] ["arities", "kinds", "rules", "moves"] (defScope s_check_frame) := ⟨rfl, rfl, rfl, by decide +kernel, rfl, by decide +kernel, by decide +kernel⟩
theorem sc_check_rules : FnScope ["arities", "kinds", "rules", "seen", "k", "rule"] ["arities", "kinds", "rules"] (defScope s_check_rules) := ⟨rfl, rfl, rfl, by decide +kernel, rfl, by decide +kernel, by decide +kernel⟩
theorem sc_check_moves : FnScope ["kinds", "moves", "seen", "k", "move"] ["kinds", "moves"] (defScope s_check_moves) := ⟨rfl, rfl, rfl, by decide +kernel, rfl, by decide +kernel, by decide +kernel⟩
theorem sc_is_rule : FnScope ["arities", "kinds", "thing", "op", "sources", "kind", "cost", "source"] ["arities", "kinds", "thing"] (defScope s_is_rule) := ⟨rfl, rfl, rfl, by decide +kernel, rfl, by decide +kernel, by decide +kernel⟩
theorem sc_is_move : FnScope ["kinds", "thing", "source", "kind", "cost"] ["kinds", "thing"] (defScope s_is_move) := ⟨rfl, rfl, rfl, by decide +kernel, rfl, by decide +kernel, by decide +kernel⟩
theorem sc_is_price : FnScope ["thing"] ["thing"] (defScope s_is_price) := ⟨rfl, rfl, rfl, by decide +kernel, rfl, by decide +kernel, by decide +kernel⟩
theorem sc_Web_init : FnScope ["self", "values", "index", "value"] ["self", "values"] (defScope s_Web_init) := ⟨rfl, rfl, rfl, by decide +kernel, rfl, by decide +kernel, by decide +kernel⟩
theorem sc_Web_eq : FnScope ["self", "other"] ["self", "other"] (defScope s_Web_eq) := ⟨rfl, rfl, rfl, by decide +kernel, rfl, by decide +kernel, by decide +kernel⟩
theorem sc_is_value : FnScope ["index", "thing", "op", "parts", "part"] ["index", "thing"] (defScope s_is_value) := ⟨rfl, rfl, rfl, by decide +kernel, rfl, by decide +kernel, by decide +kernel⟩
theorem sc_book_text : FnScope ["book", "lines", "op", "sources", "kind", "cost", "source"] ["book"] (defScope s_book_text) := ⟨rfl, rfl, rfl, by decide +kernel, rfl, by decide +kernel, by decide +kernel⟩
theorem sc_web_text : FnScope ["web", "op", "parts"] ["web"] (defScope s_web_text) := ⟨rfl, rfl, rfl, by decide +kernel, rfl, by decide +kernel, by decide +kernel⟩
theorem sc_line_of : FnScope ["words", "word"] ["words"] (defScope s_line_of) := ⟨rfl, rfl, rfl, by decide +kernel, rfl, by decide +kernel, by decide +kernel⟩
theorem sc_read_book : FnScope ["text", "arities", "kinds", "rules", "moves"] ["text"] (defScope s_read_book) := ⟨rfl, rfl, rfl, by decide +kernel, rfl, by decide +kernel, by decide +kernel⟩
theorem sc_book_parts : FnScope ["lines", "arities", "counted", "first_move", "rules", "moves", "at"] ["lines"] (defScope s_book_parts) := ⟨rfl, rfl, rfl, by decide +kernel, rfl, by decide +kernel, by decide +kernel⟩
theorem sc_first_move : FnScope ["lines", "at"] ["lines"] (defScope s_first_move) := ⟨rfl, rfl, rfl, by decide +kernel, rfl, by decide +kernel, by decide +kernel⟩
theorem sc_rule : FnScope ["line", "number", "told", "op", "kind", "cost"] ["line", "number"] (defScope s_rule) := ⟨rfl, rfl, rfl, by decide +kernel, rfl, by decide +kernel, by decide +kernel⟩
theorem sc_move : FnScope ["line", "number", "told"] ["line", "number"] (defScope s_move) := ⟨rfl, rfl, rfl, by decide +kernel, rfl, by decide +kernel, by decide +kernel⟩
theorem sc_read_web : FnScope ["text", "lines", "values", "at", "line", "told"] ["text"] (defScope s_read_web) := ⟨rfl, rfl, rfl, by decide +kernel, rfl, by decide +kernel, by decide +kernel⟩
theorem sc_numbers_behind : FnScope ["word", "line", "words"] ["word", "line"] (defScope s_numbers_behind) := ⟨rfl, rfl, rfl, by decide +kernel, rfl, by decide +kernel, by decide +kernel⟩
theorem sc_numbers_of : FnScope ["words", "word"] ["words"] (defScope s_numbers_of) := ⟨rfl, rfl, rfl, by decide +kernel, rfl, by decide +kernel, by decide +kernel⟩
theorem sc_is_number : FnScope ["word"] ["word"] (defScope s_is_number) := ⟨rfl, rfl, rfl, by decide +kernel, rfl, by decide +kernel, by decide +kernel⟩
theorem sc_law_bag : FnScope ["_law_script", "_law_seed", "_law_cell", "_law_great", "_law_always"] ["_law_script"] (defScope s_law_bag) := ⟨rfl, rfl, rfl, by decide +kernel, rfl, by decide +kernel, by decide +kernel⟩
theorem sc_law_pick : FnScope ["_law_bag_here", "_law_many", "_law_great", "_law_digit", "_law_number"] ["_law_bag_here", "_law_many"] (defScope s_law_pick) := ⟨rfl, rfl, rfl, by decide +kernel, rfl, by decide +kernel, by decide +kernel⟩
theorem sc_law_price : FnScope ["_law_bag_here"] ["_law_bag_here"] (defScope s_law_price) := ⟨rfl, rfl, rfl, by decide +kernel, rfl, by decide +kernel, by decide +kernel⟩
theorem sc_law_arities : FnScope ["_law_bag_here", "_law_many", "_law_menu", "_law_found", "_law_k"] ["_law_bag_here"] (defScope s_law_arities) := ⟨rfl, rfl, rfl, by decide +kernel, rfl, by decide +kernel, by decide +kernel⟩
theorem sc_law_rules : FnScope ["_law_bag_here", "_law_arities_here", "_law_kinds", "_law_wanted", "_law_known", "_law_found", "_law_k", "_law_op", "_law_sources", "_law_kind", "_law_j"] ["_law_bag_here", "_law_arities_here", "_law_kinds", "_law_wanted"] (defScope s_law_rules) := ⟨rfl, rfl, rfl, by decide +kernel, rfl, by decide +kernel, by decide +kernel⟩
theorem sc_law_moves : FnScope ["_law_bag_here", "_law_kinds", "_law_wanted", "_law_known", "_law_found", "_law_k", "_law_source", "_law_kind"] ["_law_bag_here", "_law_kinds", "_law_wanted"] (defScope s_law_moves) := ⟨rfl, rfl, rfl, by decide +kernel, rfl, by decide +kernel, by decide +kernel⟩
theorem sc_law_book : FnScope ["_law_bag_here", "_law_arities_here", "_law_kinds", "_law_wanted", "_law_rules_here"] ["_law_bag_here"] (defScope s_law_book) := ⟨rfl, rfl, rfl, by decide +kernel, rfl, by decide +kernel, by decide +kernel⟩
theorem sc_law_same : FnScope ["_law_told", "_law_due", "_law_k"] ["_law_told", "_law_due"] (defScope s_law_same) := ⟨rfl, rfl, rfl, by decide +kernel, rfl, by decide +kernel, by decide +kernel⟩
theorem sc_law_great_book : FnScope ["_law_bag_here", "_law_many", "_law_how", "_law_arities_here", "_law_rules_here", "_law_moves_here", "_law_k"] ["_law_bag_here"] (defScope s_law_great_book) := ⟨rfl, rfl, rfl, by decide +kernel, rfl, by decide +kernel, by decide +kernel⟩
theorem sc_law_free_values : FnScope ["_law_bag_here", "_law_found", "_law_k", "_law_parts", "_law_how", "_law_step", "_law_j"] ["_law_bag_here"] (defScope s_law_free_values) := ⟨rfl, rfl, rfl, by decide +kernel, rfl, by decide +kernel, by decide +kernel⟩
theorem sc_law_book_lines : FnScope ["_law_parts", "_law_arities_here", "_law_kinds", "_law_rules_here", "_law_moves_here", "_law_lines", "_law_rule", "_law_move", "_law_many", "_law_source", "_law_line"] ["_law_parts"] (defScope s_law_book_lines) := ⟨rfl, rfl, rfl, by decide +kernel, rfl, by decide +kernel, by decide +kernel⟩
theorem sc_law_web_lines : FnScope ["_law_values", "_law_value", "_law_part"] ["_law_values"] (defScope s_law_web_lines) := ⟨rfl, rfl, rfl, by decide +kernel, rfl, by decide +kernel, by decide +kernel⟩
theorem sc_law_sound_book : FnScope ["_law_bag_here", "_law_arities_here", "_law_kinds", "_law_rules_here", "_law_moves_here"] ["_law_bag_here"] (defScope s_law_sound_book) := ⟨rfl, rfl, rfl, by decide +kernel, rfl, by decide +kernel, by decide +kernel⟩
theorem sc_law : FnScope ["_law_script", "_law_bag_here", "_law_turn", "_law_parts", "_law_book_here", "_law_text", "_law_back", "_law_values", "_law_web"] ["_law_script"] (defScope s_law) := ⟨rfl, rfl, rfl, by decide +kernel, rfl, by decide +kernel, by decide +kernel⟩
structure Adr where
  f_is_integer : Addr
  d_is_integer : FuncData
  f_is_between : Addr
  d_is_between : FuncData
  f_is_tuple_of : Addr
  d_is_tuple_of : FuncData
  f_Book_init : Addr
  d_Book_init : FuncData
  f_Book_eq : Addr
  d_Book_eq : FuncData
  f_check_frame : Addr
  d_check_frame : FuncData
  f_check_rules : Addr
  d_check_rules : FuncData
  f_check_moves : Addr
  d_check_moves : FuncData
  f_is_rule : Addr
  d_is_rule : FuncData
  f_is_move : Addr
  d_is_move : FuncData
  f_is_price : Addr
  d_is_price : FuncData
  f_Web_init : Addr
  d_Web_init : FuncData
  f_Web_eq : Addr
  d_Web_eq : FuncData
  f_is_value : Addr
  d_is_value : FuncData
  f_book_text : Addr
  d_book_text : FuncData
  f_web_text : Addr
  d_web_text : FuncData
  f_line_of : Addr
  d_line_of : FuncData
  f_read_book : Addr
  d_read_book : FuncData
  f_book_parts : Addr
  d_book_parts : FuncData
  f_first_move : Addr
  d_first_move : FuncData
  f_rule : Addr
  d_rule : FuncData
  f_move : Addr
  d_move : FuncData
  f_read_web : Addr
  d_read_web : FuncData
  f_numbers_behind : Addr
  d_numbers_behind : FuncData
  f_numbers_of : Addr
  d_numbers_of : FuncData
  f_is_number : Addr
  d_is_number : FuncData
  f_law_bag : Addr
  d_law_bag : FuncData
  f_law_pick : Addr
  d_law_pick : FuncData
  f_law_price : Addr
  d_law_price : FuncData
  f_law_arities : Addr
  d_law_arities : FuncData
  f_law_rules : Addr
  d_law_rules : FuncData
  f_law_moves : Addr
  d_law_moves : FuncData
  f_law_book : Addr
  d_law_book : FuncData
  f_law_same : Addr
  d_law_same : FuncData
  f_law_great_book : Addr
  d_law_great_book : FuncData
  f_law_free_values : Addr
  d_law_free_values : FuncData
  f_law_book_lines : Addr
  d_law_book_lines : FuncData
  f_law_web_lines : Addr
  d_law_web_lines : FuncData
  f_law_sound_book : Addr
  d_law_sound_book : FuncData
  f_law : Addr
  d_law : FuncData
  c_Book : Addr
  c_Web : Addr
structure Txt (K : PySem.W.Frag) (mg : Str → Option Value) (a : Adr) (w : World) : Prop where
  F_is_integer : Fun K "is_integer" "is_integer" s_is_integer a.f_is_integer a.d_is_integer
  b_is_integer : Binds K a.d_is_integer ["thing"] []
  k_is_integer : PySem.W.keepIn K (.ref a.f_is_integer) = true
  g_is_integer : mg "is_integer" = some (.ref a.f_is_integer)
  F_is_between : Fun K "is_between" "is_between" s_is_between a.f_is_between a.d_is_between
  b_is_between : Binds K a.d_is_between ["low", "high", "thing"] []
  k_is_between : PySem.W.keepIn K (.ref a.f_is_between) = true
  g_is_between : mg "is_between" = some (.ref a.f_is_between)
  F_is_tuple_of : Fun K "is_tuple_of" "is_tuple_of" s_is_tuple_of a.f_is_tuple_of a.d_is_tuple_of
  b_is_tuple_of : Binds K a.d_is_tuple_of ["low", "high", "thing"] []
  k_is_tuple_of : PySem.W.keepIn K (.ref a.f_is_tuple_of) = true
  g_is_tuple_of : mg "is_tuple_of" = some (.ref a.f_is_tuple_of)
  F_Book_init : Fun K "__init__" "Book.__init__" s_Book_init a.f_Book_init a.d_Book_init
  b_Book_init : Binds K a.d_Book_init ["self", "arities", "kinds", "rules", "moves"] []
  k_Book_init : PySem.W.keepIn K (.ref a.f_Book_init) = true
  F_Book_eq : Fun K "__eq__" "Book.__eq__" s_Book_eq a.f_Book_eq a.d_Book_eq
  b_Book_eq : Binds K a.d_Book_eq ["self", "other"] []
  k_Book_eq : PySem.W.keepIn K (.ref a.f_Book_eq) = true
  F_check_frame : Fun K "_check_frame" "_check_frame" s_check_frame a.f_check_frame a.d_check_frame
  b_check_frame : Binds K a.d_check_frame ["arities", "kinds", "rules", "moves"] []
  k_check_frame : PySem.W.keepIn K (.ref a.f_check_frame) = true
  g_check_frame : mg "_check_frame" = some (.ref a.f_check_frame)
  F_check_rules : Fun K "_check_rules" "_check_rules" s_check_rules a.f_check_rules a.d_check_rules
  b_check_rules : Binds K a.d_check_rules ["arities", "kinds", "rules"] []
  k_check_rules : PySem.W.keepIn K (.ref a.f_check_rules) = true
  g_check_rules : mg "_check_rules" = some (.ref a.f_check_rules)
  F_check_moves : Fun K "_check_moves" "_check_moves" s_check_moves a.f_check_moves a.d_check_moves
  b_check_moves : Binds K a.d_check_moves ["kinds", "moves"] []
  k_check_moves : PySem.W.keepIn K (.ref a.f_check_moves) = true
  g_check_moves : mg "_check_moves" = some (.ref a.f_check_moves)
  F_is_rule : Fun K "_is_rule" "_is_rule" s_is_rule a.f_is_rule a.d_is_rule
  b_is_rule : Binds K a.d_is_rule ["arities", "kinds", "thing"] []
  k_is_rule : PySem.W.keepIn K (.ref a.f_is_rule) = true
  g_is_rule : mg "_is_rule" = some (.ref a.f_is_rule)
  F_is_move : Fun K "_is_move" "_is_move" s_is_move a.f_is_move a.d_is_move
  b_is_move : Binds K a.d_is_move ["kinds", "thing"] []
  k_is_move : PySem.W.keepIn K (.ref a.f_is_move) = true
  g_is_move : mg "_is_move" = some (.ref a.f_is_move)
  F_is_price : Fun K "is_price" "is_price" s_is_price a.f_is_price a.d_is_price
  b_is_price : Binds K a.d_is_price ["thing"] []
  k_is_price : PySem.W.keepIn K (.ref a.f_is_price) = true
  g_is_price : mg "is_price" = some (.ref a.f_is_price)
  F_Web_init : Fun K "__init__" "Web.__init__" s_Web_init a.f_Web_init a.d_Web_init
  b_Web_init : Binds K a.d_Web_init ["self", "values"] []
  k_Web_init : PySem.W.keepIn K (.ref a.f_Web_init) = true
  F_Web_eq : Fun K "__eq__" "Web.__eq__" s_Web_eq a.f_Web_eq a.d_Web_eq
  b_Web_eq : Binds K a.d_Web_eq ["self", "other"] []
  k_Web_eq : PySem.W.keepIn K (.ref a.f_Web_eq) = true
  F_is_value : Fun K "_is_value" "_is_value" s_is_value a.f_is_value a.d_is_value
  b_is_value : Binds K a.d_is_value ["index", "thing"] []
  k_is_value : PySem.W.keepIn K (.ref a.f_is_value) = true
  g_is_value : mg "_is_value" = some (.ref a.f_is_value)
  F_book_text : Fun K "book_text" "book_text" s_book_text a.f_book_text a.d_book_text
  b_book_text : Binds K a.d_book_text ["book"] []
  k_book_text : PySem.W.keepIn K (.ref a.f_book_text) = true
  g_book_text : mg "book_text" = some (.ref a.f_book_text)
  F_web_text : Fun K "web_text" "web_text" s_web_text a.f_web_text a.d_web_text
  b_web_text : Binds K a.d_web_text ["web"] []
  k_web_text : PySem.W.keepIn K (.ref a.f_web_text) = true
  g_web_text : mg "web_text" = some (.ref a.f_web_text)
  F_line_of : Fun K "line_of" "line_of" s_line_of a.f_line_of a.d_line_of
  b_line_of : Binds K a.d_line_of ["words"] []
  k_line_of : PySem.W.keepIn K (.ref a.f_line_of) = true
  g_line_of : mg "line_of" = some (.ref a.f_line_of)
  F_read_book : Fun K "read_book" "read_book" s_read_book a.f_read_book a.d_read_book
  b_read_book : Binds K a.d_read_book ["text"] []
  k_read_book : PySem.W.keepIn K (.ref a.f_read_book) = true
  g_read_book : mg "read_book" = some (.ref a.f_read_book)
  F_book_parts : Fun K "book_parts" "book_parts" s_book_parts a.f_book_parts a.d_book_parts
  b_book_parts : Binds K a.d_book_parts ["lines"] []
  k_book_parts : PySem.W.keepIn K (.ref a.f_book_parts) = true
  g_book_parts : mg "book_parts" = some (.ref a.f_book_parts)
  F_first_move : Fun K "_first_move" "_first_move" s_first_move a.f_first_move a.d_first_move
  b_first_move : Binds K a.d_first_move ["lines"] []
  k_first_move : PySem.W.keepIn K (.ref a.f_first_move) = true
  g_first_move : mg "_first_move" = some (.ref a.f_first_move)
  F_rule : Fun K "_rule" "_rule" s_rule a.f_rule a.d_rule
  b_rule : Binds K a.d_rule ["line", "number"] []
  k_rule : PySem.W.keepIn K (.ref a.f_rule) = true
  g_rule : mg "_rule" = some (.ref a.f_rule)
  F_move : Fun K "_move" "_move" s_move a.f_move a.d_move
  b_move : Binds K a.d_move ["line", "number"] []
  k_move : PySem.W.keepIn K (.ref a.f_move) = true
  g_move : mg "_move" = some (.ref a.f_move)
  F_read_web : Fun K "read_web" "read_web" s_read_web a.f_read_web a.d_read_web
  b_read_web : Binds K a.d_read_web ["text"] []
  k_read_web : PySem.W.keepIn K (.ref a.f_read_web) = true
  g_read_web : mg "read_web" = some (.ref a.f_read_web)
  F_numbers_behind : Fun K "numbers_behind" "numbers_behind" s_numbers_behind a.f_numbers_behind a.d_numbers_behind
  b_numbers_behind : Binds K a.d_numbers_behind ["word", "line"] []
  k_numbers_behind : PySem.W.keepIn K (.ref a.f_numbers_behind) = true
  g_numbers_behind : mg "numbers_behind" = some (.ref a.f_numbers_behind)
  F_numbers_of : Fun K "numbers_of" "numbers_of" s_numbers_of a.f_numbers_of a.d_numbers_of
  b_numbers_of : Binds K a.d_numbers_of ["words"] []
  k_numbers_of : PySem.W.keepIn K (.ref a.f_numbers_of) = true
  g_numbers_of : mg "numbers_of" = some (.ref a.f_numbers_of)
  F_is_number : Fun K "_is_number" "_is_number" s_is_number a.f_is_number a.d_is_number
  b_is_number : Binds K a.d_is_number ["word"] []
  k_is_number : PySem.W.keepIn K (.ref a.f_is_number) = true
  g_is_number : mg "_is_number" = some (.ref a.f_is_number)
  F_law_bag : Fun K "_law_bag" "_law_bag" s_law_bag a.f_law_bag a.d_law_bag
  b_law_bag : Binds K a.d_law_bag ["_law_script"] []
  k_law_bag : PySem.W.keepIn K (.ref a.f_law_bag) = true
  g_law_bag : mg "_law_bag" = some (.ref a.f_law_bag)
  F_law_pick : Fun K "_law_pick" "_law_pick" s_law_pick a.f_law_pick a.d_law_pick
  b_law_pick : Binds K a.d_law_pick ["_law_bag_here", "_law_many"] []
  k_law_pick : PySem.W.keepIn K (.ref a.f_law_pick) = true
  g_law_pick : mg "_law_pick" = some (.ref a.f_law_pick)
  F_law_price : Fun K "_law_price" "_law_price" s_law_price a.f_law_price a.d_law_price
  b_law_price : Binds K a.d_law_price ["_law_bag_here"] []
  k_law_price : PySem.W.keepIn K (.ref a.f_law_price) = true
  g_law_price : mg "_law_price" = some (.ref a.f_law_price)
  F_law_arities : Fun K "_law_arities" "_law_arities" s_law_arities a.f_law_arities a.d_law_arities
  b_law_arities : Binds K a.d_law_arities ["_law_bag_here"] []
  k_law_arities : PySem.W.keepIn K (.ref a.f_law_arities) = true
  g_law_arities : mg "_law_arities" = some (.ref a.f_law_arities)
  F_law_rules : Fun K "_law_rules" "_law_rules" s_law_rules a.f_law_rules a.d_law_rules
  b_law_rules : Binds K a.d_law_rules ["_law_bag_here", "_law_arities_here", "_law_kinds", "_law_wanted"] []
  k_law_rules : PySem.W.keepIn K (.ref a.f_law_rules) = true
  g_law_rules : mg "_law_rules" = some (.ref a.f_law_rules)
  F_law_moves : Fun K "_law_moves" "_law_moves" s_law_moves a.f_law_moves a.d_law_moves
  b_law_moves : Binds K a.d_law_moves ["_law_bag_here", "_law_kinds", "_law_wanted"] []
  k_law_moves : PySem.W.keepIn K (.ref a.f_law_moves) = true
  g_law_moves : mg "_law_moves" = some (.ref a.f_law_moves)
  F_law_book : Fun K "_law_book" "_law_book" s_law_book a.f_law_book a.d_law_book
  b_law_book : Binds K a.d_law_book ["_law_bag_here"] []
  k_law_book : PySem.W.keepIn K (.ref a.f_law_book) = true
  g_law_book : mg "_law_book" = some (.ref a.f_law_book)
  F_law_same : Fun K "_law_same" "_law_same" s_law_same a.f_law_same a.d_law_same
  b_law_same : Binds K a.d_law_same ["_law_told", "_law_due"] []
  k_law_same : PySem.W.keepIn K (.ref a.f_law_same) = true
  g_law_same : mg "_law_same" = some (.ref a.f_law_same)
  F_law_great_book : Fun K "_law_great_book" "_law_great_book" s_law_great_book a.f_law_great_book a.d_law_great_book
  b_law_great_book : Binds K a.d_law_great_book ["_law_bag_here"] []
  k_law_great_book : PySem.W.keepIn K (.ref a.f_law_great_book) = true
  g_law_great_book : mg "_law_great_book" = some (.ref a.f_law_great_book)
  F_law_free_values : Fun K "_law_free_values" "_law_free_values" s_law_free_values a.f_law_free_values a.d_law_free_values
  b_law_free_values : Binds K a.d_law_free_values ["_law_bag_here"] []
  k_law_free_values : PySem.W.keepIn K (.ref a.f_law_free_values) = true
  g_law_free_values : mg "_law_free_values" = some (.ref a.f_law_free_values)
  F_law_book_lines : Fun K "_law_book_lines" "_law_book_lines" s_law_book_lines a.f_law_book_lines a.d_law_book_lines
  b_law_book_lines : Binds K a.d_law_book_lines ["_law_parts"] []
  k_law_book_lines : PySem.W.keepIn K (.ref a.f_law_book_lines) = true
  g_law_book_lines : mg "_law_book_lines" = some (.ref a.f_law_book_lines)
  F_law_web_lines : Fun K "_law_web_lines" "_law_web_lines" s_law_web_lines a.f_law_web_lines a.d_law_web_lines
  b_law_web_lines : Binds K a.d_law_web_lines ["_law_values"] []
  k_law_web_lines : PySem.W.keepIn K (.ref a.f_law_web_lines) = true
  g_law_web_lines : mg "_law_web_lines" = some (.ref a.f_law_web_lines)
  F_law_sound_book : Fun K "_law_sound_book" "_law_sound_book" s_law_sound_book a.f_law_sound_book a.d_law_sound_book
  b_law_sound_book : Binds K a.d_law_sound_book ["_law_bag_here"] []
  k_law_sound_book : PySem.W.keepIn K (.ref a.f_law_sound_book) = true
  g_law_sound_book : mg "_law_sound_book" = some (.ref a.f_law_sound_book)
  F_law : Fun K "law" "law" s_law a.f_law a.d_law
  b_law : Binds K a.d_law ["_law_script"] []
  k_law : PySem.W.keepIn K (.ref a.f_law) = true
  g_law : mg "law" = some (.ref a.f_law)
  g_Book : mg "Book" = some (.ref a.c_Book)
  g_Web : mg "Web" = some (.ref a.c_Web)
  z_abs : mg "abs" = none
  z_all : mg "all" = none
  z_bool : mg "bool" = none
  z_enumerate : mg "enumerate" = none
  z_int : mg "int" = none
  z_isinstance : mg "isinstance" = none
  z_len : mg "len" = none
  z_list : mg "list" = none
  z_max : mg "max" = none
  z_range : mg "range" = none
  z_str : mg "str" = none
  z_sum : mg "sum" = none
  z_tuple : mg "tuple" = none
  C_Book : Cls K a.c_Book
  M_Book : Mk K a.c_Book a.f_Book_init
  I_Book : C8.InsC K a.c_Book
  N_arities : NoAttr K a.c_Book "arities"
  N_kinds : NoAttr K a.c_Book "kinds"
  N_rules : NoAttr K a.c_Book "rules"
  N_moves : NoAttr K a.c_Book "moves"
  C_Web : Cls K a.c_Web
  M_Web : Mk K a.c_Web a.f_Web_init
  I_Web : C8.InsC K a.c_Web
  N_rows : NoAttr K a.c_Web "rows"
  e_Book : PySem.W.findIn K (.ref a.c_Book) "__eq__" = some (some (.ref a.f_Book_eq))
  fe_Book : PySem.W.isFn K (.ref a.f_Book_eq) = true
  e_Web : PySem.W.findIn K (.ref a.c_Web) "__eq__" = some (some (.ref a.f_Web_eq))
  fe_Web : PySem.W.isFn K (.ref a.f_Web_eq) = true
theorem Txt.OC {K : PySem.W.Frag} {mg : Str → Option Value} {a : Adr} {w : World} (T : Txt K mg a w) : ∀ C, (C = a.c_Book ∨ C = a.c_Web) → Dl.OwnCls K C := by
  rintro C (rfl | rfl)
  · exact ⟨fun H p dx fs e => .base (.ins e T.I_Book.cl T.I_Book.ha T.I_Book.hn T.I_Book.htk T.I_Book.hm), T.I_Book.me⟩
  · exact ⟨fun H p dx fs e => .base (.ins e T.I_Web.cl T.I_Web.ha T.I_Web.hn T.I_Web.htk T.I_Web.hm), T.I_Web.me⟩
end Lk
namespace Lk
open PySem L2
section
variable {P : Program} {w : World} {K : PySem.W.Frag} {mg : Str → Option Value} {base : Heap} {a : Adr}
def spBag (K : PySem.W.Frag) : Sp := fun vs H Q _ => ∃ (p : Addr) (ns : List Int), vs = [.ref p] ∧ SqL K H p (ns.map V.int) ∧ ns.length ≤ 63 ∧ ∀ b g H', Same H H' → H b = none → H g = none → BagAt H' b g → Q (.ref b) H'
theorem ok_law_bag (T : Txt K mg a w) : FnOk P w K mg base CX0 1 a.f_law_bag a.d_law_bag ["_law_script"] (spBag K) := by
  refine T.F_law_bag.ok sc_law_bag (fun vs H Q E h => ?_) (fun cdv A outer s H vs Q E hr h => ?_)
  · obtain ⟨b, ns, rfl, _⟩ := h
    rfl
  obtain ⟨p, ns, rfl, hS, hn, k⟩ := h
  refine ⟨_, (pss_cons (ps_set (i := 1) sc_law_bag.nd rfl (Or.inl rfl) (pe_op op_add pe_int (pe_callB call_len_seq (by rfl) T.z_len PySem.boot_len (pa_cons (pv 0) pa_nil))))
  (pss_cons (ps_for PassesOwn.never rfl (pi_list (pe_slice sl_list (pv 0) po_none (po_some pe_int))) (pg_name (i := 2) sc_law_bag.nd rfl (Or.inl rfl))
    (pss_one (ps_set (i := 1) sc_law_bag.nd rfl (Or.inl rfl) (pe_op op_mod (pe_callTy call_int1 (by rfl) T.z_int (by decide +kernel) (pa_cons (pe_op op_add (pe_op op_add (pe_op op_mul (pv 1) pe_int) (pe_op op_mod (pe_callTy call_int1 (by rfl) T.z_int (by decide +kernel) (pa_cons (pv 2) pa_nil)) pe_int)) pe_int) pa_nil)) pe_int))))
  (pss_cons (ps_setLc (i := 3) (own := [("_law_cell", 2)]) (g := gName 2) (tt := _) rfl sc_law_bag.nd rfl rfl (sw_true rfl rfl rfl (by decide +kernel)) (pi_list (pe_slice sl_list (pv 0) po_none (po_some pe_int))) (blkOk_by (N := ["_law_script", "_law_seed", "_law_cell", "_law_great", "_law_always"]) (sc := defScope s_law_bag) (by decide +kernel)) (fun _ _ _ _ _ => pg_name (i := 2) sc_law_bag.nd rfl (Or.inl rfl)) (fun _ _ _ _ _ => (pts_one (pt_cmpR op_ge (pe_callB call_abs (by rfl) T.z_abs (by decide +kernel) (pa_cons (pe_callTy call_int1 (by rfl) T.z_int (by decide +kernel) (pa_cons (pv 2) pa_nil)) pa_nil)) (pe_op op_pow pe_int pe_int) (nomark _)))) (fun _ _ _ _ _ => (pe_callB call_abs (by rfl) T.z_abs (by decide +kernel) (pa_cons (pe_callTy call_int1 (by rfl) T.z_int (by decide +kernel) (pa_cons (pv 2) pa_nil)) pa_nil))))
  (pss_cons (ps_set (i := 4) sc_law_bag.nd rfl (Or.inl rfl) pe_non)
  (pss_cons (ps_if (PW.pt (pw_and (pt_cmpR op_lt (pe_callB call_len_seq (by rfl) T.z_len PySem.boot_len (pa_cons (pv 0) pa_nil)) pe_int (nomark _)) (pw_and1 (pt_cmpR op_eq (pe_callB call_len_seq (by rfl) T.z_len PySem.boot_len (pa_cons (pv 3) pa_nil)) pe_int (nomark _)))))
    (pss_one (ps_set (i := 4) sc_law_bag.nd rfl (Or.inl rfl) (pe_callB call_abs (by rfl) T.z_abs (by decide +kernel) (pa_cons (pe_callB (cr_sum rfl) (by rfl) T.z_sum (by decide +kernel) (pa_cons (pe_lc (own := [("_law_cell", 2)]) (g := gName 2) (tt := tYes) rfl sc_law_bag.nd (pi_list (pv 0)) (blkOk_by (N := ["_law_script", "_law_seed", "_law_cell", "_law_great", "_law_always"]) (sc := defScope s_law_bag) (by decide +kernel)) (fun _ _ _ _ _ => pg_name (i := 2) sc_law_bag.nd rfl (Or.inl rfl)) (fun _ _ _ _ _ => pts_nil) (fun _ _ _ _ _ => (pe_callTy call_int1 (by rfl) T.z_int (by decide +kernel) (pa_cons (pv 2) pa_nil)))) pa_nil)) pa_nil))))
    pss_nil)
  (pss_one (ps_ret (pe_lst (pa_cons (pv 1) (pa_cons pe_int (pa_cons (pv 3) (pa_cons (pv 4) pa_nil)))))))))))), ?_⟩
  refine ⟨_, rfl, p, _, rfl, .inl hS, _, _, rfl, rfl, ?_⟩
  obtain ⟨ms, hms, lms⟩ := cut_ints ns none (some 63)
  refine ⟨_, rfl, _, rfl, p, _, rfl, hS, fun s1 hs1 => ?_⟩
  rw [hms]
  have S1 : Same H (upd H s1 (.lst (ms.map V.int))) := same_new hs1
  -- for cell in script[:63]
  refine ⟨s1, rfl, ⟨_, SqL.of upd_same⟩, for_list (K := K) (a := s1) (xs := ms.map V.int) (fun i σ H' => ∃ (sd : Int) (v2 : Option V), σ = [some (.ref p), some (.int sd), v2, none, none] ∧ Same (upd H s1 (.lst (ms.map V.int))) H') ⟨_, none, rfl, Same.refl _⟩ (fun i σ H' _ z => ?_) ?_ ?_⟩
  · obtain ⟨_, _, _, z⟩ := z
    exact SqL.of (z _ _ upd_same)
  · rintro i x σ H1 hx ⟨sd, v2, rfl, z⟩
    rw [List.getElem?_map] at hx
    obtain ⟨x, hx2, rfl⟩ := Option.map_eq_some_iff.mp hx
    refine ⟨_, rfl, _, _, rfl, rfl, .inr ⟨by decide, by decide⟩, _, rfl, .inl ⟨_, rfl, _, _, rfl, rfl, (by show (0 : Int) < 1000003; decide), _, _, rfl, rfl, _, _, rfl, rfl, .inl ⟨_, rfl, _, _, rfl, rfl, (by show (0 : Int) < 2147483647; decide), ?_⟩⟩⟩
    exact ⟨_, _, rfl, z⟩
  rintro σ H1 ⟨sd, v2, rfl, z1⟩
  have S2 : Same H H1 := S1.trans z1
  -- great = [..]
  refine ⟨_, rfl, _, rfl, p, _, rfl, S2.seq hS, fun s2 hs2 => ?_⟩
  rw [hms]
  refine ⟨s2, rfl, ⟨_, SqL.of upd_same⟩, fun g hg => ?_⟩
  have S3 : Same H (upd H1 s2 (.lst (ms.map V.int))) := S2.trans (same_new hs2)
  have hgH : H g = none := S3.free hg
  refine lc_list (K := K) (a := s2) (xs := ms.map V.int) (fun i H' => Same (upd H1 s2 (.lst (ms.map V.int))) H' ∧ ∃ gs : List Int, H' g = some (.lst (gs.map V.int)) ∧ gs.length ≤ i) ⟨same_new hg, [], upd_same, Nat.le_refl _⟩ (fun i H' _ z => SqL.of (z.1 _ _ upd_same)) ?_ ?_
  · intro i x H2 hx z
    obtain ⟨z, gs, eg, lg⟩ := z
    rw [List.getElem?_map] at hx
    obtain ⟨x, hx2, rfl⟩ := Option.map_eq_some_iff.mp hx
    have hi : i < ms.length := (List.getElem?_eq_some_iff.mp hx2).1
    refine ⟨rfl, ?_⟩
    refine ⟨_, rfl, .inl ⟨_, rfl, _, rfl, _, _, rfl, rfl, ⟨by decide, by decide, by decide⟩, _, _, rfl, rfl, _, rfl, ?_⟩⟩
    refine ite2 (fun _ => ?_) (fun _ => ⟨z, gs, eg, by omega⟩)
    refine ⟨_, rfl, .inl ⟨_, rfl, _, rfl, _, eg, lt_line (by rw [List.length_map]; omega), fun b o e => ?_, gs ++ [if x < 0 then -x else x], ?_, ?_⟩⟩
    · rw [upd_ne (ne_of_none e hg)]
      exact z b o e
    · rw [upd_same, List.map_append]
      rfl
    · rw [List.length_append, List.length_singleton]
      omega
  intro H2 z
  obtain ⟨z2, gs, eg, lg⟩ := z
  have S4 : Same H H2 := S3.trans z2
  have fin : ∀ (H3 : Hp) (al : V), Same H2 H3 → (al = .non ∨ ∃ n : Int, al = .int n ∧ 0 ≤ n) → tRet (tLst (tCons (tVar 1) (tCons (tC (.int 1)) (tCons (tVar 3) (tCons (tVar 4) tNil))))) { nx := fun _ H' => Q .non H', rt := Q } [some (.ref p), some (.int sd), v2, some (.ref g), some al] H3 := by
    intro H3 al z3 hal
    refine ⟨_, rfl, _, rfl, _, rfl, by show 4 ≤ sizeLine; decide, fun b hb => ?_⟩
    have S5 : Same H H3 := S4.trans z3
    have ngb : g ≠ b := ne_of_none (z3 _ _ eg) hb
    exact k b g _ (S5.trans (same_new hb)) (S5.free hb) hgH ⟨sd, 1, al, gs, upd_same, by rw [upd_ne ngb]; exact z3 _ _ eg, ngb.symm, hal⟩
  -- always = None
  refine ⟨_, rfl, p, _, rfl, .inl (S4.seq hS), _, _, rfl, rfl, _, rfl, ?_⟩
  refine ite2 (fun _ => ?_) (fun _ => fin H2 .non (Same.refl _) (.inl rfl))
  refine ⟨_, rfl, g, _, rfl, .inl (SqL.of eg), rfl, _, rfl, ?_⟩
  refine ite2 (fun _ => ?_) (fun _ => fin H2 .non (Same.refl _) (.inl rfl))
  refine ⟨_, rfl, p, rfl, ⟨_, S4.seq hS⟩, fun D hD => ?_⟩
  refine lc_list (K := K) (a := p) (xs := ns.map V.int) (fun i H' => Same H2 H' ∧ H' D = some (.lst ((ns.take i).map V.int))) ⟨same_new hD, upd_same⟩ (fun i H' _ z => (S4.trans z.1).seq hS) ?_ ?_
  · intro i x H3 hx z
    obtain ⟨z, e⟩ := z
    rw [List.getElem?_map] at hx
    obtain ⟨x, hx2, rfl⟩ := Option.map_eq_some_iff.mp hx
    refine ⟨rfl, ?_⟩
    refine ⟨_, rfl, .inl ⟨_, rfl, _, e, lt_line (by rw [List.length_map, List.length_take]; omega), fun b o h => ?_, ?_⟩⟩
    · rw [upd_ne (ne_of_none h hD)]
      exact z b o h
    · rw [upd_same, List.take_add_one, hx2, List.map_append]
      rfl
  · intro H3 z
    obtain ⟨z, e⟩ := z
    rw [List.length_map, List.take_length] at e
    refine ⟨D, ns, rfl, SqL.of e, _, rfl, ?_⟩
    refine fin H3 _ z (.inr ⟨_, rfl, ?_⟩)
    split <;> omega
end
section
variable {P : Program} {w : World} {K : PySem.W.Frag} {mg : Str → Option Value} {base : Heap} {a : Adr}
def spPick : Sp := fun vs H Q _ => ∃ (b g : Addr) (m : Nat), vs = [.ref b, nv m] ∧ 0 < m ∧ m < 1073741824 ∧ BagAt H b g ∧ ∀ (r : Nat) H', r < m → BagAt H' b g → Fb b g H H' → Q (nv r) H'
theorem ok_law_pick (T : Txt K mg a w) : FnOk P w K mg base CX0 1 a.f_law_pick a.d_law_pick ["_law_bag_here", "_law_many"] spPick := by
  refine T.F_law_pick.ok sc_law_pick (fun vs H Q E h => ?_) (fun cdv A outer s H vs Q E hr h => ?_)
  · obtain ⟨b, g, m, rfl, _⟩ := h
    rfl
  obtain ⟨b, g, m, rfl, hm0, hm1, B, k⟩ := h
  refine ⟨_, (pss_cons (ps_if (pt_cmpR op_notN (pe_ix ix_list (pv 0) pe_int (fun _ _ => rfl)) pe_non (nomark _))
    (pss_one (ps_ret (pe_op op_mod (pe_callTy call_int1 (by rfl) T.z_int (by decide +kernel) (pa_cons (pe_ix ix_list (pv 0) pe_int (fun _ _ => rfl)) pa_nil)) (pv 1))))
    pss_nil)
  (pss_cons (ps_asg (pe_op op_add (pe_ix ix_list (pv 0) pe_int (fun _ _ => rfl)) pe_int) (pg_sub (pv 0) pe_int set_list))
  (pss_cons (ps_set (i := 2) sc_law_pick.nd rfl (Or.inl rfl) (pe_ix ix_list (pv 0) pe_int (fun _ _ => rfl)))
  (pss_cons (ps_if (pt_cmpR op_gt (pe_callB call_len_seq (by rfl) T.z_len PySem.boot_len (pa_cons (pv 2) pa_nil)) pe_int (nomark _))
    (pss_cons (ps_set (i := 3) sc_law_pick.nd rfl (Or.inl rfl) (pe_op op_mod (pe_callTy call_int1 (by rfl) T.z_int (by decide +kernel) (pa_cons (pe_ix ix_list (pv 2) pe_int (fun _ _ => rfl)) pa_nil)) (pv 1)))
  (pss_cons (ps_asg (pe_op op_fdivN (pe_callTy call_int1 (by rfl) T.z_int (by decide +kernel) (pa_cons (pe_ix ix_list (pv 2) pe_int (fun _ _ => rfl)) pa_nil)) (pv 1)) (pg_sub (pv 2) pe_int set_list))
  (pss_cons (ps_if (pt_cmpR op_eq (pe_ix ix_list (pv 2) pe_int (fun _ _ => rfl)) pe_int (nomark _))
    (pss_one (ps_expr (pe_bm PySem.F.plainAttrs_list PySem.F.slot_list_pop PySem.F.type_list_pop mt_popAt (pv 2) (pa_cons pe_int pa_nil))))
    pss_nil)
  (pss_one (ps_ret (pv 3))))))
    pss_nil)
  (pss_cons (ps_set (i := 4) sc_law_pick.nd rfl (Or.inl rfl) (pe_op op_mod (pe_callTy call_int1 (by rfl) T.z_int (by decide +kernel) (pa_cons (pe_op op_mul (pe_op op_add (pe_ix ix_list (pv 0) pe_int (fun _ _ => rfl)) (pe_op op_mul pe_int (pe_ix ix_list (pv 0) pe_int (fun _ _ => rfl)))) pe_int) pa_nil)) pe_int))
  (pss_cons (ps_set (i := 4) sc_law_pick.nd rfl (Or.inl rfl) (pe_op op_mod (pe_callTy call_int1 (by rfl) T.z_int (by decide +kernel) (pa_cons (pe_op op_mul (pv 4) (pe_op op_add (pe_op op_fdivN (pv 4) pe_int) pe_int)) pa_nil)) pe_int))
  (pss_cons (ps_set (i := 4) sc_law_pick.nd rfl (Or.inl rfl) (pe_op op_mod (pe_callTy call_int1 (by rfl) T.z_int (by decide +kernel) (pa_cons (pe_op op_mul (pv 4) (pe_op op_add (pe_op op_fdivN (pv 4) pe_int) pe_int)) pa_nil)) pe_int))
  (pss_one (ps_ret (pe_op op_mod (pe_callTy call_int1 (by rfl) T.z_int (by decide +kernel) (pa_cons (pe_op op_fdivN (pv 4) pe_int) pa_nil)) (pv 1))))))))))), ?_⟩
  obtain ⟨sd, c, al, gs, hb, hg, nbg, hal⟩ := id B
  have hm : (0 : Int) < (m : Int) := by omega
  refine ⟨_, rfl, b, _, _, al, rfl, rfl, SqL.of hb, rfl, rfl, _, rfl, ?_⟩
  rcases hal with rfl | ⟨n, rfl, hn⟩
  · refine iteD (by decide) ?_
    -- bag[1] = bag[1] + 1
    refine ⟨_, rfl, b, _, 1, .int c, rfl, rfl, SqL.of hb, rfl, _, _, rfl, rfl, ?_⟩
    refine ⟨_, rfl, b, _, 1, 1, rfl, rfl, hb, rfl, ?_⟩
    have hb1 : upd H b (.lst ([.int sd, .int c, .ref g, .non].set 1 (.int (c + 1)))) b = some (.lst [.int sd, .int (c + 1), .ref g, .non]) := upd_same
    have hg1 : upd H b (.lst ([.int sd, .int c, .ref g, .non].set 1 (.int (c + 1)))) g = some (.lst (gs.map V.int)) := by
      rw [upd_ne nbg.symm]
      exact hg
    generalize hH1 : upd H b (.lst ([.int sd, .int c, .ref g, .non].set 1 (.int (c + 1)))) = H1 at hb1 hg1
    have f1 : Fb b g H H1 := hH1 ▸ fb_mutB
    refine ⟨_, rfl, b, _, 2, .ref g, rfl, rfl, SqL.of hb1, rfl, ?_⟩
    refine ⟨_, rfl, g, _, rfl, .inl (SqL.of hg1), _, _, rfl, rfl, _, rfl, ?_⟩
    cases gs with
    | nil =>
      refine iteD (by decide) ?_
      -- the seed and the count
      refine ⟨_, rfl, b, _, 0, .int sd, rfl, rfl, SqL.of hb1, rfl, ?_⟩
      refine ⟨_, rfl, b, _, 1, .int (c + 1), rfl, rfl, SqL.of hb1, rfl, _, _, rfl, rfl, .inl ⟨by decide, by decide⟩, ?_⟩
      refine ⟨_, _, rfl, rfl, _, _, rfl, rfl, .inr ⟨by decide, by decide⟩, .inl ⟨_, rfl, _, _, rfl, rfl, (by show (0 : Int) < 2147483647; decide), ?_⟩⟩
      refine ⟨_, rfl, _, rfl, _, _, rfl, rfl, ⟨by decide, by decide⟩, _, _, rfl, rfl, _, _, rfl, rfl, .inl ⟨by omega, by omega⟩, .inl ⟨_, rfl, _, _, rfl, rfl, (by show (0 : Int) < 2147483647; decide), ?_⟩⟩
      refine ⟨_, rfl, _, rfl, _, _, rfl, rfl, ⟨by decide, by decide⟩, _, _, rfl, rfl, _, _, rfl, rfl, .inl ⟨by omega, by omega⟩, .inl ⟨_, rfl, _, _, rfl, rfl, (by show (0 : Int) < 2147483399; decide), ?_⟩⟩
      refine ⟨_, rfl, _, _, rfl, rfl, ⟨by decide, by decide⟩, .inl ⟨_, rfl, _, rfl, _, _, rfl, rfl, hm, ?_⟩⟩
      exact (show ∀ y : Int, Q (.int (y % (m : Int))) H1 from fun y => by
        obtain ⟨r, e, hr⟩ := mod_nat y hm0
        rw [e]
        exact k r H1 hr ⟨sd, c + 1, .non, [], hb1, hg1, nbg, .inl rfl⟩ f1) _
    | cons x gs =>
      refine iteC (by simp) ?_
      -- a digit of the first great number
      refine ⟨_, rfl, g, _, 0, .int x, rfl, rfl, SqL.of hg1, atI_nat (j := 0) rfl, .inl ⟨_, rfl, _, rfl, _, _, rfl, rfl, hm, ?_⟩⟩
      refine ⟨_, rfl, g, _, 0, .int x, rfl, rfl, SqL.of hg1, atI_nat (j := 0) rfl, .inl ⟨_, rfl, _, rfl, _, _, rfl, rfl, ⟨by omega, by omega⟩, ?_⟩⟩
      refine ⟨_, rfl, g, _, 0, 0, rfl, rfl, hg1, by simp [ixN], ?_⟩
      have hg2 : upd H1 g (.lst (((x :: gs).map V.int).set 0 (.int (x.fdiv (m : Int))))) g = some (.lst ((x.fdiv (m : Int) :: gs).map V.int)) := upd_same
      have hb2 : upd H1 g (.lst (((x :: gs).map V.int).set 0 (.int (x.fdiv (m : Int))))) b = some (.lst [.int sd, .int (c + 1), .ref g, .non]) := by
        rw [upd_ne nbg]
        exact hb1
      have f2 : Fb b g H (upd H1 g (.lst (((x :: gs).map V.int).set 0 (.int (x.fdiv (m : Int)))))) := f1.trans fb_mutG
      obtain ⟨r, e, hr⟩ := mod_nat x hm0
      refine ⟨_, rfl, g, _, 0, .int (x.fdiv (m : Int)), rfl, rfl, SqL.of hg2, atI_nat (j := 0) rfl, rfl, _, rfl, ?_⟩
      refine ite2 (fun _ => ?_) (fun _ => ?_)
      · refine ⟨_, rfl, .inl ⟨rfl, _, SqL.of hg2⟩, g, _, 0, 0, _, rfl, rfl, hg2, by decide, by decide, ?_, rfl, ?_⟩
        · simp [PySem.seqIndex?]
        · refine ⟨_, rfl, ?_⟩
          show Q (.int (x % (m : Int))) _
          rw [e]
          refine k r _ hr ⟨sd, c + 1, .non, gs, ?_, upd_same, nbg, .inl rfl⟩ (f2.trans fb_mutG)
          rw [upd_ne nbg]
          exact hb2
      · refine ⟨_, rfl, ?_⟩
        show Q (.int (x % (m : Int))) _
        rw [e]
        exact k r _ hr ⟨sd, c + 1, .non, x.fdiv (m : Int) :: gs, hb2, hg2, nbg, .inl rfl⟩ f2
  · refine iteC (by simp) ?_
    refine ⟨_, rfl, b, _, 3, .int n, rfl, rfl, SqL.of hb, rfl, .inl ⟨n, rfl, ?_⟩⟩
    refine ⟨_, rfl, _, _, rfl, rfl, hm, ?_⟩
    obtain ⟨r, e, hr⟩ := mod_nat n hm0
    show Q (.int (n % (m : Int))) H
    rw [e]
    exact k r H hr B (Fb.refl H)
end
end Lk
namespace Lk
open PySem L2 Dl
section
variable {P : Program} {w : World} {K : PySem.W.Frag} {mg : Str → Option Value} {base : Heap} {a : Adr}
def fIsInteger : DSp := fun ds k => ∃ i, ds = [.int i] ∧ k (.bl true) false none
theorem ok_is_integer (T : Txt K mg a w) : FnOk P w K mg base CX0 1 a.f_is_integer a.d_is_integer ["thing"] (spD ⟨P, w, K⟩ plain none [false] fIsInteger) := by
  refine okD T.F_is_integer sc_is_integer rfl (by decide) fun cdv A outer s H E hr => ⟨_, fun B => _, (pss_one (ps_ret (pe_and (pe_callB (isiK (K := K) rfl) (by rfl) T.z_isinstance (by decide +kernel) (pa_cons (pv 0) (pa_cons (pe_bltn (v := .ty "int") rfl T.z_int (show bootBuiltins "int" = some (.type "int") by decide +kernel) rfl) pa_nil))) (pe_one (pe_not (pe_callB (isiK (K := K) rfl) (by rfl) T.z_isinstance (by decide +kernel) (pa_cons (pv 0) (pa_cons (pe_bltn (v := .ty "bool") rfl T.z_bool (show bootBuiltins "bool" = some (.type "bool") by decide +kernel) rfl) pa_nil)))))))), fun B => (lf_ret (lf_andV (lf_cb (cl_isi T.OC) (lf_cons (lf_var (i := 0)) (lf_cons lf_ty lf_nil))) (lf_notV (lf_cb (cl_isi T.OC) (lf_cons (lf_var (i := 0)) (lf_cons lf_ty lf_nil)))))), fun B ds k hB hl h => ?_⟩
  obtain ⟨i, rfl, h⟩ := h
  exact ⟨true, by decide +kernel, .T rfl ⟨false, by decide +kernel, h⟩⟩
def fIsBetween : DSp := fun ds k => ∃ l h i : Int, ds = [.int l, .int h, .int i] ∧ k (.bl (decide (l ≤ i) && decide (i ≤ h))) false none
theorem ok_is_between (T : Txt K mg a w) : FnOk P w K mg base CX0 2 a.f_is_between a.d_is_between ["low", "high", "thing"] (spD ⟨P, w, K⟩ plain none [false, false, false] fIsBetween) := by
  have G_is_integer := ok_is_integer (P := P) (w := w) (base := base) T
  refine okD T.F_is_between sc_is_between rfl (by decide) fun cdv A outer s H E hr => ⟨_, fun B => _, (pss_one (ps_ret (pe_and (pe_call G_is_integer (hr.mono (by decide)) rfl T.g_is_integer T.k_is_integer T.b_is_integer .nil pass0 (pa_cons (pv 2) pa_nil)) (pe_one (pe_chain op_le op_le (pv 0) (pv 2) (pv 1)))))), fun B => (lf_ret (lf_andV (lf_callP (lf_cons (lf_var (i := 2)) lf_nil)) (lf_chain lo_B lo_B (lf_var (i := 0)) (lf_var (i := 2)) (lf_var (i := 1))))), fun B ds k hB hl h => ?_⟩
  obtain ⟨l, h', i, rfl, h⟩ := h
  refine ⟨rfl, i, rfl, .T rfl ?_⟩
  by_cases h1 : l ≤ i
  · rw [decide_eq_true h1] at h
    exact .T (decide_eq_true h1) h
  · rw [decide_eq_false h1] at h
    exact .F (decide_eq_false h1) h
def fIsTupleOf : DSp := fun ds k => ∃ (l h : Int) (xs : List D), ds = [.int l, .int h, .tup xs] ∧ k (.bl (decide (l ≤ (xs.length : Int)) && decide ((xs.length : Int) ≤ h))) false none
theorem ok_is_tuple_of (T : Txt K mg a w) : FnOk P w K mg base CX0 1 a.f_is_tuple_of a.d_is_tuple_of ["low", "high", "thing"] (spD ⟨P, w, K⟩ plain none [false, false, true] fIsTupleOf) := by
  refine okD T.F_is_tuple_of sc_is_tuple_of rfl (by decide) fun cdv A outer s H E hr => ⟨_, fun B => _, (pss_one (ps_ret (pe_and (pe_callB (isiK (K := K) rfl) (by rfl) T.z_isinstance (by decide +kernel) (pa_cons (pv 2) (pa_cons (pe_bltn (v := .ty "tuple") rfl T.z_tuple (show bootBuiltins "tuple" = some (.type "tuple") by decide +kernel) rfl) pa_nil))) (pe_one (pe_chain op_le op_le (pv 0) (pe_callB (lenK' (K := K) rfl) (by rfl) T.z_len PySem.boot_len (pa_cons (pv 2) pa_nil)) (pv 1)))))), fun B => (lf_ret (lf_andV (lf_cb (cl_isi T.OC) (lf_cons (lf_var (i := 2)) (lf_cons lf_ty lf_nil))) (lf_chain lo_B lo_B (lf_var (i := 0)) (lf_cb cl_len (lf_cons (lf_var (i := 2)) lf_nil)) (lf_var (i := 1))))), fun B ds k hB hl h => ?_⟩
  obtain ⟨l, h', xs, rfl, h⟩ := h
  refine ⟨true, by decide +kernel, .T rfl ?_⟩
  by_cases h1 : l ≤ (xs.length : Int)
  · rw [decide_eq_true h1] at h
    exact .T (decide_eq_true h1) h
  · rw [decide_eq_false h1] at h
    exact .F (decide_eq_false h1) h
def fIsValue : DSp := fun ds k => ∃ (i : Nat) (r : Row), ds = [dn i, drow r] ∧ r.1 ≤ 7 ∧ r.2.length ≤ 2 ∧ (∀ p ∈ r.2, p < i) ∧ k (.bl true) false none
theorem ok_is_value (T : Txt K mg a w) : FnOk P w K mg base CX0 3 a.f_is_value a.d_is_value ["index", "thing"] (spD ⟨P, w, K⟩ plain none [false, false] fIsValue) := by
  have G_is_tuple_of := ok_is_tuple_of (P := P) (w := w) (base := base) T
  have G_is_between := ok_is_between (P := P) (w := w) (base := base) T
  refine okD T.F_is_value sc_is_value rfl (by decide) fun cdv A outer s H E hr => ⟨_, fun B => _, (pss_cons (ps_if (pt_not (pt_val (pe_call G_is_tuple_of (hr.mono (by decide)) rfl T.g_is_tuple_of T.k_is_tuple_of T.b_is_tuple_of .nil pass0 (pa_cons pe_int (pa_cons pe_int (pa_cons (pv 1) pa_nil))))))
    (pss_one (ps_ret pe_bl))
    pss_nil)
  (pss_cons (ps_asg (pv 1) (pg_tup (by rfl) (pgs_cons (pg_name (i := 2) sc_is_value.nd rfl (Or.inl rfl)) (pgs_cons (pg_name (i := 3) sc_is_value.nd rfl (Or.inl rfl)) pgs_nil))))
  (pss_one (ps_ret (pe_and (pe_call G_is_between (hr.mono (by decide)) rfl T.g_is_between T.k_is_between T.b_is_between .nil pass0 (pa_cons pe_int (pa_cons pe_int (pa_cons (pv 2) pa_nil)))) (pe_and (pe_call G_is_tuple_of (hr.mono (by decide)) rfl T.g_is_tuple_of T.k_is_tuple_of T.b_is_tuple_of .nil pass0 (pa_cons pe_int (pa_cons pe_int (pa_cons (pv 3) pa_nil)))) (pe_one (pe_callB (allK (K := K) rfl rfl) (by rfl) T.z_all (by decide +kernel) (pa_cons (pe_lc (own := [("part", 4)]) (g := gName 4) (tt := tYes) rfl sc_is_value.nd (pi_tup (pv 3)) (blkOk_by (N := ["index", "thing", "op", "parts", "part"]) (sc := defScope s_is_value) (by decide +kernel)) (fun _ _ _ _ _ => (pg_name (i := 4) sc_is_value.nd rfl (Or.inl rfl))) (fun _ _ _ _ _ => pts_nil) (fun _ _ _ _ _ => (pe_call G_is_between (hr.mono (by decide)) rfl T.g_is_between T.k_is_between T.b_is_between .nil pass0 (pa_cons pe_int (pa_cons (pe_op op_sub (pv 0) pe_int) (pa_cons (pv 4) pa_nil)))))) pa_nil))))))))), fun B => (lf_seq (lf_if (lf_tNot (lf_tB (lf_callP (lf_cons lf_int (lf_cons lf_int (lf_cons (lf_var (i := 1)) lf_nil))))))
    (lf_ret lf_bl)
    lf_next)
  (lf_seq (lf_asg (lf_var (i := 1)) (lg_tup (lg_cons (lg_name (i := 2)) (lg_cons (lg_name (i := 3)) lg_nil))))
  (lf_ret (lf_andV (lf_callP (lf_cons lf_int (lf_cons lf_int (lf_cons (lf_var (i := 2)) lf_nil)))) (lf_andV (lf_callP (lf_cons lf_int (lf_cons lf_int (lf_cons (lf_var (i := 3)) lf_nil)))) (lf_cb cl_all (lf_cons (lf_lc (li_tup (lf_var (i := 3))) (lg_name (i := 4)) lf_yes (lf_callP (lf_cons lf_int (lf_cons (lf_op lo_I (lf_var (i := 0)) lf_int) (lf_cons (lf_var (i := 4)) lf_nil))))) lf_nil))))))), fun B ds k hB hl h => ?_⟩
  obtain ⟨i, r, rfl, h1, h2, h3, h⟩ := h
  have hl2 : ((r.2.map dn).length : Int) = (r.2.length : Int) := by rw [List.length_map]
  refine ⟨rfl, 2, 2, _, rfl, .F rfl ?_⟩
  refine ⟨rfl, rfl, rfl, ?_⟩
  refine ⟨rfl, 0, 7, _, rfl, .T (both (by omega) (by omega)) ?_⟩
  refine ⟨rfl, 0, 2, _, rfl, .T (both (by omega) (by omega)) ?_⟩
  refine ⟨by rw [List.length_map]; exact le_line (by omega), fun i acc e => e = _ ∧ acc = List.replicate i (D.bl true), ⟨rfl, rfl⟩, ?_, ?_⟩
  · rintro j d acc envi hd _ ⟨rfl, rfl⟩
    obtain ⟨p, hp, rfl⟩ := map_at hd
    have := h3 p (List.mem_of_getElem? hp)
    refine ⟨rfl, .T rfl ⟨rfl, 0, _, _, rfl, rfl, ?_⟩⟩
    rw [both (by omega) (by omega), List.replicate_succ']
  · rintro acc envn _ ⟨rfl, rfl⟩
    refine ob_mk rfl ?_
    refine ob_mk (bls_rep _) ?_
    rw [all_rep]
    exact h
end
end Lk
namespace Lk
open PySem L2 Dl
section
variable {P : Program} {w : World} {K : PySem.W.Frag} {mg : Str → Option Value} {base : Heap} {a : Adr}
/-! books as data -/
def drl (r : Rl) : D := .tup [dn r.op, dns r.src, dn r.kind, dn r.cost]
def dmv (m : Mv) : D := .tup [dn m.src, dn m.kind, dn m.cost]
def drls (rs : List Rl) : D := .tup (rs.map drl)
def dmvs (ms : List Mv) : D := .tup (ms.map dmv)
def nkRl (r : Rl) : NestedKey := .tup [.num r.op, .tup (nks r.src), .num r.kind]
def kMv (m : Mv) : List Key := [ky m.src, ky m.kind]
theorem nkRl_inj {r u : Rl} (h : nkRl r = nkRl u) : rkey r = rkey u := by
  unfold nkRl at h
  injection h with h
  obtain ⟨h1, h2⟩ := List.cons.inj h
  obtain ⟨h3, h4⟩ := List.cons.inj h2
  have h5 := (List.cons.inj h4).1
  injection h1 with h1
  injection h3 with h3
  injection h5 with h5
  show (_, _, _) = (_, _, _)
  rw [Int.ofNat.inj h1, nks_inj h3, Int.ofNat.inj h5]
theorem kMv_inj {m u : Mv} (h : kMv m = kMv u) : mkey m = mkey u := by
  unfold kMv at h
  obtain ⟨h1, h2⟩ := List.cons.inj h
  have h3 := (List.cons.inj h2).1
  show (_, _) = (_, _)
  rw [ky_inj h1, ky_inj h3]
def d3 (r : Rl) : D := .tup [dn r.op, dns r.src, dn r.kind]
theorem key_d3 (r : Rl) : (d3 r).keyNT = some (nkRl r) := by
  unfold d3 D.keyNT
  show (match (D.int r.op).keyN, (match (dns r.src).keyN, keysN [dn r.kind] with
      | some k, some ks => some (k :: ks)
      | _, _ => none) with
      | some k, some ks => some (k :: ks)
      | _, _ => none).map NestedKey.tup = _
  rw [keyN_dns]
  rfl
theorem dep_nkRl (r : Rl) : (nkRl r).depth ≤ 8 := by
  have h := dep_nks r.src
  have h1 : NestedKey.depth (.num (r.op : Int)) = 0 := rfl
  have h2 : NestedKey.depth (.num (r.kind : Int)) = 0 := rfl
  show max (NestedKey.depth (.num (r.op : Int))) (max (NestedKey.depthAll (nks r.src) + 1) (max (NestedKey.depth (.num (r.kind : Int))) 0)) + 1 ≤ 8
  omega
theorem rl_new {rs : List Rl} (hn : (rs.map rkey).Nodup) {i : Nat} {r : Rl} (h : rs[i]? = some r) : ∀ x ∈ rs.take i, nkRl x ≠ nkRl r := fun x hx e => by
  have h1 : rkey x ∈ (rs.map rkey).take i := by rw [← List.map_take]; exact List.mem_map_of_mem hx
  rw [nkRl_inj e] at h1
  exact not_take hn (x := rkey r) (by rw [List.getElem?_map, h]; rfl) h1
theorem mv_new {ms : List Mv} (hn : (ms.map mkey).Nodup) {i : Nat} {m : Mv} (h : ms[i]? = some m) : ∀ x ∈ ms.take i, kMv x ≠ kMv m := fun x hx e => by
  have h1 : mkey x ∈ (ms.map mkey).take i := by rw [← List.map_take]; exact List.mem_map_of_mem hx
  rw [kMv_inj e] at h1
  exact not_take hn (x := mkey m) (by rw [List.getElem?_map, h]; rfl) h1
def fIsPrice : DSp := fun ds k => ∃ c : Nat, ds = [dn c] ∧ 1 ≤ c ∧ c ≤ 1000 ∧ k (.bl true) false none
theorem ok_is_price (T : Txt K mg a w) : FnOk P w K mg base CX0 3 a.f_is_price a.d_is_price ["thing"] (spD ⟨P, w, K⟩ plain none [false] fIsPrice) := by
  have G_is_between := ok_is_between (P := P) (w := w) (base := base) T
  refine okD T.F_is_price sc_is_price rfl (by decide) fun cdv A outer s H E hr => ⟨_, fun B => _, (pss_one (ps_ret (pe_call G_is_between (hr.mono (by decide)) rfl T.g_is_between T.k_is_between T.b_is_between .nil pass0 (pa_cons pe_int (pa_cons pe_int (pa_cons (pv 0) pa_nil)))))), fun B => (lf_ret (lf_callP (lf_cons lf_int (lf_cons lf_int (lf_cons (lf_var (i := 0)) lf_nil))))), fun B ds k hB hl h => ?_⟩
  obtain ⟨c, rfl, h1, h2, h⟩ := h
  refine ⟨rfl, 1, 1000, _, rfl, ?_⟩
  rw [both (by omega) (by omega)]
  exact h
def fIsRule : DSp := fun ds k => ∃ (ar : List Nat) (nk : Nat) (r : Rl), ds = [dns ar, dn nk, drl r] ∧ RlOk ar nk r ∧ (∀ x ∈ ar, x ≤ 2) ∧ k (.bl true) false none
theorem ok_is_rule (T : Txt K mg a w) : FnOk P w K mg base CX0 4 a.f_is_rule a.d_is_rule ["arities", "kinds", "thing"] (spD ⟨P, w, K⟩ plain none [true, false, false] fIsRule) := by
  have G_is_tuple_of := ok_is_tuple_of (P := P) (w := w) (base := base) T
  have G_is_between := ok_is_between (P := P) (w := w) (base := base) T
  have G_is_price := ok_is_price (P := P) (w := w) (base := base) T
  refine okD T.F_is_rule sc_is_rule rfl (by decide) fun cdv A outer s H E hr => ⟨_, fun B => _, (pss_cons (ps_if (pt_not (pt_val (pe_call G_is_tuple_of (hr.mono (by decide)) rfl T.g_is_tuple_of T.k_is_tuple_of T.b_is_tuple_of .nil pass0 (pa_cons pe_int (pa_cons pe_int (pa_cons (pv 2) pa_nil))))))
    (pss_one (ps_ret pe_bl))
    pss_nil)
  (pss_cons (ps_asg (pv 2) (pg_tup (by rfl) (pgs_cons (pg_name (i := 3) sc_is_rule.nd rfl (Or.inl rfl)) (pgs_cons (pg_name (i := 4) sc_is_rule.nd rfl (Or.inl rfl)) (pgs_cons (pg_name (i := 5) sc_is_rule.nd rfl (Or.inl rfl)) (pgs_cons (pg_name (i := 6) sc_is_rule.nd rfl (Or.inl rfl)) pgs_nil))))))
  (pss_one (ps_ret (pe_and (pe_call G_is_between (hr.mono (by decide)) rfl T.g_is_between T.k_is_between T.b_is_between .nil pass0 (pa_cons pe_int (pa_cons (pe_op op_sub (pe_callB (lenK' (K := K) rfl) (by rfl) T.z_len PySem.boot_len (pa_cons (pv 0) pa_nil)) pe_int) (pa_cons (pv 3) pa_nil)))) (pe_and (pe_call G_is_tuple_of (hr.mono (by decide)) rfl T.g_is_tuple_of T.k_is_tuple_of T.b_is_tuple_of .nil pass0 (pa_cons (pe_ix (ixK (K := K) rfl) (pv 0) (pv 3) (fun _ _ => rfl)) (pa_cons (pe_ix (ixK (K := K) rfl) (pv 0) (pv 3) (fun _ _ => rfl)) (pa_cons (pv 4) pa_nil)))) (pe_and (pe_callB (allK (K := K) rfl rfl) (by rfl) T.z_all (by decide +kernel) (pa_cons (pe_lc (own := [("source", 7)]) (g := gName 7) (tt := tYes) rfl sc_is_rule.nd (pi_tup (pv 4)) (blkOk_by (N := ["arities", "kinds", "thing", "op", "sources", "kind", "cost", "source"]) (sc := defScope s_is_rule) (by decide +kernel)) (fun _ _ _ _ _ => (pg_name (i := 7) sc_is_rule.nd rfl (Or.inl rfl))) (fun _ _ _ _ _ => pts_nil) (fun _ _ _ _ _ => (pe_call G_is_between (hr.mono (by decide)) rfl T.g_is_between T.k_is_between T.b_is_between .nil pass0 (pa_cons pe_int (pa_cons (pe_op op_sub (pv 1) pe_int) (pa_cons (pv 7) pa_nil)))))) pa_nil)) (pe_and (pe_call G_is_between (hr.mono (by decide)) rfl T.g_is_between T.k_is_between T.b_is_between .nil pass0 (pa_cons pe_int (pa_cons (pe_op op_sub (pv 1) pe_int) (pa_cons (pv 5) pa_nil)))) (pe_one (pe_call G_is_price (hr.mono (by decide)) rfl T.g_is_price T.k_is_price T.b_is_price .nil pass0 (pa_cons (pv 6) pa_nil))))))))))), fun B => (lf_seq (lf_if (lf_tNot (lf_tB (lf_callP (lf_cons lf_int (lf_cons lf_int (lf_cons (lf_var (i := 2)) lf_nil))))))
    (lf_ret lf_bl)
    lf_next)
  (lf_seq (lf_asg (lf_var (i := 2)) (lg_tup (lg_cons (lg_name (i := 3)) (lg_cons (lg_name (i := 4)) (lg_cons (lg_name (i := 5)) (lg_cons (lg_name (i := 6)) lg_nil))))))
  (lf_ret (lf_andV (lf_callP (lf_cons lf_int (lf_cons (lf_op lo_I (lf_cb cl_len (lf_cons (lf_var (i := 0)) lf_nil)) lf_int) (lf_cons (lf_var (i := 3)) lf_nil)))) (lf_andV (lf_callP (lf_cons (lf_op lo_ix (lf_var (i := 0)) (lf_var (i := 3))) (lf_cons (lf_op lo_ix (lf_var (i := 0)) (lf_var (i := 3))) (lf_cons (lf_var (i := 4)) lf_nil)))) (lf_andV (lf_cb cl_all (lf_cons (lf_lc (li_tup (lf_var (i := 4))) (lg_name (i := 7)) lf_yes (lf_callP (lf_cons lf_int (lf_cons (lf_op lo_I (lf_var (i := 1)) lf_int) (lf_cons (lf_var (i := 7)) lf_nil))))) lf_nil)) (lf_andV (lf_callP (lf_cons lf_int (lf_cons (lf_op lo_I (lf_var (i := 1)) lf_int) (lf_cons (lf_var (i := 5)) lf_nil)))) (lf_callP (lf_cons (lf_var (i := 6)) lf_nil))))))))), fun B ds k hB hl h => ?_⟩
  obtain ⟨ar, nk, r, rfl, ⟨h1, h2, h3, h4, h5, h6⟩, ha, h⟩ := h
  have hl : (ar.map dn).length = ar.length := List.length_map ..
  have e1 : ar[r.op]? = some (ar.getD r.op 0) := by rw [List.getD_eq_getElem?_getD, List.getElem?_eq_getElem h1]; rfl
  have h8 := ha _ (List.mem_of_getElem? e1)
  refine ⟨rfl, 4, 4, _, rfl, .F rfl ?_⟩
  refine ⟨rfl, rfl, rfl, rfl, rfl, ?_⟩
  have hs : (r.src.map dn).length = r.src.length := List.length_map ..
  refine ⟨rfl, 0, _, _, rfl, .T (both (by omega) (by rw [hl]; omega)) ?_⟩
  show ob (atI (ar.map dn) ((r.op : Nat) : Int)) _
  refine ob_mk (at_map e1) ?_
  show ob (atI (ar.map dn) ((r.op : Nat) : Int)) _
  refine ob_mk (at_map e1) ?_
  refine ⟨rfl, _, _, _, rfl, .T (both (by rw [hs]; omega) (by rw [hs]; omega)) ?_⟩
  refine ⟨by rw [List.length_map]; exact le_line (by omega), fun i acc e => e = _ ∧ acc = List.replicate i (D.bl true), ⟨rfl, rfl⟩, ?_, ?_⟩
  · rintro j d acc envi hd _ ⟨rfl, rfl⟩
    obtain ⟨p, hp, rfl⟩ := map_at hd
    have := h3 p (List.mem_of_getElem? hp)
    refine ⟨rfl, .T rfl ⟨rfl, 0, _, _, rfl, rfl, ?_⟩⟩
    rw [both (by omega) (by omega), List.replicate_succ']
  · rintro acc envn _ ⟨rfl, rfl⟩
    refine ob_mk rfl ?_
    refine ob_mk (bls_rep _) ?_
    rw [all_rep]
    refine .T rfl ⟨rfl, 0, _, _, rfl, .T (both (by omega) (by omega)) ?_⟩
    exact ⟨rfl, r.cost, rfl, h5, h6, h⟩
def fIsMove : DSp := fun ds k => ∃ (nk : Nat) (m : Mv), ds = [dn nk, dmv m] ∧ MvOk nk m ∧ k (.bl true) false none
theorem ok_is_move (T : Txt K mg a w) : FnOk P w K mg base CX0 4 a.f_is_move a.d_is_move ["kinds", "thing"] (spD ⟨P, w, K⟩ plain none [false, false] fIsMove) := by
  have G_is_tuple_of := ok_is_tuple_of (P := P) (w := w) (base := base) T
  have G_is_between := ok_is_between (P := P) (w := w) (base := base) T
  have G_is_price := ok_is_price (P := P) (w := w) (base := base) T
  refine okD T.F_is_move sc_is_move rfl (by decide) fun cdv A outer s H E hr => ⟨_, fun B => _, (pss_cons (ps_if (pt_not (pt_val (pe_call G_is_tuple_of (hr.mono (by decide)) rfl T.g_is_tuple_of T.k_is_tuple_of T.b_is_tuple_of .nil pass0 (pa_cons pe_int (pa_cons pe_int (pa_cons (pv 1) pa_nil))))))
    (pss_one (ps_ret pe_bl))
    pss_nil)
  (pss_cons (ps_asg (pv 1) (pg_tup (by rfl) (pgs_cons (pg_name (i := 2) sc_is_move.nd rfl (Or.inl rfl)) (pgs_cons (pg_name (i := 3) sc_is_move.nd rfl (Or.inl rfl)) (pgs_cons (pg_name (i := 4) sc_is_move.nd rfl (Or.inl rfl)) pgs_nil)))))
  (pss_one (ps_ret (pe_and (pe_call G_is_between (hr.mono (by decide)) rfl T.g_is_between T.k_is_between T.b_is_between .nil pass0 (pa_cons pe_int (pa_cons (pe_op op_sub (pv 0) pe_int) (pa_cons (pv 2) pa_nil)))) (pe_and (pe_call G_is_between (hr.mono (by decide)) rfl T.g_is_between T.k_is_between T.b_is_between .nil pass0 (pa_cons pe_int (pa_cons (pe_op op_sub (pv 0) pe_int) (pa_cons (pv 3) pa_nil)))) (pe_and (pe_cmpR (neK (K := K) rfl hr.units) (pv 2) (pv 3) (nomark _)) (pe_one (pe_call G_is_price (hr.mono (by decide)) rfl T.g_is_price T.k_is_price T.b_is_price .nil pass0 (pa_cons (pv 4) pa_nil)))))))))), fun B => (lf_seq (lf_if (lf_tNot (lf_tB (lf_callP (lf_cons lf_int (lf_cons lf_int (lf_cons (lf_var (i := 1)) lf_nil))))))
    (lf_ret lf_bl)
    lf_next)
  (lf_seq (lf_asg (lf_var (i := 1)) (lg_tup (lg_cons (lg_name (i := 2)) (lg_cons (lg_name (i := 3)) (lg_cons (lg_name (i := 4)) lg_nil)))))
  (lf_ret (lf_andV (lf_callP (lf_cons lf_int (lf_cons (lf_op lo_I (lf_var (i := 0)) lf_int) (lf_cons (lf_var (i := 2)) lf_nil)))) (lf_andV (lf_callP (lf_cons lf_int (lf_cons (lf_op lo_I (lf_var (i := 0)) lf_int) (lf_cons (lf_var (i := 3)) lf_nil)))) (lf_andV (lf_op lo_ne (lf_var (i := 2)) (lf_var (i := 3))) (lf_callP (lf_cons (lf_var (i := 4)) lf_nil)))))))), fun B ds k hB hl h => ?_⟩
  obtain ⟨nk, m, rfl, ⟨h1, h2, h3, h4, h5⟩, h⟩ := h
  refine ⟨rfl, 3, 3, _, rfl, .F rfl ?_⟩
  refine ⟨rfl, rfl, rfl, rfl, ?_⟩
  refine ⟨rfl, 0, _, _, rfl, .T (both (by omega) (by omega)) ?_⟩
  refine ⟨rfl, 0, _, _, rfl, .T (both (by omega) (by omega)) ?_⟩
  refine ⟨⟨rfl, rfl⟩, ⟨rfl, rfl⟩, ?_⟩
  show IfB (!deq (.int (m.src : Int)) (.int (m.kind : Int))) _ _
  rw [deq_ints, decide_eq_false (by omega)]
  exact .T rfl ⟨rfl, m.cost, rfl, h4, h5, h⟩
def fCheckFrame : DSp := fun ds k => ∃ (ar : List Nat) (nk : Nat) (xs ys : List D), ds = [dns ar, dn nk, .tup xs, .tup ys] ∧ 1 ≤ ar.length ∧ ar.length ≤ 8 ∧ (∀ x ∈ ar, x ≤ 2) ∧ 1 ≤ nk ∧ nk ≤ 5 ∧ xs.length ≤ 40 ∧ ys.length ≤ 20 ∧ k .non false none
theorem ok_check_frame (T : Txt K mg a w) : FnOk P w K mg base CX0 3 a.f_check_frame a.d_check_frame ["arities", "kinds", "rules", "moves"] (spD ⟨P, w, K⟩ plain none [true, false, true, true] fCheckFrame) := by
  have G_is_tuple_of := ok_is_tuple_of (P := P) (w := w) (base := base) T
  have G_is_between := ok_is_between (P := P) (w := w) (base := base) T
  refine okD T.F_check_frame sc_check_frame rfl (by decide) fun cdv A outer s H E hr => ⟨_, fun B => _, (pss_cons (ps_if (pt_not (PW.pt (pw_and (pt_val (pe_call G_is_tuple_of (hr.mono (by decide)) rfl T.g_is_tuple_of T.k_is_tuple_of T.b_is_tuple_of .nil pass0 (pa_cons pe_int (pa_cons pe_int (pa_cons (pv 0) pa_nil))))) (pw_and1 (pt_val (pe_callB (allK (K := K) rfl rfl) (by rfl) T.z_all (by decide +kernel) (pa_cons (pe_lc (own := [("arity", 4)]) (g := gName 4) (tt := tYes) rfl sc_check_frame.nd (pi_tup (pv 0)) (blkOk_by (N := ["arities", "kinds", "rules", "moves", "arity"]) (sc := defScope s_check_frame) (by decide +kernel)) (fun _ _ _ _ _ => (pg_name (i := 4) sc_check_frame.nd rfl (Or.inl rfl))) (fun _ _ _ _ _ => pts_nil) (fun _ _ _ _ _ => (pe_call G_is_between (hr.mono (by decide)) rfl T.g_is_between T.k_is_between T.b_is_between .nil pass0 (pa_cons pe_int (pa_cons pe_int (pa_cons (pv 4) pa_nil)))))) pa_nil)))))))
    (pss_one ps_never)
    pss_nil)
  (pss_cons (ps_if (pt_not (pt_val (pe_call G_is_between (hr.mono (by decide)) rfl T.g_is_between T.k_is_between T.b_is_between .nil pass0 (pa_cons pe_int (pa_cons pe_int (pa_cons (pv 1) pa_nil))))))
    (pss_one ps_never)
    pss_nil)
  (pss_cons (ps_if (pt_not (pt_val (pe_call G_is_tuple_of (hr.mono (by decide)) rfl T.g_is_tuple_of T.k_is_tuple_of T.b_is_tuple_of .nil pass0 (pa_cons pe_int (pa_cons pe_int (pa_cons (pv 2) pa_nil))))))
    (pss_one ps_never)
    pss_nil)
  (pss_one (ps_if (pt_not (pt_val (pe_call G_is_tuple_of (hr.mono (by decide)) rfl T.g_is_tuple_of T.k_is_tuple_of T.b_is_tuple_of .nil pass0 (pa_cons pe_int (pa_cons pe_int (pa_cons (pv 3) pa_nil))))))
    (pss_one ps_never)
    pss_nil))))), fun B => (lf_seq (lf_if (lf_tNot (lf_tAnd (lf_tB (lf_callP (lf_cons lf_int (lf_cons lf_int (lf_cons (lf_var (i := 0)) lf_nil))))) (lf_tB (lf_cb cl_all (lf_cons (lf_lc (li_tup (lf_var (i := 0))) (lg_name (i := 4)) lf_yes (lf_callP (lf_cons lf_int (lf_cons lf_int (lf_cons (lf_var (i := 4)) lf_nil))))) lf_nil)))))
    lf_never
    lf_next)
  (lf_seq (lf_if (lf_tNot (lf_tB (lf_callP (lf_cons lf_int (lf_cons lf_int (lf_cons (lf_var (i := 1)) lf_nil))))))
    lf_never
    lf_next)
  (lf_seq (lf_if (lf_tNot (lf_tB (lf_callP (lf_cons lf_int (lf_cons lf_int (lf_cons (lf_var (i := 2)) lf_nil))))))
    lf_never
    lf_next)
  (lf_if (lf_tNot (lf_tB (lf_callP (lf_cons lf_int (lf_cons lf_int (lf_cons (lf_var (i := 3)) lf_nil))))))
    lf_never
    lf_next)))), fun B ds k hB hl h => ?_⟩
  obtain ⟨ar, nk, xs, ys, rfl, h1, h2, h3, h4, h5, h6, h7, h⟩ := h
  have hl : (ar.map dn).length = ar.length := List.length_map ..
  refine ⟨rfl, 1, 8, _, rfl, .T (both (by rw [hl]; omega) (by rw [hl]; omega)) ?_⟩
  refine ⟨by rw [List.length_map]; exact le_line (by omega), fun i acc e => e = _ ∧ acc = List.replicate i (D.bl true), ⟨rfl, rfl⟩, ?_, ?_⟩
  · rintro j d acc envi hd _ ⟨rfl, rfl⟩
    obtain ⟨p, hp, rfl⟩ := map_at hd
    have := h3 p (List.mem_of_getElem? hp)
    refine ⟨rfl, .T rfl ⟨rfl, 0, _, _, rfl, rfl, ?_⟩⟩
    rw [both (by omega) (by omega), List.replicate_succ']
  · rintro acc envn _ ⟨rfl, rfl⟩
    refine ob_mk rfl ?_
    refine ob_mk (bls_rep _) ?_
    rw [all_rep]
    refine .F rfl ⟨rfl, 1, 5, _, rfl, ?_⟩
    rw [both (by omega) (by omega)]
    refine .F rfl ⟨rfl, 0, 40, _, rfl, ?_⟩
    rw [both (by omega) (by omega)]
    refine .F rfl ⟨rfl, 0, 20, _, rfl, ?_⟩
    rw [both (by omega) (by omega)]
    exact .F rfl h
def fCheckRules : DSp := fun ds k => ∃ (ar : List Nat) (nk : Nat) (rs : List Rl), ds = [dns ar, dn nk, drls rs] ∧ (∀ x ∈ ar, x ≤ 2) ∧ (∀ r ∈ rs, RlOk ar nk r) ∧ (rs.map rkey).Nodup ∧ rs.length ≤ 1000 ∧ k .non false none
theorem ok_check_rules (T : Txt K mg a w) : FnOk P w K mg base CX0 5 a.f_check_rules a.d_check_rules ["arities", "kinds", "rules"] (spD ⟨P, w, K⟩ plain none [true, false, true] fCheckRules) := by
  have G_is_rule := ok_is_rule (P := P) (w := w) (base := base) T
  refine okD T.F_check_rules sc_check_rules rfl (by decide) fun cdv A outer s H E hr => ⟨_, fun B => _, (pss_cons (ps_set (i := 3) sc_check_rules.nd rfl (Or.inl rfl) NeD.pe_new)
  (pss_one (ps_for PassesOwn.never rfl (EnT.pi_enumT rfl T.z_enumerate (pa_cons (pv 2) pa_nil)) (pg_tup (by rfl) (pgs_cons (pg_name (i := 4) sc_check_rules.nd rfl (Or.inl rfl)) (pgs_cons (pg_name (i := 5) sc_check_rules.nd rfl (Or.inl rfl)) pgs_nil)))
    (pss_cons (ps_if (PW.pt (pw_or (pt_not (pt_val (pe_call G_is_rule (hr.mono (by decide)) rfl T.g_is_rule T.k_is_rule T.b_is_rule .nil pass0 (pa_cons (pv 0) (pa_cons (pv 1) (pa_cons (pv 5) pa_nil)))))) (pw_or1 (pt_cmp (NeD.pc_in hr.units (pe_slice (slTK' (K := K) rfl) (pv 5) po_none (po_some pe_int)) (pv 3))))))
    (pss_one ps_never)
    pss_nil)
  (pss_one (NeD.ps_putE hr.units (pv 3) (pe_slice (slTK' (K := K) rfl) (pv 5) po_none (po_some pe_int)) pe_bl rfl)))))), fun B => (lf_seq (lf_setO (i := 3) lf_newN)
  (lf_for (li_enumT (lf_cons (lf_var (i := 2)) lf_nil)) (lg_tup (lg_cons (lg_name (i := 4)) (lg_cons (lg_name (i := 5)) lg_nil)))
    (lf_seq (lf_if (lf_tOr (lf_tNot (lf_tB (lf_callP (lf_cons (lf_var (i := 0)) (lf_cons (lf_var (i := 1)) (lf_cons (lf_var (i := 5)) lf_nil)))))) (lf_tB (lf_tin (lf_sl ls_T (lf_var (i := 5)) lf_noPart (lf_part lf_int)) (lf_var (i := 3)))))
    lf_never
    lf_next)
  (lf_nput (lf_var (i := 3)) (lf_sl ls_T (lf_var (i := 5)) lf_noPart (lf_part lf_int)) lf_bl)))), fun B ds k hB hl h => ?_⟩
  obtain ⟨ar, nk, rs, rfl, ha, hr, hn, hz, h⟩ := h
  refine ⟨rfl, ?_⟩
  refine ⟨fun i e => ∃ x y, e = [some (.b (dns ar)), some (.s (dn nk)), some (.b (drls rs)), some (.o (.dN ((rs.take i).map fun r => (nkRl r, D.bl true)))), x, y], ⟨_, _, rfl⟩, ?_, ?_⟩
  · rintro i d e hd ⟨x, y, rfl⟩
    obtain ⟨r, hi, rfl⟩ := enum_at hd
    have e0 : cutD [dn r.op, dns r.src, dn r.kind, dn r.cost] none (some 3) = [dn r.op, dns r.src, dn r.kind] := rfl
    refine ⟨rfl, rfl, rfl, rfl, ar, nk, r, rfl, hr r (List.mem_of_getElem? hi), ha, .F rfl ?_⟩
    show ob (d3 r).keyNT _
    refine ob_mk (key_d3 r) ⟨dep_nkRl r, ?_⟩
    show IfB (valD ((rs.take i).map fun r => (nkRl r, D.bl true)) (nkRl r)).isSome _ _
    have hv : valD ((rs.take i).map fun r => (nkRl r, D.bl true)) (nkRl r) = none := valD_none (rl_new hn hi)
    rw [hv]
    refine .F rfl ?_
    show ob (d3 r).keyNT _
    refine ob_mk (key_d3 r) ⟨dep_nkRl r, by rw [List.length_map, List.length_take]; exact lt_line (by omega), some (.s (dn i)), some (.s (drl r)), ?_⟩
    rw [putD_new hv, ← take_map (f := fun r => (nkRl r, D.bl true)) hi]
    rfl
  · rintro e ⟨x, y, rfl⟩
    exact h
def fCheckMoves : DSp := fun ds k => ∃ (nk : Nat) (ms : List Mv), ds = [dn nk, dmvs ms] ∧ (∀ m ∈ ms, MvOk nk m) ∧ (ms.map mkey).Nodup ∧ ms.length ≤ 1000 ∧ k .non false none
theorem ok_check_moves (T : Txt K mg a w) : FnOk P w K mg base CX0 5 a.f_check_moves a.d_check_moves ["kinds", "moves"] (spD ⟨P, w, K⟩ plain none [false, true] fCheckMoves) := by
  have G_is_move := ok_is_move (P := P) (w := w) (base := base) T
  refine okD T.F_check_moves sc_check_moves rfl (by decide) fun cdv A outer s H E hr => ⟨_, fun B => _, (pss_cons (ps_set (i := 2) sc_check_moves.nd rfl (Or.inl rfl) pe_dnewT)
  (pss_one (ps_for PassesOwn.never rfl (EnT.pi_enumT rfl T.z_enumerate (pa_cons (pv 1) pa_nil)) (pg_tup (by rfl) (pgs_cons (pg_name (i := 3) sc_check_moves.nd rfl (Or.inl rfl)) (pgs_cons (pg_name (i := 4) sc_check_moves.nd rfl (Or.inl rfl)) pgs_nil)))
    (pss_cons (ps_if (PW.pt (pw_or (pt_not (pt_val (pe_call G_is_move (hr.mono (by decide)) rfl T.g_is_move T.k_is_move T.b_is_move .nil pass0 (pa_cons (pv 0) (pa_cons (pv 4) pa_nil))))) (pw_or1 (pt_cmp (pc_din (hu1 hr) (pe_slice (slTK' (K := K) rfl) (pv 4) po_none (po_some pe_int)) (pv 2))))))
    (pss_one ps_never)
    pss_nil)
  (pss_one (ps_dput (hu1 hr) (pv 2) (pe_slice (slTK' (K := K) rfl) (pv 4) po_none (po_some pe_int)) pe_bl rfl)))))), fun B => (lf_seq (lf_setO (i := 2) lf_newT)
  (lf_for (li_enumT (lf_cons (lf_var (i := 1)) lf_nil)) (lg_tup (lg_cons (lg_name (i := 3)) (lg_cons (lg_name (i := 4)) lg_nil)))
    (lf_seq (lf_if (lf_tOr (lf_tNot (lf_tB (lf_callP (lf_cons (lf_var (i := 0)) (lf_cons (lf_var (i := 4)) lf_nil))))) (lf_tB (lf_din (lf_sl ls_T (lf_var (i := 4)) lf_noPart (lf_part lf_int)) (lf_var (i := 2)))))
    lf_never
    lf_next)
  (lf_dput (lf_var (i := 2)) (lf_sl ls_T (lf_var (i := 4)) lf_noPart (lf_part lf_int)) lf_bl)))), fun B ds k hB hl h => ?_⟩
  obtain ⟨nk, ms, rfl, hr, hn, hz, h⟩ := h
  refine ⟨rfl, ?_⟩
  refine ⟨fun i e => ∃ x y, e = [some (.s (dn nk)), some (.b (dmvs ms)), some (.o (.dT ((ms.take i).map fun m => (kMv m, D.bl true)))), x, y], ⟨_, _, rfl⟩, ?_, ?_⟩
  · rintro i d e hd ⟨x, y, rfl⟩
    obtain ⟨m, hi, rfl⟩ := enum_at hd
    refine ⟨rfl, rfl, rfl, rfl, nk, m, rfl, hr m (List.mem_of_getElem? hi), .F rfl ?_⟩
    show IfB (valD ((ms.take i).map fun m => (kMv m, D.bl true)) (kMv m)).isSome _ _
    have hv : valD ((ms.take i).map fun m => (kMv m, D.bl true)) (kMv m) = none := valD_none (mv_new hn hi)
    rw [hv]
    refine .F rfl ?_
    refine ⟨by rw [List.length_map, List.length_take]; exact lt_line (by omega), some (.s (dn i)), some (.s (dmv m)), ?_⟩
    show [_, _, some (Cell.o (D.dT (putD _ (kMv m) (.bl true)))), _, _] = [_, _, some (Cell.o (D.dT _)), _, _]
    rw [putD_new hv, ← take_map (f := fun m => (kMv m, D.bl true)) hi]
    rfl
  · rintro e ⟨x, y, rfl⟩
    exact h
def dbook (C : Addr) (B : Bk) : D := .ins C [("arities", dns B.ar), ("kinds", dn B.nk), ("rules", drls B.rs), ("moves", dmvs B.ms)]
def fBookInit (C : Addr) : DSp := fun ds k => ∃ B : Bk, ds = [.ins C [], dns B.ar, dn B.nk, drls B.rs, dmvs B.ms] ∧ GoodB B ∧ k .non false (some (dbook C B))
theorem ok_Book_init (T : Txt K mg a w) : FnOk P w K mg base CX0 6 a.f_Book_init a.d_Book_init ["self", "arities", "kinds", "rules", "moves"] (spD ⟨P, w, K⟩ plain (some 0) [false, false, false, false, false] (fBookInit a.c_Book)) := by
  have G_check_frame := ok_check_frame (P := P) (w := w) (base := base) T
  have G_check_rules := ok_check_rules (P := P) (w := w) (base := base) T
  have G_check_moves := ok_check_moves (P := P) (w := w) (base := base) T
  refine okD T.F_Book_init sc_Book_init rfl (by decide) fun cdv A outer s H E hr => ⟨_, fun B => _, (pss_cons (ps_expr (pe_call G_check_frame (hr.mono (by decide)) rfl T.g_check_frame T.k_check_frame T.b_check_frame .nil pass0 (pa_cons (pv 1) (pa_cons (pv 2) (pa_cons (pv 3) (pa_cons (pv 4) pa_nil))))))
  (pss_cons (ps_expr (pe_call G_check_rules (hr.mono (by decide)) rfl T.g_check_rules T.k_check_rules T.b_check_rules .nil pass0 (pa_cons (pv 1) (pa_cons (pv 2) (pa_cons (pv 3) pa_nil)))))
  (pss_cons (ps_expr (pe_call G_check_moves (hr.mono (by decide)) rfl T.g_check_moves T.k_check_moves T.b_check_moves .nil pass0 (pa_cons (pv 2) (pa_cons (pv 4) pa_nil))))
  (pss_cons (ps_fld (pv 0) (pv 1) rfl)
  (pss_cons (ps_fld (pv 0) (pv 2) rfl)
  (pss_cons (ps_fld (pv 0) (pv 3) rfl)
  (pss_one (ps_fld (pv 0) (pv 4) rfl)))))))), fun B => (lf_seq (lf_drop (lf_callP (lf_cons (lf_var (i := 1)) (lf_cons (lf_var (i := 2)) (lf_cons (lf_var (i := 3)) (lf_cons (lf_var (i := 4)) lf_nil))))))
  (lf_seq (lf_drop (lf_callP (lf_cons (lf_var (i := 1)) (lf_cons (lf_var (i := 2)) (lf_cons (lf_var (i := 3)) lf_nil)))))
  (lf_seq (lf_drop (lf_callP (lf_cons (lf_var (i := 2)) (lf_cons (lf_var (i := 4)) lf_nil))))
  (lf_seq (lf_fldset T.C_Book T.N_arities (lf_var (i := 0)) (lf_var (i := 1)))
  (lf_seq (lf_fldset T.C_Book T.N_kinds (lf_var (i := 0)) (lf_var (i := 2)))
  (lf_seq (lf_fldset T.C_Book T.N_rules (lf_var (i := 0)) (lf_var (i := 3)))
  (lf_fldset T.C_Book T.N_moves (lf_var (i := 0)) (lf_var (i := 4))))))))), fun B ds k hB hl h => ?_⟩
  obtain ⟨B, rfl, g, h⟩ := h
  have hl1 : (B.rs.map drl).length = B.rs.length := List.length_map ..
  have hl2 : (B.ms.map dmv).length = B.ms.length := List.length_map ..
  refine ⟨rfl, B.ar, B.nk, _, _, rfl, g.a1, g.a2, g.a3, g.k1, g.k2, by rw [hl1]; exact g.r1, by rw [hl2]; exact g.m1, ?_⟩
  have r1 := g.r1
  have m1 := g.m1
  refine ⟨rfl, B.ar, B.nk, B.rs, rfl, g.a3, g.r2, g.r3, by omega, ?_⟩
  refine ⟨rfl, B.nk, B.ms, rfl, g.m2, g.m3, by omega, ?_⟩
  exact ⟨rfl, by decide, rfl, by show 1 < 1000; decide, rfl, by show 2 < 1000; decide, rfl, by show 3 < 1000; decide, h⟩
end
end Lk
namespace Lk
open PySem L2 Dl
section
variable {P : Program} {w : World} {K : PySem.W.Frag} {mg : Str → Option Value} {base : Heap} {a : Adr}
def okS : Nat → D → Prop
  | 0, _ => False
  | n + 1, .tup ds => ds.length ≤ 100000 ∧ ∀ x ∈ ds, okS n x
  | n + 1, .lst ds => ds.length ≤ 100000 ∧ ∀ x ∈ ds, okS n x
  | _ + 1, .non => True
  | _ + 1, .bl _ => True
  | _ + 1, .int _ => True
  | _ + 1, .str x => Sh (.str x)
  | _, _ => False
def fSame (n : Nat) : DSp := fun ds k => ∃ d, ds = [d, d] ∧ okS n d ∧ k (.bl true) false none
theorem ok_law_same0 {f : Addr} {fd : FuncData} {ps : List Str} : FnOk P w K mg base CX0 0 f fd ps (spD ⟨P, w, K⟩ plain none [true, true] (fSame 0)) := by
  have no : ∀ vs H Q E, ¬ spD ⟨P, w, K⟩ plain none [true, true] (fSame 0) vs H Q E := fun vs H Q E h => by
    obtain ⟨B, L, ds, _, _, _, _, _, _, k, ⟨d, _, h, _⟩, _⟩ := h
    exact h
  exact ⟨fun vs H Q E h => absurd h (no vs H Q E), fun A outer s H args us vs Q E _ _ _ _ h => absurd h (no vs H Q E)⟩
theorem ok_law_same1 (T : Txt K mg a w) {n : Nat} (G_law_same : FnOk P w K mg base CX0 n a.f_law_same a.d_law_same ["_law_told", "_law_due"] (spD ⟨P, w, K⟩ plain none [true, true] (fSame n))) : FnOk P w K mg base CX0 (n + 1) a.f_law_same a.d_law_same ["_law_told", "_law_due"] (spD ⟨P, w, K⟩ plain none [true, true] (fSame (n + 1))) := by
  refine okD T.F_law_same sc_law_same rfl (by decide) fun cdv A outer s H E hr => ⟨_, fun B => _, (pss_cons (ps_if (PW.pt (pw_or (pt_val (pe_callB (isiK (K := K) rfl) (by rfl) T.z_isinstance (by decide +kernel) (pa_cons (pv 1) (pa_cons (pe_bltn (v := .ty "tuple") rfl T.z_tuple (show bootBuiltins "tuple" = some (.type "tuple") by decide +kernel) rfl) pa_nil)))) (pw_or1 (pt_val (pe_callB (isiK (K := K) rfl) (by rfl) T.z_isinstance (by decide +kernel) (pa_cons (pv 1) (pa_cons (pe_bltn (v := .ty "list") rfl T.z_list (show bootBuiltins "list" = some (.type "list") by decide +kernel) rfl) pa_nil)))))))
    (pss_cons (ps_if (PW.pt (pw_or (pt_cmpR (neK (K := K) rfl hr.units) (pe_callB (isiK (K := K) rfl) (by rfl) T.z_isinstance (by decide +kernel) (pa_cons (pv 0) (pa_cons (pe_bltn (v := .ty "tuple") rfl T.z_tuple (show bootBuiltins "tuple" = some (.type "tuple") by decide +kernel) rfl) pa_nil))) (pe_callB (isiK (K := K) rfl) (by rfl) T.z_isinstance (by decide +kernel) (pa_cons (pv 1) (pa_cons (pe_bltn (v := .ty "tuple") rfl T.z_tuple (show bootBuiltins "tuple" = some (.type "tuple") by decide +kernel) rfl) pa_nil))) (nomark _)) (pw_or1 (pt_cmpR (neK (K := K) rfl hr.units) (pe_callB (isiK (K := K) rfl) (by rfl) T.z_isinstance (by decide +kernel) (pa_cons (pv 0) (pa_cons (pe_bltn (v := .ty "list") rfl T.z_list (show bootBuiltins "list" = some (.type "list") by decide +kernel) rfl) pa_nil))) (pe_callB (isiK (K := K) rfl) (by rfl) T.z_isinstance (by decide +kernel) (pa_cons (pv 1) (pa_cons (pe_bltn (v := .ty "list") rfl T.z_list (show bootBuiltins "list" = some (.type "list") by decide +kernel) rfl) pa_nil))) (nomark _)))))
    (pss_one (ps_ret pe_bl))
    pss_nil)
  (pss_one (ps_ret (pe_and (pe_cmpR (eqK (K := K) rfl hr.units) (pe_callB (lenK' (K := K) rfl) (by rfl) T.z_len PySem.boot_len (pa_cons (pv 0) pa_nil)) (pe_callB (lenK' (K := K) rfl) (by rfl) T.z_len PySem.boot_len (pa_cons (pv 1) pa_nil)) (nomark _)) (pe_one (pe_callB (allK (K := K) rfl rfl) (by rfl) T.z_all (by decide +kernel) (pa_cons (pe_lc (own := [("_law_k", 2)]) (g := gName 2) (tt := tYes) rfl sc_law_same.nd (pi_range1 rfl T.z_range (pa_cons (pe_callB (lenK' (K := K) rfl) (by rfl) T.z_len PySem.boot_len (pa_cons (pv 1) pa_nil)) pa_nil)) (blkOk_by (N := ["_law_told", "_law_due", "_law_k"]) (sc := defScope s_law_same) (by decide +kernel)) (fun _ _ _ _ _ => (pg_name (i := 2) sc_law_same.nd rfl (Or.inl rfl))) (fun _ _ _ _ _ => pts_nil) (fun _ _ _ _ _ => (pe_call G_law_same (hr.mono (Nat.le_refl _)) rfl T.g_law_same T.k_law_same T.b_law_same .nil pass0 (pa_cons (pe_ix (ixK (K := K) rfl) (pv 0) (pv 2) (fun _ _ => rfl)) (pa_cons (pe_ix (ixK (K := K) rfl) (pv 1) (pv 2) (fun _ _ => rfl)) pa_nil))))) pa_nil)))))))
    pss_nil)
  (pss_cons (ps_if (pt_cmpR op_isN (pv 1) pe_non (nomark _))
    (pss_one (ps_ret (pe_cmpR op_isN (pv 0) pe_non (nomark _))))
    pss_nil)
  (pss_cons (ps_if (pt_val (pe_callB (isiK (K := K) rfl) (by rfl) T.z_isinstance (by decide +kernel) (pa_cons (pv 1) (pa_cons (pe_bltn (v := .ty "bool") rfl T.z_bool (show bootBuiltins "bool" = some (.type "bool") by decide +kernel) rfl) pa_nil))))
    (pss_one (ps_ret (pe_and (pe_callB (isiK (K := K) rfl) (by rfl) T.z_isinstance (by decide +kernel) (pa_cons (pv 0) (pa_cons (pe_bltn (v := .ty "bool") rfl T.z_bool (show bootBuiltins "bool" = some (.type "bool") by decide +kernel) rfl) pa_nil))) (pe_one (pe_cmpR (eqK (K := K) rfl hr.units) (pv 0) (pv 1) (nomark _))))))
    pss_nil)
  (pss_cons (ps_if (pt_val (pe_callB (isiK (K := K) rfl) (by rfl) T.z_isinstance (by decide +kernel) (pa_cons (pv 1) (pa_cons (pe_bltn (v := .ty "int") rfl T.z_int (show bootBuiltins "int" = some (.type "int") by decide +kernel) rfl) pa_nil))))
    (pss_one (ps_ret (pe_and (pe_callB (isiK (K := K) rfl) (by rfl) T.z_isinstance (by decide +kernel) (pa_cons (pv 0) (pa_cons (pe_bltn (v := .ty "int") rfl T.z_int (show bootBuiltins "int" = some (.type "int") by decide +kernel) rfl) pa_nil))) (pe_and (pe_not (pe_callB (isiK (K := K) rfl) (by rfl) T.z_isinstance (by decide +kernel) (pa_cons (pv 0) (pa_cons (pe_bltn (v := .ty "bool") rfl T.z_bool (show bootBuiltins "bool" = some (.type "bool") by decide +kernel) rfl) pa_nil)))) (pe_one (pe_cmpR (eqK (K := K) rfl hr.units) (pv 0) (pv 1) (nomark _)))))))
    pss_nil)
  (pss_one (ps_ret (pe_and (pe_callB (isiK (K := K) rfl) (by rfl) T.z_isinstance (by decide +kernel) (pa_cons (pv 0) (pa_cons (pe_bltn (v := .ty "str") rfl T.z_str (show bootBuiltins "str" = some (.type "str") by decide +kernel) rfl) pa_nil))) (pe_one (pe_cmpR (eqK (K := K) rfl hr.units) (pv 0) (pv 1) (nomark _)))))))))), fun B => (lf_seq (lf_if (lf_tOr (lf_tB (lf_cb (cl_isi T.OC) (lf_cons (lf_var (i := 1)) (lf_cons lf_ty lf_nil)))) (lf_tB (lf_cb (cl_isi T.OC) (lf_cons (lf_var (i := 1)) (lf_cons lf_ty lf_nil)))))
    (lf_seq (lf_if (lf_tOr (lf_tTest (lf_op lo_ne (lf_cb (cl_isi T.OC) (lf_cons (lf_var (i := 0)) (lf_cons lf_ty lf_nil))) (lf_cb (cl_isi T.OC) (lf_cons (lf_var (i := 1)) (lf_cons lf_ty lf_nil))))) (lf_tTest (lf_op lo_ne (lf_cb (cl_isi T.OC) (lf_cons (lf_var (i := 0)) (lf_cons lf_ty lf_nil))) (lf_cb (cl_isi T.OC) (lf_cons (lf_var (i := 1)) (lf_cons lf_ty lf_nil))))))
    (lf_ret lf_bl)
    lf_next)
  (lf_ret (lf_andV (lf_op lo_eq (lf_cb cl_len (lf_cons (lf_var (i := 0)) lf_nil)) (lf_cb cl_len (lf_cons (lf_var (i := 1)) lf_nil))) (lf_cb cl_all (lf_cons (lf_lc (li_range1 (lf_cons (lf_cb cl_len (lf_cons (lf_var (i := 1)) lf_nil)) lf_nil)) (lg_name (i := 2)) lf_yes (lf_callP (lf_cons (lf_op lo_ix (lf_var (i := 0)) (lf_var (i := 2))) (lf_cons (lf_op lo_ix (lf_var (i := 1)) (lf_var (i := 2))) lf_nil)))) lf_nil)))))
    lf_next)
  (lf_seq (lf_if (lf_tTest (lf_op lo_isN (lf_var (i := 1)) lf_non))
    (lf_ret (lf_op lo_isN (lf_var (i := 0)) lf_non))
    lf_next)
  (lf_seq (lf_if (lf_tB (lf_cb (cl_isi T.OC) (lf_cons (lf_var (i := 1)) (lf_cons lf_ty lf_nil))))
    (lf_ret (lf_andV (lf_cb (cl_isi T.OC) (lf_cons (lf_var (i := 0)) (lf_cons lf_ty lf_nil))) (lf_op lo_eq (lf_var (i := 0)) (lf_var (i := 1)))))
    lf_next)
  (lf_seq (lf_if (lf_tB (lf_cb (cl_isi T.OC) (lf_cons (lf_var (i := 1)) (lf_cons lf_ty lf_nil))))
    (lf_ret (lf_andV (lf_cb (cl_isi T.OC) (lf_cons (lf_var (i := 0)) (lf_cons lf_ty lf_nil))) (lf_andV (lf_notV (lf_cb (cl_isi T.OC) (lf_cons (lf_var (i := 0)) (lf_cons lf_ty lf_nil)))) (lf_op lo_eq (lf_var (i := 0)) (lf_var (i := 1))))))
    lf_next)
  (lf_ret (lf_andV (lf_cb (cl_isi T.OC) (lf_cons (lf_var (i := 0)) (lf_cons lf_ty lf_nil))) (lf_op lo_eq (lf_var (i := 0)) (lf_var (i := 1))))))))), fun B ds k hB hl h => ?_⟩
  obtain ⟨d, rfl, hd, h⟩ := h
  cases d with
  | non =>
    exact ⟨false, by decide +kernel, .F rfl ⟨false, by decide +kernel, .F rfl (.T rfl h)⟩⟩
  | bl b =>
    refine ⟨false, by decide +kernel, .F rfl ⟨false, by decide +kernel, .F rfl (.F rfl ⟨true, by decide +kernel, .T rfl ⟨true, by decide +kernel, .T rfl ⟨⟨rfl, rfl⟩, ⟨rfl, rfl⟩, ?_⟩⟩⟩)⟩⟩
    show k (.bl (deq (.bl b) (.bl b))) false none
    rw [deq_bl]
    exact h
  | int i =>
    refine ⟨false, by decide +kernel, .F rfl ⟨false, by decide +kernel, .F rfl (.F rfl ⟨false, by decide +kernel, .F rfl ⟨true, by decide +kernel, .T rfl ⟨true, by decide +kernel, .T rfl ⟨false, by decide +kernel, .T rfl ⟨⟨rfl, rfl⟩, ⟨rfl, rfl⟩, ?_⟩⟩⟩⟩⟩)⟩⟩
    show k (.bl (deq (.int i) (.int i))) false none
    rw [deq_int]
    exact h
  | str x =>
    refine ⟨false, by decide +kernel, .F rfl ⟨false, by decide +kernel, .F rfl (.F rfl ⟨false, by decide +kernel, .F rfl ⟨false, by decide +kernel, .F rfl ⟨true, by decide +kernel, .T rfl ⟨hd, hd, ?_⟩⟩⟩⟩)⟩⟩
    show k (.bl (deq (.str x) (.str x))) false none
    rw [deq_str]
    exact h
  | tup ds =>
    obtain ⟨hz, hx⟩ := hd
    refine ⟨true, by decide +kernel, .T rfl (.T rfl ?_)⟩
    refine ⟨true, by decide +kernel, true, by decide +kernel, ⟨rfl, rfl⟩, ⟨rfl, rfl⟩, .F (by decide +kernel) ⟨false, by decide +kernel, false, by decide +kernel, ⟨rfl, rfl⟩, ⟨rfl, rfl⟩, .F (by decide +kernel) ?_⟩⟩
    refine ⟨⟨rfl, rfl⟩, ⟨rfl, rfl⟩, ?_⟩
    show IfB (deq (.int (ds.length : Nat)) (.int (ds.length : Nat))) _ _
    rw [deq_int]
    refine .T rfl ⟨by omega, by omega, ?_⟩
    rw [Int.toNat_natCast]
    refine ⟨by rw [rng_len]; exact le_line hz, fun i acc e => e = _ ∧ acc = List.replicate i (D.bl true), ⟨rfl, rfl⟩, ?_, ?_⟩
    · rintro i d acc e hd' hacc ⟨rfl, rfl⟩
      have hi : i < ds.length := by
        have := (List.getElem?_eq_some_iff.mp hd').1
        rwa [rng_len] at this
      rw [rng_at hi, Int.zero_add] at hd'
      cases hd'
      refine ⟨rfl, .T rfl ?_⟩
      have ha : atI ds ((i : Nat) : Int) = some ds[i] := by rw [atI_nat hi, List.getElem?_eq_getElem hi]
      show ob (atI ds ((i : Nat) : Int)) _
      refine ob_mk ha ?_
      show ob (atI ds ((i : Nat) : Int)) _
      refine ob_mk ha ?_
      refine ⟨rfl, ds[i], rfl, hx _ (List.getElem_mem hi), rfl, ?_⟩
      rw [List.replicate_succ']
    · rintro acc e _ ⟨rfl, rfl⟩
      rw [rng_len]
      refine ob_mk rfl ?_
      refine ob_mk (bls_rep _) ?_
      rw [all_rep]
      exact h
  | lst ds =>
    obtain ⟨hz, hx⟩ := hd
    refine ⟨false, by decide +kernel, .F rfl ⟨true, by decide +kernel, .T rfl ?_⟩⟩
    refine ⟨false, by decide +kernel, false, by decide +kernel, ⟨rfl, rfl⟩, ⟨rfl, rfl⟩, .F (by decide +kernel) ⟨true, by decide +kernel, true, by decide +kernel, ⟨rfl, rfl⟩, ⟨rfl, rfl⟩, .F (by decide +kernel) ?_⟩⟩
    refine ⟨⟨rfl, rfl⟩, ⟨rfl, rfl⟩, ?_⟩
    show IfB (deq (.int (ds.length : Nat)) (.int (ds.length : Nat))) _ _
    rw [deq_int]
    refine .T rfl ⟨by omega, by omega, ?_⟩
    rw [Int.toNat_natCast]
    refine ⟨by rw [rng_len]; exact le_line hz, fun i acc e => e = _ ∧ acc = List.replicate i (D.bl true), ⟨rfl, rfl⟩, ?_, ?_⟩
    · rintro i d acc e hd' hacc ⟨rfl, rfl⟩
      have hi : i < ds.length := by
        have := (List.getElem?_eq_some_iff.mp hd').1
        rwa [rng_len] at this
      rw [rng_at hi, Int.zero_add] at hd'
      cases hd'
      refine ⟨rfl, .T rfl ?_⟩
      have ha : atI ds ((i : Nat) : Int) = some ds[i] := by rw [atI_nat hi, List.getElem?_eq_getElem hi]
      show ob (atI ds ((i : Nat) : Int)) _
      refine ob_mk ha ?_
      show ob (atI ds ((i : Nat) : Int)) _
      refine ob_mk ha ?_
      refine ⟨rfl, ds[i], rfl, hx _ (List.getElem_mem hi), rfl, ?_⟩
      rw [List.replicate_succ']
    · rintro acc e _ ⟨rfl, rfl⟩
      rw [rng_len]
      refine ob_mk rfl ?_
      refine ob_mk (bls_rep _) ?_
      rw [all_rep]
      exact h
  | _ => exact hd.elim
theorem ok_law_same (T : Txt K mg a w) : ∀ n : Nat, FnOk P w K mg base CX0 n a.f_law_same a.d_law_same ["_law_told", "_law_due"] (spD ⟨P, w, K⟩ plain none [true, true] (fSame n))
  | 0 => ok_law_same0
  | n + 1 => ok_law_same1 T (ok_law_same T n)
/-! tuples of numbers are such data -/
theorem okS_dns (n : Nat) {xs : List Nat} (h : xs.length ≤ 100000) : okS (n + 2) (dns xs) := ⟨by rw [List.length_map]; exact h, fun d hd => by
  obtain ⟨x, _, rfl⟩ := List.mem_map.mp hd
  exact trivial⟩
end
end Lk
namespace Lk
open PySem L2 Dl
section
variable {P : Program} {w : World} {K : PySem.W.Frag} {mg : Str → Option Value} {base : Heap} {a : Adr}
/-! draws -/
theorem lt_getD {xs : List Nat} {i : Nat} (h : i < xs.length) : xs[i]? = some (xs.getD i 0) := by
  rw [List.getD_eq_getElem?_getD, List.getElem?_eq_getElem h]
  rfl

theorem atD {ds : List D} {i : Nat} (h : i < ds.length) : atI ds (i : Int) = some (ds.getD i .non) := by
  rw [atI_nat h, List.getD_eq_getElem?_getD, List.getElem?_eq_getElem h]
  rfl
def fSome : DSp := fun ds k => ∃ (b : Addr) (xs : List D), ds = [.glob b, .lst xs] ∧ 1 ≤ xs.length ∧ xs.length ≤ 100000 ∧ ∀ x ∈ xs, k x false none
def fPrice : DSp := fun ds k => ∃ b : Addr, ds = [.glob b] ∧ ∀ c : Nat, 1 ≤ c → c ≤ 1000 → k (dn c) false none
theorem ok_law_price (T : Txt K mg a w) : FnOk P w K mg base CX0 2 a.f_law_price a.d_law_price ["_law_bag_here"] (spD ⟨P, w, K⟩ baggy none [false] fPrice) := by
  have G_law_pick := ok_law_pick (P := P) (w := w) (base := base) T
  refine okD T.F_law_price sc_law_price rfl (by decide) fun cdv A outer s H E hr => ⟨_, fun B => _, (pss_cons (ps_if (pt_cmpR (eqK (K := K) rfl hr.units) (pe_call G_law_pick (hr.mono (by decide)) rfl T.g_law_pick T.k_law_pick T.b_law_pick .nil pass0 (pa_cons (pv 0) (pa_cons pe_int pa_nil))) pe_int (nomark _))
    (pss_one (ps_ret (pe_op op_add pe_int (pe_call G_law_pick (hr.mono (by decide)) rfl T.g_law_pick T.k_law_pick T.b_law_pick .nil pass0 (pa_cons (pv 0) (pa_cons pe_int pa_nil))))))
    pss_nil)
  (pss_one (ps_ret (pe_op op_add pe_int (pe_call G_law_pick (hr.mono (by decide)) rfl T.g_law_pick T.k_law_pick T.b_law_pick .nil pass0 (pa_cons (pv 0) (pa_cons pe_int pa_nil))))))), fun B => (lf_seq (lf_if (lf_tTest (lf_op lo_eq (lf_pick (fun _ _ _ _ z => z) (lf_cons (lf_var (i := 0)) (lf_cons lf_int lf_nil))) lf_int))
    (lf_ret (lf_op lo_I lf_int (lf_pick (fun _ _ _ _ z => z) (lf_cons (lf_var (i := 0)) (lf_cons lf_int lf_nil)))))
    lf_next)
  (lf_ret (lf_op lo_I lf_int (lf_pick (fun _ _ _ _ z => z) (lf_cons (lf_var (i := 0)) (lf_cons lf_int lf_nil)))))), fun B ds k hB hl h => ?_⟩
  obtain ⟨b, rfl, h⟩ := h
  obtain ⟨b', g, r, rfl, e⟩ := hB
  cases e
  refine ⟨⟨g, rfl⟩, by decide, by decide, fun r0 hr0 => ⟨⟨rfl, rfl⟩, ⟨rfl, rfl⟩, ?_⟩⟩
  show IfB (deq (.int (r0 : Int)) (.int 3)) _ _
  rw [deq_ints]
  have fin : ∀ r1 : Nat, r1 < 1000 → k (.int ((1 : Int) + (r1 : Int))) false none := fun r1 hr1 => by
    rw [show (1 : Int) + (r1 : Int) = ((1 + r1 : Nat) : Int) by omega]
    exact h _ (by omega) (by omega)
  by_cases e0 : r0 = 3
  · rw [decide_eq_true (by omega)]
    exact .T rfl ⟨⟨g, rfl⟩, by decide, by decide, fun r1 hr1 => fin r1 (by omega)⟩
  · rw [decide_eq_false (by omega)]
    exact .F rfl ⟨⟨g, rfl⟩, by decide, by decide, fun r1 hr1 => fin r1 (by omega)⟩
def fWord : DSp := fun ds k => ∃ b : Addr, ds = [.glob b] ∧ ∀ c : Nat, c < 65536 → k (dn c) false none
end
end Lk
namespace Lk
open PySem L2 Dl
section
variable {P : Program} {w : World} {K : PySem.W.Frag} {mg : Str → Option Value} {base : Heap} {a : Adr}
def fLawRules : DSp := fun ds k => ∃ (b : Addr) (ar : List Nat) (nk wanted : Nat), ds = [.glob b, dns ar, dn nk, dn wanted] ∧ 1 ≤ ar.length ∧ ar.length ≤ 100 ∧ (∀ x ∈ ar, x ≤ 2) ∧ 1 ≤ nk ∧ nk ≤ 100 ∧ wanted ≤ 100 ∧ ∀ rs : List Rl, (∀ r ∈ rs, RlOk ar nk r) → (rs.map rkey).Nodup → rs.length ≤ 40 → rs.length ≤ wanted → k (drls rs) false none
def fLawMoves : DSp := fun ds k => ∃ (b : Addr) (nk wanted : Nat), ds = [.glob b, dn nk, dn wanted] ∧ 1 ≤ nk ∧ nk ≤ 100 ∧ wanted ≤ 100 ∧ ∀ ms : List Mv, (∀ m ∈ ms, MvOk nk m) → (ms.map mkey).Nodup → ms.length ≤ 20 → ms.length ≤ wanted → k (dmvs ms) false none
theorem nodup_push {α : Type} {xs : List α} {x : α} (h : xs.Nodup) (hx : ∀ y ∈ xs, y ≠ x) : (xs ++ [x]).Nodup := by
  rw [List.nodup_append]
  refine ⟨h, by simp, fun y hy z hz => ?_⟩
  rw [List.mem_singleton.mp hz]
  exact hx y hy
theorem ok_law_moves (T : Txt K mg a w) : FnOk P w K mg base CX0 3 a.f_law_moves a.d_law_moves ["_law_bag_here", "_law_kinds", "_law_wanted"] (spD ⟨P, w, K⟩ baggy none [false, false, false] fLawMoves) := by
  have G_law_pick := ok_law_pick (P := P) (w := w) (base := base) T
  have G_law_price := ok_law_price (P := P) (w := w) (base := base) T
  refine okD T.F_law_moves sc_law_moves rfl (by decide) fun cdv A outer s H E hr => ⟨_, fun B => _, (pss_cons (ps_set (i := 3) sc_law_moves.nd rfl (Or.inl rfl) pe_dnewT)
  (pss_cons (ps_set (i := 4) sc_law_moves.nd rfl (Or.inl rfl) (pe_lst pa_nil))
  (pss_cons (ps_for PassesOwn.never rfl (pi_range1 rfl T.z_range (pa_cons (pv 2) pa_nil)) (pg_name (i := 5) sc_law_moves.nd rfl (Or.inl rfl))
    (pss_cons (ps_set (i := 6) sc_law_moves.nd rfl (Or.inl rfl) (pe_op op_mod (pe_callTy call_int1 (by rfl) T.z_int (by decide +kernel) (pa_cons (pe_op op_add (pv 5) (pe_call G_law_pick (hr.mono (by decide)) rfl T.g_law_pick T.k_law_pick T.b_law_pick .nil pass0 (pa_cons (pv 0) (pa_cons (pv 1) pa_nil)))) pa_nil)) (pv 1)))
  (pss_cons (ps_set (i := 7) sc_law_moves.nd rfl (Or.inl rfl) (pe_op op_mod (pe_callTy call_int1 (by rfl) T.z_int (by decide +kernel) (pa_cons (pe_op op_add (pe_op op_add (pv 6) pe_int) (pe_call G_law_pick (hr.mono (by decide)) rfl T.g_law_pick T.k_law_pick T.b_law_pick .nil pass0 (pa_cons (pv 0) (pa_cons (pe_callB (call_max2 rfl) (by rfl) T.z_max (by decide +kernel) (pa_cons pe_int (pa_cons (pe_op op_sub (pv 1) pe_int) pa_nil))) pa_nil)))) pa_nil)) (pv 1)))
  (pss_one (ps_if (PW.pt (pw_and (pt_cmpR (neK (K := K) rfl hr.units) (pv 7) (pv 6) (nomark _)) (pw_and (pt_cmp (pc_dnotin (hu1 hr) (pe_tup (pa_cons (pv 6) (pa_cons (pv 7) pa_nil))) (pv 3))) (pw_and1 (pt_cmpR op_lt (pe_callB (lenK' (K := K) rfl) (by rfl) T.z_len PySem.boot_len (pa_cons (pv 4) pa_nil)) pe_int (nomark _))))))
    (pss_cons (ps_dput (hu1 hr) (pv 3) (pe_tup (pa_cons (pv 6) (pa_cons (pv 7) pa_nil))) pe_bl rfl)
  (pss_one (ps_expr (pe_bm PySem.F.plainAttrs_list PySem.F.slot_list_append PySem.F.type_list_append mt_append (pv 4) (pa_cons (pe_tup (pa_cons (pv 6) (pa_cons (pv 7) (pa_cons (pe_call G_law_price (hr.mono (by decide)) rfl T.g_law_price T.k_law_price T.b_law_price .nil pass0 (pa_cons (pv 0) pa_nil)) pa_nil)))) pa_nil)))))
    pss_nil)))))
  (pss_one (ps_ret (pe_callTy (tupK (K := K) rfl) (by rfl) T.z_tuple (by decide +kernel) (pa_cons (pv 4) pa_nil))))))), fun B => (lf_seq (lf_setO (i := 3) lf_newT)
  (lf_seq (lf_setO (i := 4) (lf_lst lf_nil))
  (lf_seq (lf_for (li_range1 (lf_cons (lf_var (i := 2)) lf_nil)) (lg_name (i := 5))
    (lf_seq (lf_set (i := 6) (lf_op lo_IC (lf_cb cl_int (lf_cons (lf_op lo_I (lf_var (i := 5)) (lf_pick (fun _ _ _ _ z => z) (lf_cons (lf_var (i := 0)) (lf_cons (lf_var (i := 1)) lf_nil)))) lf_nil)) (lf_var (i := 1))))
  (lf_seq (lf_set (i := 7) (lf_op lo_IC (lf_cb cl_int (lf_cons (lf_op lo_I (lf_op lo_I (lf_var (i := 6)) lf_int) (lf_pick (fun _ _ _ _ z => z) (lf_cons (lf_var (i := 0)) (lf_cons (lf_cb cl_max2 (lf_cons lf_int (lf_cons (lf_op lo_I (lf_var (i := 1)) lf_int) lf_nil))) lf_nil)))) lf_nil)) (lf_var (i := 1))))
  (lf_if (lf_tAnd (lf_tTest (lf_op lo_ne (lf_var (i := 7)) (lf_var (i := 6)))) (lf_tAnd (lf_tB (lf_dni (lf_tup (lf_cons (lf_var (i := 6)) (lf_cons (lf_var (i := 7)) lf_nil))) (lf_var (i := 3)))) (lf_tTest (lf_op lo_B (lf_cb cl_len (lf_cons (lf_var (i := 4)) lf_nil)) lf_int))))
    (lf_seq (lf_dput (lf_var (i := 3)) (lf_tup (lf_cons (lf_var (i := 6)) (lf_cons (lf_var (i := 7)) lf_nil))) lf_bl)
  (lf_drop (lf_bm lm_append (lf_var (i := 4)) (lf_cons (lf_tup (lf_cons (lf_var (i := 6)) (lf_cons (lf_var (i := 7)) (lf_cons (lf_callV (lf_cons (lf_var (i := 0)) lf_nil)) lf_nil)))) lf_nil))))
    lf_next))))
  (lf_ret (lf_cb cl_tup (lf_cons (lf_var (i := 4)) lf_nil)))))), fun B ds k hB hl h => ?_⟩
  obtain ⟨b, nk, wanted, rfl, h1, h2, h3, h⟩ := h
  obtain ⟨b', g, r, rfl, e⟩ := hB
  cases e
  refine ⟨rfl, Nat.zero_le _, rfl, by omega, by omega, ?_⟩
  rw [Int.toNat_natCast]
  refine ⟨fun i e => ∃ (ms : List Mv) (x5 x6 x7 : Option Cell), (∀ m ∈ ms, MvOk nk m) ∧ (ms.map mkey).Nodup ∧ ms.length ≤ 20 ∧ ms.length ≤ i ∧ e = [some (.s (.glob b)), some (.s (dn nk)), some (.s (dn wanted)), some (.o (.dT (ms.map fun m => (kMv m, D.bl true)))), some (.o (.lst (ms.map dmv))), x5, x6, x7], ⟨[], _, _, _, (fun _ h => by cases h), List.nodup_nil, by decide, Nat.le_refl _, rfl⟩, ?_, ?_⟩
  · rintro i d e hd ⟨ms, x5, x6, x7, hm, hn, hz, hzi, rfl⟩
    have hi := (List.getElem?_eq_some_iff.mp hd).1
    rw [rng_len] at hi
    rw [rng_at hi, Int.zero_add] at hd
    cases hd
    have hnk : (0 : Int) < (nk : Int) := by omega
    refine ⟨rfl, ⟨g, rfl⟩, by omega, by omega, fun r0 hr0 => ⟨hnk, ?_⟩⟩
    have e1 : ((i : Int) + (r0 : Int)) % (nk : Int) = (((i + r0) % nk : Nat) : Int) := by rw [← Int.natCast_add]; rfl
    have hs : (i + r0) % nk < nk := Nat.mod_lt _ (by omega)
    rw [e1]
    generalize (i + r0) % nk = src at hs
    refine ⟨rfl, ⟨g, rfl⟩, ?_, ?_, fun r1 hr1 => ⟨hnk, ?_⟩⟩
    · show (0 : Int) < if (nk : Int) - 1 > 1 then (nk : Int) - 1 else 1
      split <;> omega
    · show (if (nk : Int) - 1 > 1 then (nk : Int) - 1 else 1) < 1073741824
      split <;> omega
    have e2 : ((src : Int) + 1 + (r1 : Int)) % (nk : Int) = (((src + 1 + r1) % nk : Nat) : Int) := by
      rw [show (src : Int) + 1 + (r1 : Int) = ((src + 1 + r1 : Nat) : Int) by omega]
      rfl
    have hk : (src + 1 + r1) % nk < nk := Nat.mod_lt _ (by omega)
    rw [e2]
    generalize (src + 1 + r1) % nk = kd at hk
    have skip : ∃ (ms' : List Mv) (x5 x6 x7 : Option Cell), (∀ m ∈ ms', MvOk nk m) ∧ (ms'.map mkey).Nodup ∧ ms'.length ≤ 20 ∧ ms'.length ≤ i + 1 ∧ [some (.s (.glob b)), some (.s (dn nk)), some (.s (dn wanted)), some (.o (.dT (ms.map fun m => (kMv m, D.bl true)))), some (.o (.lst (ms.map dmv))), some (.s (dn i)), some (.s (dn src)), some (.s (dn kd))] = [some (.s (.glob b)), some (.s (dn nk)), some (.s (dn wanted)), some (.o (.dT (ms'.map fun m => (kMv m, D.bl true)))), some (.o (.lst (ms'.map dmv))), x5, x6, x7] := ⟨ms, _, _, _, hm, hn, hz, by omega, rfl⟩
    refine ⟨rfl, ⟨rfl, rfl⟩, ⟨rfl, rfl⟩, ?_⟩
    show IfB (!deq (.int (kd : Int)) (.int (src : Int))) _ _
    rw [deq_ints]
    by_cases ek : kd = src
    · rw [decide_eq_true (by omega)]
      exact .F rfl (.F rfl skip)
    rw [decide_eq_false (by omega)]
    refine .T rfl ?_
    refine ⟨le_line (by show 2 ≤ 100000; decide), ?_⟩
    show IfB (!(valD (ms.map fun m => (kMv m, D.bl true)) [ky src, ky kd]).isSome) _ _
    rw [valD_isSome]
    by_cases he : ∃ x ∈ ms, kMv x = [ky src, ky kd]
    · rw [decide_eq_true he]
      exact .F rfl (.F rfl skip)
    rw [decide_eq_false he]
    refine .T rfl ?_
    show IfB (decide ((((ms.map dmv).length : Nat) : Int) < 20)) _ _
    rw [List.length_map]
    by_cases hz2 : ms.length < 20
    · rw [decide_eq_true (by omega)]
      refine .T rfl ?_
      have hv : valD (ms.map fun m => (kMv m, D.bl true)) [ky src, ky kd] = none := valD_none fun x hx q => he ⟨x, hx, q⟩
      refine ⟨le_line (by show 2 ≤ 100000; decide), by rw [List.length_map]; exact lt_line (by omega), trivial, rfl, ⟨b, g, [], rfl, rfl⟩, b, rfl, fun c hc1 hc2 => ⟨le_line (by show 3 ≤ 100000; decide), by rw [List.length_map]; exact lt_line (by omega), ?_⟩⟩
      refine ⟨ms ++ [⟨src, kd, c⟩], some (.s (dn i)), some (.s (dn src)), some (.s (dn kd)), ?_, ?_, ?_, ?_, ?_⟩
      · intro m hmm
        rcases List.mem_append.mp hmm with hmm | hmm
        · exact hm m hmm
        · rw [List.mem_singleton.mp hmm]
          exact ⟨hs, hk, fun q => ek q.symm, hc1, hc2⟩
      · rw [List.map_append]
        refine nodup_push hn fun y hy q => ?_
        obtain ⟨x, hx, rfl⟩ := List.mem_map.mp hy
        refine he ⟨x, hx, ?_⟩
        have q' : (x.src, x.kind) = (src, kd) := q
        have q1 := congrArg Prod.fst q'
        have q2 := congrArg Prod.snd q'
        show [ky x.src, ky x.kind] = _
        rw [show x.src = src from q1, show x.kind = kd from q2]
      · rw [List.length_append]
        show ms.length + 1 ≤ 20
        omega
      · rw [List.length_append]
        show ms.length + 1 ≤ i + 1
        omega
      · show [some (Cell.s (.glob b)), some (.s (dn nk)), some (.s (dn wanted)), some (.o (.dT (putD _ [ky src, ky kd] (.bl true)))), some (.o (.lst (ms.map dmv ++ [dmv ⟨src, kd, c⟩]))), _, _, _] = _
        rw [putD_new hv, List.map_append, List.map_append]
        rfl
    · rw [decide_eq_false (by omega)]
      exact .F rfl skip
  · rintro e ⟨ms, x5, x6, x7, hm, hn, hz, hzi, rfl⟩
    rw [rng_len] at hzi
    exact h ms hm hn hz hzi
end
end Lk
namespace Lk
open PySem L2 Dl
section
variable {P : Program} {w : World} {K : PySem.W.Frag} {mg : Str → Option Value} {base : Heap} {a : Adr}
theorem ok_law_rules (T : Txt K mg a w) : FnOk P w K mg base CX0 3 a.f_law_rules a.d_law_rules ["_law_bag_here", "_law_arities_here", "_law_kinds", "_law_wanted"] (spD ⟨P, w, K⟩ baggy none [false, false, false, false] fLawRules) := by
  have G_law_pick := ok_law_pick (P := P) (w := w) (base := base) T
  have G_law_price := ok_law_price (P := P) (w := w) (base := base) T
  refine okD T.F_law_rules sc_law_rules rfl (by decide) fun cdv A outer s H E hr => ⟨_, fun B => _, (pss_cons (ps_set (i := 4) sc_law_rules.nd rfl (Or.inl rfl) NeD.pe_new)
  (pss_cons (ps_set (i := 5) sc_law_rules.nd rfl (Or.inl rfl) (pe_lst pa_nil))
  (pss_cons (ps_for PassesOwn.never rfl (pi_range1 rfl T.z_range (pa_cons (pv 3) pa_nil)) (pg_name (i := 6) sc_law_rules.nd rfl (Or.inr rfl))
    (pss_cons (ps_set (i := 7) sc_law_rules.nd rfl (Or.inl rfl) (pe_op op_mod (pe_callTy call_int1 (by rfl) T.z_int (by decide +kernel) (pa_cons (pe_op op_add (pv 6) (pe_call G_law_pick (hr.mono (by decide)) rfl T.g_law_pick T.k_law_pick T.b_law_pick .nil pass0 (pa_cons (pv 0) (pa_cons (pe_callB (lenK' (K := K) rfl) (by rfl) T.z_len PySem.boot_len (pa_cons (pv 1) pa_nil)) pa_nil)))) pa_nil)) (pe_callB (lenK' (K := K) rfl) (by rfl) T.z_len PySem.boot_len (pa_cons (pv 1) pa_nil))))
  (pss_cons (ps_set (i := 8) sc_law_rules.nd rfl (Or.inl rfl) (pe_callTy (tupK (K := K) rfl) (by rfl) T.z_tuple (by decide +kernel) (pa_cons (pe_lc (own := [("_law_j", 10)]) (g := gName 10) (tt := tYes) rfl sc_law_rules.nd (pi_range1 rfl T.z_range (pa_cons (pe_ix (ixK (K := K) rfl) (pv 1) (pv 7) (fun _ _ => rfl)) pa_nil)) (blkOk_by (N := ["_law_bag_here", "_law_arities_here", "_law_kinds", "_law_wanted", "_law_known", "_law_found", "_law_k", "_law_op", "_law_sources", "_law_kind", "_law_j"]) (sc := defScope s_law_rules) (by decide +kernel)) (fun _ _ _ _ _ => (pg_name (i := 10) sc_law_rules.nd rfl (Or.inl rfl))) (fun _ _ _ _ _ => pts_nil) (fun _ _ _ _ _ => (pe_op op_mod (pe_callTy call_int1 (by rfl) T.z_int (by decide +kernel) (pa_cons (pe_op op_add (pe_op op_add (pe_op op_fdivN (pv 6) pe_int) (pv 10)) (pe_call G_law_pick (hr.mono (by decide)) rfl T.g_law_pick T.k_law_pick T.b_law_pick .nil pass0 (pa_cons (pv 0) (pa_cons (pv 2) pa_nil)))) pa_nil)) (pv 2)))) pa_nil)))
  (pss_cons (ps_set (i := 9) sc_law_rules.nd rfl (Or.inl rfl) (pe_op op_mod (pe_callTy call_int1 (by rfl) T.z_int (by decide +kernel) (pa_cons (pe_op op_add (pe_op op_fdivN (pv 6) (pe_callB (lenK' (K := K) rfl) (by rfl) T.z_len PySem.boot_len (pa_cons (pv 1) pa_nil))) (pe_call G_law_pick (hr.mono (by decide)) rfl T.g_law_pick T.k_law_pick T.b_law_pick .nil pass0 (pa_cons (pv 0) (pa_cons (pv 2) pa_nil)))) pa_nil)) (pv 2)))
  (pss_one (ps_if (PW.pt (pw_and (pt_cmp (NeD.pc_notin hr.units (pe_tup (pa_cons (pv 7) (pa_cons (pv 8) (pa_cons (pv 9) pa_nil)))) (pv 4))) (pw_and1 (pt_cmpR op_lt (pe_callB (lenK' (K := K) rfl) (by rfl) T.z_len PySem.boot_len (pa_cons (pv 5) pa_nil)) pe_int (nomark _)))))
    (pss_cons (NeD.ps_putE hr.units (pv 4) (pe_tup (pa_cons (pv 7) (pa_cons (pv 8) (pa_cons (pv 9) pa_nil)))) pe_bl rfl)
  (pss_one (ps_expr (pe_bm PySem.F.plainAttrs_list PySem.F.slot_list_append PySem.F.type_list_append mt_append (pv 5) (pa_cons (pe_tup (pa_cons (pv 7) (pa_cons (pv 8) (pa_cons (pv 9) (pa_cons (pe_call G_law_price (hr.mono (by decide)) rfl T.g_law_price T.k_law_price T.b_law_price .nil pass0 (pa_cons (pv 0) pa_nil)) pa_nil))))) pa_nil)))))
    pss_nil))))))
  (pss_one (ps_ret (pe_callTy (tupK (K := K) rfl) (by rfl) T.z_tuple (by decide +kernel) (pa_cons (pv 5) pa_nil))))))), fun B => (lf_seq (lf_setO (i := 4) lf_newN)
  (lf_seq (lf_setO (i := 5) (lf_lst lf_nil))
  (lf_seq (lf_for (li_range1 (lf_cons (lf_var (i := 3)) lf_nil)) (lg_name (i := 6))
    (lf_seq (lf_set (i := 7) (lf_op lo_IC (lf_cb cl_int (lf_cons (lf_op lo_I (lf_var (i := 6)) (lf_pick (fun _ _ _ _ z => z) (lf_cons (lf_var (i := 0)) (lf_cons (lf_cb cl_len (lf_cons (lf_var (i := 1)) lf_nil)) lf_nil)))) lf_nil)) (lf_cb cl_len (lf_cons (lf_var (i := 1)) lf_nil))))
  (lf_seq (lf_set (i := 8) (lf_cb cl_tup (lf_cons (lf_lc (li_range1 (lf_cons (lf_op lo_ix (lf_var (i := 1)) (lf_var (i := 7))) lf_nil)) (lg_name (i := 10)) lf_yes (lf_op lo_IC (lf_cb cl_int (lf_cons (lf_op lo_I (lf_op lo_I (lf_op lo_IC (lf_var (i := 6)) lf_int) (lf_var (i := 10))) (lf_pick (fun _ _ _ _ z => z) (lf_cons (lf_var (i := 0)) (lf_cons (lf_var (i := 2)) lf_nil)))) lf_nil)) (lf_var (i := 2)))) lf_nil)))
  (lf_seq (lf_set (i := 9) (lf_op lo_IC (lf_cb cl_int (lf_cons (lf_op lo_I (lf_op lo_IC (lf_var (i := 6)) (lf_cb cl_len (lf_cons (lf_var (i := 1)) lf_nil))) (lf_pick (fun _ _ _ _ z => z) (lf_cons (lf_var (i := 0)) (lf_cons (lf_var (i := 2)) lf_nil)))) lf_nil)) (lf_var (i := 2))))
  (lf_if (lf_tAnd (lf_tB (lf_tin (lf_tup (lf_cons (lf_var (i := 7)) (lf_cons (lf_var (i := 8)) (lf_cons (lf_var (i := 9)) lf_nil)))) (lf_var (i := 4)))) (lf_tTest (lf_op lo_B (lf_cb cl_len (lf_cons (lf_var (i := 5)) lf_nil)) lf_int)))
    (lf_seq (lf_nput (lf_var (i := 4)) (lf_tup (lf_cons (lf_var (i := 7)) (lf_cons (lf_var (i := 8)) (lf_cons (lf_var (i := 9)) lf_nil)))) lf_bl)
  (lf_drop (lf_bm lm_append (lf_var (i := 5)) (lf_cons (lf_tup (lf_cons (lf_var (i := 7)) (lf_cons (lf_var (i := 8)) (lf_cons (lf_var (i := 9)) (lf_cons (lf_callV (lf_cons (lf_var (i := 0)) lf_nil)) lf_nil))))) lf_nil))))
    lf_next)))))
  (lf_ret (lf_cb cl_tup (lf_cons (lf_var (i := 5)) lf_nil)))))), fun B ds k hB hl h => ?_⟩
  obtain ⟨b, ar, nk, wanted, rfl, h1, h1b, ha, h2, h2b, h3, h⟩ := h
  obtain ⟨b', g, r, rfl, e⟩ := hB
  cases e
  have hal : ((ar.map dn).length : Int) = (ar.length : Int) := by rw [List.length_map]
  refine ⟨rfl, Nat.zero_le _, rfl, by omega, by omega, ?_⟩
  rw [Int.toNat_natCast]
  refine ⟨fun i e => ∃ (rs : List Rl) (x6 x7 x8 x9 : Option Cell), (∀ r ∈ rs, RlOk ar nk r) ∧ (rs.map rkey).Nodup ∧ rs.length ≤ 40 ∧ rs.length ≤ i ∧ e = [some (.s (.glob b)), some (.s (dns ar)), some (.s (dn nk)), some (.s (dn wanted)), some (.o (.dN (rs.map fun r => (nkRl r, D.bl true)))), some (.o (.lst (rs.map drl))), x6, x7, x8, x9, none], ⟨[], _, _, _, _, (fun _ h => by cases h), List.nodup_nil, by decide, Nat.le_refl _, rfl⟩, ?_, ?_⟩
  · rintro i d e hd ⟨rs, x6, x7, x8, x9, hm, hn, hz, hzi, rfl⟩
    have hi := (List.getElem?_eq_some_iff.mp hd).1
    rw [rng_len] at hi
    rw [rng_at hi, Int.zero_add] at hd
    cases hd
    have hnk : (0 : Int) < (nk : Int) := by omega
    have har : (0 : Int) < ((ar.map dn).length : Int) := by omega
    refine ⟨rfl, ⟨g, rfl⟩, by omega, by omega, fun r0 hr0 => ⟨har, ?_⟩⟩
    have e1 : ((i : Int) + (r0 : Int)) % ((ar.map dn).length : Int) = (((i + r0) % ar.length : Nat) : Int) := by rw [hal, ← Int.natCast_add]; rfl
    have hs : (i + r0) % ar.length < ar.length := Nat.mod_lt _ (by omega)
    rw [e1]
    generalize (i + r0) % ar.length = op at hs
    have eo : ar[op]? = some (ar.getD op 0) := lt_getD hs
    have ho2 := ha _ (List.mem_of_getElem? eo)
    refine ⟨rfl, ?_⟩
    show ob (atI (ar.map dn) ((op : Nat) : Int)) _
    refine ob_mk (at_map eo) ?_
    refine ⟨by omega, by omega, ?_⟩
    rw [Int.toNat_natCast]
    refine ⟨by rw [rng_len]; exact le_line (by omega), fun j acc e => ∃ src : List Nat, src.length = j ∧ (∀ s ∈ src, s < nk) ∧ acc = src.map dn ∧ e = _, ⟨[], rfl, (fun _ h => by cases h), rfl, rfl⟩, ?_, ?_⟩
    · rintro j d acc e hd _ ⟨src, hsl, hsk, rfl, rfl⟩
      have hj := (List.getElem?_eq_some_iff.mp hd).1
      rw [rng_len] at hj
      rw [rng_at hj, Int.zero_add] at hd
      cases hd
      refine ⟨rfl, .T rfl ?_⟩
      refine ⟨⟨by decide, by decide⟩, ⟨g, rfl⟩, by omega, by omega, fun r1 hr1 => ⟨hnk, ?_⟩⟩
      have e2 : (Int.fdiv (i : Int) 2 + (j : Int) + (r1 : Int)) % (nk : Int) = (((i / 2 + j + r1) % nk : Nat) : Int) := by
        rw [show Int.fdiv (i : Int) 2 = ((i / 2 : Nat) : Int) from (Int.ofNat_fdiv i 2).symm, show (((i / 2 : Nat) : Int) + (j : Int) + (r1 : Int)) = ((i / 2 + j + r1 : Nat) : Int) by omega]
        rfl
      rw [e2]
      refine ⟨src ++ [(i / 2 + j + r1) % nk], by rw [List.length_append, hsl]; rfl, fun s hs => ?_, by rw [List.map_append]; rfl, rfl⟩
      rcases List.mem_append.mp hs with hs | hs
      · exact hsk s hs
      · rw [List.mem_singleton.mp hs]
        exact Nat.mod_lt _ (by omega)
    · rintro acc e _ ⟨src, hsl, hsk, rfl, rfl⟩
      rw [rng_len] at hsl
      refine ob_mk rfl ?_
      refine ⟨rfl, ⟨by omega, by omega⟩, ⟨g, rfl⟩, by omega, by omega, fun r1 hr1 => ⟨hnk, ?_⟩⟩
      have e2 : (Int.fdiv (i : Int) ((ar.map dn).length : Int) + (r1 : Int)) % (nk : Int) = (((i / ar.length + r1) % nk : Nat) : Int) := by
        rw [hal, show Int.fdiv (i : Int) (ar.length : Int) = ((i / ar.length : Nat) : Int) from (Int.ofNat_fdiv i ar.length).symm, show (((i / ar.length : Nat) : Int) + (r1 : Int)) = ((i / ar.length + r1 : Nat) : Int) by omega]
        rfl
      have hk : (i / ar.length + r1) % nk < nk := Nat.mod_lt _ (by omega)
      rw [e2]
      generalize (i / ar.length + r1) % nk = kd at hk
      have skip : ∃ (rs' : List Rl) (x6 x7 x8 x9 : Option Cell), (∀ r ∈ rs', RlOk ar nk r) ∧ (rs'.map rkey).Nodup ∧ rs'.length ≤ 40 ∧ rs'.length ≤ i + 1 ∧ [some (.s (.glob b)), some (.s (dns ar)), some (.s (dn nk)), some (.s (dn wanted)), some (.o (.dN (rs.map fun r => (nkRl r, D.bl true)))), some (.o (.lst (rs.map drl))), some (.s (dn i)), some (.s (dn op)), some (.s (dns src)), some (.s (dn kd)), none] = [some (.s (.glob b)), some (.s (dns ar)), some (.s (dn nk)), some (.s (dn wanted)), some (.o (.dN (rs'.map fun r => (nkRl r, D.bl true)))), some (.o (.lst (rs'.map drl))), x6, x7, x8, x9, none] := ⟨rs, _, _, _, _, hm, hn, hz, by omega, rfl⟩
      refine ⟨rfl, le_line (by show 3 ≤ 100000; decide), ?_⟩
      show ob (d3 ⟨op, src, kd, 1⟩).keyNT _
      refine ob_mk (key_d3 _) ⟨dep_nkRl _, ?_⟩
      show IfB (!(valD (rs.map fun r => (nkRl r, D.bl true)) (nkRl ⟨op, src, kd, 1⟩)).isSome) _ _
      rw [valD_isSome]
      by_cases he : ∃ x ∈ rs, nkRl x = nkRl ⟨op, src, kd, 1⟩
      · rw [decide_eq_true he]
        exact .F rfl (.F rfl skip)
      rw [decide_eq_false he]
      refine .T rfl ?_
      show IfB (decide ((((rs.map drl).length : Nat) : Int) < 40)) _ _
      rw [List.length_map]
      by_cases hz2 : rs.length < 40
      · rw [decide_eq_true (by omega)]
        refine .T rfl ?_
        have hv : valD (rs.map fun r => (nkRl r, D.bl true)) (nkRl ⟨op, src, kd, 1⟩) = none := valD_none fun x hx q => he ⟨x, hx, q⟩
        refine ⟨le_line (by show 3 ≤ 100000; decide), ?_⟩
        show ob (d3 ⟨op, src, kd, 1⟩).keyNT _
        refine ob_mk (key_d3 _) ⟨dep_nkRl _, by rw [List.length_map]; exact lt_line (by omega), ?_⟩
        refine ⟨trivial, rfl, ⟨b, g, [], rfl, rfl⟩, b, rfl, fun c hc1 hc2 => ⟨le_line (by show 4 ≤ 100000; decide), by rw [List.length_map]; exact lt_line (by omega), ?_⟩⟩
        refine ⟨rs ++ [⟨op, src, kd, c⟩], some (.s (dn i)), some (.s (dn op)), some (.s (dns src)), some (.s (dn kd)), ?_, ?_, ?_, ?_, ?_⟩
        · intro m hmm
          rcases List.mem_append.mp hmm with hmm | hmm
          · exact hm m hmm
          · rw [List.mem_singleton.mp hmm]
            exact ⟨hs, hsl, hsk, hk, hc1, hc2⟩
        · rw [List.map_append]
          refine nodup_push hn fun y hy q => ?_
          obtain ⟨x, hx, rfl⟩ := List.mem_map.mp hy
          refine he ⟨x, hx, ?_⟩
          have q' : (x.op, x.src, x.kind) = (op, src, kd) := q
          have q1 := congrArg Prod.fst q'
          have q2 := congrArg (fun z => z.2.1) q'
          have q3 := congrArg (fun z => z.2.2) q'
          unfold nkRl
          rw [show x.op = op from q1, show x.src = src from q2, show x.kind = kd from q3]
        · rw [List.length_append]
          show rs.length + 1 ≤ 40
          omega
        · rw [List.length_append]
          show rs.length + 1 ≤ i + 1
          omega
        · show [some (Cell.s (.glob b)), some (.s (dns ar)), some (.s (dn nk)), some (.s (dn wanted)), some (.o (.dN (putD _ (nkRl ⟨op, src, kd, c⟩) (.bl true)))), some (.o (.lst (rs.map drl ++ [drl ⟨op, src, kd, c⟩]))), _, _, _, _, _] = _
          have hv2 : valD (rs.map fun r => (nkRl r, D.bl true)) (nkRl ⟨op, src, kd, c⟩) = none := hv
          rw [putD_new hv2, List.map_append, List.map_append]
          rfl
      · rw [decide_eq_false (by omega)]
        exact .F rfl skip
  · rintro e ⟨rs, x6, x7, x8, x9, hm, hn, hz, hzi, rfl⟩
    rw [rng_len] at hzi
    exact h rs hm hn hz hzi
end
end Lk
namespace Lk
open PySem L2 Dl
section
variable {P : Program} {w : World} {K : PySem.W.Frag} {mg : Str → Option Value} {base : Heap} {a : Adr}
theorem row_at {R : List Row} {i : Nat} {r : Row} (h : R[i]? = some r) : rowAt R i = r := by
  unfold rowAt
  rw [List.getD_eq_getElem?_getD, h]
  rfl
theorem rows_at {R : List Row} {i : Nat} (h : i < R.length) : (R.map drow)[i]? = some (drow (rowAt R i)) := by
  rw [List.getElem?_map, List.getElem?_eq_getElem h]
  unfold rowAt
  rw [List.getD_eq_getElem?_getD, List.getElem?_eq_getElem h]
  rfl
theorem atI_nat {ds : List D} {i : Nat} (h : i < ds.length) : atI ds (i : Int) = ds[i]? := by
  unfold atI
  rw [show ixN ds.length (i : Int) = some i by unfold ixN; simp [h]]
  rfl
def dweb0 (C : Addr) (R : List Row) : D := .ins C [("rows", drows R)]
def fWebInit (C : Addr) : DSp := fun ds k => ∃ R, ds = [.ins C [], drows R] ∧ Good R ∧ R.length ≤ 200 ∧ k .non false (some (.ins C [("rows", drows R)]))
theorem ok_Web_init (T : Txt K mg a w) : FnOk P w K mg base CX0 5 a.f_Web_init a.d_Web_init ["self", "values"] (spD ⟨P, w, K⟩ plain (some 0) [false, false] (fWebInit a.c_Web)) := by
  have G_is_tuple_of := ok_is_tuple_of (P := P) (w := w) (base := base) T
  have G_is_value := ok_is_value (P := P) (w := w) (base := base) T
  refine okD T.F_Web_init sc_Web_init rfl (by decide) fun cdv A outer s H E hr => ⟨_, fun B => _, (pss_cons (ps_if (pt_not (pt_val (pe_call G_is_tuple_of (hr.mono (by decide)) rfl T.g_is_tuple_of T.k_is_tuple_of T.b_is_tuple_of .nil pass0 (pa_cons pe_int (pa_cons pe_int (pa_cons (pv 1) pa_nil))))))
    (pss_one ps_never)
    pss_nil)
  (pss_cons (ps_for PassesOwn.never rfl (EnT.pi_enumT rfl T.z_enumerate (pa_cons (pv 1) pa_nil)) (pg_tup (by rfl) (pgs_cons (pg_name (i := 2) sc_Web_init.nd rfl (Or.inl rfl)) (pgs_cons (pg_name (i := 3) sc_Web_init.nd rfl (Or.inl rfl)) pgs_nil)))
    (pss_one (ps_if (pt_not (pt_val (pe_call G_is_value (hr.mono (by decide)) rfl T.g_is_value T.k_is_value T.b_is_value .nil pass0 (pa_cons (pv 2) (pa_cons (pv 3) pa_nil)))))
    (pss_one ps_never)
    pss_nil)))
  (pss_one (ps_fld (pv 0) (pv 1) rfl)))), fun B => (lf_seq (lf_if (lf_tNot (lf_tB (lf_callP (lf_cons lf_int (lf_cons lf_int (lf_cons (lf_var (i := 1)) lf_nil))))))
    lf_never
    lf_next)
  (lf_seq (lf_for (li_enumT (lf_cons (lf_var (i := 1)) lf_nil)) (lg_tup (lg_cons (lg_name (i := 2)) (lg_cons (lg_name (i := 3)) lg_nil)))
    (lf_if (lf_tNot (lf_tB (lf_callP (lf_cons (lf_var (i := 2)) (lf_cons (lf_var (i := 3)) lf_nil)))))
    lf_never
    lf_next))
  (lf_fldset T.C_Web T.N_rows (lf_var (i := 0)) (lf_var (i := 1))))), fun B ds k hB hl h => ?_⟩
  obtain ⟨R, rfl, hw, hl2, h⟩ := h
  have hlen : (R.map drow).length = R.length := List.length_map ..
  refine ⟨rfl, 0, 200, _, rfl, ?_⟩
  rw [both (by omega) (by omega)]
  refine .F rfl ?_
  refine ⟨fun i envi => ∃ x y, envi = [some (.m (.ins a.c_Web [])), some (.s (drows R)), x, y], ⟨_, _, rfl⟩, ?_, ?_⟩
  · rintro i d envi hd ⟨x, y, rfl⟩
    obtain ⟨r, hr, hd2⟩ : ∃ r, R[i]? = some r ∧ d = .tup [.int ((0 + i : Nat) : Int), drow r] := by
      obtain ⟨r, hr⟩ : ∃ r, R[i]? = some r := ⟨_, List.getElem?_eq_getElem (by have := (List.getElem?_eq_some_iff.mp hd).1; rw [enumD_len, hlen] at this; exact this)⟩
      refine ⟨r, hr, ?_⟩
      have := enumD_at (i := 0) (j := i) (d := drow r) (ds := R.map drow) (by rw [List.getElem?_map, hr]; rfl)
      rw [this] at hd
      exact (Option.some.inj hd).symm
    subst hd2
    have w := hw i (List.getElem?_eq_some_iff.mp hr).1
    unfold parts at w
    rw [row_at hr] at w
    refine ⟨rfl, rfl, rfl, ?_⟩
    refine ⟨rfl, i, r, ?_, w.1, w.2.1, w.2.2, ?_⟩
    · show [D.int ((0 + i : Nat) : Int), drow r] = _
      rw [Nat.zero_add]
      rfl
    · exact .F rfl ⟨_, _, rfl⟩
  · rintro envn ⟨x, y, rfl⟩
    exact ⟨rfl, by decide, h⟩
def fWebOfRows (C : Addr) : DSp := fun ds k => ∃ R, ds = [.lst (R.map drow)] ∧ k (dweb0 C R) true none
def fCheck (C : Addr) : DSp := fun ds k => ∃ (R : List Row) (v : Nat), ds = [dweb0 C R, dn v] ∧ v < R.length ∧ k .non false none
end
end Lk
namespace Lk
open PySem L2 Dl
section
variable {P : Program} {w : World} {K : PySem.W.Frag} {mg : Str → Option Value} {base : Heap} {a : Adr}
def fFree : DSp := fun ds k => ∃ b, ds = [.glob b] ∧ ∀ R : List Row, Good R → 1 ≤ R.length → R.length ≤ 200 → k (drows R) false none
theorem good_add {R : List Row} (g : Good R) {r : Row} (h1 : r.1 ≤ 7) (h2 : r.2.length ≤ 2) (h3 : ∀ p ∈ r.2, p < R.length) : Good (R ++ [r]) := fun i hi => by
  rw [List.length_append] at hi
  have hi : i < R.length + 1 := hi
  have e : rowAt (R ++ [r]) i = if i < R.length then rowAt R i else r := by
    by_cases h : i < R.length
    · rw [if_pos h]
      exact row_at (by rw [List.getElem?_append_left h]; unfold rowAt; rw [List.getD_eq_getElem?_getD, List.getElem?_eq_getElem h]; rfl)
    · rw [if_neg h]
      have e : i = R.length := by omega
      subst e
      exact row_at (by rw [List.getElem?_append_right (Nat.le_refl _), Nat.sub_self]; rfl)
  unfold parts
  rw [e]
  by_cases h : i < R.length
  · rw [if_pos h]
    exact g i h
  · rw [if_neg h]
    exact ⟨h1, h2, fun p hp => by have := h3 p hp; omega⟩
def dFreeA (B : Vol) : TDS := dDrop (dBM fAppend (dVar 1) (dCons (dTup (dCons (dPick B (dCons (dVar 0) (dCons (dC (D.int 8)) dNil))) (dCons (dCB fTupOf (dCons (dLc (dIR1 (dCons (dVar 3) dNil)) (dgName 6) dYes (dPick B (dCons (dVar 0) (dCons (dVar 2) dNil))) [6]) dNil)) dNil))) dNil))
theorem free_A {E : EndsD} {b g : Addr} {R : List Row} {m : Nat} {x6 : Option Cell} (hm : m ≤ 2) (h0 : R.length = 0 → m = 0) (hR : R.length ≤ 200)
    (hnx : ∀ r : Row, r.1 ≤ 7 → r.2.length ≤ 2 → (∀ p ∈ r.2, p < R.length) → ∀ x6, E.nx [some (.s (.glob b)), some (.o (.lst ((R ++ [r]).map drow))), some (.s (dn R.length)), some (.s (dn m)), none, none, x6]) :
    dFreeA (bagVol b g) E [some (.s (.glob b)), some (.o (.lst (R.map drow))), some (.s (dn R.length)), some (.s (dn m)), none, none, x6] := by
  refine ⟨trivial, ⟨g, rfl⟩, by decide, by decide, fun op hop => ?_⟩
  refine ⟨by omega, by omega, ?_⟩
  refine ⟨by rw [rng_len]; exact le_line (by omega), fun j acc e => e = _ ∧ ∃ ps : List Nat, acc = ps.map dn ∧ ps.length = j ∧ ∀ p ∈ ps, p < R.length, ⟨rfl, [], rfl, rfl, fun _ h => by cases h⟩, ?_, ?_⟩
  · rintro j d acc e hd _ ⟨rfl, ps, rfl, hp1, hp2⟩
    have hj := (List.getElem?_eq_some_iff.mp hd).1
    rw [rng_len] at hj
    refine ⟨rfl, .T rfl ⟨⟨g, rfl⟩, by omega, by omega, fun r hr => ⟨rfl, ps ++ [r], ?_, ?_, fun p hp => ?_⟩⟩⟩
    · rw [List.map_append]
      rfl
    · rw [List.length_append, hp1]
      rfl
    · rcases List.mem_append.mp hp with hp | hp
      · exact hp2 p hp
      · rw [List.mem_singleton.mp hp]
        omega
  · rintro acc e _ ⟨rfl, ps, rfl, hp1, hp2⟩
    rw [rng_len] at hp1
    refine ob_mk rfl ?_
    refine ⟨le_line (by show 2 ≤ 100000; decide), by rw [List.length_map]; exact lt_line (by omega), ?_⟩
    have := hnx (op, ps) (by show op ≤ 7; omega) (by show ps.length ≤ 2; omega) hp2
    rw [List.map_append] at this
    exact this _
def dFreeB : TDS := dDrop (dBM fAppend (dVar 1) (dCons (dTup (dCons (dOp (fIC (fun x j => 0 < j) HMod.hMod) (dVar 2) (dC (D.int 8))) (dCons (dCB fTupOf (dCons (dLc (dIR1 (dCons (dVar 3) dNil)) (dgName 6) dYes (dCB fMax2 (dCons (dC (D.int 0)) (dCons (dOp (fI HSub.hSub) (dOp (fI HSub.hSub) (dVar 2) (dC (D.int 1))) (dOp (fIC CMul HMul.hMul) (dVar 6) (dVar 5))) dNil))) [6]) dNil)) dNil))) dNil))
theorem free_B {E : EndsD} {b : Addr} {R : List Row} {m how st : Nat} {x6 : Option Cell} (hm : m ≤ 2) (hR : R.length ≤ 200) (h1 : 1 ≤ R.length) (hst : st ≤ 3)
    (hnx : ∀ r : Row, r.1 ≤ 7 → r.2.length ≤ 2 → (∀ p ∈ r.2, p < R.length) → ∀ x6, E.nx [some (.s (.glob b)), some (.o (.lst ((R ++ [r]).map drow))), some (.s (dn R.length)), some (.s (dn m)), some (.s (dn how)), some (.s (dn st)), x6]) :
    dFreeB E [some (.s (.glob b)), some (.o (.lst (R.map drow))), some (.s (dn R.length)), some (.s (dn m)), some (.s (dn how)), some (.s (dn st)), x6] := by
  refine ⟨trivial, by show (0 : Int) < 8; decide, ?_⟩
  refine ⟨by omega, by omega, ?_⟩
  refine ⟨by rw [rng_len]; exact le_line (by omega), fun j acc e => e = _ ∧ ∃ ps : List Nat, acc = ps.map dn ∧ ps.length = j ∧ ∀ p ∈ ps, p < R.length, ⟨rfl, [], rfl, rfl, fun _ h => by cases h⟩, ?_, ?_⟩
  · rintro j d acc e hd _ ⟨rfl, ps, rfl, hp1, hp2⟩
    have hj := (List.getElem?_eq_some_iff.mp hd).1
    rw [rng_len] at hj
    rw [rng_at hj, Int.zero_add] at hd
    cases hd
    refine ⟨rfl, .T rfl ⟨.inl ⟨by omega, by omega⟩, rfl, ps ++ [(((R.length : Int) - 1) - (j : Int) * (st : Int)).toNat], ?_, ?_, fun p hp => ?_⟩⟩
    · rw [List.map_append]
      show _ ++ [D.int _] = _ ++ [D.int _]
      congr 3
      split <;> omega
    · rw [List.length_append, hp1]
      rfl
    · rcases List.mem_append.mp hp with hp | hp
      · exact hp2 p hp
      · rw [List.mem_singleton.mp hp]
        have : (0 : Int) ≤ (j : Int) * (st : Int) := Int.mul_nonneg (by omega) (by omega)
        omega
  · rintro acc e _ ⟨rfl, ps, rfl, hp1, hp2⟩
    rw [rng_len] at hp1
    refine ob_mk rfl ?_
    refine ⟨le_line (by show 2 ≤ 100000; decide), by rw [List.length_map]; exact lt_line (by omega), ?_⟩
    have := hnx (R.length % 8, ps) (by show R.length % 8 ≤ 7; omega) (by show ps.length ≤ 2; omega) hp2
    rw [List.map_append] at this
    exact this _
theorem ok_law_free_values (T : Txt K mg a w) : FnOk P w K mg base CX0 2 a.f_law_free_values a.d_law_free_values ["_law_bag_here"] (spD ⟨P, w, K⟩ baggy none [false] fFree) := by
  have G_law_pick := ok_law_pick (P := P) (w := w) (base := base) T
  refine okD T.F_law_free_values sc_law_free_values rfl (by decide) fun cdv A outer s H E hr => ⟨_, fun B => _, (pss_cons (ps_if (pt_cmpR (neK (K := K) rfl hr.units) (pe_call G_law_pick (hr.mono (by decide)) rfl T.g_law_pick T.k_law_pick T.b_law_pick .nil pass0 (pa_cons (pv 0) (pa_cons pe_int pa_nil))) pe_int (nomark _))
    (pss_cons (ps_set (i := 1) sc_law_free_values.nd rfl (Or.inl rfl) (pe_lst pa_nil))
  (pss_cons (ps_for PassesOwn.never rfl (pi_range1 rfl T.z_range (pa_cons (pe_op op_add pe_int (pe_call G_law_pick (hr.mono (by decide)) rfl T.g_law_pick T.k_law_pick T.b_law_pick .nil pass0 (pa_cons (pv 0) (pa_cons pe_int pa_nil)))) pa_nil)) (pg_name (i := 2) sc_law_free_values.nd rfl (Or.inr rfl))
    (pss_cons (ps_set (i := 3) sc_law_free_values.nd rfl (Or.inl rfl) (pe_ifExp (pt_cmpR op_gt (pv 2) pe_int (nomark _)) (pe_call G_law_pick (hr.mono (by decide)) rfl T.g_law_pick T.k_law_pick T.b_law_pick .nil pass0 (pa_cons (pv 0) (pa_cons pe_int pa_nil))) pe_int))
  (pss_one (ps_expr (pe_bm PySem.F.plainAttrs_list PySem.F.slot_list_append PySem.F.type_list_append mt_append (pv 1) (pa_cons (pe_tup (pa_cons (pe_call G_law_pick (hr.mono (by decide)) rfl T.g_law_pick T.k_law_pick T.b_law_pick .nil pass0 (pa_cons (pv 0) (pa_cons pe_int pa_nil))) (pa_cons (pe_callTy (tupK (K := K) rfl) (by rfl) T.z_tuple (by decide +kernel) (pa_cons (pe_lc (own := [("_law_j", 6)]) (g := gName 6) (tt := tYes) rfl sc_law_free_values.nd (pi_range1 rfl T.z_range (pa_cons (pv 3) pa_nil)) (blkOk_by (N := ["_law_bag_here", "_law_found", "_law_k", "_law_parts", "_law_how", "_law_step", "_law_j"]) (sc := defScope s_law_free_values) (by decide +kernel)) (fun _ _ _ _ _ => (pg_name (i := 6) sc_law_free_values.nd rfl (Or.inl rfl))) (fun _ _ _ _ _ => pts_nil) (fun _ _ _ _ _ => (pe_call G_law_pick (hr.mono (by decide)) rfl T.g_law_pick T.k_law_pick T.b_law_pick .nil pass0 (pa_cons (pv 0) (pa_cons (pv 2) pa_nil))))) pa_nil)) pa_nil))) pa_nil))))))
  (pss_one (ps_ret (pe_callTy (tupK (K := K) rfl) (by rfl) T.z_tuple (by decide +kernel) (pa_cons (pv 1) pa_nil))))))
    pss_nil)
  (pss_cons (ps_set (i := 4) sc_law_free_values.nd rfl (Or.inl rfl) (pe_call G_law_pick (hr.mono (by decide)) rfl T.g_law_pick T.k_law_pick T.b_law_pick .nil pass0 (pa_cons (pv 0) (pa_cons pe_int pa_nil))))
  (pss_cons (ps_set (i := 5) sc_law_free_values.nd rfl (Or.inr rfl) (pe_op op_add pe_int (pe_call G_law_pick (hr.mono (by decide)) rfl T.g_law_pick T.k_law_pick T.b_law_pick .nil pass0 (pa_cons (pv 0) (pa_cons pe_int pa_nil)))))
  (pss_cons (ps_set (i := 1) sc_law_free_values.nd rfl (Or.inl rfl) (pe_lst (pa_cons (pe_tup (pa_cons pe_int (pa_cons (pe_tup pa_nil) pa_nil))) pa_nil)))
  (pss_cons (ps_for PassesOwn.never rfl (pi_range2 rfl T.z_range (pa_cons pe_int (pa_cons (pe_op op_add pe_int (pe_call G_law_pick (hr.mono (by decide)) rfl T.g_law_pick T.k_law_pick T.b_law_pick .nil pass0 (pa_cons (pv 0) (pa_cons pe_int pa_nil)))) pa_nil))) (pg_name (i := 2) sc_law_free_values.nd rfl (Or.inr rfl))
    (pss_cons (ps_set (i := 3) sc_law_free_values.nd rfl (Or.inl rfl) (pe_ix (ixK (K := K) rfl) (pe_tup (pa_cons pe_int (pa_cons (pe_op op_add pe_int (pe_op op_mod (pv 2) pe_int)) (pa_cons pe_int pa_nil)))) (pv 4) (fun _ _ => rfl)))
  (pss_one (ps_expr (pe_bm PySem.F.plainAttrs_list PySem.F.slot_list_append PySem.F.type_list_append mt_append (pv 1) (pa_cons (pe_tup (pa_cons (pe_op op_mod (pv 2) pe_int) (pa_cons (pe_callTy (tupK (K := K) rfl) (by rfl) T.z_tuple (by decide +kernel) (pa_cons (pe_lc (own := [("_law_j", 6)]) (g := gName 6) (tt := tYes) rfl sc_law_free_values.nd (pi_range1 rfl T.z_range (pa_cons (pv 3) pa_nil)) (blkOk_by (N := ["_law_bag_here", "_law_found", "_law_k", "_law_parts", "_law_how", "_law_step", "_law_j"]) (sc := defScope s_law_free_values) (by decide +kernel)) (fun _ _ _ _ _ => (pg_name (i := 6) sc_law_free_values.nd rfl (Or.inl rfl))) (fun _ _ _ _ _ => pts_nil) (fun _ _ _ _ _ => (pe_callB (call_max2 rfl) (by rfl) T.z_max (by decide +kernel) (pa_cons pe_int (pa_cons (pe_op op_sub (pe_op op_sub (pv 2) pe_int) (pe_op op_mul (pv 6) (pv 5))) pa_nil))))) pa_nil)) pa_nil))) pa_nil))))))
  (pss_one (ps_ret (pe_callTy (tupK (K := K) rfl) (by rfl) T.z_tuple (by decide +kernel) (pa_cons (pv 1) pa_nil))))))))), fun B => (lf_seq (lf_if (lf_tTest (lf_op lo_ne (lf_pick (fun _ _ _ _ z => z) (lf_cons (lf_var (i := 0)) (lf_cons lf_int lf_nil))) lf_int))
    (lf_seq (lf_setO (i := 1) (lf_lst lf_nil))
  (lf_seq (lf_for (li_range1 (lf_cons (lf_op lo_I lf_int (lf_pick (fun _ _ _ _ z => z) (lf_cons (lf_var (i := 0)) (lf_cons lf_int lf_nil)))) lf_nil)) (lg_name (i := 2))
    (lf_seq (lf_set (i := 3) (lf_ifE (lf_tTest (lf_op lo_B (lf_var (i := 2)) lf_int)) (lf_pick (fun _ _ _ _ z => z) (lf_cons (lf_var (i := 0)) (lf_cons lf_int lf_nil))) lf_int))
  (lf_drop (lf_bm lm_append (lf_var (i := 1)) (lf_cons (lf_tup (lf_cons (lf_pick (fun _ _ _ _ z => z) (lf_cons (lf_var (i := 0)) (lf_cons lf_int lf_nil))) (lf_cons (lf_cb cl_tup (lf_cons (lf_lc (li_range1 (lf_cons (lf_var (i := 3)) lf_nil)) (lg_name (i := 6)) lf_yes (lf_pick (fun _ _ _ _ z => z) (lf_cons (lf_var (i := 0)) (lf_cons (lf_var (i := 2)) lf_nil)))) lf_nil)) lf_nil))) lf_nil)))))
  (lf_ret (lf_cb cl_tup (lf_cons (lf_var (i := 1)) lf_nil)))))
    lf_next)
  (lf_seq (lf_set (i := 4) (lf_pick (fun _ _ _ _ z => z) (lf_cons (lf_var (i := 0)) (lf_cons lf_int lf_nil))))
  (lf_seq (lf_set (i := 5) (lf_op lo_I lf_int (lf_pick (fun _ _ _ _ z => z) (lf_cons (lf_var (i := 0)) (lf_cons lf_int lf_nil)))))
  (lf_seq (lf_setO (i := 1) (lf_lst (lf_cons (lf_tup (lf_cons lf_int (lf_cons (lf_tup lf_nil) lf_nil))) lf_nil)))
  (lf_seq (lf_for (li_range2 (lf_cons lf_int (lf_cons (lf_op lo_I lf_int (lf_pick (fun _ _ _ _ z => z) (lf_cons (lf_var (i := 0)) (lf_cons lf_int lf_nil)))) lf_nil))) (lg_name (i := 2))
    (lf_seq (lf_set (i := 3) (lf_op lo_ix (lf_tup (lf_cons lf_int (lf_cons (lf_op lo_I lf_int (lf_op lo_IC (lf_var (i := 2)) lf_int)) (lf_cons lf_int lf_nil)))) (lf_var (i := 4))))
  (lf_drop (lf_bm lm_append (lf_var (i := 1)) (lf_cons (lf_tup (lf_cons (lf_op lo_IC (lf_var (i := 2)) lf_int) (lf_cons (lf_cb cl_tup (lf_cons (lf_lc (li_range1 (lf_cons (lf_var (i := 3)) lf_nil)) (lg_name (i := 6)) lf_yes (lf_cb cl_max2 (lf_cons lf_int (lf_cons (lf_op lo_I (lf_op lo_I (lf_var (i := 2)) lf_int) (lf_op lo_IC (lf_var (i := 6)) (lf_var (i := 5)))) lf_nil)))) lf_nil)) lf_nil))) lf_nil)))))
  (lf_ret (lf_cb cl_tup (lf_cons (lf_var (i := 1)) lf_nil)))))))), fun B ds k hB hl h => ?_⟩
  obtain ⟨b, rfl, h⟩ := h
  obtain ⟨b', g, r, rfl, e⟩ := hB
  cases e
  refine ⟨⟨g, rfl⟩, by decide, by decide, fun r0 hr0 => ⟨⟨rfl, rfl⟩, ⟨rfl, rfl⟩, ?_⟩⟩
  show IfB (!deq (.int (r0 : Int)) (.int 7)) _ _
  rw [deq_ints]
  by_cases e0 : r0 = 7
  · rw [decide_eq_true (by omega)]
    refine .F rfl ?_
    refine ⟨⟨g, rfl⟩, by decide, by decide, fun how hhow => ⟨rfl, ⟨g, rfl⟩, by decide, by decide, fun st hst => ⟨rfl, ?_⟩⟩⟩
    refine ⟨le_line (by show 0 ≤ 100000; decide), le_line (by show 2 ≤ 100000; decide), le_line (by show 1 ≤ 100000; decide), rfl, ⟨g, rfl⟩, by decide, by decide, fun r1 hr1 => ?_⟩
    refine ⟨⟨by decide, by decide, by omega, by omega⟩, ?_⟩
    rw [show ((60 : Int) + (r1 : Int) - 1).toNat = 59 + r1 by omega]
    refine ⟨fun i e => ∃ (R : List Row) (x2 x3 x6 : Option Cell), Good R ∧ R.length = i + 1 ∧ e = [some (.s (.glob b)), some (.o (.lst (R.map drow))), x2, x3, some (.s (dn how)), some (.s (dn (1 + st))), x6], ⟨[(0, [])], _, _, _, good_add good_nil (by decide) (by decide) (fun _ h => by cases h), rfl, rfl⟩, ?_, ?_⟩
    · rintro i d e hd ⟨R, x2, x3, x6, gR, hR, rfl⟩
      have hi := (List.getElem?_eq_some_iff.mp hd).1
      rw [rng_len] at hi
      rw [rng_at hi, show (1 : Int) + (i : Int) = (R.length : Int) by omega] at hd
      cases hd
      have fin : ∀ m, m ≤ 2 → dFreeB { nx := fun e => ∃ (R : List Row) (x2 x3 x6 : Option Cell), Good R ∧ R.length = i + 1 + 1 ∧ e = [some (.s (.glob b)), some (.o (.lst (R.map drow))), x2, x3, some (.s (dn how)), some (.s (dn (1 + st))), x6], rt := fun _ _ => False } [some (.s (.glob b)), some (.o (.lst (R.map drow))), some (.s (dn R.length)), some (.s (dn m)), some (.s (dn how)), some (.s (dn (1 + st))), x6] := fun m hm =>
        free_B hm (by omega) (by omega) (by omega) fun r h1 h2 h3 x6 => ⟨R ++ [r], _, _, _, good_add gR h1 h2 h3, by rw [List.length_append, hR]; rfl, rfl⟩
      refine ⟨rfl, by show (0 : Int) < 2; decide, le_line (by show 3 ≤ 100000; decide), ?_⟩
      have em : ∃ m : Nat, m ≤ 2 ∧ atI [D.int 1, D.int (1 + (R.length : Int) % 2), D.int 2] (how : Int) = some (dn m) := by
        rcases (show how = 0 ∨ how = 1 ∨ how = 2 by omega) with rfl | rfl | rfl
        · exact ⟨1, by decide, rfl⟩
        · refine ⟨1 + R.length % 2, by omega, ?_⟩
          show some (D.int (1 + (R.length : Int) % 2)) = some (D.int _)
          rw [show (1 : Int) + (R.length : Int) % 2 = ((1 + R.length % 2 : Nat) : Int) by omega]
        · exact ⟨2, by decide, rfl⟩
      obtain ⟨m, hm, em⟩ := em
      show ob (atI [D.int 1, D.int (1 + (R.length : Int) % 2), D.int 2] (how : Int)) _
      exact ob_mk em ⟨rfl, fin m hm⟩
    · rintro e ⟨R, x2, x3, x6, gR, hR, rfl⟩
      rw [rng_len] at hR
      exact h R gR (by omega) (by omega)
  · rw [decide_eq_false (by omega)]
    refine .T rfl ?_
    refine ⟨Nat.zero_le _, rfl, ⟨g, rfl⟩, by decide, by decide, fun r1 hr1 => ?_⟩
    refine ⟨by omega, by omega, ?_⟩
    rw [show ((1 : Int) + (r1 : Int)).toNat = 1 + r1 by omega]
    refine ⟨fun i e => ∃ (R : List Row) (x2 x3 x6 : Option Cell), Good R ∧ R.length = i ∧ e = [some (.s (.glob b)), some (.o (.lst (R.map drow))), x2, x3, none, none, x6], ⟨[], _, _, _, good_nil, rfl, rfl⟩, ?_, ?_⟩
    · rintro i d e hd ⟨R, x2, x3, x6, gR, hR, rfl⟩
      have hi := (List.getElem?_eq_some_iff.mp hd).1
      rw [rng_len] at hi
      rw [rng_at hi, show (0 : Int) + (i : Int) = (R.length : Int) by omega] at hd
      cases hd
      have fin : ∀ m, m ≤ 2 → (R.length = 0 → m = 0) → dFreeA (bagVol b g) { nx := fun e => ∃ (R : List Row) (x2 x3 x6 : Option Cell), Good R ∧ R.length = i + 1 ∧ e = [some (.s (.glob b)), some (.o (.lst (R.map drow))), x2, x3, none, none, x6], rt := fun _ _ => False } [some (.s (.glob b)), some (.o (.lst (R.map drow))), some (.s (dn R.length)), some (.s (dn m)), none, none, x6] := fun m hm h0 =>
        free_A hm h0 (by omega) fun r h1 h2 h3 x6 => ⟨R ++ [r], _, _, _, good_add gR h1 h2 h3, by rw [List.length_append, hR]; rfl, rfl⟩
      refine ⟨rfl, ?_⟩
      show IfB (decide ((0 : Int) < (R.length : Int))) _ _
      by_cases hz : R.length = 0
      · refine .F (decide_eq_false (by omega)) ⟨rfl, fin 0 (by decide) fun _ => rfl⟩
      · refine .T (decide_eq_true (by omega)) ⟨⟨g, rfl⟩, by decide, by decide, fun m hm => ⟨rfl, fin m (by omega) (by omega)⟩⟩
    · rintro e ⟨R, x2, x3, x6, gR, hR, rfl⟩
      rw [rng_len] at hR
      exact h R gR (by omega) (by omega)
end
end Lk
namespace Lk
open PySem L2 Dl
section
variable {P : Program} {w : World} {K : PySem.W.Frag} {mg : Str → Option Value} {base : Heap} {a : Adr}
def fArities : DSp := fun ds k => ∃ b : Addr, ds = [.glob b] ∧ ∀ ar : List Nat, 1 ≤ ar.length → ar.length ≤ 8 → (∀ x ∈ ar, x ≤ 2) → k (dns ar) false none
theorem ok_law_arities (T : Txt K mg a w) : FnOk P w K mg base CX0 2 a.f_law_arities a.d_law_arities ["_law_bag_here"] (spD ⟨P, w, K⟩ baggy none [false] fArities) := by
  have G_law_pick := ok_law_pick (P := P) (w := w) (base := base) T
  refine okD T.F_law_arities sc_law_arities rfl (by decide) fun cdv A outer s H E hr => ⟨_, fun B => _, (pss_cons (ps_set (i := 1) sc_law_arities.nd rfl (Or.inl rfl) (pe_op op_add pe_int (pe_call G_law_pick (hr.mono (by decide)) rfl T.g_law_pick T.k_law_pick T.b_law_pick .nil pass0 (pa_cons (pv 0) (pa_cons pe_int pa_nil)))))
  (pss_cons (ps_if (pt_cmpR (eqK (K := K) rfl hr.units) (pe_call G_law_pick (hr.mono (by decide)) rfl T.g_law_pick T.k_law_pick T.b_law_pick .nil pass0 (pa_cons (pv 0) (pa_cons pe_int pa_nil))) pe_int (nomark _))
    (pss_one (ps_set (i := 1) sc_law_arities.nd rfl (Or.inl rfl) pe_int))
    pss_nil)
  (pss_cons (ps_set (i := 2) sc_law_arities.nd rfl (Or.inl rfl) (pe_tup (pa_cons pe_int (pa_cons pe_int (pa_cons pe_int (pa_cons pe_int (pa_cons pe_int pa_nil)))))))
  (pss_cons (ps_set (i := 3) sc_law_arities.nd rfl (Or.inl rfl) (pe_lst (pa_cons pe_int pa_nil)))
  (pss_cons (ps_if (pt_cmpR (eqK (K := K) rfl hr.units) (pe_call G_law_pick (hr.mono (by decide)) rfl T.g_law_pick T.k_law_pick T.b_law_pick .nil pass0 (pa_cons (pv 0) (pa_cons pe_int pa_nil))) pe_int (nomark _))
    (pss_one (ps_set (i := 3) sc_law_arities.nd rfl (Or.inl rfl) (pe_lst (pa_cons (pe_op op_add pe_int (pe_call G_law_pick (hr.mono (by decide)) rfl T.g_law_pick T.k_law_pick T.b_law_pick .nil pass0 (pa_cons (pv 0) (pa_cons pe_int pa_nil)))) pa_nil))))
    pss_nil)
  (pss_cons (ps_for PassesOwn.never rfl (pi_range1 rfl T.z_range (pa_cons (pe_op op_sub (pv 1) pe_int) pa_nil)) (pg_name (i := 4) sc_law_arities.nd rfl (Or.inl rfl))
    (pss_one (ps_expr (pe_bm PySem.F.plainAttrs_list PySem.F.slot_list_append PySem.F.type_list_append mt_append (pv 3) (pa_cons (pe_ix (ixK (K := K) rfl) (pv 2) (pe_op op_mod (pe_callTy call_int1 (by rfl) T.z_int (by decide +kernel) (pa_cons (pe_op op_add (pv 4) (pe_call G_law_pick (hr.mono (by decide)) rfl T.g_law_pick T.k_law_pick T.b_law_pick .nil pass0 (pa_cons (pv 0) (pa_cons pe_int pa_nil)))) pa_nil)) pe_int) (fun _ _ => rfl)) pa_nil)))))
  (pss_one (ps_ret (pe_callTy (tupK (K := K) rfl) (by rfl) T.z_tuple (by decide +kernel) (pa_cons (pv 3) pa_nil)))))))))), fun B => (lf_seq (lf_set (i := 1) (lf_op lo_I lf_int (lf_pick (fun _ _ _ _ z => z) (lf_cons (lf_var (i := 0)) (lf_cons lf_int lf_nil)))))
  (lf_seq (lf_join (lf_if (lf_tTest (lf_op lo_eq (lf_pick (fun _ _ _ _ z => z) (lf_cons (lf_var (i := 0)) (lf_cons lf_int lf_nil))) lf_int))
    (lf_set (i := 1) lf_int)
    lf_next))
  (lf_seq (lf_set (i := 2) (lf_tup (lf_cons lf_int (lf_cons lf_int (lf_cons lf_int (lf_cons lf_int (lf_cons lf_int lf_nil)))))))
  (lf_seq (lf_setO (i := 3) (lf_lst (lf_cons lf_int lf_nil)))
  (lf_seq (lf_join (lf_if (lf_tTest (lf_op lo_eq (lf_pick (fun _ _ _ _ z => z) (lf_cons (lf_var (i := 0)) (lf_cons lf_int lf_nil))) lf_int))
    (lf_setO (i := 3) (lf_lst (lf_cons (lf_op lo_I lf_int (lf_pick (fun _ _ _ _ z => z) (lf_cons (lf_var (i := 0)) (lf_cons lf_int lf_nil)))) lf_nil)))
    lf_next))
  (lf_seq (lf_for (li_range1 (lf_cons (lf_op lo_I (lf_var (i := 1)) lf_int) lf_nil)) (lg_name (i := 4))
    (lf_drop (lf_bm lm_append (lf_var (i := 3)) (lf_cons (lf_op lo_ix (lf_var (i := 2)) (lf_op lo_IC (lf_cb cl_int (lf_cons (lf_op lo_I (lf_var (i := 4)) (lf_pick (fun _ _ _ _ z => z) (lf_cons (lf_var (i := 0)) (lf_cons lf_int lf_nil)))) lf_nil)) lf_int)) lf_nil))))
  (lf_ret (lf_cb cl_tup (lf_cons (lf_var (i := 3)) lf_nil))))))))), fun B ds k hB hl h => ?_⟩
  obtain ⟨b, rfl, h⟩ := h
  obtain ⟨b', g, r, rfl, e⟩ := hB
  cases e
  refine ⟨⟨g, rfl⟩, by decide, by decide, fun r0 hr0 => ⟨rfl, ?_⟩⟩
  rw [show (1 : Int) + (r0 : Int) = ((1 + r0 : Nat) : Int) by omega]
  refine ⟨fun e => ∃ c : Nat, 1 ≤ c ∧ c ≤ 8 ∧ e = [some (.s (.glob b)), some (.s (dn c)), none, none, none], ⟨⟨g, rfl⟩, by decide, by decide, fun r1 hr1 => ⟨⟨rfl, rfl⟩, ⟨rfl, rfl⟩, ?_⟩⟩, ?_⟩
  · show IfB (deq (.int (r1 : Int)) (.int 7)) _ _
    rw [deq_ints]
    by_cases e0 : r1 = 7
    · rw [decide_eq_true (by omega)]
      exact .T rfl ⟨rfl, 8, by decide, by decide, rfl⟩
    · rw [decide_eq_false (by omega)]
      exact .F rfl ⟨1 + r0, by omega, by omega, rfl⟩
  rintro e ⟨cnt, hc1, hc8, rfl⟩
  refine ⟨le_line (by show 5 ≤ 100000; decide), rfl, le_line (by show 1 ≤ 100000; decide), rfl, ?_⟩
  refine ⟨fun e => ∃ c : Nat, c ≤ 2 ∧ e = [some (.s (.glob b)), some (.s (dn cnt)), some (.s (dns [1, 2, 0, 1, 2])), some (.o (.lst ([c].map dn))), none], ⟨⟨g, rfl⟩, by decide, by decide, fun r1 hr1 => ⟨⟨rfl, rfl⟩, ⟨rfl, rfl⟩, ?_⟩⟩, ?_⟩
  · show IfB (deq (.int (r1 : Int)) (.int 8)) _ _
    rw [deq_ints]
    by_cases e0 : r1 = 8
    · rw [decide_eq_true (by omega)]
      refine .T rfl ⟨⟨g, rfl⟩, by decide, by decide, fun r2 hr2 => ⟨le_line (by show 1 ≤ 100000; decide), rfl, 1 + r2, by omega, ?_⟩⟩
      show [_, _, _, some (Cell.o (.lst [D.int (1 + (r2 : Int))])), _] = [_, _, _, some (Cell.o (.lst [D.int ((1 + r2 : Nat) : Int)])), _]
      rw [show (1 : Int) + (r2 : Int) = ((1 + r2 : Nat) : Int) by omega]
      rfl
    · rw [decide_eq_false (by omega)]
      exact .F rfl ⟨0, by omega, rfl⟩
  rintro e ⟨c0, hc0, rfl⟩
  refine ⟨by omega, by omega, ?_⟩
  rw [show ((cnt : Int) - 1).toNat = cnt - 1 by omega]
  refine ⟨fun i e => ∃ (ar : List Nat) (x4 : Option Cell), ar.length = i + 1 ∧ (∀ x ∈ ar, x ≤ 2) ∧ e = [some (.s (.glob b)), some (.s (dn cnt)), some (.s (dns [1, 2, 0, 1, 2])), some (.o (.lst (ar.map dn))), x4], ⟨[c0], _, rfl, fun x hx => by rw [List.mem_singleton.mp hx]; exact hc0, rfl⟩, ?_, ?_⟩
  · rintro i d e hd ⟨ar, x4, hl, ha, rfl⟩
    have hi := (List.getElem?_eq_some_iff.mp hd).1
    rw [rng_len] at hi
    rw [rng_at hi, Int.zero_add] at hd
    cases hd
    refine ⟨rfl, trivial, ⟨g, rfl⟩, by decide, by decide, fun r1 hr1 => ⟨by show (0 : Int) < 5; decide, ?_⟩⟩
    have e1 : ((i : Int) + (r1 : Int)) % 5 = (((i + r1) % 5 : Nat) : Int) := by omega
    rw [e1]
    have hlt : (i + r1) % 5 < 5 := Nat.mod_lt _ (by decide)
    generalize (i + r1) % 5 = y at hlt
    show ob (atI ([1, 2, 0, 1, 2].map dn) ((y : Nat) : Int)) _
    have e2 := lt_getD (xs := [1, 2, 0, 1, 2]) (i := y) hlt
    refine ob_mk (at_map e2) ?_
    have h2 : ([1, 2, 0, 1, 2] : List Nat).getD y 0 ≤ 2 := by
      have := List.mem_of_getElem? e2
      revert this
      generalize ([1, 2, 0, 1, 2] : List Nat).getD y 0 = z
      intro hz
      simp only [List.mem_cons, List.not_mem_nil, or_false] at hz
      omega
    refine ⟨by rw [List.length_map]; exact lt_line (by omega), ar ++ [_], _, by rw [List.length_append, hl]; rfl, fun s hs => ?_, by rw [List.map_append]; rfl⟩
    rcases List.mem_append.mp hs with hs | hs
    · exact ha s hs
    · rw [List.mem_singleton.mp hs]
      exact h2
  rintro e ⟨ar, x4, hl, ha, rfl⟩
  rw [rng_len] at hl
  refine ob_mk rfl ?_
  exact h ar (by omega) (by omega) ha
def fLawBook : DSp := fun ds k => ∃ b : Addr, ds = [.glob b] ∧ ∀ B : Bk, GoodB B → k (.tup [dns B.ar, dn B.nk, drls B.rs, dmvs B.ms]) false none
theorem ok_law_book (T : Txt K mg a w) : FnOk P w K mg base CX0 5 a.f_law_book a.d_law_book ["_law_bag_here"] (spD ⟨P, w, K⟩ baggy none [false] fLawBook) := by
  have G_law_pick := ok_law_pick (P := P) (w := w) (base := base) T
  have G_law_arities := ok_law_arities (P := P) (w := w) (base := base) T
  have G_law_rules := ok_law_rules (P := P) (w := w) (base := base) T
  have G_law_moves := ok_law_moves (P := P) (w := w) (base := base) T
  refine okD T.F_law_book sc_law_book rfl (by decide) fun cdv A outer s H E hr => ⟨_, fun B => _, (pss_cons (ps_set (i := 1) sc_law_book.nd rfl (Or.inl rfl) (pe_call G_law_arities (hr.mono (by decide)) rfl T.g_law_arities T.k_law_arities T.b_law_arities .nil pass0 (pa_cons (pv 0) pa_nil)))
  (pss_cons (ps_set (i := 2) sc_law_book.nd rfl (Or.inl rfl) (pe_op op_add pe_int (pe_call G_law_pick (hr.mono (by decide)) rfl T.g_law_pick T.k_law_pick T.b_law_pick .nil pass0 (pa_cons (pv 0) (pa_cons pe_int pa_nil)))))
  (pss_cons (ps_if (pt_cmpR (eqK (K := K) rfl hr.units) (pe_call G_law_pick (hr.mono (by decide)) rfl T.g_law_pick T.k_law_pick T.b_law_pick .nil pass0 (pa_cons (pv 0) (pa_cons pe_int pa_nil))) pe_int (nomark _))
    (pss_one (ps_set (i := 2) sc_law_book.nd rfl (Or.inl rfl) pe_int))
    pss_nil)
  (pss_cons (ps_set (i := 3) sc_law_book.nd rfl (Or.inl rfl) (pe_op op_add pe_int (pe_call G_law_pick (hr.mono (by decide)) rfl T.g_law_pick T.k_law_pick T.b_law_pick .nil pass0 (pa_cons (pv 0) (pa_cons pe_int pa_nil)))))
  (pss_cons (ps_if (pt_cmpR (eqK (K := K) rfl hr.units) (pe_call G_law_pick (hr.mono (by decide)) rfl T.g_law_pick T.k_law_pick T.b_law_pick .nil pass0 (pa_cons (pv 0) (pa_cons pe_int pa_nil))) pe_int (nomark _))
    (pss_one (ps_set (i := 3) sc_law_book.nd rfl (Or.inl rfl) pe_int))
    pss_nil)
  (pss_cons (ps_set (i := 4) sc_law_book.nd rfl (Or.inl rfl) (pe_call G_law_rules (hr.mono (by decide)) rfl T.g_law_rules T.k_law_rules T.b_law_rules .nil pass0 (pa_cons (pv 0) (pa_cons (pv 1) (pa_cons (pv 2) (pa_cons (pv 3) pa_nil))))))
  (pss_cons (ps_set (i := 3) sc_law_book.nd rfl (Or.inl rfl) (pe_call G_law_pick (hr.mono (by decide)) rfl T.g_law_pick T.k_law_pick T.b_law_pick .nil pass0 (pa_cons (pv 0) (pa_cons pe_int pa_nil))))
  (pss_cons (ps_if (pt_cmpR (eqK (K := K) rfl hr.units) (pe_call G_law_pick (hr.mono (by decide)) rfl T.g_law_pick T.k_law_pick T.b_law_pick .nil pass0 (pa_cons (pv 0) (pa_cons pe_int pa_nil))) pe_int (nomark _))
    (pss_one (ps_set (i := 3) sc_law_book.nd rfl (Or.inl rfl) pe_int))
    pss_nil)
  (pss_one (ps_ret (pe_tup (pa_cons (pv 1) (pa_cons (pv 2) (pa_cons (pv 4) (pa_cons (pe_call G_law_moves (hr.mono (by decide)) rfl T.g_law_moves T.k_law_moves T.b_law_moves .nil pass0 (pa_cons (pv 0) (pa_cons (pv 2) (pa_cons (pv 3) pa_nil)))) pa_nil))))))))))))))), fun B => (lf_seq (lf_set (i := 1) (lf_callV (lf_cons (lf_var (i := 0)) lf_nil)))
  (lf_seq (lf_set (i := 2) (lf_op lo_I lf_int (lf_pick (fun _ _ _ _ z => z) (lf_cons (lf_var (i := 0)) (lf_cons lf_int lf_nil)))))
  (lf_seq (lf_join (lf_if (lf_tTest (lf_op lo_eq (lf_pick (fun _ _ _ _ z => z) (lf_cons (lf_var (i := 0)) (lf_cons lf_int lf_nil))) lf_int))
    (lf_set (i := 2) lf_int)
    lf_next))
  (lf_seq (lf_set (i := 3) (lf_op lo_I lf_int (lf_pick (fun _ _ _ _ z => z) (lf_cons (lf_var (i := 0)) (lf_cons lf_int lf_nil)))))
  (lf_seq (lf_join (lf_if (lf_tTest (lf_op lo_eq (lf_pick (fun _ _ _ _ z => z) (lf_cons (lf_var (i := 0)) (lf_cons lf_int lf_nil))) lf_int))
    (lf_set (i := 3) lf_int)
    lf_next))
  (lf_seq (lf_set (i := 4) (lf_callV (lf_cons (lf_var (i := 0)) (lf_cons (lf_var (i := 1)) (lf_cons (lf_var (i := 2)) (lf_cons (lf_var (i := 3)) lf_nil))))))
  (lf_seq (lf_set (i := 3) (lf_pick (fun _ _ _ _ z => z) (lf_cons (lf_var (i := 0)) (lf_cons lf_int lf_nil))))
  (lf_seq (lf_join (lf_if (lf_tTest (lf_op lo_eq (lf_pick (fun _ _ _ _ z => z) (lf_cons (lf_var (i := 0)) (lf_cons lf_int lf_nil))) lf_int))
    (lf_set (i := 3) lf_int)
    lf_next))
  (lf_ret (lf_tup (lf_cons (lf_var (i := 1)) (lf_cons (lf_var (i := 2)) (lf_cons (lf_var (i := 4)) (lf_cons (lf_callV (lf_cons (lf_var (i := 0)) (lf_cons (lf_var (i := 2)) (lf_cons (lf_var (i := 3)) lf_nil)))) lf_nil)))))))))))))), fun B ds k hB hl h => ?_⟩
  obtain ⟨b, rfl, h⟩ := h
  obtain ⟨b', g, r, rfl, e⟩ := hB
  cases e
  refine ⟨rfl, ⟨b, g, [], rfl, rfl⟩, b, rfl, fun ar ha1 ha8 ha => ⟨rfl, ⟨g, rfl⟩, by decide, by decide, fun r0 hr0 => ⟨rfl, ?_⟩⟩⟩
  rw [show (1 : Int) + (r0 : Int) = ((1 + r0 : Nat) : Int) by omega]
  refine ⟨fun e => ∃ c : Nat, 1 ≤ c ∧ c ≤ 5 ∧ e = [some (.s (.glob b)), some (.s (dns ar)), some (.s (dn c)), none, none], ⟨⟨g, rfl⟩, by decide, by decide, fun r1 hr1 => ⟨⟨rfl, rfl⟩, ⟨rfl, rfl⟩, ?_⟩⟩, ?_⟩
  · show IfB (deq (.int (r1 : Int)) (.int 7)) _ _
    rw [deq_ints]
    by_cases e0 : r1 = 7
    · rw [decide_eq_true (by omega)]
      exact .T rfl ⟨rfl, 5, by decide, by decide, rfl⟩
    · rw [decide_eq_false (by omega)]
      exact .F rfl ⟨1 + r0, by omega, by omega, rfl⟩
  rintro e ⟨nk, hn1, hn5, rfl⟩
  refine ⟨⟨g, rfl⟩, by decide, by decide, fun r2 hr2 => ⟨rfl, ?_⟩⟩
  rw [show (3 : Int) + (r2 : Int) = ((3 + r2 : Nat) : Int) by omega]
  refine ⟨fun e => ∃ c : Nat, c ≤ 70 ∧ e = [some (.s (.glob b)), some (.s (dns ar)), some (.s (dn nk)), some (.s (dn c)), none], ⟨⟨g, rfl⟩, by decide, by decide, fun r1 hr1 => ⟨⟨rfl, rfl⟩, ⟨rfl, rfl⟩, ?_⟩⟩, ?_⟩
  · show IfB (deq (.int (r1 : Int)) (.int 6)) _ _
    rw [deq_ints]
    by_cases e0 : r1 = 6
    · rw [decide_eq_true (by omega)]
      exact .T rfl ⟨rfl, 70, by decide, rfl⟩
    · rw [decide_eq_false (by omega)]
      exact .F rfl ⟨3 + r2, by omega, rfl⟩
  rintro e ⟨wt, hw, rfl⟩
  refine ⟨rfl, ⟨b, g, _, rfl, rfl⟩, b, ar, nk, wt, rfl, ha1, by omega, ha, hn1, by omega, by omega, fun rs hr hrn hr40 _ => ⟨rfl, ⟨g, rfl⟩, by decide, by decide, fun r3 hr3 => ⟨rfl, ?_⟩⟩⟩
  refine ⟨fun e => ∃ c : Nat, c ≤ 40 ∧ e = [some (.s (.glob b)), some (.s (dns ar)), some (.s (dn nk)), some (.s (dn c)), some (.s (drls rs))], ⟨⟨g, rfl⟩, by decide, by decide, fun r1 hr1 => ⟨⟨rfl, rfl⟩, ⟨rfl, rfl⟩, ?_⟩⟩, ?_⟩
  · show IfB (deq (.int (r1 : Int)) (.int 5)) _ _
    rw [deq_ints]
    by_cases e0 : r1 = 5
    · rw [decide_eq_true (by omega)]
      exact .T rfl ⟨rfl, 40, by decide, rfl⟩
    · rw [decide_eq_false (by omega)]
      exact .F rfl ⟨r3, by omega, rfl⟩
  rintro e ⟨wm, hw2, rfl⟩
  refine ⟨rfl, ⟨b, g, _, rfl, rfl⟩, b, nk, wm, rfl, hn1, by omega, by omega, fun ms hm hmn hm20 _ => ⟨le_line (by show 4 ≤ 100000; decide), ?_⟩⟩
  exact h ⟨ar, nk, rs, ms⟩ ⟨ha1, ha8, ha, hn1, hn5, hr40, hm20, hr, hm, hrn, hmn⟩
end
end Lk
namespace Lk
open PySem L2 Dl
section
variable {P : Program} {w : World} {K : PySem.W.Frag} {mg : Str → Option Value} {base : Heap} {a : Adr}
def gR (k : Nat) : Rl := ⟨0, [k % 5, k / 5 % 5], k / 25, 1 + k⟩
def gM (k : Nat) : Mv := ⟨k / 4, (k / 4 + 1 + k % 4) % 5, 1000 - k⟩
theorem nodup_range {α : Type} {f : Nat → α} {n : Nat} (h : ∀ i j, i < n → j < n → f i = f j → i = j) : ((List.range n).map f).Nodup := by
  unfold List.Nodup
  rw [List.pairwise_map]
  refine List.Pairwise.imp_of_mem ?_ (List.pairwise_lt_range (n := n))
  intro a b ha hb hab e
  have := h a b (List.mem_range.mp ha) (List.mem_range.mp hb) e
  omega
theorem great_good {ar : List Nat} {nr nm : Nat} (h0 : 2 ≤ ar.length) (h1 : ar.length ≤ 8) (h2 : ar.getD 0 0 = 2) (h3 : ∀ x ∈ ar, x ≤ 2) (hr : nr ≤ 40) (hm : nm ≤ 20) : GoodB ⟨ar, 5, (List.range nr).map gR, (List.range nm).map gM⟩ where
  a1 := by show 1 ≤ ar.length; omega
  a2 := h1
  a3 := h3
  k1 := (by decide : 1 ≤ 5)
  k2 := (by decide : 5 ≤ 5)
  r1 := by rw [List.length_map, List.length_range]; exact hr
  m1 := by rw [List.length_map, List.length_range]; exact hm
  r2 := fun r hr' => by
    obtain ⟨k, hk, rfl⟩ := List.mem_map.mp hr'
    have hk := List.mem_range.mp hk
    refine ⟨by show 0 < ar.length; omega, h2.symm, fun s hs => ?_, by show k / 25 < 5; omega, by show 1 ≤ 1 + k; omega, by show 1 + k ≤ 1000; omega⟩
    show s < 5
    rcases List.mem_cons.mp hs with rfl | hs
    · omega
    · rw [List.mem_singleton.mp hs]
      omega
  m2 := fun r hr' => by
    obtain ⟨k, hk, rfl⟩ := List.mem_map.mp hr'
    have hk := List.mem_range.mp hk
    exact ⟨by show k / 4 < 5; omega, by show (k / 4 + 1 + k % 4) % 5 < 5; omega, by show k / 4 ≠ (k / 4 + 1 + k % 4) % 5; omega, by show 1 ≤ 1000 - k; omega, by show 1000 - k ≤ 1000; omega⟩
  r3 := by
    rw [List.map_map]
    refine nodup_range fun i j hi hj e => ?_
    have e : rkey (gR i) = rkey (gR j) := e
    obtain ⟨_, e2⟩ := Prod.mk.inj e
    obtain ⟨e3, e4⟩ := Prod.mk.inj e2
    have e3 : [i % 5, i / 5 % 5] = [j % 5, j / 5 % 5] := e3
    have e5 := (List.cons.inj e3).1
    have e6 := (List.cons.inj (List.cons.inj e3).2).1
    have e4 : i / 25 = j / 25 := e4
    omega
  m3 := by
    rw [List.map_map]
    refine nodup_range fun i j hi hj e => ?_
    have e : mkey (gM i) = mkey (gM j) := e
    obtain ⟨e1, e2⟩ := Prod.mk.inj e
    have e1 : i / 4 = j / 4 := e1
    have e2 : (i / 4 + 1 + i % 4) % 5 = (j / 4 + 1 + j % 4) % 5 := e2
    omega
theorem take_range_map {α : Type} {f : Nat → α} {n m : Nat} : ((List.range n).map f).take m = (List.range (min m n)).map f := by
  rw [← List.map_take, List.take_range]
theorem cut_any {ds : List D} {n : Nat} : cutD ds none (some ((n : Nat) : Int)) = ds.take n := by
  unfold cutD
  rw [HT.sIx_nat]
  show (ds.drop 0).take (min n ds.length - 0) = _
  rw [List.drop_zero, Nat.sub_zero]
  by_cases h : n ≤ ds.length
  · rw [Nat.min_eq_left h]
  · rw [Nat.min_eq_right (by omega), List.take_length, List.take_of_length_le (by omega)]
structure ArO (ar : List Nat) : Prop where
  h0 : 2 ≤ ar.length
  h1 : ar.length ≤ 10
  h2 : ar.getD 0 0 = 2
  h3 : ∀ x ∈ ar, x ≤ 2
theorem rep0 (n : Nat) : (List.replicate ((6 : Int) + (n : Int)).toNat [D.int 0]).flatten = (List.replicate (6 + n) 0).map dn := by
  rw [show ((6 : Int) + (n : Int)).toNat = 6 + n by omega, List.flatten_replicate_singleton, List.map_replicate]
  rfl
theorem gR_d (j : Nat) : D.tup [.int 0, .tup [.int ((j : Int) % 5), .int (Int.fdiv (j : Int) 5 % 5)], .int (Int.fdiv (j : Int) 25), .int (1 + (j : Int))] = drl (gR j) := by
  rw [show Int.fdiv (j : Int) 5 = ((j / 5 : Nat) : Int) from (Int.ofNat_fdiv j 5).symm, show Int.fdiv (j : Int) 25 = ((j / 25 : Nat) : Int) from (Int.ofNat_fdiv j 25).symm, show (1 : Int) + (j : Int) = ((1 + j : Nat) : Int) by omega]
  rfl
theorem gM_d {j : Nat} (h : j ≤ 1000) : D.tup [.int (Int.fdiv (j : Int) 4), .int ((Int.fdiv (j : Int) 4 + 1 + (j : Int) % 4) % 5), .int (1000 - (j : Int))] = dmv (gM j) := by
  rw [show Int.fdiv (j : Int) 4 = ((j / 4 : Nat) : Int) from (Int.ofNat_fdiv j 4).symm, show (1000 : Int) - (j : Int) = ((1000 - j : Nat) : Int) by omega]
  rfl
def fGreat : DSp := fun ds k => ∃ b : Addr, ds = [.glob b] ∧ ∀ (ar : List Nat) (nr nm : Nat), ArO ar → k (.tup [dns ar, .int 5, .tup ((List.range nr).map fun i => drl (gR i)), .tup ((List.range nm).map fun i => dmv (gM i))]) false none
theorem ok_law_great_book (T : Txt K mg a w) : FnOk P w K mg base CX0 2 a.f_law_great_book a.d_law_great_book ["_law_bag_here"] (spD ⟨P, w, K⟩ baggy none [false] fGreat) := by
  have G_law_pick := ok_law_pick (P := P) (w := w) (base := base) T
  refine okD T.F_law_great_book sc_law_great_book rfl (by decide) fun cdv A outer s H E hr => ⟨_, fun B => _, (pss_cons (ps_set (i := 1) sc_law_great_book.nd rfl (Or.inl rfl) (pe_call G_law_pick (hr.mono (by decide)) rfl T.g_law_pick T.k_law_pick T.b_law_pick .nil pass0 (pa_cons (pv 0) (pa_cons pe_int pa_nil))))
  (pss_cons (ps_set (i := 2) sc_law_great_book.nd rfl (Or.inl rfl) (pe_call G_law_pick (hr.mono (by decide)) rfl T.g_law_pick T.k_law_pick T.b_law_pick .nil pass0 (pa_cons (pv 0) (pa_cons pe_int pa_nil))))
  (pss_cons (ps_par3 (i := 3) (j := 4) (l := 5) (by rfl) sc_law_great_book.nd rfl rfl rfl (by decide) (by decide) (by decide) rfl rfl rfl (pa_cons (pe_tup (pa_cons pe_int (pa_cons pe_int pa_nil))) (pa_cons (pe_op op_add pe_int (pv 1)) (pa_cons (pe_op op_add pe_int (pv 1)) pa_nil))) (by rfl))
  (pss_cons (ps_if (pt_cmpR (eqK (K := K) rfl hr.units) (pv 2) pe_int (nomark _))
    (pss_one (ps_set (i := 4) sc_law_great_book.nd rfl (Or.inl rfl) pe_int))
    pss_nil)
  (pss_cons (ps_if (pt_cmpR (eqK (K := K) rfl hr.units) (pv 2) pe_int (nomark _))
    (pss_one (ps_set (i := 5) sc_law_great_book.nd rfl (Or.inl rfl) pe_int))
    pss_nil)
  (pss_cons (ps_if (pt_cmpR (eqK (K := K) rfl hr.units) (pv 2) pe_int (nomark _))
    (pss_one (ps_par3 (i := 3) (j := 4) (l := 5) (by rfl) sc_law_great_book.nd rfl rfl rfl (by decide) (by decide) (by decide) rfl rfl rfl (pa_cons (pe_op (catTK (K := K) rfl) (pe_tup (pa_cons pe_int pa_nil)) (pe_op (repTAK (K := K) rfl) (pe_tup (pa_cons pe_int pa_nil)) (pe_op op_add pe_int (pv 1)))) (pa_cons pe_int (pa_cons pe_int pa_nil))) (by rfl)))
    pss_nil)
  (pss_cons (ps_set (i := 4) sc_law_great_book.nd rfl (Or.inl rfl) (pe_callTy (tupK (K := K) rfl) (by rfl) T.z_tuple (by decide +kernel) (pa_cons (pe_lc (own := [("_law_k", 6)]) (g := gName 6) (tt := tYes) rfl sc_law_great_book.nd (pi_range1 rfl T.z_range (pa_cons (pv 4) pa_nil)) (blkOk_by (N := ["_law_bag_here", "_law_many", "_law_how", "_law_arities_here", "_law_rules_here", "_law_moves_here", "_law_k"]) (sc := defScope s_law_great_book) (by decide +kernel)) (fun _ _ _ _ _ => (pg_name (i := 6) sc_law_great_book.nd rfl (Or.inl rfl))) (fun _ _ _ _ _ => pts_nil) (fun _ _ _ _ _ => (pe_tup (pa_cons pe_int (pa_cons (pe_tup (pa_cons (pe_op op_mod (pv 6) pe_int) (pa_cons (pe_op op_mod (pe_op op_fdivN (pv 6) pe_int) pe_int) pa_nil))) (pa_cons (pe_op op_fdivN (pv 6) pe_int) (pa_cons (pe_op op_add pe_int (pv 6)) pa_nil))))))) pa_nil)))
  (pss_cons (ps_set (i := 5) sc_law_great_book.nd rfl (Or.inl rfl) (pe_callTy (tupK (K := K) rfl) (by rfl) T.z_tuple (by decide +kernel) (pa_cons (pe_lc (own := [("_law_k", 6)]) (g := gName 6) (tt := tYes) rfl sc_law_great_book.nd (pi_range1 rfl T.z_range (pa_cons (pv 5) pa_nil)) (blkOk_by (N := ["_law_bag_here", "_law_many", "_law_how", "_law_arities_here", "_law_rules_here", "_law_moves_here", "_law_k"]) (sc := defScope s_law_great_book) (by decide +kernel)) (fun _ _ _ _ _ => (pg_name (i := 6) sc_law_great_book.nd rfl (Or.inl rfl))) (fun _ _ _ _ _ => pts_nil) (fun _ _ _ _ _ => (pe_tup (pa_cons (pe_op op_fdivN (pv 6) pe_int) (pa_cons (pe_op op_mod (pe_callTy call_int1 (by rfl) T.z_int (by decide +kernel) (pa_cons (pe_op op_add (pe_op op_add (pe_op op_fdivN (pv 6) pe_int) pe_int) (pe_op op_mod (pv 6) pe_int)) pa_nil)) pe_int) (pa_cons (pe_op op_sub pe_int (pv 6)) pa_nil)))))) pa_nil)))
  (pss_one (ps_ret (pe_tup (pa_cons (pv 3) (pa_cons pe_int (pa_cons (pv 4) (pa_cons (pv 5) pa_nil))))))))))))))), fun B => (lf_seq (lf_set (i := 1) (lf_pick (fun _ _ _ _ z => z) (lf_cons (lf_var (i := 0)) (lf_cons lf_int lf_nil))))
  (lf_seq (lf_set (i := 2) (lf_pick (fun _ _ _ _ z => z) (lf_cons (lf_var (i := 0)) (lf_cons lf_int lf_nil))))
  (lf_seq (lf_par3 (i := 3) (j := 4) (l := 5) (lf_cons (lf_tup (lf_cons lf_int (lf_cons lf_int lf_nil))) (lf_cons (lf_op lo_I lf_int (lf_var (i := 1))) (lf_cons (lf_op lo_I lf_int (lf_var (i := 1))) lf_nil))))
  (lf_seq (lf_join (lf_if (lf_tTest (lf_op lo_eq (lf_var (i := 2)) lf_int))
    (lf_set (i := 4) lf_int)
    lf_next))
  (lf_seq (lf_join (lf_if (lf_tTest (lf_op lo_eq (lf_var (i := 2)) lf_int))
    (lf_set (i := 5) lf_int)
    lf_next))
  (lf_seq (lf_join (lf_if (lf_tTest (lf_op lo_eq (lf_var (i := 2)) lf_int))
    (lf_par3 (i := 3) (j := 4) (l := 5) (lf_cons (lf_op lo_catT (lf_tup (lf_cons lf_int lf_nil)) (lf_op lo_repT (lf_tup (lf_cons lf_int lf_nil)) (lf_op lo_I lf_int (lf_var (i := 1))))) (lf_cons lf_int (lf_cons lf_int lf_nil))))
    lf_next))
  (lf_seq (lf_set (i := 4) (lf_cb cl_tup (lf_cons (lf_lc (li_range1 (lf_cons (lf_var (i := 4)) lf_nil)) (lg_name (i := 6)) lf_yes (lf_tup (lf_cons lf_int (lf_cons (lf_tup (lf_cons (lf_op lo_IC (lf_var (i := 6)) lf_int) (lf_cons (lf_op lo_IC (lf_op lo_IC (lf_var (i := 6)) lf_int) lf_int) lf_nil))) (lf_cons (lf_op lo_IC (lf_var (i := 6)) lf_int) (lf_cons (lf_op lo_I lf_int (lf_var (i := 6))) lf_nil)))))) lf_nil)))
  (lf_seq (lf_set (i := 5) (lf_cb cl_tup (lf_cons (lf_lc (li_range1 (lf_cons (lf_var (i := 5)) lf_nil)) (lg_name (i := 6)) lf_yes (lf_tup (lf_cons (lf_op lo_IC (lf_var (i := 6)) lf_int) (lf_cons (lf_op lo_IC (lf_cb cl_int (lf_cons (lf_op lo_I (lf_op lo_I (lf_op lo_IC (lf_var (i := 6)) lf_int) lf_int) (lf_op lo_IC (lf_var (i := 6)) lf_int)) lf_nil)) lf_int) (lf_cons (lf_op lo_I lf_int (lf_var (i := 6))) lf_nil))))) lf_nil)))
  (lf_ret (lf_tup (lf_cons (lf_var (i := 3)) (lf_cons lf_int (lf_cons (lf_var (i := 4)) (lf_cons (lf_var (i := 5)) lf_nil)))))))))))))), fun B ds k hB hl h => ?_⟩
  obtain ⟨b, rfl, h⟩ := h
  obtain ⟨b', g, r, rfl, e⟩ := hB
  cases e
  refine ⟨⟨g, rfl⟩, by decide, by decide, fun r0 hr0 => ⟨rfl, ⟨g, rfl⟩, by decide, by decide, fun r1 hr1 => ⟨rfl, le_line (by show 2 ≤ 100000; decide), ⟨rfl, rfl, rfl⟩, ?_⟩⟩⟩
  rw [show (38 : Int) + (r0 : Int) = ((38 + r0 : Nat) : Int) by omega, show (18 : Int) + (r0 : Int) = ((18 + r0 : Nat) : Int) by omega]
  refine ⟨fun e => ∃ nr : Nat, nr ≤ 41 ∧ e = [some (.s (.glob b)), some (.s (dn r0)), some (.s (dn r1)), some (.s (dns [2, 0])), some (.s (dn nr)), some (.s (dn (18 + r0))), none], ⟨⟨rfl, rfl⟩, ⟨rfl, rfl⟩, ?_⟩, ?_⟩
  · show IfB (deq (.int (r1 : Int)) (.int 0)) _ _
    rw [deq_ints]
    by_cases e0 : r1 = 0
    · rw [decide_eq_true (by omega)]
      exact .T rfl ⟨rfl, 5, by decide, rfl⟩
    · rw [decide_eq_false (by omega)]
      exact .F rfl ⟨38 + r0, by omega, rfl⟩
  rintro e ⟨nr, hnr, rfl⟩
  refine ⟨fun e => ∃ nm : Nat, nm ≤ 21 ∧ e = [some (.s (.glob b)), some (.s (dn r0)), some (.s (dn r1)), some (.s (dns [2, 0])), some (.s (dn nr)), some (.s (dn nm)), none], ⟨⟨rfl, rfl⟩, ⟨rfl, rfl⟩, ?_⟩, ?_⟩
  · show IfB (deq (.int (r1 : Int)) (.int 1)) _ _
    rw [deq_ints]
    by_cases e0 : r1 = 1
    · rw [decide_eq_true (by omega)]
      exact .T rfl ⟨rfl, 3, by decide, rfl⟩
    · rw [decide_eq_false (by omega)]
      exact .F rfl ⟨18 + r0, by omega, rfl⟩
  rintro e ⟨nm, hnm, rfl⟩
  refine ⟨fun e => ∃ (ar : List Nat) (nr nm : Nat), ArO ar ∧ nr ≤ 41 ∧ nm ≤ 21 ∧ e = [some (.s (.glob b)), some (.s (dn r0)), some (.s (dn r1)), some (.s (dns ar)), some (.s (dn nr)), some (.s (dn nm)), none], ⟨⟨rfl, rfl⟩, ⟨rfl, rfl⟩, ?_⟩, ?_⟩
  · show IfB (deq (.int (r1 : Int)) (.int 2)) _ _
    rw [deq_ints]
    by_cases e0 : r1 = 2
    · rw [decide_eq_true (by omega)]
      refine .T rfl ⟨le_line (by show 1 ≤ 100000; decide), le_line (by show 1 ≤ 100000; decide), ⟨by simp, by omega, by omega, by decide⟩, ?_⟩
      rw [rep0]
      refine ⟨by rw [List.length_map, List.length_replicate]; exact le_line (by show 1 + (6 + r0) ≤ 100000; omega), ⟨rfl, rfl, rfl⟩, 2 :: List.replicate (6 + r0) 0, 7, 0, ⟨?_, ?_, rfl, ?_⟩, by decide, by decide, rfl⟩
      · rw [List.length_cons, List.length_replicate]; omega
      · rw [List.length_cons, List.length_replicate]; omega
      · intro x hx
        rcases List.mem_cons.mp hx with rfl | hx
        · decide
        · rw [(List.mem_replicate.mp hx).2]
          decide
    · rw [decide_eq_false (by omega)]
      exact .F rfl ⟨[2, 0], nr, nm, ⟨by decide, by decide, rfl, by decide⟩, hnr, hnm, rfl⟩
  clear hnr hnm nr nm
  rintro e ⟨ar, nr, nm, hA, hnr, hnm, rfl⟩
  refine ⟨by omega, by omega, ?_⟩
  rw [Int.toNat_natCast]
  refine ⟨by rw [rng_len]; exact le_line (by omega), fun j acc e => acc = ((List.range j).map fun i => drl (gR i)) ∧ e = _, ⟨rfl, rfl⟩, ?_, ?_⟩
  · rintro j d acc e hd _ ⟨rfl, rfl⟩
    have hj := (List.getElem?_eq_some_iff.mp hd).1
    rw [rng_len] at hj
    rw [rng_at hj, Int.zero_add] at hd
    cases hd
    refine ⟨rfl, .T rfl ⟨by show (0 : Int) < 5; decide, ⟨by decide, by decide⟩, by show (0 : Int) < 5; decide, le_line (by show 2 ≤ 100000; decide), ⟨by decide, by decide⟩, le_line (by show 4 ≤ 100000; decide), ?_, rfl⟩⟩
    rw [List.range_succ, List.map_append]
    show _ ++ [_] = _ ++ [drl (gR j)]
    rw [← gR_d]
  rintro acc e _ ⟨rfl, rfl⟩
  rw [rng_len]
  refine ob_mk rfl ?_
  refine ob_mk rfl ⟨rfl, by omega, by omega, ?_⟩
  rw [Int.toNat_natCast]
  refine ⟨by rw [rng_len]; exact le_line (by omega), fun j acc e => acc = ((List.range j).map fun i => dmv (gM i)) ∧ e = _, ⟨rfl, rfl⟩, ?_, ?_⟩
  · rintro j d acc e hd _ ⟨rfl, rfl⟩
    have hj := (List.getElem?_eq_some_iff.mp hd).1
    rw [rng_len] at hj
    rw [rng_at hj, Int.zero_add] at hd
    cases hd
    refine ⟨rfl, .T rfl ⟨⟨by decide, by decide⟩, ⟨by decide, by decide⟩, by show (0 : Int) < 4; decide, by show (0 : Int) < 5; decide, le_line (by show 3 ≤ 100000; decide), ?_, rfl⟩⟩
    rw [List.range_succ, List.map_append]
    show _ ++ [_] = _ ++ [dmv (gM j)]
    rw [← gM_d (by omega)]
  rintro acc e _ ⟨rfl, rfl⟩
  rw [rng_len]
  refine ob_mk rfl ?_
  refine ob_mk rfl ⟨rfl, le_line (by show 4 ≤ 100000; decide), ?_⟩
  exact h ar nr nm hA
theorem ok_law_sound_book (T : Txt K mg a w) : FnOk P w K mg base CX0 6 a.f_law_sound_book a.d_law_sound_book ["_law_bag_here"] (spD ⟨P, w, K⟩ baggy none [false] fLawBook) := by
  have G_law_pick := ok_law_pick (P := P) (w := w) (base := base) T
  have G_law_great_book := ok_law_great_book (P := P) (w := w) (base := base) T
  have G_law_book := ok_law_book (P := P) (w := w) (base := base) T
  refine okD T.F_law_sound_book sc_law_sound_book rfl (by decide) fun cdv A outer s H E hr => ⟨_, fun B => _, (pss_cons (ps_if (pt_cmpR (eqK (K := K) rfl hr.units) (pe_call G_law_pick (hr.mono (by decide)) rfl T.g_law_pick T.k_law_pick T.b_law_pick .nil pass0 (pa_cons (pv 0) (pa_cons pe_int pa_nil))) pe_int (nomark _))
    (pss_cons (ps_asg (pe_call G_law_great_book (hr.mono (by decide)) rfl T.g_law_great_book T.k_law_great_book T.b_law_great_book .nil pass0 (pa_cons (pv 0) pa_nil)) (pg_tup (by rfl) (pgs_cons (pg_name (i := 1) sc_law_sound_book.nd rfl (Or.inl rfl)) (pgs_cons (pg_name (i := 2) sc_law_sound_book.nd rfl (Or.inl rfl)) (pgs_cons (pg_name (i := 3) sc_law_sound_book.nd rfl (Or.inl rfl)) (pgs_cons (pg_name (i := 4) sc_law_sound_book.nd rfl (Or.inl rfl)) pgs_nil))))))
  (pss_one (ps_ret (pe_tup (pa_cons (pe_slice (slTK' (K := K) rfl) (pv 1) po_none (po_some pe_int)) (pa_cons (pv 2) (pa_cons (pe_slice (slTK' (K := K) rfl) (pv 3) po_none (po_some pe_int)) (pa_cons (pe_slice (slTK' (K := K) rfl) (pv 4) po_none (po_some pe_int)) pa_nil))))))))
    pss_nil)
  (pss_one (ps_ret (pe_call G_law_book (hr.mono (by decide)) rfl T.g_law_book T.k_law_book T.b_law_book .nil pass0 (pa_cons (pv 0) pa_nil))))), fun B => (lf_seq (lf_if (lf_tTest (lf_op lo_eq (lf_pick (fun _ _ _ _ z => z) (lf_cons (lf_var (i := 0)) (lf_cons lf_int lf_nil))) lf_int))
    (lf_seq (lf_asg (lf_callV (lf_cons (lf_var (i := 0)) lf_nil)) (lg_tup (lg_cons (lg_name (i := 1)) (lg_cons (lg_name (i := 2)) (lg_cons (lg_name (i := 3)) (lg_cons (lg_name (i := 4)) lg_nil))))))
  (lf_ret (lf_tup (lf_cons (lf_sl ls_T (lf_var (i := 1)) lf_noPart (lf_part lf_int)) (lf_cons (lf_var (i := 2)) (lf_cons (lf_sl ls_T (lf_var (i := 3)) lf_noPart (lf_part lf_int)) (lf_cons (lf_sl ls_T (lf_var (i := 4)) lf_noPart (lf_part lf_int)) lf_nil)))))))
    lf_next)
  (lf_ret (lf_callV (lf_cons (lf_var (i := 0)) lf_nil)))), fun B ds k hB hl h => ?_⟩
  obtain ⟨b, rfl, h⟩ := h
  obtain ⟨b', g, r, rfl, e⟩ := hB
  cases e
  refine ⟨⟨g, rfl⟩, by decide, by decide, fun r0 hr0 => ⟨⟨rfl, rfl⟩, ⟨rfl, rfl⟩, ?_⟩⟩
  show IfB (deq (.int (r0 : Int)) (.int 11)) _ _
  rw [deq_ints]
  by_cases e0 : r0 = 11
  · rw [decide_eq_true (by omega)]
    refine .T rfl ⟨rfl, ⟨b, g, [], rfl, rfl⟩, b, rfl, fun ar nr nm hA => ⟨rfl, rfl, rfl, rfl, rfl, le_line (by show 4 ≤ 100000; decide), ?_⟩⟩
    show k (.tup [.tup (cutD (ar.map dn) none (some ((8 : Nat) : Int))), .int 5, .tup (cutD ((List.range nr).map fun i => drl (gR i)) none (some ((40 : Nat) : Int))), .tup (cutD ((List.range nm).map fun i => dmv (gM i)) none (some ((20 : Nat) : Int)))]) _ _
    rw [cut_any, cut_any, cut_any, take_range_map, take_range_map, ← List.map_take]
    have hg : GoodB ⟨ar.take 8, 5, (List.range (min 40 nr)).map gR, (List.range (min 20 nm)).map gM⟩ := by
      have := hA.h0
      refine great_good ?_ ?_ ?_ ?_ (by omega) (by omega)
      · rw [List.length_take]; omega
      · rw [List.length_take]; omega
      · rw [List.getD_eq_getElem?_getD, List.getElem?_take_of_lt (by omega), ← List.getD_eq_getElem?_getD]
        exact hA.h2
      · exact fun x hx => hA.h3 x (List.mem_of_mem_take hx)
    have := h _ hg
    unfold drls dmvs at this
    rw [List.map_map, List.map_map] at this
    exact this
  · rw [decide_eq_false (by omega)]
    exact .F rfl ⟨rfl, ⟨b, g, [], rfl, rfl⟩, b, rfl, h⟩
end
end Lk
namespace Lk
open PySem L2 Dl
open TL
section
/-! words and lines -/
def nS (n : Nat) : Str := Str.ofString (toString ((n : Nat) : Int))
def sp1 : Str := Str.ofString " "
def nl1 : Str := Str.ofString "\n"
theorem tl_nS (n : Nat) : tl (nS n) = numL n := tl_num n
theorem tl_sp : tl sp1 = [32] := by decide +kernel
theorem tl_nl : tl nl1 = [10] := by decide +kernel
theorem nS_len {n : Nat} (h : n < 1000000000) : (nS n).length ≤ 9 := by
  rw [len_tl, tl_nS]
  exact numL_len (by decide) (by have : (10 : Nat) ^ 9 = 1000000000 := by decide
                                 omega)
theorem nS_digit {n c : Nat} (h : c ∈ tl (nS n)) : 48 ≤ c ∧ c ≤ 57 := by
  rw [tl_nS] at h
  exact numL_digits n c h
theorem log_small {n : Nat} (h : n < 1000000000) : ((n : Nat) : Int).natAbs.log2 < 1920 := by
  rw [Int.natAbs_natCast]
  by_cases h0 : n = 0
  · subst h0
    decide
  · refine (Nat.log2_lt h0).mpr (Nat.lt_of_lt_of_le h ?_)
    calc (1000000000 : Nat) ≤ 2 ^ 30 := by decide
      _ ≤ 2 ^ 1920 := Nat.pow_le_pow_right (by decide) (by decide)
theorem join_len (sep : Str) (ws : List Str) (b : Nat) (h : ∀ w ∈ ws, w.length ≤ b) : (Txt.join sep ws).length ≤ ws.length * (b + sep.length) := by
  rw [join_eq]
  refine Nat.le_trans (StrLaws.join_length_le sep ws) ?_
  have : (ws.map (·.length)).sum ≤ ws.length * b := by
    induction ws with
    | nil => simp
    | cons w ws ih =>
      rw [List.map_cons, List.sum_cons, List.length_cons, Nat.succ_mul]
      have h1 := h w List.mem_cons_self
      have h2 := ih fun x hx => h x (List.mem_cons_of_mem _ hx)
      omega
  rw [Nat.mul_add]
  omega
theorem sum_len (ws : List Str) (b : Nat) (h : ∀ w ∈ ws, w.length ≤ b) : (ws.map (·.length)).sum ≤ ws.length * b := by
  induction ws with
  | nil => simp
  | cons w ws ih =>
    rw [List.map_cons, List.sum_cons, List.length_cons, Nat.succ_mul]
    have h1 := h w List.mem_cons_self
    have h2 := ih fun x hx => h x (List.mem_cons_of_mem _ hx)
    omega
theorem mem_joinL {S : List Nat} {c : Nat} : ∀ {ps : List (List Nat)}, c ∈ joinL S ps → c ∈ S ∨ ∃ p ∈ ps, c ∈ p
  | [], h => nomatch h
  | [p], h => .inr ⟨p, List.mem_singleton.mpr rfl, h⟩
  | p :: q :: r, h => by
    have h : c ∈ p ++ (S ++ joinL S (q :: r)) := h
    rcases List.mem_append.mp h with h | h
    · exact .inr ⟨p, List.mem_cons_self, h⟩
    · rcases List.mem_append.mp h with h | h
      · exact .inl h
      · rcases mem_joinL h with h | ⟨p', hp, h⟩
        · exact .inl h
        · exact .inr ⟨p', List.mem_cons_of_mem _ hp, h⟩
theorem mem_join {sep : Str} {ws : List Str} {c : Nat} (h : c ∈ tl (Txt.join sep ws)) : c ∈ tl sep ∨ ∃ w ∈ ws, c ∈ tl w := by
  rw [join_eq, tl_join] at h
  rcases mem_joinL h with h | ⟨p, hp, h⟩
  · exact .inl h
  · obtain ⟨w, hw, rfl⟩ := List.mem_map.mp hp
    exact .inr ⟨w, hw, h⟩
theorem split_sp {ws : List Str} (hne : ws ≠ []) (h : ∀ w ∈ ws, 32 ∉ tl w) : Txt.split (Txt.join sp1 ws) sp1 = ws := split_join tl_sp (by decide +kernel) hne h
theorem split_nl {ws : List Str} (hne : ws ≠ []) (h : ∀ w ∈ ws, 10 ∉ tl w) : Txt.split (Txt.join nl1 ws) nl1 = ws := split_join tl_nl (by decide +kernel) hne h
theorem nS_free {n c : Nat} (h : c < 48 ∨ 57 < c) : c ∉ tl (nS n) := fun q => by
  have := nS_digit q
  omega
/-- a line: a word, then numbers -/
def lineN (w : Str) (ns : List Nat) : Str := Txt.join sp1 (w :: ns.map nS)
structure WdOk (w : Str) : Prop where
  l : w.length ≤ 9
  f : ∀ c ∈ tl w, 33 ≤ c
theorem nS_wd {n : Nat} (h : n < 1000000000) : WdOk (nS n) := ⟨nS_len h, fun c hc => by
  have := nS_digit hc
  omega⟩
structure LnOk (w : Str) (ns : List Nat) : Prop where
  w : WdOk w
  n : ∀ n ∈ ns, n < 1000000000
  l : ns.length ≤ 20
theorem LnOk.wd {w : Str} {ns : List Nat} (h : LnOk w ns) : ∀ x ∈ w :: ns.map nS, WdOk x := fun x hx => by
  rcases List.mem_cons.mp hx with rfl | hx
  · exact h.w
  · obtain ⟨n, hn, rfl⟩ := List.mem_map.mp hx
    exact nS_wd (h.n n hn)
theorem LnOk.len {w : Str} {ns : List Nat} (h : LnOk w ns) : (lineN w ns).length ≤ 210 := by
  have h1 := join_len sp1 (w :: ns.map nS) 9 fun x hx => (h.wd x hx).l
  have h2 := h.l
  have h3 : sp1.length = 1 := by decide +kernel
  rw [h3, List.length_cons, List.length_map] at h1
  unfold lineN
  omega
theorem LnOk.split {w : Str} {ns : List Nat} (h : LnOk w ns) : Txt.split (lineN w ns) sp1 = w :: ns.map nS := split_sp (by simp) fun x hx q => by
  have := (h.wd x hx).f _ q
  omega
theorem LnOk.free {w : Str} {ns : List Nat} (h : LnOk w ns) : 10 ∉ tl (lineN w ns) := fun q => by
  rcases mem_join q with q | ⟨x, hx, q⟩
  · rw [tl_sp] at q
    simp at q
  · have := (h.wd x hx).f _ q
    omega
theorem digit_uni : ∀ d : Nat, d < 10 → Unicode.isDigit (48 + d) = true := by decide +kernel
theorem nS_isdigit (n : Nat) : Txt.isdigit (nS n) = true := by
  unfold Txt.isdigit
  have h1 : (nS n).length > 0 := by
    rw [len_tl, tl_nS]
    exact List.length_pos_iff.mpr (numL_ne n)
  rw [decide_eq_true h1, Bool.true_and, ← Array.all_toList, List.all_eq_true]
  intro c hc
  obtain ⟨a, b⟩ := nS_digit hc
  have := digit_uni (c - 48) (by omega)
  rwa [show 48 + (c - 48) = c by omega] at this
theorem nS_isascii (n : Nat) : Txt.isascii (nS n) = true := by
  unfold Txt.isascii
  rw [← Array.all_toList, List.all_eq_true]
  intro c hc
  obtain ⟨a, b⟩ := nS_digit hc
  exact decide_eq_true (by omega)
theorem numL_head : ∀ n : Nat, n ≠ 0 → ∃ c r, numL n = c :: r ∧ c ≠ 48 := by
  intro n
  induction n using Nat.strongRecOn with
  | _ n ih =>
    intro h0
    by_cases h : n < 10
    · exact ⟨48 + n, [], numL_lt h, by omega⟩
    · obtain ⟨c, r, e, hc⟩ := ih (n / 10) (by omega) (by omega)
      exact ⟨c, r ++ [48 + n % 10], by rw [numL_step (by omega), e]; rfl, hc⟩
theorem sh_str {x : Str} (h : ∀ c ∈ tl x, c < 1114112) : Sh (.str x) := ⟨rfl, by
  show ((PyData.str x).canLay0 && decide ((PyData.str x).depth ≤ 64)) = true
  rw [Bool.and_eq_true]
  refine ⟨?_, by rfl⟩
  show x.cps.all (· < 1114112) = true
  rw [← Array.all_toList, List.all_eq_true]
  exact fun c hc => decide_eq_true (h c hc)⟩
end
section
variable {P : Program} {w : World} {K : PySem.W.Frag} {mg : Str → Option Value} {base : Heap} {a : Adr}
/-! one number -/
theorem at0 {α : Type} (c : α) (r : List α) : atI (c :: r) 0 = some c := by
  unfold atI
  rw [show ixN (c :: r).length 0 = some 0 by unfold ixN; simp]
  rfl
def fIsNumber : DSp := fun ds k => ∃ n : Nat, ds = [.str (nS n)] ∧ n < 1000000000 ∧ k (.bl true) false none
theorem ok_is_number (T : Txt K mg a w) : FnOk P w K mg base CX0 1 a.f_is_number a.d_is_number ["word"] (spD ⟨P, w, K⟩ plain none [false] fIsNumber) := by
  refine okD T.F_is_number sc_is_number rfl (by decide) fun cdv A outer s H E hr => ⟨_, fun B => _, (pss_one (ps_ret (pe_and (pe_m0 PySem.F.slot_str_isascii PySem.F.type_str_isascii mt_isascii (pv 0)) (pe_and (pe_m0 PySem.F.slot_str_isdigit PySem.F.type_str_isdigit mt_isdigit (pv 0)) (pe_and (pe_cmpR op_le (pe_callB call_len_str (by rfl) T.z_len PySem.boot_len (pa_cons (pv 0) pa_nil)) pe_int (nomark _)) (pe_one (pe_or (pe_cmpR (eqK (K := K) rfl hr.units) (pv 0) pe_str (nomark _)) (pe_one (pe_cmpR (neK (K := K) rfl hr.units) (pe_ix ix_str (pv 0) pe_int (fun _ _ => rfl)) pe_str (nomark _)))))))))), fun B => (lf_ret (lf_andV (lf_m0 lm_isascii (lf_var (i := 0))) (lf_andV (lf_m0 lm_isdigit (lf_var (i := 0))) (lf_andV (lf_op lo_B (lf_cb cl_lenS (lf_cons (lf_var (i := 0)) lf_nil)) lf_int) (lf_orV (lf_op lo_eq (lf_var (i := 0)) lf_str) (lf_op lo_ne (lf_op lo_ixS (lf_var (i := 0)) lf_int) lf_str)))))), fun B ds k hB hl h => ?_⟩
  obtain ⟨n, rfl, hn, h⟩ := h
  have hl := nS_len hn
  have hs : Sh (.str (nS n)) := sh_str fun c hc => by
    have := nS_digit hc
    omega
  have hz : Sh (.str (Str.ofString "0")) := ⟨rfl, by decide +kernel⟩
  refine ⟨rfl, ?_⟩
  show IfB (Txt.isascii (nS n)) _ _
  rw [nS_isascii]
  refine .T rfl ⟨rfl, ?_⟩
  show IfB (Txt.isdigit (nS n)) _ _
  rw [nS_isdigit]
  refine .T rfl ⟨le_line (by omega), ?_⟩
  show IfB (decide (((nS n).length : Int) ≤ 9)) _ _
  rw [decide_eq_true (by omega)]
  refine .T rfl ⟨hs, hz, ?_⟩
  show IfB (deq (.str (nS n)) (.str (Str.ofString "0"))) _ _
  rw [deq_strs]
  by_cases h0 : nS n = Str.ofString "0"
  · rw [decide_eq_true h0]
    exact .T rfl h
  · rw [decide_eq_false h0]
    have hn0 : n ≠ 0 := fun e => h0 (by rw [e]; rfl)
    obtain ⟨c, r, e, hc⟩ := numL_head n hn0
    have e2 : (nS n).cps.toList = c :: r := by
      have := tl_nS n
      rw [e] at this
      exact this
    refine .F rfl ⟨le_line (by omega), ?_⟩
    rw [e2]
    refine ob_mk (at0 c r) ?_
    have hd : c < 1114112 := by
      have := nS_digit (n := n) (c := c) (by show c ∈ (nS n).cps.toList; rw [e2]; exact List.mem_cons_self)
      omega
    refine ⟨sh_str fun x hx => ?_, hz, ?_⟩
    · rw [List.mem_singleton.mp (show x ∈ [c] from hx)]
      exact hd
    show k (.bl (!deq (.str ⟨#[c]⟩) (.str (Str.ofString "0")))) _ _
    rw [deq_strs, decide_eq_false (fun q => hc (by
      have h1 : tl ⟨#[c]⟩ = tl (Str.ofString "0") := by rw [q]
      have h2 : tl (Str.ofString "0") = [48] := by decide +kernel
      rw [h2] at h1
      exact (List.cons.inj h1).1))]
    exact h
theorem cut_tail {α : Type} {f : α → D} {F : List α} {i : Nat} (h : i ≤ F.length) : cutD (F.map f) (some ((i : Nat) : Int)) none = (F.drop i).map f := by
  unfold cutD
  rw [HT.sIx_nat, List.length_map, Nat.min_eq_left h]
  show ((F.map f).drop i).take (F.length - i) = _
  rw [← List.map_drop, List.take_of_length_le (by rw [List.length_map, List.length_drop]; exact Nat.le_refl _)]
def dS (x : Str) : D := .str x
theorem txs_map' (xs : List Str) : txs (xs.map dS) = some xs := strs_map xs
def fNumbersOf : DSp := fun ds k => ∃ ns : List Nat, ds = [.lst ((ns.map nS).map dS)] ∧ (∀ n ∈ ns, n < 1000000000) ∧ ns.length ≤ 100 ∧ k (dns ns) false none
theorem ok_numbers_of (T : Txt K mg a w) : FnOk P w K mg base CX0 2 a.f_numbers_of a.d_numbers_of ["words"] (spD ⟨P, w, K⟩ plain none [true] fNumbersOf) := by
  have G_is_number := ok_is_number (P := P) (w := w) (base := base) T
  refine okD T.F_numbers_of sc_numbers_of rfl (by decide) fun cdv A outer s H E hr => ⟨_, fun B => _, (pss_cons (ps_if (pt_not (pt_val (pe_callB (allK (K := K) rfl rfl) (by rfl) T.z_all (by decide +kernel) (pa_cons (pe_lc (own := [("word", 1)]) (g := gName 1) (tt := tYes) rfl sc_numbers_of.nd (pi_list (pv 0)) (blkOk_by (N := ["words", "word"]) (sc := defScope s_numbers_of) (by decide +kernel)) (fun _ _ _ _ _ => (pg_name (i := 1) sc_numbers_of.nd rfl (Or.inl rfl))) (fun _ _ _ _ _ => pts_nil) (fun _ _ _ _ _ => (pe_call G_is_number (hr.mono (by decide)) rfl T.g_is_number T.k_is_number T.b_is_number .nil pass0 (pa_cons (pv 1) pa_nil)))) pa_nil))))
    (pss_one (ps_ret pe_non))
    pss_nil)
  (pss_one (ps_ret (pe_callTy (tupK (K := K) rfl) (by rfl) T.z_tuple (by decide +kernel) (pa_cons (pe_lc (own := [("word", 1)]) (g := gName 1) (tt := tYes) rfl sc_numbers_of.nd (pi_list (pv 0)) (blkOk_by (N := ["words", "word"]) (sc := defScope s_numbers_of) (by decide +kernel)) (fun _ _ _ _ _ => (pg_name (i := 1) sc_numbers_of.nd rfl (Or.inl rfl))) (fun _ _ _ _ _ => pts_nil) (fun _ _ _ _ _ => (pe_callTy call_int_str (by rfl) T.z_int (by decide +kernel) (pa_cons (pv 1) pa_nil)))) pa_nil))))), fun B => (lf_seq (lf_if (lf_tNot (lf_tB (lf_cb cl_all (lf_cons (lf_lc (li_list (lf_var (i := 0))) (lg_name (i := 1)) lf_yes (lf_callP (lf_cons (lf_var (i := 1)) lf_nil))) lf_nil))))
    (lf_ret lf_non)
    lf_next)
  (lf_ret (lf_cb cl_tup (lf_cons (lf_lc (li_list (lf_var (i := 0))) (lg_name (i := 1)) lf_yes (lf_cb cl_intS (lf_cons (lf_var (i := 1)) lf_nil))) lf_nil)))), fun B ds k hB hl h => ?_⟩
  obtain ⟨ns, rfl, hn, hl, h⟩ := h
  have hl1 : ((ns.map nS).map dS).length = ns.length := by rw [List.length_map, List.length_map]
  refine ⟨by rw [hl1]; exact le_line (by omega), fun i acc e => e = _ ∧ acc = List.replicate i (D.bl true), ⟨rfl, rfl⟩, ?_, ?_⟩
  · rintro i d acc e hd _ ⟨rfl, rfl⟩
    obtain ⟨x, hx, rfl⟩ := map_at hd
    rw [List.getElem?_map] at hx
    obtain ⟨n, hx2, e2⟩ := Option.map_eq_some_iff.mp hx
    subst e2
    refine ⟨rfl, .T rfl ⟨rfl, n, rfl, hn n (List.mem_of_getElem? hx2), rfl, ?_⟩⟩
    rw [List.replicate_succ']
  rintro acc e _ ⟨rfl, rfl⟩
  rw [hl1]
  refine ob_mk rfl ?_
  refine ob_mk (bls_rep _) ?_
  rw [all_rep]
  refine .F rfl ⟨by rw [hl1]; exact le_line (by omega), fun i acc e => e = _ ∧ acc = (ns.take i).map dn, ⟨rfl, rfl⟩, ?_, ?_⟩
  · rintro i d acc e hd _ ⟨rfl, rfl⟩
    obtain ⟨x, hx, rfl⟩ := map_at hd
    rw [List.getElem?_map] at hx
    obtain ⟨n, hx2, e2⟩ := Option.map_eq_some_iff.mp hx
    subst e2
    have hlen := nS_len (hn n (List.mem_of_getElem? hx2))
    have hll : (numL n).length ≤ 4300 := by rw [← tl_nS, ← len_tl]; omega
    refine ⟨rfl, .T rfl ?_⟩
    show ob (intText? (nS n)) _
    refine ob_mk (int_num hll) ⟨by omega, rfl, ?_⟩
    exact take_map (f := dn) hx2
  rintro acc e _ ⟨rfl, rfl⟩
  rw [hl1, List.take_length]
  refine ob_mk rfl ?_
  exact ob_mk rfl h
def fNumbersBehind : DSp := fun ds k => ∃ (w : Str) (ns : List Nat), ds = [.str w, .str (lineN w ns)] ∧ Sh (.str w) ∧ LnOk w ns ∧ k (dns ns) false none
theorem ok_numbers_behind (T : Txt K mg a w) : FnOk P w K mg base CX0 3 a.f_numbers_behind a.d_numbers_behind ["word", "line"] (spD ⟨P, w, K⟩ plain none [false, false] fNumbersBehind) := by
  have G_numbers_of := ok_numbers_of (P := P) (w := w) (base := base) T
  refine okD T.F_numbers_behind sc_numbers_behind rfl (by decide) fun cdv A outer s H E hr => ⟨_, fun B => _, (pss_cons (ps_set (i := 2) sc_numbers_behind.nd rfl (Or.inl rfl) (pe_split (pv 1) pe_str))
  (pss_cons (ps_if (pt_cmpR (neK (K := K) rfl hr.units) (pe_ix (ixK (K := K) rfl) (pv 2) pe_int (fun _ _ => rfl)) (pv 0) (nomark _))
    (pss_one (ps_ret pe_non))
    pss_nil)
  (pss_one (ps_ret (pe_call G_numbers_of (hr.mono (by decide)) rfl T.g_numbers_of T.k_numbers_of T.b_numbers_of .nil pass0 (pa_cons (pe_slice (slLK (K := K) rfl) (pv 2) (po_some pe_int) po_none) pa_nil)))))), fun B => (lf_seq (lf_setO (i := 2) (lf_m1 lm_split (lf_var (i := 1)) lf_str))
  (lf_seq (lf_if (lf_tTest (lf_op lo_ne (lf_op lo_ix (lf_var (i := 2)) lf_int) (lf_var (i := 0))))
    (lf_ret lf_non)
    lf_next)
  (lf_ret (lf_callP (lf_cons (lf_sl ls_L (lf_var (i := 2)) (lf_part lf_int) lf_noPart) lf_nil))))), fun B ds k hB hl h => ?_⟩
  obtain ⟨w', ns, rfl, hs, ho, h⟩ := h
  have hl := ho.len
  refine ⟨rfl, by decide +kernel, le_line (by omega), rfl, ?_⟩
  rw [show Txt.split (lineN w' ns) (Str.ofString " ") = w' :: ns.map nS from ho.split]
  refine ob_mk (at0 (D.str w') _) ⟨hs, hs, ?_⟩
  show IfB (!deq (.str w') (.str w')) _ _
  rw [deq_str]
  refine .F rfl ⟨rfl, ns, ?_, ho.n, by have := ho.l; omega, h⟩
  show [D.lst (cutD ((w' :: ns.map nS).map D.str) (some ((1 : Nat) : Int)) none)] = _
  rw [cut_tail (by show 1 ≤ _; rw [List.length_cons]; omega)]
  rfl
end
end Lk
namespace Lk
open PySem L2 Dl
open TL
section
def dW : Sum Str Nat → D
  | .inl x => .str x
  | .inr n => dn n
def tW : Sum Str Nat → Str
  | .inl x => x
  | .inr n => nS n
def okW : Sum Str Nat → Prop
  | .inl x => x.length ≤ 9
  | .inr n => n < 1000000000
theorem dW_ns (ns : List Nat) : (ns.map Sum.inr).map dW = ns.map dn := by
  rw [List.map_map]
  rfl
theorem tW_ns (ns : List Nat) : (ns.map Sum.inr).map tW = ns.map nS := by
  rw [List.map_map]
  rfl
def wOps : Str := Str.ofString "ops"
def wKinds : Str := Str.ofString "kinds"
def wRule : Str := Str.ofString "rule"
def wMove : Str := Str.ofString "move"
theorem wd_ok {w : Str} (h : (decide (w.length ≤ 9) && (tl w).all fun c => decide (33 ≤ c)) = true) : WdOk w := by
  rw [Bool.and_eq_true, decide_eq_true_eq, List.all_eq_true] at h
  exact ⟨h.1, fun c hc => of_decide_eq_true (h.2 c hc)⟩
theorem wo_ops : WdOk wOps := wd_ok (by decide +kernel)
theorem wo_kinds : WdOk wKinds := wd_ok (by decide +kernel)
theorem wo_rule : WdOk wRule := wd_ok (by decide +kernel)
theorem wo_move : WdOk wMove := wd_ok (by decide +kernel)
def ruleN (r : Rl) : List Nat := r.op :: r.kind :: r.cost :: r.src
def moveN (m : Mv) : List Nat := [m.src, m.kind, m.cost]
def ruleL (r : Rl) : Str := lineN wRule (ruleN r)
def moveL (m : Mv) : Str := lineN wMove (moveN m)
def bookL (B : Bk) : List Str := lineN wOps B.ar :: lineN wKinds [B.nk] :: (B.rs.map ruleL ++ B.ms.map moveL)
theorem ln_ops {B : Bk} (g : GoodB B) : LnOk wOps B.ar := ⟨wo_ops, fun n hn => by have := g.a3 n hn; omega, by have := g.a2; omega⟩
theorem ln_kinds {B : Bk} (g : GoodB B) : LnOk wKinds [B.nk] := ⟨wo_kinds, fun n hn => by rw [List.mem_singleton.mp hn]; have := g.k2; omega, by show 1 ≤ 20; decide⟩
theorem src_len {B : Bk} (g : GoodB B) {r : Rl} (hr : r ∈ B.rs) : r.src.length ≤ 2 := by
  obtain ⟨h1, h2, h3, h4, h5, h6⟩ := g.r2 r hr
  rw [h2]
  exact g.a3 _ (List.mem_of_getElem? (lt_getD h1))
theorem ln_rule {B : Bk} (g : GoodB B) {r : Rl} (hr : r ∈ B.rs) : LnOk wRule (ruleN r) := by
  obtain ⟨h1, h2, h3, h4, h5, h6⟩ := g.r2 r hr
  have := g.a2
  have := g.k2
  refine ⟨wo_rule, fun n hn => ?_, by have := src_len g hr; show r.src.length + 1 + 1 + 1 ≤ 20; omega⟩
  rcases List.mem_cons.mp hn with rfl | hn
  · omega
  rcases List.mem_cons.mp hn with rfl | hn
  · omega
  rcases List.mem_cons.mp hn with rfl | hn
  · omega
  have := h3 n hn
  omega
theorem ln_move {B : Bk} (g : GoodB B) {m : Mv} (hm : m ∈ B.ms) : LnOk wMove (moveN m) := by
  obtain ⟨h1, h2, h3, h4, h5⟩ := g.m2 m hm
  have := g.k2
  refine ⟨wo_move, fun n hn => ?_, by show 3 ≤ 20; decide⟩
  rcases List.mem_cons.mp hn with rfl | hn
  · omega
  rcases List.mem_cons.mp hn with rfl | hn
  · omega
  rw [List.mem_singleton.mp hn]
  omega
theorem book_ln {B : Bk} (g : GoodB B) : ∀ x ∈ bookL B, x.length ≤ 210 ∧ 10 ∉ tl x := fun x hx => by
  rcases List.mem_cons.mp hx with rfl | hx
  · exact ⟨(ln_ops g).len, (ln_ops g).free⟩
  rcases List.mem_cons.mp hx with rfl | hx
  · exact ⟨(ln_kinds g).len, (ln_kinds g).free⟩
  rcases List.mem_append.mp hx with hx | hx
  · obtain ⟨r, hr, rfl⟩ := List.mem_map.mp hx
    exact ⟨(ln_rule g hr).len, (ln_rule g hr).free⟩
  · obtain ⟨r, hr, rfl⟩ := List.mem_map.mp hx
    exact ⟨(ln_move g hr).len, (ln_move g hr).free⟩
theorem book_cnt {B : Bk} (g : GoodB B) : (bookL B).length ≤ 62 := by
  have := g.r1
  have := g.m1
  show (B.rs.map ruleL ++ B.ms.map moveL).length + 1 + 1 ≤ 62
  rw [List.length_append, List.length_map, List.length_map]
  omega
/-- a web's line -/
def webL (r : Row) : Str := Txt.join sp1 ((r.1 :: r.2).map nS)
theorem join_fit {sep : Str} {ws : List Str} {b : Nat} (hb : b ≤ 1000) (hs : sep.length ≤ 1) (hl : ws.length ≤ 1000) (h : ∀ w ∈ ws, w.length ≤ b) : (ws.map (·.length)).sum + ws.length * sep.length ≤ 16777216 := by
  have h1 := sum_len ws b h
  have h2 : ws.length * b ≤ 1000 * 1000 := Nat.mul_le_mul hl hb
  have h3 : ws.length * sep.length ≤ 1000 * 1 := Nat.mul_le_mul hl hs
  omega
end
section
variable {P : Program} {w : World} {K : PySem.W.Frag} {mg : Str → Option Value} {base : Heap} {a : Adr}
def fLineOf : DSp := fun ds k => ∃ ws : List (Sum Str Nat), ds = [.lst (ws.map dW)] ∧ (∀ w ∈ ws, okW w) ∧ ws.length ≤ 100 ∧ k (.str (Txt.join sp1 (ws.map tW))) false none
theorem ok_line_of (T : Txt K mg a w) : FnOk P w K mg base CX0 1 a.f_line_of a.d_line_of ["words"] (spD ⟨P, w, K⟩ plain none [true] fLineOf) := by
  refine okD T.F_line_of sc_line_of rfl (by decide) fun cdv A outer s H E hr => ⟨_, fun B => _, (pss_one (ps_ret (pe_joinK (K := K) rfl pe_str (pe_lc (own := [("word", 1)]) (g := gName 1) (tt := tYes) rfl sc_line_of.nd (pi_list (pv 0)) (blkOk_by (N := ["words", "word"]) (sc := defScope s_line_of) (by decide +kernel)) (fun _ _ _ _ _ => (pg_name (i := 1) sc_line_of.nd rfl (Or.inl rfl))) (fun _ _ _ _ _ => pts_nil) (fun _ _ _ _ _ => (pe_callTy call_str_any (by rfl) T.z_str (by decide +kernel) (pa_cons (pv 1) pa_nil))))))), fun B => (lf_ret (lf_m1 lm_join lf_str (lf_lc (li_list (lf_var (i := 0))) (lg_name (i := 1)) lf_yes (lf_cb cl_str (lf_cons (lf_var (i := 1)) lf_nil))))), fun B ds k hB hl h => ?_⟩
  obtain ⟨ws, rfl, hw, hl, h⟩ := h
  have hl1 : (ws.map dW).length = ws.length := List.length_map ..
  refine ⟨rfl, by rw [hl1]; exact le_line (by omega), fun i acc e => e = _ ∧ acc = (ws.take i).map fun w => D.str (tW w), ⟨rfl, rfl⟩, ?_, ?_⟩
  · rintro i d acc e hd _ ⟨rfl, rfl⟩
    obtain ⟨x, hx, rfl⟩ := map_at hd
    have ho := hw x (List.mem_of_getElem? hx)
    cases x with
    | inl x => exact ⟨rfl, .T rfl ⟨rfl, take_map (f := fun w => D.str (tW w)) hx⟩⟩
    | inr n => exact ⟨rfl, .T rfl ⟨log_small ho, rfl, take_map (f := fun w => D.str (tW w)) hx⟩⟩
  rintro acc e _ ⟨rfl, rfl⟩
  rw [hl1, List.take_length]
  refine ob_mk rfl ?_
  refine ob_mk rfl ?_
  refine ob_mk rfl ?_
  refine ob_mk (x := ws.map tW) ?_ ⟨join_fit (b := 9) (by decide) (by decide +kernel) (by rw [List.length_map]; omega) fun x hx => ?_, h⟩
  · have := strs_map (ws.map tW)
    rw [List.map_map] at this
    exact this
  · obtain ⟨w, hw2, rfl⟩ := List.mem_map.mp hx
    have := hw w hw2
    cases w with
    | inl x => exact this
    | inr n => exact nS_len this
theorem line_of_ln {w : Str} {ns : List Nat} (h : LnOk w ns) {k : D → Bool → Option D → Prop} (hk : k (.str (lineN w ns)) false none) : fLineOf [.lst (.str w :: ns.map dn)] k := by
  refine ⟨.inl w :: ns.map .inr, ?_, fun x hx => ?_, ?_, ?_⟩
  · rw [List.map_cons, dW_ns]
    rfl
  · rcases List.mem_cons.mp hx with rfl | hx
    · exact h.w.l
    · obtain ⟨n, hn, rfl⟩ := List.mem_map.mp hx
      exact h.n n hn
  · have := h.l
    rw [List.length_cons, List.length_map]
    omega
  · rw [List.map_cons, tW_ns]
    exact hk
def fBookText (C : Addr) : DSp := fun ds k => ∃ B : Bk, ds = [dbook C B] ∧ GoodB B ∧ k (.str (Txt.join nl1 (bookL B))) false none
theorem ok_book_text (T : Txt K mg a w) : FnOk P w K mg base CX0 2 a.f_book_text a.d_book_text ["book"] (spD ⟨P, w, K⟩ plain none [true] (fBookText a.c_Book)) := by
  have G_line_of := ok_line_of (P := P) (w := w) (base := base) T
  refine okD T.F_book_text sc_book_text rfl (by decide) fun cdv A outer s H E hr => ⟨_, fun B => _, (pss_cons (ps_set (i := 1) sc_book_text.nd rfl (Or.inl rfl) (pe_lst (pa_cons (pe_call G_line_of (hr.mono (by decide)) rfl T.g_line_of T.k_line_of T.b_line_of .nil pass0 (pa_cons (pe_lst (pa_cons pe_str (pa_starK (K := K) rfl (pe_fld (pv 0) rfl) pa_nil))) pa_nil)) (pa_cons (pe_call G_line_of (hr.mono (by decide)) rfl T.g_line_of T.k_line_of T.b_line_of .nil pass0 (pa_cons (pe_lst (pa_cons pe_str (pa_cons (pe_fld (pv 0) rfl) pa_nil))) pa_nil)) pa_nil))))
  (pss_cons (ps_for PassesOwn.never rfl (pi_tup (pe_fld (pv 0) rfl)) (pg_tup (by rfl) (pgs_cons (pg_name (i := 2) sc_book_text.nd rfl (Or.inl rfl)) (pgs_cons (pg_name (i := 3) sc_book_text.nd rfl (Or.inl rfl)) (pgs_cons (pg_name (i := 4) sc_book_text.nd rfl (Or.inl rfl)) (pgs_cons (pg_name (i := 5) sc_book_text.nd rfl (Or.inl rfl)) pgs_nil)))))
    (pss_one (ps_expr (pe_bm PySem.F.plainAttrs_list PySem.F.slot_list_append PySem.F.type_list_append mt_append (pv 1) (pa_cons (pe_call G_line_of (hr.mono (by decide)) rfl T.g_line_of T.k_line_of T.b_line_of .nil pass0 (pa_cons (pe_lst (pa_cons pe_str (pa_cons (pv 2) (pa_cons (pv 4) (pa_cons (pv 5) (pa_starK (K := K) rfl (pv 3) pa_nil)))))) pa_nil)) pa_nil)))))
  (pss_cons (ps_for PassesOwn.never rfl (pi_tup (pe_fld (pv 0) rfl)) (pg_tup (by rfl) (pgs_cons (pg_name (i := 6) sc_book_text.nd rfl (Or.inl rfl)) (pgs_cons (pg_name (i := 4) sc_book_text.nd rfl (Or.inl rfl)) (pgs_cons (pg_name (i := 5) sc_book_text.nd rfl (Or.inl rfl)) pgs_nil))))
    (pss_one (ps_expr (pe_bm PySem.F.plainAttrs_list PySem.F.slot_list_append PySem.F.type_list_append mt_append (pv 1) (pa_cons (pe_call G_line_of (hr.mono (by decide)) rfl T.g_line_of T.k_line_of T.b_line_of .nil pass0 (pa_cons (pe_lst (pa_cons pe_str (pa_cons (pv 6) (pa_cons (pv 4) (pa_cons (pv 5) pa_nil))))) pa_nil)) pa_nil)))))
  (pss_one (ps_ret (pe_joinK (K := K) rfl pe_str (pv 1))))))), fun B => (lf_seq (lf_setO (i := 1) (lf_lst (lf_cons (lf_callP (lf_cons (lf_lst (lf_cons lf_str (lf_star (lf_fld T.C_Book T.N_arities (lf_var (i := 0)))))) lf_nil)) (lf_cons (lf_callP (lf_cons (lf_lst (lf_cons lf_str (lf_cons (lf_fld T.C_Book T.N_kinds (lf_var (i := 0))) lf_nil))) lf_nil)) lf_nil))))
  (lf_seq (lf_for (li_tup (lf_fld T.C_Book T.N_rules (lf_var (i := 0)))) (lg_tup (lg_cons (lg_name (i := 2)) (lg_cons (lg_name (i := 3)) (lg_cons (lg_name (i := 4)) (lg_cons (lg_name (i := 5)) lg_nil)))))
    (lf_drop (lf_bm lm_append (lf_var (i := 1)) (lf_cons (lf_callP (lf_cons (lf_lst (lf_cons lf_str (lf_cons (lf_var (i := 2)) (lf_cons (lf_var (i := 4)) (lf_cons (lf_var (i := 5)) (lf_star (lf_var (i := 3)))))))) lf_nil)) lf_nil))))
  (lf_seq (lf_for (li_tup (lf_fld T.C_Book T.N_moves (lf_var (i := 0)))) (lg_tup (lg_cons (lg_name (i := 6)) (lg_cons (lg_name (i := 4)) (lg_cons (lg_name (i := 5)) lg_nil))))
    (lf_drop (lf_bm lm_append (lf_var (i := 1)) (lf_cons (lf_callP (lf_cons (lf_lst (lf_cons lf_str (lf_cons (lf_var (i := 6)) (lf_cons (lf_var (i := 4)) (lf_cons (lf_var (i := 5)) lf_nil))))) lf_nil)) lf_nil))))
  (lf_ret (lf_m1 lm_join lf_str (lf_var (i := 1))))))), fun B ds k hB hl h => ?_⟩
  obtain ⟨B, rfl, g, h⟩ := h
  have := g.a2
  have := g.r1
  have := g.m1
  refine ⟨rfl, ?_⟩
  refine shrs_s ?_
  refine ⟨by rw [List.length_cons, List.length_map]; exact le_line (by omega), rfl, ob_mk rfl (line_of_ln (ln_ops g) ?_)⟩
  refine ⟨rfl, le_line (by show 2 ≤ 100000; decide), rfl, ob_mk rfl (line_of_ln (ln_kinds g) ⟨le_line (by show 2 ≤ 100000; decide), rfl, rfl, ?_⟩)⟩
  refine ⟨fun i e => ∃ x2 x3 x4 x5 x6 : Option Cell, e = [some (.b (dbook a.c_Book B)), some (.o (.lst ((lineN wOps B.ar :: lineN wKinds [B.nk] :: (B.rs.take i).map ruleL).map dS))), x2, x3, x4, x5, x6], ⟨_, _, _, _, _, rfl⟩, ?_, ?_⟩
  · rintro i d e hd ⟨x2, x3, x4, x5, x6, rfl⟩
    obtain ⟨r, hr, rfl⟩ := map_at hd
    have hi := (List.getElem?_eq_some_iff.mp hr).1
    have hm := List.mem_of_getElem? hr
    have hs := src_len g hm
    refine ⟨rfl, rfl, rfl, rfl, rfl, trivial, ?_⟩
    refine shrs_s ?_
    refine ⟨by show (r.src.map dn).length + 1 + 1 + 1 + 1 ≤ sizeLine; rw [List.length_map]; exact le_line (by omega), rfl, ob_mk rfl (line_of_ln (ln_rule g hm) ?_)⟩
    refine ⟨by show ((((B.rs.take i).map ruleL).map dS).length + 1 + 1) < sizeLine; rw [List.length_map, List.length_map, List.length_take]; exact lt_line (by omega), some (.s (dn r.op)), some (.s (dns r.src)), some (.s (dn r.kind)), some (.s (dn r.cost)), x6, ?_⟩
    show [_, some (Cell.o (.lst ((lineN wOps B.ar :: lineN wKinds [B.nk] :: (B.rs.take i).map ruleL).map dS ++ [dS (ruleL r)]))), _, _, _, _, _] = _
    rw [← take_map (f := ruleL) hr, ← List.cons_append, ← List.cons_append, List.map_append]
    rfl
  rintro e ⟨x2, x3, x4, x5, x6, rfl⟩
  rw [show (B.rs.map drl).length = B.rs.length from List.length_map .., List.take_length]
  refine ⟨rfl, ?_⟩
  refine ⟨fun i e => ∃ x2 x3 x4 x5 x6 : Option Cell, e = [some (.b (dbook a.c_Book B)), some (.o (.lst ((lineN wOps B.ar :: lineN wKinds [B.nk] :: (B.rs.map ruleL ++ (B.ms.take i).map moveL)).map dS))), x2, x3, x4, x5, x6], ⟨_, _, _, _, _, by rw [List.take_zero, List.map_nil, List.append_nil]; rfl⟩, ?_, ?_⟩
  · rintro i d e hd ⟨x2, x3, x4, x5, x6, rfl⟩
    obtain ⟨r, hr, rfl⟩ := map_at hd
    have hi := (List.getElem?_eq_some_iff.mp hr).1
    have hm := List.mem_of_getElem? hr
    refine ⟨rfl, rfl, rfl, rfl, trivial, le_line (by show 4 ≤ 100000; decide), rfl, ob_mk rfl (line_of_ln (ln_move g hm) ?_)⟩
    refine ⟨by show (((B.rs.map ruleL ++ (B.ms.take i).map moveL).map dS).length + 1 + 1) < sizeLine; rw [List.length_map, List.length_append, List.length_map, List.length_map, List.length_take]; exact lt_line (by omega), x2, x3, some (.s (dn r.kind)), some (.s (dn r.cost)), some (.s (dn r.src)), ?_⟩
    show [_, some (Cell.o (.lst ((lineN wOps B.ar :: lineN wKinds [B.nk] :: (B.rs.map ruleL ++ (B.ms.take i).map moveL)).map dS ++ [dS (moveL r)]))), _, _, _, _, _] = _
    rw [← take_map (f := moveL) hr]
    simp only [List.map_cons, List.map_append, List.append_assoc, List.cons_append, List.map_nil]
  rintro e ⟨x2, x3, x4, x5, x6, rfl⟩
  rw [show (B.ms.map dmv).length = B.ms.length from List.length_map .., List.take_length]
  refine ⟨rfl, ?_⟩
  refine ob_mk rfl (ob_mk rfl (ob_mk rfl (ob_mk rfl ?_)))
  refine ob_mk (strs_map (bookL B)) ⟨join_fit (b := 210) (by decide) (by decide +kernel) (by have := book_cnt g; omega) fun x hx => (book_ln g x hx).1, h⟩
def dpartsB (B : Bk) : D := .tup [dns B.ar, dn B.nk, drls B.rs, dmvs B.ms]
def dLn (p : Str × List Nat) : D := .lst (dS p.1 :: p.2.map fun n => dS (nS n))
def tLn (p : Str × List Nat) : Str := lineN p.1 p.2
def bookN (B : Bk) : List (Str × List Nat) := (wOps, B.ar) :: (wKinds, [B.nk]) :: (B.rs.map (fun r => (wRule, ruleN r)) ++ B.ms.map fun m => (wMove, moveN m))
theorem bookN_L (B : Bk) : (bookN B).map tLn = bookL B := by
  unfold bookN bookL
  rw [List.map_cons, List.map_cons, List.map_append, List.map_map, List.map_map]
  rfl
theorem bookN_ok {B : Bk} (g : GoodB B) : ∀ p ∈ bookN B, LnOk p.1 p.2 := fun p hp => by
  rcases List.mem_cons.mp hp with rfl | hp
  · exact ln_ops g
  rcases List.mem_cons.mp hp with rfl | hp
  · exact ln_kinds g
  rcases List.mem_append.mp hp with hp | hp
  · obtain ⟨r, hr, rfl⟩ := List.mem_map.mp hp
    exact ln_rule g hr
  · obtain ⟨r, hr, rfl⟩ := List.mem_map.mp hp
    exact ln_move g hr
def fBookLines : DSp := fun ds k => ∃ B : Bk, ds = [dpartsB B] ∧ GoodB B ∧ k (.lst ((bookL B).map dS)) true none
theorem ok_law_book_lines (T : Txt K mg a w) : FnOk P w K mg base CX0 1 a.f_law_book_lines a.d_law_book_lines ["_law_parts"] (spD ⟨P, w, K⟩ plain none [false] fBookLines) := by
  refine okD T.F_law_book_lines sc_law_book_lines rfl (by decide) fun cdv A outer s H E hr => ⟨_, fun B => _, (pss_cons (ps_asg (pv 0) (pg_tup (by rfl) (pgs_cons (pg_name (i := 1) sc_law_book_lines.nd rfl (Or.inl rfl)) (pgs_cons (pg_name (i := 2) sc_law_book_lines.nd rfl (Or.inl rfl)) (pgs_cons (pg_name (i := 3) sc_law_book_lines.nd rfl (Or.inl rfl)) (pgs_cons (pg_name (i := 4) sc_law_book_lines.nd rfl (Or.inl rfl)) pgs_nil))))))
  (pss_cons (ps_set (i := 5) sc_law_book_lines.nd rfl (Or.inl rfl) (pe_lst (pa_cons (pe_op op_cat (pe_lst (pa_cons pe_str pa_nil)) (pe_lc (own := [("_law_many", 8)]) (g := gName 8) (tt := tYes) rfl sc_law_book_lines.nd (pi_tup (pv 1)) (blkOk_by (N := ["_law_parts", "_law_arities_here", "_law_kinds", "_law_rules_here", "_law_moves_here", "_law_lines", "_law_rule", "_law_move", "_law_many", "_law_source", "_law_line"]) (sc := defScope s_law_book_lines) (by decide +kernel)) (fun _ _ _ _ _ => (pg_name (i := 8) sc_law_book_lines.nd rfl (Or.inl rfl))) (fun _ _ _ _ _ => pts_nil) (fun _ _ _ _ _ => (pe_callTy call_str_any (by rfl) T.z_str (by decide +kernel) (pa_cons (pv 8) pa_nil))))) (pa_cons (pe_lst (pa_cons pe_str (pa_cons (pe_callTy call_str_any (by rfl) T.z_str (by decide +kernel) (pa_cons (pv 2) pa_nil)) pa_nil))) pa_nil))))
  (pss_cons (ps_for PassesOwn.never rfl (pi_tup (pv 3)) (pg_name (i := 6) sc_law_book_lines.nd rfl (Or.inl rfl))
    (pss_one (ps_expr (pe_bm PySem.F.plainAttrs_list PySem.F.slot_list_append PySem.F.type_list_append mt_append (pv 5) (pa_cons (pe_op op_cat (pe_lst (pa_cons pe_str (pa_cons (pe_callTy call_str_any (by rfl) T.z_str (by decide +kernel) (pa_cons (pe_ix (ixK (K := K) rfl) (pv 6) pe_int (fun _ _ => rfl)) pa_nil)) (pa_cons (pe_callTy call_str_any (by rfl) T.z_str (by decide +kernel) (pa_cons (pe_ix (ixK (K := K) rfl) (pv 6) pe_int (fun _ _ => rfl)) pa_nil)) (pa_cons (pe_callTy call_str_any (by rfl) T.z_str (by decide +kernel) (pa_cons (pe_ix (ixK (K := K) rfl) (pv 6) pe_int (fun _ _ => rfl)) pa_nil)) pa_nil))))) (pe_lc (own := [("_law_source", 9)]) (g := gName 9) (tt := tYes) rfl sc_law_book_lines.nd (pi_tup (pe_ix (ixK (K := K) rfl) (pv 6) pe_int (fun _ _ => rfl))) (blkOk_by (N := ["_law_parts", "_law_arities_here", "_law_kinds", "_law_rules_here", "_law_moves_here", "_law_lines", "_law_rule", "_law_move", "_law_many", "_law_source", "_law_line"]) (sc := defScope s_law_book_lines) (by decide +kernel)) (fun _ _ _ _ _ => (pg_name (i := 9) sc_law_book_lines.nd rfl (Or.inl rfl))) (fun _ _ _ _ _ => pts_nil) (fun _ _ _ _ _ => (pe_callTy call_str_any (by rfl) T.z_str (by decide +kernel) (pa_cons (pv 9) pa_nil))))) pa_nil)))))
  (pss_cons (ps_for PassesOwn.never rfl (pi_tup (pv 4)) (pg_name (i := 7) sc_law_book_lines.nd rfl (Or.inl rfl))
    (pss_one (ps_expr (pe_bm PySem.F.plainAttrs_list PySem.F.slot_list_append PySem.F.type_list_append mt_append (pv 5) (pa_cons (pe_lst (pa_cons pe_str (pa_cons (pe_callTy call_str_any (by rfl) T.z_str (by decide +kernel) (pa_cons (pe_ix (ixK (K := K) rfl) (pv 7) pe_int (fun _ _ => rfl)) pa_nil)) (pa_cons (pe_callTy call_str_any (by rfl) T.z_str (by decide +kernel) (pa_cons (pe_ix (ixK (K := K) rfl) (pv 7) pe_int (fun _ _ => rfl)) pa_nil)) (pa_cons (pe_callTy call_str_any (by rfl) T.z_str (by decide +kernel) (pa_cons (pe_ix (ixK (K := K) rfl) (pv 7) pe_int (fun _ _ => rfl)) pa_nil)) pa_nil))))) pa_nil)))))
  (pss_one (ps_ret (pe_lc (own := [("_law_line", 10)]) (g := gName 10) (tt := tYes) rfl sc_law_book_lines.nd (pi_list (pv 5)) (blkOk_by (N := ["_law_parts", "_law_arities_here", "_law_kinds", "_law_rules_here", "_law_moves_here", "_law_lines", "_law_rule", "_law_move", "_law_many", "_law_source", "_law_line"]) (sc := defScope s_law_book_lines) (by decide +kernel)) (fun _ _ _ _ _ => (pg_name (i := 10) sc_law_book_lines.nd rfl (Or.inl rfl))) (fun _ _ _ _ _ => pts_nil) (fun _ _ _ _ _ => (pe_joinK (K := K) rfl pe_str (pv 10)))))))))), fun B => (lf_seq (lf_asg (lf_var (i := 0)) (lg_tup (lg_cons (lg_name (i := 1)) (lg_cons (lg_name (i := 2)) (lg_cons (lg_name (i := 3)) (lg_cons (lg_name (i := 4)) lg_nil))))))
  (lf_seq (lf_setO (i := 5) (lf_lst (lf_cons (lf_op lo_catL (lf_lst (lf_cons lf_str lf_nil)) (lf_lc (li_tup (lf_var (i := 1))) (lg_name (i := 8)) lf_yes (lf_cb cl_str (lf_cons (lf_var (i := 8)) lf_nil)))) (lf_cons (lf_lst (lf_cons lf_str (lf_cons (lf_cb cl_str (lf_cons (lf_var (i := 2)) lf_nil)) lf_nil))) lf_nil))))
  (lf_seq (lf_for (li_tup (lf_var (i := 3))) (lg_name (i := 6))
    (lf_drop (lf_bm lm_append (lf_var (i := 5)) (lf_cons (lf_op lo_catL (lf_lst (lf_cons lf_str (lf_cons (lf_cb cl_str (lf_cons (lf_op lo_ix (lf_var (i := 6)) lf_int) lf_nil)) (lf_cons (lf_cb cl_str (lf_cons (lf_op lo_ix (lf_var (i := 6)) lf_int) lf_nil)) (lf_cons (lf_cb cl_str (lf_cons (lf_op lo_ix (lf_var (i := 6)) lf_int) lf_nil)) lf_nil))))) (lf_lc (li_tup (lf_op lo_ix (lf_var (i := 6)) lf_int)) (lg_name (i := 9)) lf_yes (lf_cb cl_str (lf_cons (lf_var (i := 9)) lf_nil)))) lf_nil))))
  (lf_seq (lf_for (li_tup (lf_var (i := 4))) (lg_name (i := 7))
    (lf_drop (lf_bm lm_append (lf_var (i := 5)) (lf_cons (lf_lst (lf_cons lf_str (lf_cons (lf_cb cl_str (lf_cons (lf_op lo_ix (lf_var (i := 7)) lf_int) lf_nil)) (lf_cons (lf_cb cl_str (lf_cons (lf_op lo_ix (lf_var (i := 7)) lf_int) lf_nil)) (lf_cons (lf_cb cl_str (lf_cons (lf_op lo_ix (lf_var (i := 7)) lf_int) lf_nil)) lf_nil))))) lf_nil))))
  (lf_ret (lf_lc (li_list (lf_var (i := 5))) (lg_name (i := 10)) lf_yes (lf_m1 lm_join lf_str (lf_var (i := 10))))))))), fun B ds k hB hl h => ?_⟩
  obtain ⟨B, rfl, g, h⟩ := h
  have ha2 := g.a2
  have hr1 := g.r1
  have hm1 := g.m1
  have hla : (B.ar.map dn).length = B.ar.length := List.length_map ..
  have hlr : (B.rs.map drl).length = B.rs.length := List.length_map ..
  have hlm : (B.ms.map dmv).length = B.ms.length := List.length_map ..
  refine ⟨rfl, rfl, rfl, rfl, rfl, le_line (by show 1 ≤ 100000; decide), ?_⟩
  refine ⟨by rw [hla]; exact le_line (by omega), fun i acc e => e = _ ∧ acc = (B.ar.take i).map fun n => dS (nS n), ⟨rfl, rfl⟩, ?_, ?_⟩
  · rintro i d acc e hd _ ⟨rfl, rfl⟩
    obtain ⟨n, hx, rfl⟩ := map_at hd
    have ho := (ln_ops g).n n (List.mem_of_getElem? hx)
    exact ⟨rfl, .T rfl ⟨log_small ho, rfl, take_map (f := fun n => dS (nS n)) hx⟩⟩
  rintro acc e _ ⟨rfl, rfl⟩
  rw [hla, List.take_length]
  refine ob_mk rfl ?_
  refine ⟨by rw [List.length_map]; exact le_line (by show 1 + B.ar.length ≤ 100000; omega), log_small ((ln_kinds g).n _ (by simp)), le_line (by show 2 ≤ 100000; decide), le_line (by show 2 ≤ 100000; decide), rfl, ?_⟩
  refine ⟨fun i e => ∃ x6 x7 x8 x9 x10 : Option Cell, e = [some (.s (dpartsB B)), some (.s (dns B.ar)), some (.s (dn B.nk)), some (.s (drls B.rs)), some (.s (dmvs B.ms)), some (.o (.lst (((wOps, B.ar) :: (wKinds, [B.nk]) :: (B.rs.take i).map (fun r => (wRule, ruleN r))).map dLn))), x6, x7, x8, x9, x10], ⟨_, _, _, _, _, rfl⟩, ?_, ?_⟩
  · rintro i d e hd ⟨x6, x7, x8, x9, x10, rfl⟩
    obtain ⟨r, hr, rfl⟩ := map_at hd
    have hi := (List.getElem?_eq_some_iff.mp hr).1
    have hm := List.mem_of_getElem? hr
    have hs := src_len g hm
    have ln := (ln_rule g hm).n
    have hls : (r.src.map dn).length = r.src.length := List.length_map ..
    refine ⟨rfl, trivial, log_small (ln _ (by simp [ruleN])), log_small (ln _ (by simp [ruleN])), log_small (ln _ (by simp [ruleN])), le_line (by show 4 ≤ 100000; decide), ?_⟩
    refine ⟨by rw [hls]; exact le_line (by omega), fun i acc e => e = _ ∧ acc = (r.src.take i).map fun n => dS (nS n), ⟨rfl, rfl⟩, ?_, ?_⟩
    · rintro i d acc e hd _ ⟨rfl, rfl⟩
      obtain ⟨n, hx, rfl⟩ := map_at hd
      have ho := ln n (List.mem_cons_of_mem _ (List.mem_cons_of_mem _ (List.mem_cons_of_mem _ (List.mem_of_getElem? hx))))
      exact ⟨rfl, .T rfl ⟨log_small ho, rfl, take_map (f := fun n => dS (nS n)) hx⟩⟩
    rintro acc e _ ⟨rfl, rfl⟩
    rw [hls, List.take_length]
    refine ob_mk rfl ?_
    refine ⟨by rw [List.length_map]; exact le_line (by show 4 + r.src.length ≤ 100000; omega), by show ((((B.rs.take i).map (fun r => (wRule, ruleN r))).map dLn).length + 1 + 1) < sizeLine; rw [List.length_map, List.length_map, List.length_take]; exact lt_line (by omega), some (.s (drl r)), x7, x8, keepS (some x9), x10, ?_⟩
    show [_, _, _, _, _, some (Cell.o (.lst (((wOps, B.ar) :: (wKinds, [B.nk]) :: (B.rs.take i).map (fun r => (wRule, ruleN r))).map dLn ++ [dLn (wRule, ruleN r)]))), _, _, _, _, _] = _
    rw [← take_map (f := fun r => (wRule, ruleN r)) hr]
    simp only [List.map_cons, List.map_append, List.append_assoc, List.cons_append, List.map_nil]
    rfl
  rintro e ⟨x6, x7, x8, x9, x10, rfl⟩
  rw [hlr, List.take_length]
  refine ⟨fun i e => ∃ x6 x7 x8 x9 x10 : Option Cell, e = [some (.s (dpartsB B)), some (.s (dns B.ar)), some (.s (dn B.nk)), some (.s (drls B.rs)), some (.s (dmvs B.ms)), some (.o (.lst (((wOps, B.ar) :: (wKinds, [B.nk]) :: (B.rs.map (fun r => (wRule, ruleN r)) ++ (B.ms.take i).map fun m => (wMove, moveN m))).map dLn))), x6, x7, x8, x9, x10], ⟨_, _, _, _, _, by rw [List.take_zero, List.map_nil, List.append_nil]; rfl⟩, ?_, ?_⟩
  · rintro i d e hd ⟨x6, x7, x8, x9, x10, rfl⟩
    obtain ⟨r, hr, rfl⟩ := map_at hd
    have hi := (List.getElem?_eq_some_iff.mp hr).1
    have hm := List.mem_of_getElem? hr
    have ln := (ln_move g hm).n
    refine ⟨rfl, trivial, log_small (ln _ (by simp [moveN])), log_small (ln _ (by simp [moveN])), log_small (ln _ (by simp [moveN])), le_line (by show 4 ≤ 100000; decide), ?_⟩
    refine ⟨by show ((((B.rs.map (fun r => (wRule, ruleN r)) ++ (B.ms.take i).map fun m => (wMove, moveN m))).map dLn).length + 1 + 1) < sizeLine; rw [List.length_map, List.length_append, List.length_map, List.length_map, List.length_take]; exact lt_line (by omega), x6, some (.s (dmv r)), x8, x9, x10, ?_⟩
    show [_, _, _, _, _, some (Cell.o (.lst (((wOps, B.ar) :: (wKinds, [B.nk]) :: (B.rs.map (fun r => (wRule, ruleN r)) ++ (B.ms.take i).map fun m => (wMove, moveN m))).map dLn ++ [dLn (wMove, moveN r)]))), _, _, _, _, _] = _
    rw [← take_map (f := fun m => (wMove, moveN m)) hr]
    simp only [List.map_cons, List.map_append, List.append_assoc, List.cons_append, List.map_nil]
  rintro e ⟨x6, x7, x8, x9, x10, rfl⟩
  rw [hlm, List.take_length]
  have hlb : ((bookN B).map dLn).length ≤ 62 := by
    have := book_cnt g
    rw [← bookN_L, List.length_map] at this
    rw [List.length_map]
    exact this
  refine ⟨le_line (by show ((bookN B).map dLn).length ≤ 100000; omega), fun i acc e => e = _ ∧ acc = ((bookN B).take i).map fun p => dS (tLn p), ⟨rfl, rfl⟩, ?_, ?_⟩
  · rintro i d acc e hd _ ⟨rfl, rfl⟩
    obtain ⟨p, hx, rfl⟩ := map_at (f := dLn) (xs := bookN B) hd
    have ho := bookN_ok g p (List.mem_of_getElem? hx)
    have hwd : ∀ x ∈ p.1 :: p.2.map nS, x.length ≤ 9 := fun x hx => (ho.wd x hx).l
    refine ⟨rfl, .T rfl ⟨rfl, ob_mk rfl (ob_mk rfl (ob_mk rfl (ob_mk rfl ?_)))⟩⟩
    refine ob_mk (x := p.1 :: p.2.map nS) ?_ ⟨join_fit (b := 9) (by decide) (by decide +kernel) (by have := ho.l; rw [List.length_cons, List.length_map]; omega) hwd, rfl, take_map (f := fun p => dS (tLn p)) hx⟩
    have := strs_map (p.1 :: p.2.map nS)
    rw [List.map_cons, List.map_map] at this
    exact this
  rintro acc e _ ⟨rfl, rfl⟩
  refine ob_mk rfl ?_
  have : ((bookN B).take ((bookN B).map dLn).length).map (fun p => dS (tLn p)) = (bookL B).map dS := by
    rw [List.length_map, List.take_length, ← bookN_L, List.map_map]
    rfl
  show k (.lst (((bookN B).take ((bookN B).map dLn).length).map fun p => dS (tLn p))) true none
  rw [this]
  exact h
end
end Lk
namespace Lk
open PySem L2 Dl
open TL
section
structure RowOk (r : Row) : Prop where
  o : r.1 ≤ 7
  l : r.2.length ≤ 2
  p : ∀ p ∈ r.2, p < 200
theorem rows_ok {R : List Row} (g : Good R) (hl : R.length ≤ 200) : ∀ r ∈ R, RowOk r := fun r hr => by
  obtain ⟨n, hn⟩ := List.mem_iff_getElem?.mp hr
  have h1 := (List.getElem?_eq_some_iff.mp hn).1
  have e := row_at hn
  obtain ⟨a, b, c⟩ := g n h1
  unfold parts at b c
  rw [e] at a b c
  exact ⟨a, b, fun p hp => by have := c p hp; omega⟩
theorem RowOk.n {r : Row} (h : RowOk r) : ∀ n ∈ r.1 :: r.2, n < 1000000000 := fun n hn => by
  rcases List.mem_cons.mp hn with rfl | hn
  · have := h.o
    omega
  · have := h.p n hn
    omega
theorem RowOk.wd {r : Row} (h : RowOk r) : ∀ x ∈ (r.1 :: r.2).map nS, WdOk x := fun x hx => by
  obtain ⟨n, hn, rfl⟩ := List.mem_map.mp hx
  exact nS_wd (h.n n hn)
theorem RowOk.split {r : Row} (h : RowOk r) : Txt.split (webL r) sp1 = (r.1 :: r.2).map nS := split_sp (by simp) fun x hx q => by
  have := (h.wd x hx).f _ q
  omega
theorem RowOk.free {r : Row} (h : RowOk r) : 10 ∉ tl (webL r) := fun q => by
  rcases mem_join q with q | ⟨x, hx, q⟩
  · rw [tl_sp] at q
    simp at q
  · have := (h.wd x hx).f _ q
    omega
theorem RowOk.len {r : Row} (h : RowOk r) : (webL r).length ≤ 30 := by
  have h1 := join_len sp1 ((r.1 :: r.2).map nS) 9 fun x hx => (h.wd x hx).l
  have h2 := h.l
  have h3 : sp1.length = 1 := by decide +kernel
  rw [h3, List.length_map, List.length_cons] at h1
  unfold webL
  omega
theorem RowOk.chars {r : Row} (h : RowOk r) : ∀ c ∈ tl (webL r), c < 58 := fun c q => by
  rcases mem_join q with q | ⟨x, hx, q⟩
  · rw [tl_sp] at q
    rw [List.mem_singleton.mp q]
    decide
  · obtain ⟨n, hn, rfl⟩ := List.mem_map.mp hx
    have := nS_digit q
    omega
theorem joinL_ne {S p : List Nat} {r : List (List Nat)} (h : p ≠ []) : joinL S (p :: r) ≠ [] := by
  cases r with
  | nil => exact h
  | cons q r =>
    show p ++ (S ++ joinL S (q :: r)) ≠ []
    intro e
    exact h (List.append_eq_nil_iff.mp e).1
theorem webL_ne (r : Row) : tl (webL r) ≠ [] := by
  unfold webL
  rw [join_eq, tl_join]
  refine joinL_ne (p := tl (nS r.1)) ?_
  rw [tl_nS]
  exact numL_ne _
def webT (R : List Row) : Str := Txt.join nl1 (R.map webL)
theorem webT_nil : webT [] = Str.ofString "" := by
  unfold webT
  rw [join_eq]
  rfl
theorem webT_ne {R : List Row} (h : R ≠ []) : webT R ≠ Str.ofString "" := by
  cases R with
  | nil => exact absurd rfl h
  | cons r R =>
    intro e
    have h1 : tl (webT (r :: R)) = [] := by rw [e]; rfl
    unfold webT at h1
    rw [join_eq, tl_join] at h1
    exact joinL_ne (p := tl (webL r)) (webL_ne r) h1
theorem webT_sh {R : List Row} (h : ∀ r ∈ R, RowOk r) : Sh (.str (webT R)) := sh_str fun c q => by
  rcases mem_join q with q | ⟨x, hx, q⟩
  · rw [tl_nl] at q
    rw [List.mem_singleton.mp q]
    decide
  · obtain ⟨r, hr, rfl⟩ := List.mem_map.mp hx
    have := (h r hr).chars c q
    omega
theorem webT_split {R : List Row} (hne : R ≠ []) (h : ∀ r ∈ R, RowOk r) : Txt.split (webT R) nl1 = R.map webL := split_nl (by simpa using hne) fun x hx => by
  obtain ⟨r, hr, rfl⟩ := List.mem_map.mp hx
  exact (h r hr).free
theorem webT_len {R : List Row} (hl : R.length ≤ 200) (h : ∀ r ∈ R, RowOk r) : (webT R).length ≤ 6200 := by
  have h1 := join_len nl1 (R.map webL) 30 fun x hx => by
    obtain ⟨r, hr, rfl⟩ := List.mem_map.mp hx
    exact (h r hr).len
  have h3 : nl1.length = 1 := by decide +kernel
  rw [h3, List.length_map] at h1
  unfold webT
  omega
end
section
variable {P : Program} {w : World} {K : PySem.W.Frag} {mg : Str → Option Value} {base : Heap} {a : Adr}
theorem line_of_ns {ns : List Nat} (h : ∀ n ∈ ns, n < 1000000000) (hl : ns.length ≤ 100) {k : D → Bool → Option D → Prop} (hk : k (.str (Txt.join sp1 (ns.map nS))) false none) : fLineOf [.lst (ns.map dn)] k := by
  refine ⟨ns.map .inr, by rw [dW_ns], fun x hx => ?_, by rw [List.length_map]; exact hl, by rw [tW_ns]; exact hk⟩
  obtain ⟨n, hn, rfl⟩ := List.mem_map.mp hx
  exact h n hn
def fWebText (C : Addr) : DSp := fun ds k => ∃ R : List Row, ds = [dweb0 C R] ∧ Good R ∧ R.length ≤ 200 ∧ k (.str (webT R)) false none
theorem ok_web_text (T : Txt K mg a w) : FnOk P w K mg base CX0 2 a.f_web_text a.d_web_text ["web"] (spD ⟨P, w, K⟩ plain none [true] (fWebText a.c_Web)) := by
  have G_line_of := ok_line_of (P := P) (w := w) (base := base) T
  refine okD T.F_web_text sc_web_text rfl (by decide) fun cdv A outer s H E hr => ⟨_, fun B => _, (pss_one (ps_ret (pe_joinK (K := K) rfl pe_str (pe_lc (own := [("op", 1), ("parts", 2)]) (g := gTup K 2 (gCons (gName 1) (gCons (gName 2) (gNil)))) (tt := tYes) rfl sc_web_text.nd (pi_tup (pe_fld (pv 0) rfl)) (blkOk_by (N := ["web", "op", "parts"]) (sc := defScope s_web_text) (by decide +kernel)) (fun _ _ _ _ _ => (pg_tup (by rfl) (pgs_cons (pg_name (i := 1) sc_web_text.nd rfl (Or.inl rfl)) (pgs_cons (pg_name (i := 2) sc_web_text.nd rfl (Or.inl rfl)) pgs_nil)))) (fun _ _ _ _ _ => pts_nil) (fun _ _ _ _ _ => (pe_call G_line_of (hr.mono (by decide)) rfl T.g_line_of T.k_line_of T.b_line_of .nil pass0 (pa_cons (pe_lst (pa_cons (pv 1) (pa_starK (K := K) rfl (pv 2) pa_nil))) pa_nil))))))), fun B => (lf_ret (lf_m1 lm_join lf_str (lf_lc (li_tup (lf_fld T.C_Web T.N_rows (lf_var (i := 0)))) (lg_tup (lg_cons (lg_name (i := 1)) (lg_cons (lg_name (i := 2)) lg_nil))) lf_yes (lf_callP (lf_cons (lf_lst (lf_cons (lf_var (i := 1)) (lf_star (lf_var (i := 2))))) lf_nil))))), fun B ds k hB hl h => ?_⟩
  obtain ⟨R, rfl, g, hl, h⟩ := h
  have ok := rows_ok g hl
  have hlr : (R.map drow).length = R.length := List.length_map ..
  refine ⟨rfl, rfl, by rw [hlr]; exact le_line (by omega), fun i acc e => e = _ ∧ acc = (R.take i).map fun r => dS (webL r), ⟨rfl, rfl⟩, ?_, ?_⟩
  · rintro i d acc e hd _ ⟨rfl, rfl⟩
    obtain ⟨r, hr, rfl⟩ := map_at hd
    have o := ok r (List.mem_of_getElem? hr)
    have := o.l
    refine ⟨rfl, rfl, rfl, .T rfl ?_⟩
    refine shrs_s ?_
    refine ⟨by show (r.2.map dn).length + 1 ≤ sizeLine; rw [List.length_map]; exact le_line (by omega), rfl, ob_mk rfl (line_of_ns (ns := r.1 :: r.2) o.n (by show r.2.length + 1 ≤ 100; omega) ?_)⟩
    exact ⟨rfl, take_map (f := fun r => dS (webL r)) hr⟩
  rintro acc e _ ⟨rfl, rfl⟩
  rw [hlr, List.take_length]
  refine ob_mk rfl (ob_mk rfl (ob_mk rfl ?_))
  refine ob_mk (x := R.map webL) ?_ ⟨join_fit (b := 30) (by decide) (by decide +kernel) (by rw [List.length_map]; omega) fun x hx => ?_, h⟩
  · have := strs_map (R.map webL)
    rw [List.map_map] at this
    exact this
  · obtain ⟨r, hr, rfl⟩ := List.mem_map.mp hx
    exact (ok r hr).len
def fReadWeb (C : Addr) : DSp := fun ds k => ∃ R : List Row, ds = [.str (webT R)] ∧ Good R ∧ R.length ≤ 200 ∧ k (dweb0 C R) true none
theorem ok_read_web (T : Txt K mg a w) : FnOk P w K mg base CX0 7 a.f_read_web a.d_read_web ["text"] (spD ⟨P, w, K⟩ plain none [false] (fReadWeb a.c_Web)) := by
  have G_numbers_of := ok_numbers_of (P := P) (w := w) (base := base) T
  have G_Web_init := ok_Web_init (P := P) (w := w) (base := base) T
  refine okD T.F_read_web sc_read_web rfl (by decide) fun cdv A outer s H E hr => ⟨_, fun B => _, (pss_cons (ps_if (pt_not (pt_val (pe_callB (isiK (K := K) rfl) (by rfl) T.z_isinstance (by decide +kernel) (pa_cons (pv 0) (pa_cons (pe_bltn (v := .ty "str") rfl T.z_str (show bootBuiltins "str" = some (.type "str") by decide +kernel) rfl) pa_nil)))))
    (pss_one ps_never)
    pss_nil)
  (pss_cons (ps_set (i := 1) sc_read_web.nd rfl (Or.inl rfl) (pe_ifExp (pt_cmpR (neK (K := K) rfl hr.units) (pv 0) pe_str (nomark _)) (pe_split (pv 0) pe_str) (pe_lst pa_nil)))
  (pss_cons (ps_set (i := 2) sc_read_web.nd rfl (Or.inl rfl) (pe_lst pa_nil))
  (pss_cons (ps_for PassesOwn.never rfl (pi_enum rfl T.z_enumerate (pa_cons (pv 1) pa_nil)) (pg_tup (by rfl) (pgs_cons (pg_name (i := 3) sc_read_web.nd rfl (Or.inl rfl)) (pgs_cons (pg_name (i := 4) sc_read_web.nd rfl (Or.inl rfl)) pgs_nil)))
    (pss_cons (ps_set (i := 5) sc_read_web.nd rfl (Or.inl rfl) (pe_call G_numbers_of (hr.mono (by decide)) rfl T.g_numbers_of T.k_numbers_of T.b_numbers_of .nil pass0 (pa_cons (pe_split (pv 4) pe_str) pa_nil)))
  (pss_cons (ps_if (pt_cmpR op_isN (pv 5) pe_non (nomark _))
    (pss_one ps_never)
    pss_nil)
  (pss_one (ps_expr (pe_bm PySem.F.plainAttrs_list PySem.F.slot_list_append PySem.F.type_list_append mt_append (pv 2) (pa_cons (pe_tup (pa_cons (pe_ix (ixK (K := K) rfl) (pv 5) pe_int (fun _ _ => rfl)) (pa_cons (pe_slice (slTK' (K := K) rfl) (pv 5) (po_some pe_int) po_none) pa_nil))) pa_nil)))))))
  (pss_one (ps_ret (pe_make T.M_Web G_Web_init (hr.mono (by decide)) rfl T.g_Web T.b_Web_init .nil pass0 (pa_cons (pe_callTy (tupK (K := K) rfl) (by rfl) T.z_tuple (by decide +kernel) (pa_cons (pv 2) pa_nil)) pa_nil)))))))), fun B => (lf_seq (lf_if (lf_tNot (lf_tB (lf_cb (cl_isi T.OC) (lf_cons (lf_var (i := 0)) (lf_cons lf_ty lf_nil)))))
    lf_never
    lf_next)
  (lf_seq (lf_setO (i := 1) (lf_joinE (lf_ifE (lf_tTest (lf_op lo_ne (lf_var (i := 0)) lf_str)) (lf_m1 lm_split (lf_var (i := 0)) lf_str) (lf_lst lf_nil))))
  (lf_seq (lf_setO (i := 2) (lf_lst lf_nil))
  (lf_seq (lf_for (li_enumL (lf_cons (lf_var (i := 1)) lf_nil)) (lg_tup (lg_cons (lg_name (i := 3)) (lg_cons (lg_name (i := 4)) lg_nil)))
    (lf_seq (lf_set (i := 5) (lf_callP (lf_cons (lf_m1 lm_split (lf_var (i := 4)) lf_str) lf_nil)))
  (lf_seq (lf_if (lf_tTest (lf_op lo_isN (lf_var (i := 5)) lf_non))
    lf_never
    lf_next)
  (lf_drop (lf_bm lm_append (lf_var (i := 2)) (lf_cons (lf_tup (lf_cons (lf_op lo_ix (lf_var (i := 5)) lf_int) (lf_cons (lf_sl ls_T (lf_var (i := 5)) (lf_part lf_int) lf_noPart) lf_nil))) lf_nil))))))
  (lf_ret (lf_make (lf_cons (lf_cb cl_tup (lf_cons (lf_var (i := 2)) lf_nil)) lf_nil))))))), fun B ds k hB hl h => ?_⟩
  obtain ⟨R, rfl, g, hl, h⟩ := h
  have ok := rows_ok g hl
  have hlr : (R.map drow).length = R.length := List.length_map ..
  refine ⟨true, by decide +kernel, .F rfl ?_⟩
  refine ⟨fun av e => av = .f (.lst (R.map fun r => dS (webL r))) ∧ e = [some (.s (.str (webT R))), none, none, none, none, none], ⟨webT_sh ok, ⟨rfl, by decide +kernel⟩, ?_⟩, ?_⟩
  · show IfB (!deq (.str (webT R)) (.str (Str.ofString ""))) _ _
    rw [deq_strs]
    by_cases hn : R = []
    · subst hn
      rw [webT_nil, decide_eq_true rfl]
      exact .F rfl ⟨Nat.zero_le _, rfl, rfl⟩
    · rw [decide_eq_false (webT_ne hn)]
      have := webT_len hl ok
      refine .T rfl ⟨rfl, by decide +kernel, le_line (by omega), ?_, rfl⟩
      rw [show Txt.split (webT R) (Str.ofString "\n") = R.map webL from webT_split hn ok, List.map_map]
      rfl
  rintro av e ⟨rfl, rfl⟩
  refine ⟨rfl, Nat.zero_le _, rfl, ?_⟩
  have hle : (enumD 0 (R.map fun r => dS (webL r))).length = R.length := by rw [enumD_len, List.length_map]
  refine ⟨fun i e => ∃ x3 x4 x5 : Option Cell, e = [some (.s (.str (webT R))), some (.b (.lst (R.map fun r => dS (webL r)))), some (.o (.lst ((R.take i).map drow))), x3, x4, x5], ⟨_, _, _, rfl⟩, ?_, ?_⟩
  · rintro i d e hd ⟨x3, x4, x5, rfl⟩
    obtain ⟨r, hr, rfl⟩ := enum_at hd
    have hi := (List.getElem?_eq_some_iff.mp hr).1
    have o := ok r (List.mem_of_getElem? hr)
    have := o.len
    have := o.l
    refine ⟨rfl, rfl, rfl, rfl, by decide +kernel, le_line (by omega), rfl, ?_⟩
    rw [show Txt.split (webL r) (Str.ofString " ") = (r.1 :: r.2).map nS from o.split]
    refine ob_mk rfl ⟨r.1 :: r.2, rfl, o.n, by show r.2.length + 1 ≤ 100; omega, rfl, .F rfl ⟨trivial, ?_⟩⟩
    refine ob_mk (at0 (dn r.1) _) ⟨le_line (by show 2 ≤ 100000; decide), by rw [List.length_map, List.length_take]; exact lt_line (by omega), some (.s (dn i)), some (.s (dS (webL r))), some (.s (dns (r.1 :: r.2))), ?_⟩
    show [_, _, some (Cell.o (.lst ((R.take i).map drow ++ [.tup [dn r.1, .tup (cutD ((r.1 :: r.2).map dn) (some ((1 : Nat) : Int)) none)]]))), _, _, _] = _
    rw [cut_tail (by rw [List.length_cons]; omega), ← take_map (f := drow) hr]
    rfl
  rintro e ⟨x3, x4, x5, rfl⟩
  rw [hle, List.take_length]
  refine ob_mk rfl (ob_mk rfl ?_)
  refine ⟨rfl, ob_mk rfl ⟨R, rfl, g, hl, h⟩⟩
end
end Lk
namespace Lk
open PySem L2 Dl
open TL
section
theorem bookL_at {B : Bk} (i : Nat) : (bookL B)[2 + i]? = (B.rs.map ruleL ++ B.ms.map moveL)[i]? := by
  rw [Nat.add_comm]
  rfl
theorem bookL_rule {B : Bk} {i : Nat} {r : Rl} (h : B.rs[i]? = some r) : (bookL B)[2 + i]? = some (ruleL r) := by
  have hi := (List.getElem?_eq_some_iff.mp h).1
  rw [bookL_at, List.getElem?_append_left (by rw [List.length_map]; exact hi), List.getElem?_map, h]
  rfl
theorem bookL_move {B : Bk} {i : Nat} {m : Mv} (h : B.ms[i]? = some m) : (bookL B)[2 + B.rs.length + i]? = some (moveL m) := by
  rw [Nat.add_assoc, bookL_at, List.getElem?_append_right (by rw [List.length_map]; omega), List.length_map, Nat.add_sub_cancel_left, List.getElem?_map, h]
  rfl
theorem bookL_len (B : Bk) : (bookL B).length = 2 + B.rs.length + B.ms.length := by
  show (B.rs.map ruleL ++ B.ms.map moveL).length + 1 + 1 = _
  rw [List.length_append, List.length_map, List.length_map]
  omega
theorem rng_at2 {lo : Int} {n i : Nat} (h : i < n) : (rng lo n)[i]? = some (.int (lo + (i : Int))) := by
  unfold rng
  rw [List.getElem?_map, List.getElem?_range h]
  rfl
theorem sh_w {w : Str} (h : WdOk w ∧ ((tl w).all fun c => decide (c < 1114112)) = true) : Sh (.str w) := sh_str fun c hc => of_decide_eq_true (List.all_eq_true.mp h.2 c hc)
theorem sh_ops : Sh (.str wOps) := sh_w ⟨wo_ops, by decide +kernel⟩
theorem sh_kinds : Sh (.str wKinds) := sh_w ⟨wo_kinds, by decide +kernel⟩
theorem sh_rule : Sh (.str wRule) := sh_w ⟨wo_rule, by decide +kernel⟩
theorem sh_move : Sh (.str wMove) := sh_w ⟨wo_move, by decide +kernel⟩
theorem sh_ns (xs : List Nat) : Sh (dns xs) := (Fl.dns 0 xs).sh (by decide)
theorem fl_rl (r : Rl) : Fl 2 (drl r) := Fl.tup (n := 1) (fl_cons (Fl.int _ _) (fl_cons (Fl.dns _ _) (fl_cons (Fl.int _ _) (fl_cons (Fl.int _ _) fl_nil))))
theorem fl_mv (m : Mv) : Fl 1 (dmv m) := Fl.tup (n := 0) (fl_cons (Fl.int _ _) (fl_cons (Fl.int _ _) (fl_cons (Fl.int _ _) fl_nil)))
theorem fl_row (r : Row) : Fl 2 (drow r) := Fl.tup (n := 1) (fl_cons (Fl.int _ _) (fl_cons (Fl.dns _ _) fl_nil))
theorem sh_rls (rs : List Rl) : Sh (drls rs) := (Fl.tup fun d hd => by
  obtain ⟨r, _, rfl⟩ := List.mem_map.mp hd
  exact fl_rl r : Fl 3 _).sh (by decide)
theorem sh_mvs (rs : List Mv) : Sh (dmvs rs) := (Fl.tup fun d hd => by
  obtain ⟨r, _, rfl⟩ := List.mem_map.mp hd
  exact fl_mv r : Fl 2 _).sh (by decide)
theorem sh_rws (rs : List Row) : Sh (drows rs) := (Fl.tup fun d hd => by
  obtain ⟨r, _, rfl⟩ := List.mem_map.mp hd
  exact fl_row r : Fl 3 _).sh (by decide)
theorem deq_refl {d : D} (h : Sh d) : deq d d = true := SeqAt.eqv_refl _ (SeqAt.canLay_of_shaped h.2)
theorem split_len {B : Bk} (g : GoodB B) : (Txt.join nl1 (bookL B)).length ≤ 13100 := by
  have h1 := join_len nl1 (bookL B) 210 fun x hx => (book_ln g x hx).1
  have h3 : nl1.length = 1 := by decide +kernel
  have h4 := book_cnt g
  rw [h3] at h1
  omega
end
section
variable {P : Program} {w : World} {K : PySem.W.Frag} {mg : Str → Option Value} {base : Heap} {a : Adr}
def fFirstMove : DSp := fun ds k => ∃ B : Bk, ds = [.lst ((bookL B).map dS)] ∧ GoodB B ∧ k (dn (2 + B.rs.length)) false none
theorem ok_first_move (T : Txt K mg a w) : FnOk P w K mg base CX0 1 a.f_first_move a.d_first_move ["lines"] (spD ⟨P, w, K⟩ plain none [true] fFirstMove) := by
  refine okD T.F_first_move sc_first_move rfl (by decide) fun cdv A outer s H E hr => ⟨_, fun B => _, (pss_cons (ps_for PassesOwn.never rfl (pi_range2 rfl T.z_range (pa_cons pe_int (pa_cons (pe_callB (lenK' (K := K) rfl) (by rfl) T.z_len PySem.boot_len (pa_cons (pv 0) pa_nil)) pa_nil))) (pg_name (i := 1) sc_first_move.nd rfl (Or.inl rfl))
    (pss_one (ps_if (pt_cmpR (eqK (K := K) rfl hr.units) (pe_ix (ixK (K := K) rfl) (pe_split (pe_ix (ixK (K := K) rfl) (pv 0) (pv 1) (fun _ _ => rfl)) pe_str) pe_int (fun _ _ => rfl)) pe_str (nomark _))
    (pss_one (ps_ret (pv 1)))
    pss_nil)))
  (pss_one (ps_ret (pe_callB (lenK' (K := K) rfl) (by rfl) T.z_len PySem.boot_len (pa_cons (pv 0) pa_nil))))), fun B => (lf_seq (lf_for (li_range2 (lf_cons lf_int (lf_cons (lf_cb cl_len (lf_cons (lf_var (i := 0)) lf_nil)) lf_nil))) (lg_name (i := 1))
    (lf_if (lf_tTest (lf_op lo_eq (lf_op lo_ix (lf_m1 lm_split (lf_op lo_ix (lf_var (i := 0)) (lf_var (i := 1))) lf_str) lf_int) lf_str))
    (lf_ret (lf_var (i := 1)))
    lf_next))
  (lf_ret (lf_cb cl_len (lf_cons (lf_var (i := 0)) lf_nil)))), fun B ds k hB hl h => ?_⟩
  obtain ⟨B, rfl, g, h⟩ := h
  have hl : ((bookL B).map dS).length = 2 + B.rs.length + B.ms.length := by rw [List.length_map, bookL_len]
  have h40 := g.r1
  have h20 := g.m1
  refine ⟨⟨by decide, by decide, by rw [hl]; omega, by rw [hl]; omega⟩, ?_⟩
  rw [show (((((bookL B).map dS).length : Nat) : Int) - 2).toNat = B.rs.length + B.ms.length by rw [hl]; omega]
  refine ⟨fun i e => i ≤ B.rs.length ∧ ∃ x1 : Option Cell, e = [some (.b (.lst ((bookL B).map dS))), x1], ⟨Nat.zero_le _, _, rfl⟩, ?_, ?_⟩
  · rintro i d e hd ⟨hi, x1, rfl⟩
    have hin := (List.getElem?_eq_some_iff.mp hd).1
    rw [rng_len] at hin
    rw [rng_at2 hin] at hd
    cases hd
    rw [show (2 : Int) + (i : Int) = ((2 + i : Nat) : Int) by omega]
    refine ⟨rfl, ?_⟩
    show ob (atI ((bookL B).map dS) ((2 + i : Nat) : Int)) _
    by_cases hr : i < B.rs.length
    · have er : B.rs[i]? = some B.rs[i] := List.getElem?_eq_getElem hr
      have ln := ln_rule g (List.mem_of_getElem? er)
      have : (ruleL B.rs[i]).length ≤ 210 := ln.len
      refine ob_mk (at_map (bookL_rule er)) ⟨rfl, by decide +kernel, le_line (by omega), ?_⟩
      rw [show Txt.split (ruleL B.rs[i]) (Str.ofString " ") = wRule :: (ruleN B.rs[i]).map nS from ln.split]
      refine ob_mk (at0 (dS wRule) _) ⟨sh_rule, sh_move, .F (by decide +kernel) ⟨by omega, _, rfl⟩⟩
    · have hz : i - B.rs.length < B.ms.length := by omega
      have e0 : i = B.rs.length := by omega
      have er : B.ms[0]? = some (B.ms[0]'(by omega)) := List.getElem?_eq_getElem (by omega)
      have ln := ln_move g (List.mem_of_getElem? er)
      have : (moveL (B.ms[0]'(by omega))).length ≤ 210 := ln.len
      subst e0
      have hm0 := bookL_move er
      rw [Nat.add_zero] at hm0
      refine ob_mk (at_map (f := dS) hm0) ?_
      refine ⟨rfl, by decide +kernel, le_line (by omega), ?_⟩
      rw [show Txt.split (moveL (B.ms[0]'(by omega))) (Str.ofString " ") = wMove :: (moveN (B.ms[0]'(by omega))).map nS from ln.split]
      refine ob_mk rfl (ob_mk rfl (ob_mk rfl (ob_mk rfl ?_)))
      exact ob_mk rfl (ob_mk (at0 (dS wMove) _) ⟨sh_move, sh_move, .T (by decide +kernel) h⟩)
  rintro e ⟨hi, x1, rfl⟩
  rw [rng_len] at hi
  show k (.int (((bookL B).map dS).length : Nat)) false none
  rw [hl, show B.ms.length = 0 by omega]
  exact h
def fRule : DSp := fun ds k => ∃ (r : Rl) (n : Int), ds = [.str (ruleL r), .int n] ∧ LnOk wRule (ruleN r) ∧ k (drl r) false none
theorem ok_rule (T : Txt K mg a w) : FnOk P w K mg base CX0 4 a.f_rule a.d_rule ["line", "number"] (spD ⟨P, w, K⟩ plain none [false, false] fRule) := by
  have G_numbers_behind := ok_numbers_behind (P := P) (w := w) (base := base) T
  refine okD T.F_rule sc_rule rfl (by decide) fun cdv A outer s H E hr => ⟨_, fun B => _, (pss_cons (ps_set (i := 2) sc_rule.nd rfl (Or.inl rfl) (pe_call G_numbers_behind (hr.mono (by decide)) rfl T.g_numbers_behind T.k_numbers_behind T.b_numbers_behind .nil pass0 (pa_cons pe_str (pa_cons (pv 0) pa_nil))))
  (pss_cons (ps_if (PW.pt (pw_or (pt_cmpR op_isN (pv 2) pe_non (nomark _)) (pw_or1 (pt_cmpR op_lt (pe_callB (lenK' (K := K) rfl) (by rfl) T.z_len PySem.boot_len (pa_cons (pv 2) pa_nil)) pe_int (nomark _)))))
    (pss_one ps_never)
    pss_nil)
  (pss_cons (ps_asg (pe_slice (slTK' (K := K) rfl) (pv 2) po_none (po_some pe_int)) (pg_tup (by rfl) (pgs_cons (pg_name (i := 3) sc_rule.nd rfl (Or.inl rfl)) (pgs_cons (pg_name (i := 4) sc_rule.nd rfl (Or.inl rfl)) (pgs_cons (pg_name (i := 5) sc_rule.nd rfl (Or.inl rfl)) pgs_nil)))))
  (pss_one (ps_ret (pe_tup (pa_cons (pv 3) (pa_cons (pe_slice (slTK' (K := K) rfl) (pv 2) (po_some pe_int) po_none) (pa_cons (pv 4) (pa_cons (pv 5) pa_nil)))))))))), fun B => (lf_seq (lf_set (i := 2) (lf_callP (lf_cons lf_str (lf_cons (lf_var (i := 0)) lf_nil))))
  (lf_seq (lf_if (lf_tOr (lf_tTest (lf_op lo_isN (lf_var (i := 2)) lf_non)) (lf_tTest (lf_op lo_B (lf_cb cl_len (lf_cons (lf_var (i := 2)) lf_nil)) lf_int)))
    lf_never
    lf_next)
  (lf_seq (lf_asg (lf_sl ls_T (lf_var (i := 2)) lf_noPart (lf_part lf_int)) (lg_tup (lg_cons (lg_name (i := 3)) (lg_cons (lg_name (i := 4)) (lg_cons (lg_name (i := 5)) lg_nil)))))
  (lf_ret (lf_tup (lf_cons (lf_var (i := 3)) (lf_cons (lf_sl ls_T (lf_var (i := 2)) (lf_part lf_int) lf_noPart) (lf_cons (lf_var (i := 4)) (lf_cons (lf_var (i := 5)) lf_nil))))))))), fun B ds k hB hl h => ?_⟩
  obtain ⟨r, n, rfl, ln, h⟩ := h
  refine ⟨rfl, ob_mk rfl ⟨wRule, ruleN r, rfl, sh_rule, ln, rfl, .F rfl ?_⟩⟩
  have hl : ((ruleN r).map dn).length = r.src.length + 3 := by rw [List.length_map]; rfl
  refine .F (decide_eq_false (by omega)) ?_
  have e3 : cutD ((ruleN r).map dn) none (some ((3 : Nat) : Int)) = [dn r.op, dn r.kind, dn r.cost] := by
    rw [cut_any]
    rfl
  have e4 : cutD ((ruleN r).map dn) (some ((3 : Nat) : Int)) none = r.src.map dn := by
    rw [cut_tail (by show 3 ≤ r.src.length + 1 + 1 + 1; omega)]
    rfl
  show dgTup _ _ (.tup (cutD ((ruleN r).map dn) none (some ((3 : Nat) : Int)))) _ _
  rw [e3]
  refine ⟨rfl, rfl, rfl, rfl, le_line (by show 4 ≤ 100000; decide), ?_⟩
  show k (.tup [dn r.op, .tup (cutD ((ruleN r).map dn) (some ((3 : Nat) : Int)) none), dn r.kind, dn r.cost]) _ _
  rw [e4]
  exact h
def fMove : DSp := fun ds k => ∃ (m : Mv) (n : Int), ds = [.str (moveL m), .int n] ∧ LnOk wMove (moveN m) ∧ k (dmv m) false none
theorem ok_move (T : Txt K mg a w) : FnOk P w K mg base CX0 4 a.f_move a.d_move ["line", "number"] (spD ⟨P, w, K⟩ plain none [false, false] fMove) := by
  have G_numbers_behind := ok_numbers_behind (P := P) (w := w) (base := base) T
  refine okD T.F_move sc_move rfl (by decide) fun cdv A outer s H E hr => ⟨_, fun B => _, (pss_cons (ps_set (i := 2) sc_move.nd rfl (Or.inl rfl) (pe_call G_numbers_behind (hr.mono (by decide)) rfl T.g_numbers_behind T.k_numbers_behind T.b_numbers_behind .nil pass0 (pa_cons pe_str (pa_cons (pv 0) pa_nil))))
  (pss_cons (ps_if (PW.pt (pw_or (pt_cmpR op_isN (pv 2) pe_non (nomark _)) (pw_or1 (pt_cmpR (neK (K := K) rfl hr.units) (pe_callB (lenK' (K := K) rfl) (by rfl) T.z_len PySem.boot_len (pa_cons (pv 2) pa_nil)) pe_int (nomark _)))))
    (pss_one ps_never)
    pss_nil)
  (pss_one (ps_ret (pv 2))))), fun B => (lf_seq (lf_set (i := 2) (lf_callP (lf_cons lf_str (lf_cons (lf_var (i := 0)) lf_nil))))
  (lf_seq (lf_if (lf_tOr (lf_tTest (lf_op lo_isN (lf_var (i := 2)) lf_non)) (lf_tTest (lf_op lo_ne (lf_cb cl_len (lf_cons (lf_var (i := 2)) lf_nil)) lf_int)))
    lf_never
    lf_next)
  (lf_ret (lf_var (i := 2))))), fun B ds k hB hl h => ?_⟩
  obtain ⟨m, n, rfl, ln, h⟩ := h
  exact ⟨rfl, ob_mk rfl ⟨wMove, moveN m, rfl, sh_move, ln, rfl, .F rfl ⟨⟨rfl, rfl⟩, ⟨rfl, rfl⟩, .F rfl h⟩⟩⟩
theorem at1 {α : Type} (b c : α) (r : List α) : atI (b :: c :: r) 1 = some c := by
  unfold atI
  rw [show ixN (b :: c :: r).length 1 = some 1 by unfold ixN; simp; omega]
  rfl
def fBookParts : DSp := fun ds k => ∃ B : Bk, ds = [.lst ((bookL B).map dS)] ∧ GoodB B ∧ k (dpartsB B) false none
theorem ok_book_parts (T : Txt K mg a w) : FnOk P w K mg base CX0 6 a.f_book_parts a.d_book_parts ["lines"] (spD ⟨P, w, K⟩ plain none [true] fBookParts) := by
  have G_numbers_behind := ok_numbers_behind (P := P) (w := w) (base := base) T
  have G_first_move := ok_first_move (P := P) (w := w) (base := base) T
  have G_rule := ok_rule (P := P) (w := w) (base := base) T
  have G_move := ok_move (P := P) (w := w) (base := base) T
  refine okD T.F_book_parts sc_book_parts rfl (by decide) fun cdv A outer s H E hr => ⟨_, fun B => _, (pss_cons (ps_set (i := 1) sc_book_parts.nd rfl (Or.inl rfl) (pe_call G_numbers_behind (hr.mono (by decide)) rfl T.g_numbers_behind T.k_numbers_behind T.b_numbers_behind .nil pass0 (pa_cons pe_str (pa_cons (pe_ix (ixK (K := K) rfl) (pv 0) pe_int (fun _ _ => rfl)) pa_nil))))
  (pss_cons (ps_if (pt_cmpR op_isN (pv 1) pe_non (nomark _))
    (pss_one ps_never)
    pss_nil)
  (pss_cons (ps_set (i := 2) sc_book_parts.nd rfl (Or.inl rfl) (pe_ifExp (pt_cmpR op_gt (pe_callB (lenK' (K := K) rfl) (by rfl) T.z_len PySem.boot_len (pa_cons (pv 0) pa_nil)) pe_int (nomark _)) (pe_call G_numbers_behind (hr.mono (by decide)) rfl T.g_numbers_behind T.k_numbers_behind T.b_numbers_behind .nil pass0 (pa_cons pe_str (pa_cons (pe_ix (ixK (K := K) rfl) (pv 0) pe_int (fun _ _ => rfl)) pa_nil))) pe_non))
  (pss_cons (ps_if (PW.pt (pw_or (pt_cmpR op_isN (pv 2) pe_non (nomark _)) (pw_or1 (pt_cmpR (neK (K := K) rfl hr.units) (pe_callB (lenK' (K := K) rfl) (by rfl) T.z_len PySem.boot_len (pa_cons (pv 2) pa_nil)) pe_int (nomark _)))))
    (pss_one ps_never)
    pss_nil)
  (pss_cons (ps_set (i := 3) sc_book_parts.nd rfl (Or.inl rfl) (pe_call G_first_move (hr.mono (by decide)) rfl T.g_first_move T.k_first_move T.b_first_move .nil pass0 (pa_cons (pv 0) pa_nil)))
  (pss_cons (ps_setLc (i := 4) (own := [("at", 6)]) (g := gName 6) (tt := tYes) rfl sc_book_parts.nd rfl rfl (sw_true rfl rfl rfl (by decide +kernel)) (pi_range2 rfl T.z_range (pa_cons pe_int (pa_cons (pv 3) pa_nil))) (blkOk_by (N := ["lines", "arities", "counted", "first_move", "rules", "moves", "at"]) (sc := defScope s_book_parts) (by decide +kernel)) (fun _ _ _ _ _ => (pg_name (i := 6) sc_book_parts.nd rfl (Or.inl rfl))) (fun _ _ _ _ _ => pts_nil) (fun _ _ _ _ _ => (pe_call G_rule (hr.mono (by decide)) rfl T.g_rule T.k_rule T.b_rule .nil pass0 (pa_cons (pe_ix (ixK (K := K) rfl) (pv 0) (pv 6) (fun _ _ => rfl)) (pa_cons (pe_op op_add (pv 6) pe_int) pa_nil)))))
  (pss_cons (ps_setLc (i := 5) (own := [("at", 6)]) (g := gName 6) (tt := tYes) rfl sc_book_parts.nd rfl rfl (sw_true rfl rfl rfl (by decide +kernel)) (pi_range2 rfl T.z_range (pa_cons (pv 3) (pa_cons (pe_callB (lenK' (K := K) rfl) (by rfl) T.z_len PySem.boot_len (pa_cons (pv 0) pa_nil)) pa_nil))) (blkOk_by (N := ["lines", "arities", "counted", "first_move", "rules", "moves", "at"]) (sc := defScope s_book_parts) (by decide +kernel)) (fun _ _ _ _ _ => (pg_name (i := 6) sc_book_parts.nd rfl (Or.inl rfl))) (fun _ _ _ _ _ => pts_nil) (fun _ _ _ _ _ => (pe_call G_move (hr.mono (by decide)) rfl T.g_move T.k_move T.b_move .nil pass0 (pa_cons (pe_ix (ixK (K := K) rfl) (pv 0) (pv 6) (fun _ _ => rfl)) (pa_cons (pe_op op_add (pv 6) pe_int) pa_nil)))))
  (pss_one (ps_ret (pe_tup (pa_cons (pv 1) (pa_cons (pe_ix (ixK (K := K) rfl) (pv 2) pe_int (fun _ _ => rfl)) (pa_cons (pe_callTy (tupK (K := K) rfl) (by rfl) T.z_tuple (by decide +kernel) (pa_cons (pv 4) pa_nil)) (pa_cons (pe_callTy (tupK (K := K) rfl) (by rfl) T.z_tuple (by decide +kernel) (pa_cons (pv 5) pa_nil)) pa_nil)))))))))))))), fun B => (lf_seq (lf_set (i := 1) (lf_callP (lf_cons lf_str (lf_cons (lf_op lo_ix (lf_var (i := 0)) lf_int) lf_nil))))
  (lf_seq (lf_if (lf_tTest (lf_op lo_isN (lf_var (i := 1)) lf_non))
    lf_never
    lf_next)
  (lf_seq (lf_set (i := 2) (lf_joinE (lf_ifE (lf_tTest (lf_op lo_B (lf_cb cl_len (lf_cons (lf_var (i := 0)) lf_nil)) lf_int)) (lf_callP (lf_cons lf_str (lf_cons (lf_op lo_ix (lf_var (i := 0)) lf_int) lf_nil))) lf_non)))
  (lf_seq (lf_if (lf_tOr (lf_tTest (lf_op lo_isN (lf_var (i := 2)) lf_non)) (lf_tTest (lf_op lo_ne (lf_cb cl_len (lf_cons (lf_var (i := 2)) lf_nil)) lf_int)))
    lf_never
    lf_next)
  (lf_seq (lf_set (i := 3) (lf_callP (lf_cons (lf_var (i := 0)) lf_nil)))
  (lf_seq (lf_setO (i := 4) (lf_lc (li_range2 (lf_cons lf_int (lf_cons (lf_var (i := 3)) lf_nil))) (lg_name (i := 6)) lf_yes (lf_callP (lf_cons (lf_op lo_ix (lf_var (i := 0)) (lf_var (i := 6))) (lf_cons (lf_op lo_I (lf_var (i := 6)) lf_int) lf_nil)))))
  (lf_seq (lf_setO (i := 5) (lf_lc (li_range2 (lf_cons (lf_var (i := 3)) (lf_cons (lf_cb cl_len (lf_cons (lf_var (i := 0)) lf_nil)) lf_nil))) (lg_name (i := 6)) lf_yes (lf_callP (lf_cons (lf_op lo_ix (lf_var (i := 0)) (lf_var (i := 6))) (lf_cons (lf_op lo_I (lf_var (i := 6)) lf_int) lf_nil)))))
  (lf_ret (lf_tup (lf_cons (lf_var (i := 1)) (lf_cons (lf_op lo_ix (lf_var (i := 2)) lf_int) (lf_cons (lf_cb cl_tup (lf_cons (lf_var (i := 4)) lf_nil)) (lf_cons (lf_cb cl_tup (lf_cons (lf_var (i := 5)) lf_nil)) lf_nil))))))))))))), fun B ds k hB hl h => ?_⟩
  obtain ⟨B, rfl, g, h⟩ := h
  have hl : ((bookL B).map dS).length = 2 + B.rs.length + B.ms.length := by rw [List.length_map, bookL_len]
  have h40 := g.r1
  have h20 := g.m1
  refine ob_mk (at0 (dS (lineN wOps B.ar)) _) ⟨rfl, ob_mk rfl ⟨wOps, B.ar, rfl, sh_ops, ln_ops g, rfl, .F rfl ?_⟩⟩
  refine ⟨fun av e => av = .s (dns [B.nk]) ∧ e = [some (.b (.lst ((bookL B).map dS))), some (.s (dns B.ar)), none, none, none, none, none], ?_, ?_⟩
  · refine .T (decide_eq_true (by rw [hl]; omega)) ?_
    exact ob_mk (at1 (dS (lineN wOps B.ar)) (dS (lineN wKinds [B.nk])) _) ⟨rfl, ob_mk rfl ⟨wKinds, [B.nk], rfl, sh_kinds, ln_kinds g, rfl, rfl⟩⟩
  rintro av e ⟨rfl, rfl⟩
  refine ⟨rfl, .F rfl ⟨⟨rfl, rfl⟩, ⟨rfl, rfl⟩, .F rfl ?_⟩⟩
  refine ⟨rfl, ob_mk rfl ⟨B, rfl, g, rfl, ⟨by decide, by decide, by omega, by omega⟩, ?_⟩⟩
  rw [show (((2 + B.rs.length : Nat) : Int) - 2).toNat = B.rs.length by omega]
  refine ⟨by rw [rng_len]; exact le_line (by omega), fun i acc e => e = _ ∧ acc = (B.rs.take i).map drl, ⟨rfl, rfl⟩, ?_, ?_⟩
  · rintro i d acc e hd _ ⟨rfl, rfl⟩
    have hin := (List.getElem?_eq_some_iff.mp hd).1
    rw [rng_len] at hin
    rw [rng_at2 hin] at hd
    cases hd
    have er : B.rs[i]? = some B.rs[i] := List.getElem?_eq_getElem hin
    rw [show (2 : Int) + (i : Int) = ((2 + i : Nat) : Int) by omega]
    refine ⟨rfl, .T rfl ?_⟩
    show ob (atI ((bookL B).map dS) ((2 + i : Nat) : Int)) _
    refine ob_mk (at_map (bookL_rule er)) ⟨rfl, ob_mk rfl ⟨B.rs[i], _, rfl, ln_rule g (List.mem_of_getElem? er), rfl, take_map (f := drl) er⟩⟩
  rintro acc e _ ⟨rfl, rfl⟩
  rw [rng_len, List.take_length]
  refine ob_mk rfl ⟨rfl, ⟨by omega, by omega, by rw [hl]; omega, by rw [hl]; omega⟩, ?_⟩
  rw [show (((((bookL B).map dS).length : Nat) : Int) - ((2 + B.rs.length : Nat) : Int)).toNat = B.ms.length by rw [hl]; omega]
  refine ⟨by rw [rng_len]; exact le_line (by omega), fun i acc e => e = _ ∧ acc = (B.ms.take i).map dmv, ⟨rfl, rfl⟩, ?_, ?_⟩
  · rintro i d acc e hd _ ⟨rfl, rfl⟩
    have hin := (List.getElem?_eq_some_iff.mp hd).1
    rw [rng_len] at hin
    rw [rng_at2 hin] at hd
    cases hd
    have er : B.ms[i]? = some B.ms[i] := List.getElem?_eq_getElem hin
    rw [show ((2 + B.rs.length : Nat) : Int) + (i : Int) = ((2 + B.rs.length + i : Nat) : Int) by omega]
    refine ⟨rfl, .T rfl ?_⟩
    show ob (atI ((bookL B).map dS) ((2 + B.rs.length + i : Nat) : Int)) _
    refine ob_mk (at_map (bookL_move er)) ⟨rfl, ob_mk rfl ⟨B.ms[i], _, rfl, ln_move g (List.mem_of_getElem? er), rfl, take_map (f := dmv) er⟩⟩
  rintro acc e _ ⟨rfl, rfl⟩
  rw [rng_len, List.take_length]
  refine ob_mk rfl ⟨rfl, ?_⟩
  exact ⟨le_line (by show 4 ≤ 100000; decide), h⟩
def fReadBook (C : Addr) : DSp := fun ds k => ∃ B : Bk, ds = [.str (Txt.join nl1 (bookL B))] ∧ GoodB B ∧ k (dbook C B) true none
theorem ok_read_book (T : Txt K mg a w) : FnOk P w K mg base CX0 8 a.f_read_book a.d_read_book ["text"] (spD ⟨P, w, K⟩ plain none [false] (fReadBook a.c_Book)) := by
  have G_book_parts := ok_book_parts (P := P) (w := w) (base := base) T
  have G_Book_init := ok_Book_init (P := P) (w := w) (base := base) T
  refine okD T.F_read_book sc_read_book rfl (by decide) fun cdv A outer s H E hr => ⟨_, fun B => _, (pss_cons (ps_if (pt_not (pt_val (pe_callB (isiK (K := K) rfl) (by rfl) T.z_isinstance (by decide +kernel) (pa_cons (pv 0) (pa_cons (pe_bltn (v := .ty "str") rfl T.z_str (show bootBuiltins "str" = some (.type "str") by decide +kernel) rfl) pa_nil)))))
    (pss_one ps_never)
    pss_nil)
  (pss_cons (ps_asg (pe_call G_book_parts (hr.mono (by decide)) rfl T.g_book_parts T.k_book_parts T.b_book_parts .nil pass0 (pa_cons (pe_split (pv 0) pe_str) pa_nil)) (pg_tup (by rfl) (pgs_cons (pg_name (i := 1) sc_read_book.nd rfl (Or.inl rfl)) (pgs_cons (pg_name (i := 2) sc_read_book.nd rfl (Or.inl rfl)) (pgs_cons (pg_name (i := 3) sc_read_book.nd rfl (Or.inl rfl)) (pgs_cons (pg_name (i := 4) sc_read_book.nd rfl (Or.inl rfl)) pgs_nil))))))
  (pss_one (ps_ret (pe_make T.M_Book G_Book_init (hr.mono (by decide)) rfl T.g_Book T.b_Book_init .nil pass0 (pa_cons (pv 1) (pa_cons (pv 2) (pa_cons (pv 3) (pa_cons (pv 4) pa_nil))))))))), fun B => (lf_seq (lf_if (lf_tNot (lf_tB (lf_cb (cl_isi T.OC) (lf_cons (lf_var (i := 0)) (lf_cons lf_ty lf_nil)))))
    lf_never
    lf_next)
  (lf_seq (lf_asg (lf_callP (lf_cons (lf_m1 lm_split (lf_var (i := 0)) lf_str) lf_nil)) (lg_tup (lg_cons (lg_name (i := 1)) (lg_cons (lg_name (i := 2)) (lg_cons (lg_name (i := 3)) (lg_cons (lg_name (i := 4)) lg_nil))))))
  (lf_ret (lf_make (lf_cons (lf_var (i := 1)) (lf_cons (lf_var (i := 2)) (lf_cons (lf_var (i := 3)) (lf_cons (lf_var (i := 4)) lf_nil)))))))), fun B ds k hB hl h => ?_⟩
  obtain ⟨B, rfl, g, h⟩ := h
  have := split_len g
  refine ⟨true, by decide +kernel, .F rfl ⟨rfl, by decide +kernel, le_line (by omega), rfl, ?_⟩⟩
  rw [show Txt.split (Txt.join nl1 (bookL B)) (Str.ofString "\n") = bookL B from split_nl (by unfold bookL; simp) fun x hx => (book_ln g x hx).2]
  refine ob_mk rfl ⟨B, rfl, g, rfl, rfl, rfl, rfl, rfl, rfl, ob_mk rfl ⟨B, rfl, g, h⟩⟩
def fWebLines : DSp := fun ds k => ∃ R : List Row, ds = [drows R] ∧ Good R ∧ R.length ≤ 200 ∧ k (.lst ((R.map webL).map dS)) true none
theorem ok_law_web_lines (T : Txt K mg a w) : FnOk P w K mg base CX0 1 a.f_law_web_lines a.d_law_web_lines ["_law_values"] (spD ⟨P, w, K⟩ plain none [false] fWebLines) := by
  refine okD T.F_law_web_lines sc_law_web_lines rfl (by decide) fun cdv A outer s H E hr => ⟨_, fun B => _, (pss_one (ps_ret (pe_lc (own := [("_law_value", 1)]) (g := gName 1) (tt := tYes) rfl sc_law_web_lines.nd (pi_tup (pv 0)) (blkOk_by (N := ["_law_values", "_law_value", "_law_part"]) (sc := defScope s_law_web_lines) (by decide +kernel)) (fun _ _ _ _ _ => (pg_name (i := 1) sc_law_web_lines.nd rfl (Or.inl rfl))) (fun _ _ _ _ _ => pts_nil) (fun _ _ _ _ _ => (pe_joinK (K := K) rfl pe_str (pe_op op_cat (pe_lst (pa_cons (pe_callTy call_str_any (by rfl) T.z_str (by decide +kernel) (pa_cons (pe_ix (ixK (K := K) rfl) (pv 1) pe_int (fun _ _ => rfl)) pa_nil)) pa_nil)) (pe_lc (own := [("_law_part", 2)]) (g := gName 2) (tt := tYes) rfl sc_law_web_lines.nd (piT (K := K) rfl (pe_ix (ixK (K := K) rfl) (pv 1) pe_int (fun _ _ => rfl))) ((by show BlkOk _ (relS _ (defScope s_law_web_lines)) _ _; exact blkOk_by (N := ["_law_values", "_law_value", "_law_part"]) (by decide +kernel))) (fun _ _ _ _ _ => (pg_name (i := 2) sc_law_web_lines.nd rfl (Or.inl rfl))) (fun _ _ _ _ _ => pts_nil) (fun _ _ _ _ _ => (pe_callTy call_str_any (by rfl) T.z_str (by decide +kernel) (pa_cons (pv 2) pa_nil)))))))))), fun B => (lf_ret (lf_lc (li_tup (lf_var (i := 0))) (lg_name (i := 1)) lf_yes (lf_m1 lm_join lf_str (lf_op lo_catL (lf_lst (lf_cons (lf_cb cl_str (lf_cons (lf_op lo_ix (lf_var (i := 1)) lf_int) lf_nil)) lf_nil)) (lf_lc (li_tup (lf_op lo_ix (lf_var (i := 1)) lf_int)) (lg_name (i := 2)) lf_yes (lf_cb cl_str (lf_cons (lf_var (i := 2)) lf_nil))))))), fun B ds k hB hl h => ?_⟩
  obtain ⟨R, rfl, g, hl, h⟩ := h
  have ok := rows_ok g hl
  have hlr : (R.map drow).length = R.length := List.length_map ..
  refine ⟨by rw [hlr]; exact le_line (by omega), fun i acc e => e = _ ∧ acc = (R.take i).map fun r => dS (webL r), ⟨rfl, rfl⟩, ?_, ?_⟩
  · rintro i d acc e hd _ ⟨rfl, rfl⟩
    obtain ⟨r, hr, rfl⟩ := map_at hd
    have o := ok r (List.mem_of_getElem? hr)
    have hol := o.l
    have hls : (r.2.map dn).length = r.2.length := List.length_map ..
    refine ⟨rfl, .T rfl ⟨rfl, log_small (o.n _ (by simp)), le_line (by show 1 ≤ 100000; decide), ?_⟩⟩
    refine ⟨by rw [hls]; exact le_line (by omega), fun i acc e => e = _ ∧ acc = (r.2.take i).map fun n => dS (nS n), ⟨rfl, rfl⟩, ?_, ?_⟩
    · rintro i d acc e hd _ ⟨rfl, rfl⟩
      obtain ⟨n, hx, rfl⟩ := map_at hd
      exact ⟨rfl, .T rfl ⟨log_small (o.n n (List.mem_cons_of_mem _ (List.mem_of_getElem? hx))), rfl, take_map (f := fun n => dS (nS n)) hx⟩⟩
    rintro acc e _ ⟨rfl, rfl⟩
    rw [hls, List.take_length]
    refine ob_mk rfl ⟨by rw [List.length_map]; exact le_line (by show 1 + r.2.length ≤ 100000; omega), ob_mk rfl (ob_mk rfl ?_)⟩
    refine ob_mk (x := (r.1 :: r.2).map nS) ?_ ⟨join_fit (b := 9) (by decide) (by decide +kernel) (by rw [List.length_map, List.length_cons]; omega) (fun x hx => (o.wd x hx).l), rfl, take_map (f := fun r => dS (webL r)) hr⟩
    have := strs_map ((r.1 :: r.2).map nS)
    rw [List.map_map] at this
    exact this
  rintro acc e _ ⟨rfl, rfl⟩
  rw [hlr, List.take_length]
  refine ob_mk rfl ?_
  rw [List.map_map] at h
  exact h
/-! equal -/
def PB (C : Addr) : D → D → Prop := fun d e => ∃ B : Bk, d = dbook C B ∧ e = dbook C B
theorem ok_Book_eq (T : Txt K mg a w) : FnOk P w K mg base CX0 3 a.f_Book_eq a.d_Book_eq ["self", "other"] (spD ⟨P, w, K⟩ plain none [true, true] (fEq2 (PB a.c_Book))) := by
  refine okD T.F_Book_eq sc_Book_eq rfl (by decide) fun cdv A outer s H E hr => ⟨_, fun B => _, (pss_one (ps_ret (pe_and (pe_callB (isiK (K := K) rfl) (by rfl) T.z_isinstance (by decide +kernel) (pa_cons (pv 1) (pa_cons (pe_glob (v := .ref a.c_Book) rfl T.g_Book rfl) pa_nil))) (pe_and (pe_cmpR (eqK (K := K) rfl hr.units) (pe_fld (pv 0) rfl) (pe_fld (pv 1) rfl) (nomark _)) (pe_and (pe_cmpR (eqK (K := K) rfl hr.units) (pe_fld (pv 0) rfl) (pe_fld (pv 1) rfl) (nomark _)) (pe_and (pe_cmpR (eqK (K := K) rfl hr.units) (pe_fld (pv 0) rfl) (pe_fld (pv 1) rfl) (nomark _)) (pe_one (pe_cmpR (eqK (K := K) rfl hr.units) (pe_fld (pv 0) rfl) (pe_fld (pv 1) rfl) (nomark _))))))))), fun B => (lf_ret (lf_andV (lf_cb (cl_isi T.OC) (lf_cons (lf_var (i := 1)) (lf_cons lf_glob lf_nil))) (lf_andV (lf_op lo_eq (lf_fld T.C_Book T.N_arities (lf_var (i := 0))) (lf_fld T.C_Book T.N_arities (lf_var (i := 1)))) (lf_andV (lf_op lo_eq (lf_fld T.C_Book T.N_kinds (lf_var (i := 0))) (lf_fld T.C_Book T.N_kinds (lf_var (i := 1)))) (lf_andV (lf_op lo_eq (lf_fld T.C_Book T.N_rules (lf_var (i := 0))) (lf_fld T.C_Book T.N_rules (lf_var (i := 1)))) (lf_op lo_eq (lf_fld T.C_Book T.N_moves (lf_var (i := 0))) (lf_fld T.C_Book T.N_moves (lf_var (i := 1))))))))), fun B ds k hB hl h => ?_⟩
  obtain ⟨d, e, rfl, ⟨B, rfl, rfl⟩, h⟩ := h
  refine ⟨rfl, .inl rfl, .T rfl ⟨rfl, rfl, sh_ns _, sh_ns _, ?_⟩⟩
  rw [deq_refl (sh_ns _)]
  refine .T rfl ⟨rfl, rfl, ⟨rfl, rfl⟩, ⟨rfl, rfl⟩, ?_⟩
  show IfB (deq (.int (B.nk : Int)) (.int (B.nk : Int))) _ _
  rw [deq_int]
  refine .T rfl ⟨rfl, rfl, sh_rls _, sh_rls _, ?_⟩
  rw [deq_refl (sh_rls _)]
  refine .T rfl ⟨rfl, rfl, sh_mvs _, sh_mvs _, ?_⟩
  show k (.bl (deq (dmvs B.ms) (dmvs B.ms))) _ _
  rw [deq_refl (sh_mvs _)]
  exact h
def PW (C : Addr) : D → D → Prop := fun d e => ∃ R : List Row, d = dweb0 C R ∧ e = dweb0 C R
theorem ok_Web_eq (T : Txt K mg a w) : FnOk P w K mg base CX0 3 a.f_Web_eq a.d_Web_eq ["self", "other"] (spD ⟨P, w, K⟩ plain none [true, true] (fEq2 (PW a.c_Web))) := by
  refine okD T.F_Web_eq sc_Web_eq rfl (by decide) fun cdv A outer s H E hr => ⟨_, fun B => _, (pss_one (ps_ret (pe_and (pe_callB (isiK (K := K) rfl) (by rfl) T.z_isinstance (by decide +kernel) (pa_cons (pv 1) (pa_cons (pe_glob (v := .ref a.c_Web) rfl T.g_Web rfl) pa_nil))) (pe_one (pe_cmpR (eqK (K := K) rfl hr.units) (pe_fld (pv 0) rfl) (pe_fld (pv 1) rfl) (nomark _)))))), fun B => (lf_ret (lf_andV (lf_cb (cl_isi T.OC) (lf_cons (lf_var (i := 1)) (lf_cons lf_glob lf_nil))) (lf_op lo_eq (lf_fld T.C_Web T.N_rows (lf_var (i := 0))) (lf_fld T.C_Web T.N_rows (lf_var (i := 1)))))), fun B ds k hB hl h => ?_⟩
  obtain ⟨d, e, rfl, ⟨B, rfl, rfl⟩, h⟩ := h
  refine ⟨rfl, .inr rfl, .T rfl ⟨rfl, rfl, sh_rws _, sh_rws _, ?_⟩⟩
  show k (.bl (deq (drows B) (drows B))) _ _
  rw [deq_refl (sh_rws _)]
  exact h
end
end Lk
namespace Lk
open PySem L2 Dl
open TL
section
theorem book_sh {B : Bk} (g : GoodB B) : Sh (.str (Txt.join nl1 (bookL B))) := sh_str fun c q => by
  rcases mem_join q with q | ⟨x, hx, q⟩
  · rw [tl_nl] at q
    rw [List.mem_singleton.mp q]
    decide
  · rw [← bookN_L] at hx
    obtain ⟨p, hp, rfl⟩ := List.mem_map.mp hx
    have ln := bookN_ok g p hp
    rcases mem_join q with q | ⟨y, hy, q⟩
    · rw [tl_sp] at q
      rw [List.mem_singleton.mp q]
      decide
    · rcases List.mem_cons.mp hy with rfl | hy
      · have hpw : p.1 = wOps ∨ p.1 = wKinds ∨ p.1 = wRule ∨ p.1 = wMove := by
          rcases List.mem_cons.mp hp with rfl | hp
          · exact .inl rfl
          rcases List.mem_cons.mp hp with rfl | hp
          · exact .inr (.inl rfl)
          rcases List.mem_append.mp hp with hp | hp
          · obtain ⟨r, _, rfl⟩ := List.mem_map.mp hp
            exact .inr (.inr (.inl rfl))
          · obtain ⟨r, _, rfl⟩ := List.mem_map.mp hp
            exact .inr (.inr (.inr rfl))
        have hall : ∀ w, (w = wOps ∨ w = wKinds ∨ w = wRule ∨ w = wMove) → ((tl w).all fun c => decide (c < 1114112)) = true := fun w hw => by
          rcases hw with rfl | rfl | rfl | rfl <;> decide +kernel
        exact of_decide_eq_true (List.all_eq_true.mp (hall _ hpw) c q)
      · obtain ⟨n, hn, rfl⟩ := List.mem_map.mp hy
        have := nS_digit q
        omega
theorem good_take {R : List Row} (g : Good R) (n : Nat) : Good (R.take n) := fun i hi => by
  rw [List.length_take] at hi
  have h1 := g i (by omega)
  have e : rowAt (R.take n) i = rowAt R i := by
    unfold rowAt
    rw [List.getD_eq_getElem?_getD, List.getD_eq_getElem?_getD, List.getElem?_take_of_lt (by omega)]
  unfold parts at h1 ⊢
  rw [e]
  exact h1
end
section
variable {P : Program} {w : World} {K : PySem.W.Frag} {mg : Str → Option Value} {base : Heap} {a : Adr}
theorem ok_law_same6 (T : Txt K mg a w) : FnOk P w K mg base CX0 6 a.f_law_same a.d_law_same ["_law_told", "_law_due"] (spD ⟨P, w, K⟩ plain none [true, true] (fSame 6)) := ok_law_same T 6
theorem okS_parts {B : Bk} (g : GoodB B) : okS 6 (dpartsB B) := by
  have := g.a2
  have := g.r1
  have := g.m1
  refine ⟨by show 4 ≤ 100000; decide, fun x hx => ?_⟩
  rcases List.mem_cons.mp hx with rfl | hx
  · exact okS_dns 3 (by omega)
  rcases List.mem_cons.mp hx with rfl | hx
  · exact trivial
  rcases List.mem_cons.mp hx with rfl | hx
  · refine ⟨by rw [List.length_map]; omega, fun x hx => ?_⟩
    obtain ⟨r, hr, rfl⟩ := List.mem_map.mp hx
    refine ⟨by show 4 ≤ 100000; decide, fun x hx => ?_⟩
    rcases List.mem_cons.mp hx with rfl | hx
    · exact trivial
    rcases List.mem_cons.mp hx with rfl | hx
    · exact okS_dns 1 (by have := src_len g hr; omega)
    rcases List.mem_cons.mp hx with rfl | hx
    · exact trivial
    rw [List.mem_singleton.mp hx]
    exact trivial
  rw [List.mem_singleton.mp hx]
  refine ⟨by rw [List.length_map]; omega, fun x hx => ?_⟩
  obtain ⟨r, hr, rfl⟩ := List.mem_map.mp hx
  refine ⟨by show 3 ≤ 100000; decide, fun x hx => ?_⟩
  rcases List.mem_cons.mp hx with rfl | hx
  · exact trivial
  rcases List.mem_cons.mp hx with rfl | hx
  · exact trivial
  rw [List.mem_singleton.mp hx]
  exact trivial
theorem okS_rows {R : List Row} (hl : R.length ≤ 200) (ok : ∀ r ∈ R, RowOk r) : okS 6 (drows R) := by
  refine ⟨by rw [List.length_map]; omega, fun x hx => ?_⟩
  obtain ⟨r, hr, rfl⟩ := List.mem_map.mp hx
  refine ⟨by show 2 ≤ 100000; decide, fun x hx => ?_⟩
  rcases List.mem_cons.mp hx with rfl | hx
  · exact trivial
  rw [List.mem_singleton.mp hx]
  exact okS_dns 2 (by have := (ok r hr).l; omega)
theorem ok_law (T : Txt K mg a w) : FnOk P w K mg base CX0 16 a.f_law a.d_law ["_law_script"] (spLaw K) := by
  have G_law_bag := ok_law_bag (P := P) (w := w) (base := base) T
  have G_law_pick := ok_law_pick (P := P) (w := w) (base := base) T
  have G_law_sound_book := ok_law_sound_book (P := P) (w := w) (base := base) T
  have G_Book_init := ok_Book_init (P := P) (w := w) (base := base) T
  have G_Book_eq := ok_Book_eq (P := P) (w := w) (base := base) T
  have G_law_book_lines := ok_law_book_lines (P := P) (w := w) (base := base) T
  have G_book_text := ok_book_text (P := P) (w := w) (base := base) T
  have G_law_same := ok_law_same6 (P := P) (w := w) (base := base) T
  have G_read_book := ok_read_book (P := P) (w := w) (base := base) T
  have G_law_free_values := ok_law_free_values (P := P) (w := w) (base := base) T
  have G_Web_init := ok_Web_init (P := P) (w := w) (base := base) T
  have G_Web_eq := ok_Web_eq (P := P) (w := w) (base := base) T
  have G_law_web_lines := ok_law_web_lines (P := P) (w := w) (base := base) T
  have G_web_text := ok_web_text (P := P) (w := w) (base := base) T
  have G_read_web := ok_read_web (P := P) (w := w) (base := base) T
  refine okLaw T.F_law sc_law (by decide) fun cdv A outer s H E hr => ⟨_, _, fun B => _, (pss_cons (ps_set (i := 1) sc_law.nd rfl (Or.inl rfl) (pe_call G_law_bag (hr.mono (by decide)) rfl T.g_law_bag T.k_law_bag T.b_law_bag .nil pass0 (pa_cons (pv 0) pa_nil)))
  (pss_cons (ps_for PassesOwn.never rfl (pi_range1 rfl T.z_range (pa_cons pe_int pa_nil)) (pg_name (i := 2) sc_law.nd rfl (Or.inl rfl))
    (pss_cons (ps_set (i := 3) sc_law.nd rfl (Or.inl rfl) (pe_call G_law_sound_book (hr.mono (by decide)) rfl T.g_law_sound_book T.k_law_sound_book T.b_law_sound_book .nil pass0 (pa_cons (pv 1) pa_nil)))
  (pss_cons (ps_set (i := 4) sc_law.nd rfl (Or.inl rfl) (pe_make T.M_Book G_Book_init (hr.mono (by decide)) rfl T.g_Book T.b_Book_init .nil pass0 (pa_cons (pe_ix (ixK (K := K) rfl) (pv 3) pe_int (fun _ _ => rfl)) (pa_cons (pe_ix (ixK (K := K) rfl) (pv 3) pe_int (fun _ _ => rfl)) (pa_cons (pe_ix (ixK (K := K) rfl) (pv 3) pe_int (fun _ _ => rfl)) (pa_cons (pe_ix (ixK (K := K) rfl) (pv 3) pe_int (fun _ _ => rfl)) pa_nil))))))
  (pss_cons (ps_set (i := 5) sc_law.nd rfl (Or.inl rfl) (pe_joinK (K := K) rfl pe_str (pe_call G_law_book_lines (hr.mono (by decide)) rfl T.g_law_book_lines T.k_law_book_lines T.b_law_book_lines .nil pass0 (pa_cons (pv 3) pa_nil))))
  (pss_cons (ps_if (pt_not (pt_val (pe_call G_law_same (hr.mono (by decide)) rfl T.g_law_same T.k_law_same T.b_law_same .nil pass0 (pa_cons (pe_call G_book_text (hr.mono (by decide)) rfl T.g_book_text T.k_book_text T.b_book_text .nil pass0 (pa_cons (pv 4) pa_nil)) (pa_cons (pv 5) pa_nil)))))
    (pss_one (ps_ret pe_bl))
    pss_nil)
  (pss_cons (ps_set (i := 6) sc_law.nd rfl (Or.inl rfl) (pe_call G_read_book (hr.mono (by decide)) rfl T.g_read_book T.k_read_book T.b_read_book .nil pass0 (pa_cons (pv 5) pa_nil)))
  (pss_cons (ps_if (PW.pt (pw_or (pt_not (pt_val (pe_callB (isiK (K := K) rfl) (by rfl) T.z_isinstance (by decide +kernel) (pa_cons (pv 6) (pa_cons (pe_glob (v := .ref a.c_Book) rfl T.g_Book rfl) pa_nil))))) (pw_or (pt_not (pt_cmpR (pe_eqI (S := ⟨P, w, K⟩) rfl rfl rfl G_Book_eq (hr.mono (by decide)) T.e_Book T.fe_Book T.b_Book_eq pass0) (pv 6) (pv 4) (nomark _))) (pw_or1 (pt_not (pt_cmpR (pe_eqI (S := ⟨P, w, K⟩) rfl rfl rfl G_Book_eq (hr.mono (by decide)) T.e_Book T.fe_Book T.b_Book_eq pass0) (pv 4) (pv 6) (nomark _)))))))
    (pss_one (ps_ret pe_bl))
    pss_nil)
  (pss_cons (ps_if (pt_not (pt_val (pe_call G_law_same (hr.mono (by decide)) rfl T.g_law_same T.k_law_same T.b_law_same .nil pass0 (pa_cons (pe_tup (pa_cons (pe_fld (pv 6) rfl) (pa_cons (pe_fld (pv 6) rfl) (pa_cons (pe_fld (pv 6) rfl) (pa_cons (pe_fld (pv 6) rfl) pa_nil))))) (pa_cons (pv 3) pa_nil)))))
    (pss_one (ps_ret pe_bl))
    pss_nil)
  (pss_cons (ps_if (pt_not (pt_val (pe_call G_law_same (hr.mono (by decide)) rfl T.g_law_same T.k_law_same T.b_law_same .nil pass0 (pa_cons (pe_call G_book_text (hr.mono (by decide)) rfl T.g_book_text T.k_book_text T.b_book_text .nil pass0 (pa_cons (pv 6) pa_nil)) (pa_cons (pv 5) pa_nil)))))
    (pss_one (ps_ret pe_bl))
    pss_nil)
  (pss_cons (ps_set (i := 7) sc_law.nd rfl (Or.inl rfl) (pe_call G_law_free_values (hr.mono (by decide)) rfl T.g_law_free_values T.k_law_free_values T.b_law_free_values .nil pass0 (pa_cons (pv 1) pa_nil)))
  (pss_cons (ps_if (pt_cmpR (eqK (K := K) rfl hr.units) (pv 2) pe_int (nomark _))
    (pss_one (ps_set (i := 7) sc_law.nd rfl (Or.inl rfl) (pe_slice (slTK' (K := K) rfl) (pv 7) po_none (po_some (pe_call G_law_pick (hr.mono (by decide)) rfl T.g_law_pick T.k_law_pick T.b_law_pick .nil pass0 (pa_cons (pv 1) (pa_cons pe_int pa_nil)))))))
    pss_nil)
  (pss_cons (ps_set (i := 8) sc_law.nd rfl (Or.inl rfl) (pe_make T.M_Web G_Web_init (hr.mono (by decide)) rfl T.g_Web T.b_Web_init .nil pass0 (pa_cons (pv 7) pa_nil)))
  (pss_cons (ps_set (i := 5) sc_law.nd rfl (Or.inl rfl) (pe_joinK (K := K) rfl pe_str (pe_call G_law_web_lines (hr.mono (by decide)) rfl T.g_law_web_lines T.k_law_web_lines T.b_law_web_lines .nil pass0 (pa_cons (pv 7) pa_nil))))
  (pss_cons (ps_if (pt_not (pt_val (pe_call G_law_same (hr.mono (by decide)) rfl T.g_law_same T.k_law_same T.b_law_same .nil pass0 (pa_cons (pe_call G_web_text (hr.mono (by decide)) rfl T.g_web_text T.k_web_text T.b_web_text .nil pass0 (pa_cons (pv 8) pa_nil)) (pa_cons (pv 5) pa_nil)))))
    (pss_one (ps_ret pe_bl))
    pss_nil)
  (pss_cons (ps_set (i := 6) sc_law.nd rfl (Or.inl rfl) (pe_call G_read_web (hr.mono (by decide)) rfl T.g_read_web T.k_read_web T.b_read_web .nil pass0 (pa_cons (pv 5) pa_nil)))
  (pss_cons (ps_if (PW.pt (pw_or (pt_not (pt_val (pe_callB (isiK (K := K) rfl) (by rfl) T.z_isinstance (by decide +kernel) (pa_cons (pv 6) (pa_cons (pe_glob (v := .ref a.c_Web) rfl T.g_Web rfl) pa_nil))))) (pw_or (pt_not (pt_cmpR (pe_eqI (S := ⟨P, w, K⟩) rfl rfl rfl G_Web_eq (hr.mono (by decide)) T.e_Web T.fe_Web T.b_Web_eq pass0) (pv 6) (pv 8) (nomark _))) (pw_or1 (pt_not (pt_val (pe_call G_law_same (hr.mono (by decide)) rfl T.g_law_same T.k_law_same T.b_law_same .nil pass0 (pa_cons (pe_fld (pv 6) rfl) (pa_cons (pv 7) pa_nil)))))))))
    (pss_one (ps_ret pe_bl))
    pss_nil)
  (pss_one (ps_if (pt_not (pt_val (pe_call G_law_same (hr.mono (by decide)) rfl T.g_law_same T.k_law_same T.b_law_same .nil pass0 (pa_cons (pe_call G_web_text (hr.mono (by decide)) rfl T.g_web_text T.k_web_text T.b_web_text .nil pass0 (pa_cons (pv 6) pa_nil)) (pa_cons (pv 5) pa_nil)))))
    (pss_one (ps_ret pe_bl))
    pss_nil))))))))))))))))))
  (pss_one (ps_ret pe_bl)))), fun B => (lf_seq (lf_for (li_range1 (lf_cons lf_int lf_nil)) (lg_name (i := 2))
    (lf_seq (lf_set (i := 3) (lf_callV (lf_cons (lf_var (i := 1)) lf_nil)))
  (lf_seq (lf_set (i := 4) (lf_make (lf_cons (lf_op lo_ix (lf_var (i := 3)) lf_int) (lf_cons (lf_op lo_ix (lf_var (i := 3)) lf_int) (lf_cons (lf_op lo_ix (lf_var (i := 3)) lf_int) (lf_cons (lf_op lo_ix (lf_var (i := 3)) lf_int) lf_nil))))))
  (lf_seq (lf_set (i := 5) (lf_m1 lm_join lf_str (lf_callP (lf_cons (lf_var (i := 3)) lf_nil))))
  (lf_seq (lf_if (lf_tNot (lf_tB (lf_callP (lf_cons (lf_callP (lf_cons (lf_var (i := 4)) lf_nil)) (lf_cons (lf_var (i := 5)) lf_nil)))))
    (lf_ret lf_bl)
    lf_next)
  (lf_seq (lf_set (i := 6) (lf_callP (lf_cons (lf_var (i := 5)) lf_nil)))
  (lf_seq (lf_if (lf_tOr (lf_tNot (lf_tB (lf_cb (cl_isi T.OC) (lf_cons (lf_var (i := 6)) (lf_cons lf_glob lf_nil))))) (lf_tOr (lf_tNot (lf_tTest (lf_op lo_eqI (lf_var (i := 6)) (lf_var (i := 4))))) (lf_tNot (lf_tTest (lf_op lo_eqI (lf_var (i := 4)) (lf_var (i := 6)))))))
    (lf_ret lf_bl)
    lf_next)
  (lf_seq (lf_if (lf_tNot (lf_tB (lf_callP (lf_cons (lf_tup (lf_cons (lf_fld T.C_Book T.N_arities (lf_var (i := 6))) (lf_cons (lf_fld T.C_Book T.N_kinds (lf_var (i := 6))) (lf_cons (lf_fld T.C_Book T.N_rules (lf_var (i := 6))) (lf_cons (lf_fld T.C_Book T.N_moves (lf_var (i := 6))) lf_nil))))) (lf_cons (lf_var (i := 3)) lf_nil)))))
    (lf_ret lf_bl)
    lf_next)
  (lf_seq (lf_if (lf_tNot (lf_tB (lf_callP (lf_cons (lf_callP (lf_cons (lf_var (i := 6)) lf_nil)) (lf_cons (lf_var (i := 5)) lf_nil)))))
    (lf_ret lf_bl)
    lf_next)
  (lf_seq (lf_set (i := 7) (lf_callV (lf_cons (lf_var (i := 1)) lf_nil)))
  (lf_seq (lf_join (lf_if (lf_tTest (lf_op lo_eq (lf_var (i := 2)) lf_int))
    (lf_set (i := 7) (lf_sl ls_T (lf_var (i := 7)) lf_noPart (lf_part (lf_pick (fun _ _ _ _ z => z) (lf_cons (lf_var (i := 1)) (lf_cons lf_int lf_nil))))))
    lf_next))
  (lf_seq (lf_set (i := 8) (lf_make (lf_cons (lf_var (i := 7)) lf_nil)))
  (lf_seq (lf_set (i := 5) (lf_m1 lm_join lf_str (lf_callP (lf_cons (lf_var (i := 7)) lf_nil))))
  (lf_seq (lf_if (lf_tNot (lf_tB (lf_callP (lf_cons (lf_callP (lf_cons (lf_var (i := 8)) lf_nil)) (lf_cons (lf_var (i := 5)) lf_nil)))))
    (lf_ret lf_bl)
    lf_next)
  (lf_seq (lf_set (i := 6) (lf_callP (lf_cons (lf_var (i := 5)) lf_nil)))
  (lf_seq (lf_if (lf_tOr (lf_tNot (lf_tB (lf_cb (cl_isi T.OC) (lf_cons (lf_var (i := 6)) (lf_cons lf_glob lf_nil))))) (lf_tOr (lf_tNot (lf_tTest (lf_op lo_eqI (lf_var (i := 6)) (lf_var (i := 8))))) (lf_tNot (lf_tB (lf_callP (lf_cons (lf_fld T.C_Web T.N_rows (lf_var (i := 6))) (lf_cons (lf_var (i := 7)) lf_nil)))))))
    (lf_ret lf_bl)
    lf_next)
  (lf_if (lf_tNot (lf_tB (lf_callP (lf_cons (lf_callP (lf_cons (lf_var (i := 6)) lf_nil)) (lf_cons (lf_var (i := 5)) lf_nil)))))
    (lf_ret lf_bl)
    lf_next)))))))))))))))))
  (lf_ret lf_bl)), fun b g => ?_⟩
  refine ⟨by decide, by decide, ?_⟩
  refine ⟨fun i e => ∃ x2 x3 x4 x5 x6 x7 x8, e = [none, some (.s (.glob b)), x2, x3, x4, x5, x6, x7, x8], ⟨_, _, _, _, _, _, _, rfl⟩, ?_, ?_⟩
  · rintro i d e hd ⟨x2, x3, x4, x5, x6, x7, x8, rfl⟩
    have hin := (List.getElem?_eq_some_iff.mp hd).1
    rw [rng_len] at hin
    rw [rng_at2 hin, Int.zero_add] at hd
    cases hd
    refine ⟨rfl, rfl, ⟨b, g, [], rfl, rfl⟩, b, rfl, fun B gB => ⟨rfl, ?_⟩⟩
    have hsh := book_sh gB
    have hcnt := book_cnt gB
    refine ⟨rfl, B, rfl, gB, rfl, rfl, rfl, B, rfl, gB, ?_⟩
    refine ob_mk (strs_map (bookL B)) ⟨join_fit (b := 210) (by decide) (by decide +kernel) (by omega) (fun x hx => (book_ln gB x hx).1), rfl, ?_⟩
    refine ⟨rfl, B, rfl, gB, rfl, .str (Txt.join nl1 (bookL B)), rfl, hsh, .F rfl ?_⟩
    refine ⟨rfl, B, rfl, gB, rfl, rfl, .inl rfl, .F rfl ⟨⟨rfl, rfl⟩, ⟨B, rfl, rfl⟩, .F rfl ⟨⟨rfl, rfl⟩, ⟨B, rfl, rfl⟩, .F rfl ?_⟩⟩⟩
    refine ⟨rfl, rfl, rfl, rfl, le_line (by show 4 ≤ 100000; decide), rfl, dpartsB B, rfl, okS_parts gB, .F rfl ?_⟩
    refine ⟨rfl, B, rfl, gB, rfl, .str (Txt.join nl1 (bookL B)), rfl, hsh, .F rfl ?_⟩
    refine ⟨rfl, ⟨b, g, [], rfl, rfl⟩, b, rfl, fun R gR hR1 hR2 => ⟨rfl, ?_⟩⟩
    refine ⟨fun e => ∃ R : List Row, Good R ∧ R.length ≤ 200 ∧ e = [none, some (.s (.glob b)), some (.s (dn i)), some (.s (dpartsB B)), some (.s (dbook a.c_Book B)), some (.s (.str (Txt.join nl1 (bookL B)))), some (.s (dbook a.c_Book B)), some (.s (drows R)), x8], ⟨⟨rfl, rfl⟩, ⟨rfl, rfl⟩, ?_⟩, ?_⟩
    · show IfB (deq (.int (i : Int)) (.int 0)) _ _
      rw [deq_ints]
      by_cases h0 : i = 0
      · rw [decide_eq_true (by omega)]
        refine .T rfl ⟨⟨g, rfl⟩, by decide, by decide, fun r0 hr0 => ⟨rfl, R.take r0, good_take gR r0, by rw [List.length_take]; omega, ?_⟩⟩
        show [_, _, _, _, _, _, _, some (Cell.s (.tup (cutD (R.map drow) none (some ((r0 : Nat) : Int))))), _] = _
        rw [cut_any, ← List.map_take]
        rfl
      · rw [decide_eq_false (by omega)]
        exact .F rfl ⟨R, gR, hR2, rfl⟩
    clear hR1 hR2 gR R
    rintro e ⟨R, gR, hR, rfl⟩
    have ok := rows_ok gR hR
    refine ⟨rfl, R, rfl, gR, hR, rfl, rfl, rfl, R, rfl, gR, hR, ?_⟩
    refine ob_mk (strs_map (R.map webL)) ⟨join_fit (b := 30) (by decide) (by decide +kernel) (by rw [List.length_map]; omega) (fun x hx => ?_), rfl, ?_⟩
    · obtain ⟨r, hr, rfl⟩ := List.mem_map.mp hx
      exact (ok r hr).len
    have hws := webT_sh ok
    refine ⟨rfl, R, rfl, gR, hR, rfl, .str (webT R), rfl, hws, .F rfl ?_⟩
    refine ⟨rfl, R, rfl, gR, hR, rfl, rfl, .inr rfl, .F rfl ⟨⟨rfl, rfl⟩, ⟨R, rfl, rfl⟩, .F rfl ?_⟩⟩
    refine ⟨rfl, rfl, drows R, rfl, okS_rows hR ok, .F rfl ?_⟩
    exact ⟨rfl, R, rfl, gR, hR, rfl, .str (webT R), rfl, hws, .F rfl ⟨_, _, _, _, _, _, _, rfl⟩⟩
  · rintro e ⟨x2, x3, x4, x5, x6, x7, x8, rfl⟩
    exact rfl
end
end Lk
namespace Lk
open PySem L2
abbrev spLaw (K : PySem.W.Frag) : Sp := Dl.spLaw K
theorem kit_self {K : PySem.W.Frag} {C : Addr} : PySem.W.kitOne K (.ref C) (.ref C) = some true := by
  unfold PySem.W.kitOne
  rw [if_pos (by simp)]
theorem all_mk {l : PySem.W.OpenLaw} {w : World} {K : PySem.W.Frag} {h : Heap} {mg : Str → Option Value} {fa : Addr} {f_is_integer f_is_between f_is_tuple_of f_Book_init f_Book_eq f_check_frame f_check_rules f_check_moves f_is_rule f_is_move f_is_price f_Web_init f_Web_eq f_is_value f_book_text f_web_text f_line_of f_read_book f_book_parts f_first_move f_rule f_move f_read_web f_numbers_behind f_numbers_of f_is_number f_law_bag f_law_pick f_law_price f_law_arities f_law_rules f_law_moves f_law_book f_law_same f_law_great_book f_law_free_values f_law_book_lines f_law_web_lines f_law_sound_book f_law : Addr} {c_Book c_Web : Addr} (X : K.In h) (G : h.Ns mainGlobals mg) (hfa : mg "law" = some (.ref fa))
    (a_Book : PySem.W.nsIn K mainGlobals "Book" = some (some (.ref c_Book)))
    (a_Web : PySem.W.nsIn K mainGlobals "Web" = some (some (.ref c_Web)))
    {od_is_integer an_is_integer : Option Addr} {sl_is_integer : Array (Option Value)} {oc_is_integer kV_is_integer dc_is_integer pm_is_integer cd_is_integer ct_is_integer : Value}
    (a_is_integer : PySem.W.nsIn K mainGlobals "is_integer" = some (some (.ref f_is_integer)))
    (l_is_integer : K.lookup f_is_integer = some ⟨oc_is_integer, od_is_integer, .func (PySem.W.fnOf "is_integer" "is_integer" (defArgs s_is_integer) (defBody s_is_integer) (defScope s_is_integer) .none kV_is_integer dc_is_integer pm_is_integer an_is_integer cd_is_integer ct_is_integer), sl_is_integer⟩) (c_is_integer : PySem.W.codeIn K cd_is_integer "is_integer" = true) (k_is_integer : PySem.W.keepIn K (.ref f_is_integer) = true)
    {od_is_between an_is_between : Option Addr} {sl_is_between : Array (Option Value)} {oc_is_between kV_is_between dc_is_between pm_is_between cd_is_between ct_is_between : Value}
    (a_is_between : PySem.W.nsIn K mainGlobals "is_between" = some (some (.ref f_is_between)))
    (l_is_between : K.lookup f_is_between = some ⟨oc_is_between, od_is_between, .func (PySem.W.fnOf "is_between" "is_between" (defArgs s_is_between) (defBody s_is_between) (defScope s_is_between) .none kV_is_between dc_is_between pm_is_between an_is_between cd_is_between ct_is_between), sl_is_between⟩) (c_is_between : PySem.W.codeIn K cd_is_between "is_between" = true) (k_is_between : PySem.W.keepIn K (.ref f_is_between) = true)
    {od_is_tuple_of an_is_tuple_of : Option Addr} {sl_is_tuple_of : Array (Option Value)} {oc_is_tuple_of kV_is_tuple_of dc_is_tuple_of pm_is_tuple_of cd_is_tuple_of ct_is_tuple_of : Value}
    (a_is_tuple_of : PySem.W.nsIn K mainGlobals "is_tuple_of" = some (some (.ref f_is_tuple_of)))
    (l_is_tuple_of : K.lookup f_is_tuple_of = some ⟨oc_is_tuple_of, od_is_tuple_of, .func (PySem.W.fnOf "is_tuple_of" "is_tuple_of" (defArgs s_is_tuple_of) (defBody s_is_tuple_of) (defScope s_is_tuple_of) .none kV_is_tuple_of dc_is_tuple_of pm_is_tuple_of an_is_tuple_of cd_is_tuple_of ct_is_tuple_of), sl_is_tuple_of⟩) (c_is_tuple_of : PySem.W.codeIn K cd_is_tuple_of "is_tuple_of" = true) (k_is_tuple_of : PySem.W.keepIn K (.ref f_is_tuple_of) = true)
    {od_Book_init an_Book_init : Option Addr} {sl_Book_init : Array (Option Value)} {oc_Book_init kV_Book_init dc_Book_init pm_Book_init cd_Book_init ct_Book_init : Value}
    (a_Book_init : PySem.W.findIn K (.ref c_Book) "__init__" = some (some (.ref f_Book_init)))
    (l_Book_init : K.lookup f_Book_init = some ⟨oc_Book_init, od_Book_init, .func (PySem.W.fnOf "__init__" "Book.__init__" (defArgs s_Book_init) (defBody s_Book_init) (defScope s_Book_init) .none kV_Book_init dc_Book_init pm_Book_init an_Book_init cd_Book_init ct_Book_init), sl_Book_init⟩) (c_Book_init : PySem.W.codeIn K cd_Book_init "Book.__init__" = true) (k_Book_init : PySem.W.keepIn K (.ref f_Book_init) = true)
    {od_Book_eq an_Book_eq : Option Addr} {sl_Book_eq : Array (Option Value)} {oc_Book_eq kV_Book_eq dc_Book_eq pm_Book_eq cd_Book_eq ct_Book_eq : Value}
    (a_Book_eq : PySem.W.findIn K (.ref c_Book) "__eq__" = some (some (.ref f_Book_eq)))
    (l_Book_eq : K.lookup f_Book_eq = some ⟨oc_Book_eq, od_Book_eq, .func (PySem.W.fnOf "__eq__" "Book.__eq__" (defArgs s_Book_eq) (defBody s_Book_eq) (defScope s_Book_eq) .none kV_Book_eq dc_Book_eq pm_Book_eq an_Book_eq cd_Book_eq ct_Book_eq), sl_Book_eq⟩) (c_Book_eq : PySem.W.codeIn K cd_Book_eq "Book.__eq__" = true) (k_Book_eq : PySem.W.keepIn K (.ref f_Book_eq) = true)
    {od_check_frame an_check_frame : Option Addr} {sl_check_frame : Array (Option Value)} {oc_check_frame kV_check_frame dc_check_frame pm_check_frame cd_check_frame ct_check_frame : Value}
    (a_check_frame : PySem.W.nsIn K mainGlobals "_check_frame" = some (some (.ref f_check_frame)))
    (l_check_frame : K.lookup f_check_frame = some ⟨oc_check_frame, od_check_frame, .func (PySem.W.fnOf "_check_frame" "_check_frame" (defArgs s_check_frame) (defBody s_check_frame) (defScope s_check_frame) .none kV_check_frame dc_check_frame pm_check_frame an_check_frame cd_check_frame ct_check_frame), sl_check_frame⟩) (c_check_frame : PySem.W.codeIn K cd_check_frame "_check_frame" = true) (k_check_frame : PySem.W.keepIn K (.ref f_check_frame) = true)
    {od_check_rules an_check_rules : Option Addr} {sl_check_rules : Array (Option Value)} {oc_check_rules kV_check_rules dc_check_rules pm_check_rules cd_check_rules ct_check_rules : Value}
    (a_check_rules : PySem.W.nsIn K mainGlobals "_check_rules" = some (some (.ref f_check_rules)))
    (l_check_rules : K.lookup f_check_rules = some ⟨oc_check_rules, od_check_rules, .func (PySem.W.fnOf "_check_rules" "_check_rules" (defArgs s_check_rules) (defBody s_check_rules) (defScope s_check_rules) .none kV_check_rules dc_check_rules pm_check_rules an_check_rules cd_check_rules ct_check_rules), sl_check_rules⟩) (c_check_rules : PySem.W.codeIn K cd_check_rules "_check_rules" = true) (k_check_rules : PySem.W.keepIn K (.ref f_check_rules) = true)
    {od_check_moves an_check_moves : Option Addr} {sl_check_moves : Array (Option Value)} {oc_check_moves kV_check_moves dc_check_moves pm_check_moves cd_check_moves ct_check_moves : Value}
    (a_check_moves : PySem.W.nsIn K mainGlobals "_check_moves" = some (some (.ref f_check_moves)))
    (l_check_moves : K.lookup f_check_moves = some ⟨oc_check_moves, od_check_moves, .func (PySem.W.fnOf "_check_moves" "_check_moves" (defArgs s_check_moves) (defBody s_check_moves) (defScope s_check_moves) .none kV_check_moves dc_check_moves pm_check_moves an_check_moves cd_check_moves ct_check_moves), sl_check_moves⟩) (c_check_moves : PySem.W.codeIn K cd_check_moves "_check_moves" = true) (k_check_moves : PySem.W.keepIn K (.ref f_check_moves) = true)
    {od_is_rule an_is_rule : Option Addr} {sl_is_rule : Array (Option Value)} {oc_is_rule kV_is_rule dc_is_rule pm_is_rule cd_is_rule ct_is_rule : Value}
    (a_is_rule : PySem.W.nsIn K mainGlobals "_is_rule" = some (some (.ref f_is_rule)))
    (l_is_rule : K.lookup f_is_rule = some ⟨oc_is_rule, od_is_rule, .func (PySem.W.fnOf "_is_rule" "_is_rule" (defArgs s_is_rule) (defBody s_is_rule) (defScope s_is_rule) .none kV_is_rule dc_is_rule pm_is_rule an_is_rule cd_is_rule ct_is_rule), sl_is_rule⟩) (c_is_rule : PySem.W.codeIn K cd_is_rule "_is_rule" = true) (k_is_rule : PySem.W.keepIn K (.ref f_is_rule) = true)
    {od_is_move an_is_move : Option Addr} {sl_is_move : Array (Option Value)} {oc_is_move kV_is_move dc_is_move pm_is_move cd_is_move ct_is_move : Value}
    (a_is_move : PySem.W.nsIn K mainGlobals "_is_move" = some (some (.ref f_is_move)))
    (l_is_move : K.lookup f_is_move = some ⟨oc_is_move, od_is_move, .func (PySem.W.fnOf "_is_move" "_is_move" (defArgs s_is_move) (defBody s_is_move) (defScope s_is_move) .none kV_is_move dc_is_move pm_is_move an_is_move cd_is_move ct_is_move), sl_is_move⟩) (c_is_move : PySem.W.codeIn K cd_is_move "_is_move" = true) (k_is_move : PySem.W.keepIn K (.ref f_is_move) = true)
    {od_is_price an_is_price : Option Addr} {sl_is_price : Array (Option Value)} {oc_is_price kV_is_price dc_is_price pm_is_price cd_is_price ct_is_price : Value}
    (a_is_price : PySem.W.nsIn K mainGlobals "is_price" = some (some (.ref f_is_price)))
    (l_is_price : K.lookup f_is_price = some ⟨oc_is_price, od_is_price, .func (PySem.W.fnOf "is_price" "is_price" (defArgs s_is_price) (defBody s_is_price) (defScope s_is_price) .none kV_is_price dc_is_price pm_is_price an_is_price cd_is_price ct_is_price), sl_is_price⟩) (c_is_price : PySem.W.codeIn K cd_is_price "is_price" = true) (k_is_price : PySem.W.keepIn K (.ref f_is_price) = true)
    {od_Web_init an_Web_init : Option Addr} {sl_Web_init : Array (Option Value)} {oc_Web_init kV_Web_init dc_Web_init pm_Web_init cd_Web_init ct_Web_init : Value}
    (a_Web_init : PySem.W.findIn K (.ref c_Web) "__init__" = some (some (.ref f_Web_init)))
    (l_Web_init : K.lookup f_Web_init = some ⟨oc_Web_init, od_Web_init, .func (PySem.W.fnOf "__init__" "Web.__init__" (defArgs s_Web_init) (defBody s_Web_init) (defScope s_Web_init) .none kV_Web_init dc_Web_init pm_Web_init an_Web_init cd_Web_init ct_Web_init), sl_Web_init⟩) (c_Web_init : PySem.W.codeIn K cd_Web_init "Web.__init__" = true) (k_Web_init : PySem.W.keepIn K (.ref f_Web_init) = true)
    {od_Web_eq an_Web_eq : Option Addr} {sl_Web_eq : Array (Option Value)} {oc_Web_eq kV_Web_eq dc_Web_eq pm_Web_eq cd_Web_eq ct_Web_eq : Value}
    (a_Web_eq : PySem.W.findIn K (.ref c_Web) "__eq__" = some (some (.ref f_Web_eq)))
    (l_Web_eq : K.lookup f_Web_eq = some ⟨oc_Web_eq, od_Web_eq, .func (PySem.W.fnOf "__eq__" "Web.__eq__" (defArgs s_Web_eq) (defBody s_Web_eq) (defScope s_Web_eq) .none kV_Web_eq dc_Web_eq pm_Web_eq an_Web_eq cd_Web_eq ct_Web_eq), sl_Web_eq⟩) (c_Web_eq : PySem.W.codeIn K cd_Web_eq "Web.__eq__" = true) (k_Web_eq : PySem.W.keepIn K (.ref f_Web_eq) = true)
    {od_is_value an_is_value : Option Addr} {sl_is_value : Array (Option Value)} {oc_is_value kV_is_value dc_is_value pm_is_value cd_is_value ct_is_value : Value}
    (a_is_value : PySem.W.nsIn K mainGlobals "_is_value" = some (some (.ref f_is_value)))
    (l_is_value : K.lookup f_is_value = some ⟨oc_is_value, od_is_value, .func (PySem.W.fnOf "_is_value" "_is_value" (defArgs s_is_value) (defBody s_is_value) (defScope s_is_value) .none kV_is_value dc_is_value pm_is_value an_is_value cd_is_value ct_is_value), sl_is_value⟩) (c_is_value : PySem.W.codeIn K cd_is_value "_is_value" = true) (k_is_value : PySem.W.keepIn K (.ref f_is_value) = true)
    {od_book_text an_book_text : Option Addr} {sl_book_text : Array (Option Value)} {oc_book_text kV_book_text dc_book_text pm_book_text cd_book_text ct_book_text : Value}
    (a_book_text : PySem.W.nsIn K mainGlobals "book_text" = some (some (.ref f_book_text)))
    (l_book_text : K.lookup f_book_text = some ⟨oc_book_text, od_book_text, .func (PySem.W.fnOf "book_text" "book_text" (defArgs s_book_text) (defBody s_book_text) (defScope s_book_text) .none kV_book_text dc_book_text pm_book_text an_book_text cd_book_text ct_book_text), sl_book_text⟩) (c_book_text : PySem.W.codeIn K cd_book_text "book_text" = true) (k_book_text : PySem.W.keepIn K (.ref f_book_text) = true)
    {od_web_text an_web_text : Option Addr} {sl_web_text : Array (Option Value)} {oc_web_text kV_web_text dc_web_text pm_web_text cd_web_text ct_web_text : Value}
    (a_web_text : PySem.W.nsIn K mainGlobals "web_text" = some (some (.ref f_web_text)))
    (l_web_text : K.lookup f_web_text = some ⟨oc_web_text, od_web_text, .func (PySem.W.fnOf "web_text" "web_text" (defArgs s_web_text) (defBody s_web_text) (defScope s_web_text) .none kV_web_text dc_web_text pm_web_text an_web_text cd_web_text ct_web_text), sl_web_text⟩) (c_web_text : PySem.W.codeIn K cd_web_text "web_text" = true) (k_web_text : PySem.W.keepIn K (.ref f_web_text) = true)
    {od_line_of an_line_of : Option Addr} {sl_line_of : Array (Option Value)} {oc_line_of kV_line_of dc_line_of pm_line_of cd_line_of ct_line_of : Value}
    (a_line_of : PySem.W.nsIn K mainGlobals "line_of" = some (some (.ref f_line_of)))
    (l_line_of : K.lookup f_line_of = some ⟨oc_line_of, od_line_of, .func (PySem.W.fnOf "line_of" "line_of" (defArgs s_line_of) (defBody s_line_of) (defScope s_line_of) .none kV_line_of dc_line_of pm_line_of an_line_of cd_line_of ct_line_of), sl_line_of⟩) (c_line_of : PySem.W.codeIn K cd_line_of "line_of" = true) (k_line_of : PySem.W.keepIn K (.ref f_line_of) = true)
    {od_read_book an_read_book : Option Addr} {sl_read_book : Array (Option Value)} {oc_read_book kV_read_book dc_read_book pm_read_book cd_read_book ct_read_book : Value}
    (a_read_book : PySem.W.nsIn K mainGlobals "read_book" = some (some (.ref f_read_book)))
    (l_read_book : K.lookup f_read_book = some ⟨oc_read_book, od_read_book, .func (PySem.W.fnOf "read_book" "read_book" (defArgs s_read_book) (defBody s_read_book) (defScope s_read_book) .none kV_read_book dc_read_book pm_read_book an_read_book cd_read_book ct_read_book), sl_read_book⟩) (c_read_book : PySem.W.codeIn K cd_read_book "read_book" = true) (k_read_book : PySem.W.keepIn K (.ref f_read_book) = true)
    {od_book_parts an_book_parts : Option Addr} {sl_book_parts : Array (Option Value)} {oc_book_parts kV_book_parts dc_book_parts pm_book_parts cd_book_parts ct_book_parts : Value}
    (a_book_parts : PySem.W.nsIn K mainGlobals "book_parts" = some (some (.ref f_book_parts)))
    (l_book_parts : K.lookup f_book_parts = some ⟨oc_book_parts, od_book_parts, .func (PySem.W.fnOf "book_parts" "book_parts" (defArgs s_book_parts) (defBody s_book_parts) (defScope s_book_parts) .none kV_book_parts dc_book_parts pm_book_parts an_book_parts cd_book_parts ct_book_parts), sl_book_parts⟩) (c_book_parts : PySem.W.codeIn K cd_book_parts "book_parts" = true) (k_book_parts : PySem.W.keepIn K (.ref f_book_parts) = true)
    {od_first_move an_first_move : Option Addr} {sl_first_move : Array (Option Value)} {oc_first_move kV_first_move dc_first_move pm_first_move cd_first_move ct_first_move : Value}
    (a_first_move : PySem.W.nsIn K mainGlobals "_first_move" = some (some (.ref f_first_move)))
    (l_first_move : K.lookup f_first_move = some ⟨oc_first_move, od_first_move, .func (PySem.W.fnOf "_first_move" "_first_move" (defArgs s_first_move) (defBody s_first_move) (defScope s_first_move) .none kV_first_move dc_first_move pm_first_move an_first_move cd_first_move ct_first_move), sl_first_move⟩) (c_first_move : PySem.W.codeIn K cd_first_move "_first_move" = true) (k_first_move : PySem.W.keepIn K (.ref f_first_move) = true)
    {od_rule an_rule : Option Addr} {sl_rule : Array (Option Value)} {oc_rule kV_rule dc_rule pm_rule cd_rule ct_rule : Value}
    (a_rule : PySem.W.nsIn K mainGlobals "_rule" = some (some (.ref f_rule)))
    (l_rule : K.lookup f_rule = some ⟨oc_rule, od_rule, .func (PySem.W.fnOf "_rule" "_rule" (defArgs s_rule) (defBody s_rule) (defScope s_rule) .none kV_rule dc_rule pm_rule an_rule cd_rule ct_rule), sl_rule⟩) (c_rule : PySem.W.codeIn K cd_rule "_rule" = true) (k_rule : PySem.W.keepIn K (.ref f_rule) = true)
    {od_move an_move : Option Addr} {sl_move : Array (Option Value)} {oc_move kV_move dc_move pm_move cd_move ct_move : Value}
    (a_move : PySem.W.nsIn K mainGlobals "_move" = some (some (.ref f_move)))
    (l_move : K.lookup f_move = some ⟨oc_move, od_move, .func (PySem.W.fnOf "_move" "_move" (defArgs s_move) (defBody s_move) (defScope s_move) .none kV_move dc_move pm_move an_move cd_move ct_move), sl_move⟩) (c_move : PySem.W.codeIn K cd_move "_move" = true) (k_move : PySem.W.keepIn K (.ref f_move) = true)
    {od_read_web an_read_web : Option Addr} {sl_read_web : Array (Option Value)} {oc_read_web kV_read_web dc_read_web pm_read_web cd_read_web ct_read_web : Value}
    (a_read_web : PySem.W.nsIn K mainGlobals "read_web" = some (some (.ref f_read_web)))
    (l_read_web : K.lookup f_read_web = some ⟨oc_read_web, od_read_web, .func (PySem.W.fnOf "read_web" "read_web" (defArgs s_read_web) (defBody s_read_web) (defScope s_read_web) .none kV_read_web dc_read_web pm_read_web an_read_web cd_read_web ct_read_web), sl_read_web⟩) (c_read_web : PySem.W.codeIn K cd_read_web "read_web" = true) (k_read_web : PySem.W.keepIn K (.ref f_read_web) = true)
    {od_numbers_behind an_numbers_behind : Option Addr} {sl_numbers_behind : Array (Option Value)} {oc_numbers_behind kV_numbers_behind dc_numbers_behind pm_numbers_behind cd_numbers_behind ct_numbers_behind : Value}
    (a_numbers_behind : PySem.W.nsIn K mainGlobals "numbers_behind" = some (some (.ref f_numbers_behind)))
    (l_numbers_behind : K.lookup f_numbers_behind = some ⟨oc_numbers_behind, od_numbers_behind, .func (PySem.W.fnOf "numbers_behind" "numbers_behind" (defArgs s_numbers_behind) (defBody s_numbers_behind) (defScope s_numbers_behind) .none kV_numbers_behind dc_numbers_behind pm_numbers_behind an_numbers_behind cd_numbers_behind ct_numbers_behind), sl_numbers_behind⟩) (c_numbers_behind : PySem.W.codeIn K cd_numbers_behind "numbers_behind" = true) (k_numbers_behind : PySem.W.keepIn K (.ref f_numbers_behind) = true)
    {od_numbers_of an_numbers_of : Option Addr} {sl_numbers_of : Array (Option Value)} {oc_numbers_of kV_numbers_of dc_numbers_of pm_numbers_of cd_numbers_of ct_numbers_of : Value}
    (a_numbers_of : PySem.W.nsIn K mainGlobals "numbers_of" = some (some (.ref f_numbers_of)))
    (l_numbers_of : K.lookup f_numbers_of = some ⟨oc_numbers_of, od_numbers_of, .func (PySem.W.fnOf "numbers_of" "numbers_of" (defArgs s_numbers_of) (defBody s_numbers_of) (defScope s_numbers_of) .none kV_numbers_of dc_numbers_of pm_numbers_of an_numbers_of cd_numbers_of ct_numbers_of), sl_numbers_of⟩) (c_numbers_of : PySem.W.codeIn K cd_numbers_of "numbers_of" = true) (k_numbers_of : PySem.W.keepIn K (.ref f_numbers_of) = true)
    {od_is_number an_is_number : Option Addr} {sl_is_number : Array (Option Value)} {oc_is_number kV_is_number dc_is_number pm_is_number cd_is_number ct_is_number : Value}
    (a_is_number : PySem.W.nsIn K mainGlobals "_is_number" = some (some (.ref f_is_number)))
    (l_is_number : K.lookup f_is_number = some ⟨oc_is_number, od_is_number, .func (PySem.W.fnOf "_is_number" "_is_number" (defArgs s_is_number) (defBody s_is_number) (defScope s_is_number) .none kV_is_number dc_is_number pm_is_number an_is_number cd_is_number ct_is_number), sl_is_number⟩) (c_is_number : PySem.W.codeIn K cd_is_number "_is_number" = true) (k_is_number : PySem.W.keepIn K (.ref f_is_number) = true)
    {od_law_bag an_law_bag : Option Addr} {sl_law_bag : Array (Option Value)} {oc_law_bag kV_law_bag dc_law_bag pm_law_bag cd_law_bag ct_law_bag : Value}
    (a_law_bag : PySem.W.nsIn K mainGlobals "_law_bag" = some (some (.ref f_law_bag)))
    (l_law_bag : K.lookup f_law_bag = some ⟨oc_law_bag, od_law_bag, .func (PySem.W.fnOf "_law_bag" "_law_bag" (defArgs s_law_bag) (defBody s_law_bag) (defScope s_law_bag) .none kV_law_bag dc_law_bag pm_law_bag an_law_bag cd_law_bag ct_law_bag), sl_law_bag⟩) (c_law_bag : PySem.W.codeIn K cd_law_bag "_law_bag" = true) (k_law_bag : PySem.W.keepIn K (.ref f_law_bag) = true)
    {od_law_pick an_law_pick : Option Addr} {sl_law_pick : Array (Option Value)} {oc_law_pick kV_law_pick dc_law_pick pm_law_pick cd_law_pick ct_law_pick : Value}
    (a_law_pick : PySem.W.nsIn K mainGlobals "_law_pick" = some (some (.ref f_law_pick)))
    (l_law_pick : K.lookup f_law_pick = some ⟨oc_law_pick, od_law_pick, .func (PySem.W.fnOf "_law_pick" "_law_pick" (defArgs s_law_pick) (defBody s_law_pick) (defScope s_law_pick) .none kV_law_pick dc_law_pick pm_law_pick an_law_pick cd_law_pick ct_law_pick), sl_law_pick⟩) (c_law_pick : PySem.W.codeIn K cd_law_pick "_law_pick" = true) (k_law_pick : PySem.W.keepIn K (.ref f_law_pick) = true)
    {od_law_price an_law_price : Option Addr} {sl_law_price : Array (Option Value)} {oc_law_price kV_law_price dc_law_price pm_law_price cd_law_price ct_law_price : Value}
    (a_law_price : PySem.W.nsIn K mainGlobals "_law_price" = some (some (.ref f_law_price)))
    (l_law_price : K.lookup f_law_price = some ⟨oc_law_price, od_law_price, .func (PySem.W.fnOf "_law_price" "_law_price" (defArgs s_law_price) (defBody s_law_price) (defScope s_law_price) .none kV_law_price dc_law_price pm_law_price an_law_price cd_law_price ct_law_price), sl_law_price⟩) (c_law_price : PySem.W.codeIn K cd_law_price "_law_price" = true) (k_law_price : PySem.W.keepIn K (.ref f_law_price) = true)
    {od_law_arities an_law_arities : Option Addr} {sl_law_arities : Array (Option Value)} {oc_law_arities kV_law_arities dc_law_arities pm_law_arities cd_law_arities ct_law_arities : Value}
    (a_law_arities : PySem.W.nsIn K mainGlobals "_law_arities" = some (some (.ref f_law_arities)))
    (l_law_arities : K.lookup f_law_arities = some ⟨oc_law_arities, od_law_arities, .func (PySem.W.fnOf "_law_arities" "_law_arities" (defArgs s_law_arities) (defBody s_law_arities) (defScope s_law_arities) .none kV_law_arities dc_law_arities pm_law_arities an_law_arities cd_law_arities ct_law_arities), sl_law_arities⟩) (c_law_arities : PySem.W.codeIn K cd_law_arities "_law_arities" = true) (k_law_arities : PySem.W.keepIn K (.ref f_law_arities) = true)
    {od_law_rules an_law_rules : Option Addr} {sl_law_rules : Array (Option Value)} {oc_law_rules kV_law_rules dc_law_rules pm_law_rules cd_law_rules ct_law_rules : Value}
    (a_law_rules : PySem.W.nsIn K mainGlobals "_law_rules" = some (some (.ref f_law_rules)))
    (l_law_rules : K.lookup f_law_rules = some ⟨oc_law_rules, od_law_rules, .func (PySem.W.fnOf "_law_rules" "_law_rules" (defArgs s_law_rules) (defBody s_law_rules) (defScope s_law_rules) .none kV_law_rules dc_law_rules pm_law_rules an_law_rules cd_law_rules ct_law_rules), sl_law_rules⟩) (c_law_rules : PySem.W.codeIn K cd_law_rules "_law_rules" = true) (k_law_rules : PySem.W.keepIn K (.ref f_law_rules) = true)
    {od_law_moves an_law_moves : Option Addr} {sl_law_moves : Array (Option Value)} {oc_law_moves kV_law_moves dc_law_moves pm_law_moves cd_law_moves ct_law_moves : Value}
    (a_law_moves : PySem.W.nsIn K mainGlobals "_law_moves" = some (some (.ref f_law_moves)))
    (l_law_moves : K.lookup f_law_moves = some ⟨oc_law_moves, od_law_moves, .func (PySem.W.fnOf "_law_moves" "_law_moves" (defArgs s_law_moves) (defBody s_law_moves) (defScope s_law_moves) .none kV_law_moves dc_law_moves pm_law_moves an_law_moves cd_law_moves ct_law_moves), sl_law_moves⟩) (c_law_moves : PySem.W.codeIn K cd_law_moves "_law_moves" = true) (k_law_moves : PySem.W.keepIn K (.ref f_law_moves) = true)
    {od_law_book an_law_book : Option Addr} {sl_law_book : Array (Option Value)} {oc_law_book kV_law_book dc_law_book pm_law_book cd_law_book ct_law_book : Value}
    (a_law_book : PySem.W.nsIn K mainGlobals "_law_book" = some (some (.ref f_law_book)))
    (l_law_book : K.lookup f_law_book = some ⟨oc_law_book, od_law_book, .func (PySem.W.fnOf "_law_book" "_law_book" (defArgs s_law_book) (defBody s_law_book) (defScope s_law_book) .none kV_law_book dc_law_book pm_law_book an_law_book cd_law_book ct_law_book), sl_law_book⟩) (c_law_book : PySem.W.codeIn K cd_law_book "_law_book" = true) (k_law_book : PySem.W.keepIn K (.ref f_law_book) = true)
    {od_law_same an_law_same : Option Addr} {sl_law_same : Array (Option Value)} {oc_law_same kV_law_same dc_law_same pm_law_same cd_law_same ct_law_same : Value}
    (a_law_same : PySem.W.nsIn K mainGlobals "_law_same" = some (some (.ref f_law_same)))
    (l_law_same : K.lookup f_law_same = some ⟨oc_law_same, od_law_same, .func (PySem.W.fnOf "_law_same" "_law_same" (defArgs s_law_same) (defBody s_law_same) (defScope s_law_same) .none kV_law_same dc_law_same pm_law_same an_law_same cd_law_same ct_law_same), sl_law_same⟩) (c_law_same : PySem.W.codeIn K cd_law_same "_law_same" = true) (k_law_same : PySem.W.keepIn K (.ref f_law_same) = true)
    {od_law_great_book an_law_great_book : Option Addr} {sl_law_great_book : Array (Option Value)} {oc_law_great_book kV_law_great_book dc_law_great_book pm_law_great_book cd_law_great_book ct_law_great_book : Value}
    (a_law_great_book : PySem.W.nsIn K mainGlobals "_law_great_book" = some (some (.ref f_law_great_book)))
    (l_law_great_book : K.lookup f_law_great_book = some ⟨oc_law_great_book, od_law_great_book, .func (PySem.W.fnOf "_law_great_book" "_law_great_book" (defArgs s_law_great_book) (defBody s_law_great_book) (defScope s_law_great_book) .none kV_law_great_book dc_law_great_book pm_law_great_book an_law_great_book cd_law_great_book ct_law_great_book), sl_law_great_book⟩) (c_law_great_book : PySem.W.codeIn K cd_law_great_book "_law_great_book" = true) (k_law_great_book : PySem.W.keepIn K (.ref f_law_great_book) = true)
    {od_law_free_values an_law_free_values : Option Addr} {sl_law_free_values : Array (Option Value)} {oc_law_free_values kV_law_free_values dc_law_free_values pm_law_free_values cd_law_free_values ct_law_free_values : Value}
    (a_law_free_values : PySem.W.nsIn K mainGlobals "_law_free_values" = some (some (.ref f_law_free_values)))
    (l_law_free_values : K.lookup f_law_free_values = some ⟨oc_law_free_values, od_law_free_values, .func (PySem.W.fnOf "_law_free_values" "_law_free_values" (defArgs s_law_free_values) (defBody s_law_free_values) (defScope s_law_free_values) .none kV_law_free_values dc_law_free_values pm_law_free_values an_law_free_values cd_law_free_values ct_law_free_values), sl_law_free_values⟩) (c_law_free_values : PySem.W.codeIn K cd_law_free_values "_law_free_values" = true) (k_law_free_values : PySem.W.keepIn K (.ref f_law_free_values) = true)
    {od_law_book_lines an_law_book_lines : Option Addr} {sl_law_book_lines : Array (Option Value)} {oc_law_book_lines kV_law_book_lines dc_law_book_lines pm_law_book_lines cd_law_book_lines ct_law_book_lines : Value}
    (a_law_book_lines : PySem.W.nsIn K mainGlobals "_law_book_lines" = some (some (.ref f_law_book_lines)))
    (l_law_book_lines : K.lookup f_law_book_lines = some ⟨oc_law_book_lines, od_law_book_lines, .func (PySem.W.fnOf "_law_book_lines" "_law_book_lines" (defArgs s_law_book_lines) (defBody s_law_book_lines) (defScope s_law_book_lines) .none kV_law_book_lines dc_law_book_lines pm_law_book_lines an_law_book_lines cd_law_book_lines ct_law_book_lines), sl_law_book_lines⟩) (c_law_book_lines : PySem.W.codeIn K cd_law_book_lines "_law_book_lines" = true) (k_law_book_lines : PySem.W.keepIn K (.ref f_law_book_lines) = true)
    {od_law_web_lines an_law_web_lines : Option Addr} {sl_law_web_lines : Array (Option Value)} {oc_law_web_lines kV_law_web_lines dc_law_web_lines pm_law_web_lines cd_law_web_lines ct_law_web_lines : Value}
    (a_law_web_lines : PySem.W.nsIn K mainGlobals "_law_web_lines" = some (some (.ref f_law_web_lines)))
    (l_law_web_lines : K.lookup f_law_web_lines = some ⟨oc_law_web_lines, od_law_web_lines, .func (PySem.W.fnOf "_law_web_lines" "_law_web_lines" (defArgs s_law_web_lines) (defBody s_law_web_lines) (defScope s_law_web_lines) .none kV_law_web_lines dc_law_web_lines pm_law_web_lines an_law_web_lines cd_law_web_lines ct_law_web_lines), sl_law_web_lines⟩) (c_law_web_lines : PySem.W.codeIn K cd_law_web_lines "_law_web_lines" = true) (k_law_web_lines : PySem.W.keepIn K (.ref f_law_web_lines) = true)
    {od_law_sound_book an_law_sound_book : Option Addr} {sl_law_sound_book : Array (Option Value)} {oc_law_sound_book kV_law_sound_book dc_law_sound_book pm_law_sound_book cd_law_sound_book ct_law_sound_book : Value}
    (a_law_sound_book : PySem.W.nsIn K mainGlobals "_law_sound_book" = some (some (.ref f_law_sound_book)))
    (l_law_sound_book : K.lookup f_law_sound_book = some ⟨oc_law_sound_book, od_law_sound_book, .func (PySem.W.fnOf "_law_sound_book" "_law_sound_book" (defArgs s_law_sound_book) (defBody s_law_sound_book) (defScope s_law_sound_book) .none kV_law_sound_book dc_law_sound_book pm_law_sound_book an_law_sound_book cd_law_sound_book ct_law_sound_book), sl_law_sound_book⟩) (c_law_sound_book : PySem.W.codeIn K cd_law_sound_book "_law_sound_book" = true) (k_law_sound_book : PySem.W.keepIn K (.ref f_law_sound_book) = true)
    {od_law an_law : Option Addr} {sl_law : Array (Option Value)} {oc_law kV_law dc_law pm_law cd_law ct_law : Value}
    (a_law : PySem.W.nsIn K mainGlobals "law" = some (some (.ref f_law)))
    (l_law : K.lookup f_law = some ⟨oc_law, od_law, .func (PySem.W.fnOf "law" "law" (defArgs s_law) (defBody s_law) (defScope s_law) .none kV_law dc_law pm_law an_law cd_law ct_law), sl_law⟩) (c_law : PySem.W.codeIn K cd_law "law" = true) (k_law : PySem.W.keepIn K (.ref f_law) = true)
    (z_abs : PySem.W.nsIn K mainGlobals "abs" = some none)
    (z_all : PySem.W.nsIn K mainGlobals "all" = some none)
    (z_bool : PySem.W.nsIn K mainGlobals "bool" = some none)
    (z_enumerate : PySem.W.nsIn K mainGlobals "enumerate" = some none)
    (z_int : PySem.W.nsIn K mainGlobals "int" = some none)
    (z_isinstance : PySem.W.nsIn K mainGlobals "isinstance" = some none)
    (z_len : PySem.W.nsIn K mainGlobals "len" = some none)
    (z_list : PySem.W.nsIn K mainGlobals "list" = some none)
    (z_max : PySem.W.nsIn K mainGlobals "max" = some none)
    (z_range : PySem.W.nsIn K mainGlobals "range" = some none)
    (z_str : PySem.W.nsIn K mainGlobals "str" = some none)
    (z_sum : PySem.W.nsIn K mainGlobals "sum" = some none)
    (z_tuple : PySem.W.nsIn K mainGlobals "tuple" = some none)
    (hn_cls : PySem.W.specialIn K (.builtin "object.__class__") "__get__" = some (some (.builtin "getset_descriptor.__get__")))
    (ht_cls : PySem.W.takesIn K (.builtin "object.__class__") = some true)
    (pg_Book : PySem.W.plainGet K c_Book Str.empty = true)
    (hd_Book : PySem.W.hasDictIn K c_Book = true)
    (po_Book : PySem.W.plainOver K c_Book = true)
    (sa_Book : PySem.W.findIn K (.ref c_Book) "__setattr__" = some (some (.builtin "object.__setattr__")))
    (mk_Book : PySem.W.makesIn K c_Book = true)
    (fi_Book_init : PySem.W.isFn K (.ref f_Book_init) = true)
    (kc_Book : PySem.W.keepIn K (.ref c_Book) = true)
    (ha_Book : PySem.W.findIn K (.ref c_Book) "__class__" = some (some (.builtin "object.__class__")))
    (hm_Book : PySem.W.mroIn K c_Book (.type "object") = some true)
    (nr_arities : PySem.W.findIn K (.ref c_Book) "arities" = some none)
    (nr_kinds : PySem.W.findIn K (.ref c_Book) "kinds" = some none)
    (nr_rules : PySem.W.findIn K (.ref c_Book) "rules" = some none)
    (nr_moves : PySem.W.findIn K (.ref c_Book) "moves" = some none)
    (pg_Web : PySem.W.plainGet K c_Web Str.empty = true)
    (hd_Web : PySem.W.hasDictIn K c_Web = true)
    (po_Web : PySem.W.plainOver K c_Web = true)
    (sa_Web : PySem.W.findIn K (.ref c_Web) "__setattr__" = some (some (.builtin "object.__setattr__")))
    (mk_Web : PySem.W.makesIn K c_Web = true)
    (fi_Web_init : PySem.W.isFn K (.ref f_Web_init) = true)
    (kc_Web : PySem.W.keepIn K (.ref c_Web) = true)
    (ha_Web : PySem.W.findIn K (.ref c_Web) "__class__" = some (some (.builtin "object.__class__")))
    (hm_Web : PySem.W.mroIn K c_Web (.type "object") = some true)
    (nr_rows : PySem.W.findIn K (.ref c_Web) "rows" = some none)
    (fi_Book_eq : PySem.W.isFn K (.ref f_Book_eq) = true)
    (fi_Web_eq : PySem.W.isFn K (.ref f_Web_eq) = true)
    : ∃ fd : FuncData, (∀ (s : Shared) (v : Value), BindsTo s fd ⟨[v], []⟩ [("_law_script", v)]) ∧ ∀ base : Heap, K.In base → base.Ns mainGlobals mg → FnOk l.prog w K mg base CX0 16 fa fd ["_law_script"] (spLaw K) := by
  have e := hfa.symm.trans (PySem.W.mg_of X G a_law)
  cases e
  have F_is_integer := fun_mk (st := s_is_integer) l_is_integer c_is_integer k_is_integer
  have F_is_between := fun_mk (st := s_is_between) l_is_between c_is_between k_is_between
  have F_is_tuple_of := fun_mk (st := s_is_tuple_of) l_is_tuple_of c_is_tuple_of k_is_tuple_of
  have F_Book_init := fun_mk (st := s_Book_init) l_Book_init c_Book_init k_Book_init
  have F_Book_eq := fun_mk (st := s_Book_eq) l_Book_eq c_Book_eq k_Book_eq
  have F_check_frame := fun_mk (st := s_check_frame) l_check_frame c_check_frame k_check_frame
  have F_check_rules := fun_mk (st := s_check_rules) l_check_rules c_check_rules k_check_rules
  have F_check_moves := fun_mk (st := s_check_moves) l_check_moves c_check_moves k_check_moves
  have F_is_rule := fun_mk (st := s_is_rule) l_is_rule c_is_rule k_is_rule
  have F_is_move := fun_mk (st := s_is_move) l_is_move c_is_move k_is_move
  have F_is_price := fun_mk (st := s_is_price) l_is_price c_is_price k_is_price
  have F_Web_init := fun_mk (st := s_Web_init) l_Web_init c_Web_init k_Web_init
  have F_Web_eq := fun_mk (st := s_Web_eq) l_Web_eq c_Web_eq k_Web_eq
  have F_is_value := fun_mk (st := s_is_value) l_is_value c_is_value k_is_value
  have F_book_text := fun_mk (st := s_book_text) l_book_text c_book_text k_book_text
  have F_web_text := fun_mk (st := s_web_text) l_web_text c_web_text k_web_text
  have F_line_of := fun_mk (st := s_line_of) l_line_of c_line_of k_line_of
  have F_read_book := fun_mk (st := s_read_book) l_read_book c_read_book k_read_book
  have F_book_parts := fun_mk (st := s_book_parts) l_book_parts c_book_parts k_book_parts
  have F_first_move := fun_mk (st := s_first_move) l_first_move c_first_move k_first_move
  have F_rule := fun_mk (st := s_rule) l_rule c_rule k_rule
  have F_move := fun_mk (st := s_move) l_move c_move k_move
  have F_read_web := fun_mk (st := s_read_web) l_read_web c_read_web k_read_web
  have F_numbers_behind := fun_mk (st := s_numbers_behind) l_numbers_behind c_numbers_behind k_numbers_behind
  have F_numbers_of := fun_mk (st := s_numbers_of) l_numbers_of c_numbers_of k_numbers_of
  have F_is_number := fun_mk (st := s_is_number) l_is_number c_is_number k_is_number
  have F_law_bag := fun_mk (st := s_law_bag) l_law_bag c_law_bag k_law_bag
  have F_law_pick := fun_mk (st := s_law_pick) l_law_pick c_law_pick k_law_pick
  have F_law_price := fun_mk (st := s_law_price) l_law_price c_law_price k_law_price
  have F_law_arities := fun_mk (st := s_law_arities) l_law_arities c_law_arities k_law_arities
  have F_law_rules := fun_mk (st := s_law_rules) l_law_rules c_law_rules k_law_rules
  have F_law_moves := fun_mk (st := s_law_moves) l_law_moves c_law_moves k_law_moves
  have F_law_book := fun_mk (st := s_law_book) l_law_book c_law_book k_law_book
  have F_law_same := fun_mk (st := s_law_same) l_law_same c_law_same k_law_same
  have F_law_great_book := fun_mk (st := s_law_great_book) l_law_great_book c_law_great_book k_law_great_book
  have F_law_free_values := fun_mk (st := s_law_free_values) l_law_free_values c_law_free_values k_law_free_values
  have F_law_book_lines := fun_mk (st := s_law_book_lines) l_law_book_lines c_law_book_lines k_law_book_lines
  have F_law_web_lines := fun_mk (st := s_law_web_lines) l_law_web_lines c_law_web_lines k_law_web_lines
  have F_law_sound_book := fun_mk (st := s_law_sound_book) l_law_sound_book c_law_sound_book k_law_sound_book
  have F_law := fun_mk (st := s_law) l_law c_law k_law
  let A : Adr := {
    f_is_integer := f_is_integer, d_is_integer := (PySem.W.fnOf "is_integer" "is_integer" (defArgs s_is_integer) (defBody s_is_integer) (defScope s_is_integer) .none kV_is_integer dc_is_integer pm_is_integer an_is_integer cd_is_integer ct_is_integer),
    f_is_between := f_is_between, d_is_between := (PySem.W.fnOf "is_between" "is_between" (defArgs s_is_between) (defBody s_is_between) (defScope s_is_between) .none kV_is_between dc_is_between pm_is_between an_is_between cd_is_between ct_is_between),
    f_is_tuple_of := f_is_tuple_of, d_is_tuple_of := (PySem.W.fnOf "is_tuple_of" "is_tuple_of" (defArgs s_is_tuple_of) (defBody s_is_tuple_of) (defScope s_is_tuple_of) .none kV_is_tuple_of dc_is_tuple_of pm_is_tuple_of an_is_tuple_of cd_is_tuple_of ct_is_tuple_of),
    f_Book_init := f_Book_init, d_Book_init := (PySem.W.fnOf "__init__" "Book.__init__" (defArgs s_Book_init) (defBody s_Book_init) (defScope s_Book_init) .none kV_Book_init dc_Book_init pm_Book_init an_Book_init cd_Book_init ct_Book_init),
    f_Book_eq := f_Book_eq, d_Book_eq := (PySem.W.fnOf "__eq__" "Book.__eq__" (defArgs s_Book_eq) (defBody s_Book_eq) (defScope s_Book_eq) .none kV_Book_eq dc_Book_eq pm_Book_eq an_Book_eq cd_Book_eq ct_Book_eq),
    f_check_frame := f_check_frame, d_check_frame := (PySem.W.fnOf "_check_frame" "_check_frame" (defArgs s_check_frame) (defBody s_check_frame) (defScope s_check_frame) .none kV_check_frame dc_check_frame pm_check_frame an_check_frame cd_check_frame ct_check_frame),
    f_check_rules := f_check_rules, d_check_rules := (PySem.W.fnOf "_check_rules" "_check_rules" (defArgs s_check_rules) (defBody s_check_rules) (defScope s_check_rules) .none kV_check_rules dc_check_rules pm_check_rules an_check_rules cd_check_rules ct_check_rules),
    f_check_moves := f_check_moves, d_check_moves := (PySem.W.fnOf "_check_moves" "_check_moves" (defArgs s_check_moves) (defBody s_check_moves) (defScope s_check_moves) .none kV_check_moves dc_check_moves pm_check_moves an_check_moves cd_check_moves ct_check_moves),
    f_is_rule := f_is_rule, d_is_rule := (PySem.W.fnOf "_is_rule" "_is_rule" (defArgs s_is_rule) (defBody s_is_rule) (defScope s_is_rule) .none kV_is_rule dc_is_rule pm_is_rule an_is_rule cd_is_rule ct_is_rule),
    f_is_move := f_is_move, d_is_move := (PySem.W.fnOf "_is_move" "_is_move" (defArgs s_is_move) (defBody s_is_move) (defScope s_is_move) .none kV_is_move dc_is_move pm_is_move an_is_move cd_is_move ct_is_move),
    f_is_price := f_is_price, d_is_price := (PySem.W.fnOf "is_price" "is_price" (defArgs s_is_price) (defBody s_is_price) (defScope s_is_price) .none kV_is_price dc_is_price pm_is_price an_is_price cd_is_price ct_is_price),
    f_Web_init := f_Web_init, d_Web_init := (PySem.W.fnOf "__init__" "Web.__init__" (defArgs s_Web_init) (defBody s_Web_init) (defScope s_Web_init) .none kV_Web_init dc_Web_init pm_Web_init an_Web_init cd_Web_init ct_Web_init),
    f_Web_eq := f_Web_eq, d_Web_eq := (PySem.W.fnOf "__eq__" "Web.__eq__" (defArgs s_Web_eq) (defBody s_Web_eq) (defScope s_Web_eq) .none kV_Web_eq dc_Web_eq pm_Web_eq an_Web_eq cd_Web_eq ct_Web_eq),
    f_is_value := f_is_value, d_is_value := (PySem.W.fnOf "_is_value" "_is_value" (defArgs s_is_value) (defBody s_is_value) (defScope s_is_value) .none kV_is_value dc_is_value pm_is_value an_is_value cd_is_value ct_is_value),
    f_book_text := f_book_text, d_book_text := (PySem.W.fnOf "book_text" "book_text" (defArgs s_book_text) (defBody s_book_text) (defScope s_book_text) .none kV_book_text dc_book_text pm_book_text an_book_text cd_book_text ct_book_text),
    f_web_text := f_web_text, d_web_text := (PySem.W.fnOf "web_text" "web_text" (defArgs s_web_text) (defBody s_web_text) (defScope s_web_text) .none kV_web_text dc_web_text pm_web_text an_web_text cd_web_text ct_web_text),
    f_line_of := f_line_of, d_line_of := (PySem.W.fnOf "line_of" "line_of" (defArgs s_line_of) (defBody s_line_of) (defScope s_line_of) .none kV_line_of dc_line_of pm_line_of an_line_of cd_line_of ct_line_of),
    f_read_book := f_read_book, d_read_book := (PySem.W.fnOf "read_book" "read_book" (defArgs s_read_book) (defBody s_read_book) (defScope s_read_book) .none kV_read_book dc_read_book pm_read_book an_read_book cd_read_book ct_read_book),
    f_book_parts := f_book_parts, d_book_parts := (PySem.W.fnOf "book_parts" "book_parts" (defArgs s_book_parts) (defBody s_book_parts) (defScope s_book_parts) .none kV_book_parts dc_book_parts pm_book_parts an_book_parts cd_book_parts ct_book_parts),
    f_first_move := f_first_move, d_first_move := (PySem.W.fnOf "_first_move" "_first_move" (defArgs s_first_move) (defBody s_first_move) (defScope s_first_move) .none kV_first_move dc_first_move pm_first_move an_first_move cd_first_move ct_first_move),
    f_rule := f_rule, d_rule := (PySem.W.fnOf "_rule" "_rule" (defArgs s_rule) (defBody s_rule) (defScope s_rule) .none kV_rule dc_rule pm_rule an_rule cd_rule ct_rule),
    f_move := f_move, d_move := (PySem.W.fnOf "_move" "_move" (defArgs s_move) (defBody s_move) (defScope s_move) .none kV_move dc_move pm_move an_move cd_move ct_move),
    f_read_web := f_read_web, d_read_web := (PySem.W.fnOf "read_web" "read_web" (defArgs s_read_web) (defBody s_read_web) (defScope s_read_web) .none kV_read_web dc_read_web pm_read_web an_read_web cd_read_web ct_read_web),
    f_numbers_behind := f_numbers_behind, d_numbers_behind := (PySem.W.fnOf "numbers_behind" "numbers_behind" (defArgs s_numbers_behind) (defBody s_numbers_behind) (defScope s_numbers_behind) .none kV_numbers_behind dc_numbers_behind pm_numbers_behind an_numbers_behind cd_numbers_behind ct_numbers_behind),
    f_numbers_of := f_numbers_of, d_numbers_of := (PySem.W.fnOf "numbers_of" "numbers_of" (defArgs s_numbers_of) (defBody s_numbers_of) (defScope s_numbers_of) .none kV_numbers_of dc_numbers_of pm_numbers_of an_numbers_of cd_numbers_of ct_numbers_of),
    f_is_number := f_is_number, d_is_number := (PySem.W.fnOf "_is_number" "_is_number" (defArgs s_is_number) (defBody s_is_number) (defScope s_is_number) .none kV_is_number dc_is_number pm_is_number an_is_number cd_is_number ct_is_number),
    f_law_bag := f_law_bag, d_law_bag := (PySem.W.fnOf "_law_bag" "_law_bag" (defArgs s_law_bag) (defBody s_law_bag) (defScope s_law_bag) .none kV_law_bag dc_law_bag pm_law_bag an_law_bag cd_law_bag ct_law_bag),
    f_law_pick := f_law_pick, d_law_pick := (PySem.W.fnOf "_law_pick" "_law_pick" (defArgs s_law_pick) (defBody s_law_pick) (defScope s_law_pick) .none kV_law_pick dc_law_pick pm_law_pick an_law_pick cd_law_pick ct_law_pick),
    f_law_price := f_law_price, d_law_price := (PySem.W.fnOf "_law_price" "_law_price" (defArgs s_law_price) (defBody s_law_price) (defScope s_law_price) .none kV_law_price dc_law_price pm_law_price an_law_price cd_law_price ct_law_price),
    f_law_arities := f_law_arities, d_law_arities := (PySem.W.fnOf "_law_arities" "_law_arities" (defArgs s_law_arities) (defBody s_law_arities) (defScope s_law_arities) .none kV_law_arities dc_law_arities pm_law_arities an_law_arities cd_law_arities ct_law_arities),
    f_law_rules := f_law_rules, d_law_rules := (PySem.W.fnOf "_law_rules" "_law_rules" (defArgs s_law_rules) (defBody s_law_rules) (defScope s_law_rules) .none kV_law_rules dc_law_rules pm_law_rules an_law_rules cd_law_rules ct_law_rules),
    f_law_moves := f_law_moves, d_law_moves := (PySem.W.fnOf "_law_moves" "_law_moves" (defArgs s_law_moves) (defBody s_law_moves) (defScope s_law_moves) .none kV_law_moves dc_law_moves pm_law_moves an_law_moves cd_law_moves ct_law_moves),
    f_law_book := f_law_book, d_law_book := (PySem.W.fnOf "_law_book" "_law_book" (defArgs s_law_book) (defBody s_law_book) (defScope s_law_book) .none kV_law_book dc_law_book pm_law_book an_law_book cd_law_book ct_law_book),
    f_law_same := f_law_same, d_law_same := (PySem.W.fnOf "_law_same" "_law_same" (defArgs s_law_same) (defBody s_law_same) (defScope s_law_same) .none kV_law_same dc_law_same pm_law_same an_law_same cd_law_same ct_law_same),
    f_law_great_book := f_law_great_book, d_law_great_book := (PySem.W.fnOf "_law_great_book" "_law_great_book" (defArgs s_law_great_book) (defBody s_law_great_book) (defScope s_law_great_book) .none kV_law_great_book dc_law_great_book pm_law_great_book an_law_great_book cd_law_great_book ct_law_great_book),
    f_law_free_values := f_law_free_values, d_law_free_values := (PySem.W.fnOf "_law_free_values" "_law_free_values" (defArgs s_law_free_values) (defBody s_law_free_values) (defScope s_law_free_values) .none kV_law_free_values dc_law_free_values pm_law_free_values an_law_free_values cd_law_free_values ct_law_free_values),
    f_law_book_lines := f_law_book_lines, d_law_book_lines := (PySem.W.fnOf "_law_book_lines" "_law_book_lines" (defArgs s_law_book_lines) (defBody s_law_book_lines) (defScope s_law_book_lines) .none kV_law_book_lines dc_law_book_lines pm_law_book_lines an_law_book_lines cd_law_book_lines ct_law_book_lines),
    f_law_web_lines := f_law_web_lines, d_law_web_lines := (PySem.W.fnOf "_law_web_lines" "_law_web_lines" (defArgs s_law_web_lines) (defBody s_law_web_lines) (defScope s_law_web_lines) .none kV_law_web_lines dc_law_web_lines pm_law_web_lines an_law_web_lines cd_law_web_lines ct_law_web_lines),
    f_law_sound_book := f_law_sound_book, d_law_sound_book := (PySem.W.fnOf "_law_sound_book" "_law_sound_book" (defArgs s_law_sound_book) (defBody s_law_sound_book) (defScope s_law_sound_book) .none kV_law_sound_book dc_law_sound_book pm_law_sound_book an_law_sound_book cd_law_sound_book ct_law_sound_book),
    f_law := fa, d_law := (PySem.W.fnOf "law" "law" (defArgs s_law) (defBody s_law) (defScope s_law) .none kV_law dc_law pm_law an_law cd_law ct_law),
    c_Book := c_Book,
    c_Web := c_Web }
  have T : Txt K mg A w := {
    F_is_integer := F_is_integer, b_is_integer := F_is_integer.binds (ps := ["thing"]) (fun _ _ _ _ _ _ us hl => match us, hl with | [_], _ => rfl), k_is_integer := k_is_integer,
    g_is_integer := PySem.W.mg_of X G a_is_integer,
    F_is_between := F_is_between, b_is_between := F_is_between.binds (ps := ["low", "high", "thing"]) (fun _ _ _ _ _ _ us hl => match us, hl with | [_, _, _], _ => rfl), k_is_between := k_is_between,
    g_is_between := PySem.W.mg_of X G a_is_between,
    F_is_tuple_of := F_is_tuple_of, b_is_tuple_of := F_is_tuple_of.binds (ps := ["low", "high", "thing"]) (fun _ _ _ _ _ _ us hl => match us, hl with | [_, _, _], _ => rfl), k_is_tuple_of := k_is_tuple_of,
    g_is_tuple_of := PySem.W.mg_of X G a_is_tuple_of,
    F_Book_init := F_Book_init, b_Book_init := F_Book_init.binds (ps := ["self", "arities", "kinds", "rules", "moves"]) (fun _ _ _ _ _ _ us hl => match us, hl with | [_, _, _, _, _], _ => rfl), k_Book_init := k_Book_init,
    F_Book_eq := F_Book_eq, b_Book_eq := F_Book_eq.binds (ps := ["self", "other"]) (fun _ _ _ _ _ _ us hl => match us, hl with | [_, _], _ => rfl), k_Book_eq := k_Book_eq,
    F_check_frame := F_check_frame, b_check_frame := F_check_frame.binds (ps := ["arities", "kinds", "rules", "moves"]) (fun _ _ _ _ _ _ us hl => match us, hl with | [_, _, _, _], _ => rfl), k_check_frame := k_check_frame,
    g_check_frame := PySem.W.mg_of X G a_check_frame,
    F_check_rules := F_check_rules, b_check_rules := F_check_rules.binds (ps := ["arities", "kinds", "rules"]) (fun _ _ _ _ _ _ us hl => match us, hl with | [_, _, _], _ => rfl), k_check_rules := k_check_rules,
    g_check_rules := PySem.W.mg_of X G a_check_rules,
    F_check_moves := F_check_moves, b_check_moves := F_check_moves.binds (ps := ["kinds", "moves"]) (fun _ _ _ _ _ _ us hl => match us, hl with | [_, _], _ => rfl), k_check_moves := k_check_moves,
    g_check_moves := PySem.W.mg_of X G a_check_moves,
    F_is_rule := F_is_rule, b_is_rule := F_is_rule.binds (ps := ["arities", "kinds", "thing"]) (fun _ _ _ _ _ _ us hl => match us, hl with | [_, _, _], _ => rfl), k_is_rule := k_is_rule,
    g_is_rule := PySem.W.mg_of X G a_is_rule,
    F_is_move := F_is_move, b_is_move := F_is_move.binds (ps := ["kinds", "thing"]) (fun _ _ _ _ _ _ us hl => match us, hl with | [_, _], _ => rfl), k_is_move := k_is_move,
    g_is_move := PySem.W.mg_of X G a_is_move,
    F_is_price := F_is_price, b_is_price := F_is_price.binds (ps := ["thing"]) (fun _ _ _ _ _ _ us hl => match us, hl with | [_], _ => rfl), k_is_price := k_is_price,
    g_is_price := PySem.W.mg_of X G a_is_price,
    F_Web_init := F_Web_init, b_Web_init := F_Web_init.binds (ps := ["self", "values"]) (fun _ _ _ _ _ _ us hl => match us, hl with | [_, _], _ => rfl), k_Web_init := k_Web_init,
    F_Web_eq := F_Web_eq, b_Web_eq := F_Web_eq.binds (ps := ["self", "other"]) (fun _ _ _ _ _ _ us hl => match us, hl with | [_, _], _ => rfl), k_Web_eq := k_Web_eq,
    F_is_value := F_is_value, b_is_value := F_is_value.binds (ps := ["index", "thing"]) (fun _ _ _ _ _ _ us hl => match us, hl with | [_, _], _ => rfl), k_is_value := k_is_value,
    g_is_value := PySem.W.mg_of X G a_is_value,
    F_book_text := F_book_text, b_book_text := F_book_text.binds (ps := ["book"]) (fun _ _ _ _ _ _ us hl => match us, hl with | [_], _ => rfl), k_book_text := k_book_text,
    g_book_text := PySem.W.mg_of X G a_book_text,
    F_web_text := F_web_text, b_web_text := F_web_text.binds (ps := ["web"]) (fun _ _ _ _ _ _ us hl => match us, hl with | [_], _ => rfl), k_web_text := k_web_text,
    g_web_text := PySem.W.mg_of X G a_web_text,
    F_line_of := F_line_of, b_line_of := F_line_of.binds (ps := ["words"]) (fun _ _ _ _ _ _ us hl => match us, hl with | [_], _ => rfl), k_line_of := k_line_of,
    g_line_of := PySem.W.mg_of X G a_line_of,
    F_read_book := F_read_book, b_read_book := F_read_book.binds (ps := ["text"]) (fun _ _ _ _ _ _ us hl => match us, hl with | [_], _ => rfl), k_read_book := k_read_book,
    g_read_book := PySem.W.mg_of X G a_read_book,
    F_book_parts := F_book_parts, b_book_parts := F_book_parts.binds (ps := ["lines"]) (fun _ _ _ _ _ _ us hl => match us, hl with | [_], _ => rfl), k_book_parts := k_book_parts,
    g_book_parts := PySem.W.mg_of X G a_book_parts,
    F_first_move := F_first_move, b_first_move := F_first_move.binds (ps := ["lines"]) (fun _ _ _ _ _ _ us hl => match us, hl with | [_], _ => rfl), k_first_move := k_first_move,
    g_first_move := PySem.W.mg_of X G a_first_move,
    F_rule := F_rule, b_rule := F_rule.binds (ps := ["line", "number"]) (fun _ _ _ _ _ _ us hl => match us, hl with | [_, _], _ => rfl), k_rule := k_rule,
    g_rule := PySem.W.mg_of X G a_rule,
    F_move := F_move, b_move := F_move.binds (ps := ["line", "number"]) (fun _ _ _ _ _ _ us hl => match us, hl with | [_, _], _ => rfl), k_move := k_move,
    g_move := PySem.W.mg_of X G a_move,
    F_read_web := F_read_web, b_read_web := F_read_web.binds (ps := ["text"]) (fun _ _ _ _ _ _ us hl => match us, hl with | [_], _ => rfl), k_read_web := k_read_web,
    g_read_web := PySem.W.mg_of X G a_read_web,
    F_numbers_behind := F_numbers_behind, b_numbers_behind := F_numbers_behind.binds (ps := ["word", "line"]) (fun _ _ _ _ _ _ us hl => match us, hl with | [_, _], _ => rfl), k_numbers_behind := k_numbers_behind,
    g_numbers_behind := PySem.W.mg_of X G a_numbers_behind,
    F_numbers_of := F_numbers_of, b_numbers_of := F_numbers_of.binds (ps := ["words"]) (fun _ _ _ _ _ _ us hl => match us, hl with | [_], _ => rfl), k_numbers_of := k_numbers_of,
    g_numbers_of := PySem.W.mg_of X G a_numbers_of,
    F_is_number := F_is_number, b_is_number := F_is_number.binds (ps := ["word"]) (fun _ _ _ _ _ _ us hl => match us, hl with | [_], _ => rfl), k_is_number := k_is_number,
    g_is_number := PySem.W.mg_of X G a_is_number,
    F_law_bag := F_law_bag, b_law_bag := F_law_bag.binds (ps := ["_law_script"]) (fun _ _ _ _ _ _ us hl => match us, hl with | [_], _ => rfl), k_law_bag := k_law_bag,
    g_law_bag := PySem.W.mg_of X G a_law_bag,
    F_law_pick := F_law_pick, b_law_pick := F_law_pick.binds (ps := ["_law_bag_here", "_law_many"]) (fun _ _ _ _ _ _ us hl => match us, hl with | [_, _], _ => rfl), k_law_pick := k_law_pick,
    g_law_pick := PySem.W.mg_of X G a_law_pick,
    F_law_price := F_law_price, b_law_price := F_law_price.binds (ps := ["_law_bag_here"]) (fun _ _ _ _ _ _ us hl => match us, hl with | [_], _ => rfl), k_law_price := k_law_price,
    g_law_price := PySem.W.mg_of X G a_law_price,
    F_law_arities := F_law_arities, b_law_arities := F_law_arities.binds (ps := ["_law_bag_here"]) (fun _ _ _ _ _ _ us hl => match us, hl with | [_], _ => rfl), k_law_arities := k_law_arities,
    g_law_arities := PySem.W.mg_of X G a_law_arities,
    F_law_rules := F_law_rules, b_law_rules := F_law_rules.binds (ps := ["_law_bag_here", "_law_arities_here", "_law_kinds", "_law_wanted"]) (fun _ _ _ _ _ _ us hl => match us, hl with | [_, _, _, _], _ => rfl), k_law_rules := k_law_rules,
    g_law_rules := PySem.W.mg_of X G a_law_rules,
    F_law_moves := F_law_moves, b_law_moves := F_law_moves.binds (ps := ["_law_bag_here", "_law_kinds", "_law_wanted"]) (fun _ _ _ _ _ _ us hl => match us, hl with | [_, _, _], _ => rfl), k_law_moves := k_law_moves,
    g_law_moves := PySem.W.mg_of X G a_law_moves,
    F_law_book := F_law_book, b_law_book := F_law_book.binds (ps := ["_law_bag_here"]) (fun _ _ _ _ _ _ us hl => match us, hl with | [_], _ => rfl), k_law_book := k_law_book,
    g_law_book := PySem.W.mg_of X G a_law_book,
    F_law_same := F_law_same, b_law_same := F_law_same.binds (ps := ["_law_told", "_law_due"]) (fun _ _ _ _ _ _ us hl => match us, hl with | [_, _], _ => rfl), k_law_same := k_law_same,
    g_law_same := PySem.W.mg_of X G a_law_same,
    F_law_great_book := F_law_great_book, b_law_great_book := F_law_great_book.binds (ps := ["_law_bag_here"]) (fun _ _ _ _ _ _ us hl => match us, hl with | [_], _ => rfl), k_law_great_book := k_law_great_book,
    g_law_great_book := PySem.W.mg_of X G a_law_great_book,
    F_law_free_values := F_law_free_values, b_law_free_values := F_law_free_values.binds (ps := ["_law_bag_here"]) (fun _ _ _ _ _ _ us hl => match us, hl with | [_], _ => rfl), k_law_free_values := k_law_free_values,
    g_law_free_values := PySem.W.mg_of X G a_law_free_values,
    F_law_book_lines := F_law_book_lines, b_law_book_lines := F_law_book_lines.binds (ps := ["_law_parts"]) (fun _ _ _ _ _ _ us hl => match us, hl with | [_], _ => rfl), k_law_book_lines := k_law_book_lines,
    g_law_book_lines := PySem.W.mg_of X G a_law_book_lines,
    F_law_web_lines := F_law_web_lines, b_law_web_lines := F_law_web_lines.binds (ps := ["_law_values"]) (fun _ _ _ _ _ _ us hl => match us, hl with | [_], _ => rfl), k_law_web_lines := k_law_web_lines,
    g_law_web_lines := PySem.W.mg_of X G a_law_web_lines,
    F_law_sound_book := F_law_sound_book, b_law_sound_book := F_law_sound_book.binds (ps := ["_law_bag_here"]) (fun _ _ _ _ _ _ us hl => match us, hl with | [_], _ => rfl), k_law_sound_book := k_law_sound_book,
    g_law_sound_book := PySem.W.mg_of X G a_law_sound_book,
    F_law := F_law, b_law := F_law.binds (ps := ["_law_script"]) (fun _ _ _ _ _ _ us hl => match us, hl with | [_], _ => rfl), k_law := k_law,
    g_law := PySem.W.mg_of X G a_law,
    g_Book := PySem.W.mg_of X G a_Book,
    g_Web := PySem.W.mg_of X G a_Web,
    z_abs := PySem.W.mg_none_of X G z_abs,
    z_all := PySem.W.mg_none_of X G z_all,
    z_bool := PySem.W.mg_none_of X G z_bool,
    z_enumerate := PySem.W.mg_none_of X G z_enumerate,
    z_int := PySem.W.mg_none_of X G z_int,
    z_isinstance := PySem.W.mg_none_of X G z_isinstance,
    z_len := PySem.W.mg_none_of X G z_len,
    z_list := PySem.W.mg_none_of X G z_list,
    z_max := PySem.W.mg_none_of X G z_max,
    z_range := PySem.W.mg_none_of X G z_range,
    z_str := PySem.W.mg_none_of X G z_str,
    z_sum := PySem.W.mg_none_of X G z_sum,
    z_tuple := PySem.W.mg_none_of X G z_tuple,
    C_Book := ⟨pg_Book, hd_Book, po_Book, sa_Book⟩,
    M_Book := ⟨mk_Book, a_Book_init, fi_Book_init, kc_Book⟩,
    I_Book := ⟨⟨pg_Book, hd_Book, po_Book, sa_Book⟩, ha_Book, hn_cls, ht_cls, hm_Book, kit_self⟩,
    N_arities := nr_arities,
    N_kinds := nr_kinds,
    N_rules := nr_rules,
    N_moves := nr_moves,
    C_Web := ⟨pg_Web, hd_Web, po_Web, sa_Web⟩,
    M_Web := ⟨mk_Web, a_Web_init, fi_Web_init, kc_Web⟩,
    I_Web := ⟨⟨pg_Web, hd_Web, po_Web, sa_Web⟩, ha_Web, hn_cls, ht_cls, hm_Web, kit_self⟩,
    N_rows := nr_rows,
    e_Book := a_Book_eq,
    fe_Book := fi_Book_eq,
    e_Web := a_Web_eq,
    fe_Web := fi_Web_eq }
  exact ⟨A.d_law, fun s v => .of_eq rfl, fun base _ _ => ok_law (a := A) T⟩
theorem walk {l : PySem.W.OpenLaw} {q : Program} {loose : List Str} {XP : (Str → Option Value) → Heap → Prop} {YP : World → Heap → Prop} {d : DefRec} {K : Params → PySem.W.Frag} (hn : l.most = some 63) (hdf : d.params.defaults = [])
    (hY : ∀ (w : World) (h : Heap), YP w h → (K w.params).In h)
    (F : ∀ (w : World) (mg : Str → Option Value) (fa : Addr) (h : Heap), (K w.params).In h → h.Ns mainGlobals mg → mg d.name = some (.ref fa) →
      ∃ fd : FuncData, (∀ (s : Shared) (u : Value), BindsTo s fd ⟨[u], []⟩ [("_law_script", u)]) ∧ ∀ base : Heap, (K w.params).In base → base.Ns mainGlobals mg → FnOk l.prog w (K w.params) mg base CX0 16 fa fd ["_law_script"] (spLaw (K w.params))) :
    PySem.W.WalkO q loose XP YP l.row.toRowW d [] (fun f vs => PySem.call f vs) :=
  L2.walk_of (n := 63) (k := 16) (x := "_law_script") (CX := fun _ => CX0) (sp := fun w => spLaw (K w.params)) hn (by decide) hdf ⟨rfl, by decide, by decide⟩ hY F (fun _ _ a ns hl _ hS => ⟨a, ns, rfl, hS, hl, fun _ => rfl⟩) fun _ _ _ _ _ z => z
end Lk
open PySem PySem.W PyProof.Rows
set_option maxRecDepth 100000 in
set_option maxHeartbeats 0 in
theorem PySem.Challenge.cw_lookdown_k05_whole_texts_there_and_back_holds : PySem.Challenge.rw_lookdown_k05_whole_texts_there_and_back.Holds := by
  w_on; o_law; k_head; (case hw => w_witness2)
  k_fill
  refine Lk.walk (l := PySem.Challenge.rw_lookdown_k05_whole_texts_there_and_back) rfl rfl (fun w h Y => PySem.W.kIn_of Y) ?F
  case F =>
    intro w mg fa h KX G hmg
    refine' Lk.all_mk KX G hmg ?a_Book ?a_Web ?a_is_integer ?l_is_integer ?c_is_integer ?k_is_integer ?a_is_between ?l_is_between ?c_is_between ?k_is_between ?a_is_tuple_of ?l_is_tuple_of ?c_is_tuple_of ?k_is_tuple_of ?a_Book_init ?l_Book_init ?c_Book_init ?k_Book_init ?a_Book_eq ?l_Book_eq ?c_Book_eq ?k_Book_eq ?a_check_frame ?l_check_frame ?c_check_frame ?k_check_frame ?a_check_rules ?l_check_rules ?c_check_rules ?k_check_rules ?a_check_moves ?l_check_moves ?c_check_moves ?k_check_moves ?a_is_rule ?l_is_rule ?c_is_rule ?k_is_rule ?a_is_move ?l_is_move ?c_is_move ?k_is_move ?a_is_price ?l_is_price ?c_is_price ?k_is_price ?a_Web_init ?l_Web_init ?c_Web_init ?k_Web_init ?a_Web_eq ?l_Web_eq ?c_Web_eq ?k_Web_eq ?a_is_value ?l_is_value ?c_is_value ?k_is_value ?a_book_text ?l_book_text ?c_book_text ?k_book_text ?a_web_text ?l_web_text ?c_web_text ?k_web_text ?a_line_of ?l_line_of ?c_line_of ?k_line_of ?a_read_book ?l_read_book ?c_read_book ?k_read_book ?a_book_parts ?l_book_parts ?c_book_parts ?k_book_parts ?a_first_move ?l_first_move ?c_first_move ?k_first_move ?a_rule ?l_rule ?c_rule ?k_rule ?a_move ?l_move ?c_move ?k_move ?a_read_web ?l_read_web ?c_read_web ?k_read_web ?a_numbers_behind ?l_numbers_behind ?c_numbers_behind ?k_numbers_behind ?a_numbers_of ?l_numbers_of ?c_numbers_of ?k_numbers_of ?a_is_number ?l_is_number ?c_is_number ?k_is_number ?a_law_bag ?l_law_bag ?c_law_bag ?k_law_bag ?a_law_pick ?l_law_pick ?c_law_pick ?k_law_pick ?a_law_price ?l_law_price ?c_law_price ?k_law_price ?a_law_arities ?l_law_arities ?c_law_arities ?k_law_arities ?a_law_rules ?l_law_rules ?c_law_rules ?k_law_rules ?a_law_moves ?l_law_moves ?c_law_moves ?k_law_moves ?a_law_book ?l_law_book ?c_law_book ?k_law_book ?a_law_same ?l_law_same ?c_law_same ?k_law_same ?a_law_great_book ?l_law_great_book ?c_law_great_book ?k_law_great_book ?a_law_free_values ?l_law_free_values ?c_law_free_values ?k_law_free_values ?a_law_book_lines ?l_law_book_lines ?c_law_book_lines ?k_law_book_lines ?a_law_web_lines ?l_law_web_lines ?c_law_web_lines ?k_law_web_lines ?a_law_sound_book ?l_law_sound_book ?c_law_sound_book ?k_law_sound_book ?a_law ?l_law ?c_law ?k_law ?z_abs ?z_all ?z_bool ?z_enumerate ?z_int ?z_isinstance ?z_len ?z_list ?z_max ?z_range ?z_str ?z_sum ?z_tuple ?hn_cls ?ht_cls ?pg_Book ?hd_Book ?po_Book ?sa_Book ?mk_Book ?fi_Book_init ?kc_Book ?ha_Book ?hm_Book ?nr_arities ?nr_kinds ?nr_rules ?nr_moves ?pg_Web ?hd_Web ?po_Web ?sa_Web ?mk_Web ?fi_Web_init ?kc_Web ?ha_Web ?hm_Web ?nr_rows ?fi_Book_eq ?fi_Web_eq
    (case a_Book => k_is)
    (case a_Web => k_is)
    (case a_is_integer => k_is)
    (case l_is_integer => k_is)
    (case c_is_integer => k_is)
    (case k_is_integer => k_is)
    (case a_is_between => k_is)
    (case l_is_between => k_is)
    (case c_is_between => k_is)
    (case k_is_between => k_is)
    (case a_is_tuple_of => k_is)
    (case l_is_tuple_of => k_is)
    (case c_is_tuple_of => k_is)
    (case k_is_tuple_of => k_is)
    (case a_Book_init => k_is)
    (case l_Book_init => k_is)
    (case c_Book_init => k_is)
    (case k_Book_init => k_is)
    (case a_Book_eq => k_is)
    (case l_Book_eq => k_is)
    (case c_Book_eq => k_is)
    (case k_Book_eq => k_is)
    (case a_check_frame => k_is)
    (case l_check_frame => k_is)
    (case c_check_frame => k_is)
    (case k_check_frame => k_is)
    (case a_check_rules => k_is)
    (case l_check_rules => k_is)
    (case c_check_rules => k_is)
    (case k_check_rules => k_is)
    (case a_check_moves => k_is)
    (case l_check_moves => k_is)
    (case c_check_moves => k_is)
    (case k_check_moves => k_is)
    (case a_is_rule => k_is)
    (case l_is_rule => k_is)
    (case c_is_rule => k_is)
    (case k_is_rule => k_is)
    (case a_is_move => k_is)
    (case l_is_move => k_is)
    (case c_is_move => k_is)
    (case k_is_move => k_is)
    (case a_is_price => k_is)
    (case l_is_price => k_is)
    (case c_is_price => k_is)
    (case k_is_price => k_is)
    (case a_Web_init => k_is)
    (case l_Web_init => k_is)
    (case c_Web_init => k_is)
    (case k_Web_init => k_is)
    (case a_Web_eq => k_is)
    (case l_Web_eq => k_is)
    (case c_Web_eq => k_is)
    (case k_Web_eq => k_is)
    (case a_is_value => k_is)
    (case l_is_value => k_is)
    (case c_is_value => k_is)
    (case k_is_value => k_is)
    (case a_book_text => k_is)
    (case l_book_text => k_is)
    (case c_book_text => k_is)
    (case k_book_text => k_is)
    (case a_web_text => k_is)
    (case l_web_text => k_is)
    (case c_web_text => k_is)
    (case k_web_text => k_is)
    (case a_line_of => k_is)
    (case l_line_of => k_is)
    (case c_line_of => k_is)
    (case k_line_of => k_is)
    (case a_read_book => k_is)
    (case l_read_book => k_is)
    (case c_read_book => k_is)
    (case k_read_book => k_is)
    (case a_book_parts => k_is)
    (case l_book_parts => k_is)
    (case c_book_parts => k_is)
    (case k_book_parts => k_is)
    (case a_first_move => k_is)
    (case l_first_move => k_is)
    (case c_first_move => k_is)
    (case k_first_move => k_is)
    (case a_rule => k_is)
    (case l_rule => k_is)
    (case c_rule => k_is)
    (case k_rule => k_is)
    (case a_move => k_is)
    (case l_move => k_is)
    (case c_move => k_is)
    (case k_move => k_is)
    (case a_read_web => k_is)
    (case l_read_web => k_is)
    (case c_read_web => k_is)
    (case k_read_web => k_is)
    (case a_numbers_behind => k_is)
    (case l_numbers_behind => k_is)
    (case c_numbers_behind => k_is)
    (case k_numbers_behind => k_is)
    (case a_numbers_of => k_is)
    (case l_numbers_of => k_is)
    (case c_numbers_of => k_is)
    (case k_numbers_of => k_is)
    (case a_is_number => k_is)
    (case l_is_number => k_is)
    (case c_is_number => k_is)
    (case k_is_number => k_is)
    (case a_law_bag => k_is)
    (case l_law_bag => k_is)
    (case c_law_bag => k_is)
    (case k_law_bag => k_is)
    (case a_law_pick => k_is)
    (case l_law_pick => k_is)
    (case c_law_pick => k_is)
    (case k_law_pick => k_is)
    (case a_law_price => k_is)
    (case l_law_price => k_is)
    (case c_law_price => k_is)
    (case k_law_price => k_is)
    (case a_law_arities => k_is)
    (case l_law_arities => k_is)
    (case c_law_arities => k_is)
    (case k_law_arities => k_is)
    (case a_law_rules => k_is)
    (case l_law_rules => k_is)
    (case c_law_rules => k_is)
    (case k_law_rules => k_is)
    (case a_law_moves => k_is)
    (case l_law_moves => k_is)
    (case c_law_moves => k_is)
    (case k_law_moves => k_is)
    (case a_law_book => k_is)
    (case l_law_book => k_is)
    (case c_law_book => k_is)
    (case k_law_book => k_is)
    (case a_law_same => k_is)
    (case l_law_same => k_is)
    (case c_law_same => k_is)
    (case k_law_same => k_is)
    (case a_law_great_book => k_is)
    (case l_law_great_book => k_is)
    (case c_law_great_book => k_is)
    (case k_law_great_book => k_is)
    (case a_law_free_values => k_is)
    (case l_law_free_values => k_is)
    (case c_law_free_values => k_is)
    (case k_law_free_values => k_is)
    (case a_law_book_lines => k_is)
    (case l_law_book_lines => k_is)
    (case c_law_book_lines => k_is)
    (case k_law_book_lines => k_is)
    (case a_law_web_lines => k_is)
    (case l_law_web_lines => k_is)
    (case c_law_web_lines => k_is)
    (case k_law_web_lines => k_is)
    (case a_law_sound_book => k_is)
    (case l_law_sound_book => k_is)
    (case c_law_sound_book => k_is)
    (case k_law_sound_book => k_is)
    (case a_law => k_is)
    (case l_law => k_is)
    (case c_law => k_is)
    (case k_law => k_is)
    (case z_abs => k_is)
    (case z_all => k_is)
    (case z_bool => k_is)
    (case z_enumerate => k_is)
    (case z_int => k_is)
    (case z_isinstance => k_is)
    (case z_len => k_is)
    (case z_list => k_is)
    (case z_max => k_is)
    (case z_range => k_is)
    (case z_str => k_is)
    (case z_sum => k_is)
    (case z_tuple => k_is)
    (case hn_cls => k_is)
    (case ht_cls => k_is)
    (case pg_Book => k_is)
    (case hd_Book => k_is)
    (case po_Book => k_is)
    (case sa_Book => k_is)
    (case mk_Book => k_is)
    (case fi_Book_init => k_is)
    (case kc_Book => k_is)
    (case ha_Book => k_is)
    (case hm_Book => k_is)
    (case nr_arities => k_is)
    (case nr_kinds => k_is)
    (case nr_rules => k_is)
    (case nr_moves => k_is)
    (case pg_Web => k_is)
    (case hd_Web => k_is)
    (case po_Web => k_is)
    (case sa_Web => k_is)
    (case mk_Web => k_is)
    (case fi_Web_init => k_is)
    (case kc_Web => k_is)
    (case ha_Web => k_is)
    (case hm_Web => k_is)
    (case nr_rows => k_is)
    (case fi_Book_eq => k_is)
    (case fi_Web_eq => k_is)
