/-
  A real's text: with ~ made -, it is one that strconv.ParseFloat takes.
-/
import Derived.Test.YtcmhfeeocehlaaaGreatDoorPF23
import Derived.Test.YtcmhfeeocehlaaaGreatDoorNumA
import Derived.Shelf.Strings.Replace
namespace Go.Proofs.YtcmhfeeocehlaaaGreatDoor
set_option linter.unusedSimpArgs false
set_option linter.unusedVariables false
open Go.RowKit Go.PlainAid

/-- ~ made - -/
def neg1 (c : UInt8) : UInt8 := if c = 126 then 45 else c
/-- so in all of a text -/
def ngT (s : ByteArray) : ByteArray := ⟨(s.data.toList.map neg1).toArray⟩

theorem repK_ne (b c : UInt8) (new l : List UInt8) (h : b ≠ c) : ∀ k, Lib.replaceK [c] new k (b :: l) = b :: Lib.replaceK [c] new k l
  | 0 => rfl
  | k + 1 => by
    have hp : ([c].isPrefixOf (b :: l)) = false := by simp [List.isPrefixOf]; exact fun e => h e.symm
    have hi : Lib.index (b :: l) [c] = if Lib.index l [c] == -1 then -1 else Lib.index l [c] + 1 := by rw [Lib.index, hp]; rfl
    have hg := Lib.index_ge l [c]
    rw [Lib.replaceK, Lib.replaceK, hi]
    by_cases hm : Lib.index l [c] = -1
    · rw [if_pos (beq_iff_eq.2 hm)]
      rw [if_pos (by decide), if_pos (beq_iff_eq.2 hm)]
    · have hm' : ¬ (Lib.index l [c] == -1) = true := fun e => hm (beq_iff_eq.1 e)
      have hn : ¬ (Lib.index l [c] + 1 == -1) = true := fun e => by have := beq_iff_eq.1 e; omega
      rw [if_neg hm', if_neg hn, if_neg hm']
      obtain ⟨i, hi⟩ : ∃ i : Nat, Lib.index l [c] = i := ⟨(Lib.index l [c]).toNat, by omega⟩
      rw [hi, show ((i : Int) + 1).toNat = i + 1 by omega, show ((i : Int)).toNat = i by omega]
      simp
theorem repK_map : ∀ s : List UInt8, Lib.replaceK [126] [45] (Lib.count s [126]) s = s.map neg1
  | [] => by
    rw [Lib.count_one]; rfl
  | b :: l => by
    by_cases hb : b = 126
    · subst hb
      have hi : Lib.index (126 :: l) [126] = 0 := by rw [Lib.index]; simp [List.isPrefixOf]
      rw [Lib.count_cons_eq, Nat.add_comm, Lib.replaceK_hit _ _ _ _ 0 hi]
      simp only [List.take_zero, List.nil_append, Nat.zero_add, List.length_singleton, List.drop_succ_cons, List.drop_zero, List.map_cons]
      rw [repK_map l]
      rfl
    · rw [Lib.count_cons_ne _ _ _ hb, repK_ne _ _ _ _ hb, repK_map l, List.map_cons]
      have : neg1 b = b := by unfold neg1; rw [if_neg hb]
      rw [this]
theorem rep_map (s : List UInt8) : Lib.replaceAll s [126] [45] = s.map neg1 := by
  unfold Lib.replaceAll Lib.replace Lib.replaceNum
  rw [if_neg (by decide), if_pos (.inl (by decide))]
  exact repK_map s

theorem ng_size (x : ByteArray) : (ngT x).size = x.size := by
  rw [Lib.size_eq, Lib.size_eq]; simp [ngT]
theorem bt_ng (x : ByteArray) (k : Nat) : bt (ngT x) k = if bt x k = 126 then 45 else bt x k := by
  rw [bt_list, bt_list]
  show (((x.data.toList.map neg1).getD k 0).toNat : Int) = _
  simp only [List.getD_eq_getElem?_getD, List.getElem?_map]
  cases h : x.data.toList[k]? with
  | none => rfl
  | some c =>
    simp only [Option.map_some, Option.getD_some]
    unfold neg1
    by_cases hc : c = 126
    · subst hc; rfl
    · rw [if_neg hc, if_neg]
      intro e
      apply hc
      apply UInt8.toNat_inj.1
      have h126 : (126 : UInt8).toNat = 126 := rfl
      omega
theorem bt_seg (s : ByteArray) (a e j : Nat) (hj : a + j < e) : bt (s.extract a e) j = bt s (a + j) := by
  rw [bt_list, bt_list, seg_getD s a e j hj]
theorem dig_of {c : Int} (h : isD c = true) : 48 ≤ c ∧ c ≤ 57 := by
  unfold isD at h
  simp only [Bool.and_eq_true, decide_eq_true_eq] at h
  exact h

theorem num_wf (s : ByteArray) (a : Nat) (hn : isNum s a = true) (hl : ¬ 100 < numE s a - a) : Wf (ngT (s.extract a (numE s a))) := by
  obtain ⟨n1, n2, n3, n4⟩ := nuD_lt hn
  obtain ⟨w1, w2⟩ := whole_lt hn
  obtain ⟨v1, v2⟩ := numE_ge hn
  have f1 := frac_ge s (whole s a) w2
  have x1 := expo_ge s (frac s (whole s a)) f1.2
  have hd : ∀ k, nuD s a ≤ k → k < whole s a → 48 ≤ bt s k ∧ bt s k ≤ 57 := fun k h1 h2 => dig_of (run_all h1 h2)
  have hf : frac s (whole s a) = whole s a ∨ (bt s (whole s a) = 46 ∧ whole s a + 1 < frac s (whole s a) ∧ ∀ k, whole s a + 1 ≤ k → k < frac s (whole s a) → 48 ≤ bt s k ∧ bt s k ≤ 57) := by
    unfold frac
    split
    · rename_i h
      exact .inr ⟨h.1, run_gt isD_0 h.2, fun k h1 h2 => dig_of (run_all h1 h2)⟩
    · exact .inl rfl
  have he : numE s a = frac s (whole s a) ∨ (bt s (frac s (whole s a)) = 101 ∧ ∃ x0, (x0 = frac s (whole s a) + 1 ∨ (x0 = frac s (whole s a) + 2 ∧ bt s (frac s (whole s a) + 1) = 126)) ∧ x0 < numE s a ∧ ∀ k, x0 ≤ k → k < numE s a → 48 ≤ bt s k ∧ bt s k ≤ 57) := by
    unfold numE
    generalize frac s (whole s a) = f
    unfold expo
    split
    · rename_i h
      refine .inr ⟨h.1, exD s f, ?_, run_gt isD_0 h.2, fun k h1 h2 => dig_of (run_all h1 h2)⟩
      unfold exD
      split
      · rename_i hq; exact .inr ⟨rfl, hq⟩
      · exact .inl rfl
    · exact .inl rfl
  have HE := hid he
  have HF := hid hf
  clear he hf
  have hs : (bt s a = 126 ∧ nuD s a = a + 1) ∨ nuD s a = a := by
    unfold nuD
    split
    · rename_i h; exact .inl ⟨h, rfl⟩
    · exact .inr rfl
  have hb : ∀ j, a + j < numE s a → bt (ngT (s.extract a (numE s a))) j = if bt s (a + j) = 126 then 45 else bt s (a + j) := fun j hj => by
    rw [bt_ng, bt_seg s a _ j hj]
  have hz : (ngT (s.extract a (numE s a))).size = numE s a - a := by
    rw [ng_size]; simp; omega
  generalize ngT (s.extract a (numE s a)) = y at hb hz ⊢
  generalize numE s a = e at *
  generalize hfe : frac s (whole s a) = f at *
  clear hfe
  generalize whole s a = wh at *
  generalize nuD s a = d at *
  clear n2 hn x1
  have hfe : f ≤ e := by
    rcases HE.out with h | ⟨_, x0, h, h', _⟩
    · omega
    · omega
  have D : ∀ k, 48 ≤ bt s (a + k) ∧ bt s (a + k) ≤ 57 → a + k < e → bt y k = bt s (a + k) := fun k h1 h2 => by
    rw [hb k h2, if_neg (by omega)]
  have hM : ∀ k, d ≤ a + k → a + k < f → bt y k = 46 ∧ a + k = wh ∨ (48 ≤ bt y k ∧ bt y k ≤ 57) ∧ a + k ≠ wh := fun k h1 h2 => by
    by_cases c1 : a + k < wh
    · have := hd (a + k) h1 c1
      right
      rw [D k this (by omega)]
      exact ⟨this, by omega⟩
    · rcases HF.out with h | ⟨g1, g2, g3⟩
      · omega
      · by_cases c2 : a + k = wh
        · left
          refine ⟨?_, c2⟩
          rw [hb k (by omega), c2, g1]; rfl
        · have := g3 (a + k) (by omega) h2
          right
          rw [D k this (by omega)]
          exact ⟨this, c2⟩
  have hX : ∀ k, f ≤ a + k → a + k < e → Rb (bt y k) := fun k h1 h2 => by
    rcases HE.out with h | ⟨g1, x0, g2, g3, g4⟩
    · omega
    · by_cases c1 : a + k = f
      · rw [hb k h2, c1, g1]
        exact .inr (.inr (.inr rfl))
      · by_cases c2 : x0 ≤ a + k
        · have := g4 (a + k) c2 h2
          rw [D k this h2]
          exact .inr (.inr (.inl this))
        · rcases g2 with g2 | ⟨g2, g5⟩
          · omega
          · have c3 : a + k = f + 1 := by omega
            rw [hb k h2, c3, g5]
            exact .inl rfl
  have h0 : (bt y 0 = 45 ∧ d = a + 1) ∨ (¬ bt y 0 = 45 ∧ d = a) := by
    rcases hs with ⟨g1, g2⟩ | g1
    · left
      refine ⟨?_, g2⟩
      rw [hb 0 (by omega), Nat.add_zero, g1]; rfl
    · right
      refine ⟨?_, g1⟩
      have := hd (a + 0) (by omega) (by omega)
      rw [D 0 this (by omega)]
      omega
  have hdf : d < f := by omega
  refine ⟨⟨by omega, by omega, fun k hk => ?_⟩, d - a, f - a, ⟨by omega, by omega, ?_, fun k h1 h2 => ?_, fun j k h1 h2 h3 h4 h5 => ?_⟩, ?_, ?_⟩
  · by_cases c1 : a + k < d
    · obtain rfl : k = 0 := by omega
      rcases h0 with h | h
      · rw [h.1]; exact .inl rfl
      · omega
    · by_cases c2 : a + k < f
      · rcases hM k (by omega) c2 with h | h
        · rw [h.1]; exact .inr (.inl rfl)
        · exact .inr (.inr (.inl h.1))
      · exact hX k (by omega) (by omega)
  · have := hd (a + (d - a)) (by omega) (by omega)
    rw [D (d - a) this (by omega)]
    exact this
  · rcases hM k (by omega) (by omega) with h | h
    · exact .inl h.1
    · exact .inr h.1
  · rcases hM j (by omega) (by omega) with h | h
    · rcases hM k (by omega) (by omega) with h' | h'
      · omega
      · omega
    · omega
  · rcases h0 with h | h
    · exact .inl ⟨h.1, by omega⟩
    · exact .inr ⟨h.1, by omega⟩
  · rcases HE.out with h | ⟨g1, x0, g2, g3, g4⟩
    · exact .inl (by omega)
    · right
      have y1 : bt y (f - a) = 101 := by rw [hb (f - a) (by omega), show a + (f - a) = f by omega, g1]; rfl
      have yd : ∀ k, x0 ≤ a + k → k < y.size → 48 ≤ bt y k ∧ bt y k ≤ 57 := fun k h1 h2 => by
        have := g4 (a + k) h1 (by omega)
        rw [D k this (by omega)]
        exact this
      rcases g2 with g2 | ⟨g2, g5⟩
      · left
        exact ⟨y1, by omega, fun k h1 h2 => yd k (by omega) h2⟩
      · right
        refine ⟨⟨y1, by omega, fun k h1 h2 => yd k (by omega) h2⟩, ?_⟩
        rw [hb _ (by omega), show a + (f - a + 1) = f + 1 by omega, g5]; rfl
end Go.Proofs.YtcmhfeeocehlaaaGreatDoor
