/-
  The walk of the law WorldLines: it answers true.
-/
import Derived.Test.YtkbdgdcicflocaaKnown
namespace Go.Proofs.Ytkbdgdcicflocaa
set_option linter.unusedSimpArgs false
set_option linter.unusedVariables false
open Go.RowKit
attribute [local go_sem ↓] Go.wp_at_zero Go.wp_at_succ

theorem ib_spec (c : UInt8) : ∀ l : List UInt8, (∃ i : Nat, Lib.indexByte l c = i ∧ l[i]? = some c ∧ ∀ j : Nat, j < i → l[j]? ≠ some c) ∨ (Lib.indexByte l c = -1 ∧ ∀ j : Nat, l[j]? ≠ some c)
  | [] => .inr ⟨rfl, fun j h => by simp at h⟩
  | b :: l => by
    have ih := ib_spec c l
    unfold Lib.indexByte
    by_cases hb : (b == c) = true
    · left
      have : b = c := by simpa using hb
      exact ⟨0, by simp [hb], by simp [this], fun j hj => by omega⟩
    · have hb' : (b == c) = false := by simpa using hb
      have hne : b ≠ c := by simpa using hb'
      simp only [hb', Bool.false_eq_true, if_false]
      rcases ih with ⟨i, e, h1, h2⟩ | ⟨e, h⟩
      · left
        refine ⟨i + 1, ?_, by simpa using h1, fun j hj => ?_⟩
        · rw [e]
          have : ((i : Int) == -1) = false := by rw [beq_eq_false_iff_ne]; omega
          rw [this]
          simp
        · cases j with
          | zero => simpa using hne
          | succ j => simpa using h2 j (by omega)
      · right
        refine ⟨by rw [e]; rfl, fun j => ?_⟩
        cases j with
        | zero => simpa using hne
        | succ j => simpa using h j

theorem ll_pos {l : List UInt8} (h : l ≠ []) : 0 < lineLen l := by
  unfold lineLen
  split
  · omega
  · exact List.length_pos_iff.2 h
theorem ll_mid {l : List UInt8} {j : Nat} (hj : j + 1 < lineLen l) : l[j]? ≠ some 10 := by
  unfold lineLen at hj
  rcases ib_spec 10 l with ⟨i, e, _, h2⟩ | ⟨_, h⟩
  · rw [e, if_pos (by omega)] at hj
    exact h2 j (by omega)
  · exact h j
theorem ll_last {l : List UInt8} (h : lineLen l < l.length) : l[lineLen l - 1]? = some 10 := by
  unfold lineLen at h ⊢
  rcases ib_spec 10 l with ⟨i, e, h1, _⟩ | ⟨e, _⟩
  · rw [e, if_pos (by omega)] at h ⊢
    simpa using h1
  · rw [e, if_neg (by omega)] at h
    omega

def rdSt (stdin : ByteArray) (r : Nat) : St := { initSt (fun _ => none) stdin with rd := r }

/-- what Line answers of the rest, in the walk's words -/
theorem line_facts (stdin : ByteArray) (r : Nat) (hr : r ≤ stdin.size) (m : Nat) (hm : lineLen (stdin.data.toList.drop r) = m) (st : ByteArray) (hst : st = str (nx stdin.data.toList r m)) :
    st.size = m ∧ r + m ≤ stdin.size ∧ (m = 0 → r = stdin.size) ∧ (∀ j (hj : j < st.size), j + 1 < m → (st[j]'hj).toNat ≠ 10) ∧ (∀ h : m - 1 < st.size, r + m < stdin.size → (st[m - 1]'h).toNat = 10) ∧ str (stdin.data.toList.take r) ++ st = str (stdin.data.toList.take (r + m)) := by
  have hl : stdin.data.toList.length = stdin.size := by simp
  have hle := lineLen_le (stdin.data.toList.drop r)
  rw [hm, List.length_drop, hl] at hle
  have hnl : (nx stdin.data.toList r m).length = m := by simp [nx]; omega
  have hsz : st.size = m := by rw [hst, str_size, hnl]
  have hget : ∀ j (hj : j < st.size), (stdin.data.toList.drop r)[j]? = some (st[j]'hj) := fun j hj => by
    subst hst
    have e : (str (nx stdin.data.toList r m))[j]'hj = (nx stdin.data.toList r m)[j]'(by rw [hnl]; omega) := by
      simp [str, ByteArray.getElem_eq_getElem_data]
    rw [e]
    simp only [nx]
    rw [List.getElem_take, List.getElem?_eq_getElem]
  refine ⟨hsz, by omega, fun h => ?_, fun j hj hjm h10 => ?_, fun h hlt => ?_, ?_⟩
  · by_cases e : stdin.data.toList.drop r = []
    · have : (stdin.data.toList.drop r).length = 0 := by rw [e]; rfl
      rw [List.length_drop, hl] at this
      omega
    · have := ll_pos e
      omega
  · have h1 := ll_mid (l := stdin.data.toList.drop r) (j := j) (by omega)
    rw [hget j hj] at h1
    apply h1
    congr 1
    exact UInt8.toNat_inj.1 h10
  · have h1 := ll_last (l := stdin.data.toList.drop r) (by rw [List.length_drop, hl, hm]; omega)
    rw [hm, hget _ h] at h1
    rw [Option.some.inj h1]
    rfl
  · subst hst
    unfold str
    rw [ByteArray.mk_append_mk]
    congr 2
    unfold nx
    rw [← List.take_add]

def szOf : Value → Nat | .string b => b.size | _ => 0

set_option maxHeartbeats 4000000 in
set_option maxRecDepth 100000 in
theorem lines_walk (stdin : ByteArray) (w : World) (hs : stdin.size ≤ 140737488355328) : Calls Try.prog 7 #[.string stdin] w fun e w' => e = .returned (.bool true) ∧ Tn No w w' := by
  have hnew := own_new stdin w w (Tn.refl _ _) (by unfold maxLen; omega)
  have HN := hid hnew
  have HK := hid known_raw
  have hs63 : (stdin.size : Int) ≤ 140737488355328 := by omega
  clear hnew
  go_enter Try.func7, Try.ntmps7
  go_wp2_with (first
    | (go_at_call 9; refine HN.out.mono ?_; rintro e w1 ⟨p, rfl, h1, t1⟩)
    | (go_at_call 11; refine (HK.out _).mono ?_; rintro e w2 ⟨rfl, t2⟩))
  go_loopw [4, 5, 6] (fun al _ _ u => ∃ r : Nat, r ≤ stdin.size ∧ al = .string (str (stdin.data.toList.take r)) ∧ Own w u p 0 (rdSt stdin r)) (fun al _ _ _ => stdin.size - szOf al)
  case atStart => exact ⟨0, by omega, by simp [str], h1.no t2⟩
  case round =>
    obtain ⟨r, hr, rfl, ho⟩ := hrel
    obtain ⟨m, hm⟩ : ∃ m, lineLen (stdin.data.toList.drop r) = m := ⟨_, rfl⟩
    obtain ⟨st, hst⟩ : ∃ st, st = str (nx stdin.data.toList r m) := ⟨_, rfl⟩
    obtain ⟨f1, f2, f3, f4, f5, f6⟩ := line_facts stdin r hr m hm st hst
    have hline : Calls Try.prog 25 #[.pointer (some ⟨p, 0, none⟩)] wr fun e u' => e = .returned (.string st) ∧ Own w u' p 0 (rdSt stdin (r + m)) := by
      have := own_line ho
      have e1 : (rdSt stdin r).inp = stdin.data.toList := rfl
      have e2 : (rdSt stdin r).rd = r := rfl
      rw [e1, e2, hm, ← hst] at this
      exact this
    have HL := hid hline
    have htr : ∀ u, Own w u p 0 (rdSt stdin (r + m)) → Calls Try.prog 19 #[.pointer (some ⟨p, 0, none⟩)] u fun e u' => ∃ a c, e = .returned (.slice a 0 c) ∧ Tn No w u' := fun u h => by
      have h0 := h.tn
      refine (own_trace h (by omega)).mono (fun e u' ⟨v, he, htv, t⟩ => ?_)
      obtain ⟨a, c, hv, _⟩ := htv.rw.form
      exact ⟨a, c, by rw [he, hv]; rfl, h0.then t⟩
    have HT := hid htr
    have hts : (str (stdin.data.toList.take r)).size = r := by rw [str_size]; simp; omega
    have F4 := hid f4
    have F5 := hid f5
    have F6 := hid f6
    clear hline htr f4 f5 f6 hm
    by_cases h0 : m = 0
    · have hr2 := f3 h0
      have hem : st.toList.isEmpty = true := by rw [toList_isEmpty, decide_eq_true_iff]; omega
      have hall : str (stdin.data.toList.take r) = stdin := by
        rw [hr2, List.take_of_length_le (by simp)]
        rfl
      rw [hall]
      have HO := hid ho
      clear hst f1 f2 f3 h0 hts hall hr2 ho
      go_wp2_with (first
        | (go_at_call 25; refine HL.out.mono ?_; rintro e w3 ⟨rfl, h3⟩)
        | (go_at_call 19; refine (HT.out _ h3).mono ?_; rintro e w4 ⟨a, c, rfl, t4⟩))
      go_ret
      exact ⟨rfl, t4⟩
    · have hem : st.toList.isEmpty = false := by rw [toList_isEmpty, decide_eq_false_iff_not]; omega
      have HST := hid hst
      have HO := hid ho
      clear hst ho f3
      go_wp2_with (go_at_call 25; refine HL.out.mono ?_; rintro e w3 ⟨rfl, h3⟩)
      go_loop [6] (fun i => ∃ j : Nat, j ≤ m ∧ i = .int .i64 j) (fun i => m - (intOf i).toNat)
      case atStart => exact ⟨0, by omega, rfl⟩
      case round =>
        obtain ⟨j, hj, rfl⟩ := hrel
        by_cases hlt : j < m
        · have hjs : j < st.size := by omega
          have hjs2 : (j : Int) < (st.size : Int) := by omega
          by_cases h10 : (st[j]'hjs).toNat = 10
          · have hjl : ¬ (j + 1 < m) := fun h => F4.out j hjs h h10
            have hd1 : (((st[j]'hjs).toNat : Int) == 10) = true := by rw [h10]; rfl
            have hd2 : decide ((j : Int) < (st.size : Int) - 1) = false := by rw [decide_eq_false_iff_not]; omega
            clear h10
            go_wp2
            go_round
            case rel => exact ⟨j + 1, by omega, by go_num⟩
            case measure => simp [intOf]; omega
          · have hd1 : (((st[j]'hjs).toNat : Int) == 10) = false := by rw [beq_eq_false_iff_ne]; omega
            clear h10
            go_wp2
            go_round
            case rel => exact ⟨j + 1, by omega, by go_num⟩
            case measure => simp [intOf]; omega
        · obtain rfl : j = m := by omega
          go_wp2
          · go_roundw
            case rel => exact ⟨r + j, by omega, by rw [F6.out], h3⟩
            case measure => simp [szOf]; omega
          · exfalso
            have hx : (stdin.size : Int) < (r : Int) + (j : Int) ∨ (((st[j - 1]'(by omega)).toNat : Int) != 10) = true ∧ (r : Int) + (j : Int) < (stdin.size : Int) := by assumption
            rcases hx with hx | ⟨hx, hy⟩
            · omega
            · have := F5.out (by omega) (by omega)
              rw [this] at hx
              simp at hx
          · go_roundw
            case rel => exact ⟨r + j, by omega, by rw [F6.out], h3⟩
            case measure => simp [szOf]; omega
end Go.Proofs.Ytkbdgdcicflocaa
