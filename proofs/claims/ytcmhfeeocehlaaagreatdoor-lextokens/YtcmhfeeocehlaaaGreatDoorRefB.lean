/-
  The reference: natAdd, natSub, times.
-/
import Derived.Test.YtcmhfeeocehlaaaGreatDoorRefA
import Derived.Test.YtcmhfeeocehlaaaGreatDoorBigC
namespace Go.Proofs.YtcmhfeeocehlaaaGreatDoor
set_option linter.unusedSimpArgs false
set_option linter.unusedVariables false
open Go.RowKit
attribute [local go_sem ↓] Go.wp_at_zero Go.wp_at_succ

/-- limbs as they should stand, at the head of a new block -/
def RNat (w : World) (z k : Nat) (e : Ending) (w' : World) : Prop :=
  ∃ g l, e = .returned (.slice (some ⟨g, 0, none⟩) l.length l.length) ∧ Row w' g l ∧ Nrm l ∧ Lims l ∧ val l = z ∧ w.heap.size ≤ g ∧ l.length ≤ k ∧ w.grownBy w' none

theorem RNat.ow {w w' : World} {g : Nat} {l : List Nat} (hr : Row w' g l) (hl : Lims l) (hB : w.heap.size ≤ g) (hk : l.length ≤ 35184372088832) : OW w' w.heap.size (some ⟨g, 0, none⟩) l.length l.length l :=
  OW.of_row (L := []) (by simpa using hr) hB rfl (Nat.le_refl _) hk (by omega) hl

/-- one more limb at the end of what the call gathers -/
theorem hd_snoc {w wr w5 : World} {B ao no co g5 cap5 d : Nat} {a : Option Addr} {N : List Nat} (h : HD wr B a no co N) (hg : w.grownBy wr none) (hB : w.heap.size ≤ B) {v : Value} (hv : v = .int .u32 (d : Int)) (hd : d < 4294967296)
    (hown : w5.ownsRow B 84 1 (.slice (some ⟨g5, 0, none⟩) (no + 1) cap5) (no + 1) (cl N ++ [v])) (hgrow : (wr.alloc (.cells #[v] 84)).grownBy w5 (Value.slice a no co).ownBlock) :
    HD w5 B (some ⟨g5, 0, none⟩) (no + 1) cap5 (N ++ [d]) ∧ w.grownBy w5 none := by
  subst hv
  refine ⟨⟨by simpa [cl] using hown, lims_snoc h.lim hd⟩, ?_⟩
  exact gb_then (gb_alloc hg _) hgrow (fun i e => Nat.le_trans hB (h.own.lt i e).1)

set_option maxHeartbeats 1600000 in
theorem times_raw (a : Option Addr) (n c f mo : Nat) (x : List Nat) (w : World) (hx : SL w a n c x) (hn : n + 1 ≤ 35184372088832) (hf : f < 4294967296) (hm : mo < 4294967296) :
    Calls Tryz.prog 86 #[.slice a n c, .int .u32 ((f : Nat) : Int), .int .u32 ((mo : Nat) : Int)] w (RNat w (val x * f + mo) (n + 1)) := by
  obtain ⟨i0, hi, hz0, hz1, hz2⟩ := info_parts u32_info
  obtain ⟨hlen, hcap, hbig, hcm, hlim, hnil, b, off, ha, hcell⟩ := hx
  go_enter Tryz.func86, Tryz.ntmps86
  go_wp2
  go_loopw [7, 8, 9] (fun o cr i wr => ∃ (k cy : Nat) (ao : Option Addr) (co : Nat) (N : List Nat), k ≤ n ∧ i = .int .i64 k ∧ cr = .int .u64 cy ∧ cy ≤ 4294967295 ∧ o = .slice ao k co ∧ HD wr w.heap.size ao k co N ∧ val N + B32 ^ k * cy = val (x.take k) * f + mo ∧ w.grownBy wr none) (fun _ _ i _ => n - (intOf i).toNat)
  case atStart => exact ⟨0, mo, none, 0, [], by omega, rfl, rfl, by omega, rfl, HD.nil' _ _, by simp [val], gb_refl _ _⟩
  case round =>
    obtain ⟨k, cy, ao, co, N, hk, rfl, rfl, hcy, rfl, hHD, hv, hg⟩ := hrel
    have HV := hid1 hv
    have HN := hid1 hHD.len
    clear hv
    by_cases hlt : k < n
    · obtain ⟨rfl, _⟩ := ha (by omega)
      have hck := gb_cell hg (hcell k hlt) (by simp)
      have hlo' := lims_getD hlim k
      have E1 : Hid (val (x.take (k + 1)) = val (x.take k) + B32 ^ k * x.getD k 0) := val_take_succ x k
      generalize x.getD k 0 = p at *
      have hpr := mul_lt (show p ≤ 4294967295 by omega) (show f ≤ 4294967295 by omega)
      have hpr' : (p : Int) * (f : Int) = ((p * f : Nat) : Int) := by simp
      generalize hdq : p * f = t at *
      have HDQ := hid1 hdq
      clear hdq hcell
      go_wp2_with (at_builtin; refine wpList_append_lies _ rfl (.tmp 29) (.tmp 33) 33 rfl w.heap.size 84 i0 (.int .u32 0) 1 4 Tryz.underlying33 hi hz0 hz1 hz2 rfl (by decide) (.slice ao k co) k (cl N) rfl (hHD.own.alloc _) ⟨wr.heap.size, 0, none⟩ 1 1 [.int .u32 (((t : Int) + (cy : Int)) % 4294967296)] rfl rfl (cell_one_new _ _ _) (by intro u hu; simp at hu; subst hu; rfl) (by omega) (by unfold maxLen; omega) (by omega) (by have := hg.size; simp; omega) (wr.heap.size + 1) (by simp) ?_; intro g5 cap5 w5 hown5 hgrow5 hat5 hlt5)
      obtain ⟨hHD5, hg5⟩ := hd_snoc (ao := 0) (d := (t + cy) % 4294967296) hHD hg (Nat.le_refl _) (by go_num) (by omega) hown5 hgrow5
      clear hown5 hgrow5
      go_wp2
      go_roundw
      case rel =>
        refine ⟨k + 1, (t + cy) / 4294967296, _, cap5, N ++ [(t + cy) % 4294967296], by omega, by go_num, by go_num, by omega, rfl, hHD5, ?_, hg5⟩
        rw [E1.out]
        exact muladd_step HN.out HV.out (by rw [HDQ.out, B32_eq]; omega)
      case measure => simp [intOf]; omega
    · have hkn : k = n := by omega
      subst hkn
      clear hcell ha
      go_wp2_with (first
        | (at_builtin; refine wpList_append_lies _ rfl (.tmp 37) (.tmp 40) 33 rfl w.heap.size 84 i0 (.int .u32 0) 1 4 Tryz.underlying33 hi hz0 hz1 hz2 rfl (by decide) (.slice ao k co) k (cl N) rfl (hHD.own.alloc _) ⟨wr.heap.size, 0, none⟩ 1 1 [.int .u32 ((cy : Int))] rfl rfl (cell_one_new _ _ _) (by intro u hu; simp at hu; subst hu; rfl) (by omega) (by unfold maxLen; omega) (by omega) (by have := hg.size; simp; omega) (wr.heap.size + 1) (by simp) ?_; intro g5 cap5 w5 hown5 hgrow5 hat5 hlt5)
        | (go_at_call 70; refine (rtrim_raw _ _ _ (N ++ [cy]) _ (by exact ((hd_snoc (ao := 0) (d := cy) hHD hg (Nat.le_refl _) rfl (by omega) hown5 hgrow5).1.ow (by omega)).sl)).mono ?_; rintro e w6 ⟨g6, rfl, hr6, hB6, hg6⟩))
      go_ret
      obtain ⟨hHD5, hg5⟩ := hd_snoc (ao := 0) (d := cy) hHD hg (Nat.le_refl _) rfl (by omega) hown5 hgrow5
      have hv := HV.out
      rw [List.take_of_length_le (by omega)] at hv
      have hl5 := hHD5.len
      have htl := tr_le (N ++ [cy])
      refine ⟨g6, tr (N ++ [cy]), rfl, hr6, nrm_tr _, lims_tr hHD5.lim, by rw [val_tr, val_snoc, HN.out, hv], Nat.le_trans hg5.size hB6, by omega, gb_then hg5 hg6 (by simp)⟩

theorem sub_step {N : List Nat} {k less less' d p q X Y : Nat} (hk : N.length = k) (h : val N + Y = X + B32 ^ k * less) (e : d + (less + q) = p + B32 * less') :
    val (N ++ [d]) + (Y + B32 ^ k * q) = (X + B32 ^ k * p) + B32 ^ (k + 1) * less' := by
  have h' : val N + 1 * Y = X + B32 ^ k * less := by rw [Nat.one_mul]; exact h
  have := borrow_step (dg := 1) (q := q) (p := p) (lack' := less') (d := d) hk h' (by rw [Nat.one_mul]; exact e)
  rwa [Nat.one_mul] at this

end Go.Proofs.YtcmhfeeocehlaaaGreatDoor
namespace Go.Proofs.YtcmhfeeocehlaaaGreatDoor
set_option linter.unusedSimpArgs false
set_option linter.unusedVariables false
open Go.RowKit
attribute [local go_sem ↓] Go.wp_at_zero Go.wp_at_succ

/-- what natParse answers of digits -/
def NPYes (w : World) (z k : Nat) (e : Ending) (w' : World) : Prop :=
  ∃ a l, e = .returned (.tuple #[.slice a l.length l.length, .bool true]) ∧ OW w' w.heap.size a l.length l.length l ∧ Nrm l ∧ Lims l ∧ val l = z ∧ l.length ≤ k ∧ w.grownBy w' none
def NPNo (w : World) (e : Ending) (w' : World) : Prop := e = .returned (.tuple #[.slice none 0 0, .bool false]) ∧ w' = w

theorem size0 (s : ByteArray) (h : s.size = 0) : (s.toList == []) = true := by
  have e : s.toList = [] := by
    have : s.toList.length = 0 := by rw [Lib.toList_data, ← Lib.size_eq]; exact h
    exact List.length_eq_zero_iff.1 this
  rw [e]; rfl
theorem size1 (s : ByteArray) (h : 0 < s.size) : (s.toList == []) = false := by
  have e : s.toList ≠ [] := by
    intro e
    have : s.toList.length = s.size := by rw [Lib.toList_data, ← Lib.size_eq]
    rw [e] at this
    simp at this
    omega
  cases hl : s.toList with
  | nil => exact absurd hl e
  | cons _ _ => rfl

set_option maxHeartbeats 800000 in
theorem natParse_empty (s : ByteArray) (w : World) (h : s.size = 0) : Calls Tryz.prog 77 #[.string s] w (NPNo w) := by
  have h0 := size0 s h
  go_enter Tryz.func77, Tryz.ntmps77
  go_wp2
  go_ret2
  exact ⟨rfl, rfl⟩
set_option maxHeartbeats 800000 in
theorem natParse_zero (s : ByteArray) (w : World) (hs : s.size ≤ maxLen) (h : 1 < s.size) (hz : ((s[0].toNat : Int) == 48) = true) : Calls Tryz.prog 77 #[.string s] w (NPNo w) := by
  have h0 := size1 s (by omega)
  unfold maxLen at hs
  have h1 : (1 : Int) < (s.size : Int) := by omega
  go_enter Tryz.func77, Tryz.ntmps77
  go_wp2
  go_ret2
  exact ⟨rfl, rfl⟩

theorem notDig_of {s : ByteArray} {k : Nat} (hk : k < s.size) (hd : ¬ isDig s[k] = true) (ha : allDig s.data.toList = true) : False := by
  have hm : s[k] ∈ s.data.toList := by
    have : s[k] = s.data.toList[k]'(by simpa using hk) := rfl
    rw [this]; exact List.getElem_mem _
  unfold allDig at ha
  exact hd (List.all_eq_true.1 (Bool.and_eq_true_iff.1 ha).1 _ hm)
theorem allDig_of1 {s : ByteArray} (h0 : 0 < s.size) (h : (s.data.toList.take s.size).all isDig = true) : allDig s.data.toList = true := by
  rw [List.take_of_length_le (by rw [← Lib.size_eq]; exact Nat.le_refl _)] at h
  unfold allDig
  rw [h, Bool.true_and]
  cases hl : s.data.toList with
  | nil => rw [Lib.size_eq, hl] at h0; simp at h0
  | cons _ _ => rfl

set_option maxHeartbeats 1600000 in
theorem natParse_bad (s : ByteArray) (w : World) (hs : s.size ≤ maxLen) (h : 0 < s.size) (hz : ((s[0].toNat : Int) == 48) = false ∨ (((s[0].toNat : Int) == 48) = true ∧ s.size = 1)) (hd : allDig s.data.toList = false) : Calls Tryz.prog 77 #[.string s] w (NPNo w) := by
  have h0 := size1 s h
  have HD := hid1 hd
  clear hd
  unfold maxLen at hs
  have h01 : (0 : Int) < (s.size : Int) := by omega
  rcases hz with hz | ⟨hz, hs1⟩
  all_goals
    try have hn1 : ¬ (1 : Int) < (s.size : Int) := by omega
    go_enter Tryz.func77, Tryz.ntmps77
    go_wp2
    go_loop [5] (fun i => ∃ k : Nat, k ≤ s.size ∧ i = .int .i64 k ∧ (s.data.toList.take k).all isDig = true) (fun i => s.size - (intOf i).toNat)
    case atStart => exact ⟨0, Nat.zero_le _, rfl, rfl⟩
    case round =>
      obtain ⟨k, hk, rfl, hall⟩ := hrel
      have HA := hid1 hall
      clear hall
      clear hz
      by_cases hlt : k < s.size
      · have HT := hid1 (take_snoc8 s k hlt)
        by_cases hd : isDig s[k] = true
        · have HD2 := hid1 hd
          have h2 : 48 ≤ (s[k].toNat : Int) ∧ (s[k].toNat : Int) ≤ 57 := by simp [isDig] at hd; omega
          obtain ⟨h3, h4⟩ := h2
          clear hd
          go_wp2
          go_round
          case rel => exact ⟨k + 1, by omega, by go_num, by rw [HT.out, List.all_append, HA.out]; simp [HD2.out]⟩
          case measure => simp [intOf]; omega
        · have h2 : (s[k].toNat : Int) < 48 ∨ 57 < (s[k].toNat : Int) := by simp [isDig] at hd; omega
          clear hd
          rcases h2 with h2 | h2
          · go_wp2
            go_ret2
            exact ⟨rfl, rfl⟩
          · have h3 : ¬ (s[k].toNat : Int) < 48 := by omega
            go_wp2
            go_ret2
            exact ⟨rfl, rfl⟩
      · have hks : k = s.size := by omega
        subst hks
        exact absurd (allDig_of1 h HA.out) (by rw [HD.out]; simp)

set_option maxHeartbeats 1600000 in
theorem natParse_good (s : ByteArray) (w : World) (hs : s.size ≤ 100000000) (h : 0 < s.size) (hz : ((s[0].toNat : Int) == 48) = false ∨ (((s[0].toNat : Int) == 48) = true ∧ s.size = 1)) (hd : allDig s.data.toList = true) : Calls Tryz.prog 77 #[.string s] w (NPYes w (dval s.data.toList) s.size) := by
  have h0 := size1 s h
  have HD := hid1 hd
  clear hd
  have h01 : (0 : Int) < (s.size : Int) := by omega
  rcases hz with hz | ⟨hz, hs1⟩
  all_goals
    try have hn1 : ¬ (1 : Int) < (s.size : Int) := by omega
    go_enter Tryz.func77, Tryz.ntmps77
    go_wp2
    go_loop [5] (fun i => ∃ k : Nat, k ≤ s.size ∧ i = .int .i64 k) (fun i => s.size - (intOf i).toNat)
    case atStart => exact ⟨0, Nat.zero_le _, rfl⟩
    case round =>
      obtain ⟨k, hk, rfl⟩ := hrel
      clear hz
      by_cases hlt : k < s.size
      · by_cases hd : isDig s[k] = true
        · have h2 : 48 ≤ (s[k].toNat : Int) ∧ (s[k].toNat : Int) ≤ 57 := by simp [isDig] at hd; omega
          obtain ⟨h3, h4⟩ := h2
          clear hd
          go_wp2
          go_round
          case rel => exact ⟨k + 1, by omega, by go_num⟩
          case measure => simp [intOf]; omega
        · exact absurd HD.out (fun e => notDig_of hlt hd e)
      · have hks : k = s.size := by omega
        subst hks
        go_wp2
        go_loopw [4, 6] (fun o i wr => ∃ (k : Nat) (a : Option Addr) (l : List Nat), k ≤ s.size ∧ i = .int .i64 k ∧ o = .slice a l.length l.length ∧ OW wr w.heap.size a l.length l.length l ∧ Nrm l ∧ Lims l ∧ val l = dval (s.data.toList.take k) ∧ l.length ≤ k ∧ w.grownBy wr none) (fun _ i _ => s.size - (intOf i).toNat)
        case atStart => exact ⟨0, none, [], by omega, rfl, rfl, OW.nil' _ _, .inl rfl, (by intro x hx; cases hx), rfl, by simp, gb_refl _ _⟩
        case round =>
          obtain ⟨k, a, l, hk, rfl, rfl, how, hn, hl, hv, hlk, hg⟩ := hrel
          have HV := hid1 hv
          clear hv
          by_cases hlt : k < s.size
          · have HT := hid1 (take_snoc8 s k hlt)
            by_cases hd : isDig s[k] = true
            · have h2 : 48 ≤ s[k].toNat ∧ s[k].toNat ≤ 57 := by simp [isDig] at hd; omega
              obtain ⟨h3, h4⟩ := h2
              have ec : ((s[k].toNat : Int) - 48) = ((s[k].toNat - 48 : Nat) : Int) := by omega
              clear hd
              go_wp2_with (go_at_call 86; refine (times_raw a _ _ 10 (s[k].toNat - 48) l _ how.sl (by omega) (by omega) (by omega)).mono ?_; rintro e w3 ⟨g3, l3, rfl, hr3, hn3, hlm3, hv3, hB3, hk3, hg3⟩; have HV3 := hid1 hv3; clear hv3)
              go_roundw
              case rel => exact ⟨k + 1, _, l3, by omega, by go_num, rfl, (RNat.ow hr3 hlm3 hB3 (by omega)).mono hg.size, hn3, hlm3, by rw [HV3.out, HV.out, HT.out, dval_snoc], by omega, gb_then hg hg3 (by simp)⟩
              case measure => simp [intOf]; omega
            · exact absurd HD.out (fun e => notDig_of hlt hd e)
          · have hks : k = s.size := by omega
            subst hks
            have HV2 : Hid (val l = dval s.data.toList) := by
              have := HV.out
              rwa [List.take_of_length_le (by rw [← Lib.size_eq]; exact Nat.le_refl _)] at this
            go_wp2
            go_ret2
            exact ⟨a, l, rfl, how, hn, hl, HV2.out, hlk, hg⟩
end Go.Proofs.YtcmhfeeocehlaaaGreatDoor
namespace Go.Proofs.YtcmhfeeocehlaaaGreatDoor
set_option linter.unusedSimpArgs false
set_option linter.unusedVariables false
open Go.RowKit
attribute [local go_sem ↓] Go.wp_at_zero Go.wp_at_succ

set_option maxHeartbeats 1600000 in
theorem rparse_no_neg (s t : ByteArray) (w : World) (hs : s.size ≤ maxLen) (h : 0 < s.size) (hz : ((s[0].toNat : Int) == 126) = true) (ht : s.extract 1 s.size = t) (HN : Hid (∀ w, Calls Tryz.prog 77 #[.string t] w (NPNo w))) :
    Calls Tryz.prog 64 #[.string s] w (ParseNo w) := by
  have h0 := size1 s h
  unfold maxLen at hs
  have h01 : (1 : Int) ≤ (s.size : Int) := by omega
  go_enter Tryz.func64, Tryz.ntmps64
  go_wp2_with (go_at_call 77; refine (HN.out _).mono ?_; rintro e w' ⟨rfl, rfl⟩)
  refine bodyPost_ret (v := .tuple #[.agg #[.bool false, .slice none 0 0], .int .i64 11]) (by simp [results, Tryz.results64, go_sem]) rfl ⟨rfl, ?_⟩
  exact (by repeat (first | exact gb_refl _ _ | apply gb_drew | apply gb_alloc | (refine gb_then ?_ (by assumption) (by simp))))
set_option maxHeartbeats 1600000 in
theorem rparse_no_pos (s : ByteArray) (w : World) (hs : s.size ≤ maxLen) (h : 0 < s.size) (hz : ((s[0].toNat : Int) == 126) = false) (HN : Hid (∀ w, Calls Tryz.prog 77 #[.string s] w (NPNo w))) :
    Calls Tryz.prog 64 #[.string s] w (ParseNo w) := by
  have h0 := size1 s h
  unfold maxLen at hs
  have h01 : (0 : Int) < (s.size : Int) := by omega
  go_enter Tryz.func64, Tryz.ntmps64
  go_wp2_with (go_at_call 77; refine (HN.out _).mono ?_; rintro e w' ⟨rfl, rfl⟩)
  refine bodyPost_ret (v := .tuple #[.agg #[.bool false, .slice none 0 0], .int .i64 11]) (by simp [results, Tryz.results64, go_sem]) rfl ⟨rfl, ?_⟩
  exact (by repeat (first | exact gb_refl _ _ | apply gb_drew | apply gb_alloc | (refine gb_then ?_ (by assumption) (by simp))))
set_option maxHeartbeats 1600000 in
theorem rparse_no_empty (s : ByteArray) (w : World) (h : s.size = 0) : Calls Tryz.prog 64 #[.string s] w (ParseNo w) := by
  have h0 := size0 s h
  go_enter Tryz.func64, Tryz.ntmps64
  go_wp2_with (go_at_call 77; refine (natParse_empty s _ h).mono ?_; rintro e w' ⟨rfl, rfl⟩)
  refine bodyPost_ret (v := .tuple #[.agg #[.bool false, .slice none 0 0], .int .i64 11]) (by simp [results, Tryz.results64, go_sem]) rfl ⟨rfl, ?_⟩
  exact (by repeat (first | exact gb_refl _ _ | apply gb_drew | apply gb_alloc | (refine gb_then ?_ (by assumption) (by simp))))

set_option maxHeartbeats 1600000 in
theorem rparse_no_zero (s t : ByteArray) (k : Nat) (w : World) (hs : s.size ≤ maxLen) (h : 0 < s.size) (hz : ((s[0].toNat : Int) == 126) = true) (ht : s.extract 1 s.size = t) (HN : Hid (∀ w, Calls Tryz.prog 77 #[.string t] w (NPYes w 0 k))) :
    Calls Tryz.prog 64 #[.string s] w (ParseNo w) := by
  have h0 := size1 s h
  unfold maxLen at hs
  have h01 : (1 : Int) ≤ (s.size : Int) := by omega
  go_enter Tryz.func64, Tryz.ntmps64
  go_wp2_with (first
    | (go_at_call 77; refine (HN.out _).mono ?_; rintro e w1 ⟨a1, l1, rfl, ho1, hn1, hl1, hv1, hk1, hg1⟩; obtain ⟨hp1, hq1, hr1⟩ := box_kept w.heap.size hg1 (by first | (simp; done) | (simp; omega) | omega); obtain rfl : l1 = [] := val_zero_nrm hn1 hv1)
    | (go_at_call 70; refine (rtrim_raw a1 _ _ [] _ (by exact ho1.sl)).mono ?_; rintro e w2 ⟨g2, rfl, hr2, hB2, hg2⟩; have htr : (tr ([] : List Nat)).length = 0 := rfl; obtain ⟨hp2, hq2, hrr2⟩ := box_kept w.heap.size hg2 (by first | (simp; done) | (simp; omega) | omega)))
  refine bodyPost_ret (v := .tuple #[.agg #[.bool false, .slice none 0 0], .int .i64 11]) (by simp [results, Tryz.results64, go_sem, hp2, hq2, hrr2, hp1, hq1]) rfl ⟨rfl, ?_⟩
  exact gb_set (gb_set (show w.grownBy w2 none from (by repeat (first | exact gb_refl _ _ | apply gb_drew | apply gb_alloc | (refine gb_then ?_ (by assumption) (by simp))))) _ _ (.inr (Nat.le_refl _))) _ _ (.inr (Nat.le_refl _))

set_option maxHeartbeats 1600000 in
theorem rparse_yes_neg (s t : ByteArray) (z k : Nat) (w : World) (hs : s.size ≤ maxLen) (h : 0 < s.size) (hz : ((s[0].toNat : Int) == 126) = true) (ht : s.extract 1 s.size = t) (hz0 : z ≠ 0) (HN : Hid (∀ w, Calls Tryz.prog 77 #[.string t] w (NPYes w z k))) :
    Calls Tryz.prog 64 #[.string s] w (ParseYes w (-(z : Int)) k) := by
  have h0 := size1 s h
  unfold maxLen at hs
  have h01 : (1 : Int) ≤ (s.size : Int) := by omega
  go_enter Tryz.func64, Tryz.ntmps64
  go_wp2_with (first
    | (go_at_call 77; refine (HN.out _).mono ?_; rintro e w1 ⟨a1, l1, rfl, ho1, hn1, hl1, hv1, hk1, hg1⟩; have HV1 := hid1 hv1; clear hv1; obtain ⟨hp1, hq1, hr1⟩ := box_kept w.heap.size hg1 (by first | (simp; done) | (simp; omega) | omega); have htr : (((tr l1).length : Int) == 0) = false := (by rw [beq_eq_false_iff_ne]; intro e; have e0 : tr l1 = [] := List.length_eq_zero_iff.1 (by omega); have := HV1.out; rw [← val_tr, e0] at this; simp [val] at this; omega))
    | (go_at_call 70; refine (rtrim_raw a1 _ _ l1 _ (by exact ho1.sl)).mono ?_; rintro e w2 ⟨g2, rfl, hr2, hB2, hg2⟩; obtain ⟨hp2, hq2, hrr2⟩ := box_kept w.heap.size hg2 (by first | (simp; done) | (simp; omega) | omega))
    | (go_at_call 50; refine (rnorm_raw true a1 _ _ l1 _ (by exact ho1.sl.grown (by repeat (first | exact gb_refl _ _ | apply gb_drew | apply gb_alloc | (refine gb_then ?_ (by assumption) (by simp)))))).mono ?_; rintro e w5 ⟨s5, a5, l5, rfl, ho5, hn5, hs5, hi5, hk5, hg5⟩; have HI5 := hid1 hi5; clear hi5; obtain ⟨hp5, hq5, hr5⟩ := box_kept w.heap.size hg5 (by first | (simp; done) | (simp; omega) | omega)))
  refine bodyPost_ret (v := .tuple #[.agg #[.bool s5, .slice a5 l5.length l5.length], .int .i64 0]) (by simp [results, Tryz.results64, go_sem, hp5, hr5, hq5, hp2, hq2, hrr2, hp1, hq1]) rfl ?_
  exact parse_end (by repeat (first | exact gb_refl _ _ | apply gb_drew | apply gb_alloc | (refine gb_then ?_ (by assumption) (by simp)))) ho5 (g := w.heap.size) (by first | (simp; done) | (simp; omega) | omega) (Nat.le_refl _) (by first | (simp; done) | (simp; omega) | omega) hn5 hs5 (by rw [HI5.out]; unfold iv; rw [HV1.out]; simp) (by omega) _ _

set_option maxHeartbeats 1600000 in
theorem rparse_yes_pos (s : ByteArray) (z k : Nat) (w : World) (hs : s.size ≤ maxLen) (h : 0 < s.size) (hz : ((s[0].toNat : Int) == 126) = false) (HN : Hid (∀ w, Calls Tryz.prog 77 #[.string s] w (NPYes w z k))) :
    Calls Tryz.prog 64 #[.string s] w (ParseYes w (z : Int) k) := by
  have h0 := size1 s h
  unfold maxLen at hs
  have h01 : (0 : Int) < (s.size : Int) := by omega
  go_enter Tryz.func64, Tryz.ntmps64
  go_wp2_with (first
    | (go_at_call 77; refine (HN.out _).mono ?_; rintro e w1 ⟨a1, l1, rfl, ho1, hn1, hl1, hv1, hk1, hg1⟩; have HV1 := hid1 hv1; clear hv1; obtain ⟨hp1, hq1, hr1⟩ := box_kept w.heap.size hg1 (by first | (simp; done) | (simp; omega) | omega))
    | (go_at_call 50; refine (rnorm_raw false a1 _ _ l1 _ (by exact ho1.sl.grown (by repeat (first | exact gb_refl _ _ | apply gb_drew | apply gb_alloc | (refine gb_then ?_ (by assumption) (by simp)))))).mono ?_; rintro e w5 ⟨s5, a5, l5, rfl, ho5, hn5, hs5, hi5, hk5, hg5⟩; have HI5 := hid1 hi5; clear hi5; obtain ⟨hp5, hq5, hr5⟩ := box_kept w.heap.size hg5 (by first | (simp; done) | (simp; omega) | omega)))
  refine bodyPost_ret (v := .tuple #[.agg #[.bool s5, .slice a5 l5.length l5.length], .int .i64 0]) (by simp [results, Tryz.results64, go_sem, hp5, hr5, hq5, hp1, hq1]) rfl ?_
  exact parse_end (by repeat (first | exact gb_refl _ _ | apply gb_drew | apply gb_alloc | (refine gb_then ?_ (by assumption) (by simp)))) ho5 (g := w.heap.size) (by first | (simp; done) | (simp; omega) | omega) (Nat.le_refl _) (by first | (simp; done) | (simp; omega) | omega) hn5 hs5 (by rw [HI5.out]; unfold iv; rw [HV1.out]; simp) (by omega) _ _
end Go.Proofs.YtcmhfeeocehlaaaGreatDoor
