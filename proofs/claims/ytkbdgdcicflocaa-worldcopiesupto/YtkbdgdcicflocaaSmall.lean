/-
  The small functions of the program: has a name a byte 0, may it be.
-/
import Derived.Test.YtkbdgdcicflocaaState
import Derived.Lib.Walk
namespace Go.Proofs.Ytkbdgdcicflocaa
set_option linter.unusedSimpArgs false
set_option linter.unusedVariables false
open Go.RowKit
attribute [local go_sem ↓] Go.wp_at_zero Go.wp_at_succ

theorem indexByte_mem (c : UInt8) : ∀ l : List UInt8, (0 ≤ Lib.indexByte l c) ↔ c ∈ l
  | [] => by simp [Lib.indexByte]
  | b :: l => by
    have ih := indexByte_mem c l
    have hg := Lib.indexByte_ge l c
    unfold Lib.indexByte
    by_cases hb : (b == c) = true
    · have : b = c := by simpa using hb
      simp [hb, this]
    · have hb' : (b == c) = false := by simpa using hb
      have hne : ¬ c = b := fun e => hb (by simp [e])
      simp only [hb', Bool.false_eq_true, if_false, List.mem_cons, hne, false_or]
      by_cases h1 : (Lib.indexByte l c == -1) = true
      · have : Lib.indexByte l c = -1 := by simpa using h1
        rw [← ih, this]
        simp
      · have : ¬ Lib.indexByte l c = -1 := by simpa using h1
        simp only [h1, Bool.false_eq_true, if_false]
        rw [← ih]
        omega

/-- has it a byte 0? -/
def zb (l : List UInt8) : Bool := l.contains 0
theorem zb_eq (l : List UInt8) : decide (0 ≤ Lib.indexByte l 0) = zb l := by
  rw [Bool.eq_iff_iff, decide_eq_true_iff, indexByte_mem]
  simp [zb]

set_option maxHeartbeats 1000000 in
set_option maxRecDepth 100000 in
theorem sIndexByte (s : ByteArray) (c : Int) (w : World) :
    Calls Try.prog 63 #[.string s, .int .u8 c] w fun e w' => e = .returned (.int .i64 (Lib.indexByte s.data.toList c.toNat.toUInt8)) ∧ w' = w := by
  go_enter Try.func63, Try.ntmps63
  go_wp2
  rw [run_callFunc_extern Try.func72 (by kernel_rfl) (by kernel_rfl) (by kernel_rfl) (e := Extern.BytealgIndexByte.indexByte) (by kernel_rfl), Lib.run_indexByteString]
  simp only [Result.andThen]
  rw [Oper.upon_value]
  go_wp2
  go_ret
  exact ⟨rfl, rfl⟩

set_option maxHeartbeats 1000000 in
theorem nought_raw (s : ByteArray) (w : World) : Calls Try.prog 53 #[.string s] w fun e w' => e = .returned (.bool (zb s.data.toList)) ∧ w' = w := by
  have hz := zb_eq s.data.toList
  go_enter Try.func53, Try.ntmps53
  go_wp2_with (go_at_call 63; refine (sIndexByte _ _ _).mono ?_; rintro e w' ⟨rfl, rfl⟩)
  go_ret
  exact ⟨rfl, rfl⟩

/-- may a name be? -/
def okName (s : ByteArray) : Bool := decide (1 ≤ s.size) && decide (s.size ≤ 255) && !zb s.data.toList

theorem toList_nil (s : ByteArray) : s.toList = [] ↔ s.size = 0 := by
  rw [ByteArray.toList_eq, List.eq_nil_iff_length_eq_zero, Array.length_toList]
  rfl
theorem toList_isEmpty (s : ByteArray) : s.toList.isEmpty = decide (s.size = 0) := by
  rw [Bool.eq_iff_iff, List.isEmpty_iff, decide_eq_true_iff, toList_nil]

set_option maxHeartbeats 1000000 in
theorem maybe_raw (s : ByteArray) (w : World) (hs : s.size ≤ maxLen) : Calls Try.prog 26 #[.string s] w fun e w' => e = .returned (.bool (okName s)) ∧ w' = w := by
  unfold maxLen at hs
  go_enter Try.func26, Try.ntmps26
  go_wp2_with (go_at_call 53; refine (nought_raw _ _).mono ?_; rintro e w' ⟨rfl, rfl⟩)
  · have h := (toList_nil s).1 (by assumption)
    go_ret
    exact ⟨ret_bool (by simp [okName, h]), rfl⟩
  · have h : ¬ s.toList = [] := by assumption
    have h2 : (s.size : Int) ≤ 255 := by assumption
    rw [toList_nil] at h
    go_ret
    refine ⟨ret_bool ?_, rfl⟩
    have h3 : decide (1 ≤ s.size) = true := by simp; omega
    have h4 : decide (s.size ≤ 255) = true := by simp; omega
    rw [toList_isEmpty]
    simp [okName, h, h3, h4]
  · have h2 : 255 < (s.size : Int) := by assumption
    go_ret
    refine ⟨ret_bool ?_, rfl⟩
    have h4 : decide (s.size ≤ 255) = false := by simp; omega
    simp [okName, h4]

/-! ### next, take -/

/-- the bytes from a place on, n at most -/
def nx (l : List UInt8) (pl n : Nat) : List UInt8 := (l.drop pl).take n
def str (l : List UInt8) : ByteArray := ⟨l.toArray⟩
theorem str_size (l : List UInt8) : (str l).size = l.length := by simp [str, ByteArray.size]
theorem str_data (l : List UInt8) : (str l).data.toList = l := by simp [str]

theorem br_window {w : World} {g cap : Nat} {l : List UInt8} (h : BR w (.slice (some ⟨g, 0, none⟩) l.length cap) l) (pl n c : Nat) (hn : pl + n ≤ l.length) :
    (convert 64 9 (.slice (some ⟨g, pl, none⟩) n c)).run Try.prog w = .ok (.string (str (nx l pl n))) w := by
  have hl : (nx l pl n).length = n := by simp [nx]; omega
  have := run_convert_bytes_back (P := Try.prog) w 64 9 5 ⟨g, pl, none⟩ c (nx l pl n) Try.underlying64 Try.underlying5 Try.underlying9 (fun j hj => by
    have e : (⟨g, pl, none⟩ : Addr).add j = ⟨g, pl + j, none⟩ := by simp [Addr.add]
    rw [e]
    have := h.at' (pl + j) (by omega)
    have e2 : (nx l pl n)[j] = l[pl + j]'(by omega) := by simp [nx]
    rw [e2]
    exact this)
  rw [hl] at this
  exact this

set_option maxHeartbeats 1000000 in
set_option maxRecDepth 100000 in
theorem next_raw (v : Value) (l : List UInt8) (pl : Nat) (n : Int) (w : World) (h : BR w v l) (hp : pl ≤ 9223372036854775807) (h0 : 0 ≤ n) (h1 : n ≤ 18446744073709551615) :
    Calls Try.prog 56 #[v, .int .i64 (pl : Int), .int .u64 n] w fun e w' => e = .returned (.string (str (nx l pl n.toNat))) ∧ w' = w := by
  obtain ⟨a, cap, rfl, hlc, hcm, hnil, hsome⟩ := h.rw.form
  by_cases hpl : l.length ≤ pl
  · go_enter Try.func56, Try.ntmps56
    go_wp2
    go_ret
    have : nx l pl n.toNat = [] := by simp [nx, List.drop_of_length_le hpl]
    rw [this]
    exact ⟨rfl, rfl⟩
  · cases a with
    | none => have := (hnil rfl).1; omega
    | some x =>
      obtain ⟨hx, hxl⟩ := hsome x rfl
      obtain ⟨g, o, sp⟩ := x
      cases hx
      obtain ⟨r, hr⟩ : ∃ r, l.length = pl + r := ⟨l.length - pl, by omega⟩
      obtain ⟨q, rfl⟩ : ∃ q, cap = pl + q := ⟨cap - pl, by omega⟩
      have hw := fun m c hm => br_window h pl m c hm
      rw [hr] at hw hlc hpl ⊢
      have hc1 : ¬ ((pl : Int) + (r : Int) ≤ (pl : Int)) := by omega
      clear h hnil hsome
      have hcv := hw (min n (r : Int)).toNat q (by omega)
      have HE : Hid (nx l pl (min n (r : Int)).toNat = nx l pl n.toNat) := by
        show (l.drop pl).take _ = (l.drop pl).take _
        by_cases hn : n ≤ (r : Int)
        · rw [Int.min_eq_left hn]
        · rw [Int.min_eq_right (by omega), List.take_of_length_le (by simp; omega), List.take_of_length_le (by simp; omega)]
      clear h1 hw
      go_enter Try.func56, Try.ntmps56
      go_wp2
      go_ret
      exact ⟨by rw [HE.out]; rfl, rfl⟩

/-! ### take -/

def St.read (S : St) (n : Nat) : St := { S with rd := S.rd + n }

set_option maxHeartbeats 1000000 in
set_option maxRecDepth 100000 in
theorem take_raw (p : Nat) (L : Nat → Option Lab) (N : Nat) (S : St) (n : Int) (w : World) (h : PW w p L N S) (h0 : 0 ≤ n) (h1 : n ≤ 18446744073709551615) :
    Calls Try.prog 55 #[.pointer (some ⟨p, 0, none⟩), .int .u64 n] w fun e w' => e = .returned (.string (str (nx S.inp S.rd n.toNat))) ∧ Lft w p L w' N (S.read (nx S.inp S.rd n.toNat).length) := by
  obtain ⟨c, mo, iv, tv, vs, h⟩ := h
  have k1 := h.sc.cell 1 (by omega)
  have k2 := h.sc.cell 2 (by omega)
  rw [h.c1] at k1
  rw [h.c2] at k2
  have f2 := h.sc.froz 2
  obtain ⟨a, cap, e, hlc, hcm, hnil, hsome⟩ := h.inp.rw.form
  have hrd := h.rd
  go_enter Try.func55, Try.ntmps55
  have hlen : (nx S.inp S.rd n.toNat).length ≤ S.inp.length - S.rd := by simp [nx]; omega
  have hcap : S.inp.length ≤ 9223372036854775807 := by omega
  have hsz := str_size (nx S.inp S.rd n.toNat)
  have INP := h.inp
  have HX := hid h
  have H0 := hid h0
  have H1 := hid h1
  clear h h0 h1 e hnil hsome hlc hcm
  go_wp2_with fail
  go_region_held3 (fun w' => w'.cell? ⟨p, 1, none⟩ = some iv ∧ w'.cell? ⟨p, 2, none⟩ = some (.int .i64 (S.rd : Int))) (go_keep) (first
    | (go_at_call 56; refine (next_raw iv S.inp S.rd n _ (by exact INP.no (by repeat (first | exact Tn.refl _ _ | apply Tn.drew | apply Tn.drewN | apply Tn.alloc | (refine Tn.then ?_ (by assumption)) | (refine Tn.thenNo ?_ (by assumption))))) (by omega) H0.out H1.out).mono ?_; rintro e w1 ⟨rfl, rfl⟩))
  go_wp2
  go_ret
  refine ⟨rfl, L, ⟨_, _, _, _, _, (HX.out.setRd (S.rd + (nx S.inp S.rd n.toNat).length) (by omega)).no (by repeat (first | exact Tn.refl _ _ | apply Tn.drew | apply Tn.drewN | apply Tn.alloc | (refine Tn.then ?_ (by assumption)) | (refine Tn.thenNo ?_ (by assumption))))⟩, ?_, fun _ _ e => e⟩
  exact ((Tn.refl _ _).own HX.out.labs 2 _).drew
end Go.Proofs.Ytkbdgdcicflocaa
