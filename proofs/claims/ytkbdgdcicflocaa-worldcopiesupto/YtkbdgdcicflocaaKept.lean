/-
  A file that is written and read: the world's states.
-/
import Derived.Test.YtkbdgdcicflocaaNewAll
import Derived.Test.YtkbdgdcicflocaaToldA
namespace Go.Proofs.Ytkbdgdcicflocaa
set_option linter.unusedSimpArgs false
set_option linter.unusedVariables false
open Go.RowKit

/-- a world in which one file was written -/
def kst (fs : List UInt8 → Option (List UInt8)) (nm : ByteArray) (l : List UInt8) (d : De) : St := ⟨fun x => if x = nm.data.toList then some l else fs x, [], 0, upd initDs 3 d, [⟨3, nm, l⟩]⟩

theorem init_free (S : St) (h : ∀ i, i < 3 → S.ds i = initDs i) (h3 : (S.ds 3).kind = 0) : S.free = some 3 :=
  free_some S 3 (by omega) (fun i hi => by
    rw [h i hi]
    rcases (by omega : i = 0 ∨ i = 1 ∨ i = 2) with rfl | rfl | rfl <;> simp [initDs]) h3
theorem kst_at (fs : List UInt8 → Option (List UInt8)) (nm : ByteArray) (l : List UInt8) (d : De) : (kst fs nm l d).at 3 = d := by
  unfold St.at
  rw [if_pos (by omega)]
  exact upd_same initDs 3 _
theorem kst_fs (fs : List UInt8 → Option (List UInt8)) (nm : ByteArray) (l : List UInt8) (d : De) : (kst fs nm l d).fs nm.data.toList = some l := by
  unfold kst
  simp
theorem kst_set (fs : List UInt8 → Option (List UInt8)) (nm : ByteArray) (l : List UInt8) (d d' : De) : (kst fs nm l d).setDe 3 d' = kst fs nm l d' := by
  unfold kst St.setDe
  simp only [St.mk.injEq, true_and, and_true]
  funext i
  unfold upd
  by_cases h : i = 3
  · rw [if_pos h, if_pos h]
  · rw [if_neg h, if_neg h, if_neg h]
theorem kst_free (fs : List UInt8 → Option (List UInt8)) (nm : ByteArray) (l : List UInt8) : (kst fs nm l noDe).free = some 3 :=
  init_free _ (fun i hi => upd_other _ _ (by omega)) (by rw [show (kst fs nm l noDe).ds 3 = noDe from upd_same initDs 3 _]; rfl)

theorem ok_parts {nm : ByteArray} (h : okName nm = true) : ¬ 255 < nm.size ∧ zb nm.data.toList = false ∧ ¬ nm.size = 0 := by
  unfold okName at h
  simp only [Bool.and_eq_true, decide_eq_true_iff, Bool.not_eq_true'] at h
  exact ⟨by omega, h.2, by omega⟩
theorem open_ok (S : St) (nm : ByteArray) (fl : Int) (h : okName nm = true) (hfl : fl = 0 ∨ fl = 577) (hh : fl = 0 → S.has nm = true) (hf : S.free = some 3) : openRes S nm fl = 3 := by
  obtain ⟨a, b, c⟩ := ok_parts h
  unfold openRes
  rw [if_neg a, if_neg (by rw [b]; simp; omega), if_neg (by
    rintro (h | ⟨h1, h2⟩)
    · exact c h
    · rw [hh h1] at h2; cases h2), hf]
  rfl
theorem open_not (S : St) (nm : ByteArray) (fl : Int) (h : okName nm = false) : openRes S nm fl < 0 := by
  unfold openRes
  by_cases a : 255 < nm.size
  · rw [if_pos a]; omega
  rw [if_neg a]
  by_cases b : zb nm.data.toList = true
  · rw [if_pos (.inr b)]; omega
  split
  · omega
  · have c : nm.size = 0 := by
      unfold okName at h
      rw [Bool.not_eq_true] at b
      simp only [b, Bool.not_false, Bool.and_true, Bool.and_eq_false_iff, decide_eq_false_iff_not] at h
      omega
    rw [if_pos (.inl c)]
    omega

theorem k_open (fs : List UInt8 → Option (List UInt8)) (nm : ByteArray) (h : okName nm = true) : openRes (initSt fs ⟨#[]⟩) nm 577 = 3 ∧ openSt (initSt fs ⟨#[]⟩) nm 577 = kst fs nm [] ⟨5, nm, 0⟩ := by
  have hr := open_ok (initSt fs ⟨#[]⟩) nm 577 h (.inr rfl) (fun h => by omega) (init_free _ (fun _ _ => rfl) rfl)
  refine ⟨hr, ?_⟩
  unfold openSt
  rw [hr, if_neg (by omega), if_neg (by omega)]
  rfl
theorem k_not (fs : List UInt8 → Option (List UInt8)) (nm : ByteArray) (h : okName nm = false) : openRes (initSt fs ⟨#[]⟩) nm 577 < 0 ∧ openSt (initSt fs ⟨#[]⟩) nm 577 = initSt fs ⟨#[]⟩ ∧ decide (0 ≤ openRes (initSt fs ⟨#[]⟩) nm 0) = false := by
  have h1 := open_not (initSt fs ⟨#[]⟩) nm 577 h
  have h2 := open_not (initSt fs ⟨#[]⟩) nm 0 h
  exact ⟨h1, by unfold openSt; rw [if_pos h1], by rw [decide_eq_false_iff_not]; omega⟩
theorem layB_end (l t : List UInt8) : layB l l.length t = l ++ t := by
  unfold layB
  split
  · next h => rw [h, List.append_nil]
  · simp
theorem k_write (fs : List UInt8 → Option (List UInt8)) (nm : ByteArray) (l : List UInt8) (s : ByteArray) : writeRes (kst fs nm l ⟨5, nm, l.length⟩) 3 s = s.size ∧ (kst fs nm l ⟨5, nm, l.length⟩).write 3 s = kst fs nm (l ++ s.data.toList) ⟨5, nm, (l ++ s.data.toList).length⟩ := by
  have hs : s.data.toList.length = s.size := by simp
  refine ⟨by unfold writeRes; rw [kst_at, if_pos (.inr (.inr rfl))], ?_⟩
  unfold St.write
  rw [kst_at, if_neg (by simp), if_neg (by simp), if_pos rfl]
  have e1 : (kst fs nm l ⟨5, nm, l.length⟩).layF nm l.length s.data.toList = ⟨fun x => if x = nm.data.toList then some (l ++ s.data.toList) else fs x, [], 0, upd initDs 3 ⟨5, nm, l.length⟩, [⟨3, nm, l⟩]⟩ := by
    unfold St.layF St.put
    rw [kst_fs, Option.getD_some, layB_end]
    unfold kst
    simp only [St.mk.injEq, and_true]
    funext x
    by_cases h : x = nm.data.toList
    · rw [if_pos h, if_pos h]
    · rw [if_neg h, if_neg h, if_neg h]
  simp only []
  rw [e1]
  have e2 : upd (upd initDs 3 ⟨5, nm, l.length⟩) 3 ⟨5, nm, l.length + s.size⟩ = upd initDs 3 ⟨5, nm, (l ++ s.data.toList).length⟩ := by
    funext i
    unfold upd
    rw [List.length_append, hs]
    by_cases h : i = 3
    · rw [if_pos h, if_pos h]
    · rw [if_neg h, if_neg h, if_neg h]
  unfold St.setDe St.say
  simp only [show Int.toNat 3 = 3 from rfl, e2]
  by_cases h : s.data.toList = []
  · rw [if_pos h, h, List.append_nil]; rfl
  · rw [if_neg h]
    simp [St.addTx, kst]
theorem k_close (fs : List UInt8 → Option (List UInt8)) (nm : ByteArray) (l : List UInt8) (d : De) (h : ¬ d.kind = 0) : closeRes (kst fs nm l d) 3 = 0 ∧ (kst fs nm l d).close 3 = kst fs nm l noDe := by
  unfold closeRes St.close
  rw [kst_at, if_neg h, if_neg h]
  exact ⟨rfl, kst_set _ _ _ _ _⟩
theorem k_openR (fs : List UInt8 → Option (List UInt8)) (nm : ByteArray) (l : List UInt8) (h : okName nm = true) : openRes (kst fs nm l noDe) nm 0 = 3 ∧ openSt (kst fs nm l noDe) nm 0 = kst fs nm l ⟨4, nm, 0⟩ := by
  have hr := open_ok (kst fs nm l noDe) nm 0 h (.inl rfl) (fun _ => by unfold St.has; rw [kst_fs]; rfl) (kst_free _ _ _)
  refine ⟨hr, ?_⟩
  unfold openSt
  rw [hr, if_neg (by omega), if_pos rfl]
  exact kst_set _ _ _ _ _
theorem k_rfile (fs : List UInt8 → Option (List UInt8)) (nm : ByteArray) (l : List UInt8) (h : okName nm = true) : rfTx (kst fs nm l noDe) nm = l ∧ decide (0 ≤ openRes (kst fs nm l noDe) nm 0) = true ∧ (kst fs nm l noDe).rfile nm = kst fs nm l noDe := by
  obtain ⟨h1, h2⟩ := k_openR fs nm l h
  unfold rfTx St.rfile
  rw [h1, if_neg (by omega), if_neg (by omega), kst_fs, h2]
  exact ⟨rfl, rfl, (k_close _ _ _ _ (by simp)).2⟩
theorem k_read (fs : List UInt8 → Option (List UInt8)) (nm : ByteArray) (l : List UInt8) (pl n : Nat) : readTx (kst fs nm l ⟨4, nm, pl⟩) 3 n = nx l pl n ∧ readRes (kst fs nm l ⟨4, nm, pl⟩) 3 n = (nx l pl n).length ∧ (kst fs nm l ⟨4, nm, pl⟩).sread 3 n = kst fs nm l ⟨4, nm, pl + (nx l pl n).length⟩ := by
  have h1 : readTx (kst fs nm l ⟨4, nm, pl⟩) 3 n = nx l pl n := by
    unfold readTx
    rw [kst_at, if_neg (by simp), if_pos rfl, kst_fs]
    rfl
  refine ⟨h1, ?_, ?_⟩
  · unfold readRes
    rw [kst_at, if_pos (.inr rfl), h1]
  · unfold St.sread
    rw [kst_at, if_neg (by simp), if_pos rfl, h1]
    exact kst_set _ _ _ _ _
theorem nx_take (l : List UInt8) (pl n : Nat) (h : pl ≤ l.length) : l.take pl ++ nx l pl n = l.take (pl + (nx l pl n).length) ∧ pl + (nx l pl n).length ≤ l.length ∧ (nx l pl n).length ≤ n := by
  have hlen : (nx l pl n).length = min n (l.length - pl) := by simp [nx]
  refine ⟨?_, by omega, by omega⟩
  rw [hlen, List.take_add]
  congr 1
  unfold nx
  rw [List.take_eq_take_iff]
  simp
theorem nx_all (l : List UInt8) (pl n : Nat) (h : pl ≤ l.length) (hn : l.length ≤ n) : l.take pl ++ nx l pl n = l := by
  rw [(nx_take l pl n h).1]
  apply List.take_of_length_le
  have hlen : (nx l pl n).length = min n (l.length - pl) := by simp [nx]
  omega
theorem k_told (nm : ByteArray) (l : List UInt8) : tell [⟨3, nm, l⟩] 3 = l := by
  unfold tell
  simp
theorem wf_kst (fs : List UInt8 → Option (List UInt8)) (nm : ByteArray) (l : List UInt8) (pl : Nat) : WF (kst fs nm l ⟨5, nm, pl⟩) := fun i hi hk => by
  by_cases h : i = 3
  · subst h
    rw [show (kst fs nm l ⟨5, nm, pl⟩).ds 3 = ⟨5, nm, pl⟩ from upd_same initDs 3 _, kst_fs]
    rfl
  · rw [show (kst fs nm l ⟨5, nm, pl⟩).ds i = initDs i from upd_other initDs _ h] at hk
    exact absurd hk (by
      unfold initDs
      split
      · simp
      · split
        · simp
        · split
          · simp
          · simp [noDe])
theorem own_read {w u : World} {p N : Nat} {S : St} (h : Own w u p N S) (fd : Int) (n : Nat) (h0 : -9223372036854775808 ≤ fd) (h1 : fd ≤ 9223372036854775807) (hN : N + N ≤ 1099511627776) (hn : n ≤ 18446744073709551615) :
    Calls Try.prog 24 #[.pointer (some ⟨p, 0, none⟩), .int .i64 fd, .int .u64 (n : Int)] u fun e u' => e = .returned (.tuple #[.string (str (readTx S fd n)), .int .i64 (readRes S fd n)]) ∧ Own w u' p N (S.sread fd n) := by
  obtain ⟨L, hp, t, hl⟩ := h
  exact (read_raw p L N S fd n u hp h0 h1 hN hn).mono (fun e u' ⟨h1, h2⟩ => ⟨h1, Own.lft t hl h2⟩)
end Go.Proofs.Ytkbdgdcicflocaa
