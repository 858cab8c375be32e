/-
  Line: the input's next line. has, put, at, lowestFree.
-/
import Derived.Test.YtkbdgdcicflocaaSmall
import Derived.Deep.LoopGhost
namespace Go.Proofs.Ytkbdgdcicflocaa
set_option linter.unusedSimpArgs false
set_option linter.unusedVariables false
open Go.RowKit
attribute [local go_sem ↓] Go.wp_at_zero Go.wp_at_succ

def lineLen (l : List UInt8) : Nat := if 0 ≤ Lib.indexByte l 10 then (Lib.indexByte l 10).toNat + 1 else l.length

theorem indexByte_lt (c : UInt8) : ∀ l : List UInt8, Lib.indexByte l c < l.length ∨ (l = [] ∧ Lib.indexByte l c = -1)
  | [] => .inr ⟨rfl, rfl⟩
  | b :: l => by
    left
    have ih := indexByte_lt c l
    unfold Lib.indexByte
    rw [List.length_cons]
    split
    · omega
    · split
      · omega
      · rcases ih with h | ⟨rfl, h⟩
        · omega
        · rename_i h1; simp [Lib.indexByte] at h1
theorem lineLen_le (l : List UInt8) : lineLen l ≤ l.length := by
  unfold lineLen
  split
  · rcases indexByte_lt 10 l with h | ⟨rfl, h⟩
    · omega
    · simp [Lib.indexByte] at *
  · exact Nat.le_refl _

set_option maxHeartbeats 1000000 in
set_option maxRecDepth 100000 in
theorem bIndexByte (g o n c : Nat) (l : List UInt8) (cv : Int) (w : World) (hn : l.length = n) (hc : ∀ j (hj : j < l.length), w.cell? ⟨g, o + j, none⟩ = some (.int .u8 (l[j].toNat : Int))) :
    Calls Try.prog 57 #[.slice (some ⟨g, o, none⟩) n c, .int .u8 cv] w fun e w' => e = .returned (.int .i64 (Lib.indexByte l cv.toNat.toUInt8)) ∧ w' = w := by
  have hb : Lib.bytesOf (l.map fun b => (b.toNat : Int)) = l := by
    simp only [Lib.bytesOf, List.map_map]
    conv => rhs; rw [← List.map_id l]
    apply List.map_congr_left
    intro x _
    simp
  have hr := fun w' (hw : w' = w) => Lib.run_indexByteSlice (P := Try.prog) w g o n c (l.map fun b => (b.toNat : Int)) (by simpa using hn) (fun i hi => by
    rw [hc i (by omega)]
    simp [List.getD_eq_getElem?_getD, List.getElem?_eq_getElem (show i < l.length by omega)]) cv
  have hr' := hr w rfl
  rw [hb] at hr'
  clear hr hb hc
  go_enter Try.func57, Try.ntmps57
  go_wp2
  rw [run_callFunc_extern Try.func64 (by kernel_rfl) (by kernel_rfl) (by kernel_rfl) (e := Extern.BytealgIndexByte.indexByte) (by kernel_rfl), hr']
  simp only [Result.andThen]
  rw [Oper.upon_value]
  go_wp2
  go_ret
  exact ⟨rfl, rfl⟩

set_option maxHeartbeats 1000000 in
set_option maxRecDepth 100000 in
theorem bIndexByte_nil (cv : Int) (w : World) :
    Calls Try.prog 57 #[.slice none 0 0, .int .u8 cv] w fun e w' => e = .returned (.int .i64 (-1)) ∧ w' = w := by
  go_enter Try.func57, Try.ntmps57
  go_wp2
  rw [run_callFunc_extern Try.func64 (by kernel_rfl) (by kernel_rfl) (by kernel_rfl) (e := Extern.BytealgIndexByte.indexByte) (by kernel_rfl), Lib.run_indexByteNil w 0 0 cv]
  simp only [Result.andThen]
  rw [Oper.upon_value]
  go_wp2
  go_ret
  exact ⟨rfl, rfl⟩

/-- what Line leaves -/
def LinePost (w : World) (p : Nat) (L : Nat → Option Lab) (N : Nat) (S : St) (e : Ending) (w' : World) : Prop :=
  e = .returned (.string (str (nx S.inp S.rd (lineLen (S.inp.drop S.rd))))) ∧ Lft w p L w' N (S.read (lineLen (S.inp.drop S.rd)))

set_option maxHeartbeats 1000000 in
set_option maxRecDepth 100000 in
theorem line_raw (p : Nat) (L : Nat → Option Lab) (N : Nat) (S : St) (w : World) (h : PW w p L N S) :
    Calls Try.prog 25 #[.pointer (some ⟨p, 0, none⟩)] w (LinePost w p L N S) := by
  have HP := hid h
  obtain ⟨c, mo, iv, tv, vs, h⟩ := h
  have k1 := h.sc.cell 1 (by omega)
  have k2 := h.sc.cell 2 (by omega)
  rw [h.c1] at k1
  rw [h.c2] at k2
  have hrd := h.rd
  obtain ⟨a, cap, e, hlc, hcm, hnil, hsome⟩ := h.inp.rw.form
  subst e
  have hle := lineLen_le (S.inp.drop S.rd)
  have hdl : (S.inp.drop S.rd).length = S.inp.length - S.rd := by simp
  have hnx : (nx S.inp S.rd (lineLen (S.inp.drop S.rd))).length = lineLen (S.inp.drop S.rd) := by simp [nx]; omega
  obtain ⟨m, hm⟩ : ∃ m, lineLen (S.inp.drop S.rd) = m := ⟨_, rfl⟩
  have HM := hid hm
  rw [hm] at hle hnx
  have htk : ∀ w', Tn No w w' → Calls Try.prog 55 #[.pointer (some ⟨p, 0, none⟩), .int .u64 (m : Int)] w' fun e w'' => e = .returned (.string (str (nx S.inp S.rd m))) ∧ Lft w p L w'' N (S.read m) := by
    intro w' t
    have := take_raw p L N S (m : Int) w' (HP.out.no t) (by omega) (by omega)
    rw [Int.toNat_natCast, hnx] at this
    exact this.mono (fun e w'' ⟨h1, h2⟩ => ⟨h1, h2.trans t.any (fun _ _ e => e)⟩)
  have HTK := hid htk
  have hend : ∀ e w', (e = .returned (.string (str (nx S.inp S.rd m))) ∧ Lft w p L w' N (S.read m)) → LinePost w p L N S e w' := fun e w' h => by
    unfold LinePost; rw [hm]; exact h
  have HE := hid hend
  clear htk hend hm
  cases a with
  | none =>
    obtain ⟨h0, rfl⟩ := hnil rfl
    have hin : S.inp = [] := List.length_eq_zero_iff.1 h0
    have hr0 : S.rd = 0 := by omega
    have hm0 : m = 0 := by omega
    subst hm0
    rw [hin, List.length_nil] at k1
    rw [hr0] at k2
    have HX := hid h
    clear hin h0 hr0 hrd hle hnx hlc hcm hnil hsome hdl h
    go_enter Try.func25, Try.ntmps25
    go_wp2_with fail
    go_region_held3 (fun w' => w'.cell? ⟨p, 1, none⟩ = some (.slice none 0 0) ∧ w'.cell? ⟨p, 2, none⟩ = some (.int .i64 ((0 : Nat) : Int))) (go_keep) (fail)
    all_goals go_wp2_with (first
      | (go_at_call 57; refine (bIndexByte_nil _ _).mono ?_; rintro e w1 ⟨rfl, rfl⟩)
      | (go_at_call 55; refine (HTK.out _ (by repeat (first | exact Tn.refl _ _ | apply Tn.drew | apply Tn.drewN | apply Tn.alloc | (refine Tn.then ?_ (by assumption)) | (refine Tn.thenNo ?_ (by assumption))))).mono ?_; rintro e w1 ⟨rfl, hl1⟩))
    all_goals (go_ret; exact HE.out _ _ ⟨rfl, hl1⟩)
  | some x =>
    obtain ⟨hx, hxl⟩ := hsome x rfl
    obtain ⟨g, o, sp⟩ := x
    cases hx
    obtain ⟨r, hr⟩ : ∃ r, S.inp.length = S.rd + r := ⟨S.inp.length - S.rd, by omega⟩
    obtain ⟨q, rfl⟩ : ∃ q, cap = S.rd + q := ⟨cap - S.rd, by omega⟩
    have hdr : (S.inp.drop S.rd).length = r := by omega
    obtain ⟨i, hi⟩ : ∃ i, Lib.indexByte (S.inp.drop S.rd) 10 = i := ⟨_, rfl⟩
    have hix : ∀ w', Tn No w w' → Calls Try.prog 57 #[.slice (if q = 0 then some ⟨g, 0, none⟩ else some ⟨g, S.rd, none⟩) r q, .int .u8 10] w' fun e w'' => e = .returned (.int .i64 i) ∧ w'' = w' := by
      intro w' t
      rw [← hi]
      by_cases hq : q = 0
      · rw [if_pos hq]
        refine bIndexByte g 0 _ _ (S.inp.drop S.rd) 10 w' hdr (fun j hj => ?_)
        omega
      rw [if_neg hq]
      refine bIndexByte g S.rd _ _ (S.inp.drop S.rd) 10 w' hdr (fun j hj => ?_)
      have := (h.inp.no t).at' (S.rd + j) (by omega)
      rw [List.getElem_drop]
      exact this
    have HIX := hid hix
    have hmi : m = if 0 ≤ i then i.toNat + 1 else r := by rw [← HM.out, lineLen, hi, hdr]
    have hii : i < (r : Int) ∨ i = -1 := by
      rcases indexByte_lt 10 (S.inp.drop S.rd) with h | h
      · left; omega
      · right; rw [← hi]; exact h.2
    have hig := Lib.indexByte_ge (S.inp.drop S.rd) 10
    rw [hi] at hig
    rw [hr] at k1 hlc
    have hb1 : (0 : Int) ≤ (S.rd : Int) := by omega
    have hb2 : (S.rd : Int) ≤ (S.rd : Int) + (r : Int) := by omega
    have hb3 : (S.rd : Int) + (r : Int) ≤ (S.rd : Int) + (q : Int) := by omega
    have hb4 : (S.rd : Int) ≤ (S.rd : Int) + (q : Int) := by omega
    have HX := hid h
    clear hix hdr hr hrd hle hnx hnil hsome hdl h hi HM
    by_cases h0 : 0 ≤ i
    · rw [if_pos h0] at hmi
      subst hmi
      obtain ⟨n, rfl⟩ : ∃ n : Nat, i = (n : Int) := ⟨i.toNat, by omega⟩
      rw [Int.toNat_natCast] at HTK HE
      have ec : ((n + 1 : Nat) : Int) = (n : Int) + 1 := by omega
      have hq : ¬ q = 0 := by omega
      rw [if_neg hq] at HIX
      rw [ec] at HTK
      go_enter Try.func25, Try.ntmps25
      go_wp2_with fail
      go_region_held3 (fun w' => w'.cell? ⟨p, 1, none⟩ = some (.slice (some ⟨g, 0, none⟩) (S.rd + r) (S.rd + q)) ∧ w'.cell? ⟨p, 2, none⟩ = some (.int .i64 (S.rd : Int))) (go_keep) (fail)
      all_goals go_wp2_with (first
        | (go_at_call 57; refine (HIX.out _ (by repeat (first | exact Tn.refl _ _ | apply Tn.drew | apply Tn.drewN | apply Tn.alloc | (refine Tn.then ?_ (by assumption)) | (refine Tn.thenNo ?_ (by assumption))))).mono ?_; rintro e w1 ⟨rfl, rfl⟩)
        | (go_at_call 55; refine (HTK.out _ (by repeat (first | exact Tn.refl _ _ | apply Tn.drew | apply Tn.drewN | apply Tn.alloc | (refine Tn.then ?_ (by assumption)) | (refine Tn.thenNo ?_ (by assumption))))).mono ?_; rintro e w1 ⟨rfl, hl1⟩))
      all_goals (go_ret; exact HE.out _ _ ⟨rfl, hl1⟩)
    · rw [if_neg h0] at hmi
      obtain rfl := hmi.symm
      go_enter Try.func25, Try.ntmps25
      go_wp2_with fail
      go_region_held3 (fun w' => w'.cell? ⟨p, 1, none⟩ = some (.slice (some ⟨g, 0, none⟩) (S.rd + r) (S.rd + q)) ∧ w'.cell? ⟨p, 2, none⟩ = some (.int .i64 (S.rd : Int))) (go_keep) (fail)
      all_goals go_wp2_with (first
        | (go_at_call 57; refine (HIX.out _ (by repeat (first | exact Tn.refl _ _ | apply Tn.drew | apply Tn.drewN | apply Tn.alloc | (refine Tn.then ?_ (by assumption)) | (refine Tn.thenNo ?_ (by assumption))))).mono ?_; rintro e w1 ⟨rfl, rfl⟩)
        | (go_at_call 55; refine (HTK.out _ (by repeat (first | exact Tn.refl _ _ | apply Tn.drew | apply Tn.drewN | apply Tn.alloc | (refine Tn.then ?_ (by assumption)) | (refine Tn.thenNo ?_ (by assumption))))).mono ?_; rintro e w1 ⟨rfl, hl1⟩))
      all_goals (go_ret; exact HE.out _ _ ⟨rfl, hl1⟩)
end Go.Proofs.Ytkbdgdcicflocaa
