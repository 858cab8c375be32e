/-
  Tokens, walked.
-/
import Derived.Test.YtcmhfeeocehlaaaGreatDoorTokens
namespace Go.Proofs.YtcmhfeeocehlaaaGreatDoor
set_option linter.unusedSimpArgs false
set_option linter.unusedVariables false
open Go.RowKit Go.PlainAid
attribute [local go_sem ↓] Go.wp_at_zero Go.wp_at_succ

/-- the reals of a text have bits -/
def RBs (rb : ByteArray → Int) (s : ByteArray) : Prop := ∀ a, a < s.size → isL (bt s a) = false → isNum s a = true → ¬ numE s a = whole s a → ¬ 100 < numE s a - a → RBW (s.extract a (numE s a)) (rb (s.extract a (numE s a)))
/-- what Tokens answers -/
def TPost (w : World) (o : Ls) (e : Ending) (w' : World) : Prop := Tn No w w' ∧ match o with
  | .bad c p => e = .returned (.tuple #[.slice none 0 0, msV c (p : Int)])
  | .ok ts => ∃ a c, e = .returned (.tuple #[.slice a ts.length c, msV 0 0]) ∧ TL w' w.heap.size (.slice a ts.length c) ts ∧ ∀ g, (Value.slice a ts.length c).ownBlock = some g → w.heap.size ≤ g
theorem TL.form {w : World} {B : Nat} {v : Value} {ts : List Tk} (h : TL w B v ts) : ∃ a c, v = .slice a ts.length c := by
  obtain ⟨a, c, e, _⟩ := h.rw.form
  exact ⟨a, c, e⟩
theorem word_code {rb : ByteArray → Int} {s : ByteArray} {a : Nat} {c : Int} {p : Nat} (h : wordW rb s a = .bad c p) : ¬ c = 0 := by
  have hl : ∀ {k a e m c p}, limd k s a e m = .bad c p → ¬ c = 0 := fun {k a e m c p} h => by
    unfold limd at h
    split at h
    · cases h; decide
    · cases h
  unfold wordW at h
  split at h
  · rw [nameW_eq] at h
    split at h
    · cases h
    · cases hm : nm s (run isN s a) with
      | inl q => rw [hm] at h; cases h; decide
      | inr e' => rw [hm] at h; exact hl h
  · split at h
    · unfold numW at h
      split at h
      · split at h
        · cases h; decide
        · cases h
      · split at h
        · cases h; decide
        · cases h
    · split at h
      · unfold textW at h
        split at h
        · rename_i hq; cases h
          rcases qu_bad hq with e | e <;> omega
        · cases h
      · split at h
        · unfold charW at h
          split at h
          · rename_i hq; cases h
            rcases qu_bad hq with e | e <;> omega
          · split at h
            · cases h
            · cases h; decide
        · split at h
          · unfold tyvW at h
            split at h
            · exact hl h
            · cases h; decide
          · split at h
            · cases h
            · split at h
              · unfold symW at h
                split at h
                · cases h
                · exact hl h
              · cases h; decide

set_option maxHeartbeats 4000000 in
set_option maxRecDepth 100000 in
theorem tokens_raw (rb : ByteArray → Int) (s : ByteArray) (w : World) (hm : s.size ≤ 9223372036854775807) (hrb : RBs rb s) :
    Calls Tryz.prog 8 #[.string s] w (TPost w (lexW rb s)) := by
  by_cases hlong : 65536 < s.size
  · rw [lexW_long rb s hlong]
    clear hrb
    go_enter Tryz.func8, Tryz.ntmps8
    go_wp2_with fail
    refine bodyPost_ret (v := .tuple #[.slice none 0 0, msV 2 0]) (by simp [results, Tryz.results8, go_sem, msV]) rfl ?_
    exact ⟨(by repeat (first | exact Tn.refl _ _ | apply Tn.drew | apply Tn.drewN | apply Tn.alloc | (refine Tn.then ?_ (by assumption)) | (refine Tn.thenNo ?_ (by assumption)))), rfl⟩
  have hs : s.size ≤ 65536 := by omega
  rw [lexW_al rb s hlong]
  obtain ⟨R, hR⟩ : ∃ R, al rb s 0 [] = R := ⟨_, rfl⟩
  rw [hR]
  have HR := hid hR
  have HRB := hid hrb
  clear hR hrb hlong
  go_enter Tryz.func8, Tryz.ntmps8
  go_wp2_with fail
  go_loopw [4, 5] (fun v i wr => ∃ (k : Nat) (ts : List Tk), k ≤ s.size ∧ i = .int .i64 (k : Int) ∧ TL wr (w.heap.size + 1) v ts ∧ ts.length ≤ k ∧ (∀ g, v.ownBlock = some g → w.heap.size + 1 ≤ g) ∧ Tn No (w.alloc (.cells #[.int .i64 0, .int .i64 0] 26)) wr ∧ Hid (al rb s k ts = R)) (fun _ i _ => s.size + 1 - (intOf i).toNat)
  case atStart => exact ⟨0, [], by omega, rfl, TL.nil _ _, by simp, fun g hg => (by cases hg), Tn.refl _ _, HR⟩
  case round =>
    obtain ⟨k, ts, hk, rfl, htl, hlk, hob, ht, HP⟩ := hrel
    obtain ⟨av, cv, rfl⟩ := htl.form
    obtain ⟨k2, f2, hz⟩ := one_block ht
    have k20 := k2 0
    have k21 := k2 1
    simp at k20 k21
    clear k2 HR
    have hbl := fun w => blanks_raw s k w (by omega) hk
    cases hb : bl s k with
    | none =>
      rw [hb] at hbl
      have HB := hid hbl
      have hq := al_none (rb := rb) (ts := ts) hk hb
      have hR : R = .bad 31 s.size := by rw [← HP.out, hq]
      subst hR
      have HT := hid ht
      clear HP hq hb hbl ht hob htl
      go_wp2_with (go_at_call 14; refine (HB.out _).mono ?_; rintro e w' ⟨rfl, rfl⟩; simp only [optRes])
      refine bodyPost_ret (v := .tuple #[.slice none 0 0, msV 31 (s.size : Int)]) (by obtain ⟨q0, q1⟩ := set2_cells (u0 := .int .i64 31) (u1 := .int .i64 (s.size : Int)) k20 k21; simp [results, Tryz.results8, go_sem, msV, q0, q1]) rfl ?_
      exact ⟨set2_tn HT.out, rfl⟩
    | some a =>
      rw [hb] at hbl
      have HB := hid hbl
      have hab := bl_bound hk hb
      by_cases hae : a = s.size
      · subst hae
        have hq := al_end (rb := rb) (ts := ts) hk hb
        have hR : R = .ok ts := by rw [← HP.out, hq]
        subst hR
        have HT := hid ht
        have HTL := hid htl
        have HOB := hid hob
        clear HP hq hb hbl ht hob htl
        go_wp2_with (go_at_call 14; refine (HB.out _).mono ?_; rintro e w' ⟨rfl, rfl⟩; simp only [optRes])
        refine bodyPost_ret (v := .tuple #[.slice av ts.length cv, msV 0 0]) (by obtain ⟨q0, q1⟩ := set2_cells (u0 := .int .i64 0) (u1 := .int .i64 0) k20 k21; simp [results, Tryz.results8, go_sem, msV, q0, q1]) rfl ?_
        refine ⟨set2_tn HT.out, av, cv, rfl, ?_, fun g hg => by have := HOB.out g hg; omega⟩
        refine (HTL.out.blocks (by simp) HOB.out (fun b hb _ => ?_)).mono (by omega)
        rw [Below.heap_setCell _ _ _ _ (by show b ≠ w.heap.size; omega), Below.heap_setCell _ _ _ _ (by show b ≠ w.heap.size; omega)]
      · have hlt : a < s.size := by omega
        have hwd := fun w => word_raw rb s a w hs hlt (HRB.out a hlt)
        have hnb : ((a : Int) == (s.size : Int)) = false := by rw [beq_eq_false_iff_ne]; omega
        cases hw : wordW rb s a with
        | bad c p =>
          rw [hw] at hwd
          have HW := hid hwd
          have hc := word_code hw
          have hcb : (c != 0) = true := by simpa using hc
          have hq := al_bad (ts := ts) hk hb hae hw
          have hR : R = .bad c p := by rw [← HP.out, hq]
          subst hR
          have HT := hid ht
          clear HP hq hb hbl ht hob htl hwd hw hae
          go_wp2_with (first
            | (go_at_call 14; refine (HB.out _).mono ?_; rintro e w' ⟨rfl, rfl⟩; simp only [optRes])
            | (go_at_call 15; refine (HW.out _).mono ?_; rintro e w1 ⟨ht1, k1, x1, ng1, sa1, sn1, sc1, b1, n1, p1, en1, c1, pp1, rfl, rfl, rfl, rfl, hsl, rfl, rfl, rfl, rfl, rfl, rfl⟩; cases hsl; simp only [tkV, msV]; have ht2 := HT.out.thenNo ht1; obtain ⟨k3, f3, hz3⟩ := one_block ht2; have k30 := k3 0; have k31 := k3 1; simp at k30 k31; have HT2 := hid ht2; have hzA := Nat.lt_of_lt_of_le (Nat.lt_succ_self _) hz3; clear k3 ht2 ht1))
          go_region
          all_goals go_wp2_with fail
          refine bodyPost_ret (v := .tuple #[.slice none 0 0, msV c1 (p : Int)]) (by obtain ⟨q0, q1⟩ := set2_cells (u0 := .int .i64 c1) (u1 := .int .i64 (p : Int)) k30 k31; simp [results, Tryz.results8, go_sem, msV, q0, q1, hzA]) rfl ?_
          exact ⟨(((set2_tn HT2.out).alloc _).alloc _).drew, rfl⟩
        | ok t e' =>
          rw [hw] at hwd
          have HW := hid hwd
          have hwg := word_gt hlt hw
          have HQ := hid ((al_ok (ts := ts) hk hb hae hw).symm.trans HP.out)
          have HT := hid ht
          have HTL := hid htl
          have HOB := hid hob
          clear HP hb hbl ht hob htl hwd hw hae
          go_wp2_with (first
            | (go_at_call 14; refine (HB.out _).mono ?_; rintro e w' ⟨rfl, rfl⟩; simp only [optRes])
            | (go_at_call 15; refine (HW.out _).mono ?_; rintro e w1 ⟨ht1, k1, x1, ng1, sa1, sn1, sc1, b1, n1, p1, en1, c1, pp1, rfl, rfl, rfl, rfl, rfl, rfl, rfl, rfl, rfl, hN⟩; simp only [tkV, msV]; obtain ⟨va, wa, hr, htl', hown', htn'⟩ := tok_append (HTL.out.no ht1) t ng1 sa1 sn1 sc1 _ (by omega) hN (fun g hg => hN.off (HTL.out.rw.lt g hg)) (by omega) (.cells #[.int .i64 t.kind, .string t.text, .bool ng1, .slice sa1 sn1 sc1, .int .u64 t.bits, .int .i64 t.n, .int .i64 (t.pl : Int)] 38) (.cells #[.int .i64 0, .int .i64 0] 26); have HRUN := hid hr; have HREL := hid (And.intro htl' (And.intro (hown' (w.heap.size + 1) (by have := ht1.size; omega) HOB.out) (htn' _ (HT.out.thenNo ht1) (by simpa using HOB.out)))); clear hr htl' hown' htn' hN ht1)
            | (at_builtin; refine wpList_app _ rfl _ _ _ _ rfl _ _ rfl rfl va wa HRUN.out ?_))
          refine ⟨⟨e', ts ++ [t], hwg.2, rfl, HREL.out.1, by simp; omega, HREL.out.2.1, HREL.out.2.2, HQ⟩, ?_⟩
          simp [intOf]; omega
end Go.Proofs.YtcmhfeeocehlaaaGreatDoor
