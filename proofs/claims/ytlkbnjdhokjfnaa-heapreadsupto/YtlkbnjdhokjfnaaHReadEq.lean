/-
  heap: what the program reads at an address is what the plain words say.
-/
import Derived.Test.YtlkbnjdhokjfnaaHRdA
namespace Go.Proofs.Ytlkbnjdhokjfnaa
set_option linter.unusedSimpArgs false
set_option linter.unusedVariables false
open Go.RowKit

theorem clr_kind (W : Nat) : clr W / 2 % 16 = W / 2 % 16 := by unfold clr; omega
theorem clr_tag (W : Nat) : clr W / 256 % 65536 = W / 256 % 65536 := by unfold clr; omega
theorem clr_len (W : Nat) : clr W / 16777216 = W / 16777216 := by unfold clr; omega
theorem clr_form (W : Nat) : clr W = W % 2 + 2 * (W / 2 % 16) + 64 * (W / 64 % 4) + 256 * (W / 256 % 65536) + 16777216 * (W / 16777216) := by unfold clr; omega
theorem wordsIn_at (b : List UInt8) (o n : Nat) (h : o + 8 * n ≤ b.length) : wordsIn ((b.drop o).take (8 * n)) = Hp.wordsAt b o n := by
  have hl : ((b.drop o).take (8 * n)).length = 8 * n := by simp; omega
  unfold wordsIn Hp.wordsAt
  rw [hl, show 8 * n / 8 = n by omega]
  apply List.map_congr_left
  intro k hk
  have hk := List.mem_range.1 hk
  unfold Hp.sub
  rw [List.drop_take, List.take_take, List.drop_drop, Nat.min_eq_left (by omega)]
theorem cutB_iff (l : List UInt8) (m : Nat) : cutB l m = true ↔ cutRoom m ≤ l.length ∧ Hp.sub l m (cutRoom m - m) = List.replicate (cutRoom m - m) 0 := by
  unfold cutB Hp.sub
  rw [Bool.and_eq_true, decide_eq_true_eq, List.all_eq_true]
  constructor
  · rintro ⟨h1, h2⟩
    refine ⟨h1, ?_⟩
    rw [List.eq_replicate_iff]
    have hm : m ≤ cutRoom m := by unfold cutRoom; omega
    exact ⟨by simp; omega, fun x hx => by simpa using h2 x hx⟩
  · rintro ⟨h1, h2⟩
    refine ⟨h1, fun x hx => ?_⟩
    rw [h2] at hx
    simp [List.eq_of_mem_replicate hx]
theorem sub_drop (b : List UInt8) (o i n : Nat) : Hp.sub (b.drop o) i n = Hp.sub b (o + i) n := by unfold Hp.sub; rw [List.drop_drop]

theorem isRow_nat {k : Nat} : Hp.isRow (k : Int) = true → k = 2 ∨ k = 3 ∨ k = 4 ∨ k = 7 := by
  intro h; simp [Hp.isRow] at h; omega
theorem may_kind {k tag : Int} {s : List UInt8} {n : Nat} (h : Hp.mayBe k tag s n = true) : 1 ≤ k ∧ k ≤ 8 := by
  simp only [Hp.mayBe, Bool.and_eq_true] at h
  have h2 := h.2
  repeat' split at h2
  all_goals first | omega | cases h2

theorem getN_read (b : List UInt8) (at_ x : Nat) : getN b at_ x = Hp.read b at_ x := by
  unfold getN readT Hp.read
  simp only
  by_cases hf : fromB (at_ : Int) b.length (x : Int) = true
  · have hf' := hf
    simp only [fromB, decide_eq_true_eq] at hf'
    obtain ⟨o, ho⟩ : ∃ o, x - at_ = o := ⟨_, rfl⟩
    have e1 : fromL b at_ x = b.drop o := by unfold fromL; rw [if_pos hf]; congr 1; omega
    rw [e1, ho]
    have hob : o ≤ b.length := by omega
    by_cases h8 : o + 8 ≤ b.length
    · have hdl : (b.drop o).length = b.length - o := by simp
      obtain ⟨W, hW⟩ : ∃ W, Hp.num (Hp.sub b o 8) = W := ⟨_, rfl⟩
      have hW2 : Hp.num ((b.drop o).take 8) = W := hW
      have hH : hdr (b.drop o) = clr W := by unfold hdr; rw [hW2]
      obtain ⟨k, hk⟩ : ∃ k, W / 2 % 16 = k := ⟨_, rfl⟩
      obtain ⟨tg, htg⟩ : ∃ tg, W / 256 % 65536 = tg := ⟨_, rfl⟩
      obtain ⟨n, hn⟩ : ∃ n, W / 16777216 = n := ⟨_, rfl⟩
      have hform := clr_form W
      rw [hk, htg, hn] at hform
      have hins : insOf (b.drop o) = Hp.sub b (o + 8) (cutLen n (Hp.isRow (k : Int))) := by
        unfold insOf Hp.sub
        rw [hH, clr_len, clr_kind, hn, hk, List.drop_drop]
      have hT : thingP (b.drop o) = (if cutB (b.drop (o + 8)) (cutLen n (Hp.isRow (k : Int))) = false then none else
          if Hp.isRow (k : Int) = true then (if laidB (k : Int) (tg : Int) ⟨(insOf (b.drop o)).toArray⟩ 0 (clr W) then some ⟨(k : Int), (tg : Int), insOf (b.drop o), []⟩ else none)
          else if (k : Int) = 8 then (if fnB (insOf (b.drop o)) = false then none else if laidB 8 (farOf (insOf (b.drop o)) / 16) ⟨#[]⟩ (((insOf (b.drop o)).length - 8) / 8) (clr W) then some ⟨8, farOf (insOf (b.drop o)) / 16, [], (insOf (b.drop o)).drop 8⟩ else none)
          else if laidB (k : Int) (tg : Int) ⟨#[]⟩ ((insOf (b.drop o)).length / 8) (clr W) then some ⟨(k : Int), (tg : Int), [], insOf (b.drop o)⟩ else none) := by
        unfold thingP
        rw [hH, if_neg (show ¬ (b.drop o).length < 8 by omega)]
        simp only [clr_kind, clr_tag, clr_len, hk, htg, hn, List.drop_drop]
      rw [hT, hW, hk, htg, hn]
      have hax : at_ ≤ x := by omega
      have hx8 : x % 8 = 0 := by omega
      clear hT hH hW2
      obtain ⟨ins, hie⟩ : ∃ ins, insOf (b.drop o) = ins := ⟨_, rfl⟩
      rw [hie] at hins ⊢
      by_cases hr : Hp.isRow (k : Int) = true
      · have hkr := isRow_nat hr
        rw [hr] at hins
        simp only [hr, if_true, cutLen, cond_true] at hins ⊢
        have hc := cutB_iff (b.drop (o + 8)) n
        rw [sub_drop] at hc
        have ew : 8 * ((n + 7) / 8) = cutRoom n := by unfold cutRoom; omega
        rw [ew]
        by_cases hq : cutB (b.drop (o + 8)) n = true
        · obtain ⟨q1, q2⟩ := hc.1 hq
          simp only [List.length_drop] at q1
          have hil : ins.length = n := by rw [hins]; unfold Hp.sub; simp; unfold cutRoom at q1; omega
          rw [hq, if_neg (by simp), if_pos q2]
          have hsz : (ByteArray.mk ins.toArray).size = n := by simpa [ByteArray.size] using hil
          have hmay : mayR (k : Int) (tg : Int) ⟨ins.toArray⟩ 0 = Hp.mayBe (k : Int) (tg : Int) ins 0 := by simp [mayR]
          have hhead : ((headR (k : Int) (tg : Int) ⟨ins.toArray⟩ 0 : Int) = (clr W : Int)) ↔ (W % 2 = 1 ∧ W / 64 % 4 = 0) := by
            simp only [headR, lenR, hsz, if_neg (show ¬ (k : Int) = 8 by omega), Int.toNat_natCast]
            omega
          by_cases hm : Hp.mayBe (k : Int) (tg : Int) ins 0 = true
          · by_cases hh : W % 2 = 1 ∧ W / 64 % 4 = 0
            · have hl : laidB (k : Int) (tg : Int) ⟨ins.toArray⟩ 0 (clr W) = true := by simp only [laidB, hmay, hm, Bool.true_and, decide_eq_true_eq]; exact hhead.2 hh
              rw [hl, if_pos rfl, if_pos ⟨hax, h8, hx8, hh.1, hh.2, by omega, by omega, by unfold cutRoom at q1; omega⟩]
              simp only [Option.map_some, TR.nd, Hp.May]
              rw [← hins]
              simp [hm, wordsIn]
            · have hl : laidB (k : Int) (tg : Int) ⟨ins.toArray⟩ 0 (clr W) = false := by
                simp only [laidB, hmay, hm, Bool.true_and, decide_eq_false_iff_not]; exact fun e => hh (hhead.1 e)
              rw [hl, if_neg (by simp), if_neg (fun h => hh ⟨h.2.2.2.1, h.2.2.2.2.1⟩)]
              rfl
          · have hm2 := Bool.eq_false_iff.2 hm
            have hl : laidB (k : Int) (tg : Int) ⟨ins.toArray⟩ 0 (clr W) = false := by simp [laidB, hmay, hm2]
            rw [hl, if_neg (by simp)]
            simp only [Hp.May]
            rw [← hins]
            simp [hm2]
        · have hq2 := Bool.eq_false_iff.2 hq
          rw [hq2, if_pos rfl]
          by_cases hz : Hp.sub b (o + 8 + n) (cutRoom n - n) = List.replicate (cutRoom n - n) 0
          · rw [if_neg (fun h => hq (hc.2 ⟨by simp only [List.length_drop]; have := h.2.2.2.2.2.2.2; unfold cutRoom; omega, hz⟩))]
            rfl
          · rw [if_neg hz]
            simp
      · have hr2 := Bool.eq_false_iff.2 hr
        rw [hr2] at hins
        simp only [hr2, Bool.false_eq_true, if_false, cutLen, cond_false] at hins ⊢
        have hc := cutB_iff (b.drop (o + 8)) (8 * n)
        have er : cutRoom (8 * n) = 8 * n := by unfold cutRoom; omega
        rw [er, Nat.sub_self] at hc
        simp only [Hp.sub, List.take_zero, List.replicate_zero, and_true, List.length_drop] at hc
        by_cases hq : cutB (b.drop (o + 8)) (8 * n) = true
        · have q1 := hc.1 hq
          have hil : ins.length = 8 * n := by rw [hins]; unfold Hp.sub; simp; omega
          rw [hq, if_neg (by simp)]
          have hwords : wordsIn ins = Hp.wordsAt b (o + 8) n := by rw [hins]; exact wordsIn_at b (o + 8) n (by omega)
          have hwl : (Hp.wordsAt b (o + 8) n).length = n := by simp [Hp.wordsAt]
          have hn9 : n ≤ (b.length - o - 8) / 8 := by omega
          by_cases hk8 : k = 8
          · subst hk8
            rw [if_pos (show ((8 : Nat) : Int) = 8 from rfl)]
            cases n with
            | zero =>
              have hi0 : ins = [] := List.length_eq_zero_iff.1 (by omega)
              have hf0 : fnB ins = false := by rw [hi0]; simp [fnB]
              rw [hf0, if_pos rfl]
              have : Hp.wordsAt b (o + 8) 0 = [] := rfl
              rw [this]
              simp
            | succ n' =>
              have hcons : wordsIn ins = Hp.num (ins.take 8) :: wordsIn (ins.drop 8) := by
                unfold wordsIn
                rw [hil, List.length_drop, hil, show 8 * (n' + 1) / 8 = n' + 1 by omega, show (8 * (n' + 1) - 8) / 8 = n' by omega, List.range_succ_eq_map]
                simp only [List.map_cons, List.map_map, Nat.mul_zero, List.drop_zero, List.cons.injEq, true_and]
                apply List.map_congr_left
                intro j _
                simp only [Function.comp, List.drop_drop]
                congr 3
                omega
              obtain ⟨c, hcc⟩ : ∃ c, Hp.num (ins.take 8) = c := ⟨_, rfl⟩
              have hclt : c < 18446744073709551616 := by
                have := Hp.num_lt (ins.take 8)
                have e : (ins.take 8).length = 8 := by simp; omega
                rw [e, hcc] at this
                exact this
              have hne : ins ≠ [] := by intro e; rw [e] at hil; simp at hil
              have hfar : farOf ins = ((c : Int) - 4194304) % 18446744073709551616 := by unfold farOf; rw [hcc]
              rw [← hwords, hcons, hcc]
              simp only
              have hlw : (wordsIn (ins.drop 8)).length = n' := by rw [wordsIn_length, List.length_drop, hil]; omega
              have hhead : ∀ f : Int, ((headR 8 f ⟨#[]⟩ n' : Int) = (clr W : Int)) ↔ (W % 2 = 1 ∧ W / 64 % 4 = 0 ∧ tg = 0) := fun f => by
                simp only [headR, lenR, ByteArray.size, if_true]
                simp
                omega
              rw [show (ins.length - 8) / 8 = n' by omega]
              by_cases hcb : 4194304 ≤ c ∧ (c - 4194304) % 16 = 0 ∧ (c - 4194304) / 16 < 4194304
              · have hf1 : farOf ins = ((c - 4194304 : Nat) : Int) := by rw [hfar]; omega
                have hfn : fnB ins = true := by
                  simp only [fnB, decide_eq_true_eq]
                  exact ⟨hne, by rw [hf1]; omega, by rw [hf1]; omega⟩
                have hf16 : farOf ins / 16 = (((c - 4194304) / 16 : Nat) : Int) := by rw [hf1]; omega
                rw [hfn, if_neg (by simp), hf16]
                have hmay : mayR 8 (((c - 4194304) / 16 : Nat) : Int) ⟨#[]⟩ n' = true := by
                  simp [mayR, Hp.mayBe, Hp.isRow]; omega
                have hmay2 : Hp.May (⟨((8 : Nat) : Int), (((c - Hp.codeBase) / 16 : Nat) : Int), [], (wordsIn (ins.drop 8)).map Hp.value⟩ : Hp.Nd Nat) = true := by
                  have hfl : (c - Hp.codeBase) / 16 < 4194304 := hcb.2.2
                  generalize (c - Hp.codeBase) / 16 = f at hfl ⊢
                  simp [Hp.May, Hp.mayBe, Hp.isRow]; omega
                by_cases hh : W % 2 = 1 ∧ W / 64 % 4 = 0 ∧ tg = 0
                · have hl : laidB 8 (((c - 4194304) / 16 : Nat) : Int) ⟨#[]⟩ n' (clr W) = true := by simp only [laidB, hmay, Bool.true_and, decide_eq_true_eq]; exact (hhead _).2 hh
                  rw [hl, if_pos rfl, if_pos ⟨hax, h8, hx8, hh.1, hh.2.1, by omega, by omega, hn9⟩]
                  have hin : tg = 0 ∧ Hp.codeBase ≤ c ∧ (c - Hp.codeBase) % 16 = 0 ∧ (c - Hp.codeBase) / 16 < 4194304 := ⟨hh.2.2, hcb⟩
                  rw [if_pos hin]
                  simp only [Option.map_some, TR.nd, if_true]
                  rw [if_pos hmay2]
                  rfl
                · have hl : laidB 8 (((c - 4194304) / 16 : Nat) : Int) ⟨#[]⟩ n' (clr W) = false := by
                    simp only [laidB, hmay, Bool.true_and, decide_eq_false_iff_not]; exact fun e => hh ((hhead _).1 e)
                  rw [hl, if_neg (by simp)]
                  by_cases ht : tg = 0
                  · rw [if_neg (fun h => hh ⟨h.2.2.2.1, h.2.2.2.2.1, ht⟩)]; rfl
                  · have hin : ¬ (tg = 0 ∧ Hp.codeBase ≤ c ∧ (c - Hp.codeBase) % 16 = 0 ∧ (c - Hp.codeBase) / 16 < 4194304) := fun h => ht h.1
                    rw [if_neg hin]
                    simp
              · have hfn : fnB ins = false := by
                  simp only [fnB, decide_eq_false_iff_not]
                  rintro ⟨_, h2, h3⟩
                  rw [hfar] at h2 h3
                  apply hcb
                  omega
                have hin : ¬ (tg = 0 ∧ Hp.codeBase ≤ c ∧ (c - Hp.codeBase) % 16 = 0 ∧ (c - Hp.codeBase) / 16 < 4194304) := fun h => hcb h.2
                rw [hfn, if_pos rfl, if_neg hin]
                simp
          · rw [if_neg (show ¬ (k : Int) = 8 by omega), if_neg hk8, hil, show 8 * n / 8 = n by omega]
            have hmay : mayR (k : Int) (tg : Int) ⟨#[]⟩ n = Hp.mayBe (k : Int) (tg : Int) [] n := by simp [mayR]
            have hhead : ((headR (k : Int) (tg : Int) ⟨#[]⟩ n : Int) = (clr W : Int)) ↔ (W % 2 = 1 ∧ W / 64 % 4 = 0) := by
              simp only [headR, lenR, ByteArray.size, if_neg (show ¬ (k : Int) = 8 by omega), Int.toNat_natCast]
              simp
              omega
            by_cases hm : Hp.mayBe (k : Int) (tg : Int) [] n = true
            · obtain ⟨hb1, hb2⟩ := may_kind hm
              by_cases hh : W % 2 = 1 ∧ W / 64 % 4 = 0
              · have hl : laidB (k : Int) (tg : Int) ⟨#[]⟩ n (clr W) = true := by simp only [laidB, hmay, hm, Bool.true_and, decide_eq_true_eq]; exact hhead.2 hh
                rw [hl, if_pos rfl, if_pos ⟨hax, h8, hx8, hh.1, hh.2, by omega, by omega, hn9⟩]
                simp only [Option.map_some, TR.nd, Hp.May, List.length_map, hwl]
                rw [if_pos hm, hwords]
              · have hl : laidB (k : Int) (tg : Int) ⟨#[]⟩ n (clr W) = false := by
                  simp only [laidB, hmay, hm, Bool.true_and, decide_eq_false_iff_not]; exact fun e => hh (hhead.1 e)
                rw [hl, if_neg (by simp), if_neg (fun h => hh ⟨h.2.2.2.1, h.2.2.2.2.1⟩)]
                rfl
            · have hm2 := Bool.eq_false_iff.2 hm
              have hl : laidB (k : Int) (tg : Int) ⟨#[]⟩ n (clr W) = false := by simp [laidB, hmay, hm2]
              rw [hl, if_neg (by simp)]
              simp only [Hp.May, List.length_map, hwl]
              simp [hm2]
        · have hq2 := Bool.eq_false_iff.2 hq
          rw [hq2, if_pos rfl, if_neg (fun h => hq (hc.2 (by have := h.2.2.2.2.2.2.2; omega)))]
          rfl
    · have hn : thingP (b.drop o) = none := by
        unfold thingP
        rw [if_pos (by simp; omega)]
      rw [hn, if_neg (by omega)]
      rfl
  · have e1 : fromL b at_ x = [] := by unfold fromL; rw [if_neg hf]
    have hn : thingP [] = none := by unfold thingP; rfl
    rw [e1, hn]
    have hf2 := Bool.eq_false_iff.2 hf
    simp only [fromB, decide_eq_false_iff_not] at hf2
    rw [if_neg (by omega)]
    rfl
end Go.Proofs.Ytlkbnjdhokjfnaa
