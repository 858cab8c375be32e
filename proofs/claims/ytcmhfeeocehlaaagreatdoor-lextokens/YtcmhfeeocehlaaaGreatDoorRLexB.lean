/-
  The reference's lexer: what a number's text says, from digit to digit.
-/
import Derived.Test.YtcmhfeeocehlaaaGreatDoorRLexA
import Derived.Test.YtcmhfeeocehlaaaGreatDoorRefB
import Derived.Test.YtcmhfeeocehlaaaGreatDoorRefC
import Derived.Test.YtcmhfeeocehlaaaGreatDoorRealText
import Derived.Test.YtcmhfeeocehlaaaGreatDoorSimA
namespace Go.Proofs.YtcmhfeeocehlaaaGreatDoor
set_option linter.unusedSimpArgs false
set_option linter.unusedVariables false
open Go.RowKit Go.PlainAid

theorem getD_bt (s : ByteArray) (k : Nat) (n : Nat) (hn : n < 256) (h : bt s k = n) : s.data.toList.getD k 0 = n.toUInt8 := by
  rw [bt_list] at h
  apply UInt8.toNat_inj.1
  have : (n.toUInt8).toNat = n := by rw [UInt8.toNat_ofNat']; omega
  omega
theorem dval_step (s : ByteArray) (j e : Nat) (hj : j < e) (he : e ≤ s.size) (h : bt s j = 48) : dval (s.extract j e).data.toList = dval (s.extract (j + 1) e).data.toList := by
  rw [seg_cons s j e hj he, getD_bt s j 48 (by decide) h]
  rfl
theorem zof_neg (s : ByteArray) (a e : Nat) (ha : a < e) (he : e ≤ s.size) (h : bt s a = 126) : zof (s.extract a e).data.toList = -(dval (s.extract (a + 1) e).data.toList : Int) := by
  rw [seg_cons s a e ha he, getD_bt s a 126 (by decide) h]
  rfl
theorem zof_pos (s : ByteArray) (a e : Nat) (ha : a < e) (he : e ≤ s.size) (h : ¬ bt s a = 126) : zof (s.extract a e).data.toList = (dval (s.extract a e).data.toList : Int) := by
  rw [seg_cons s a e ha he]
  unfold zof
  split
  · rename_i r heq
    simp only [List.cons.injEq] at heq
    exfalso
    apply h
    rw [bt_list, heq.1]
    rfl
  · rfl
theorem allDig_seg (s : ByteArray) (j e : Nat) (hj : j < e) (he : e ≤ s.size) (h : ∀ k, j ≤ k → k < e → isD (bt s k) = true) : allDig (s.extract j e).data.toList = true := by
  have hlen : (s.extract j e).data.toList.length = e - j := by rw [← Lib.size_eq, ext_size2 s j e he]
  unfold allDig
  rw [Bool.and_eq_true]
  refine ⟨?_, ?_⟩
  · rw [List.all_eq_true]
    intro x hx
    obtain ⟨i, hi⟩ := List.getElem?_of_mem hx
    have hil : i < e - j := by rw [← hlen]; exact (List.getElem?_eq_some_iff.1 hi).1
    have hg := seg_getD s j e i (by omega)
    rw [List.getD_eq_getElem?_getD, hi] at hg
    have hd := (isD_iff _).1 (h (j + i) (by omega) (by omega))
    rw [bt_list, ← hg] at hd
    simp only [Option.getD_some] at hd
    unfold isDig
    rw [Bool.and_eq_true, decide_eq_true_eq, decide_eq_true_eq]
    omega
  · cases hl : (s.extract j e).data.toList with
    | nil => rw [hl] at hlen; simp at hlen; omega
    | cons => rfl
theorem seg_snoc (s : ByteArray) (a j : Nat) (ha : a ≤ j) (hj : j < s.size) : (s.extract a (j + 1)).data.toList = (s.extract a j).data.toList ++ [s.data.toList.getD j 0] := by
  have hl : j < s.data.toList.length := by rw [← Lib.size_eq]; exact hj
  rw [ext_list, ext_list, List.take_add_one, List.getElem?_eq_getElem hl, List.drop_append_of_le_length (by rw [List.length_take]; omega), List.getD_eq_getElem?_getD, List.getElem?_eq_getElem hl]
  rfl
theorem ng_minus (s : ByteArray) (a j : Nat) (ha : a ≤ j) (hj : j < s.size) (h : bt s j = 126) : ngT (s.extract a (j + 1)) = ngT (s.extract a j) ++ (⟨#[45]⟩ : ByteArray) := by
  apply ext_of_list
  rw [app_list]
  show (s.extract a (j + 1)).data.toList.map neg1 = (s.extract a j).data.toList.map neg1 ++ [45]
  rw [seg_snoc s a j ha hj, List.map_append, getD_bt s j 126 (by decide) h]
  rfl
theorem ng_other (s : ByteArray) (a j : Nat) (ha : a ≤ j) (hj : j < s.size) (h : ¬ bt s j = 126) : ngT (s.extract a (j + 1)) = ngT (s.extract a j) ++ s.extract j (j + 1) := by
  apply ext_of_list
  rw [app_list]
  show (s.extract a (j + 1)).data.toList.map neg1 = (s.extract a j).data.toList.map neg1 ++ (s.extract j (j + 1)).data.toList
  have e0 : (s.extract j j).data.toList = [] := by rw [ext_list]; simp
  rw [seg_snoc s a j ha hj, seg_snoc s j j (Nat.le_refl _) hj, e0, List.map_append, List.nil_append]
  congr 1
  have : neg1 (s.data.toList.getD j 0) = s.data.toList.getD j 0 := by
    unfold neg1
    rw [if_neg]
    intro e
    apply h
    rw [bt_list, e]
    rfl
  simp only [List.map_cons, List.map_nil, this]
theorem ng_nil (s : ByteArray) (a : Nat) : ngT (s.extract a a) = ⟨#[]⟩ := by
  apply ext_of_list
  show (s.extract a a).data.toList.map neg1 = []
  rw [ext_list]; simp
/-- Parse of a row of digits that has no nought ahead -/
theorem rparse_seg (s : ByteArray) (j e : Nat) (w : World) (hs : s.size ≤ 65536) (hj : j < e) (he : e ≤ s.size) (hd : ∀ k, j ≤ k → k < e → isD (bt s k) = true) (hz : j + 1 = e ∨ ¬ bt s j = 48) :
    Calls Tryz.prog 64 #[.string (s.extract j e)] w (ParseYes w (dval (s.extract j e).data.toList : Int) (e - j)) := by
  have hsz := ext_size2 s j e he
  have h0 : 0 < (s.extract j e).size := by omega
  have hg := get_bt (s.extract j e) 0 h0
  have hb : bt (s.extract j e) 0 = bt s j := by rw [bt_seg s j e 0 (by omega)]; rfl
  rw [hb] at hg
  have hdj := (isD_iff _).1 (hd j (Nat.le_refl _) hj)
  have ha := allDig_seg s j e hj he hd
  have hmax : (s.extract j e).size ≤ maxLen := by unfold maxLen; omega
  rw [← hsz]
  refine rparse_yes_pos (s.extract j e) _ _ w hmax h0 (by rw [beq_eq_false_iff_ne]; omega) (hid1 (fun w => natParse_good (s.extract j e) w (by omega) h0 ?_ ha))
  by_cases h48 : bt s j = 48
  · right
    refine ⟨by rw [beq_iff_eq]; omega, ?_⟩
    rcases hz with hz | hz
    · omega
    · exact absurd h48 hz
  · left
    rw [beq_eq_false_iff_ne]; omega
end Go.Proofs.YtcmhfeeocehlaaaGreatDoor
namespace Go.Proofs.YtcmhfeeocehlaaaGreatDoor
set_option linter.unusedSimpArgs false
set_option linter.unusedVariables false
open Go.RowKit Go.PlainAid

def zTk : Array Value := #[.int .i64 0, .string ⟨#[]⟩, .bool false, .slice none 0 0, .int .u64 0, .int .i64 0, .int .i64 0]
def zMs : Array Value := #[.int .i64 0, .int .i64 0]
/-- the two blocks of an answer, as they are at first -/
def two0 (w : World) : World := (w.alloc (.cells zTk 39)).alloc (.cells zMs 26)
/-- they are as they were, and a number lies in the block g -/
structure NB (w w3 : World) (g : Nat) (ng : Bool) (sl : Value) (z : Int) : Prop where
  g0 : w3.cell? ⟨g, 0, none⟩ = some (.bool ng)
  g1 : w3.cell? ⟨g, 1, none⟩ = some sl
  tw : Tn No (two0 w) w3
  ge : w.heap.size + 2 ≤ g
  num : NumAt w3 (w.heap.size + 2) ng sl z
theorem two0_size (w : World) : (two0 w).heap.size = w.heap.size + 2 := by unfold two0; simp
theorem NB.facts {w w3 : World} {g : Nat} {ng : Bool} {sl : Value} {z : Int} (h : NB w w3 g ng sl z) :
    ((∀ i, w3.cell? ⟨w.heap.size, i, none⟩ = zTk[i]?) ∧ ∀ i, w3.frozen? ⟨w.heap.size, i, none⟩ = false) ∧ ((∀ i, w3.cell? ⟨w.heap.size + 1, i, none⟩ = zMs[i]?) ∧ ∀ i, w3.frozen? ⟨w.heap.size + 1, i, none⟩ = false) ∧ (∀ i, i < 7 → (w3.cell? ⟨w.heap.size, i, none⟩).isSome = true) ∧ (∀ i, i < 2 → (w3.cell? ⟨w.heap.size + 1, i, none⟩).isSome = true) ∧ w.heap.size + 2 ≤ w3.heap.size := two_blocks h.tw
theorem NB.pos {w w5 : World} {ng : Bool} {sa : Option Addr} {n c : Nat} {z : Int} (ht : Tn No (two0 w) w5) (hN : NumAt w5 (two0 w).heap.size ng (.slice sa n c) z) :
    NB w (w5.alloc (.cells #[.bool ng, .slice sa n c] 35)) w5.heap.size ng (.slice sa n c) z := by
  have hz := ht.size
  rw [two0_size] at hz hN
  refine ⟨?_, ?_, ht.alloc _, hz, hN.no ((Tn.refl No w5).alloc _)⟩
  · rw [World.cell?_alloc_new]; rfl
  · rw [World.cell?_alloc_new]; rfl
theorem NB.neg {w w5 w6 : World} {u0 u1 : Value} {ng : Bool} {sa : Option Addr} {n c : Nat} {z : Int} (ht : Tn No (two0 w) w5) (t6 : Tn No (w5.alloc (.cells #[u0, u1] 35)) w6) (hN : NumAt w6 (w5.heap.size + 1) ng (.slice sa n c) z) :
    NB w ((w6.setCell ⟨w5.heap.size, 0, none⟩ (.bool ng)).setCell ⟨w5.heap.size, 1, none⟩ (.slice sa n c)) w5.heap.size ng (.slice sa n c) z := by
  have hz := ht.size
  rw [two0_size] at hz
  obtain ⟨k, _, hz6⟩ := one_block t6
  have k0 : w6.cell? ⟨w5.heap.size, 0, none⟩ = some u0 := k 0
  have k1 : w6.cell? ⟨w5.heap.size, 1, none⟩ = some u1 := k 1
  obtain ⟨q0, q1⟩ := set2_cells (u0 := .bool ng) (u1 := .slice sa n c) k0 k1
  refine ⟨q0, q1, ?_, hz, ?_⟩
  · refine Tn.set (Tn.set ((ht.alloc _).then t6) _ _ ?_) _ _ ?_ <;> (intro e; rw [two0_size] at e; simp at e; omega)
  · refine (hN.blocks (by simp) (fun b hb _ => ?_)).mono (by omega)
    rw [Below.heap_setCell _ _ _ _ (by show b ≠ w5.heap.size; omega), Below.heap_setCell _ _ _ _ (by show b ≠ w5.heap.size; omega)]
end Go.Proofs.YtcmhfeeocehlaaaGreatDoor
