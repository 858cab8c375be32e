/-
  lay behind the end; lay.
-/
import Derived.Test.YtkbdgdcicflocaaLay2
namespace Go.Proofs.Ytkbdgdcicflocaa
set_option linter.unusedSimpArgs false
set_option linter.unusedVariables false
open Go.RowKit
attribute [local go_sem ↓] Go.wp_at_zero Go.wp_at_succ

theorem copy_none (w : World) (ad : Option Addr) (q : Nat) (s : ByteArray) (ty : TypeId) : (Builtin.copy_ #[64, 9] ty #[.slice ad 0 q, .string s]).run Try.prog w = .ok (.int .i64 0) w := by
  have hsz : (sizeOf 5).run Try.prog w = .ok 1 w := by kernel_rfl
  have hc : (Builtin.firstCells 1 0 (.string s)).run Try.prog w = .ok #[] w := by
    simp [Builtin.firstCells]
  cases ad <;> simp [Builtin.copy_, run_underlying Try.underlying64, hsz, Builtin.lenOf, hc, goInt, storeCells]

theorem lay_tail0 {w w1 : World} {v : Value} {l l1 : List UInt8} {a : Option Addr} {cap pl n1 : Nat} {s : ByteArray} (hn1 : l1.length = n1) (h1 : BR w1 (.slice a n1 cap) l1) (ht : Tn (fun k => v.ownBlock = some k) w w1) (ho : ∀ g, Value.ownBlock (.slice a n1 cap) = some g → v.ownBlock = some g ∨ w.heap.size ≤ g) (he : l1 = l ++ List.replicate (pl - l.length) 0) (hr : l1.length = pl) (hs : ¬ s.size = 0) (hb : l1.length + s.size ≤ 70368744177664) (hst : Still w1 v l.length) (hrel : Rel v (.slice a n1 cap) l.length) :
    ∃ a3 n3 cap3 w3, (Builtin.append_ #[64, 9] 64 #[.slice a n1 cap, .string s]).run Try.prog w1 = .ok (.slice a3 n3 cap3) w3 ∧ LayPost w v l pl s (.returned (.slice a3 n3 cap3)) w3 := by
  obtain ⟨w2, hc, a3, n3, cap3, w3, hap, hend⟩ := lay_tail (r := 0) hn1 h1 ht ho he (by omega) hs hb none 0 (fun h => by omega) hst hrel
  rw [copy_none] at hc
  have e : w2 = w1 := by
    simp only [Result.ok.injEq] at hc
    exact hc.2.symm
  subst e
  rw [Nat.min_zero, extract_all] at hap
  exact ⟨a3, n3, cap3, w3, hap, hend⟩

set_option maxHeartbeats 2000000 in
set_option maxRecDepth 100000 in
theorem lay_gap (v : Value) (l : List UInt8) (n : Nat) (s : ByteArray) (w : World) (h : BR w v l) (hs : ¬ s.size = 0) (hn : 0 < n) (hb : l.length + n + s.size ≤ 70368744177664) :
    Calls Try.prog 52 #[v, .int .i64 ((l.length + n : Nat) : Int), .string s] w (LayPost w v l (l.length + n) s) := by
  have he : s.toList.isEmpty = false := by rw [toList_isEmpty]; simpa using hs
  have hself : Rel v v l.length := by
    obtain ⟨a, c, e, _⟩ := h.rw.form
    exact .inl ⟨a, _, c, e, e, Nat.le_refl _⟩
  have htail : ∀ a1 cap1 w1, BR w1 (.slice a1 (l.length + n) cap1) (l ++ List.replicate n 0) → w.grownBy w1 v.ownBlock → (∀ g, Value.ownBlock (.slice a1 (l.length + n) cap1) = some g → v.ownBlock = some g ∨ w.heap.size ≤ g) → Goes w w1 v (.slice a1 (l.length + n) cap1) →
      ∃ g q a3 n3 cap3 w3, a1 = some ⟨g, 0, none⟩ ∧ cap1 = l.length + n + q ∧ l.length + n + q ≤ 9223372036854775807 ∧ (Builtin.append_ #[64, 9] 64 #[.slice a1 (l.length + n) cap1, .string s]).run Try.prog w1 = .ok (.slice a3 n3 cap3) w3 ∧ LayPost w v l (l.length + n) s (.returned (.slice a3 n3 cap3)) w3 := fun a1 cap1 w1 hbr hg ho hgo => by
    obtain ⟨g, cap2, e, _, h1, h2, _⟩ := hbr.rw.pos (by simp; omega)
    simp only [Value.slice.injEq] at e
    obtain ⟨rfl, _, rfl⟩ := e
    obtain ⟨a3, n3, cap3, w3, hap, hend⟩ := lay_tail0 (w := w) (v := v) (l := l) (pl := l.length + n) (by simp) hbr (Tn.of_grown hg) ho (by simp) (by simp) hs (by simp; omega) (Still.goes ⟨l, rfl, h⟩ hg hself hgo hbr).1 (Still.goes ⟨l, rfl, h⟩ hg hself hgo hbr).2
    rw [List.length_append, List.length_replicate] at h1
    exact ⟨g, cap1 - (l.length + n), a3, n3, cap3, w3, rfl, by omega, by omega, hap, hend⟩
  have HT := hid htail
  have HC := hid copy_none
  have HBR := hid h
  obtain ⟨a, cap, rfl, hlc, hcm, hnil, hsome⟩ := h.rw.form
  obtain ⟨len, hlen⟩ : ∃ len, l.length = len := ⟨_, rfl⟩
  rw [hlen] at hlc hb hnil HBR HT ⊢
  have HL := hid hlen
  have ec : ((len + n : Nat) : Int) = (len : Int) + (n : Int) := by omega
  have hd1 : (len : Int) + (n : Int) - (len : Int) = (n : Int) := by omega
  have hd2 : (0 : Int) < (n : Int) := by omega
  have hd3 : (0 : Int) ≤ (len : Int) + (n : Int) := by omega
  rw [ec]
  clear h htail hself hs hnil hsome hlen ec hcm
  go_enter Try.func52, Try.ntmps52
  go_wp2_with (first
    | (at_builtin; refine wpList_zeros _ rfl (.tmp 18) (.tmp 19) rfl rfl _ n l rfl rfl (by exact HBR.out) hn (by rw [HL.out]; omega) ?_; rw [HL.out]; intro a1 cap1 w1 hbr1 hg1 ho1 hgo1; obtain ⟨g, q, a3, n3, cap3, w3, rfl, rfl, hq, hap, hend⟩ := HT.out a1 cap1 w1 hbr1 hg1 ho1 hgo1; have HAP := hid hap; have HE := hid hend; clear hap hend hbr1 hg1 ho1 hgo1)
    | (at_builtin; refine wpList_app _ rfl _ _ _ _ rfl _ _ rfl rfl _ w3 HAP.out ?_)
    | (refine wpList_run _ rfl (.tmp 23) (.tmp 24) rfl _ _ rfl rfl _ _ (HC.out _ _ _ _ _) ?_))
  all_goals (go_ret; exact HE.out)

theorem lay_raw (v : Value) (l : List UInt8) (pl : Nat) (s : ByteArray) (w : World) (h : BR w v l) (hb : l.length + pl + s.size ≤ 70368744177664) :
    Calls Try.prog 52 #[v, .int .i64 (pl : Int), .string s] w (LayPost w v l pl s) := by
  by_cases hs : s.size = 0
  · exact lay_nil v l pl s w h hs
  by_cases hp : pl ≤ l.length
  · exact lay_over v l pl s w h hs hp (by omega)
  · obtain ⟨n, rfl⟩ : ∃ n, pl = l.length + n := ⟨pl - l.length, by omega⟩
    exact lay_gap v l n s w h hs (by omega) (by omega)
theorem layB_length (l : List UInt8) (pl : Nat) (t : List UInt8) : (layB l pl t).length ≤ max l.length (pl + t.length) := by
  unfold layB
  split
  · omega
  · simp; omega
end Go.Proofs.Ytkbdgdcicflocaa
