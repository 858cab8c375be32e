/-
  Tokens: a text's words, one behind the other, in new memory.
-/
import Derived.Test.YtcmhfeeocehlaaaGreatDoorWordAt
namespace Go.Proofs.YtcmhfeeocehlaaaGreatDoor
set_option linter.unusedSimpArgs false
set_option linter.unusedVariables false
open Go.RowKit Go.PlainAid
attribute [local go_sem ↓] Go.wp_at_zero Go.wp_at_succ

/-! ### all words, step by step -/
theorem stands_gt {k : Int} {s : ByteArray} {a e e' : Nat} {t : Tk} (h : stands k s a e = .ok t e') (h1 : a < e) (h2 : e ≤ s.size) : a < e' ∧ e' ≤ s.size := by
  cases h; exact ⟨h1, h2⟩
theorem limd_gt {k : Int} {s : ByteArray} {a e most e' : Nat} {t : Tk} (h : limd k s a e most = .ok t e') (h1 : a < e) (h2 : e ≤ s.size) : a < e' ∧ e' ≤ s.size := by
  unfold limd at h
  split at h
  · cases h
  · exact stands_gt h h1 h2
theorem nmF_ge (s : ByteArray) : ∀ k e e', e ≤ s.size → nmF s k e = .inr e' → e ≤ e' ∧ e' ≤ s.size
  | 0, e, e', he, h => by cases h; omega
  | k + 1, e, e', he, h => by
    unfold nmF at h
    split at h
    · rename_i hc
      split at h
      · cases h
      · have h1 := lt_of_p isL_0 hc.2
        have h2 := run_ge isN s (e + 1)
        have h3 := run_le isN s (e + 1) (by omega)
        have := nmF_ge s k _ _ h3 h
        omega
    · cases h; omega
theorem quF_gt (s : ByteArray) : ∀ k a l l' e, quF s k a l = .ok l' e → a < e ∧ e ≤ s.size
  | 0, _, _, _, _, h => by cases h
  | k + 1, a, l, l', e, h => by
    unfold quF at h
    split at h
    · rename_i hq
      have := lt_of_bt (s := s) (a := a) (by omega)
      cases h; omega
    · split at h
      · split at h
        · cases h
        · rename_i hn
          have := esc_bound hn
          have := quF_gt s k _ _ _ _ h
          omega
      · split at h
        · split at h
          · cases h
          · have := quF_gt s k _ _ _ _ h
            omega
        · cases h
theorem word_gt {rb : ByteArray → Int} {s : ByteArray} {a e : Nat} {t : Tk} (ha : a < s.size) (h : wordW rb s a = .ok t e) : a < e ∧ e ≤ s.size := by
  unfold wordW at h
  split at h
  · rename_i hl
    have hN : isN (bt s a) = true := by unfold isN; rw [hl]; rfl
    have h1 := run_gt isN_0 hN
    have h2 := run_le isN s a (by omega)
    rw [nameW_eq] at h
    split at h
    · exact stands_gt h h1 h2
    · cases hm : nm s (run isN s a) with
      | inl p => rw [hm] at h; cases h
      | inr e' =>
        rw [hm] at h
        have := nmF_ge s _ _ _ h2 hm
        exact limd_gt (show limd 1 s a e' 64 = .ok t e from h) (by omega) this.2
  · split at h
    · rename_i hn
      have h1 := nuD_lt hn
      have h2 := whole_lt hn
      have h3 := numE_ge hn
      unfold numW at h
      split at h
      · split at h
        · cases h
        · cases h; omega
      · split at h
        · cases h
        · cases h; omega
    · split at h
      · unfold textW at h
        split at h
        · cases h
        · rename_i hq; cases h
          have := quF_gt s _ _ _ _ _ hq
          omega
      · split at h
        · unfold charW at h
          split at h
          · cases h
          · rename_i hq
            split at h
            · cases h
              have := quF_gt s _ _ _ _ _ hq
              omega
            · cases h
        · split at h
          · unfold tyvW at h
            split at h
            · rename_i hl
              have h1 := lt_of_p isL_0 hl
              have h2 := run_ge isN s (tyL s a)
              have h3 := run_le isN s (tyL s a) (by omega)
              have h4 : a < tyL s a := by unfold tyL; split <;> omega
              exact limd_gt h (by omega) h3
            · cases h
          · split at h
            · exact stands_gt h (by omega) (by omega)
            · split at h
              · rename_i hl
                have h1 := run_gt isS_0 hl
                have h2 := run_le isS s a (by omega)
                unfold symW at h
                split at h
                · exact stands_gt h h1 h2
                · exact limd_gt h h1 h2
              · cases h
theorem allF_fuel (rb : ByteArray → Int) (s : ByteArray) : ∀ f f' k ts, k ≤ s.size → s.size + 1 - k ≤ f → s.size + 1 - k ≤ f' → allF rb s f k ts = allF rb s f' k ts := by
  intro f
  induction f with
  | zero => intro f' k ts hk h _; omega
  | succ f ih =>
    intro f' k ts hk h h'
    cases f' with
    | zero => omega
    | succ f' =>
      unfold allF
      cases hb : bl s k with
      | none => rfl
      | some a =>
        have hab := bl_bound hk hb
        dsimp only
        by_cases he : a = s.size
        · rw [if_pos he, if_pos he]
        · rw [if_neg he, if_neg he]
          cases hw : wordW rb s a with
          | bad c p => rfl
          | ok t e' =>
            have := word_gt (by omega) hw
            dsimp only
            exact ih f' e' _ (by omega) (by omega) (by omega)
/-- the words from k on, behind ts -/
def al (rb : ByteArray → Int) (s : ByteArray) (k : Nat) (ts : List Tk) : Ls := allF rb s (s.size + 1 - k) k ts
theorem al_none {rb : ByteArray → Int} {s : ByteArray} {k : Nat} {ts : List Tk} (hk : k ≤ s.size) (h : bl s k = none) : al rb s k ts = .bad 31 s.size := by
  unfold al
  obtain ⟨f, hf⟩ : ∃ f, s.size + 1 - k = f + 1 := ⟨s.size - k, by omega⟩
  rw [hf]; unfold allF; rw [h]
theorem al_end {rb : ByteArray → Int} {s : ByteArray} {k : Nat} {ts : List Tk} (hk : k ≤ s.size) (h : bl s k = some s.size) : al rb s k ts = .ok ts := by
  unfold al
  obtain ⟨f, hf⟩ : ∃ f, s.size + 1 - k = f + 1 := ⟨s.size - k, by omega⟩
  rw [hf]; unfold allF; rw [h]; dsimp only; rw [if_pos rfl]
theorem al_bad {rb : ByteArray → Int} {s : ByteArray} {k a : Nat} {ts : List Tk} {c : Int} {p : Nat} (hk : k ≤ s.size) (h : bl s k = some a) (ha : ¬ a = s.size) (hw : wordW rb s a = .bad c p) : al rb s k ts = .bad c p := by
  unfold al
  obtain ⟨f, hf⟩ : ∃ f, s.size + 1 - k = f + 1 := ⟨s.size - k, by omega⟩
  rw [hf]; unfold allF; rw [h]; dsimp only; rw [if_neg ha, hw]
theorem al_ok {rb : ByteArray → Int} {s : ByteArray} {k a e : Nat} {ts : List Tk} {t : Tk} (hk : k ≤ s.size) (h : bl s k = some a) (ha : ¬ a = s.size) (hw : wordW rb s a = .ok t e) : al rb s k ts = al rb s e (ts ++ [t]) := by
  have hab := bl_bound hk h
  have hwg := word_gt (by omega) hw
  unfold al
  obtain ⟨f, hf⟩ : ∃ f, s.size + 1 - k = f + 1 := ⟨s.size - k, by omega⟩
  rw [hf, show allF rb s (f + 1) k ts = allF rb s f e (ts ++ [t]) by conv => lhs; unfold allF; rw [h]; dsimp only; rw [if_neg ha, hw]]
  exact allF_fuel rb s _ _ _ _ (by omega) (by omega) (Nat.le_refl _)
theorem lexW_al (rb : ByteArray → Int) (s : ByteArray) (h : ¬ 65536 < s.size) : lexW rb s = al rb s 0 [] := by unfold lexW al; rw [if_neg h]; rfl
theorem lexW_long (rb : ByteArray → Int) (s : ByteArray) (h : 65536 < s.size) : lexW rb s = .bad 2 0 := by unfold lexW; rw [if_pos h]

/-! ### a row of words in memory -/
structure TL (w : World) (B : Nat) (v : Value) (ts : List Tk) : Prop where
  rw : RW w 7 v ts.length
  tk : ∀ j t, ts[j]? = some t → ∃ ng sa sn sc, vc w v (7 * j) = some (.int .i64 t.kind) ∧ vc w v (7 * j + 1) = some (.string t.text) ∧ vc w v (7 * j + 2) = some (.bool ng) ∧ vc w v (7 * j + 3) = some (.slice sa sn sc) ∧ vc w v (7 * j + 4) = some (.int .u64 t.bits) ∧ vc w v (7 * j + 5) = some (.int .i64 t.n) ∧ vc w v (7 * j + 6) = some (.int .i64 (t.pl : Int)) ∧
    NumAt w B ng (.slice sa sn sc) t.z ∧ ∀ g, v.ownBlock = some g → Off sa sn g
theorem TL.nil (w : World) (B : Nat) : TL w B (.slice none 0 0) [] := ⟨RW.nil w 7, fun j t h => by simp at h⟩
theorem NumAt.off {w : World} {B : Nat} {ng : Bool} {sa : Option Addr} {sn sc : Nat} {z : Int} (h : NumAt w B ng (.slice sa sn sc) z) {g : Nat} (hg : g < B) : Off sa sn g := by
  obtain ⟨a, l, e, ho, _⟩ := h
  simp only [Value.slice.injEq] at e
  obtain ⟨rfl, rfl, rfl⟩ := e
  intro hn b off s' hab
  obtain ⟨g', o', L, e', hB, _⟩ := ho.own hn
  rw [hab] at e'
  cases e'
  omega
theorem NumAt.offNew {w : World} {B : Nat} {ng : Bool} {sa : Option Addr} {sn sc : Nat} {z : Int} (h : NumAt w B ng (.slice sa sn sc) z) {g : Nat} (hg : w.heap.size ≤ g) : Off sa sn g := by
  obtain ⟨a, l, e, ho, _⟩ := h
  simp only [Value.slice.injEq] at e
  obtain ⟨rfl, rfl, rfl⟩ := e
  exact Off.of_lt ho.sl hg
theorem NumAt.gb {w w' : World} {B : Nat} {ng : Bool} {sa : Option Addr} {sn sc : Nat} {z : Int} {r : Option Nat} (h : NumAt w B ng (.slice sa sn sc) z) (hg : w.grownBy w' r) (hr : ∀ g, r = some g → Off sa sn g) : NumAt w' B ng (.slice sa sn sc) z := by
  obtain ⟨a, l, e, ho, h1⟩ := h
  simp only [Value.slice.injEq] at e
  obtain ⟨rfl, rfl, rfl⟩ := e
  exact ⟨sa, l, rfl, ho.kept hg hr, h1⟩
theorem NumAt.no {w w' : World} {B : Nat} {ng : Bool} {sa : Option Addr} {sn sc : Nat} {z : Int} (h : NumAt w B ng (.slice sa sn sc) z) (t : Tn No w w') : NumAt w' B ng (.slice sa sn sc) z := h.gb t.no (fun _ e => by cases e)
theorem TL.no {w w' : World} {B : Nat} {v : Value} {ts : List Tk} (h : TL w B v ts) (t : Tn No w w') : TL w' B v ts := by
  have hk : ∀ g, v.ownBlock = some g → w'.heap[g]? = w.heap[g]? := fun g hg => t.block g (h.rw.lt g hg) (fun e => e)
  refine ⟨h.rw.kept hk, fun j x hx => ?_⟩
  obtain ⟨ng, sa, sn, sc, a0, a1, a2, a3, a4, a5, a6, hN, ho⟩ := h.tk j x hx
  exact ⟨ng, sa, sn, sc, (vc_kept hk _).trans a0, (vc_kept hk _).trans a1, (vc_kept hk _).trans a2, (vc_kept hk _).trans a3, (vc_kept hk _).trans a4, (vc_kept hk _).trans a5, (vc_kept hk _).trans a6, hN.no t, ho⟩

theorem TL.mono {w : World} {B B' : Nat} {v : Value} {ts : List Tk} (h : TL w B v ts) (hB : B' ≤ B) : TL w B' v ts :=
  ⟨h.rw, fun j x hx => by
    obtain ⟨ng, sa, sn, sc, a0, a1, a2, a3, a4, a5, a6, hN, ho⟩ := h.tk j x hx
    exact ⟨ng, sa, sn, sc, a0, a1, a2, a3, a4, a5, a6, hN.mono hB, ho⟩⟩
/-- blocks ahead of B, and not its own, may turn -/
theorem TL.blocks {w w' : World} {B : Nat} {v : Value} {ts : List Tk} (h : TL w B v ts) (hz : w.heap.size ≤ w'.heap.size) (hown : ∀ g, v.ownBlock = some g → B ≤ g) (hk : ∀ b, B ≤ b → b < w.heap.size → w'.heap[b]? = w.heap[b]?) : TL w' B v ts := by
  have hk' : ∀ g, v.ownBlock = some g → w'.heap[g]? = w.heap[g]? := fun g hg => hk g (hown g hg) (h.rw.lt g hg)
  refine ⟨h.rw.kept hk', fun j x hx => ?_⟩
  obtain ⟨ng, sa, sn, sc, a0, a1, a2, a3, a4, a5, a6, hN, ho⟩ := h.tk j x hx
  exact ⟨ng, sa, sn, sc, (vc_kept hk' _).trans a0, (vc_kept hk' _).trans a1, (vc_kept hk' _).trans a2, (vc_kept hk' _).trans a3, (vc_kept hk' _).trans a4, (vc_kept hk' _).trans a5, (vc_kept hk' _).trans a6, hN.blocks hz hk, ho⟩

theorem tok_info : (Tryz.prog.info? 38).map (fun i => (i.zero, i.size, i.bytes)) = some (some (.agg #[.int .i64 0, .string ⟨#[]⟩, .bool false, .slice none 0 0, .int .u64 0, .int .i64 0, .int .i64 0]), 7, 80) := by kernel_rfl

/-- one more word -/
theorem tok_append {w : World} {B : Nat} {v : Value} {ts : List Tk} (h : TL w B v ts) (t : Tk) (ng : Bool) (sa : Option Addr) (sn sc B' : Nat) (hBB : B ≤ B') (hN : NumAt w B' ng (.slice sa sn sc) t.z) (hoff : ∀ g, v.ownBlock = some g → Off sa sn g) (hl : ts.length ≤ 65536) (o1 o2 : Obj) :
    ∃ va wa, (Builtin.append_ #[23, 23] 23 #[v, .slice (some ⟨w.heap.size + 2, 0, none⟩) 1 1]).run Tryz.prog (((w.alloc o1).alloc o2).alloc (.cells #[.int .i64 t.kind, .string t.text, .bool ng, .slice sa sn sc, .int .u64 t.bits, .int .i64 t.n, .int .i64 (t.pl : Int)] 38)) = .ok va wa ∧ TL wa B va (ts ++ [t]) ∧
      (∀ C, C ≤ w.heap.size → (∀ g, v.ownBlock = some g → C ≤ g) → (∀ g, va.ownBlock = some g → C ≤ g)) ∧ (∀ a, Tn No a w → (∀ g, v.ownBlock = some g → a.heap.size ≤ g) → Tn No a wa) := by
  obtain ⟨i, hi, hz0, hz1, hz2⟩ := info_parts tok_info
  obtain ⟨W, hW⟩ : ∃ W, ((w.alloc o1).alloc o2).alloc (.cells #[.int .i64 t.kind, .string t.text, .bool ng, .slice sa sn sc, .int .u64 t.bits, .int .i64 t.n, .int .i64 (t.pl : Int)] 38) = W := ⟨_, rfl⟩
  have tW : Tn No w W := by rw [← hW]; exact (((Tn.refl No w).alloc _).alloc _).alloc _
  have hzW : W.heap.size = w.heap.size + 3 := by rw [← hW]; simp
  have hcW : ∀ j, W.cell? ⟨w.heap.size + 2, j, none⟩ = (#[.int .i64 t.kind, .string t.text, .bool ng, .slice sa sn sc, .int .u64 t.bits, .int .i64 t.n, .int .i64 (t.pl : Int)] : Array Value)[j]? := fun j => by
    rw [← hW, World.cell?_alloc_at _ _ _ _ (by simp)]
  rw [hW]
  have hsrc : Src Tryz.prog 7 23 (.slice (some ⟨w.heap.size + 2, 0, none⟩) 1 1) 1 [.int .i64 t.kind, .string t.text, .bool ng, .slice sa sn sc, .int .u64 t.bits, .int .i64 t.n, .int .i64 (t.pl : Int)] W :=
    Src.ofSlice _ Tryz.underlying23 _ 1 1 _ rfl (fun j u hu => by rw [addr_add, hcW]; simpa using hu) (fun u hu => by simp at hu; rcases hu with rfl | rfl | rfl | rfl | rfl | rfl | rfl <;> rfl)
  obtain ⟨va, wa, hr, hrw, hold, hnew, hgr, hown⟩ := rw_append 23 38 i _ 7 80 Tryz.underlying23 hi hz0 hz1 hz2 rfl (h.no tW).rw hsrc (by unfold maxLen; omega) (by omega) (by omega)
  have hobl : ∀ g, va.ownBlock = some g → v.ownBlock = some g ∨ g = W.heap.size := fun g hg => by
    rcases hown with e | e
    · left; rw [← e]; exact hg
    · right; rw [e] at hg; cases hg; rfl
  refine ⟨va, wa, hr, ⟨by rw [List.length_append]; exact hrw, fun j x hx => ?_⟩, fun C hC hv g hg => ?_, fun a ta hv => (ta.then tW).grown hgr (fun i hi hlt => by have := hv i hi; omega)⟩
  · have fin : ∀ ng sa sn sc, NumAt w B ng (.slice sa sn sc) x.z → (∀ g, v.ownBlock = some g → Off sa sn g) → NumAt wa B ng (.slice sa sn sc) x.z ∧ ∀ g, va.ownBlock = some g → Off sa sn g := fun ng sa sn sc h1 h2 => by
      refine ⟨(h1.no tW).gb hgr h2, fun g hg => ?_⟩
      rcases hobl g hg with e | e
      · exact h2 g e
      · exact h1.offNew (by omega)
    by_cases hj : j < ts.length
    · rw [List.getElem?_append_left hj] at hx
      obtain ⟨ng, sa, sn, sc, a0, a1, a2, a3, a4, a5, a6, hN', ho⟩ := (h.no tW).tk j x hx
      obtain ⟨ng', sa', sn', sc', b0, b1, b2, b3, b4, b5, b6, hN'', ho'⟩ := h.tk j x hx
      have hkw : ∀ g, v.ownBlock = some g → W.heap[g]? = w.heap[g]? := fun g hg => tW.block g (h.rw.lt g hg) (fun e => e)
      have s2 := ((vc_kept hkw _).trans b2).symm.trans a2
      have s3 := ((vc_kept hkw _).trans b3).symm.trans a3
      simp only [Option.some.injEq, Value.bool.injEq, Value.slice.injEq] at s2 s3
      obtain ⟨rfl, rfl, rfl⟩ := s3
      subst s2
      obtain ⟨f1, f2⟩ := fin _ _ _ _ hN'' ho'
      exact ⟨_, _, _, _, by rw [hold _ (by omega)]; exact a0, by rw [hold _ (by omega)]; exact a1, by rw [hold _ (by omega)]; exact a2, by rw [hold _ (by omega)]; exact a3, by rw [hold _ (by omega)]; exact a4, by rw [hold _ (by omega)]; exact a5, by rw [hold _ (by omega)]; exact a6, f1, f2⟩
    · have hj2 : j = ts.length := by
        have := (List.getElem?_eq_some_iff.1 hx).1
        simp at this
        omega
      subst hj2
      have : x = t := by simpa using hx.symm
      subst this
      obtain ⟨f1, f2⟩ := fin ng sa sn sc (hN.mono hBB) hoff
      refine ⟨ng, sa, sn, sc, ?_, ?_, ?_, ?_, ?_, ?_, ?_, f1, f2⟩
      · rw [show 7 * ts.length = ts.length * 7 + 0 by omega, hnew 0 (by simp)]; rfl
      · rw [show 7 * ts.length + 1 = ts.length * 7 + 1 by omega, hnew 1 (by simp)]; rfl
      · rw [show 7 * ts.length + 2 = ts.length * 7 + 2 by omega, hnew 2 (by simp)]; rfl
      · rw [show 7 * ts.length + 3 = ts.length * 7 + 3 by omega, hnew 3 (by simp)]; rfl
      · rw [show 7 * ts.length + 4 = ts.length * 7 + 4 by omega, hnew 4 (by simp)]; rfl
      · rw [show 7 * ts.length + 5 = ts.length * 7 + 5 by omega, hnew 5 (by simp)]; rfl
      · rw [show 7 * ts.length + 6 = ts.length * 7 + 6 by omega, hnew 6 (by simp)]; rfl
  · rcases hobl g hg with e | e
    · exact hv g e
    · omega
end Go.Proofs.YtcmhfeeocehlaaaGreatDoor
namespace Go.Proofs.YtcmhfeeocehlaaaGreatDoor
set_option linter.unusedSimpArgs false
set_option linter.unusedVariables false
open Go.RowKit Go.PlainAid
attribute [local go_sem ↓] Go.wp_at_zero Go.wp_at_succ

/-- the reals of a text have bits -/
def RBs (rb : ByteArray → Int) (s : ByteArray) (w : World) : Prop := ∀ a, a < s.size → isL (bt s a) = false → isNum s a = true → ¬ numE s a = whole s a → ¬ 100 < numE s a - a → RBW w (s.extract a (numE s a)) (rb (s.extract a (numE s a)))
theorem RBs.no {rb : ByteArray → Int} {s : ByteArray} {w u : World} (h : RBs rb s w) (t : Tn No w u) : RBs rb s u := fun a h1 h2 h3 h4 h5 => (h a h1 h2 h3 h4 h5).no t
/-- what Tokens answers -/
def TPost (w : World) (o : Ls) (e : Ending) (w' : World) : Prop := Tn No w w' ∧ match o with
  | .bad c p => e = .returned (.tuple #[.slice none 0 0, msV c (p : Int)])
  | .ok ts => ∃ a c, e = .returned (.tuple #[.slice a ts.length c, msV 0 0]) ∧ TL w' w.heap.size (.slice a ts.length c) ts ∧ ∀ g, (Value.slice a ts.length c).ownBlock = some g → w.heap.size ≤ g
theorem TL.form {w : World} {B : Nat} {v : Value} {ts : List Tk} (h : TL w B v ts) : ∃ a c, v = .slice a ts.length c := by
  obtain ⟨a, c, e, _⟩ := h.rw.form
  exact ⟨a, c, e⟩
theorem word_code {rb : ByteArray → Int} {s : ByteArray} {a : Nat} {c : Int} {p : Nat} (h : wordW rb s a = .bad c p) : ¬ c = 0 := by
  have hl : ∀ {k a e m c p}, limd k s a e m = .bad c p → ¬ c = 0 := fun {k a e m c p} h => by
    unfold limd at h
    split at h
    · cases h; decide
    · cases h
  unfold wordW at h
  split at h
  · rw [nameW_eq] at h
    split at h
    · cases h
    · cases hm : nm s (run isN s a) with
      | inl q => rw [hm] at h; cases h; decide
      | inr e' => rw [hm] at h; exact hl h
  · split at h
    · unfold numW at h
      split at h
      · split at h
        · cases h; decide
        · cases h
      · split at h
        · cases h; decide
        · cases h
    · split at h
      · unfold textW at h
        split at h
        · rename_i hq; cases h
          rcases qu_bad hq with e | e <;> omega
        · cases h
      · split at h
        · unfold charW at h
          split at h
          · rename_i hq; cases h
            rcases qu_bad hq with e | e <;> omega
          · split at h
            · cases h
            · cases h; decide
        · split at h
          · unfold tyvW at h
            split at h
            · exact hl h
            · cases h; decide
          · split at h
            · cases h
            · split at h
              · unfold symW at h
                split at h
                · cases h
                · exact hl h
              · cases h; decide

set_option maxHeartbeats 4000000 in
set_option maxRecDepth 100000 in
theorem tokens_raw (rb : ByteArray → Int) (s : ByteArray) (w : World) (hm : s.size ≤ 9223372036854775807) (hrb : RBs rb s w) :
    Calls Tryz.prog 8 #[.string s] w (TPost w (lexW rb s)) := by
  by_cases hlong : 65536 < s.size
  · rw [lexW_long rb s hlong]
    clear hrb
    go_enter Tryz.func8, Tryz.ntmps8
    go_wp2_with fail
    refine bodyPost_ret (v := .tuple #[.slice none 0 0, msV 2 0]) (by simp [results, Tryz.results8, go_sem, msV]) rfl ?_
    exact ⟨(by repeat (first | exact Tn.refl _ _ | apply Tn.drew | apply Tn.drewN | apply Tn.alloc | (refine Tn.then ?_ (by assumption)) | (refine Tn.thenNo ?_ (by assumption)))), rfl⟩
  have hs : s.size ≤ 65536 := by omega
  rw [lexW_al rb s hlong]
  obtain ⟨R, hR⟩ : ∃ R, al rb s 0 [] = R := ⟨_, rfl⟩
  rw [hR]
  have HR := hid hR
  have HRB := hid hrb
  clear hR hrb hlong
  go_enter Tryz.func8, Tryz.ntmps8
  go_wp2_with fail
  go_loopw [4, 5] (fun v i wr => ∃ (k : Nat) (ts : List Tk), k ≤ s.size ∧ i = .int .i64 (k : Int) ∧ TL wr (w.heap.size + 1) v ts ∧ ts.length ≤ k ∧ (∀ g, v.ownBlock = some g → w.heap.size + 1 ≤ g) ∧ Tn No (w.alloc (.cells #[.int .i64 0, .int .i64 0] 26)) wr ∧ Hid (al rb s k ts = R)) (fun _ i _ => s.size + 1 - (intOf i).toNat)
  case atStart => exact ⟨0, [], by omega, rfl, TL.nil _ _, by simp, fun g hg => (by cases hg), Tn.refl _ _, HR⟩
  case round =>
    obtain ⟨k, ts, hk, rfl, htl, hlk, hob, ht, HP⟩ := hrel
    obtain ⟨av, cv, rfl⟩ := htl.form
    obtain ⟨k2, f2, hz⟩ := one_block ht
    have k20 := k2 0
    have k21 := k2 1
    simp at k20 k21
    clear k2 HR
    have hbl := fun w => blanks_raw s k w (by omega) hk
    cases hb : bl s k with
    | none =>
      rw [hb] at hbl
      have HB := hid hbl
      have hq := al_none (rb := rb) (ts := ts) hk hb
      have hR : R = .bad 31 s.size := by rw [← HP.out, hq]
      subst hR
      have HT := hid ht
      clear HP hq hb hbl ht hob htl
      go_wp2_with (go_at_call 14; refine (HB.out _).mono ?_; rintro e w' ⟨rfl, rfl⟩; simp only [optRes])
      refine bodyPost_ret (v := .tuple #[.slice none 0 0, msV 31 (s.size : Int)]) (by obtain ⟨q0, q1⟩ := set2_cells (u0 := .int .i64 31) (u1 := .int .i64 (s.size : Int)) k20 k21; simp [results, Tryz.results8, go_sem, msV, q0, q1]) rfl ?_
      exact ⟨set2_tn HT.out, rfl⟩
    | some a =>
      rw [hb] at hbl
      have HB := hid hbl
      have hab := bl_bound hk hb
      by_cases hae : a = s.size
      · subst hae
        have hq := al_end (rb := rb) (ts := ts) hk hb
        have hR : R = .ok ts := by rw [← HP.out, hq]
        subst hR
        have HT := hid ht
        have HTL := hid htl
        have HOB := hid hob
        clear HP hq hb hbl ht hob htl
        go_wp2_with (go_at_call 14; refine (HB.out _).mono ?_; rintro e w' ⟨rfl, rfl⟩; simp only [optRes])
        refine bodyPost_ret (v := .tuple #[.slice av ts.length cv, msV 0 0]) (by obtain ⟨q0, q1⟩ := set2_cells (u0 := .int .i64 0) (u1 := .int .i64 0) k20 k21; simp [results, Tryz.results8, go_sem, msV, q0, q1]) rfl ?_
        refine ⟨set2_tn HT.out, av, cv, rfl, ?_, fun g hg => by have := HOB.out g hg; omega⟩
        refine (HTL.out.blocks (by simp) HOB.out (fun b hb _ => ?_)).mono (by omega)
        rw [Below.heap_setCell _ _ _ _ (by show b ≠ w.heap.size; omega), Below.heap_setCell _ _ _ _ (by show b ≠ w.heap.size; omega)]
      · have hlt : a < s.size := by omega
        have hwd := fun (w' : World) (t : Tn No w w') => word_raw rb s a w' hs hlt (HRB.out.no t a hlt)
        have hnb : ((a : Int) == (s.size : Int)) = false := by rw [beq_eq_false_iff_ne]; omega
        cases hw : wordW rb s a with
        | bad c p =>
          rw [hw] at hwd
          have HW := hid hwd
          have hc := word_code hw
          have hcb : (c != 0) = true := by simpa using hc
          have hq := al_bad (ts := ts) hk hb hae hw
          have hR : R = .bad c p := by rw [← HP.out, hq]
          subst hR
          have HT := hid ht
          clear HP hq hb hbl ht hob htl hwd hw hae
          go_wp2_with (first
            | (go_at_call 14; refine (HB.out _).mono ?_; rintro e w' ⟨rfl, rfl⟩; simp only [optRes])
            | (go_at_call 15; refine (HW.out _ (by first | exact Tn.thenNo ((Tn.refl No w).alloc _) HT.out | exact (Tn.thenNo ((Tn.refl No w).alloc _) HT.out).drew)).mono ?_; rintro e w1 ⟨ht1, k1, x1, ng1, sa1, sn1, sc1, b1, n1, p1, en1, c1, pp1, rfl, rfl, rfl, rfl, hsl, rfl, rfl, rfl, rfl, rfl, rfl⟩; cases hsl; simp only [tkV, msV]; have ht2 := HT.out.thenNo ht1; obtain ⟨k3, f3, hz3⟩ := one_block ht2; have k30 := k3 0; have k31 := k3 1; simp at k30 k31; have HT2 := hid ht2; have hzA := Nat.lt_of_lt_of_le (Nat.lt_succ_self _) hz3; clear k3 ht2 ht1))
          go_region
          all_goals go_wp2_with fail
          refine bodyPost_ret (v := .tuple #[.slice none 0 0, msV c1 (p : Int)]) (by obtain ⟨q0, q1⟩ := set2_cells (u0 := .int .i64 c1) (u1 := .int .i64 (p : Int)) k30 k31; simp [results, Tryz.results8, go_sem, msV, q0, q1, hzA]) rfl ?_
          exact ⟨(((set2_tn HT2.out).alloc _).alloc _).drew, rfl⟩
        | ok t e' =>
          rw [hw] at hwd
          have HW := hid hwd
          have hwg := word_gt hlt hw
          have HQ := hid ((al_ok (ts := ts) hk hb hae hw).symm.trans HP.out)
          have HT := hid ht
          have HTL := hid htl
          have HOB := hid hob
          clear HP hb hbl ht hob htl hwd hw hae
          go_wp2_with (first
            | (go_at_call 14; refine (HB.out _).mono ?_; rintro e w' ⟨rfl, rfl⟩; simp only [optRes])
            | (go_at_call 15; refine (HW.out _ (by first | exact Tn.thenNo ((Tn.refl No w).alloc _) HT.out | exact (Tn.thenNo ((Tn.refl No w).alloc _) HT.out).drew)).mono ?_; rintro e w1 ⟨ht1, k1, x1, ng1, sa1, sn1, sc1, b1, n1, p1, en1, c1, pp1, rfl, rfl, rfl, rfl, rfl, rfl, rfl, rfl, rfl, hN⟩; simp only [tkV, msV]; obtain ⟨va, wa, hr, htl', hown', htn'⟩ := tok_append (HTL.out.no ht1) t ng1 sa1 sn1 sc1 _ (by omega) hN (fun g hg => hN.off (HTL.out.rw.lt g hg)) (by omega) (.cells #[.int .i64 t.kind, .string t.text, .bool ng1, .slice sa1 sn1 sc1, .int .u64 t.bits, .int .i64 t.n, .int .i64 (t.pl : Int)] 38) (.cells #[.int .i64 0, .int .i64 0] 26); have HRUN := hid hr; have HREL := hid (And.intro htl' (And.intro (hown' (w.heap.size + 1) (by have := ht1.size; omega) HOB.out) (htn' _ (HT.out.thenNo ht1) (by simpa using HOB.out)))); clear hr htl' hown' htn' hN ht1)
            | (at_builtin; refine wpList_app _ rfl _ _ _ _ rfl _ _ rfl rfl va wa HRUN.out ?_))
          refine ⟨⟨e', ts ++ [t], hwg.2, rfl, HREL.out.1, by simp; omega, HREL.out.2.1, HREL.out.2.2, HQ⟩, ?_⟩
          simp [intOf]; omega
end Go.Proofs.YtcmhfeeocehlaaaGreatDoor
namespace Go.Proofs.YtcmhfeeocehlaaaGreatDoor
set_option linter.unusedSimpArgs false
set_option linter.unusedVariables false
open Go.RowKit Go.PlainAid
attribute [local go_sem ↓] Go.wp_at_zero Go.wp_at_succ

set_option maxRecDepth 100000 in
theorem aw_whole : ∀ a, a < 27 → isNum awT a = true → numE awT a = whole awT a := by decide
theorem aw_reals (rb : ByteArray → Int) (w : World) : RBs rb awT w := fun a ha _ hn hne _ => absurd (aw_whole a ha hn) hne
theorem aw_five (rb : ByteArray → Int) : ∃ ts t1 t2 t3 t4, lexW rb awT = .ok ts ∧ ts.length = 5 ∧ ts[1]? = some t1 ∧ ts[2]? = some t2 ∧ ts[3]? = some t3 ∧ ts[4]? = some t4 ∧ t1.text.data.toList = [65, 46, 120, 39] ∧ t2.kind = 8 ∧ t3.kind = 4 ∧ t4.n = 98 := by
  have h := aw_kinds rb
  cases hl : lexW rb awT with
  | bad c p => rw [hl] at h; simp [kindsOf] at h
  | ok l =>
    rw [hl] at h
    unfold kindsOf at h
    match l, h with
    | [t0, t1, t2, t3, t4], h =>
      simp only [List.map_cons, List.map_nil, List.cons.injEq, Prod.mk.injEq, and_true] at h
      exact ⟨_, t1, t2, t3, t4, rfl, rfl, rfl, rfl, rfl, rfl, h.2.1.2.1, h.2.2.1.1, h.2.2.2.1.1, h.2.2.2.2.2.2.2.1⟩

set_option maxHeartbeats 2000000 in
set_option maxRecDepth 100000 in
theorem awake_raw (w : World) : Calls Tryz.prog 7 #[] w fun e w' => e = .returned (.bool true) ∧ Tn No w w' := by
  obtain ⟨ts, t1, t2, t3, t4, hl, hlen, g1, g2, g3, g4, x1, x2, x3, x4⟩ := aw_five (fun _ => 0)
  have htk := fun w => tokens_raw (fun _ => 0) awT w (by decide) (aw_reals _ _)
  rw [hl] at htk
  have HTK := hid htk
  have hq : (t1.text.toList == [65, 46, 120, 39]) = true := by rw [Lib.toList_data, x1]; rfl
  have HG := hid (And.intro g1 (And.intro g2 (And.intro g3 g4)))
  have HLEN := hid hlen
  clear htk hl g1 g2 g3 g4 x1 hlen
  unfold awT at HTK
  go_enter Tryz.func7, Tryz.ntmps7
  go_wp2_with (go_at_call 8; refine (HTK.out _).mono ?_; rintro e w1 ⟨ht, av, cv, rfl, htl, hob⟩; rw [HLEN.out] at htl ⊢; obtain ⟨g, cap, hv, hgl, hnc, hcm, _⟩ := RW.pos (HLEN.out ▸ htl.rw) (by omega); cases hv; obtain ⟨_, _, _, _, _, a1, _⟩ := htl.tk 1 t1 HG.out.1; obtain ⟨_, _, _, _, a2, _⟩ := htl.tk 2 t2 HG.out.2.1; obtain ⟨_, _, _, _, a3, _⟩ := htl.tk 3 t3 HG.out.2.2.1; obtain ⟨_, _, _, _, _, _, _, _, _, a4, _⟩ := htl.tk 4 t4 HG.out.2.2.2; rw [x2] at a2; rw [x3] at a3; rw [x4] at a4; have c1 : w1.cell? ⟨g, 8, none⟩ = some (.string t1.text) := a1; have c2 : w1.cell? ⟨g, 14, none⟩ = some (.int .i64 8) := a2; have c3 : w1.cell? ⟨g, 21, none⟩ = some (.int .i64 4) := a3; have c4 : w1.cell? ⟨g, 33, none⟩ = some (.int .i64 98) := a4; have HT := hid ht; clear a1 a2 a3 a4 htl hob ht; simp only [msV])
  go_ret
  exact ⟨rfl, HT.out.alloc _⟩

set_option maxHeartbeats 2000000 in
set_option maxRecDepth 100000 in
theorem lexReserved_walk (s : ByteArray) (w : World) : Calls Tryz.prog 4 #[.string s] w fun e w' => e = .returned (.bool true) ∧ Tn No w w' := by
  have HR := hid (fun w => reserved_raw s w)
  have HR2 := hid (fun w => rreserved_raw s w)
  obtain ⟨b, hb⟩ : ∃ b, resv s.data.toList = b := ⟨_, rfl⟩
  rw [hb] at HR HR2
  clear hb
  go_enter Tryz.func4, Tryz.ntmps4
  go_wp2_with (first
    | (go_at_call 7; refine (awake_raw _).mono ?_; rintro e w1 ⟨rfl, ht⟩)
    | (go_at_call 11; refine (HR.out _).mono ?_; rintro e w' ⟨rfl, rfl⟩)
    | (go_at_call 12; refine (HR2.out _).mono ?_; rintro e w' ⟨rfl, rfl⟩))
  all_goals (go_ret; exact ⟨by simp, ht⟩)
end Go.Proofs.YtcmhfeeocehlaaaGreatDoor
