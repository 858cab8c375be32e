/-
  Words as they stand: refused, laid, limited in length.
-/
import Derived.Test.YtcmhfeeocehlaaaGreatDoorSpecA
import Derived.Test.YtcmhfeeocehlaaaGreatDoorRes
import Derived.Test.YtcmhfeeocehlaaaGreatDoorBigB
import Derived.Test.YtcmhfeeocehlaaaGreatDoorBigC
namespace Go.Proofs.YtcmhfeeocehlaaaGreatDoor
set_option linter.unusedSimpArgs false
set_option linter.unusedVariables false
open Go.RowKit Go.PlainAid
attribute [local go_sem ↓] Go.wp_at_zero Go.wp_at_succ

def tkV (k : Int) (x : ByteArray) (ng : Bool) (sl : Value) (b n p : Int) : Value := .agg #[.int .i64 k, .string x, .bool ng, sl, .int .u64 b, .int .i64 n, .int .i64 p]
def noTk : Value := tkV 0 ⟨#[]⟩ false (.slice none 0 0) 0 0 0
def msV (c p : Int) : Value := .agg #[.int .i64 c, .int .i64 p]

/-- the number z, in new memory -/
def NumAt (w : World) (B : Nat) (ng : Bool) (sl : Value) (z : Int) : Prop := ∃ a l, sl = .slice a l.length l.length ∧ OW w B a l.length l.length l ∧ Nrm l ∧ (ng = true → l ≠ []) ∧ iv ng l = z

/-- what lies in a block that has been left alone -/
theorem blk_facts {w1 : World} {g : Nat} {C : Array Value} {t : TypeId} (h : w1.heap[g]? = some (.cells C t (0, 0))) : (∀ i, w1.cell? ⟨g, i, none⟩ = C[i]?) ∧ ∀ i, w1.frozen? ⟨g, i, none⟩ = false := by
  refine ⟨fun i => ?_, fun i => ?_⟩
  · simp [World.cell?, h]
  · simp [World.frozen?, h]
theorem two_blocks {w w1 : World} {C D : Array Value} {t u : TypeId} (ht : Tn No ((w.alloc (.cells C t)).alloc (.cells D u)) w1) :
    ((∀ i, w1.cell? ⟨w.heap.size, i, none⟩ = C[i]?) ∧ ∀ i, w1.frozen? ⟨w.heap.size, i, none⟩ = false) ∧ ((∀ i, w1.cell? ⟨w.heap.size + 1, i, none⟩ = D[i]?) ∧ ∀ i, w1.frozen? ⟨w.heap.size + 1, i, none⟩ = false) ∧ (∀ i, i < C.size → (w1.cell? ⟨w.heap.size, i, none⟩).isSome = true) ∧ (∀ i, i < D.size → (w1.cell? ⟨w.heap.size + 1, i, none⟩).isSome = true) ∧ w.heap.size + 2 ≤ w1.heap.size := by
  have hz := ht.size
  simp at hz
  have e1 : w1.heap[w.heap.size]? = some (.cells C t (0, 0)) := by
    rw [ht.block _ (by simp; omega) (fun e => e), Below.heap_alloc _ _ _ (by simp)]
    exact heap_alloc_new w _
  have e2 : w1.heap[w.heap.size + 1]? = some (.cells D u (0, 0)) := by
    rw [ht.block _ (by simp) (fun e => e)]
    have := heap_alloc_new (w.alloc (.cells C t)) (.cells D u)
    simpa using this
  have b1 := blk_facts e1
  have b2 := blk_facts e2
  refine ⟨b1, b2, fun i hi => ?_, fun i hi => ?_, by omega⟩
  · rw [b1.1, Array.getElem?_eq_getElem hi]; rfl
  · rw [b2.1, Array.getElem?_eq_getElem hi]; rfl
/-- a word and a mishap laid into two blocks -/
def put9 (w : World) (g h : Nat) (v0 v1 v2 v3 v4 v5 v6 u0 u1 : Value) : World :=
  ((((((((w.setCell ⟨g, 0, none⟩ v0).setCell ⟨g, 1, none⟩ v1).setCell ⟨g, 2, none⟩ v2).setCell ⟨g, 3, none⟩ v3).setCell ⟨g, 4, none⟩ v4).setCell ⟨g, 5, none⟩ v5).setCell ⟨g, 6, none⟩ v6).setCell ⟨h, 0, none⟩ u0).setCell ⟨h, 1, none⟩ u1
theorem cell_set_ne {w : World} {g h i j : Nat} {v : Value} (hn : g ≠ h ∨ i ≠ j) : (w.setCell ⟨h, j, none⟩ v).cell? ⟨g, i, none⟩ = w.cell? ⟨g, i, none⟩ :=
  World.cell?_setCell_other w _ _ _ (by intro e; cases e; rcases hn with h | h <;> exact h rfl)
theorem some_set {w : World} {g h i j : Nat} {v : Value} (hs : (w.cell? ⟨g, i, none⟩).isSome = true) : ((w.setCell ⟨h, j, none⟩ v).cell? ⟨g, i, none⟩).isSome = true := by
  by_cases hn : g ≠ h ∨ i ≠ j
  · rw [cell_set_ne hn]; exact hs
  · obtain ⟨rfl, rfl⟩ : g = h ∧ i = j := ⟨by omega, by omega⟩
    obtain ⟨u, hu⟩ := Option.isSome_iff_exists.1 hs
    rw [World.cell?_setCell_same _ _ _ hu]; rfl
theorem set_same {w : World} {g i : Nat} {v : Value} (hs : (w.cell? ⟨g, i, none⟩).isSome = true) : (w.setCell ⟨g, i, none⟩ v).cell? ⟨g, i, none⟩ = some v := by
  obtain ⟨u, hu⟩ := Option.isSome_iff_exists.1 hs
  exact World.cell?_setCell_same _ _ _ hu
theorem put9_facts {w : World} {g h : Nat} {v0 v1 v2 v3 v4 v5 v6 u0 u1 : Value} (hgh : g ≠ h) (hg : ∀ i, i < 7 → (w.cell? ⟨g, i, none⟩).isSome = true) (hh : ∀ i, i < 2 → (w.cell? ⟨h, i, none⟩).isSome = true) :
    (put9 w g h v0 v1 v2 v3 v4 v5 v6 u0 u1).cell? ⟨g, 0, none⟩ = some v0 ∧ (put9 w g h v0 v1 v2 v3 v4 v5 v6 u0 u1).cell? ⟨g, 1, none⟩ = some v1 ∧ (put9 w g h v0 v1 v2 v3 v4 v5 v6 u0 u1).cell? ⟨g, 2, none⟩ = some v2 ∧ (put9 w g h v0 v1 v2 v3 v4 v5 v6 u0 u1).cell? ⟨g, 3, none⟩ = some v3 ∧
    (put9 w g h v0 v1 v2 v3 v4 v5 v6 u0 u1).cell? ⟨g, 4, none⟩ = some v4 ∧ (put9 w g h v0 v1 v2 v3 v4 v5 v6 u0 u1).cell? ⟨g, 5, none⟩ = some v5 ∧ (put9 w g h v0 v1 v2 v3 v4 v5 v6 u0 u1).cell? ⟨g, 6, none⟩ = some v6 ∧
    (put9 w g h v0 v1 v2 v3 v4 v5 v6 u0 u1).cell? ⟨h, 0, none⟩ = some u0 ∧ (put9 w g h v0 v1 v2 v3 v4 v5 v6 u0 u1).cell? ⟨h, 1, none⟩ = some u1 := by
  unfold put9
  refine ⟨?_, ?_, ?_, ?_, ?_, ?_, ?_, ?_, ?_⟩
  all_goals (repeat rw [cell_set_ne (by omega)])
  all_goals (refine set_same ?_; repeat (refine some_set ?_))
  all_goals (first | exact hg _ (by omega) | exact hh _ (by omega))
theorem put9_tn {a w : World} {g h : Nat} {v0 v1 v2 v3 v4 v5 v6 u0 u1 : Value} (t : Tn No a w) (hg : a.heap.size ≤ g) (hh : a.heap.size ≤ h) : Tn No a (put9 w g h v0 v1 v2 v3 v4 v5 v6 u0 u1) := by
  unfold put9
  repeat (refine Tn.set ?_ _ _ (by intro e; simp at e; omega))
  exact t
theorem put9_other {w : World} {g h k : Nat} {v0 v1 v2 v3 v4 v5 v6 u0 u1 : Value} (hg : k ≠ g) (hh : k ≠ h) : (put9 w g h v0 v1 v2 v3 v4 v5 v6 u0 u1).heap[k]? = w.heap[k]? := by
  unfold put9
  repeat rw [Below.heap_setCell _ _ _ _ (by first | exact hg | exact hh)]
theorem put9_gb {w : World} {g h : Nat} {v0 v1 v2 v3 v4 v5 v6 u0 u1 : Value} : (put9 w g h v0 v1 v2 v3 v4 v5 v6 u0 u1).heap.size = w.heap.size := by
  unfold put9
  simp

theorem put9_all {w : World} {g h : Nat} {v0 v1 v2 v3 v4 v5 v6 u0 u1 : Value} (G : World → Prop) (hgh : g ≠ h) (hg : ∀ i, i < 7 → (w.cell? ⟨g, i, none⟩).isSome = true) (hh : ∀ i, i < 2 → (w.cell? ⟨h, i, none⟩).isSome = true)
    (k : ∀ W, (W.cell? ⟨g, 0, none⟩ = some v0 ∧ W.cell? ⟨g, 1, none⟩ = some v1 ∧ W.cell? ⟨g, 2, none⟩ = some v2 ∧ W.cell? ⟨g, 3, none⟩ = some v3 ∧ W.cell? ⟨g, 4, none⟩ = some v4 ∧ W.cell? ⟨g, 5, none⟩ = some v5 ∧ W.cell? ⟨g, 6, none⟩ = some v6 ∧ W.cell? ⟨h, 0, none⟩ = some u0 ∧ W.cell? ⟨h, 1, none⟩ = some u1) →
      (∀ b, b ≠ g → b ≠ h → W.heap[b]? = w.heap[b]?) → W.heap.size = w.heap.size → (∀ a, Tn No a w → a.heap.size ≤ g → a.heap.size ≤ h → Tn No a W) → G W) : G (put9 w g h v0 v1 v2 v3 v4 v5 v6 u0 u1) :=
  k _ (put9_facts hgh hg hh) (fun b h1 h2 => put9_other h1 h2) put9_gb (fun a t h1 h2 => put9_tn t h1 h2)

/-- a block left alone keeps a slice that lies in it -/
theorem SL.blocks {w w' : World} {a : Option Addr} {n c : Nat} {l : List Nat} (h : SL w a n c l) (hz : w.heap.size ≤ w'.heap.size) (hk : ∀ b off, 0 < n → a = some ⟨b, off, none⟩ → w'.heap[b]? = w.heap[b]?) : SL w' a n c l := by
  obtain ⟨h1, h2, h3, h3', h4, h5, b, off, ha, hc⟩ := h
  refine ⟨h1, h2, h3, h3', h4, h5, b, off, fun h => ⟨(ha h).1, Nat.lt_of_lt_of_le (ha h).2 hz⟩, fun j hj => ?_⟩
  rw [World.cell?_of_block (w := w) (a := ⟨b, off + j, none⟩) (hk b off (by omega) (ha (by omega)).1)]
  exact hc j hj
theorem OW.blocks {w w' : World} {B : Nat} {a : Option Addr} {n c : Nat} {l : List Nat} (h : OW w B a n c l) (hz : w.heap.size ≤ w'.heap.size) (hk : ∀ b, B ≤ b → b < w.heap.size → w'.heap[b]? = w.heap[b]?) : OW w' B a n c l := by
  have hb : 0 < n → ∀ b off, a = some ⟨b, off, none⟩ → B ≤ b ∧ b < w.heap.size := fun hn b off e => by
    obtain ⟨g, o, L, e', hB, hr, _⟩ := h.own hn
    rw [e] at e'; cases e'
    exact ⟨hB, hr.lt⟩
  refine ⟨h.sl.blocks hz (fun b off hn e => hk b (hb hn b off e).1 (hb hn b off e).2), fun hn => ?_⟩
  obtain ⟨g, o, L, e', hB, hr, hl⟩ := h.own hn
  obtain ⟨sp, hsp⟩ := hr
  exact ⟨g, o, L, e', hB, ⟨sp, (hk g hB (hb hn g o e').2).trans hsp⟩, hl⟩
theorem NumAt.blocks {w w' : World} {B : Nat} {ng : Bool} {sl : Value} {z : Int} (h : NumAt w B ng sl z) (hz : w.heap.size ≤ w'.heap.size) (hk : ∀ b, B ≤ b → b < w.heap.size → w'.heap[b]? = w.heap[b]?) : NumAt w' B ng sl z := by
  obtain ⟨a, l, e, ho, h⟩ := h
  exact ⟨a, l, e, ho.blocks hz hk, h⟩
theorem NumAt.mono {w : World} {B B' : Nat} {ng : Bool} {sl : Value} {z : Int} (h : NumAt w B ng sl z) (hB : B' ≤ B) : NumAt w B' ng sl z := by
  obtain ⟨a, l, e, ho, h⟩ := h
  exact ⟨a, l, e, ho.mono hB, h⟩
theorem NumAt.form {w : World} {B : Nat} {ng : Bool} {sl : Value} {z : Int} (h : NumAt w B ng sl z) : ∃ a n c, sl = .slice a n c := by
  obtain ⟨a, l, e, _⟩ := h
  exact ⟨_, _, _, e⟩
theorem NumAt.nil (w : World) (B : Nat) : NumAt w B false (.slice none 0 0) 0 := ⟨none, [], rfl, OW.nil' w B, by simp [Nrm], (by intro h; cases h), by simp [iv, val]⟩
/-- what stands in what is answered -/
def Sh (w w' : World) (o : Wd) (k : Int) (x : ByteArray) (ng : Bool) (sl : Value) (b n p en c q : Int) : Prop := match o with
  | .bad c' p' => k = 0 ∧ x = ⟨#[]⟩ ∧ ng = false ∧ sl = .slice none 0 0 ∧ b = 0 ∧ n = 0 ∧ p = 0 ∧ en = 0 ∧ c = c' ∧ q = (p' : Int)
  | .ok t e' => k = t.kind ∧ x = t.text ∧ b = t.bits ∧ n = t.n ∧ p = (t.pl : Int) ∧ en = (e' : Int) ∧ c = 0 ∧ q = 0 ∧ NumAt w' w.heap.size ng sl t.z
def WPost (w : World) (o : Wd) (e : Ending) (w' : World) : Prop := Tn No w w' ∧ ∃ k x ng sa sn sc b n p en c q,
  e = .returned (.tuple #[tkV k x ng (.slice sa sn sc) b n p, .int .i64 en, msV c q]) ∧ Sh w w' o k x ng (.slice sa sn sc) b n p en c q
theorem Sh.pass {w w0 w1 W : World} {o : Wd} {k : Int} {x : ByteArray} {ng : Bool} {sl : Value} {b n p en c q : Int} (h : Sh w0 w1 o k x ng sl b n p en c q) (hoth : ∀ b, b ≠ w.heap.size → b ≠ w.heap.size + 1 → W.heap[b]? = w1.heap[b]?) (hz : W.heap.size = w1.heap.size)
    (h0 : w.heap.size ≤ w0.heap.size) (h1 : w.heap.size + 2 ≤ w0.heap.size) : Sh w W o k x ng sl b n p en c q := by
  cases o with
  | bad c' p' => exact h
  | ok t e' =>
    obtain ⟨a1, a2, a3, a4, a5, a6, a7, a8, hN⟩ := h
    exact ⟨a1, a2, a3, a4, a5, a6, a7, a8, (hN.blocks (by omega) (fun b h2 _ => hoth b (by omega) (by omega))).mono h0⟩

theorem ext_size2 (s : ByteArray) (a e : Nat) (he : e ≤ s.size) : (s.extract a e).size = e - a := by
  rw [Lib.size_eq, ext_list, List.length_drop, List.length_take, ← Lib.size_eq]; omega

set_option maxHeartbeats 1000000 in
set_option maxRecDepth 100000 in
theorem failed_raw (c : Int) (p : Nat) (w : World) : Calls Tryz.prog 37 #[.int .i64 c, .int .i64 (p : Int)] w (WPost w (.bad c p)) := by
  go_enter Tryz.func37, Tryz.ntmps37
  go_wp2
  refine bodyPost_ret (v := .tuple #[noTk, .int .i64 0, msV c (p : Int)]) (by simp [results, Tryz.results37, go_sem, noTk, tkV, msV]) rfl ?_
  exact ⟨(by repeat (first | exact Tn.refl _ _ | apply Tn.drew | apply Tn.drewN | apply Tn.alloc | (refine Tn.then ?_ (by assumption)) | (refine Tn.thenNo ?_ (by assumption)))), _, _, _, _, _, _, _, _, _, _, _, _, rfl, rfl, rfl, rfl, rfl, rfl, rfl, rfl, rfl, rfl, rfl⟩

set_option maxHeartbeats 1000000 in
set_option maxRecDepth 100000 in
theorem stands_raw (k : Int) (s : ByteArray) (a e : Nat) (w : World) (hs : s.size ≤ 65536) (ha : a ≤ e) (he : e ≤ s.size) :
    Calls Tryz.prog 34 #[.int .i64 k, .string s, .int .i64 (a : Int), .int .i64 (e : Int)] w (WPost w (stands k s a e)) := by
  have hz := ext_size2 s a e he
  have hc := fun w => clone_str (s.extract a e) w (by omega)
  have HC := hid hc
  clear hc hz
  go_enter Tryz.func34, Tryz.ntmps34
  go_wp2_with (go_at_call 62; refine (HC.out _).mono ?_; rintro e w1 ⟨rfl, ht⟩; obtain ⟨⟨k1, f1⟩, ⟨k2, f2⟩, s1, s2, hz⟩ := two_blocks ht; have HS1 := hid (fun i (hi : i < 7) => s1 i hi); have HS2 := hid (fun i (hi : i < 2) => s2 i hi); clear s1 s2; have k10 := k1 0; have k11 := k1 1; have k12 := k1 2; have k13 := k1 3; have k14 := k1 4; have k15 := k1 5; have k16 := k1 6; have k20 := k2 0; have k21 := k2 1; simp at k10 k11 k12 k13 k14 k15 k16 k20 k21; clear k1 k2; have HT := hid ht; clear ht; have hzA := Nat.lt_of_lt_of_le (Nat.lt_add_of_pos_right (by decide : 0 < 2)) hz; have hzB := Nat.lt_of_lt_of_le (Nat.add_lt_add_left (by decide : 1 < 2) _) hz)
  change bodyPost _ _ _ _ _ (put9 w1 w.heap.size (w.heap.size + 1) _ _ _ _ _ _ _ _ _)
  refine put9_all (bodyPost _ _ _ _ _) (by omega) HS1.out HS2.out ?_; rintro W ⟨q0, q1, q2, q3, q4, q5, q6, r0, r1⟩ hoth hsz htn; have HTN := hid (htn w (Tn.thenNo (((Tn.refl No w).alloc _).alloc _) HT.out) (by omega) (by omega)); clear htn
  refine bodyPost_ret (v := .tuple #[tkV k (s.extract a e) false (.slice none 0 0) 0 0 (a : Int), .int .i64 (e : Int), msV 0 0]) (by simp [results, Tryz.results34, go_sem, tkV, msV, q0, q1, q2, q3, q4, q5, q6, r0, r1]) rfl ?_
  exact ⟨HTN.out, _, _, _, _, _, _, _, _, _, _, _, _, rfl, rfl, rfl, rfl, rfl, rfl, rfl, rfl, rfl, NumAt.nil _ _⟩

set_option maxHeartbeats 1000000 in
set_option maxRecDepth 100000 in
theorem limited_raw (k : Int) (s : ByteArray) (a e most : Nat) (w : World) (hs : s.size ≤ 65536) (ha : a ≤ e) (he : e ≤ s.size) (hm : most ≤ 65536) :
    Calls Tryz.prog 55 #[.int .i64 k, .string s, .int .i64 (a : Int), .int .i64 (e : Int), .int .i64 (most : Int)] w (WPost w (limd k s a e most)) := by
  obtain ⟨d, rfl⟩ : ∃ d, e = a + d := ⟨e - a, by omega⟩
  by_cases hd : most < d
  · rw [show limd k s a (a + d) most = .bad 32 a by unfold limd; rw [if_pos (by omega)]]
    have HC := hid (fun w => failed_raw 32 a w)
    go_enter Tryz.func55, Tryz.ntmps55
    go_wp2_with (go_at_call 37; refine (HC.out _).mono ?_; rintro e w1 ⟨ht, k1, x1, ng1, sa1, sn1, sc1, b1, n1, p1, en1, c1, pp1, rfl, hsh⟩; simp only [tkV, msV]; have HSH := hid hsh; clear hsh; obtain ⟨⟨k1, f1⟩, ⟨k2, f2⟩, s1, s2, hz⟩ := two_blocks ht; have HS1 := hid (fun i (hi : i < 7) => s1 i hi); have HS2 := hid (fun i (hi : i < 2) => s2 i hi); clear s1 s2; have k10 := k1 0; have k11 := k1 1; have k12 := k1 2; have k13 := k1 3; have k14 := k1 4; have k15 := k1 5; have k16 := k1 6; have k20 := k2 0; have k21 := k2 1; simp at k10 k11 k12 k13 k14 k15 k16 k20 k21; clear k1 k2; have HT := hid ht; clear ht; have hzA := Nat.lt_of_lt_of_le (Nat.lt_add_of_pos_right (by decide : 0 < 2)) hz; have hzB := Nat.lt_of_lt_of_le (Nat.add_lt_add_left (by decide : 1 < 2) _) hz)
    change bodyPost _ _ _ _ _ (put9 w1 w.heap.size (w.heap.size + 1) _ _ _ _ _ _ _ _ _); refine put9_all (bodyPost _ _ _ _ _) (by omega) HS1.out HS2.out ?_; rintro W ⟨q0, q1, q2, q3, q4, q5, q6, r0, r1⟩ hoth hsz htn; have HTN := hid (htn w (Tn.thenNo (((Tn.refl No w).alloc _).alloc _) HT.out) (by omega) (by omega)); clear htn; refine bodyPost_ret (v := .tuple #[tkV k1 x1 ng1 (.slice sa1 sn1 sc1) b1 n1 p1, .int .i64 en1, msV c1 pp1]) (by simp [results, Tryz.results55, go_sem, tkV, msV, q0, q1, q2, q3, q4, q5, q6, r0, r1]) rfl ?_; exact ⟨HTN.out, _, _, _, _, _, _, _, _, _, _, _, _, rfl, HSH.out.pass hoth hsz (by first | (simp; done) | (simp; omega) | omega) (by first | (simp; done) | (simp; omega) | omega)⟩
  · rw [show limd k s a (a + d) most = stands k s a (a + d) by unfold limd; rw [if_neg (by omega)]]
    have HC := hid (fun w => stands_raw k s a (a + d) w hs ha he)
    go_enter Tryz.func55, Tryz.ntmps55
    go_wp2_with (go_at_call 34; refine (HC.out _).mono ?_; rintro e w1 ⟨ht, k1, x1, ng1, sa1, sn1, sc1, b1, n1, p1, en1, c1, pp1, rfl, hsh⟩; simp only [tkV, msV]; have HSH := hid hsh; clear hsh; obtain ⟨⟨k1, f1⟩, ⟨k2, f2⟩, s1, s2, hz⟩ := two_blocks ht; have HS1 := hid (fun i (hi : i < 7) => s1 i hi); have HS2 := hid (fun i (hi : i < 2) => s2 i hi); clear s1 s2; have k10 := k1 0; have k11 := k1 1; have k12 := k1 2; have k13 := k1 3; have k14 := k1 4; have k15 := k1 5; have k16 := k1 6; have k20 := k2 0; have k21 := k2 1; simp at k10 k11 k12 k13 k14 k15 k16 k20 k21; clear k1 k2; have HT := hid ht; clear ht; have hzA := Nat.lt_of_lt_of_le (Nat.lt_add_of_pos_right (by decide : 0 < 2)) hz; have hzB := Nat.lt_of_lt_of_le (Nat.add_lt_add_left (by decide : 1 < 2) _) hz)
    change bodyPost _ _ _ _ _ (put9 w1 w.heap.size (w.heap.size + 1) _ _ _ _ _ _ _ _ _); refine put9_all (bodyPost _ _ _ _ _) (by omega) HS1.out HS2.out ?_; rintro W ⟨q0, q1, q2, q3, q4, q5, q6, r0, r1⟩ hoth hsz htn; have HTN := hid (htn w (Tn.thenNo (((Tn.refl No w).alloc _).alloc _) HT.out) (by omega) (by omega)); clear htn; refine bodyPost_ret (v := .tuple #[tkV k1 x1 ng1 (.slice sa1 sn1 sc1) b1 n1 p1, .int .i64 en1, msV c1 pp1]) (by simp [results, Tryz.results55, go_sem, tkV, msV, q0, q1, q2, q3, q4, q5, q6, r0, r1]) rfl ?_; exact ⟨HTN.out, _, _, _, _, _, _, _, _, _, _, _, _, rfl, HSH.out.pass hoth hsz (by first | (simp; done) | (simp; omega) | omega) (by first | (simp; done) | (simp; omega) | omega)⟩
end Go.Proofs.YtcmhfeeocehlaaaGreatDoor
