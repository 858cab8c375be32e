/-
  heap: read, walked.
-/
import Derived.Test.YtlkbnjdhokjfnaaHRdA
namespace Go.Proofs.Ytlkbnjdhokjfnaa
set_option linter.unusedSimpArgs false
set_option linter.unusedVariables false
open Go.RowKit
attribute [local go_sem ↓] Go.wp_at_zero Go.wp_at_succ

theorem list3 {α : Type} {l : List α} (h : l.length = 3) : ∃ a0 a1 a2, l = [a0, a1, a2] := by
  rcases l with _ | ⟨a0, l⟩
  · simp at h
  replace h : l.length = 2 := Nat.succ.inj h
  rcases l with _ | ⟨a1, l⟩
  · simp at h
  replace h : l.length = 1 := Nat.succ.inj h
  rcases l with _ | ⟨a2, l⟩
  · simp at h
  replace h : l.length = 0 := Nat.succ.inj h
  rcases l with _ | ⟨b, l⟩
  · exact ⟨a0, a1, a2, rfl⟩
  · simp at h
theorem list14 {α : Type} {l : List α} (h : l.length = 14) : ∃ a0 a1 a2 a3 a4 a5 a6 a7 a8 a9 a10 a11 a12 a13, l = [a0, a1, a2, a3, a4, a5, a6, a7, a8, a9, a10, a11, a12, a13] := by
  rcases l with _ | ⟨a0, l⟩
  · simp at h
  replace h : l.length = 13 := Nat.succ.inj h
  rcases l with _ | ⟨a1, l⟩
  · simp at h
  replace h : l.length = 12 := Nat.succ.inj h
  rcases l with _ | ⟨a2, l⟩
  · simp at h
  replace h : l.length = 11 := Nat.succ.inj h
  rcases l with _ | ⟨a3, l⟩
  · simp at h
  replace h : l.length = 10 := Nat.succ.inj h
  rcases l with _ | ⟨a4, l⟩
  · simp at h
  replace h : l.length = 9 := Nat.succ.inj h
  rcases l with _ | ⟨a5, l⟩
  · simp at h
  replace h : l.length = 8 := Nat.succ.inj h
  rcases l with _ | ⟨a6, l⟩
  · simp at h
  replace h : l.length = 7 := Nat.succ.inj h
  rcases l with _ | ⟨a7, l⟩
  · simp at h
  replace h : l.length = 6 := Nat.succ.inj h
  rcases l with _ | ⟨a8, l⟩
  · simp at h
  replace h : l.length = 5 := Nat.succ.inj h
  rcases l with _ | ⟨a9, l⟩
  · simp at h
  replace h : l.length = 4 := Nat.succ.inj h
  rcases l with _ | ⟨a10, l⟩
  · simp at h
  replace h : l.length = 3 := Nat.succ.inj h
  rcases l with _ | ⟨a11, l⟩
  · simp at h
  replace h : l.length = 2 := Nat.succ.inj h
  rcases l with _ | ⟨a12, l⟩
  · simp at h
  replace h : l.length = 1 := Nat.succ.inj h
  rcases l with _ | ⟨a13, l⟩
  · simp at h
  replace h : l.length = 0 := Nat.succ.inj h
  rcases l with _ | ⟨b, l⟩
  · exact ⟨a0, a1, a2, a3, a4, a5, a6, a7, a8, a9, a10, a11, a12, a13, rfl⟩
  · simp at h
/-- a statement that ends in one way, and writes two runs of slots -/
theorem wp_norm3 {s : Code} {Q : Exit → Act → World → Prop} {l : List Value} {ds : List Deferred} {w : World} (lo n m k : Nat) (R : List Value → World → Prop)
    (h : ∀ G : Act → Prop, Hid (∀ a' : Act, a'.tmps.toList.take lo = l.take lo → (a'.tmps.toList.drop (lo + n)).take m = (l.drop (lo + n)).take m → a'.tmps.toList.drop (lo + n + m + k) = l.drop (lo + n + m + k) → ((a'.tmps.toList.drop lo).take n).length = n → ((a'.tmps.toList.drop (lo + n + m)).take k).length = k → a'.defers = ds → G a') → s.wp Try.prog (fun e a' w' => match e with | .normal => G a' ∧ R ((a'.tmps.toList.drop lo).take n) w' | _ => False) ⟨l.toArray, ds⟩ w)
    (hk : ∀ xs ys w', xs.length = n → ys.length = k → R xs w' → Q .normal ⟨(l.take lo ++ xs ++ (l.drop (lo + n)).take m ++ ys ++ l.drop (lo + n + m + k)).toArray, ds⟩ w') : s.wp Try.prog Q ⟨l.toArray, ds⟩ w := by
  refine wp_mono (h (fun a' => ((a'.tmps.toList.drop lo).take n).length = n ∧ ((a'.tmps.toList.drop (lo + n + m)).take k).length = k ∧ a' = ⟨(l.take lo ++ (a'.tmps.toList.drop lo).take n ++ (l.drop (lo + n)).take m ++ (a'.tmps.toList.drop (lo + n + m)).take k ++ l.drop (lo + n + m + k)).toArray, ds⟩) (fun a' h1 h2 h3 h4 h5 h6 => ⟨h4, h5, ?_⟩)) (fun e a' w' hh => ?_)
  · obtain ⟨tm, df⟩ := a'
    simp only at h1 h2 h3 h4 h5 h6
    subst h6
    rw [← h1, ← h2, ← h3]
    have e : tm.toList.take lo ++ (tm.toList.drop lo).take n ++ (tm.toList.drop (lo + n)).take m ++ (tm.toList.drop (lo + n + m)).take k ++ tm.toList.drop (lo + n + m + k) = tm.toList := by
      rw [← List.take_add, ← List.take_add, ← List.take_add, List.take_append_drop]
    rw [e]
  · cases e with
    | normal =>
      obtain ⟨⟨hx, hy, ha⟩, hr⟩ := hh
      rw [ha]
      exact hk _ _ w' hx hy hr
    | _ => exact hh.elim
/-- a block of nothing yet -/
structure ZC (u : World) (tb : Nat) : Prop where
  z0 : u.cell? ⟨tb, 0, none⟩ = some (.int .i64 0)
  z1 : u.cell? ⟨tb, 1, none⟩ = some (.int .i64 0)
  z2 : u.cell? ⟨tb, 2, none⟩ = some (.string ⟨#[]⟩)
  z3 : u.cell? ⟨tb, 3, none⟩ = some (.slice none 0 0)
  f0 : u.frozen? ⟨tb, 0, none⟩ = false
  f1 : u.frozen? ⟨tb, 1, none⟩ = false
  f2 : u.frozen? ⟨tb, 2, none⟩ = false
  f3 : u.frozen? ⟨tb, 3, none⟩ = false
  lt : tb < u.heap.size
theorem ZC.new (w : World) : ZC (w.alloc (.cells #[.int .i64 0, .int .i64 0, .string ⟨#[]⟩, .slice none 0 0] 24)) w.heap.size := by
  have hh := heap_alloc_new w (.cells #[.int .i64 0, .int .i64 0, .string ⟨#[]⟩, .slice none 0 0] 24)
  exact ⟨by simp only [World.cell?, hh]; rfl, by simp only [World.cell?, hh]; rfl, by simp only [World.cell?, hh]; rfl, by simp only [World.cell?, hh]; rfl, by simp only [World.frozen?, hh]; rfl, by simp only [World.frozen?, hh]; rfl, by simp only [World.frozen?, hh]; rfl, by simp only [World.frozen?, hh]; rfl, by simp⟩
theorem ZC.drew {u : World} {tb : Nat} (h : ZC u tb) : ZC u.drew tb := ⟨h.z0, h.z1, h.z2, h.z3, h.f0, h.f1, h.f2, h.f3, h.lt⟩
theorem ZC.kept {u u' : World} {tb : Nat} (t : Tn No u u') (h : ZC u tb) : ZC u' tb := by
  have hl := h.lt
  refine ⟨?_, ?_, ?_, ?_, ?_, ?_, ?_, ?_, Nat.lt_of_lt_of_le hl t.size⟩
  · rw [t.cell hl (fun e => e)]; exact h.z0
  · rw [t.cell hl (fun e => e)]; exact h.z1
  · rw [t.cell hl (fun e => e)]; exact h.z2
  · rw [t.cell hl (fun e => e)]; exact h.z3
  · rw [t.frozen hl (fun e => e)]; exact h.f0
  · rw [t.frozen hl (fun e => e)]; exact h.f1
  · rw [t.frozen hl (fun e => e)]; exact h.f2
  · rw [t.frozen hl (fun e => e)]; exact h.f3
theorem anyW_lt (b : List UInt8) : ∀ x ∈ anyW b, x < 18446744073709551616 := by
  intro x hx
  simp only [anyW, List.mem_map, List.mem_range] at hx
  obtain ⟨o, ho, rfl⟩ := hx
  have h1 := Hp.num_lt ((b.drop o).take 8)
  have hl : ((b.drop o).take 8).length ≤ 8 := by simp; omega
  have h2 : 256 ^ ((b.drop o).take 8).length ≤ 256 ^ 8 := Nat.pow_le_pow_right (by omega) hl
  have h3 : (256 : Nat) ^ 8 = 18446744073709551616 := by decide
  omega
/-- what stands behind 't, values, fits := thingIn(m.from(..))' -/
structure Got (v : Value) (b : List UInt8) (at_ x : Nat) (wr : World) (tb : Nat) (kd tg : Int) (s : ByteArray) (rv iv : Value) (ok : Bool) (w' : World) : Prop where
  tn : Tn No wr w'
  tb0 : wr.heap.size ≤ tb
  tb1 : tb < w'.heap.size
  c0 : w'.cell? ⟨tb, 0, none⟩ = some (.int .i64 kd)
  c1 : w'.cell? ⟨tb, 1, none⟩ = some (.int .i64 tg)
  c2 : w'.cell? ⟨tb, 2, none⟩ = some (.string s)
  c3 : w'.cell? ⟨tb, 3, none⟩ = some rv
  rvf : ∃ a n c, rv = .slice a n c
  no : readT b at_ x = none → ok = false
  yes : ∀ T, readT b at_ x = some T → ok = true ∧ kd = T.kind ∧ tg = T.tag ∧ s = ⟨T.bytes.toArray⟩ ∧ LR 2 eR w' rv (List.replicate (wordsIn T.vals).length (0, 0)) ∧ (∀ g, rv.ownBlock = some g → wr.heap.size ≤ g ∧ g ≠ tb) ∧ ∀ w0, LD 1 eB w0 v b → LD 1 eB w0 iv T.vals
def GotR (v : Value) (b : List UInt8) (at_ x : Nat) (wr : World) (xs : List Value) (w' : World) : Prop :=
  ∃ tb kd tg s rv ia ib ic ok, xs[0]? = some (.pointer (some ⟨tb, 0, none⟩)) ∧ xs[1]? = some (.slice ia ib ic) ∧ xs[2]? = some (.bool ok) ∧ Got v b at_ x wr tb kd tg s rv (.slice ia ib ic) ok w'

section
variable {v : Value} {b : List UInt8} {at_ x : Nat} {wr u w5 : World} {tb : Nat} {kd tg : Int} {s : ByteArray} {rv iv fv : Value} {ok : Bool}
theorem got_new (t0 : Tn No wr u) (t5 : Tn No u w5) (hfr : ∀ w0, LD 1 eB w0 v b → LD 1 eB w0 fv (fromL b at_ x)) (hrvf : ∃ a n c, rv = .slice a n c) (hno : thingP (fromL b at_ x) = none → ok = false)
    (hyes : ∀ T, thingP (fromL b at_ x) = some T → ok = true ∧ kd = T.kind ∧ tg = T.tag ∧ s = ⟨T.bytes.toArray⟩ ∧ LR 2 eR w5 rv (List.replicate (T.vals.length / 8) (0, 0)) ∧ (∀ g, rv.ownBlock = some g → u.heap.size ≤ g) ∧ ∀ w0, LD 1 eB w0 fv (fromL b at_ x) → LD 1 eB w0 iv T.vals) :
    Got v b at_ x wr w5.heap.size kd tg s rv iv ok (w5.alloc (.cells #[.int .i64 kd, .int .i64 tg, .string s, rv] 24)) := by
  have hh := heap_alloc_new w5 (.cells #[.int .i64 kd, .int .i64 tg, .string s, rv] 24)
  have z0 := t0.size
  have z5 := t5.size
  refine ⟨(t0.then t5).alloc _, by omega, by simp, by simp only [World.cell?, hh]; rfl, by simp only [World.cell?, hh]; rfl, by simp only [World.cell?, hh]; rfl, by simp only [World.cell?, hh]; rfl, hrvf, hno, fun T hT => ?_⟩
  obtain ⟨a1, a2, a3, a4, a5, a6, a7⟩ := hyes T hT
  refine ⟨a1, a2, a3, a4, by rw [wordsIn_length]; exact a5.no ((Tn.refl No w5).alloc _), fun g hg => ⟨by have := a6 g hg; omega, by have := a5.rw.lt g hg; omega⟩, fun w0 h0 => a7 w0 (hfr w0 h0)⟩
theorem got_old (t0 : Tn No wr u) (t5 : Tn No u w5) (Z : ZC u tb) (tb0 : wr.heap.size ≤ tb) (hfr : ∀ w0, LD 1 eB w0 v b → LD 1 eB w0 fv (fromL b at_ x)) (hrvf : ∃ a n c, rv = .slice a n c) (hno : thingP (fromL b at_ x) = none → ok = false)
    (hyes : ∀ T, thingP (fromL b at_ x) = some T → ok = true ∧ kd = T.kind ∧ tg = T.tag ∧ s = ⟨T.bytes.toArray⟩ ∧ LR 2 eR w5 rv (List.replicate (T.vals.length / 8) (0, 0)) ∧ (∀ g, rv.ownBlock = some g → u.heap.size ≤ g) ∧ ∀ w0, LD 1 eB w0 fv (fromL b at_ x) → LD 1 eB w0 iv T.vals) :
    Got v b at_ x wr tb kd tg s rv iv ok (put4 w5 tb (.int .i64 kd) (.int .i64 tg) (.string s) rv) := by
  have Z5 := ZC.kept t5 Z
  obtain ⟨k0, k1, k2, k3⟩ := put4_cells Z5.z0 Z5.z1 Z5.z2 Z5.z3 (.int .i64 kd) (.int .i64 tg) (.string s) rv
  have tp := put4_tn w5 tb (.int .i64 kd) (.int .i64 tg) (.string s) rv
  have z0 := t0.size
  have z5 := t5.size
  have hlt := Z.lt
  refine ⟨(t0.then t5).trans tp (fun _ _ e => e) (fun i hi e => by omega), tb0, Nat.lt_of_lt_of_le Z5.lt tp.size, ?_, ?_, ?_, k3, hrvf, hno, fun T hT => ?_⟩
  · unfold put4
    rw [World.cell?_setCell_other _ _ _ _ (by simp), World.cell?_setCell_other _ _ _ _ (by simp), World.cell?_setCell_other _ _ _ _ (by simp)]; exact k0
  · unfold put4
    rw [World.cell?_setCell_other _ _ _ _ (by simp), World.cell?_setCell_other _ _ _ _ (by simp)]; exact k1
  · unfold put4
    rw [World.cell?_setCell_other _ _ _ _ (by simp)]; exact k2
  obtain ⟨a1, a2, a3, a4, a5, a6, a7⟩ := hyes T hT
  refine ⟨a1, a2, a3, a4, by rw [wordsIn_length]; exact a5.tn tp (fun g hg e => by have := a6 g hg; omega), fun g hg => ⟨by have := a6 g hg; omega, by have := a6 g hg; omega⟩, fun w0 h0 => a7 w0 (hfr w0 h0)⟩
end

theorem Rd.fin {lo : Nat} {w3 : World} {A0 : Nat → Prop} {p q cb : Nat} {mv tvo rvo : Value} {row : List Nat} {out : List Th} {wr : World} {b : List UInt8} {at_ : Nat} {roots : List Nat} {i : Nat}
    (h : Rd lo w3 A0 p q cb mv tvo rvo (Hp.cs row) out (roots.map (valW (Hp.cs (Hp.meet [] (roots.map Hp.value))))) wr) (hst : Hp.Steps (getN b at_) (Hp.meet [] (roots.map Hp.value)) i row) (hnds : out.map Th.nd = Hp.upto (getN b at_) row i) (hb : b.length ≤ 1073741824) (hrl : roots.length ≤ 1073741824) (hrw : ∀ x ∈ roots, x < 18446744073709551616) :
    GO wr lo tvo rvo out (roots.map (valW (Hp.cs (Hp.meet [] (roots.map Hp.value))))) ∧ (∀ r ∈ roots.map (valW (Hp.cs (Hp.meet [] (roots.map Hp.value)))), okR r) ∧ (roots.map (valW (Hp.cs (Hp.meet [] (roots.map Hp.value))))).map vOf = Hp.roots row (roots.map Hp.value) := by
  have hrow0 : (Hp.cs (Hp.meet [] (roots.map Hp.value))).length ≤ 8589934592 := by
    have e := meetWs_cast roots []
    rw [← e]
    obtain ⟨m, em, hm⟩ := meetWs_more roots (Hp.cs [])
    rw [em]; simp [Hp.cs] at hm ⊢; omega
  have hlen : out.length ≤ b.length := by
    have h1 := congrArg List.length hnds
    rw [List.length_map] at h1
    have h2 := upto_len (getN b at_) row i
    have h3 := steps_lt hst
    omega
  refine ⟨⟨h.tl, fun g hg => (h.tn g hg).1, fun t ht => (h.each t ht).less (fun k e => .inr (.inl e)), h.rl, fun g hg => ⟨(h.rn g hg).1, (h.rn g hg).2.2.2⟩, ?_, by omega, by simpa using hrl⟩, ?_, ?_⟩
  · intro r hr
    obtain ⟨y, hy, rfl⟩ := List.mem_map.1 hr
    exact valW_ok2 (hrw y hy) hrow0
  · intro r hr
    obtain ⟨y, hy, rfl⟩ := List.mem_map.1 hr
    exact (valW_cast _ y).2
  · unfold Hp.roots
    rw [List.map_map, List.map_map]
    apply List.map_congr_left
    intro y hy
    simp only [Function.comp]
    rw [(valW_cast _ y).1]
    have hm : ∃ m, row = Hp.meet [] (roots.map Hp.value) ++ m := by
      clear hnds hlen h
      induction hst with
      | zero => exact ⟨[], by simp⟩
      | @succ i seen k t _ _ _ ih =>
        obtain ⟨m, e⟩ := ih
        obtain ⟨m', e'⟩ := Hp.meet_more t.refs seen
        exact ⟨m ++ m', by rw [e', e, List.append_assoc]⟩
    obtain ⟨m, em⟩ := hm
    refine Hp.V.map_congr (Hp.meet_has [] (Hp.value y) (List.mem_map_of_mem hy)) (fun k hk => ?_)
    rw [em, Hp.pos_append hk]

set_option maxHeartbeats 8000000 in
set_option maxRecDepth 100000 in
theorem read_raw (v rvv : Value) (b : List UInt8) (at_ : Nat) (roots : List Nat) (w : World) (h : LD 1 eB w v b) (hb : b.length ≤ 1073741824) (hat : at_ < 18446744073709551616) (hr : LD 1 eU w rvv (Hp.cs roots)) (hrl : roots.length ≤ 1073741824) (hrw : ∀ x ∈ roots, x < 18446744073709551616) :
    Calls Try.prog 51 #[.agg #[v, .int .u64 (at_ : Int)], rvv] w fun e w' => ReadOk b at_ roots w e w' ∨ ReadNo b at_ roots w e w' := by
  obtain ⟨wB, hwB⟩ : ∃ wB, (w.alloc (.cells #[v, .int .u64 (at_ : Int)] 79)).alloc (.cells #[.slice none 0 0, .slice none 0 0] 27) = wB := ⟨_, rfl⟩
  have tB : Tn No w wB := by rw [← hwB]; exact ((Tn.refl No w).alloc _).alloc _
  have sB : wB.heap.size = w.heap.size + 2 := by rw [← hwB]; simp
  have bB : wB.heap[w.heap.size]? = some (.cells #[v, .int .u64 (at_ : Int)] 79 (0, 0)) := by
    rw [← hwB, Below.heap_alloc _ _ _ (by simp)]; exact heap_alloc_new w _
  have bR : wB.heap[w.heap.size + 1]? = some (.cells #[.slice none 0 0, .slice none 0 0] 27 (0, 0)) := by
    have := heap_alloc_new (w.alloc (.cells #[v, .int .u64 (at_ : Int)] 79)) (.cells #[.slice none 0 0, .slice none 0 0] 27)
    rw [hwB] at this
    simpa using this
  have HNR := hid (newRowU_raw wB)
  have HRM : Hid (∀ p q wC, RAU wC p q (.slice none 0 0) [] → Tn No wB wC → wB.heap.size ≤ p → wB.heap.size ≤ q → Calls Try.prog 69 #[.int .i64 (roots.length : Int)] wC fun e w' => ∃ v1, e = .returned v1 ∧ (∃ a n c, v1 = .slice a n c) ∧ Tn No wB w' ∧ (∀ k, RO p q (.slice none 0 0) k → wB.heap.size ≤ k ∧ k < w'.heap.size) ∧ (∀ g, v1.ownBlock = some g → wB.heap.size ≤ g) ∧
      Rd (w.heap.size + 2) (w'.alloc (.cells #[.slice none 0 0, v1] 27)) (actr p q (.slice none 0 0) (.slice none 0 0) v1 w'.heap.size) p q w'.heap.size (.slice none 0 0) (.slice none 0 0) v1 [] [] [] (w'.alloc (.cells #[.slice none 0 0, v1] 27))) := by
    apply hid
    intro p q wC hra tC hp hq
    refine (room_r roots.length (by omega) wC).mono ?_
    rintro e w' ⟨v1, he, hlr, t1, hnew⟩
    obtain ⟨va, vk, hvf, _⟩ := hlr.rw.form
    have t' : Tn No w' (w'.alloc (.cells #[.slice none 0 0, v1] 27)) := (Tn.refl No w').alloc _
    have hh := heap_alloc_new w' (.cells #[.slice none 0 0, v1] 27)
    have z1 := tC.size
    have z2 := t1.size
    have hro : ∀ k, RO p q (.slice none 0 0) k → wB.heap.size ≤ k ∧ k < wC.heap.size := by
      intro k hk
      refine ⟨?_, hra.olt k hk⟩
      rcases hk with rfl | rfl | hk
      · exact hp
      · exact hq
      · cases hk
    refine ⟨v1, he, ⟨va, _, vk, hvf⟩, tC.then t1, fun k hk => ⟨(hro k hk).1, by have := (hro k hk).2; omega⟩, fun g hg => by have := hnew g hg; omega, ?_⟩
    exact {
      up := Up.refl _ _
      ra := (hra.no t1).no t'
      c0 := by simp only [World.cell?, hh]; rfl
      c1 := by simp only [World.cell?, hh]; rfl
      cf := fun j => by simp only [World.frozen?, hh]; simp
      cl := by simp
      cn := fun e => by have := (hro _ e).2; omega
      tl := LR.nil _ _ _
      tn := fun g hg => by cases hg
      rl := hlr.no t'
      rn := fun g hg => by
        have h1 := hnew g hg
        have h2 := hlr.rw.lt g hg
        exact ⟨by omega, fun e => by have := (hro _ e).2; omega, by omega, fun e => by cases e⟩
      each := fun t ht => by cases ht }
  obtain ⟨va, vk, hvf, hvk1, hvk2⟩ := h.form
  obtain ⟨ra, rc, hrf, hrc1, hrc2, hrat⟩ := hr
  have hcs : (Hp.cs roots).length = roots.length := by simp [Hp.cs]
  rw [hcs] at hrf hrc1
  have HRAT : Hid (0 < roots.length → ∃ g o, ra = some ⟨g, o, none⟩ ∧ g < w.heap.size ∧ ∀ k (hk : k < roots.length), w.cell? ⟨g, o + k, none⟩ = some (.int .u64 (roots[k] : Int))) := hid (fun h0 => by
    obtain ⟨g, o, e, hg, hc⟩ := hrat (by rw [hcs]; exact h0)
    refine ⟨g, o, e, hg, fun k hk => ?_⟩
    have := hc k (by rw [hcs]; exact hk) 0 (by omega)
    simp only [Nat.mul_one, Nat.add_zero, eU, List.getElem?_cons_zero] at this
    rw [this]
    simp [Hp.cs])
  have HB0 := hid bB
  have HB1 := hid bR
  have HTB := hid tB
  have HSB := hid sB
  have HLD := hid h
  have HRW := hid hrw
  subst hvf hrf
  obtain ⟨rn, hrn⟩ : ∃ rn, roots.length = rn := ⟨_, rfl⟩
  have HRN := hid hrn
  rw [hrn] at HRM hrl hrc1
  rw [hrn]
  clear h hrat hcs bB bR tB sB hrw hrn
  subst hwB
  go_enter Try.func51, Try.ntmps51
  go_wp2_with (first
    | (go_at_call 68; refine HNR.out.mono ?_; rintro e wC ⟨p, q, rfl, hra, tC, hp, hq⟩; have HC := hid (HRM.out p q wC hra tC hp hq); clear hra tC hp hq)
    | (go_at_call 69; refine HC.out.mono ?_; rintro e wD ⟨v1, rfl, ⟨a1, n1, c1, rfl⟩, tD, hro, hnw, hrd⟩; have HRD := hid hrd; have HTD := hid tD; have HRO := hid hro; have HNW := hid hnw; clear hrd tD hro hnw))
  obtain ⟨A0, hA0⟩ : ∃ A0, actr p q (.slice none 0 0) (.slice none 0 0) (.slice a1 n1 c1) wD.heap.size = A0 := ⟨_, rfl⟩
  rw [hA0] at HRD
  have HA0 := hid hA0
  clear hA0
  go_loopw [9, 22] (fun _ i wr => ∃ (k : Nat) (mv rvo : Value), k ≤ rn ∧ i = .int .i64 (k : Int) ∧ Rd (w.heap.size + 2) (wD.alloc (.cells #[.slice none 0 0, .slice a1 n1 c1] 27)) A0 p q wD.heap.size mv (.slice none 0 0) rvo ((roots.take k).foldl meetW []) [] ((roots.take k).map (valW ((roots.take k).foldl meetW []))) wr) (fun _ i _ => rn - (intOf i).toNat)
  case atStart => exact ⟨0, _, _, by omega, rfl, HRD.out⟩
  case round =>
    obtain ⟨k, mv, rvo, hk, rfl, hrd⟩ := hrel
    clear HRD HC HRM HNR
    by_cases hlt : k < rn
    · have hkl : k < roots.length := by have := HRN.out; omega
      obtain ⟨g, o, rfl, hg, hcell⟩ := HRAT.out (by omega)
      have hsB := HSB.out
      have zD := HTD.out.size
      have hup := hrd.up
      have zr := hup.tn.size
      simp at zr
      have hnA : ∀ j, j < w.heap.size + 2 → ¬ A0 j := fun j hj e => by
        rw [← HA0.out] at e
        rcases e with e | e | e | e
        · have := (HRO.out j e).1; omega
        · cases e
        · have := HNW.out j e; omega
        · omega
      have q0 := hcell k hkl
      have q1 : wr.cell? ⟨g, o + k, none⟩ = some (.int .u64 (roots[k] : Int)) := by
        rw [hup.tn.cell (by simp; omega) (hnA g (by omega)), ((Tn.refl No wD).alloc (.cells #[.slice none 0 0, .slice a1 n1 c1] 27)).cell (by omega) (fun e => e), HTD.out.cell (by omega) (fun e => e), HTB.out.cell hg (fun e => e)]
        exact q0
      obtain ⟨s1, s2⟩ := val_succ (row := []) hkl
      have hrl2 : ((roots.take k).foldl meetW []).length + 1 ≤ 4294967296 := by
        obtain ⟨m, em, hm⟩ := meetWs_more (roots.take k) []
        rw [em]; simp at hm ⊢; omega
      have HV : Hid (∀ u, Tn No wr u → _) := hid (fun u t => hrd.rootval (by omega) roots[k] (HRW.out _ (List.getElem_mem hkl)) hrl2 (by simp; omega) u t)
      rw [← s2, ← s1] at HV
      have y1 := hrd.c1
      have y2 := hrd.cl
      have y3 := hrd.cf 1
      have hki : (k : Int) < (rn : Int) := by omega
      obtain ⟨ba, bc, hrvf, _⟩ := hrd.rl.rw.form
      subst hrvf
      obtain ⟨x, hx⟩ : ∃ x, roots[k] = x := ⟨_, rfl⟩
      rw [hx] at q1 HV
      clear hrd hup hcell q0 s1 s2 hx hkl HRAT hnA hsB zD zr HRW
      generalize ((roots.take k).map (valW ((roots.take k).foldl meetW []))).length = bn at *
      go_wp2_with fail
      go_region_law (first
        | (refine wp_app rfl _ _ _ _ rfl _ _ rfl rfl _ w5 HR5.out ?_)
        | (refine wp_fcall rfl 70 _ (by go_simp) (HV.out _ (by repeat (first | exact Tn.refl _ _ | apply Tn.drew | apply Tn.drewN | apply Tn.alloc | (refine Tn.then ?_ (by assumption)) | (refine Tn.thenNo ?_ (by assumption))))) ?_; rintro e w2 ⟨mv2, r1, r2, rfl, ⟨z1, z2⟩, rvo', w5, hr5, ⟨a5, n5, c5, rfl⟩, z3, z4, z5, hrd5⟩; refine ⟨_, rfl, ?_⟩; have HR5 := hid hr5; have HRD5 := hid hrd5; clear hr5 hrd5))
      all_goals
        go_wp2
        go_roundw
        case rel => exact ⟨k + 1, _, _, by omega, by go_num, HRD5.out⟩
        case measure => simp [intOf]; omega
    · obtain rfl : k = rn := by omega
      have e1 : roots.take k = roots := List.take_of_length_le (by have := HRN.out; omega)
      rw [e1] at hrd
      have hmw := meetWs_cast roots []
      have hcs0 : Hp.cs [] = [] := rfl
      rw [hcs0] at hmw
      rw [hmw] at hrd
      have HRD := hid hrd
      obtain ⟨ba, bc, hrvf, _⟩ := hrd.rl.rw.form
      subst hrvf
      clear hrd e1 hmw hcs0 HRAT
      generalize (roots.map (valW (Hp.cs (Hp.meet [] (roots.map Hp.value))))).length = bn at *
      go_wp2_with fail
      go_loopw [10] (fun i wr => ∃ (j : Nat) (mv tvo : Value) (row : List Nat) (out : List Th), i = .int .i64 (j : Int) ∧ Hp.Steps (getN b at_) (Hp.meet [] (roots.map Hp.value)) j row ∧ Rd (w.heap.size + 2) (wD.alloc (.cells #[.slice none 0 0, .slice a1 n1 c1] 27)) A0 p q wD.heap.size mv tvo (.slice ba bn bc) (Hp.cs row) out (roots.map (valW (Hp.cs (Hp.meet [] (roots.map Hp.value))))) wr ∧ out.map Th.nd = Hp.upto (getN b at_) row j ∧ ∀ t ∈ out, okT t.pl) (fun i _ => b.length - (intOf i).toNat)
      case atStart => exact ⟨0, _, _, _, _, rfl, .zero, HRD.out, by rw [Hp.upto_zero]; rfl, fun t ht => by cases ht⟩
      case round =>
        obtain ⟨j, mv2, tvo, row, out, rfl, hst, hrd, hnds, hoks⟩ := hrel
        clear HRD
        have hsB := HSB.out
        have zD := HTD.out.size
        have hup := hrd.up
        have zr := hup.tn.size
        have zr2 : wD.heap.size < wr.heap.size := hrd.cl
        have hnA : ∀ j, j < w.heap.size + 2 → ¬ A0 j := fun j hj e => by
          rw [← HA0.out] at e
          rcases e with e | e | e | e
          · have := (HRO.out j e).1; omega
          · cases e
          · have := HNW.out j e; omega
          · omega
        have hold : ∀ k, k < w.heap.size + 2 → wr.heap[k]? = ((w.alloc (.cells #[.slice va b.length vk, .int .u64 (at_ : Int)] 79)).alloc (.cells #[.slice none 0 0, .slice none 0 0] 27)).heap[k]? := fun k hk => by
          rw [hup.tn.block k (by simp; omega) (hnA k hk), ((Tn.refl No wD).alloc (.cells #[.slice none 0 0, .slice a1 n1 c1] 27)).block k (by omega) (fun e => e), HTD.out.block k (by omega) (fun e => e)]
        have g0 : wr.cell? ⟨w.heap.size, 0, none⟩ = some (.slice va b.length vk) := by simp only [World.cell?, hold _ (show w.heap.size < w.heap.size + 2 by omega), HB0.out]; rfl
        have g1 : wr.cell? ⟨w.heap.size, 1, none⟩ = some (.int .u64 (at_ : Int)) := by simp only [World.cell?, hold _ (show w.heap.size < w.heap.size + 2 by omega), HB0.out]; rfl
        have hb1 : w.heap.size < wr.heap.size := by omega
        have twr : Tn No w wr := (Up.fresh ((HTB.out.then HTD.out).alloc (.cells #[.slice none 0 0, .slice a1 n1 c1] 27)) (fun k e => by
          rw [← HA0.out] at e
          rcases e with e | e | e | e
          · have := (HRO.out k e).1; omega
          · cases e
          · have := HNW.out k e; omega
          · omega) hup).1
        have hin := steps_in hst
        have hrn := HRN.out
        obtain ⟨ma, mc, hmv, hmc, hmc2, hmn, hms⟩ := hrd.ra.met.rw.form
        have hcs : (Hp.cs row).length = row.length := by simp [Hp.cs]
        rw [hcs] at hmv hmc
        have c00 := hrd.ra.c0
        have plt := hrd.ra.lt
        by_cases hlt : j < row.length
        · have hxk : row[j]? = some row[j] := List.getElem?_eq_getElem hlt
          have hkey := hrd.ra.met.at' j (by rw [hcs]; exact hlt) 0 (by omega)
          have hkey2 : (Hp.cs row)[j]'(by rw [hcs]; exact hlt) = (row[j] : Int) := by simp [Hp.cs]
          rw [hkey2] at hkey
          have hwf := hrd.ra.wf (row[j] : Int) (by rw [← hkey2]; exact List.getElem_mem _)
          have hpos : 0 < (Hp.cs row).length := by rw [hcs]; omega
          obtain ⟨g, cap, emv, hg, hcap, hcap2, hfz⟩ := hrd.ra.met.rw.pos hpos
          rw [hcs] at emv hcap
          obtain ⟨x, hxx⟩ : ∃ x, row[j] = x := ⟨_, rfl⟩
          rw [hxx] at hxk hkey hwf
          have hx64 : x < 18446744073709551616 := by
            rcases List.mem_append.1 (hin.1 x (List.mem_of_getElem? hxk)) with hm | hm
            · exact HRW.out x hm
            · exact anyW_lt b x hm
          have hfl : (fromL b at_ x).length ≤ 1073741824 := by
            obtain ⟨o, e⟩ := fromL_drop b at_ x
            rw [e]; simp; omega
          have HFR : Hid (∀ u, Tn No wr u → Calls Try.prog 72 #[.agg #[.slice va b.length vk, .int .u64 (at_ : Int)], .int .u64 (x : Int)] u fun e w' => ∃ fa fn fc, e = .returned (.slice fa fn fc) ∧ (∀ w0, LD 1 eB w0 (.slice va b.length vk) b → LD 1 eB w0 (.slice fa fn fc) (fromL b at_ x)) ∧ Tn No u w') := hid (fun u t => by
            refine (from_raw (.slice va b.length vk) b (at_ : Int) (x : Int) u (HLD.out.no (twr.then t)) hb (by omega) (by omega) (by omega) (by omega)).mono ?_
            rintro e w' ⟨v', he, hv', t'⟩
            obtain ⟨fa, fc, hvf, _⟩ := (hv' u (HLD.out.no (twr.then t))).form
            exact ⟨fa, _, fc, by rw [he, hvf], hvf ▸ hv', t'⟩)
          have HTI : Hid (∀ fa fn fc, (∀ w0, LD 1 eB w0 (.slice va b.length vk) b → LD 1 eB w0 (.slice fa fn fc) (fromL b at_ x)) → ∀ u, Tn No wr u → Calls Try.prog 71 #[.slice fa fn fc] u (ThingPost (.slice fa fn fc) (fromL b at_ x) u)) := hid (fun fa fn fc hv' u t => thingIn_raw _ _ u (hv' u (HLD.out.no (twr.then t))) hfl)
          subst emv
          simp only [vc, eK, Nat.mul_one, Nat.add_zero, List.getElem?_cons_zero] at hkey
          have hki : (j : Int) < (row.length : Int) := by omega
          have HRD := hid hrd
          have r0 : wr.heap[w.heap.size + 1]? = some (.cells #[.slice none 0 0, .slice none 0 0] 27 (0, 0)) := by rw [hold _ (by omega)]; exact HB1.out
          have HR0 := hid r0
          have HROL : Hid (∀ k, RO p q (.slice (some ⟨g, 0, none⟩) row.length cap) k → w.heap.size ≤ k) := hid (fun k e => by
            rcases hup.own k (.inl e) with e | e
            · rw [← HA0.out] at e
              rcases e with e | e | e | e
              · have := (HRO.out k e).1; omega
              · cases e
              · have := HNW.out k e; omega
              · omega
            · simp at e; omega)
          have hb3 : w.heap.size + 2 ≤ wr.heap.size := by omega
          have HTWR := hid twr
          have HST := hid hst
          have HXK := hid hxk
          have HNDS := hid hnds
          have HOKS := hid hoks
          have HIN := hid hin
          clear hup hold hnA hcs hmv hmn hms hpos hkey2 hfz hwf hsB zD zr r0 twr hst hxk hnds hoks hin
          go_wp2_with fail
          refine wp_norm3 11 3 30 14 (GotR (.slice va b.length vk) b at_ x wr) ?_ ?_
          case refine_1 =>
            intro G HG
            go_light
            clear HRD
            go_region_law (first
              | (refine wp_fcall rfl 72 _ ?_ (HFR.out _ (by repeat (first | exact Tn.refl _ _ | apply Tn.drew | apply Tn.drewN | apply Tn.alloc | (refine Tn.then ?_ (by assumption)) | (refine Tn.thenNo ?_ (by assumption))))) ?_; (focus (go_simp; done)); rintro e w4 ⟨fa, fn, fc, rfl, hfr, t4⟩; refine ⟨_, rfl, ?_⟩; (try (have Z4 : ZC w4 wr.heap.size := ZC.kept t4 (by first | exact (ZC.new wr).drew | exact ZC.new wr))); have HT04 : Hid (wr.heap.size ≤ w4.heap.size) := hid (Tn.size (F := No) (Tn.then (b := _) (by repeat (first | exact Tn.refl _ _ | apply Tn.drew | apply Tn.drewN | apply Tn.alloc | (refine Tn.then ?_ (by assumption)) | (refine Tn.thenNo ?_ (by assumption)))) t4)); have HF4 := hid hfr; have HT4 := hid t4; clear hfr t4)
              | (refine wp_fcall rfl 71 _ ?_ (HTI.out fa fn fc HF4.out _ (by repeat (first | exact Tn.refl _ _ | apply Tn.drew | apply Tn.drewN | apply Tn.alloc | (refine Tn.then ?_ (by assumption)) | (refine Tn.thenNo ?_ (by assumption))))) ?_; (focus (go_simp; done)); rintro e w5 ⟨kd, tg, s, rv, ia, ib, ic, ok, rfl, ⟨ra5, rn5, rc5, rfl⟩, t5, hno, hyes⟩; refine ⟨_, rfl, ?_⟩; (try (have Z5 : ZC w5 wr.heap.size := ZC.kept t5 Z4)); (try (have Z5 : ZC w5 w4.heap.size := ZC.kept t5 (ZC.new w4))); (try (have z0 := Z5.z0; have z1 := Z5.z1; have z2 := Z5.z2; have z3 := Z5.z3; have f0 := Z5.f0; have f1 := Z5.f1; have f2 := Z5.f2; have f3 := Z5.f3; have zl := Z5.lt)); have HGN := hid (got_new (wr := wr) (by repeat (first | exact Tn.refl _ _ | apply Tn.drew | apply Tn.drewN | apply Tn.alloc | (refine Tn.then ?_ (by assumption)) | (refine Tn.thenNo ?_ (by assumption)))) t5 HF4.out ⟨_, _, _, rfl⟩ hno hyes); (try (have HGO := hid (got_old (wr := wr) (tb := wr.heap.size) (by repeat (first | exact Tn.refl _ _ | apply Tn.drew | apply Tn.drewN | apply Tn.alloc | (refine Tn.then ?_ (by assumption)) | (refine Tn.thenNo ?_ (by assumption)))) t5 Z4 (Nat.le_refl _) HF4.out ⟨_, _, _, rfl⟩ hno hyes))); (try (have HGP := hid (got_old (wr := wr) (tb := w4.heap.size) (by repeat (first | exact Tn.refl _ _ | apply Tn.drew | apply Tn.drewN | apply Tn.alloc | (refine Tn.then ?_ (by assumption)) | (refine Tn.thenNo ?_ (by assumption)))) t5 (ZC.new w4) HT04.out HF4.out ⟨_, _, _, rfl⟩ hno hyes))); clear hno hyes t5))
            all_goals
              refine ⟨HG.out _ rfl rfl rfl rfl rfl rfl, ?_⟩
              first
                | exact ⟨_, _, _, _, _, _, _, _, _, rfl, rfl, rfl, HGN.out⟩
                | exact ⟨_, _, _, _, _, _, _, _, _, rfl, rfl, rfl, HGO.out⟩
                | exact ⟨_, _, _, _, _, _, _, _, _, rfl, rfl, rfl, HGP.out⟩
          case refine_2 =>
            rintro xs ys wc hxs hys ⟨tb, kd, tg, s, rv, ia, ib, ic, ok, e0, e1, e2, hgot⟩
            obtain ⟨x0, x1, x2, rfl⟩ := list3 hxs
            obtain ⟨y0, y1, y2, y3, y4, y5, y6, y7, y8, y9, y10, y11, y12, y13, rfl⟩ := list14 hys
            simp only [List.getElem?_cons_zero, List.getElem?_cons_succ, Option.some.injEq] at e0 e1 e2
            subst e0 e1 e2
            simp only [List.take_succ_cons, List.take_zero, List.drop_succ_cons, List.drop_zero, List.cons_append, List.nil_append]
            have HGT := hid hgot
            clear HFR HTI hkey hmc c00 hg hcap g0 g1
            cases hrt : readT b at_ x with
            | none =>
              have hok := hgot.no hrt
              subst hok
              have hz := hgot.tn.size
              have r0 : wc.heap[w.heap.size + 1]? = some (.cells #[.slice none 0 0, .slice none 0 0] 27 (0, 0)) := by rw [hgot.tn.block _ (by omega) (fun e => e)]; exact HR0.out
              have q0 : wc.cell? ⟨w.heap.size + 1, 0, none⟩ = some (.slice none 0 0) := by simp only [World.cell?, r0]; rfl
              have q1 : wc.cell? ⟨w.heap.size + 1, 1, none⟩ = some (.slice none 0 0) := by simp only [World.cell?, r0]; rfl
              have q2 : wc.frozen? ⟨w.heap.size + 1, 0, none⟩ = false := by simp only [World.frozen?, r0]; rfl
              have q3 : wc.frozen? ⟨w.heap.size + 1, 1, none⟩ = false := by simp only [World.frozen?, r0]; rfl
              have q4 : w.heap.size + 1 < wc.heap.size := by omega
              have HFIN : Hid (∀ a a', Tn No w ((wc.setCell ⟨w.heap.size + 1, 0, none⟩ a).setCell ⟨w.heap.size + 1, 1, none⟩ a')) := hid (fun a a' => ((HTWR.out.then hgot.tn).set _ _ (by intro h; simp at h; omega)).set _ _ (by intro h; simp at h; omega))
              have HNOT : Hid (∃ i row k, Hp.Steps (getN b at_) (Hp.meet [] (roots.map Hp.value)) i row ∧ row[i]? = some k ∧ getN b at_ k = none) := hid ⟨_, _, _, HST.out, HXK.out, by simp [getN, hrt]⟩
              have K2 : Hid (∀ a a', ((wc.setCell ⟨w.heap.size + 1, 0, none⟩ a).setCell ⟨w.heap.size + 1, 1, none⟩ a').cell? ⟨w.heap.size + 1, 1, none⟩ = some a' ∧ (wc.setCell ⟨w.heap.size + 1, 0, none⟩ a).cell? ⟨w.heap.size + 1, 0, none⟩ = some a) := hid (fun a a' => by
                have a1 : (wc.setCell ⟨w.heap.size + 1, 0, none⟩ a).cell? ⟨w.heap.size + 1, 1, none⟩ = some (.slice none 0 0) := by rw [World.cell?_setCell_other _ _ _ _ (by simp)]; exact q1
                exact ⟨World.cell?_setCell_same _ _ _ a1, World.cell?_setCell_same _ _ _ q0⟩)
              clear hgot hz r0 hrt
              go_wp2
              refine bodyPost_ret (v := .tuple #[.agg #[.slice none 0 0, .slice none 0 0], .bool false]) (by simp [results, Try.results51, go_sem, (K2.out _ _).1, (K2.out _ (.int .i64 0)).2]) rfl ?_
              exact .inr ⟨rfl, HFIN.out _ _, HNOT.out⟩
            | some T =>
              obtain ⟨rfl, rfl, rfl, rfl, glr, gnew, gld⟩ := hgot.yes T hrt
              have hz := hgot.tn.size
              have HINB := hid (In.begin HRD.out.ra hgot.tn glr gnew hgot.c0 hgot.c1 hgot.c2 hgot.c3 hgot.tb0 hgot.tb1)
              obtain ⟨ra5, rc5, hrv5, hrc5, hrc6⟩ := glr.ld.form
              rw [List.length_replicate] at hrv5 hrc5
              obtain ⟨ws, hws⟩ : ∃ ws, wordsIn T.vals = ws := ⟨_, rfl⟩
              have hwl := wordsIn_length T.vals
              rw [hws] at hrv5 hrc5 HINB hwl
              have HWS := hid hws
              have HGLD := hid (gld w HLD.out)
              obtain ⟨ia', ic', hie, hic1, hic2⟩ := (gld w HLD.out).form
              simp only [Value.slice.injEq] at hie
              obtain ⟨rfl, rfl, rfl⟩ := hie
              have hP := thingP_vals hrt
              have hfl2 : (fromL b at_ x).length ≤ b.length := by
                obtain ⟨o, e⟩ := fromL_drop b at_ x
                rw [e]; simp
              have hvl : T.vals.length ≤ 1073741824 := by omega
              have HRT := hid hrt
              have c3 := hgot.c3
              have tb1 := hgot.tb1
              subst hrv5
              have HRVP : Hid (∀ jj mvj w2, In wr p q (.slice (some ⟨g, 0, none⟩) row.length cap) tb T.kind T.tag ⟨T.bytes.toArray⟩ (.slice ra5 ws.length rc5) ws (Hp.cs row) jj mvj w2 → 0 < ws.length → ∃ gv, ra5 = some ⟨gv, 0, none⟩) := hid (fun jj mvj w2 h h0 => by
                have hl := h.lr.rw
                rcases hl with ⟨e, _⟩ | ⟨g', cap', e, _⟩
                · simp only [Value.slice.injEq] at e; omega
                · simp only [Value.slice.injEq] at e
                  exact ⟨g', e.1⟩)
              obtain ⟨wn, hwn⟩ : ∃ wn, ws.length = wn := ⟨_, rfl⟩
              have HWN := hid hwn
              have HWL := hid hwl
              clear hwl hwn hgot hrt glr gnew gld hws hP hfl2 HGT
              go_wp2_with fail
              obtain ⟨wo, hwo⟩ : ∃ wo, wo = wr := ⟨_, rfl⟩
              subst hwo
              go_loopw [64] (fun i w2 => ∃ (jj : Nat) (mvj : Value), jj ≤ wn ∧ i = .int .i64 (jj : Int) ∧ In wo p q (.slice (some ⟨g, 0, none⟩) row.length cap) tb T.kind T.tag ⟨T.bytes.toArray⟩ (.slice ra5 ws.length rc5) ws (Hp.cs row) jj mvj w2) (fun i _ => wn - (intOf i).toNat)
              case atStart => exact ⟨0, _, by omega, rfl, HINB.out⟩
              case round =>
                obtain ⟨jj, mvj, hjj, rfl, hinj⟩ := hrel
                clear HINB c3 tb1
                have hrowl := HIN.out.2.2
                have hwl := HWL.out
                have hwn := HWN.out
                by_cases hjl : jj < wn
                · have hj : jj < ws.length := by have := HWN.out; omega
                  obtain ⟨gv, rfl⟩ := HRVP.out _ _ _ hinj (by omega)
                  have hml : ((ws.take jj).foldl meetW (Hp.cs row)).length + 1 ≤ 4294967296 := by
                    obtain ⟨m, em, hm⟩ := meetWs_more (ws.take jj) (Hp.cs row)
                    rw [em]; simp [Hp.cs] at hm ⊢; omega
                  have hwlt : ws[jj] < 18446744073709551616 := wordsIn_lt T.vals _ (by rw [HWS.out]; exact List.getElem_mem hj)
                  have HVAL := hid (fun u t => hinj.value hj rfl hwlt hml u t)
                  have twj : Tn No w wr := (Up.fresh HTWR.out HROL.out hinj.up).1
                  obtain ⟨gi, oi, rfl, hgi, hcelli⟩ : ∃ gi oi, ia = some ⟨gi, oi, none⟩ ∧ gi < w.heap.size ∧ True := by
                    obtain ⟨a', c', he, _, _, hx9⟩ := HGLD.out
                    simp only [Value.slice.injEq] at he
                    obtain ⟨rfl, _, rfl⟩ := he
                    obtain ⟨gi, oi, e, h9, _⟩ := hx9 (by omega)
                    exact ⟨gi, oi, e, h9, trivial⟩
                  have hjv : jj * 8 + 8 ≤ T.vals.length := by omega
                  have HWO : Hid (∀ u, Tn No wr u → Calls Try.prog 73 #[.slice (some ⟨gi, oi + jj * 8, none⟩) (T.vals.length - jj * 8) (ic - jj * 8)] u fun e w' => e = .returned (.int .u64 (ws[jj] : Int)) ∧ w' = u) := hid (fun u t => by
                    have hld := (HGLD.out.no (twj.then t)).drop (a' := some ⟨gi, oi + jj * 8, none⟩) (jj * 8) (by omega) rfl rfl (fun _ g o e => by simp only [Option.some.injEq, Addr.mk.injEq, and_true] at e; rw [← e.1, ← e.2])
                    have := wordOf_raw _ _ u hld (by simp; omega)
                    have e9 : ws[jj] = Hp.num ((T.vals.drop (jj * 8)).take 8) := by
                      have := HWS.out
                      subst this
                      simp [wordsIn, Nat.mul_comm]
                    rw [e9]; exact this)
                  have c3 := hinj.c3
                  have tb1 := hinj.tb1
                  have hji : (jj : Int) < (wn : Int) := by omega
                  have hji2 : (jj : Int) < (ws.length : Int) := by omega
                  have e1 : IntKind.i64.wrap ((jj : Int) * 8) = (jj : Int) * 8 := by simp [IntKind.wrap, IntKind.bits, IntKind.signed]; omega
                  have e2 : ((jj : Int) * 8).toNat = jj * 8 := by omega
                  have e3 : (0 : Int) ≤ (jj : Int) * 8 := by omega
                  have e4 : (jj : Int) * 8 ≤ (T.vals.length : Int) := by omega
                  have e5 : (jj : Int) * 8 ≤ (ic : Int) := by omega
                  have e6 : ¬ ic = jj * 8 := by omega
                  have e7 : wrap64 ((jj : Int) * 8) = (jj : Int) * 8 := by unfold wrap64; omega
                  obtain ⟨y, hy⟩ : ∃ y, ws[jj] = y := ⟨_, rfl⟩
                  rw [hy] at HVAL HWO hwlt
                  clear hinj hml twj HRD HGLD hy hwl hwn
                  go_wp2_with fail
                  go_region_law (first
                    | (refine wp_fcall rfl 73 _ ?_ (HWO.out _ (by repeat (first | exact Tn.refl _ _ | apply Tn.drew | apply Tn.drewN | apply Tn.alloc | (refine Tn.then ?_ (by assumption)) | (refine Tn.thenNo ?_ (by assumption))))) ?_; (focus (go_simp; done)); rintro e w6 ⟨rfl, rfl⟩; refine ⟨_, rfl, ?_⟩)
                    | (refine wp_fcall rfl 70 _ ?_ (HVAL.out _ (by repeat (first | exact Tn.refl _ _ | apply Tn.drew | apply Tn.drewN | apply Tn.alloc | (refine Tn.then ?_ (by assumption)) | (refine Tn.thenNo ?_ (by assumption))))) ?_; (focus (go_simp; done)); rintro e w7 ⟨mv7, r1, r2, rfl, ⟨y0, y1, y2, ⟨v0, y3⟩, ⟨v1, y4⟩, y5, y6⟩, hin7⟩; refine ⟨_, rfl, ?_⟩; have HIN7 := hid hin7; clear hin7))
                  all_goals
                    go_wp2
                    go_roundw
                    case rel => exact ⟨jj + 1, _, by omega, by go_num, HIN7.out⟩
                    case measure => simp [intOf]; omega
                · obtain rfl : jj = wn := by omega
                  have hjl2 : jj = ws.length := HWN.out.symm
                  have hol : out.length + 1 ≤ 4294967296 := by
                    have h1 := congrArg List.length HNDS.out
                    rw [List.length_map] at h1
                    have h2 := upto_len (getN b at_) row j
                    omega
                  rw [hjl2] at hinj
                  have hws := HWS.out
                  subst hws
                  obtain ⟨row', tvo', w5, f1, f2, f3, ⟨a5, n5, c5, rfl⟩, f5, f6, f7, out', hst', hrd', hnds', hoks'⟩ := HRD.out.next (by omega) HST.out HNDS.out HOKS.out hb HXK.out HRT.out hinj (by omega) hol wr (Tn.refl No wr)
                  have hsl := steps_lt hst'
                  have c0 := hinj.c0
                  have c1 := hinj.c1
                  have c2 := hinj.c2
                  have c3 := hinj.c3
                  have tb1 := hinj.tb1
                  obtain ⟨ta, tc, htf, _⟩ := HRD.out.tl.rw.form
                  subst htf
                  have HR5 := hid f3
                  have HREL := hid (And.intro hst' (And.intro hrd' (And.intro hnds' hoks')))
                  have hjb : j < b.length := by omega
                  have hwd : decide ((jj : Int) < ((wordsIn T.vals).length : Int)) = false := by simp; omega
                  have hwd2 : decide (jj < (wordsIn T.vals).length) = false := by simp; omega
                  have hwd3 : (jj < (wordsIn T.vals).length) = False := by simp; omega
                  clear f3 hst' hrd' hnds' hoks' hinj HRD hwl hjl2 hwn hsl
                  go_wp2_with (at_builtin; refine wpList_app _ rfl _ _ _ _ rfl _ _ rfl rfl _ w5 HR5.out ?_)
                  go_roundw
                  case rel => exact ⟨j + 1, _, _, row', out', by go_num, HREL.out.1, HREL.out.2.1, HREL.out.2.2.1, HREL.out.2.2.2⟩
                  case measure => simp [intOf]; omega
        · have hje : j = row.length := by have := hst.le; omega
          have r0 : wr.heap[w.heap.size + 1]? = some (.cells #[.slice none 0 0, .slice none 0 0] 27 (0, 0)) := by rw [hold _ (by omega)]; exact HB1.out
          have r1 : wr.cell? ⟨w.heap.size + 1, 0, none⟩ = some (.slice none 0 0) := by simp only [World.cell?, r0]; rfl
          have r2 : wr.cell? ⟨w.heap.size + 1, 1, none⟩ = some (.slice none 0 0) := by simp only [World.cell?, r0]; rfl
          have r3 : wr.frozen? ⟨w.heap.size + 1, 0, none⟩ = false := by simp only [World.frozen?, r0]; rfl
          have r4 : wr.frozen? ⟨w.heap.size + 1, 1, none⟩ = false := by simp only [World.frozen?, r0]; rfl
          have s0 := hrd.c0
          have s1 := hrd.c1
          have hcl := hrd.cl
          obtain ⟨oa, oc, hof, _⟩ := hrd.tl.rw.form
          subst hof
          obtain ⟨hgo, ho2, hro⟩ := hrd.fin (roots := roots) hst hnds hb (by omega) HRW.out
          have HFIN : Hid (∀ a a', Made w (.slice oa out.length oc) (.slice ba bn bc) out (roots.map (valW (Hp.cs (Hp.meet [] (roots.map Hp.value))))) ((wr.setCell ⟨w.heap.size + 1, 0, none⟩ a).setCell ⟨w.heap.size + 1, 1, none⟩ a')) := hid (fun a a' => by
            have t' : Tn (fun k => k = w.heap.size + 1) wr ((wr.setCell ⟨w.heap.size + 1, 0, none⟩ a).setCell ⟨w.heap.size + 1, 1, none⟩ a') := ((Tn.refl (fun k => k = w.heap.size + 1) wr).set _ _ (fun _ => rfl)).set _ _ (fun _ => rfl)
            exact ⟨(hgo.kept t' (fun k e => by omega)).lower (by omega), twr.trans t' (fun _ _ e => e) (fun i hi e => by omega), hoks, ho2⟩)
          have HOUT : Hid (Hp.Walk (getN b at_) 0 (Hp.meet [] (roots.map Hp.value)) row ∧ out.map Th.nd = Hp.things (getN b at_) row ∧ (roots.map (valW (Hp.cs (Hp.meet [] (roots.map Hp.value))))).map vOf = Hp.roots row (roots.map Hp.value)) := hid ⟨hst.done hje, by rw [hnds, hje, Hp.upto_all], hro⟩
          have K2 : Hid (∀ a a', ((wr.setCell ⟨w.heap.size + 1, 0, none⟩ a).setCell ⟨w.heap.size + 1, 1, none⟩ a').cell? ⟨w.heap.size + 1, 1, none⟩ = some a' ∧ (wr.setCell ⟨w.heap.size + 1, 0, none⟩ a).cell? ⟨w.heap.size + 1, 0, none⟩ = some a) := hid (fun a a' => by
            have a1 : (wr.setCell ⟨w.heap.size + 1, 0, none⟩ a).cell? ⟨w.heap.size + 1, 1, none⟩ = some (.slice none 0 0) := by rw [World.cell?_setCell_other _ _ _ _ (by simp)]; exact r2
            exact ⟨World.cell?_setCell_same _ _ _ a1, World.cell?_setCell_same _ _ _ r1⟩)
          have hne : wD.heap.size ≠ w.heap.size + 1 := by omega
          have hne2 : w.heap.size + 1 ≠ wD.heap.size := by omega
          have hb4 : w.heap.size + 1 < wr.heap.size := by omega
          subst hmv
          subst hje
          clear hsB zD zr hup hold hnA twr hin hrn hcs hmn hms hlt hrd hst hnds hoks hgo ho2 hro r0 g0 g1
          go_wp2
          refine bodyPost_ret (v := .tuple #[.agg #[.slice oa out.length oc, .slice ba bn bc], .bool true]) (by simp [results, Try.results51, go_sem, (K2.out _ _).1, (K2.out _ (.int .i64 0)).2]) rfl ?_
          exact .inl ⟨_, _, _, _, row, rfl, HFIN.out _ _, HOUT.out.1, HOUT.out.2.1, HOUT.out.2.2⟩
end Go.Proofs.Ytlkbnjdhokjfnaa
