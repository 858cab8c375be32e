/-
  heap: words of values.
-/
import Derived.Test.YtlkbnjdhokjfnaaHPutA
namespace Go.Proofs.Ytlkbnjdhokjfnaa
set_option linter.unusedSimpArgs false
set_option linter.unusedVariables false
open Go.RowKit
attribute [local go_sem ↓] Go.wp_at_zero Go.wp_at_succ

/-- cells of a value in a list -/
theorem ref_cells {w : World} {g o : Nat} {l : List Rf} (h : ∀ i (hi : i < l.length) j, j < 2 → w.cell? ⟨g, o + (i * 2 + j), none⟩ = (eR l[i])[j]?) (k : Nat) (hk : k < l.length) :
    w.cell? ⟨g, o + k * 2, none⟩ = some (.int .i64 l[k].1) ∧ w.cell? ⟨g, o + k * 2 + 1, none⟩ = some (.int .i64 l[k].2) := by
  have h0 := h k hk 0 (by omega)
  have h1 := h k hk 1 (by omega)
  simp only [eR, List.getElem?_cons_zero, List.getElem?_cons_succ, Nat.add_zero, ← Nat.add_assoc] at h0 h1
  exact ⟨h0, h1⟩

theorem map_take_succ {α β : Type} (f : α → β) {l : List α} {k : Nat} (hk : k < l.length) : (l.take (k + 1)).map f = (l.take k).map f ++ [f l[k]] := by
  rw [List.take_add_one, List.getElem?_eq_getElem hk]
  simp only [List.map_append, Option.toList, List.map_cons, List.map_nil]

set_option maxHeartbeats 4000000 in
set_option maxRecDepth 100000 in
theorem words_raw (lv pv : Value) (l : List Rf) (ps : List Int) (w : World) (h : LD 2 eR w lv l) (hl : l.length ≤ 1073741824) (hp : LD 1 eU w pv ps) (hr : ∀ r ∈ l, r.1 = 2 → 0 ≤ r.2 ∧ r.2 < ps.length) :
    Calls Try.prog 48 #[lv, pv] w fun e w' => ∃ v, e = .returned v ∧ Mk 1 eU w v (l.map (wordR ps)) w' := by
  obtain ⟨m, hm⟩ : ∃ m, l.length = m := ⟨_, rfl⟩
  rw [hm] at hl
  have HW : Hid (∀ r ∈ l, ∀ u, Tn No w u → Calls Try.prog 66 #[.agg #[.int .i64 r.1, .int .i64 r.2], pv] u fun e w' => e = .returned (.int .u64 (wordR ps r)) ∧ Tn No u w') := hid (fun r hr' u t => word_raw r pv ps u (hp.no t) (hr r hr'))
  obtain ⟨a, c, hv, hc, hcm, hat⟩ := h
  rw [hm] at hv
  rw [hv]
  have HAT := hid hat
  have HM := hid hm
  have HRM := hid (fun u => room_u m (by omega) u)
  obtain ⟨pa, pc, hpv, hpp⟩ := hp
  rw [hpv] at HW ⊢
  clear hat hm hv hr hpp hpv
  generalize ps.length = pn at *
  go_enter Try.func48, Try.ntmps48
  go_wp2_with (go_at_call 63; refine (HRM.out _).mono ?_; rintro e w1 ⟨v1, rfl, l1, t1, o1⟩; have HMK : Hid (Mk 1 eU w v1 [] w1) := hid ⟨l1, t1, o1⟩; clear l1 t1 o1)
  go_loopw [5, 13] (fun v i wr => ∃ k : Nat, k ≤ m ∧ i = .int .i64 (k : Int) ∧ Mk 1 eU w v ((l.take k).map (wordR ps)) wr) (fun _ i _ => m - (intOf i).toNat)
  case atStart => exact ⟨0, by omega, rfl, HMK.out⟩
  case round =>
    obtain ⟨k, hk, rfl, hmk⟩ := hrel
    clear HMK
    by_cases hlt : k < m
    · have hkl : k < l.length := by have := HM.out; omega
      obtain ⟨g, o, rfl, hg, hcell⟩ := HAT.out (by omega)
      obtain ⟨q0, q1⟩ := ref_cells hcell k hkl
      rw [← hmk.tn.cell hg (fun e => e)] at q0 q1
      have hc1 := HW.out _ (List.getElem_mem hkl)
      have hps := map_take_succ (wordR ps) hkl
      obtain ⟨r, hrr⟩ : ∃ r, l[k] = r := ⟨_, rfl⟩
      rw [hrr] at q0 q1 hc1 hps
      obtain ⟨rk, rn⟩ := r
      simp only at q0 q1 hc1
      generalize wordR ps (rk, rn) = x at *
      have HC : Hid (∀ u, Tn No wr u → Calls Try.prog 66 #[.agg #[.int .i64 rk, .int .i64 rn], .slice pa pn pc] u fun e w' => e = .returned (.int .u64 x) ∧ Tn No u w') := hid (fun u t => hc1 u (hmk.tn.then t))
      have HAP : Hid (∀ u, Tn No wr u → ∃ v' w', (Builtin.append_ #[41, 41] 41 #[u5, .slice (some ⟨u.heap.size, 0, none⟩) 1 1]).run Try.prog (u.alloc (.cells #[.int .u64 x] 29)) = .ok v' w' ∧ Mk 1 eU w v' ((l.take (k + 1)).map (wordR ps)) w') := hid (fun u t => by
        have hmk2 := (hmk.no t).no ((Tn.refl No u).alloc (.cells #[.int .u64 x] 29))
        obtain ⟨v', w', hr, hlr, hou⟩ := lu_push hmk2.lr x u.heap.size (by rw [World.cell?_alloc_new]; rfl) (by simp; omega)
        rw [← hps] at hlr
        exact ⟨v', w', hr, hmk2.step hlr hou⟩)
      have hki : (k : Int) < (m : Int) := by omega
      clear hcell hc1 hps hrr hkl hmk HAT HW
      go_wp2_with (first
        | (go_at_call 66; refine (HC.out _ ((Tn.refl No wr).alloc _)).mono ?_; rintro e w2 ⟨rfl, t2⟩; obtain ⟨v', w', hr, hmk'⟩ := HAP.out w2 (((Tn.refl No wr).alloc _).then t2); have HR := hid hr; have HMK := hid hmk'; clear hr hmk' t2)
        | (at_builtin; refine wpList_app _ rfl _ _ _ _ rfl _ _ rfl rfl v' w' HR.out ?_))
      go_roundw
      case rel => exact ⟨k + 1, by omega, by go_num, HMK.out⟩
      case measure => simp [intOf]; omega
    · obtain rfl : k = m := by omega
      have HMK := hid hmk
      clear hmk
      go_wp2
      go_ret
      have e1 : l.take k = l := List.take_of_length_le (by have := HM.out; omega)
      have := HMK.out
      rw [e1] at this
      exact ⟨_, rfl, this⟩

/-- bytes that are being laid, and a block that stays -/
structure Lp (w : World) (b : Nat) (C : Array Value) (v : Value) (L : List UInt8) (wr : World) : Prop where
  mkd : Mk 1 eB w v L wr
  cells : ∀ j, wr.cell? ⟨b, j, none⟩ = C[j]?
  lt : b < wr.heap.size
  ne : ∀ g, v.ownBlock = some g → g ≠ b
section
variable {w : World} {b : Nat} {C : Array Value} {v : Value} {L : List UInt8} {wr : World}
theorem Lp.step (h : Lp w b C v L wr) {w' : World} {v' : Value} {L' : List UInt8} (hb : BR w' v' L') (o : Ou wr v w' v') : Lp w b C v' L' w' := by
  refine ⟨h.mkd.step hb.lr o, fun j => ?_, Nat.lt_of_lt_of_le h.lt o.tn.size, fun g hg => ?_⟩
  · rw [o.tn.cell h.lt (fun e => h.ne _ e rfl)]; exact h.cells j
  · rcases o.own g hg with e | e
    · exact h.ne g e
    · have := h.lt; omega
theorem Lp.no (h : Lp w b C v L wr) {w' : World} (t : Tn No wr w') : Lp w b C v L w' := h.step (h.mkd.lr.no t).br (Ou.no v t)
theorem Lp.put (h : Lp w b C v L wr) (X : Nat) (x : Int) (hx : x = (X : Int)) (hl : L.length ≤ 4294967000) : Calls Try.prog 65 #[v, .int .u64 x] wr fun e w' => ∃ v', e = .returned v' ∧ Lp w b C v' (L ++ Hp.le 8 X) w' := by
  subst hx
  exact (putWord_raw v L X wr h.mkd.lr.br hl).mono (fun e w' ⟨v', h1, h2, h3⟩ => ⟨v', h1, h.step h2 h3⟩)
theorem Lp.zero (h : Lp w b C v L wr) (hl : L.length ≤ 4294967000) : ∃ v' w', (Builtin.append_ #[40, 40] 40 #[v, .slice (some ⟨wr.heap.size, 0, none⟩) 1 1]).run Try.prog (wr.alloc (.cells #[.int .u8 0] 5)) = .ok v' w' ∧ Lp w b C v' (L ++ [0]) w' := by
  have h2 := h.no ((Tn.refl No wr).alloc (.cells #[.int .u8 0] 5))
  obtain ⟨v', w', hr, hbr, hou⟩ := br_push h2.mkd.lr.br 0 wr.heap.size 0 rfl (by rw [World.cell?_alloc_new]; rfl) (by omega)
  exact ⟨v', w', hr, h2.step hbr hou⟩
theorem Lp.text (h : Lp w b C v L wr) (s : ByteArray) (hl : L.length ≤ 4294967000) (hs : s.size ≤ 2147483648) : ∃ v' w', (Builtin.append_ #[40, 9] 40 #[v, .string s]).run Try.prog wr = .ok v' w' ∧ Lp w b C v' (L ++ s.data.toList) w' := by
  have e : s.data.toList.length = s.size := by simp
  have hsrc : Src Try.prog 1 9 (.string s) s.data.toList.length (bc s.data.toList) wr := by
    rw [e, ← bc_string]
    exact Src.ofString wr Try.underlying9 s
  obtain ⟨v', w', hr, hbr, hg, ho⟩ := br_append (s := s.data.toList) 40 h.mkd.lr.br hsrc (by omega)
  exact ⟨v', w', hr, h.step hbr (Ou.of hg ho)⟩
end
end Go.Proofs.Ytlkbnjdhokjfnaa
