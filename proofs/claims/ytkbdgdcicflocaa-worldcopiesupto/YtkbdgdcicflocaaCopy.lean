/-
  The program's Copy.
-/
import Derived.Test.YtkbdgdcicflocaaCopyA
import Derived.Test.YtkbdgdcicflocaaNorm
namespace Go.Proofs.Ytkbdgdcicflocaa
set_option linter.unusedSimpArgs false
set_option linter.unusedVariables false
open Go.RowKit
attribute [local go_sem ↓] Go.wp_at_zero Go.wp_at_succ

theorem ev_cells {wr w7 : World} {a b c : Value} {T : TypeId} (t : Tn No (wr.alloc (.cells #[a, b, c] T)).drew w7) : w7.cell? ⟨wr.heap.size, 0, none⟩ = some a ∧ w7.cell? ⟨wr.heap.size, 1, none⟩ = some b ∧ w7.cell? ⟨wr.heap.size, 2, none⟩ = some c ∧ wr.heap.size < w7.heap.size := by
  have hs : wr.heap.size < (wr.alloc (.cells #[a, b, c] T)).drew.heap.size := by simp
  refine ⟨(t.cell hs (fun e => e)).trans ?_, (t.cell hs (fun e => e)).trans ?_, (t.cell hs (fun e => e)).trans ?_, Nat.lt_of_lt_of_le hs t.size⟩
  all_goals
    show (wr.alloc (.cells #[a, b, c] T)).cell? _ = _
    rw [World.cell?_alloc_new]
    rfl

theorem ev_lt {wr : World} {o : Obj} {v : Value} (h : ∀ g, v.ownBlock = some g → (wr.alloc o).drew.heap.size ≤ g) : ∀ g, v.ownBlock = some g → wr.heap.size < g := fun g hg => by
  have := h g hg
  simp at this
  omega
theorem ev_alloc {w7 : World} {n : Nat} {a b c : Value} (hn : n < w7.heap.size) (h0 : w7.cell? ⟨n, 0, none⟩ = some a) (h1 : w7.cell? ⟨n, 1, none⟩ = some b) (h2 : w7.cell? ⟨n, 2, none⟩ = some c) : ∀ o, (w7.alloc o).cell? ⟨n, 0, none⟩ = some a ∧ (w7.alloc o).cell? ⟨n, 1, none⟩ = some b ∧ (w7.alloc o).cell? ⟨n, 2, none⟩ = some c := fun o => by
  have t : Tn No w7 (w7.alloc o) := (Tn.refl No w7).alloc o
  exact ⟨(t.cell hn (fun e => e)).trans h0, (t.cell hn (fun e => e)).trans h1, (t.cell hn (fun e => e)).trans h2⟩
theorem ev_keep {w7 w' : World} {n : Nat} {a b c : Value} (hk : w'.heap[n]? = w7.heap[n]?) (h0 : w7.cell? ⟨n, 0, none⟩ = some a) (h1 : w7.cell? ⟨n, 1, none⟩ = some b) (h2 : w7.cell? ⟨n, 2, none⟩ = some c) : w'.cell? ⟨n, 0, none⟩ = some a ∧ w'.cell? ⟨n, 1, none⟩ = some b ∧ w'.cell? ⟨n, 2, none⟩ = some c :=
  ⟨(World.cell?_of_block (w := w7) (a := ⟨n, 0, none⟩) hk).trans h0, (World.cell?_of_block (w := w7) (a := ⟨n, 1, none⟩) hk).trans h1, (World.cell?_of_block (w := w7) (a := ⟨n, 2, none⟩) hk).trans h2⟩
theorem ev_set {w' : World} {q n : Nat} {a b c v : Value} (hq : q < n) (h : w'.cell? ⟨n, 0, none⟩ = some a ∧ w'.cell? ⟨n, 1, none⟩ = some b ∧ w'.cell? ⟨n, 2, none⟩ = some c) : (w'.setCell ⟨q, 60, none⟩ v).cell? ⟨n, 0, none⟩ = some a ∧ (w'.setCell ⟨q, 60, none⟩ v).cell? ⟨n, 1, none⟩ = some b ∧ (w'.setCell ⟨q, 60, none⟩ v).cell? ⟨n, 2, none⟩ = some c := by
  have e := ev_keep (w' := w'.setCell ⟨q, 60, none⟩ v) (n := n) (Below.heap_setCell _ _ _ _ (by simp only; omega)) h.1 h.2.1 h.2.2
  exact e

def CopyPost (w : World) (M : Nat) (S : St) (e : Ending) (u : World) : Prop := ∃ q, e = .returned (.pointer (some ⟨q, 0, none⟩)) ∧ Own w u q M S

set_option maxHeartbeats 16000000 in
set_option maxRecDepth 100000 in
theorem copy_raw (p : Nat) (L : Nat → Option Lab) (N : Nat) (S : St) (w : World) (h : PW w p L N S) (hN : 3 * N + 1 ≤ 1099511627776) (hi : S.inp.length ≤ 1099511627776) :
    Calls Try.prog 14 #[.pointer (some ⟨p, 0, none⟩)] w (CopyPost w (3 * N) S) := by
  obtain ⟨c, mo, iv, tv, vs, hx⟩ := h
  have plt := hx.sc.lt
  have HX := hid hx
  have HCL : Hid (∀ v, Tn No w v → Calls Try.prog 49 #[c 1] v (ClPost v S.inp)) := hid (fun v t => by rw [hx.c1]; exact clone_raw iv S.inp v (hx.no t).inp hi)
  have HC : Hid (∀ v, Tn No w v → v.rangeAt p 3 [c 3, c 4, c 5, c 6, c 7, c 8, c 9, c 10, c 11, c 12, c 13, c 14, c 15, c 16, c 17, c 18, c 19, c 20, c 21, c 22, c 23, c 24, c 25, c 26, c 27, c 28, c 29, c 30, c 31, c 32, c 33, c 34, c 35, c 36, c 37, c 38, c 39, c 40, c 41, c 42, c 43, c 44, c 45, c 46, c 47, c 48, c 49, c 50, c 51, c 52, c 53, c 54, c 55, c 56, c 57, c 58, c 59] ∧ v.cell? ⟨p, 1, none⟩ = some (c 1) ∧ v.cell? ⟨p, 2, none⟩ = some (.int .i64 (S.rd : Int))) := hid (fun v t => ⟨fun j u hu => by
    obtain ⟨hj, rfl⟩ := ops57_at c j u hu
    exact (hx.no t).sc.cell _ (by omega), (hx.no t).sc.cell 1 (by omega), ((hx.no t).sc.cell 2 (by omega)).trans (by rw [hx.c2])⟩)
  have hu68 := Try.underlying68
  have hs68 : (Try.prog.info? 68).map (·.size) = some ([c 3, c 4, c 5, c 6, c 7, c 8, c 9, c 10, c 11, c 12, c 13, c 14, c 15, c 16, c 17, c 18, c 19, c 20, c 21, c 22, c 23, c 24, c 25, c 26, c 27, c 28, c 29, c 30, c 31, c 32, c 33, c 34, c 35, c 36, c 37, c 38, c 39, c 40, c 41, c 42, c 43, c 44, c 45, c 46, c 47, c 48, c 49, c 50, c 51, c 52, c 53, c 54, c 55, c 56, c 57, c 58, c 59] : List Value).length := by
    have : (Try.prog.info? 68).map (·.size) = some 57 := by kernel_rfl
    exact this
  obtain ⟨ca0, ca1, ca2⟩ := HC.out w (Tn.refl No w)
  have HKM : Hid (∀ v, Tn No w v → v.cell? ⟨p, 0, none⟩ = some (.map mo)) := hid (fun v t => ((hx.no t).sc.cell 0 (by omega)).trans (by rw [hx.c0]))
  obtain ⟨ta, tc, htv, hlc, hcm, hnil, hsome⟩ := hx.ew.rw.form
  have hlen := hx.ew.len
  obtain ⟨n, hn⟩ : ∃ n, S.tr.length = n := ⟨_, rfl⟩
  rw [hn] at htv hlc hnil hlen
  have HTV := hid htv
  have HTN := hid hn
  have HNIL := hid hnil
  have HSOME := hid hsome
  have HKT : Hid (∀ v, Tn No w v → v.cell? ⟨p, 60, none⟩ = some (.slice ta n tc)) := hid (fun v t => ((hx.no t).sc.cell 60 (by omega)).trans (by rw [hx.c60, htv]))
  clear hx htv hn hnil hsome
  go_enter Try.func14, Try.ntmps14
  go_wp2_with fail
  go_region_held3 (fun w' => w'.rangeAt p 3 [c 3, c 4, c 5, c 6, c 7, c 8, c 9, c 10, c 11, c 12, c 13, c 14, c 15, c 16, c 17, c 18, c 19, c 20, c 21, c 22, c 23, c 24, c 25, c 26, c 27, c 28, c 29, c 30, c 31, c 32, c 33, c 34, c 35, c 36, c 37, c 38, c 39, c 40, c 41, c 42, c 43, c 44, c 45, c 46, c 47, c 48, c 49, c 50, c 51, c 52, c 53, c 54, c 55, c 56, c 57, c 58, c 59] ∧ w'.cell? ⟨p, 1, none⟩ = some (c 1) ∧ w'.cell? ⟨p, 2, none⟩ = some (.int .i64 (S.rd : Int))) (first | exact ⟨ca0, ca1, ca2⟩ | exact hc5 | exact hc6 _) (first
    | (go_at_call 49; refine (HCL.out _ ((Tn.refl No w).drew)).mono ?_; rintro e w5 ⟨ca, cc, rfl, hbr, hob, t5⟩; have HBR := hid hbr; have HOB := hid hob; clear hbr hob; have t05 := ((Tn.refl No w).drew).then t5; have hc5 := HC.out _ t05; have hc6 := fun o => HC.out _ (t05.alloc o)))
  obtain ⟨L6, hpw6, hl6⟩ := new_px HX.out t05 ca cc HBR.out HOB.out
  have z5 := t05.size
  have zp5 : p < w5.heap.size := Nat.lt_of_lt_of_le plt z5
  have HT05 := hid t05
  have HP6 := hid hpw6
  have HL6 := hid hl6
  have hkm := fun o => HKM.out _ (t05.alloc o)
  clear t5 t05 hc5 hc6 ca0 ca1 ca2 HCL HC hpw6 hl6 HBR HOB hu68 hs68
  obtain ⟨g1, hg1⟩ : ∃ g1, g1 = Value.agg #[c 3, c 4, c 5, c 6, c 7, c 8, c 9, c 10, c 11, c 12, c 13, c 14, c 15, c 16, c 17, c 18, c 19, c 20, c 21, c 22, c 23, c 24, c 25, c 26, c 27, c 28, c 29, c 30, c 31, c 32, c 33, c 34, c 35, c 36, c 37, c 38, c 39, c 40, c 41, c 42, c 43, c 44, c 45, c 46, c 47, c 48, c 49, c 50, c 51, c 52, c 53, c 54, c 55, c 56, c 57, c 58, c 59] := ⟨_, rfl⟩
  obtain ⟨g2, hg2⟩ : ∃ g2, g2 = Value.agg #[.map none, .slice ca S.inp.length cc, .int .i64 (S.rd : Int), c 3, c 4, c 5, c 6, c 7, c 8, c 9, c 10, c 11, c 12, c 13, c 14, c 15, c 16, c 17, c 18, c 19, c 20, c 21, c 22, c 23, c 24, c 25, c 26, c 27, c 28, c 29, c 30, c 31, c 32, c 33, c 34, c 35, c 36, c 37, c 38, c 39, c 40, c 41, c 42, c 43, c 44, c 45, c 46, c 47, c 48, c 49, c 50, c 51, c 52, c 53, c 54, c 55, c 56, c 57, c 58, c 59, .slice none 0 0] := ⟨_, rfl⟩
  rw [← hg1, ← hg2]
  have HT6 : Hid (Tn No w (w5.alloc (.cells #[.map none, .slice ca S.inp.length cc, .int .i64 (S.rd : Int), c 3, c 4, c 5, c 6, c 7, c 8, c 9, c 10, c 11, c 12, c 13, c 14, c 15, c 16, c 17, c 18, c 19, c 20, c 21, c 22, c 23, c 24, c 25, c 26, c 27, c 28, c 29, c 30, c 31, c 32, c 33, c 34, c 35, c 36, c 37, c 38, c 39, c 40, c 41, c 42, c 43, c 44, c 45, c 46, c 47, c 48, c 49, c 50, c 51, c 52, c 53, c 54, c 55, c 56, c 57, c 58, c 59, .slice none 0 0] 71))) := hid (HT05.out.alloc _)
  have hk0 := HKM.out _ HT6.out
  have z6 : (w5.alloc (.cells #[.map none, .slice ca S.inp.length cc, .int .i64 (S.rd : Int), c 3, c 4, c 5, c 6, c 7, c 8, c 9, c 10, c 11, c 12, c 13, c 14, c 15, c 16, c 17, c 18, c 19, c 20, c 21, c 22, c 23, c 24, c 25, c 26, c 27, c 28, c 29, c 30, c 31, c 32, c 33, c 34, c 35, c 36, c 37, c 38, c 39, c 40, c 41, c 42, c 43, c 44, c 45, c 46, c 47, c 48, c 49, c 50, c 51, c 52, c 53, c 54, c 55, c 56, c 57, c 58, c 59, .slice none 0 0] 71)).heap.size = w5.heap.size + 1 := by simp
  obtain ⟨w6, hw6⟩ : ∃ w6, w6 = w5.alloc (.cells #[.map none, .slice ca S.inp.length cc, .int .i64 (S.rd : Int), c 3, c 4, c 5, c 6, c 7, c 8, c 9, c 10, c 11, c 12, c 13, c 14, c 15, c 16, c 17, c 18, c 19, c 20, c 21, c 22, c 23, c 24, c 25, c 26, c 27, c 28, c 29, c 30, c 31, c 32, c 33, c 34, c 35, c 36, c 37, c 38, c 39, c 40, c 41, c 42, c 43, c 44, c 45, c 46, c 47, c 48, c 49, c 50, c 51, c 52, c 53, c 54, c 55, c 56, c 57, c 58, c 59, .slice none 0 0] 71) := ⟨_, rfl⟩
  rw [← hw6] at HT6 HP6 hk0 z6 ⊢
  obtain ⟨q, hq⟩ : ∃ q, w5.heap.size = q := ⟨_, rfl⟩
  rw [hq] at HP6 HL6 z6 zp5 z5 ⊢
  have zp6 : p < w6.heap.size := by omega
  clear hg1 hg2 hw6 hq hkm HT05
  go_wp2_with (at_range; refine wpList_range_any _ rfl _ rfl HX.out HT6.out rfl ?_; intro w0 left0 cnt0 hrg0 hcn0 hpt0 tn0 hs0)
  go_frame
  obtain ⟨r, hr⟩ : ∃ r, w6.heap.size = r := ⟨_, rfl⟩
  rw [hr] at hrg0 hs0 ⊢
  have HCP0 : Hid (CP w w0 q r (N + 0) (partSt S left0)) := hid (by
    rw [hpt0]
    exact ⟨L6, HP6.out.no tn0, fun k hk => by have := HL6.out k hk; omega, HT6.out.then tn0, by omega⟩)
  have HR0 := hid hrg0
  have hwr : w.heap.size ≤ r := by have := HT6.out.size; omega
  clear hrg0 hpt0 tn0 HP6 HL6 HT6 hk0 zp6 z6 zp5 z5
  go_loopw [4] (fun _ wr => ∃ (left : Lit → Bool) (cnt j : Nat), RG w wr S mo r N left cnt ∧ j + cnt ≤ N ∧ CP w wr q r (N + j) (partSt S left)) (fun _ wr => rgLeft wr mo r)
  case atStart => exact ⟨left0, cnt0, 0, HR0.out, by omega, HCP0.out⟩
  case round =>
    obtain ⟨left, cnt, j, hrg, hjc, hcp⟩ := hrel
    have htw : Tn No w wr := by obtain ⟨_, _, _, t, _⟩ := hcp; exact t
    have hrl : r < wr.heap.size := by obtain ⟨_, _, _, _, t⟩ := hcp; exact t
    have HCP := hid hcp
    have HTW := hid htw
    have kt : wr.cell? ⟨p, 60, none⟩ = some (.slice ta n tc) := HKT.out _ htw
    have plr : p < wr.heap.size := Nat.lt_of_lt_of_le plt htw.size
    clear hcp htw HR0 HCP0
    go_wp2_with (at_next; refine wpList_next_any _ rfl _ rfl hrg rfl HTW.out hwr ?_ ?_)
    · intro hl0
      have HCP' : Hid (CP w wr q r (N + j) { S with tr := [] }) := hid (by have := HCP.out; rw [part_end S left hl0] at this; exact this)
      have hj : j ≤ N := by omega
      clear HCP hrg hl0 hjc
      go_wp2_with fail
      have HCP1 : Hid (CP w wr q r ((N + j) + 0) { S with tr := S.tr.take 0 }) := hid HCP'.out
      clear HCP'
      go_loopw [45] (fun i wr => ∃ k : Nat, k ≤ n ∧ i = .int .i64 (k : Int) ∧ CP w wr q r ((N + j) + k) { S with tr := S.tr.take k }) (fun i _ => n - (intOf i).toNat)
      case atStart => exact ⟨0, by omega, rfl, HCP1.out⟩
      case round =>
        obtain ⟨k, hk, rfl, hcp⟩ := hrel
        by_cases hlt : k < n
        · cases ta with
          | none => have := (HNIL.out rfl).1; omega
          | some x =>
          obtain ⟨hxe, hxl⟩ := HSOME.out x rfl
          obtain ⟨g, o, sp⟩ := x
          cases hxe
          have htw : Tn No w wr := by obtain ⟨_, _, _, t, _⟩ := hcp; exact t
          obtain ⟨e, he⟩ : ∃ e, S.tr[k]? = some e := ⟨_, List.getElem?_eq_getElem (by have := HTN.out; omega)⟩
          obtain ⟨e0, e1, e2, ebr, _, etl⟩ := HX.out.ew.ev k e he
          rw [HTV.out, Nat.mul_comm 3 k] at e0 e1 e2
          obtain ⟨av, cv, hvs, _⟩ := ebr.rw.form
          rw [hvs] at e2 ebr
          have y0 : wr.cell? ⟨g, k * 3, none⟩ = some (.int .i64 e.kind) := (htw.cell hxl (fun e => e)).trans e0
          have y1 : wr.cell? ⟨g, k * 3 + 1, none⟩ = some (.string e.name) := (htw.cell hxl (fun e => e)).trans e1
          have y2 : wr.cell? ⟨g, k * 3 + 2, none⟩ = some (.slice av e.text.length cv) := (htw.cell hxl (fun e => e)).trans e2
          have htk : ({ S with tr := S.tr.take k } : St).addEv e = { S with tr := S.tr.take (k + 1) } := by
            simp only [St.addEv, List.take_add_one, he]
            rfl
          have hlk : (S.tr.take k).length = k := by have := HTN.out; simp; omega
          obtain ⟨qa, qc, qlt, hq60, hev⟩ := cp_ev hcp (by omega)
          rw [hlk] at hq60 hev
          have HEV : Hid (∀ u, Tn No wr u → ∀ (xa : Option Addr) (xm xc : Nat), BR u (.slice xa xm xc) e.text → (∀ g, (Value.slice xa xm xc).ownBlock = some g → wr.heap.size < g) → wr.heap.size < u.heap.size → ∃ v' w', (Builtin.append_ #[69, 69] 69 #[.slice qa k qc, .slice (some ⟨u.heap.size, 0, none⟩) 1 1]).run Try.prog (u.alloc (.cells #[.int .i64 e.kind, .string e.name, .slice xa xm xc] 87)) = .ok v' w' ∧
            w'.cell? ⟨q, 60, none⟩ = some (.slice qa k qc) ∧ w'.frozen? ⟨q, 60, none⟩ = false ∧ q < w'.heap.size ∧ (∃ va vn vc, v' = .slice va vn vc) ∧ w'.heap[wr.heap.size]? = u.heap[wr.heap.size]? ∧ CP w (w'.setCell ⟨q, 60, none⟩ v') q r ((N + j) + (k + 1)) { S with tr := S.tr.take (k + 1) }) := hid (fun u t xa xm xc hb ho hu => by
              have := hev u t xa xm xc e.text hb ho (by omega) hu e.kind e.name
              rw [htk] at this
              exact this)
          have HQ := hid hq60
          have HCL : Hid (∀ u, Tn No wr u → Calls Try.prog 49 #[.slice av e.text.length cv] u (ClPost u e.text)) := hid (fun u t => clone_raw _ e.text u (ebr.no (htw.then t)) (by omega))
          have hgl : g < wr.heap.size := Nat.lt_of_lt_of_le hxl htw.size
          have hki : (k : Int) < (n : Int) := by omega
          have hq0 := hq60 wr (Tn.refl No wr)
          obtain ⟨ek, hek⟩ : ∃ ek, e.kind = ek := ⟨_, rfl⟩
          obtain ⟨en, hen⟩ : ∃ en, e.name = en := ⟨_, rfl⟩
          obtain ⟨em, hem⟩ : ∃ em, e.text.length = em := ⟨_, rfl⟩
          rw [hek] at y0 HEV
          rw [hen] at y1 HEV
          rw [hem] at y2 HCL
          clear he e0 e1 e2 ebr etl hvs htk hlk hev hq60 htw hcp hek hen HX HTV HNIL HSOME HKT HKM HCP1 hem
          go_wp2_with fail
          refine wp_norm 49 17 (fun wc => CP w wc q r ((N + j) + (k + 1)) { S with tr := S.tr.take (k + 1) }) ?_ ?_
          case refine_1 =>
           intro G HG
           go_light
           have s0 : (wr.alloc (.cells #[.int .i64 ek, .string en, .slice av em cv] 87)).cell? ⟨wr.heap.size, 0, none⟩ = some (.int .i64 ek) ∧ (wr.alloc (.cells #[.int .i64 ek, .string en, .slice av em cv] 87)).cell? ⟨wr.heap.size, 1, none⟩ = some (.string en) ∧ (wr.alloc (.cells #[.int .i64 ek, .string en, .slice av em cv] 87)).cell? ⟨wr.heap.size, 2, none⟩ = some (.slice av em cv) := by
             refine ⟨?_, ?_, ?_⟩ <;> (rw [World.cell?_alloc_new]; rfl)
           go_region_law (first
             | (refine wp_app rfl _ _ _ _ rfl _ _ rfl rfl _ w' HR.out ?_)
             | (refine wp_fcall rfl 49 _ (by go_simp) (HCL.out _ ((Tn.refl No wr).alloc _).drew) ?_; rintro e' w7 ⟨ca7, cc7, rfl, hbr7, hob7, t7⟩; refine ⟨_, rfl, ?_⟩; have t17 := (((Tn.refl No wr).alloc _).drew).then t7; obtain ⟨g0, g1, g2, g3⟩ := ev_cells t7; obtain ⟨v', w', hr, hc60, hf60, hql, ⟨va, vn, vc, rfl⟩, hwk, hcp'⟩ := HEV.out w7 t17 ca7 _ cc7 hbr7 (ev_lt hob7) g3; have HR := hid hr; have HCPN := hid hcp'; have hq7 := HQ.out _ t17; have g4 : q < w7.heap.size := Nat.lt_of_lt_of_le qlt t17.size; clear hr hcp' hbr7 hob7 hwk))
           all_goals exact ⟨HG.out _ rfl rfl rfl rfl, HCPN.out⟩
          case refine_2 =>
           rintro xs wc hxs hcpn
           match xs, hxs with
           | [x0, x1, x2, x3, x4, x5, x6, x7, x8, x9, x10, x11, x12, x13, x14, x15, x16], _ =>
           simp only [List.take_succ_cons, List.take_zero, List.drop_succ_cons, List.drop_zero, List.cons_append, List.nil_append]
           go_wp2_with fail
           exact ⟨⟨k + 1, by omega, by go_num, hcpn⟩, by simp [intOf]; omega⟩
        · obtain rfl : k = n := by omega
          go_wp2
          go_ret
          have e : S.tr.take k = S.tr := List.take_of_length_le (by have := HTN.out; omega)
          rw [e] at hcp
          exact ⟨q, rfl, (hcp.mono (by omega)).own⟩
    · intro s v l w1 cnt1 hsm hfs hbr hln hrg1 hlt hml hg1 hs1 hen
      have hcp1 := HCP.out.iter hwr hg1
      have HCL : Hid (∀ u, Tn No w1 u → Calls Try.prog 49 #[v] u (ClPost u l)) := hid (fun u t => by
        obtain ⟨_, _, _, t1, _⟩ := hcp1
        exact clone_raw v l u (hbr.no (t1.then t)) (by omega))
      have HRG1 := hid hrg1
      have HCP1 := hid hcp1
      have HML := hid hml
      have z1 : w1.heap.size = wr.heap.size := hs1
      have hw1 : w.heap.size ≤ w1.heap.size := by have := HTW.out.size; omega
      clear hrg hrg1 hcp1 hbr hml HCP kt plr hg1 hs1
      go_wp2_with (first
        | (go_at_call 49; refine (HCL.out _ (by repeat (first | exact Tn.refl _ _ | apply Tn.drew | apply Tn.drewN | apply Tn.alloc | (refine Tn.then ?_ (by assumption)) | (refine Tn.thenNo ?_ (by assumption))))).mono ?_; rintro e w2 ⟨ca2, cc2, rfl, hbr2, hob2, t2⟩; have HBR2 := hid hbr2; have HOB2 := hid hob2; clear hbr2 hob2)
        | (go_at_call 28; refine (cp_put HCP1.out t2 _ l HBR2.out HOB2.out s hsm (by omega) (by omega)).mono ?_; rintro e w3 ⟨rfl, hcp3, hsd3⟩))
      have hrg2 := (HRG1.out.sides (wr := w1) hw1 (by omega) (Sides.of_no t2))
      have hrg3 := hrg2.1.sides (wr := w2) (Nat.le_trans hw1 t2.size) (Nat.lt_of_lt_of_le (by omega) t2.size) hsd3
      rw [part_step S left _ l hfs] at hcp3
      go_roundw
      case rel => exact ⟨_, cnt1, j + 1, hrg3.1, by omega, hcp3⟩
      case measure => rw [hrg3.2, hrg2.2]; exact HML.out
end Go.Proofs.Ytkbdgdcicflocaa
