/-
  heap: the laws' own, walked.
-/
import Derived.Test.YtlkbnjdhokjfnaaHOwn0
namespace Go.Proofs.Ytlkbnjdhokjfnaa
set_option linter.unusedSimpArgs false
set_option linter.unusedVariables false
open Go.RowKit
attribute [local go_sem ↓] Go.wp_at_zero Go.wp_at_succ

set_option maxHeartbeats 8000000 in
set_option maxRecDepth 100000 in
theorem own_raw (tv rv : Value) (ts : List Th) (rs : List Rf) (w : World) (h : GA w tv rv ts rs) :
    Calls Try.prog 16 #[.agg #[tv, rv]] w fun e w' => ∃ a1 n1 c1 a2 n2 c2 us, e = .returned (.agg #[.slice a1 n1 c1, .slice a2 n2 c2]) ∧ OwnG w (.slice a1 n1 c1) (.slice a2 n2 c2) ts rs us w' := by
  have htl := h.tlen
  have hrl := h.rlen
  obtain ⟨m, hmm⟩ : ∃ m, ts.length = m := ⟨_, rfl⟩
  obtain ⟨wB, hwB⟩ : ∃ wB, (w.alloc (.cells #[tv, rv] 27)).alloc (.cells #[.slice none 0 0, .slice none 0 0] 27) = wB := ⟨_, rfl⟩
  have tB : Tn No w wB := by rw [← hwB]; exact ((Tn.refl No w).alloc _).alloc _
  have sB : wB.heap.size = w.heap.size + 2 := by rw [← hwB]; simp
  have bB : wB.heap[w.heap.size]? = some (.cells #[tv, rv] 27 (0, 0)) := by
    rw [← hwB, Below.heap_alloc _ _ _ (by simp)]; exact heap_alloc_new w _
  have bR : wB.heap[w.heap.size + 1]? = some (.cells #[.slice none 0 0, .slice none 0 0] 27 (0, 0)) := by
    have := heap_alloc_new (w.alloc (.cells #[tv, rv] 27)) (.cells #[.slice none 0 0, .slice none 0 0] 27)
    rw [hwB] at this
    simpa using this
  have HLS : Hid (Calls Try.prog 38 #[rv] wB fun e w1 => ∃ g, e = .returned (.slice (some ⟨g, 0, none⟩) rs.length (rs.length + 1)) ∧ Lst wB (.slice (some ⟨g, 0, none⟩) rs.length (rs.length + 1)) rs g w1) := hid (list_raw rv rs wB (h.roots.no tB) hrl)
  have HLT : Hid (∀ (x : Nat) (t : Th) (u : World), ts[x]? = some t → Tn No w u → Calls Try.prog 38 #[t.rv] u fun e w' => ∃ g, e = .returned (.slice (some ⟨g, 0, none⟩) t.refs.length (t.refs.length + 1)) ∧ Lst u (.slice (some ⟨g, 0, none⟩) t.refs.length (t.refs.length + 1)) t.refs g w') := hid (fun x t u e tn => list_raw t.rv t.refs u ((h.each t (List.mem_of_getElem? e)).refs.no tn) (h.each t (List.mem_of_getElem? e)).len)
  have HTA : Hid (∀ (x : Nat) (t : Th), ts[x]? = some t → TA w t) := hid (fun x t e => h.each t (List.mem_of_getElem? e))
  have HROK := hid h.rok
  obtain ⟨ra, rc, hrv, _⟩ := h.roots
  obtain ⟨ta, tc, htv, hct, hcm, hat⟩ := h.things
  have HAT := hid hat
  rw [hmm] at htv htl hct
  obtain ⟨rn, hrn⟩ : ∃ rn, rs.length = rn := ⟨_, rfl⟩
  have HRN := hid hrn
  rw [hrn] at hrv HLS hrl
  subst hrv htv
  have HTB := hid tB
  have HSB := hid sB
  have HM := hid hmm
  have HBB := hid bB
  have HBR := hid bR
  clear h hat bB bR tB sB hrn hmm
  subst hwB
  go_enter Try.func16, Try.ntmps16
  go_wp2_with (first
    | (go_at_call 38; refine HLS.out.mono ?_; rintro e w1 ⟨gr, rfl, hl1⟩; have HL1 := hid hl1; clear hl1))
  clear HLS
  go_loopw [4] (fun i wr => ∃ (j : Nat) (tvo : Value) (out : List Th), j ≤ m ∧ i = .int .i64 (j : Int) ∧ Ow (w.heap.size + 2) (w1.alloc (.cells #[.slice none 0 0, .slice (some ⟨gr, 0, none⟩) rn (rn + 1)] 27)) w1.heap.size (.slice (some ⟨gr, 0, none⟩) rn (rn + 1)) tvo out wr ∧ out.map Th.pl = (ts.take j).map Th.pl) (fun i _ => m - (intOf i).toNat)
  case atStart => exact ⟨0, _, _, by omega, rfl, ow_start _ _ _, rfl⟩
  case round =>
    obtain ⟨j, tvo, out, hj, rfl, how, hpl⟩ := hrel
    have hmm := HM.out
    have sB := HSB.out
    have z1 := HL1.out.tn.size
    have hup := how.up
    have zr := hup.tn.size
    have zr2 : w1.heap.size < wr.heap.size := by simp at zr; omega
    have zAw : w.heap.size + 1 < w1.heap.size := by omega
    have hol : out.length = j := by have := congrArg List.length hpl; simp at this; omega
    have hold : ∀ k, k < w.heap.size + 2 → wr.heap[k]? = _ := fun k hk => by
      rw [hup.tn.block k (by simp; omega) (by omega), ((Tn.refl No w1).alloc (.cells #[.slice none 0 0, .slice (some ⟨gr, 0, none⟩) rn (rn + 1)] 27)).block k (by omega) (fun e => e), HL1.out.tn.block k (by omega) (fun e => e)]
    have g0 : wr.cell? ⟨w.heap.size, 0, none⟩ = some (.slice ta m tc) := by
      simp only [World.cell?, hold w.heap.size (by omega), HBB.out]; rfl
    have twr := (Up.fresh ((HTB.out.then HL1.out.tn).alloc (.cells #[.slice none 0 0, .slice (some ⟨gr, 0, none⟩) rn (rn + 1)] 27)) (F := fun x => x = w1.heap.size) (fun k e => by omega) hup).1
    have hmi : (j : Int) ≤ (m : Int) := by omega
    by_cases hlt : j < m
    · have hxl : j < ts.length := by omega
      have hts : ts[j]? = some ts[j] := List.getElem?_eq_getElem hxl
      have hta := HTA.out _ _ hts
      obtain ⟨g', o', hta', hg', hcell⟩ := HAT.out (by omega)
      obtain ⟨q0, q1, q2, q3⟩ := thing_cells hcell j hxl
      rw [← twr.cell hg' (fun e => e)] at q0 q1 q2 q3
      obtain ⟨xa, xc, hxf⟩ := hta.form
      have hps := map_take_succ Th.pl hxl
      obtain ⟨t, htt⟩ : ∃ t, ts[j] = t := ⟨_, rfl⟩
      rw [htt] at hts hta q0 q1 q2 q3 hxf hps
      subst hta'
      obtain ⟨W1, hW1⟩ : ∃ W1, wr.alloc (.cells #[.int .i64 t.kind, .int .i64 t.tag, .string t.bytes, .slice xa t.refs.length xc] 24) = W1 := ⟨_, rfl⟩
      have t1 : Tn No wr W1 := by rw [← hW1]; exact (Tn.refl No wr).alloc _
      have s1 : W1.heap.size = wr.heap.size + 1 := by rw [← hW1]; simp
      have hh1 : W1.heap[wr.heap.size]? = some (.cells #[.int .i64 t.kind, .int .i64 t.tag, .string t.bytes, t.rv] 24 (0, 0)) := by rw [← hW1, hxf]; exact heap_alloc_new wr _
      have HCA := hid (HLT.out j t W1 hts (twr.then t1))
      have HNX : Hid (∀ v gb w2, Lst W1 v t.refs gb w2 → _) := hid (fun v gb w2 hmk => how.next (by omega) t ⟨hta.kind, hta.tag, hta.rok, hta.bytes, hta.len⟩ (by omega) t1 s1 hh1 hmk)
      have HPL : Hid (∀ v, (out ++ [(⟨t.kind, t.tag, t.bytes, v, t.refs⟩ : Th)]).map Th.pl = (ts.take (j + 1)).map Th.pl) := hid (fun v => by rw [hps, List.map_append, hpl]; rfl)
      rw [hxf] at q3 HCA
      have i4 : (j : Int) < (m : Int) := by omega
      have hb1 : w.heap.size < wr.heap.size := by omega
      have hb2 : g' < wr.heap.size := Nat.lt_of_lt_of_le hg' twr.size
      clear hmm sB z1 hup zr hold twr hxl hts hta hcell htt hxf t1 s1 hh1 how hpl hps hol HLT HAT HTA HTB HSB HBB HBR HROK HL1
      obtain ⟨kind, tag, bytes, trv, refs⟩ := t
      dsimp only at q0 q1 q2 q3 hW1 HNX HCA HPL
      subst hW1
      go_wp2_with (first
        | (go_at_call 38; refine HCA.out.mono ?_; rintro e w2 ⟨gb2, rfl, hl2⟩; obtain ⟨y0, y1, y2, y3, y4, y5, y6, y7, y8, tvo', w5, hr5, ⟨a5, n5, c5, rfl⟩, y9, y10, y11, how5⟩ := HNX.out _ _ _ hl2; have y13 := y4 3; have HR5 := hid hr5; have HOW5 := hid how5; clear hr5 how5 hl2 y4)
        | (at_builtin; refine wpList_app _ rfl _ _ _ _ rfl _ _ rfl rfl _ w5 HR5.out ?_))
      go_roundw
      case rel => exact ⟨j + 1, _, _, by omega, by go_num, HOW5.out, HPL.out _⟩
      case measure => simp [intOf]; omega
    · obtain rfl : j = m := by omega
      have c0 := how.c0
      have c1 := how.c1
      have hcl := how.cl
      have r0 : wr.heap[w.heap.size + 1]? = some (.cells #[.slice none 0 0, .slice none 0 0] 27 (0, 0)) := by rw [hold _ (by omega)]; exact HBR.out
      have r1 : wr.cell? ⟨w.heap.size + 1, 0, none⟩ = some (.slice none 0 0) := by simp only [World.cell?, r0]; rfl
      have r2 : wr.cell? ⟨w.heap.size + 1, 1, none⟩ = some (.slice none 0 0) := by simp only [World.cell?, r0]; rfl
      have r3 : wr.frozen? ⟨w.heap.size + 1, 0, none⟩ = false := by simp only [World.frozen?, r0]; rfl
      have r4 : wr.frozen? ⟨w.heap.size + 1, 1, none⟩ = false := by simp only [World.frozen?, r0]; rfl
      rw [List.take_of_length_le (by omega)] at hpl
      obtain ⟨oa, oc, hof, _⟩ := how.tl.rw.form
      rw [hol] at hof
      subst hof
      have HFIN : Hid (∀ a a', OwnG w (.slice oa j oc) (.slice (some ⟨gr, 0, none⟩) rn (rn + 1)) ts rs out ((wr.setCell ⟨w.heap.size + 1, 0, none⟩ a).setCell ⟨w.heap.size + 1, 1, none⟩ a')) := hid (fun a a' => how.fin HTB.out HL1.out sB hpl (by omega) (by rw [HRN.out]; exact hrl) HROK.out a a')
      have K2 : Hid (∀ a a', ((wr.setCell ⟨w.heap.size + 1, 0, none⟩ a).setCell ⟨w.heap.size + 1, 1, none⟩ a').cell? ⟨w.heap.size + 1, 1, none⟩ = some a' ∧ (wr.setCell ⟨w.heap.size + 1, 0, none⟩ a).cell? ⟨w.heap.size + 1, 0, none⟩ = some a) := hid (fun a a' => by
        have a1 : (wr.setCell ⟨w.heap.size + 1, 0, none⟩ a).cell? ⟨w.heap.size + 1, 1, none⟩ = some (.slice none 0 0) := by rw [World.cell?_setCell_other _ _ _ _ (by simp)]; exact r2
        exact ⟨World.cell?_setCell_same _ _ _ a1, World.cell?_setCell_same _ _ _ r1⟩)
      have hne : w1.heap.size ≠ w.heap.size + 1 := by omega
      have hne2 : w.heap.size + 1 ≠ w1.heap.size := by omega
      have hb4 : w.heap.size + 1 < wr.heap.size := by omega
      clear hmm sB z1 hup zr hold twr how hpl hol HLT HAT HTA HTB HSB HBB HBR HROK HL1 r0
      go_wp2
      refine bodyPost_ret (v := .agg #[.slice oa j oc, .slice (some ⟨gr, 0, none⟩) rn (rn + 1)]) (by simp [results, Try.results16, go_sem, (K2.out _ _).1, (K2.out _ (.int .i64 0)).2]) rfl ?_
      exact ⟨_, _, _, _, _, _, _, rfl, HFIN.out _ _⟩
end Go.Proofs.Ytlkbnjdhokjfnaa
