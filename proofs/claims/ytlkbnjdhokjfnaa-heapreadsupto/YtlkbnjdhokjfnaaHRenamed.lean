/-
  heap: values with their things' new numbers.
-/
import Derived.Test.YtlkbnjdhokjfnaaHMeetU
import Derived.Test.YtlkbnjdhokjfnaaSteps
namespace Go.Proofs.Ytlkbnjdhokjfnaa
set_option linter.unusedSimpArgs false
set_option linter.unusedVariables false
open Go.RowKit
attribute [local go_sem ↓] Go.wp_at_zero Go.wp_at_succ

def meetR (row : List Int) (r : Rf) : List Int := if r.1 = 2 then meetI row r.2 else row
def meetRs (row : List Int) (l : List Rf) : List Int := l.foldl meetR row
def renR (row : List Int) (r : Rf) : Rf := if r.1 = 2 then (2, ((Hp.pos row r.2 : Nat) : Int)) else r

theorem meetI_more (row : List Int) (x : Int) : ∃ m, meetI row x = row ++ m ∧ m.length ≤ 1 := by
  unfold meetI; split
  · exact ⟨[], by simp, by simp⟩
  · exact ⟨[x], rfl, by simp⟩
theorem meetR_more (row : List Int) (r : Rf) : ∃ m, meetR row r = row ++ m ∧ m.length ≤ 1 := by
  unfold meetR; split
  · exact meetI_more row r.2
  · exact ⟨[], by simp, by simp⟩
theorem meetRs_snoc (row : List Int) (l : List Rf) (r : Rf) : meetRs row (l ++ [r]) = meetR (meetRs row l) r := by simp [meetRs]
theorem meetRs_more (row : List Int) (l : List Rf) : ∃ m, meetRs row l = row ++ m ∧ m.length ≤ l.length := by
  induction l generalizing row with
  | nil => exact ⟨[], by simp [meetRs], by simp⟩
  | cons r l ih =>
    obtain ⟨m, e, h⟩ := meetR_more row r
    obtain ⟨m', e', h'⟩ := ih (meetR row r)
    refine ⟨m ++ m', ?_, by simp; omega⟩
    show meetRs (meetR row r) l = _
    rw [e', e, List.append_assoc]
theorem meetRs_has (row : List Int) (l : List Rf) : ∀ r ∈ l, r.1 = 2 → r.2 ∈ meetRs row l := by
  induction l generalizing row with
  | nil => intro r h; cases h
  | cons x l ih =>
    intro r hr e
    rcases List.mem_cons.1 hr with h | h
    · subst h
      obtain ⟨m, e', _⟩ := meetRs_more (meetR row r) l
      show r.2 ∈ meetRs (meetR row r) l
      rw [e']
      apply List.mem_append_left
      unfold meetR
      rw [if_pos e]
      exact meetI_has row r.2
    · exact ih (meetR row x) r h e
theorem renR_more {row m : List Int} {l : List Rf} (h : ∀ r ∈ l, r.1 = 2 → r.2 ∈ row) : l.map (renR (row ++ m)) = l.map (renR row) := by
  apply List.map_congr_left
  intro r hr
  unfold renR
  split
  · rename_i e; rw [Hp.pos_append (h r hr e)]
  · rfl
theorem ren_succ {row : List Int} {l : List Rf} {k : Nat} (hk : k < l.length) : meetRs row (l.take (k + 1)) = meetR (meetRs row (l.take k)) l[k] ∧
    (l.take (k + 1)).map (renR (meetRs row (l.take (k + 1)))) = (l.take k).map (renR (meetRs row (l.take k))) ++ [renR (meetR (meetRs row (l.take k)) l[k]) l[k]] := by
  have e : l.take (k + 1) = l.take k ++ [l[k]] := by rw [List.take_add_one, List.getElem?_eq_getElem hk]; rfl
  have e2 : meetRs row (l.take (k + 1)) = meetR (meetRs row (l.take k)) l[k] := by rw [e, meetRs_snoc]
  refine ⟨e2, ?_⟩
  rw [e2, e, List.map_append]
  obtain ⟨m, em, _⟩ := meetR_more (meetRs row (l.take k)) l[k]
  congr 1
  rw [em]
  exact renR_more (meetRs_has row (l.take k))

theorem lref_push {w : World} {v : Value} {l : List Rf} (h : LR 2 eR w v l) (r : Rf) (b : Nat) (hb0 : w.cell? ⟨b, 0, none⟩ = some (.int .i64 r.1)) (hb1 : w.cell? ⟨b, 1, none⟩ = some (.int .i64 r.2)) (hl : l.length + 1 ≤ 4294967296) :
    ∃ v' w', (Builtin.append_ #[22, 22] 22 #[v, .slice (some ⟨b, 0, none⟩) 1 1]).run Try.prog w = .ok v' w' ∧ LR 2 eR w' v' (l ++ [r]) ∧ Ou w v w' v' := by
  obtain ⟨v', w', h1, h2, h3, h4⟩ := lr_push (size := 2) Try.underlying22 ref_info rfl (by omega) h r rfl (by intro u hu; simp [eR] at hu; rcases hu with hu | hu <;> subst hu <;> rfl) b (fun j u hu => by
    match j, hu with
    | 0, hu => simp [eR] at hu; subst hu; exact hb0
    | 1, hu => simp [eR] at hu; subst hu; exact hb1
    | j + 2, hu => simp [eR] at hu) (by unfold maxLen; omega) (by omega) 22
  exact ⟨v', w', h1, h2, Ou.of h3 h4⟩

/-- values that are being renamed: a list that is new, a row that turns -/
structure Rn (w : World) (p b : Nat) (mv : Value) (row : List Int) (l : List Rf) (v : Value) (w' : World) (mv' : Value) : Prop where
  lr : LR 2 eR w' v (l.map (renR (meetRs row l)))
  new : ∀ g, v.ownBlock = some g → w.heap.size ≤ g ∧ ¬ RO p b mv' g
  ra : RAI w' p b mv' (meetRs row l)
  up : Up (RO p b mv) w (RO p b mv') w'
theorem Rn.no {w : World} {p b : Nat} {mv : Value} {row : List Int} {l : List Rf} {v : Value} {w1 w2 : World} {mv' : Value} (h : Rn w p b mv row l v w1 mv') (t : Tn No w1 w2) : Rn w p b mv row l v w2 mv' :=
  ⟨h.lr.no t, h.new, h.ra.no t, h.up.trans (Up.no t)⟩
/-- a new value behind them -/
theorem Rn.push {w : World} {p b : Nat} {mv : Value} {row : List Int} {l : List Rf} {v : Value} {w1 : World} {mv1 : Value} {k : Nat} (hk : k < l.length) {w2 : World} {mv2 : Value}
    (h : Rn w p b mv row (l.take k) v w1 mv1) (ra : RAI w2 p b mv2 (meetR (meetRs row (l.take k)) l[k])) (up : Up (RO p b mv1) w1 (RO p b mv2) w2) (c : Nat) {r : Rf} (hr : r = renR (meetR (meetRs row (l.take k)) l[k]) l[k]) (c0 : w2.cell? ⟨c, 0, none⟩ = some (.int .i64 r.1)) (c1 : w2.cell? ⟨c, 1, none⟩ = some (.int .i64 r.2)) (hl : l.length ≤ 4294967295) :
    ∃ v' w', (Builtin.append_ #[22, 22] 22 #[v, .slice (some ⟨c, 0, none⟩) 1 1]).run Try.prog w2 = .ok v' w' ∧ Rn w p b mv row (l.take (k + 1)) v' w' mv2 := by
  subst hr
  obtain ⟨e1, e2⟩ := ren_succ (row := row) hk
  obtain ⟨hlr, hno⟩ := h.lr.up up (fun g hg => (h.new g hg).2)
  obtain ⟨v', w', hrun, lr', ou⟩ := lref_push hlr _ c c0 c1 (by simp; omega)
  refine ⟨v', w', hrun, by rw [e2]; exact lr', fun g hg => ?_, ?_, ?_⟩
  · rcases ou.own g hg with e | e
    · exact ⟨(h.new g e).1, hno g e⟩
    · refine ⟨Nat.le_trans (h.up.trans up).tn.size e, fun e' => ?_⟩
      have := ra.olt g e'; omega
  · rw [e1]
    exact ra.kept ou.tn (fun g hg e => hno g e hg)
  · refine ⟨(h.up.trans up).tn.trans ou.tn (fun _ _ e => e) (fun i hi e => ?_), (h.up.trans up).own⟩
    have := (h.new i e).1; omega

theorem i64wf {x : Int} (h : i64ok x) : (Lit.int .i64 x).wf = true := WalkArith.wf_i64 h

set_option maxHeartbeats 4000000 in
set_option maxRecDepth 100000 in
theorem renamed_raw (lv : Value) (l : List Rf) (p b : Nat) (mv : Value) (row : List Int) (w0 w : World) (h : LD 2 eR w0 lv l) (t0 : Tn No w0 w) (hl : l.length ≤ 1073741824) (hok : ∀ r ∈ l, i64ok r.1 ∧ i64ok r.2) (hnot : ∀ g, RO p b mv g → w0.heap.size ≤ g)
    (hra : RAI w p b mv row) (hrow : row.length ≤ 1073741824) : Calls Try.prog 59 #[lv, .pointer (some ⟨p, 0, none⟩)] w fun e w' => ∃ v mv', e = .returned v ∧ Rn w p b mv row l v w' mv' := by
  obtain ⟨m, hm⟩ : ∃ m, l.length = m := ⟨_, rfl⟩
  rw [hm] at hl
  have HRM := hid (fun u => room_r m (by omega) u)
  obtain ⟨a, c, hv, hc, hcm, hat⟩ := h
  rw [hm] at hv
  subst hv
  have HAT : Hid (0 < l.length → ∃ g o, a = some ⟨g, o, none⟩ ∧ g < w.heap.size ∧ ¬ RO p b mv g ∧ ∀ i (hi : i < l.length) j, j < 2 → w.cell? ⟨g, o + (i * 2 + j), none⟩ = (eR l[i])[j]?) := hid (fun h0 => by
    obtain ⟨g, o, rfl, hg, hcell⟩ := hat h0
    exact ⟨g, o, rfl, Nat.lt_of_lt_of_le hg t0.size, (fun e => by have := hnot g e; omega), fun i hi j hj => by rw [t0.cell hg (fun e => e)]; exact hcell i hi j hj⟩)
  have HM := hid hm
  have HOK := hid hok
  have HSTART : Hid (∀ v w1, LR 2 eR w1 v [] → Tn No w w1 → (∀ g, v.ownBlock = some g → w.heap.size ≤ g) → Rn w p b mv row [] v w1 mv) := hid (fun v w1 l1 t1 o1 =>
    ⟨l1, fun g hg => ⟨o1 g hg, fun e => by have := hra.olt g e; have := o1 g hg; omega⟩, hra.no t1, Up.no t1⟩)
  clear hat hm hnot hok hra t0
  go_enter Try.func59, Try.ntmps59
  go_wp2_with (go_at_call 69; refine (HRM.out _).mono ?_; rintro e w1 ⟨v1, rfl, l1, t1, o1⟩; have HRN := hid (HSTART.out v1 w1 l1 t1 o1); clear l1 t1 o1)
  go_loopw [5, 13] (fun v i wr => ∃ k : Nat, ∃ mv', k ≤ m ∧ i = .int .i64 (k : Int) ∧ Rn w p b mv row (l.take k) v wr mv') (fun _ i _ => m - (intOf i).toNat)
  case atStart => exact ⟨0, mv, by omega, rfl, HRN.out⟩
  case round =>
    obtain ⟨k, mv1, hk, rfl, hrn⟩ := hrel
    clear HRN HSTART HRM
    by_cases hlt : k < m
    · have hkl : k < l.length := by have := HM.out; omega
      have hll : l.length ≤ 4294967295 := by have := HM.out; omega
      obtain ⟨g, o, rfl, hg, hgn, hcell⟩ := HAT.out (by omega)
      obtain ⟨q0, q1⟩ := ref_cells hcell k hkl
      rw [← hrn.up.tn.cell hg hgn] at q0 q1
      have hki : (k : Int) < (m : Int) := by omega
      obtain ⟨ok1, ok2⟩ := HOK.out _ (List.getElem_mem hkl)
      have hrl : (meetRs row (l.take k)).length + 1 ≤ 4294967296 := by
        obtain ⟨mm, em, hmm⟩ := meetRs_more row (l.take k)
        rw [em]; simp at hmm ⊢; omega
      have HRN := hid hrn
      by_cases h2 : l[k].1 = 2
      · have hmr : meetR (meetRs row (l.take k)) l[k] = meetI (meetRs row (l.take k)) l[k].2 := by simp [meetR, h2]
        have hren : renR (meetR (meetRs row (l.take k)) l[k]) l[k] = (2, ((Hp.pos (meetI (meetRs row (l.take k)) l[k].2) l[k].2 : Nat) : Int)) := by simp [renR, hmr, h2]
        obtain ⟨W1, hW1⟩ : ∃ W1, wr.alloc (.cells #[.int .i64 2, .int .i64 l[k].2] 61) = W1 := ⟨_, rfl⟩
        have t1 : Tn No wr W1 := by rw [← hW1]; exact (Tn.refl No wr).alloc _
        have s1 : W1.heap.size = wr.heap.size + 1 := by rw [← hW1]; simp
        have HMT := hid (meetI_raw p b mv1 (meetRs row (l.take k)) l[k].2 W1 (hrn.ra.no t1) (i64wf ok2) hrl)
        have HAP : Hid (∀ e w2, MeetPostI W1 p b mv1 (meetRs row (l.take k)) l[k].2 e w2 → ∃ n : Nat, e = .returned (.agg #[.int .i64 2, .int .i64 (n : Int)]) ∧ w2.cell? ⟨wr.heap.size, 0, none⟩ = some (.int .i64 2) ∧ w2.cell? ⟨wr.heap.size, 1, none⟩ = some (.int .i64 l[k].2) ∧ w2.frozen? ⟨wr.heap.size, 0, none⟩ = false ∧ w2.frozen? ⟨wr.heap.size, 1, none⟩ = false ∧ wr.heap.size < w2.heap.size ∧
            ∃ v' w' mv', (Builtin.append_ #[22, 22] 22 #[u5, .slice (some ⟨w2.heap.size, 0, none⟩) 1 1]).run Try.prog (((w2.setCell ⟨wr.heap.size, 0, none⟩ (.int .i64 2)).setCell ⟨wr.heap.size, 1, none⟩ (.int .i64 (n : Int))).alloc (.cells #[.int .i64 2, .int .i64 (n : Int)] 61)) = .ok v' w' ∧ Rn w p b mv row (l.take (k + 1)) v' w' mv') := by
          apply hid
          rintro e w2 ⟨mv2, he, ra2, up2⟩
          have hh := heap_alloc_new wr (.cells #[.int .i64 2, .int .i64 l[k].2] 61)
          rw [hW1] at hh
          have hnr : ¬ RO p b mv1 wr.heap.size := fun e => by have := hrn.ra.olt _ e; omega
          have hnr2 : ¬ RO p b mv2 wr.heap.size := fun e => by
            rcases up2.own _ e with e | e
            · exact hnr e
            · omega
          have b2 : w2.heap[wr.heap.size]? = some (.cells #[.int .i64 2, .int .i64 l[k].2] 61 (0, 0)) := by rw [up2.tn.block _ (by omega) hnr]; exact hh
          have z2 := up2.tn.size
          refine ⟨_, he, by simp only [World.cell?, b2]; rfl, by simp only [World.cell?, b2]; rfl, by simp only [World.frozen?, b2]; rfl, by simp only [World.frozen?, b2]; rfl, by omega, ?_⟩
          generalize hn : Hp.pos (meetI (meetRs row (l.take k)) l[k].2) l[k].2 = n at *
          have ts : Tn (fun k => k = wr.heap.size) w2 ((w2.setCell ⟨wr.heap.size, 0, none⟩ (.int .i64 2)).setCell ⟨wr.heap.size, 1, none⟩ (.int .i64 (n : Int))) := ((Tn.refl (fun k => k = wr.heap.size) w2).set _ _ (fun _ => rfl)).set _ _ (fun _ => rfl)
          have ra3 := (ra2.kept ts (fun k hk e => hnr2 (by rw [← e]; exact hk)))
          have up3 : Up (RO p b mv1) wr (RO p b mv2) ((w2.setCell ⟨wr.heap.size, 0, none⟩ (.int .i64 2)).setCell ⟨wr.heap.size, 1, none⟩ (.int .i64 (n : Int))) := by
            have u2 := (Up.no t1).trans up2
            exact ⟨u2.tn.trans ts (fun _ _ e => e) (fun i hi e => by omega), u2.own⟩
          have t4 := (Tn.refl No ((w2.setCell ⟨wr.heap.size, 0, none⟩ (.int .i64 2)).setCell ⟨wr.heap.size, 1, none⟩ (.int .i64 (n : Int)))).alloc (.cells #[.int .i64 2, .int .i64 (n : Int)] 61)
          have e5 : ((w2.setCell ⟨wr.heap.size, 0, none⟩ (.int .i64 2)).setCell ⟨wr.heap.size, 1, none⟩ (.int .i64 (n : Int))).heap.size = w2.heap.size := by simp
          obtain ⟨v', w', hr', hrn'⟩ := Rn.push hkl hrn (by rw [hmr]; exact ra3.no t4) (up3.trans (Up.no t4)) w2.heap.size (r := (2, (n : Int))) (by rw [hren]) (by rw [← e5, World.cell?_alloc_new]; rfl) (by rw [← e5, World.cell?_alloc_new]; rfl) hll
          exact ⟨v', w', mv2, hr', hrn'⟩
        generalize l[k].2 = x at *
        rw [h2] at q0
        clear hcell hrn h2 hmr hren HAT HOK t1 hkl ok1
        subst hW1
        clear s1
        go_wp2_with (first
          | (go_at_call 74; refine HMT.out.mono ?_; intro e w2 hp; obtain ⟨n, rfl, y0, y1, y2, y3, y4, v', w', mv', hr, hrn'⟩ := HAP.out e w2 hp; have HR := hid hr; have HRN' := hid hrn'; clear hr hrn' hp)
          | (at_builtin; refine wpList_app _ rfl _ _ _ _ rfl _ _ rfl rfl _ w' HR.out ?_))
        go_roundw
        case rel => exact ⟨k + 1, _, by omega, by go_num, HRN'.out⟩
        case measure => simp [intOf]; omega
      · have d2 : (l[k].1 == 2) = false := by simpa using h2
        have hmr : meetR (meetRs row (l.take k)) l[k] = meetRs row (l.take k) := by simp [meetR, h2]
        have hren : renR (meetR (meetRs row (l.take k)) l[k]) l[k] = l[k] := by simp [renR, h2]
        have t1 : Tn No wr ((wr.alloc (.cells #[.int .i64 l[k].1, .int .i64 l[k].2] 61)).alloc (.cells #[.int .i64 l[k].1, .int .i64 l[k].2] 61)) := ((Tn.refl No wr).alloc _).alloc _
        obtain ⟨v', w', hr, hrn'⟩ := Rn.push hkl hrn (by rw [hmr]; exact hrn.ra.no t1) (Up.no t1) (wr.heap.size + 1) (r := l[k]) (by rw [hren]) (by rw [World.cell?_alloc_at _ _ _ _ (by simp)]; rfl) (by rw [World.cell?_alloc_at _ _ _ _ (by simp)]; rfl) hll
        have HR := hid hr
        have HRN' := hid hrn'
        clear hcell hrn h2 hmr hren HAT HOK t1 ok1 hr hrn'
        generalize l[k].1 = x1 at *
        generalize l[k].2 = x2 at *
        clear hkl
        go_wp2_with (at_builtin; refine wpList_app _ rfl _ _ _ _ rfl _ _ rfl rfl _ w' HR.out ?_)
        go_roundw
        case rel => exact ⟨k + 1, _, by omega, by go_num, HRN'.out⟩
        case measure => simp [intOf]; omega
    · obtain rfl : k = m := by omega
      have HRN := hid hrn
      clear hrn
      go_wp2
      go_ret
      have e1 : l.take k = l := List.take_of_length_le (by have := HM.out; omega)
      have := HRN.out
      rw [e1] at this
      exact ⟨_, _, rfl, this⟩
end Go.Proofs.Ytlkbnjdhokjfnaa
