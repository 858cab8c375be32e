/-
  heap: reached, walked.
-/
import Derived.Test.YtlkbnjdhokjfnaaHGrA
namespace Go.Proofs.Ytlkbnjdhokjfnaa
set_option linter.unusedSimpArgs false
set_option linter.unusedVariables false
open Go.RowKit
attribute [local go_sem ↓] Go.wp_at_zero Go.wp_at_succ

/-- a graph that was made, and what it is -/
structure Made (w : World) (tv rv : Value) (out : List Th) (ros : List Rf) (w' : World) : Prop where
  go : GO w' w.heap.size tv rv out ros
  tn : Tn No w w'
  okt : ∀ t ∈ out, okT t.pl
  okr : ∀ r ∈ ros, okR r
theorem GO.kept {w w' : World} {lo : Nat} {tv rv : Value} {ts : List Th} {rs : List Rf} {F : Nat → Prop} (h : GO w lo tv rv ts rs) (t : Tn F w w') (hF : ∀ k, F k → k < lo) : GO w' lo tv rv ts rs := by
  refine ⟨h.things.tn t (fun g hg e => ?_), h.newt, fun x hx => ?_, h.roots.tn t (fun g hg e => ?_), h.newr, h.rok, h.tlen, h.rlen⟩
  · have := h.newt g hg; have := hF g e; omega
  · have hx' := h.each x hx
    refine ⟨hx'.lr.tn t (fun g hg e => ?_), hx'.new, hx'.kind, hx'.tag, hx'.rok, hx'.bytes, hx'.len⟩
    have := (hx'.new g hg).1; have := hF g e; omega
  · have := (h.newr g hg).1; have := hF g e; omega
theorem GO.lower {w : World} {lo lo' : Nat} {tv rv : Value} {ts : List Th} {rs : List Rf} (h : GO w lo tv rv ts rs) (hl : lo' ≤ lo) : GO w lo' tv rv ts rs :=
  ⟨h.things, fun g hg => Nat.le_trans hl (h.newt g hg), fun x hx => ⟨(h.each x hx).lr, fun g hg => ⟨Nat.le_trans hl ((h.each x hx).new g hg).1, ((h.each x hx).new g hg).2⟩, (h.each x hx).kind, (h.each x hx).tag, (h.each x hx).rok, (h.each x hx).bytes, (h.each x hx).len⟩,
    h.roots, fun g hg => ⟨Nat.le_trans hl (h.newr g hg).1, (h.newr g hg).2⟩, h.rok, h.tlen, h.rlen⟩
def ReachPost (ts : List Th) (rs : List Rf) (w : World) (e : Ending) (w' : World) : Prop :=
  ∃ tv rv out ros, e = .returned (.agg #[tv, rv]) ∧ Made w tv rv out ros w' ∧ Hp.Canon (Hp.nth (ts.map Th.nd)) (rs.map vOf) (out.map Th.nd) (ros.map vOf)

theorem upto_len {K : Type} [DecidableEq K] (get : K → Option (Hp.Nd K)) (row : List K) (i : Nat) : (Hp.upto get row i).length ≤ i := by
  unfold Hp.upto
  refine Nat.le_trans (List.length_filterMap_le ..) ?_
  simp; omega

theorem row_lt {ts : List Th} {rs : List Rf} (h : mayG ts rs = true) {i : Nat} {row : List Nat} (st : Hp.Steps (Hp.nth (ts.map Th.nd)) (Hp.meet [] (rs.map vOf)) i row) : (∀ k ∈ row, k < ts.length) ∧ row.length ≤ ts.length ∧ row.Nodup := by
  obtain ⟨_, _, mb⟩ := may_ok h
  have h1 : ∀ k ∈ row, k < ts.length := by
    refine st.from (D := (· < ts.length)) (fun k t hk ht v hv => ?_) ?_
    · have := mb.refs t (List.mem_of_getElem? ht) v hv
      rw [List.length_map] at this
      exact this.all
    · refine Hp.meet_from (fun v hv => ?_) (by intro k hk; cases hk)
      have := mb.roots v hv
      rw [List.length_map] at this
      exact this.all
  have h2 := st.nodup (Hp.meet_nodup (by simp))
  refine ⟨h1, ?_, h2⟩
  have := Hp.nodup_len row (List.range ts.length) h2 (fun k hk => List.mem_range.2 (h1 k hk))
  simpa using this

theorem Rc.fin {ts : List Th} {rs : List Rf} {lo : Nat} {w w3 : World} {A0 : Nat → Prop} {p b cb : Nat} {rvo : Value} {ros : List Rf} {i : Nat} {mv tvo : Value} {row : List Nat} {out : List Th} {wr : World}
    (hm : mayG ts rs = true) (hl : ts.length ≤ 1073741824) (hrl : rs.length ≤ 1073741824) (hro : ∀ r ∈ ros, i64ok r.1 ∧ i64ok r.2) (h : Rc ts rs lo w3 A0 p b cb rvo ros i mv tvo row out wr) (t3 : Tn No w w3) (hA : ∀ k, A0 k → w.heap.size ≤ k)
    (eros : ros = rs.map (renR (Hp.cs (Hp.meet [] (rs.map vOf))))) (hi : i = row.length) : (GO wr lo tvo rvo out ros ∧ Tn No w wr ∧ (∀ t ∈ out, okT t.pl) ∧ ∀ r ∈ ros, okR r) ∧ Hp.Canon (Hp.nth (ts.map Th.nd)) (rs.map vOf) (out.map Th.nd) (ros.map vOf) := by
  obtain ⟨ok1, ok2, mb⟩ := may_ok hm
  obtain ⟨r1, r2, r3⟩ := row_lt hm h.st
  have hlen : out.length ≤ ts.length := by
    have := congrArg List.length h.nds
    rw [List.length_map] at this
    have := upto_len (Hp.nth (ts.map Th.nd)) row i
    omega
  have hrr := renRs_cast (Hp.meet [] (rs.map vOf)) rs ok1
  have hw := h.st.done hi
  obtain ⟨m, em⟩ := hw.more
  refine ⟨⟨⟨h.tl, fun g hg => (h.tn g hg).1, fun t ht => (h.each t ht).less (fun k e => .inr (.inl e)), h.ro, fun g hg => ⟨(h.rn g hg).1, fun e => (h.rn g hg).2 (.inr (.inl e))⟩, hro, by omega, by rw [eros]; simpa using hrl⟩, (Up.fresh t3 hA h.up).1, h.oks, by rw [eros]; exact hrr.2⟩, ⟨row, hw, ?_, ?_⟩⟩
  · rw [h.nds, hi, Hp.upto_all]
  · rw [eros, hrr.1]
    unfold Hp.roots
    apply List.map_congr_left
    intro v hv
    refine Hp.V.map_congr (Hp.meet_has [] v hv) (fun k hk => ?_)
    rw [em, Hp.pos_append hk]

set_option maxHeartbeats 8000000 in
set_option maxRecDepth 100000 in
theorem reached_raw (tv rv : Value) (ts : List Th) (rs : List Rf) (w : World) (h : GA w tv rv ts rs) (hm : mayG ts rs = true) :
    Calls Try.prog 40 #[.agg #[tv, rv]] w (ReachPost ts rs w) := by
  obtain ⟨ok1, ok2, mb⟩ := may_ok hm
  have htl := h.tlen
  have hrl := h.rlen
  obtain ⟨wB, hwB⟩ : ∃ wB, (w.alloc (.cells #[tv, rv] 27)).alloc (.cells #[.slice none 0 0, .slice none 0 0] 27) = wB := ⟨_, rfl⟩
  have tB : Tn No w wB := by rw [← hwB]; exact ((Tn.refl No w).alloc _).alloc _
  have sB : wB.heap.size = w.heap.size + 2 := by rw [← hwB]; simp
  have bB : wB.heap[w.heap.size]? = some (.cells #[tv, rv] 27 (0, 0)) := by
    rw [← hwB, Below.heap_alloc _ _ _ (by simp)]; exact heap_alloc_new w _
  have bR : wB.heap[w.heap.size + 1]? = some (.cells #[.slice none 0 0, .slice none 0 0] 27 (0, 0)) := by
    have := heap_alloc_new (w.alloc (.cells #[tv, rv] 27)) (.cells #[.slice none 0 0, .slice none 0 0] 27)
    rw [hwB] at this
    simpa using this
  have HNR := hid (newRowI_raw wB)
  -- the roots
  have HRN : Hid (∀ p b wC, RAI wC p b (.slice none 0 0) [] → Tn No wB wC → wB.heap.size ≤ p → wB.heap.size ≤ b → wC.cell? ⟨w.heap.size, 1, none⟩ = some rv ∧ w.heap.size < wC.heap.size ∧ Calls Try.prog 59 #[rv, .pointer (some ⟨p, 0, none⟩)] wC fun e w' => ∃ v mv', e = .returned v ∧ (∃ a n c, v = .slice a n c) ∧ (w'.cell? ⟨w.heap.size, 0, none⟩ = some tv ∧ w'.cell? ⟨w.heap.size, 1, none⟩ = some rv ∧ w.heap.size < w'.heap.size) ∧
      Rc ts rs (w.heap.size + 2) (w'.alloc (.cells #[.slice none 0 0, v] 27)) (act p b mv' (.slice none 0 0) w'.heap.size) p b w'.heap.size v (rs.map (renR (Hp.cs (Hp.meet [] (rs.map vOf))))) 0 mv' (.slice none 0 0) (Hp.meet [] (rs.map vOf)) [] (w'.alloc (.cells #[.slice none 0 0, v] 27)) ∧
      Tn No wB w' ∧ (∀ k, RO p b mv' k → wB.heap.size ≤ k ∧ k < w'.heap.size)) := by
    apply hid
    intro p b wC hra tC hp hb
    have hro : ∀ g, RO p b (.slice none 0 0) g → wB.heap.size ≤ g := by
      intro g hg
      rcases hg with rfl | rfl | hg
      · exact hp
      · exact hb
      · cases hg
    refine ⟨by rw [tC.cell (by omega) (fun e => e)]; simp only [World.cell?, bB]; rfl, by have := tC.size; omega, ?_⟩
    refine (renamed_raw rv rs p b (.slice none 0 0) [] w wC h.roots (tB.then tC) hrl h.rok (fun g hg => by have := hro g hg; omega) hra (by simp)).mono ?_
    rintro e w' ⟨v, mv', rfl, hrn⟩
    have emr : meetRs [] rs = Hp.cs (Hp.meet [] (rs.map vOf)) := meetRs_cast rs [] ok1
    obtain ⟨hf1, hf2⟩ := Up.fresh tC hro hrn.up
    obtain ⟨va, vcp, hvf, _⟩ := hrn.lr.rw.form
    have t' : Tn No w' (w'.alloc (.cells #[.slice none 0 0, v] 27)) := (Tn.refl No w').alloc _
    have hh := heap_alloc_new w' (.cells #[.slice none 0 0, v] 27)
    have hlr := hrn.lr
    have hra' := hrn.ra
    rw [emr] at hlr hra'
    have z := hf1.size
    refine ⟨v, mv', rfl, ⟨va, _, vcp, hvf⟩, ⟨by rw [hf1.cell (by omega) (fun e => e)]; simp only [World.cell?, bB]; rfl, by rw [hf1.cell (by omega) (fun e => e)]; simp only [World.cell?, bB]; rfl, by omega⟩, ?_, hf1, fun k hk => ⟨hf2 k hk, hrn.ra.olt k hk⟩⟩
    exact {
      up := Up.refl _ _
      ra := hra'.no t'
      st := .zero
      c0 := by simp only [World.cell?, hh]; rfl
      c1 := by simp only [World.cell?, hh]; rfl
      cf := fun j => by simp only [World.frozen?, hh]; simp
      cl := by simp
      cn := fun e => by have := hrn.ra.olt _ e; omega
      tl := LR.nil _ _ _
      tn := fun g hg => by cases hg
      each := fun t ht => by cases ht
      nds := by rw [Hp.upto_zero]; rfl
      oks := fun t ht => by cases ht
      ro := hlr.no t'
      rn := fun g hg => by
        refine ⟨by have := (hrn.new g hg).1; have := tC.size; omega, fun e => ?_⟩
        rcases e with e | e | e
        · exact (hrn.new g hg).2 e
        · cases e
        · have := hlr.rw.lt g hg; omega }
  have hros : ∀ r ∈ rs.map (renR (Hp.cs (Hp.meet [] (rs.map vOf)))), i64ok r.1 ∧ i64ok r.2 := by
    intro r hr
    obtain ⟨x, hx, rfl⟩ := List.mem_map.1 hr
    unfold renR
    split
    · rename_i e2
      have emr : meetRs [] rs = Hp.cs (Hp.meet [] (rs.map vOf)) := meetRs_cast rs [] ok1
      rw [← emr]
      have hb := Hp.pos_lt (meetRs_has [] rs x hx e2)
      obtain ⟨m, em, hmm⟩ := meetRs_more [] rs
      rw [em] at hb ⊢
      simp only [List.nil_append] at hb ⊢
      simp only [i64ok]
      omega
    · exact h.rok x hx
  have HTA : Hid (∀ k t, ts[k]? = some t → TA w t ∧ okT t.pl) := hid (fun k t e => ⟨h.each t (List.mem_of_getElem? e), ok2 t (List.mem_of_getElem? e)⟩)
  obtain ⟨ra, rc, hrv, _⟩ := h.roots
  obtain ⟨ta, tc, htv, hct, hcm, hat⟩ := h.things
  have HAT := hid hat
  obtain ⟨m, hmm⟩ : ∃ m, ts.length = m := ⟨_, rfl⟩
  have HM := hid hmm
  have HMAY := hid hm
  have HROS := hid hros
  rw [hmm] at htv htl hct
  subst hrv htv
  have HB0 := hid bR
  have HTB := hid tB
  have HSB := hid sB
  clear h hat hm hros ok1 ok2 mb hmm bB bR tB sB
  subst hwB
  go_enter Try.func40, Try.ntmps40
  go_wp2_with (first
    | (go_at_call 58; refine HNR.out.mono ?_; rintro e wC ⟨p, b, rfl, hra, tC, hp, hb⟩; obtain ⟨y1, y2, hcall⟩ := HRN.out p b wC hra tC hp hb; have HC := hid hcall; clear hcall hra tC hp hb)
    | (go_at_call 59; refine HC.out.mono ?_; rintro e wD ⟨v, mv', rfl, ⟨va, vn, vk, rfl⟩, ⟨x0, x1, x2⟩, hrc, tD, hro⟩; have HRC := hid hrc; have HTD := hid tD; have HRO := hid hro; clear hrc tD hro))
  go_loopw [5] (fun i wr => ∃ (k : Nat) (mv tvo : Value) (row : List Nat) (out : List Th), i = .int .i64 (k : Int) ∧ Rc ts rs (w.heap.size + 2) (wD.alloc (.cells #[.slice none 0 0, .slice va vn vk] 27)) (act p b mv' (.slice none 0 0) wD.heap.size) p b wD.heap.size (.slice va vn vk) (rs.map (renR (Hp.cs (Hp.meet [] (rs.map vOf))))) k mv tvo row out wr) (fun i _ => m - (intOf i).toNat)
  case atStart => exact ⟨0, _, _, _, _, rfl, HRC.out⟩
  case round =>
    obtain ⟨k, mv, tvo, row, out, rfl, hrc⟩ := hrel
    clear HRC HC HRN HNR
    have hsB := HSB.out
    have zD := HTD.out.size
    have hlow := row_lt HMAY.out hrc.st
    obtain ⟨hr1, hr2, hr3⟩ := hlow
    have hmm := HM.out
    rw [hmm] at hr2
    have hnA : ∀ j, j < w.heap.size + 2 → ¬ act p b mv' (.slice none 0 0) wD.heap.size j := fun j hj e => by
      rcases e with e | e | e
      · have := (HRO.out j e).1; omega
      · cases e
      · omega
    have hup := hrc.up
    have zr := hup.tn.size
    have zr2 : wD.heap.size < wr.heap.size := by simp at zr; omega
    have g0 : wr.cell? ⟨w.heap.size, 0, none⟩ = some (.slice ta m tc) := by
      rw [hup.tn.cell (by simp; omega) (hnA _ (by omega)), ((Tn.refl No wD).alloc _).cell (by omega) (fun e => e)]; exact x0
    have hst : ∀ j, j < w.heap.size → wr.heap[j]? = w.heap[j]? := fun j hj => by
      rw [hup.tn.block j (by simp; omega) (hnA j (by omega)), ((Tn.refl No wD).alloc (.cells #[.slice none 0 0, .slice va vn vk] 27)).block j (by omega) (fun e => e), HTD.out.block j (by omega) (fun e => e), HTB.out.block j hj (fun e => e)]
    have twr : Tn No w wr := (Up.fresh (((HTB.out.then HTD.out)).alloc (.cells #[.slice none 0 0, .slice va vn vk] 27)) (fun k e => by
      rcases e with e | e | e
      · have := (HRO.out k e).1; omega
      · cases e
      · omega) hup).1
    obtain ⟨ma, mc, hmv, hmc, hmc2, hmn, hms⟩ := hrc.ra.met.rw.form
    have hcs : (Hp.cs row).length = row.length := by simp [Hp.cs]
    rw [hcs] at hmv hmc
    have c00 := hrc.ra.c0
    have plt := hrc.ra.lt
    have hRC := hid hrc
    by_cases hlt : k < row.length
    · have hxk : row[k]? = some row[k] := List.getElem?_eq_getElem hlt
      have hx := hr1 _ (List.getElem_mem hlt)
      have hts : ts[row[k]]? = some ts[row[k]] := List.getElem?_eq_getElem hx
      obtain ⟨hta, hokt⟩ := HTA.out _ _ hts
      have hkey := hrc.ra.met.at' k (by rw [hcs]; exact hlt) 0 (by omega)
      have hkey2 : (Hp.cs row)[k]'(by rw [hcs]; exact hlt) = (row[k] : Int) := by simp [Hp.cs]
      rw [hkey2] at hkey
      have hpos : 0 < (Hp.cs row).length := by rw [hcs]; omega
      obtain ⟨g, cap, emv, hg, hcap, hcap2, hfz⟩ := hrc.ra.met.rw.pos hpos
      rw [hcs] at emv hcap
      obtain ⟨g', o', hta', hg', hcell⟩ := HAT.out (by omega)
      obtain ⟨q0, q1, q2, q3⟩ := thing_cells hcell row[k] hx
      rw [← twr.cell hg' (fun e => e)] at q0 q1 q2 q3
      obtain ⟨xa, xc, hxf⟩ := hta.form
      obtain ⟨t, htt⟩ : ∃ t, ts[row[k]] = t := ⟨_, rfl⟩
      rw [htt] at hts hta hokt q0 q1 q2 q3 hxf
      obtain ⟨x, hxx⟩ : ∃ x, row[k] = x := ⟨_, rfl⟩
      rw [hxx] at hxk hts hx hkey q0 q1 q2 q3
      subst hta'
      have hlen : out.length ≤ k := by
        have := congrArg List.length hrc.nds
        rw [List.length_map] at this
        have := upto_len (Hp.nth (ts.map Th.nd)) row k
        omega
      obtain ⟨W1, hW1⟩ : ∃ W1, (wr.alloc (.cells #[.int .i64 t.kind, .int .i64 t.tag, .string t.bytes, .slice xa t.refs.length xc] 24)).drew = W1 := ⟨_, rfl⟩
      have t1 : Tn No wr W1 := by rw [← hW1]; exact ((Tn.refl No wr).alloc _).drew
      have s1 : W1.heap.size = wr.heap.size + 1 := by rw [← hW1]; exact (by simp : (wr.alloc (.cells #[.int .i64 t.kind, .int .i64 t.tag, .string t.bytes, .slice xa t.refs.length xc] 24)).heap.size = wr.heap.size + 1)
      have hh1 : W1.heap[wr.heap.size]? = some (.cells #[.int .i64 t.kind, .int .i64 t.tag, .string t.bytes, t.rv] 24 (0, 0)) := by rw [← hW1, hxf]; exact heap_alloc_new wr (.cells #[.int .i64 t.kind, .int .i64 t.tag, .string t.bytes, .slice xa t.refs.length xc] 24)
      have HCA := hid (renamed_raw t.rv t.refs p b mv (Hp.cs row) w W1 hta.refs (twr.then t1) hta.len hta.rok (fun k e => by
        rcases hup.own k (.inl e) with e | e
        · rcases e with e | e | e
          · have := (HRO.out k e).1; omega
          · cases e
          · omega
        · simp at e; omega) (hrc.ra.no t1) (by rw [hcs]; omega))
      have HNX : Hid (∀ v mv2 w2, Rn W1 p b mv (Hp.cs row) t.refs v w2 mv2 → _) := hid (fun v mv2 w2 hrn => Rc.next hrc (by omega) hxk hts hokt ⟨hta.kind, hta.tag, hta.rok, hta.bytes, hta.len⟩ (by have := hta.len; omega) (by omega) t1 s1 hh1 hrn)
      rw [hxf] at q3 HCA
      have HNX2 : Hid (∀ v mv2 w2, Rn W1 p b mv (Hp.cs row) t.refs v w2 mv2 → ∃ a n c, v = .slice a n c) := hid (fun v mv2 w2 hrn => by
        obtain ⟨a, c, e, _⟩ := hrn.lr.rw.form
        exact ⟨a, _, c, e⟩)
      subst emv
      simp only [vc, eK, Nat.mul_one, Nat.add_zero, List.getElem?_cons_zero] at hkey
      have HFIN : Hid (∀ k' mv2 tvo' row' out' w', Rc ts rs (w.heap.size + 2) (wD.alloc (.cells #[.slice none 0 0, .slice va vn vk] 27)) (act p b mv' (.slice none 0 0) wD.heap.size) p b wD.heap.size (.slice va vn vk) (rs.map (renR (Hp.cs (Hp.meet [] (rs.map vOf))))) k' mv2 tvo' row' out' w' → k' ≤ m) := hid (fun k' mv2 tvo' row' out' w' h => by
        have h1 := h.st.le
        have h2 := (row_lt HMAY.out h.st).2.1
        omega)
      have hki : (k : Int) < (row.length : Int) := by omega
      have hxi : (x : Int) < (m : Int) := by omega
      have hx0 : (0 : Int) ≤ (x : Int) := by omega
      have hkm : k < m := by omega
      have hb1 : w.heap.size < wr.heap.size := by omega
      have hb2 : g' < wr.heap.size := by omega
      clear hsB hmm hrc hup hlen hcell HAT HTA hokt hta hts hxk hxx htt hxf hst twr hnA hr1 hr3 hcs hmv hmn hms hpos hkey2 t1 s1 hh1 hfz hx
      obtain ⟨kind, tag, bytes, trv, refs⟩ := t
      dsimp only at q0 q1 q2 q3 hW1 HNX HCA HNX2
      subst hW1
      go_wp2_with fail
      go_region
      go_wp2_with (first
        | (go_at_call 59; refine HCA.out.mono ?_; rintro e w2 ⟨v2, mv2, rfl, hrn2⟩; obtain ⟨y0, y1, y2, y3, y4, y5, y6, y7, y8, tvo', w5, hr5, ⟨a5, n5, c5, rfl⟩, y9, y10, y11, hrc5⟩ := HNX.out _ _ _ hrn2; obtain ⟨a2, n2, c2, rfl⟩ := HNX2.out _ _ _ hrn2; have y13 := y4 3; have HR5 := hid hr5; have HRC5 := hid hrc5; have HKM := hid (HFIN.out _ _ _ _ _ _ hrc5); clear hr5 hrc5 hrn2 y4)
        | (at_builtin; refine wpList_app _ rfl _ _ _ _ rfl _ _ rfl rfl _ w5 HR5.out ?_))
      go_roundw
      case rel => exact ⟨k + 1, _, _, _, _, by go_num, HRC5.out⟩
      case measure => simp [intOf]; omega
    · have hke : k = row.length := by have := hrc.st.le; omega
      have r0 : wr.heap[w.heap.size + 1]? = some (.cells #[.slice none 0 0, .slice none 0 0] 27 (0, 0)) := by
        rw [hup.tn.block _ (by simp; omega) (hnA _ (by omega)), ((Tn.refl No wD).alloc (.cells #[.slice none 0 0, .slice va vn vk] 27)).block _ (by omega) (fun e => e), HTD.out.block _ (by omega) (fun e => e)]
        exact HB0.out
      have r1 : wr.cell? ⟨w.heap.size + 1, 0, none⟩ = some (.slice none 0 0) := by simp only [World.cell?, r0]; rfl
      have r2 : wr.cell? ⟨w.heap.size + 1, 1, none⟩ = some (.slice none 0 0) := by simp only [World.cell?, r0]; rfl
      have r3 : wr.frozen? ⟨w.heap.size + 1, 0, none⟩ = false := by simp only [World.frozen?, r0]; rfl
      have r4 : wr.frozen? ⟨w.heap.size + 1, 1, none⟩ = false := by simp only [World.frozen?, r0]; rfl
      have s0 := hrc.c0
      have s1 := hrc.c1
      obtain ⟨hf, hcan⟩ := Rc.fin HMAY.out (by omega) hrl HROS.out hrc ((HTB.out.then HTD.out).alloc _) (fun k e => by
        rcases e with e | e | e
        · have := (HRO.out k e).1; omega
        · cases e
        · omega) rfl hke
      obtain ⟨hgo, htn, ho1, ho2⟩ := hf
      obtain ⟨oa, oc, hof, _⟩ := hgo.things.rw.form
      subst hof
      have HFIN : Hid (∀ a a', Made w (.slice oa out.length oc) (.slice va vn vk) out (rs.map (renR (Hp.cs (Hp.meet [] (rs.map vOf))))) ((wr.setCell ⟨w.heap.size + 1, 0, none⟩ a).setCell ⟨w.heap.size + 1, 1, none⟩ a')) := hid (fun a a' => by
        have t' : Tn (fun k => k = w.heap.size + 1) wr ((wr.setCell ⟨w.heap.size + 1, 0, none⟩ a).setCell ⟨w.heap.size + 1, 1, none⟩ a') := ((Tn.refl (fun k => k = w.heap.size + 1) wr).set _ _ (fun _ => rfl)).set _ _ (fun _ => rfl)
        exact ⟨(hgo.kept t' (fun k e => by omega)).lower (by omega), htn.trans t' (fun _ _ e => e) (fun i hi e => by omega), ho1, ho2⟩)
      have HCAN := hid hcan
      have K2 : Hid (∀ a a', ((wr.setCell ⟨w.heap.size + 1, 0, none⟩ a).setCell ⟨w.heap.size + 1, 1, none⟩ a').cell? ⟨w.heap.size + 1, 1, none⟩ = some a' ∧ (wr.setCell ⟨w.heap.size + 1, 0, none⟩ a).cell? ⟨w.heap.size + 1, 0, none⟩ = some a) := hid (fun a a' => by
        have a1 : (wr.setCell ⟨w.heap.size + 1, 0, none⟩ a).cell? ⟨w.heap.size + 1, 1, none⟩ = some (.slice none 0 0) := by rw [World.cell?_setCell_other _ _ _ _ (by simp)]; exact r2
        exact ⟨World.cell?_setCell_same _ _ _ a1, World.cell?_setCell_same _ _ _ r1⟩)
      have hne : wD.heap.size ≠ w.heap.size + 1 := by omega
      have hne2 : w.heap.size + 1 ≠ wD.heap.size := by omega
      have hb1 : w.heap.size + 1 < wr.heap.size := by omega
      subst hmv
      subst hke
      clear hsB hmm hrc hup HAT HTA hst twr hnA hr1 hr3 hcs hmn hms hgo htn ho1 ho2 hcan hlt r0
      go_wp2
      refine bodyPost_ret (v := .agg #[.slice oa out.length oc, .slice va vn vk]) (by simp [results, Try.results40, go_sem, (K2.out _ _).1, (K2.out _ (.int .i64 0)).2]) rfl ?_
      exact ⟨_, _, _, _, rfl, HFIN.out _ _, HCAN.out⟩
end Go.Proofs.Ytlkbnjdhokjfnaa
