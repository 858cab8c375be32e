/-
  heap: HeapTurned, walked.
-/
import Derived.Test.YtlkbnjdhokjfnaaHTuA
import Derived.BigRegion
namespace Go.Proofs.Ytlkbnjdhokjfnaa
set_option linter.unusedSimpArgs false
set_option linter.unusedVariables false
open Go.RowKit
attribute [local go_sem ↓] Go.wp_at_zero Go.wp_at_succ

theorem tu_start (lo : Nat) (wA : World) (hlo : lo ≤ wA.heap.size) : Tu lo (wA.alloc (.cells #[.slice none 0 0, .slice none 0 0] 27)) wA.heap.size (.slice none 0 0) [] (wA.alloc (.cells #[.slice none 0 0, .slice none 0 0] 27)) := by
  have hh := heap_alloc_new wA (.cells #[.slice none 0 0, .slice none 0 0] 27)
  exact {
    up := (Up.refl _ _).less (fun k e => by
      rcases e with e | e
      · cases e
      · exact e)
    c0 := by simp only [World.cell?, hh]; rfl
    c1 := by simp only [World.cell?, hh]; rfl
    cf := fun j => by simp only [World.frozen?, hh]; simp
    cl := by simp
    tl := LR.nil _ _ _
    tn := fun g hg => by cases hg
    each := fun t ht => by cases ht }

/-- what lies in memory when the graphs are compared -/
structure Tfin (tv rv tvo rvo : Value) (ts us : List Th) (rs rs' : List Rf) (w : World) (cb : Nat) (W : World) : Prop where
  ga : GA W tv rv ts rs
  gb : GA W tvo rvo us rs'
  tn : Tn No w W
  c0 : W.cell? ⟨w.heap.size, 0, none⟩ = some tv
  c1 : W.cell? ⟨w.heap.size, 1, none⟩ = some rv
  d0 : W.cell? ⟨cb, 0, none⟩ = some tvo
  d1 : W.cell? ⟨cb, 1, none⟩ = some rvo
  l0 : w.heap.size < W.heap.size
  l1 : cb < W.heap.size
theorem Tfin.no {tv rv tvo rvo : Value} {ts us : List Th} {rs rs' : List Rf} {w : World} {cb : Nat} {W W' : World} (h : Tfin tv rv tvo rvo ts us rs rs' w cb W) (t : Tn No W W') : Tfin tv rv tvo rvo ts us rs rs' w cb W' := by
  have z := t.size
  have l0 := h.l0
  have l1 := h.l1
  exact ⟨h.ga.no t, h.gb.no t, h.tn.then t, by rw [t.cell l0 (fun e => e)]; exact h.c0, by rw [t.cell l0 (fun e => e)]; exact h.c1, by rw [t.cell l1 (fun e => e)]; exact h.d0, by rw [t.cell l1 (fun e => e)]; exact h.d1, by omega, by omega⟩

/-- the moved roots, behind the moved things -/
theorem tu_fin {tv rv : Value} {ts us : List Th} {rs rs' : List Rf} {w wB wA : World} {tvo v : Value} {W6 w7 : World} (h : GA w tv rv ts rs) (tB : Tn No w wB) (bB : wB.heap[w.heap.size]? = some (.cells #[tv, rv] 27 (0, 0))) (sB : wB.heap.size = w.heap.size + 1) (tA : Tn No wB wA)
    (htu : Tu (w.heap.size + 1) (wA.alloc (.cells #[.slice none 0 0, .slice none 0 0] 27)) wA.heap.size tvo us W6) (hm : Mk 2 eR W6 v rs' w7) (hu : us.length ≤ 1073741824) (hr : rs'.length ≤ 1073741824) (hro : ∀ r ∈ rs', i64ok r.1 ∧ i64ok r.2) :
    w7.cell? ⟨wA.heap.size, 1, none⟩ = some (.slice none 0 0) ∧ w7.frozen? ⟨wA.heap.size, 1, none⟩ = false ∧ wA.heap.size < w7.heap.size ∧ Tfin tv rv tvo v ts us rs rs' w wA.heap.size (w7.setCell ⟨wA.heap.size, 1, none⟩ v) := by
  have zA := tA.size
  have z7 := hm.tn.size
  have hcl := htu.cl
  have c1 : w7.cell? ⟨wA.heap.size, 1, none⟩ = some (.slice none 0 0) := by rw [hm.tn.cell hcl (fun e => e)]; exact htu.c1
  have t3 : Tn No wB (wA.alloc (.cells #[.slice none 0 0, .slice none 0 0] 27)) := tA.alloc _
  have z3 := t3.size
  obtain ⟨tw6, _⟩ := Up.fresh t3 (F := fun x => x = wA.heap.size) (fun k e => by omega) htu.up
  have z6 := tw6.size
  have tw7 : Tn No wB w7 := tw6.then hm.tn
  have ts : Tn (fun k => k = wA.heap.size) w7 (w7.setCell ⟨wA.heap.size, 1, none⟩ v) := (Tn.refl (fun k => k = wA.heap.size) w7).set _ _ (fun _ => rfl)
  have tw8 : Tn No wB (w7.setCell ⟨wA.heap.size, 1, none⟩ v) := tw7.trans ts (fun _ _ e => e) (fun i hi e => by omega)
  have cell : ∀ j, (w7.setCell ⟨wA.heap.size, 1, none⟩ v).cell? ⟨w.heap.size, j, none⟩ = (#[tv, rv])[j]? := fun j => by
    rw [tw8.cell (by omega) (fun e => e)]
    simp only [World.cell?, bB]
    rfl
  refine ⟨c1, by rw [hm.tn.frozen hcl (fun e => e)]; exact htu.cf 1, by omega, ?_⟩
  refine ⟨h.no (tB.then tw8), ⟨?_, fun t ht => ?_, ?_, hro, hu, hr⟩, tB.then tw8, cell 0, cell 1, ?_, World.cell?_setCell_same _ _ _ c1, by simp; omega, by simp; omega⟩
  · exact ((htu.tl.no hm.tn).tn ts (fun g hg e => (htu.tn g hg).2 e)).ld
  · have ht' := htu.each t ht
    have hx : LR 2 eR (w7.setCell ⟨wA.heap.size, 1, none⟩ v) t.rv t.refs := (ht'.lr.no hm.tn).tn ts (fun g hg e => (ht'.new g hg).2 (.inr e))
    exact ⟨hx.ld, ht'.kind, ht'.tag, ht'.rok, ht'.bytes, ht'.len⟩
  · exact (hm.lr.tn ts (fun g hg e => by have := hm.own g hg; omega)).ld
  · rw [World.cell?_setCell_other _ _ _ _ (by simp), hm.tn.cell hcl (fun e => e)]; exact htu.c0

def TfinC (tv rv tvo rvo : Value) (b cb : Nat) (W : World) : Prop := W.cell? ⟨b, 0, none⟩ = some tv ∧ W.cell? ⟨b, 1, none⟩ = some rv ∧ W.cell? ⟨cb, 0, none⟩ = some tvo ∧ W.cell? ⟨cb, 1, none⟩ = some rvo ∧ b < W.heap.size ∧ cb < W.heap.size
section
variable {tv rv tvo rvo : Value} {ts us : List Th} {rs rs' : List Rf} {w : World} {cb : Nat} {W : World}
theorem Tfin.cells (h : Tfin tv rv tvo rvo ts us rs rs' w cb W) : TfinC tv rv tvo rvo w.heap.size cb W := ⟨h.c0, h.c1, h.d0, h.d1, h.l0, h.l1⟩
theorem Tfin.same1 (h : Tfin tv rv tvo rvo ts us rs rs' w cb W) (hs : SameP ts rs us rs') : Calls Try.prog 21 #[.agg #[tv, rv], .agg #[tvo, rvo]] W fun e w' => e = .returned (.bool true) ∧ TfinC tv rv tvo rvo w.heap.size cb w' ∧ Tfin tv rv tvo rvo ts us rs rs' w cb w' :=
  (same_raw _ _ _ _ _ _ _ _ W h.ga h.gb).mono (fun e w' ⟨q, he, t, hq⟩ => by
    rw [hq.2 hs] at he
    exact ⟨he, (h.no t).cells, h.no t⟩)
theorem Tfin.same2 (h : Tfin tv rv tvo rvo ts us rs rs' w cb W) (hs : SameP us rs' ts rs) : Calls Try.prog 21 #[.agg #[tvo, rvo], .agg #[tv, rv]] W fun e w' => e = .returned (.bool true) ∧ TfinC tv rv tvo rvo w.heap.size cb w' ∧ Tfin tv rv tvo rvo ts us rs rs' w cb w' :=
  (same_raw _ _ _ _ _ _ _ _ W h.gb h.ga).mono (fun e w' ⟨q, he, t, hq⟩ => by
    rw [hq.2 hs] at he
    exact ⟨he, (h.no t).cells, h.no t⟩)
theorem Tfin.same3 (h : Tfin tv rv tvo rvo ts us rs rs' w cb W) (hs : SameP ts rs ts rs) : Calls Try.prog 21 #[.agg #[tv, rv], .agg #[tv, rv]] W fun e w' => e = .returned (.bool true) ∧ TfinC tv rv tvo rvo w.heap.size cb w' ∧ Tfin tv rv tvo rvo ts us rs rs' w cb w' :=
  (same_raw _ _ _ _ _ _ _ _ W h.ga h.ga).mono (fun e w' ⟨q, he, t, hq⟩ => by
    rw [hq.2 hs] at he
    exact ⟨he, (h.no t).cells, h.no t⟩)
end

theorem turn_k {turn : Int} {K m : Nat} (hm : 0 < m) (e : turn = (K : Int)) : ∃ k : Nat, k < m ∧ turn.tmod (m : Int) = (k : Int) ∧ turn % (m : Int) = (k : Int) := by
  subst e
  refine ⟨K % m, Nat.mod_lt _ hm, ?_, ?_⟩
  · rw [Int.tmod_eq_emod_of_nonneg (by omega)]; rfl
  · rfl

theorem movRs_ok {n k : Nat} {l : List Rf} (h : ∀ r ∈ l, fitsR n r = true) (hk : k < n) (hn : n ≤ 1073741824) (hi : ∀ r ∈ l, i64ok r.1 ∧ i64ok r.2) : ∀ r ∈ l.map (movR n k), i64ok r.1 ∧ i64ok r.2 := by
  intro r hr
  obtain ⟨x, hx, rfl⟩ := List.mem_map.1 hr
  exact (movR_v (h x hx) hk).2.2 (hi x hx) hn
theorem fits_two {n : Nat} {l : List Rf} (h : ∀ r ∈ l, fitsR n r = true) : ∀ r ∈ l, r.1 = 2 → 0 ≤ r.2 ∧ r.2 < (n : Int) := by
  intro r hr e
  have := h r hr
  simp only [fitsR, decide_eq_true_eq] at this
  omega

set_option maxHeartbeats 8000000 in
set_option maxRecDepth 100000 in
theorem turned_main (tv rv : Value) (ts : List Th) (rs : List Rf) (turn : Int) (w : World) (h : GA w tv rv ts rs) (hm : mayG ts rs = true) (h0 : 0 < ts.length) (hbig : ts.length < 1073741824) (htn : i64ok turn) :
    Calls Try.prog 8 #[.agg #[tv, rv], .int .i64 turn] w fun e w' => e = .returned (.bool true) ∧ Tn No w w' := by
  have htl := h.tlen
  have hrl := h.rlen
  obtain ⟨m1, m2, m3⟩ := may_parts hm
  obtain ⟨m, hmm⟩ : ∃ m, ts.length = m := ⟨_, rfl⟩
  have f1 : ∀ r ∈ rs, fitsR m r = true := by rw [← hmm]; exact List.all_eq_true.1 m1
  have f3 : ∀ t ∈ ts, ∀ r ∈ t.refs, fitsR m r = true := fun t ht => by rw [← hmm]; exact List.all_eq_true.1 (m3 t ht)
  obtain ⟨wB, hwB⟩ : ∃ wB, w.alloc (.cells #[tv, rv] 27) = wB := ⟨_, rfl⟩
  have tB : Tn No w wB := by rw [← hwB]; exact (Tn.refl No w).alloc _
  have sB : wB.heap.size = w.heap.size + 1 := by rw [← hwB]; simp
  have bB : wB.heap[w.heap.size]? = some (.cells #[tv, rv] 27 (0, 0)) := by rw [← hwB]; exact heap_alloc_new w _
  have HCK : Hid (Calls Try.prog 13 #[.agg #[tv, rv]] wB fun e w' => e = .returned (.int .i64 0) ∧ (w'.cell? ⟨w.heap.size, 0, none⟩ = some tv ∧ w'.cell? ⟨w.heap.size, 1, none⟩ = some rv ∧ w.heap.size < w'.heap.size) ∧ Tn No wB w') := hid ((check_raw tv rv ts rs wB (h.no tB)).mono (fun e w' ⟨he, t⟩ => by
    rw [hm] at he
    have z := t.size
    exact ⟨he, ⟨by rw [t.cell (by omega) (fun e => e)]; simp only [World.cell?, bB]; rfl, by rw [t.cell (by omega) (fun e => e)]; simp only [World.cell?, bB]; rfl, by omega⟩, t⟩))
  have HST : Hid (∀ wA, Tn No wB wA → Tu (w.heap.size + 1) (wA.alloc (.cells #[.slice none 0 0, .slice none 0 0] 27)) wA.heap.size (.slice none 0 0) [] (wA.alloc (.cells #[.slice none 0 0, .slice none 0 0] 27))) := hid (fun wA t => tu_start _ wA (by have := t.size; omega))
  have HFN : Hid (∀ k wA us tvo W6 w7 v, k < m → Tn No wB wA → Moved m k ts us → Tu (w.heap.size + 1) (wA.alloc (.cells #[.slice none 0 0, .slice none 0 0] 27)) wA.heap.size tvo us W6 → Mk 2 eR W6 v (rs.map (movR m k)) w7 →
      (∃ a n c, v = .slice a n c) ∧ w7.cell? ⟨wA.heap.size, 1, none⟩ = some (.slice none 0 0) ∧ w7.frozen? ⟨wA.heap.size, 1, none⟩ = false ∧ wA.heap.size < w7.heap.size ∧ Tfin tv rv tvo v ts us rs (rs.map (movR m k)) w wA.heap.size (w7.setCell ⟨wA.heap.size, 1, none⟩ v) ∧ SameP ts rs us (rs.map (movR m k)) ∧ SameP us (rs.map (movR m k)) ts rs ∧ SameP ts rs ts rs) := hid (fun k wA us tvo W6 w7 v hk tA hmo htu hmk => by
    obtain ⟨a, c, e, _⟩ := hmk.lr.rw.form
    obtain ⟨r1, r2, r3, r4⟩ := tu_fin h tB bB sB tA htu hmk (by have := hmo.len; omega) (by simpa using hrl) (movRs_ok f1 hk (by omega) h.rok)
    exact ⟨⟨a, _, c, e⟩, r1, r2, r3, r4, moved_same hm hmm hk hmo⟩)
  have HMR : Hid (∀ k u, k < m → Tn No wB u → Calls Try.prog 28 #[rv, .int .i64 (m : Int), .int .i64 (k : Int)] u fun e w' => ∃ v, e = .returned v ∧ Mk 2 eR u v (rs.map (movR m k)) w') := hid (fun k u hk t => moved_raw rv rs m k u (h.roots.no (tB.then t)) hrl (by omega) hk (fits_two f1))
  have HMT : Hid (∀ (k : Nat) (u : World) (x : Nat) (t : Th), k < m → Tn No wB u → ts[x]? = some t → Calls Try.prog 28 #[t.rv, .int .i64 (m : Int), .int .i64 (k : Int)] u fun e w' => ∃ v, e = .returned v ∧ Mk 2 eR u v (t.refs.map (movR m k)) w') := hid (fun k u x t hk tn ht => by
    have hmem := List.mem_of_getElem? ht
    exact moved_raw t.rv t.refs m k u ((h.each t hmem).refs.no (tB.then tn)) (h.each t hmem).len (by omega) hk (fits_two (f3 t hmem)))
  have HTA : Hid (∀ (x : Nat) (t : Th), ts[x]? = some t → TA w t ∧ ∀ k, k < m → ∀ r ∈ t.refs.map (movR m k), i64ok r.1 ∧ i64ok r.2) := hid (fun x t e => by
    have hmem := List.mem_of_getElem? e
    exact ⟨h.each t hmem, fun k hk => movRs_ok (f3 t hmem) hk (by omega) (h.each t hmem).rok⟩)
  have HKN : Hid (∀ u, Calls Try.prog 15 #[] u fun e w' => e = .returned (.bool true) ∧ Tn No u w') := hid known_raw
  obtain ⟨ra, rc, hrv, _⟩ := h.roots
  obtain ⟨ta, tc, htv, hct, hcm, hat⟩ := h.things
  have HAT := hid hat
  rw [hmm] at htv htl hct h0 hbig
  obtain ⟨rn, hrn⟩ : ∃ rn, rs.length = rn := ⟨_, rfl⟩
  rw [hrn] at hrv
  subst hrv htv
  have HTB := hid tB
  have HSB := hid sB
  have HM := hid hmm
  clear h hat hm m1 m2 m3 f1 f3 bB tB sB hrl hrn
  clear hmm
  subst hwB
  obtain ⟨ht1, ht2⟩ := htn
  have hmp : (0 : Int) < (m : Int) := by omega
  have hmz : ((m : Int) == 0) = false := by simp; omega
  have hmz2 : ¬ ((m : Int) = 0) := by omega
  have hcases : (turn < 0 ∧ ∃ k : Nat, k < m ∧ (-(turn + 1)).tmod (m : Int) = (k : Int) ∧ (-(turn + 1)) % (m : Int) = (k : Int)) ∨ (0 ≤ turn ∧ ∃ k : Nat, k < m ∧ turn.tmod (m : Int) = (k : Int) ∧ turn % (m : Int) = (k : Int)) := by
    rcases Int.lt_or_le turn 0 with hs | hs
    · exact .inl ⟨hs, turn_k (K := (-(turn + 1)).toNat) h0 (by omega)⟩
    · exact .inr ⟨hs, turn_k (K := turn.toNat) h0 (by omega)⟩
  rcases hcases with ⟨hs, k, hk, e1, e2⟩ | ⟨hs, k, hk, e1, e2⟩
  all_goals
    go_enter Try.func8, Try.ntmps8
    go_wp2_with (first
      | (go_at_call 13; refine HCK.out.mono ?_; rintro e wA ⟨rfl, ⟨x0, x1, x2⟩, tA⟩; have HTNA := hid tA; have HST' := hid (HST.out wA tA); clear tA))
    clear HCK HST
    go_loopw [8] (fun i wr => ∃ (j : Nat) (tvo : Value) (out : List Th), j ≤ m ∧ i = .int .i64 (j : Int) ∧ Tu (w.heap.size + 1) (wA.alloc (.cells #[.slice none 0 0, .slice none 0 0] 27)) wA.heap.size tvo out wr ∧ Mvd m k ts out j) (fun i _ => m - (intOf i).toNat)
    case atStart => exact ⟨0, _, _, by omega, rfl, HST'.out, ⟨rfl, fun j hj => by omega⟩⟩
    case round =>
      obtain ⟨j, tvo, out, hj, rfl, htu, hmv⟩ := hrel
      clear HST'
      have hmm := HM.out
      have sB := HSB.out
      have zA := HTNA.out.size
      have hup := htu.up
      have zr := hup.tn.size
      have zr2 : wA.heap.size < wr.heap.size := by simp at zr; omega
      have zAw : w.heap.size < wA.heap.size := by omega
      have g0 : wr.cell? ⟨w.heap.size, 0, none⟩ = some (.slice ta m tc) := by
        rw [hup.tn.cell (by simp; omega) (by omega), ((Tn.refl No wA).alloc _).cell (by omega) (fun e => e)]; exact x0
      have twr := (Up.fresh (HTNA.out.alloc (.cells #[.slice none 0 0, .slice none 0 0] 27)) (F := fun x => x = wA.heap.size) (fun k e => by omega) hup).1
      have hmi : (j : Int) ≤ (m : Int) := by omega
      by_cases hlt : j < m
      · obtain ⟨x, hx⟩ : ∃ x, (j + k) % m = x := ⟨_, rfl⟩
        have hxm : x < m := by rw [← hx]; exact Nat.mod_lt _ (by omega)
        have hxl : x < ts.length := by omega
        have hts : ts[x]? = some ts[x] := List.getElem?_eq_getElem hxl
        obtain ⟨hta, hrok⟩ := HTA.out _ _ hts
        obtain ⟨g', o', hta', hg', hcell⟩ := HAT.out (by omega)
        obtain ⟨q0, q1, q2, q3⟩ := thing_cells hcell x hxl
        rw [← (HTB.out.then twr).cell hg' (fun e => e)] at q0 q1 q2 q3
        obtain ⟨xa, xc, hxf⟩ := hta.form
        obtain ⟨t, htt⟩ : ∃ t, ts[x] = t := ⟨_, rfl⟩
        rw [htt] at hts hta hrok q0 q1 q2 q3 hxf
        subst hta'
        obtain ⟨W1, hW1⟩ : ∃ W1, (wr.alloc (.cells #[.int .i64 t.kind, .int .i64 t.tag, .string t.bytes, .slice xa t.refs.length xc] 24)).drew = W1 := ⟨_, rfl⟩
        have t1 : Tn No wr W1 := by rw [← hW1]; exact ((Tn.refl No wr).alloc _).drew
        have s1 : W1.heap.size = wr.heap.size + 1 := by rw [← hW1]; exact (by simp : (wr.alloc (.cells #[.int .i64 t.kind, .int .i64 t.tag, .string t.bytes, .slice xa t.refs.length xc] 24)).heap.size = wr.heap.size + 1)
        have hh1 : W1.heap[wr.heap.size]? = some (.cells #[.int .i64 t.kind, .int .i64 t.tag, .string t.bytes, t.rv] 24 (0, 0)) := by rw [← hW1, hxf]; exact heap_alloc_new wr (.cells #[.int .i64 t.kind, .int .i64 t.tag, .string t.bytes, .slice xa t.refs.length xc] 24)
        have HCA := hid (HMT.out k W1 x t hk (twr.then t1) hts)
        have HNX : Hid (∀ v w2, Mk 2 eR W1 v (t.refs.map (movR m k)) w2 → _) := hid (fun v w2 hmk => htu.next (by omega) t ⟨hta.kind, hta.tag, hta.bytes⟩ ⟨hrok k hk, by simpa using hta.len⟩ (by have := hmv.len; omega) t1 s1 hh1 hmk)
        have HMV : Hid (∀ v, Mvd m k ts (out ++ [⟨t.kind, t.tag, t.bytes, v, t.refs.map (movR m k)⟩]) (j + 1)) := hid (fun v => hmv.next (t := t) (by rw [hx]; exact hts) rfl rfl rfl rfl)
        rw [hxf] at q3 HCA
        have i1 : ((j : Int) + (k : Int)).tmod (m : Int) = (x : Int) := by
          rw [Int.tmod_eq_emod_of_nonneg (by omega), ← hx]; rfl
        have i2 : ((j : Int) + (k : Int)) % (m : Int) = (x : Int) := by rw [← hx]; rfl
        have i0 : (IntKind.i64.wrap ((j : Int) + (k : Int))).tmod (m : Int) = (x : Int) := by
          rw [← i1]
          congr 1
          simp [IntKind.wrap, IntKind.bits, IntKind.signed]; omega
        have im : (m = 0) = False := by simp; omega
        have hb1 : w.heap.size < wr.heap.size := by omega
        have hb2 : g' < wr.heap.size := by have := HTB.out.size; omega
        have i3 : (x : Int) < (m : Int) := by omega
        have i4 : (j : Int) < (m : Int) := by omega
        have i5 : (k : Int) < (m : Int) := by omega
        clear hmm sB zA hup zr twr hx hxl hts hta hrok hcell htt hxf t1 s1 hh1 htu hmv x0 x1 x2 HMT HMR HFN HAT HTA HKN e1 e2 hs ht1 ht2
        obtain ⟨kind, tag, bytes, trv, refs⟩ := t
        dsimp only at q0 q1 q2 q3 hW1 HNX HCA HMV
        subst hW1
        go_wp2_with fail
        go_region
        go_wp2_with (first
          | (go_at_call 28; refine HCA.out.mono ?_; rintro e w2 ⟨v2, rfl, hmk2⟩; obtain ⟨y0, y1, y2, y3, y4, y5, y6, y7, y8, ⟨a2, n2, c2, rfl⟩, tvo', w5, hr5, ⟨a5, n5, c5, rfl⟩, y9, y10, y11, htu5⟩ := HNX.out _ _ hmk2; have y13 := y4 3; have HR5 := hid hr5; have HTU5 := hid htu5; clear hr5 htu5 hmk2 y4)
          | (at_builtin; refine wpList_app _ rfl _ _ _ _ rfl _ _ rfl rfl _ w5 HR5.out ?_))
        go_roundw
        case rel => exact ⟨j + 1, _, _, by omega, by go_num, HTU5.out, HMV.out _⟩
        case measure => simp [intOf]; omega
      · obtain rfl : j = m := by omega
        obtain ⟨tvo', w5, hr5, ⟨a5, n5, c5, rfl⟩, y9, y10, y11, htu5⟩ := htu.nobody (by omega) (by have := hmv.len; omega)
        have c0 := htu.c0
        have tw6 := (Up.fresh (HTNA.out.alloc (.cells #[.slice none 0 0, .slice none 0 0] 27)) (F := fun x => x = wA.heap.size) (fun k e => by omega) htu5.up).1
        have z6 := tw6.size
        have hne : w.heap.size ≠ wA.heap.size := by omega
        have b1 : w5.cell? ⟨w.heap.size, 1, none⟩ = some (.slice ra rn rc) := by
          have : (w5.setCell ⟨wA.heap.size, 0, none⟩ (.slice a5 n5 c5)).cell? ⟨w.heap.size, 1, none⟩ = some (.slice ra rn rc) := by
            rw [htu5.up.tn.cell (by simp; omega) (by omega), ((Tn.refl No wA).alloc _).cell (by omega) (fun e => e)]; exact x1
          rw [World.cell?_setCell_other _ _ _ _ (by simp <;> omega)] at this
          exact this
        have HMV : Hid (Calls Try.prog 28 #[.slice ra rn rc, .int .i64 (j : Int), .int .i64 (k : Int)] (w5.setCell ⟨wA.heap.size, 0, none⟩ (.slice a5 n5 c5)) fun e w7 => ∃ a n c, e = .returned (.slice a n c) ∧ (w7.cell? ⟨w.heap.size, 0, none⟩ = some (.slice ta j tc) ∧ w7.cell? ⟨w.heap.size, 1, none⟩ = some (.slice ra rn rc) ∧ w7.cell? ⟨wA.heap.size, 0, none⟩ = some (.slice a5 n5 c5) ∧ w7.cell? ⟨wA.heap.size, 1, none⟩ = some (.slice none 0 0) ∧ w7.frozen? ⟨wA.heap.size, 1, none⟩ = false ∧ w.heap.size < w7.heap.size ∧ wA.heap.size < w7.heap.size) ∧
            ∃ us, Tfin (.slice ta j tc) (.slice ra rn rc) (.slice a5 n5 c5) (.slice a n c) ts us rs (rs.map (movR j k)) w wA.heap.size (w7.setCell ⟨wA.heap.size, 1, none⟩ (.slice a n c)) ∧ SameP ts rs us (rs.map (movR j k)) ∧ SameP us (rs.map (movR j k)) ts rs ∧ SameP ts rs ts rs) := hid ((HMR.out k _ hk tw6).mono (fun e w7 ⟨v, he, hmk⟩ => by
          obtain ⟨⟨a, n, c, rfl⟩, r1, r2, r3, r4, r5⟩ := HFN.out k wA _ _ _ w7 v hk HTNA.out (hmv.done rfl rfl rfl rfl) htu5 hmk
          have q0 := r4.c0
          have q1 := r4.c1
          have q2 := r4.d0
          have q3 := r4.l0
          rw [World.cell?_setCell_other _ _ _ _ (by simp <;> omega)] at q0 q1
          rw [World.cell?_setCell_other _ _ _ _ (by simp)] at q2
          simp at q3
          exact ⟨a, n, c, he, ⟨q0, q1, q2, r1, r2, q3, r3⟩, _, r4, r5⟩))
        have HR5 := hid hr5
        have hjd : decide ((j : Int) < (j : Int)) = false := by simp
        clear hmm sB zA hup zr twr htu hmv x0 x1 HMT HMR HFN HAT HTA htu5 tw6 z6 hr5 e1 e2 hs ht1 ht2
        go_wp2_with (first
          | (at_builtin; refine wpList_app _ rfl _ _ _ _ rfl _ _ rfl rfl _ w5 HR5.out ?_)
          | (go_at_call 28; refine HMV.out.mono ?_; rintro e w7 ⟨a7, n7, c7, rfl, ⟨z0, z1, z2, z3, z4, z5, z6⟩, us, hf, hs1, hs2, hs3⟩; have HF8 := hid hf; have HS1 := hid hs1; have HS2 := hid hs2; have HS3 := hid hs3; clear hf hs1 hs2 hs3)
          | (go_at_call 15; refine (HKN.out _).mono ?_; rintro e w12 ⟨rfl, t12⟩; have HT12 := hid t12; clear t12)
          | (go_at_call 21; refine (HF10.out.same3 HS3.out).mono ?_; rintro e w11 ⟨rfl, ⟨u0, u1, u2, u3, u4, u5⟩, hf⟩; have HF11 := hid hf; clear hf)
          | (go_at_call 21; refine (HF9.out.same2 HS2.out).mono ?_; rintro e w10 ⟨rfl, ⟨u0, u1, u2, u3, u4, u5⟩, hf⟩; have HF10 := hid hf; clear hf)
          | (go_at_call 21; refine (HF8.out.same1 HS1.out).mono ?_; rintro e w9 ⟨rfl, ⟨u0, u1, u2, u3, u4, u5⟩, hf⟩; have HF9 := hid hf; clear hf))
        go_ret
        exact ⟨rfl, HF11.out.tn.then HT12.out⟩

set_option maxHeartbeats 4000000 in
set_option maxRecDepth 100000 in
theorem turned_few (tv rv : Value) (ts : List Th) (rs : List Rf) (turn : Int) (w : World) (h : GA w tv rv ts rs) (hm : mayG ts rs = false ∨ ts.length = 0) :
    Calls Try.prog 8 #[.agg #[tv, rv], .int .i64 turn] w fun e w' => e = .returned (.bool true) ∧ Tn No w w' := by
  obtain ⟨q, hq⟩ : ∃ q, mayG ts rs = q := ⟨_, rfl⟩
  have HCK : Hid (Calls Try.prog 13 #[.agg #[tv, rv]] (w.alloc (.cells #[tv, rv] 27)) fun e w' => e = .returned (.int .i64 (cond q 0 141)) ∧ Tn No w w') := hid ((check_raw tv rv ts rs _ (h.no ((Tn.refl No w).alloc _))).mono (fun e w' ⟨he, t⟩ => by
    rw [hq] at he
    exact ⟨he, ((Tn.refl No w).alloc _).then t⟩))
  have HKN : Hid (∀ u, Calls Try.prog 15 #[] u fun e w' => e = .returned (.bool true) ∧ Tn No u w') := hid known_raw
  obtain ⟨ra, rc, hrv, _⟩ := h.roots
  obtain ⟨ta, tc, htv, _⟩ := h.things
  obtain ⟨m, hmm⟩ : ∃ m, ts.length = m := ⟨_, rfl⟩
  obtain ⟨rn, hrn⟩ : ∃ rn, rs.length = rn := ⟨_, rfl⟩
  rw [hmm] at htv hm
  rw [hrn] at hrv
  rw [hq] at hm
  subst hrv htv
  clear h hq hmm hrn
  cases q
  · clear hm
    go_enter Try.func8, Try.ntmps8
    go_wp2_with (first
      | (go_at_call 13; refine HCK.out.mono ?_; rintro e wA ⟨rfl, tA⟩; have HTA := hid tA; clear tA)
      | (go_at_call 15; refine (HKN.out _).mono ?_; rintro e w12 ⟨rfl, t12⟩; have HT12 := hid t12; clear t12))
    go_ret
    exact ⟨rfl, HTA.out.then HT12.out⟩
  · obtain rfl : m = 0 := by simpa using hm
    clear hm
    go_enter Try.func8, Try.ntmps8
    go_wp2_with (first
      | (go_at_call 13; refine HCK.out.mono ?_; rintro e wA ⟨rfl, tA⟩; have HTA := hid tA; clear tA)
      | (go_at_call 15; refine (HKN.out _).mono ?_; rintro e w12 ⟨rfl, t12⟩; have HT12 := hid t12; clear t12))
    go_ret
    exact ⟨rfl, HTA.out.then HT12.out⟩

theorem turned_walk (tv rv : Value) (ts : List Th) (rs : List Rf) (turn : Int) (w : World) (h : GA w tv rv ts rs) (hbig : ts.length < 1073741824) (htn : i64ok turn) :
    Calls Try.prog 8 #[.agg #[tv, rv], .int .i64 turn] w fun e w' => e = .returned (.bool true) ∧ Tn No w w' := by
  cases hm : mayG ts rs with
  | false => exact turned_few tv rv ts rs turn w h (.inl hm)
  | true =>
    rcases Nat.eq_zero_or_pos ts.length with h0 | h0
    · exact turned_few tv rv ts rs turn w h (.inr h0)
    · exact turned_main tv rv ts rs turn w h hm h0 hbig htn
end Go.Proofs.Ytlkbnjdhokjfnaa
