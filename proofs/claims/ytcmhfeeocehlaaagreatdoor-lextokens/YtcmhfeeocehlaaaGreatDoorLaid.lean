/-
  What the tables of strconv.ParseFloat hold in memory, as the row lays them.
-/
import Derived.Test.YtcmhfeeocehlaaaGreatDoorRows
import Derived.Shelf.Vars
import Derived.LaidMore
import Derived.ChangeArms
import Derived.OpenShut
import Derived.MakeChecks
import Derived.Lib.LaidTab
namespace Go.Proofs.YtcmhfeeocehlaaaGreatDoor
set_option linter.unusedSimpArgs false
set_option linter.unusedVariables false

theorem laid_at {P : Program} {w : World} : ∀ {l : List (String × DataW Unit)} {ps : List MemPlace}, DataW.LaidVars P w l ps → ∀ (i : Nat) (n : String) (d : DataW Unit), l[i]? = some (n, d) →
    ∃ g t cs fuel p, P.globalNamed n = some g ∧ (P.globals[g]?).map (·.type) = some t ∧ w.var? P n = some cs ∧ DataW.trod (fun _ => ()) P w 0 (fun _ => true) false fuel t cs.toList = some (d, p)
  | [], _, _, i, n, d, hi => by simp at hi
  | (n0, d0) :: r, ps, h, i, n, d, hi => by
    obtain ⟨g, t, cs, fuel, p, q, h1, h2, h3, h4, h5, _⟩ := h
    cases i with
    | zero =>
      simp only [List.getElem?_cons_zero, Option.some.injEq, Prod.mk.injEq] at hi
      obtain ⟨rfl, rfl⟩ := hi
      exact ⟨g, t, cs, fuel, p, h1, h2, h3, h4⟩
    | succ i => exact laid_at h5 i n d (by simpa using hi)

section
variable {H : Type} {enc : TypeId × Value → H} {P : Program} {w : World} {base : Nat} {sp : Nat → Bool} {held : Bool} {fuel m : Nat} {t : TypeId} {cs : List Value} {x : DataW H × List MemPlace}

theorem trod_float {k : FloatKind} (ht : P.underlying t = some (.float k)) (h : DataW.trod enc P w base sp held fuel t cs = some x) : ∃ b, cs = [.float k b] ∧ x = (.lit (.float k b), []) := by
  cases fuel with
  | zero => simp [DataW.trod] at h
  | succ n =>
    unfold DataW.trod at h
    rw [ht] at h
    split at h <;> simp_all
theorem trod_iface {ms : Array (String × TypeId)} (ht : P.underlying t = some (.interface ms)) (h : DataW.trod enc P w base sp held fuel t cs = some x) : ∃ v, cs = [v] ∧ (v = .nilIface ∨ ∃ te pe, v = .iface te pe) := by
  cases fuel with
  | zero => simp [DataW.trod] at h
  | succ n =>
    unfold DataW.trod at h
    rw [ht] at h
    split at h <;> simp_all
theorem ldTake1 {o : Nat} {v : Value} (h : (cs.drop o).take 1 = [v]) : cs[o]? = some v := by
  have := congrArg (·[0]?) h
  simpa [List.getElem?_take, List.getElem?_drop] using this
theorem fld_int {xs : List (DataW H × List MemPlace)} {i o : Nat} {k : IntKind} {z : Int} (ht : P.underlying t = some (.int k)) (hf : DataW.trod enc P w base sp held m t ((cs.drop o).take 1) = xs[i]?) (hm : (xs.map (·.1))[i]? = some (.lit (.int k z))) : cs[o]? = some (.int k z) := by
  rw [List.getElem?_map] at hm
  cases hy : xs[i]? with
  | none => rw [hy] at hm; cases hm
  | some y =>
    rw [hy] at hm hf
    obtain ⟨n, h1, h2, _⟩ := DataW.trod_int ht hf
    subst h2
    simp only [Option.map_some, Option.some.injEq, DataW.lit.injEq, Lit.int.injEq, true_and] at hm
    subst hm
    exact ldTake1 h1
theorem fld_str {xs : List (DataW H × List MemPlace)} {i o : Nat} {z : List UInt8} (ht : P.underlying t = some .string) (hf : DataW.trod enc P w base sp held m t ((cs.drop o).take 1) = xs[i]?) (hm : (xs.map (·.1))[i]? = some (.lit (.string z))) : cs[o]? = some (.string ⟨z.toArray⟩) := by
  rw [List.getElem?_map] at hm
  cases hy : xs[i]? with
  | none => rw [hy] at hm; cases hm
  | some y =>
    rw [hy] at hm hf
    obtain ⟨s, h1, h2, _⟩ := DataW.trod_string ht hf
    subst h2
    simp only [Option.map_some, Option.some.injEq, DataW.lit.injEq, Lit.string.injEq] at hm
    subst hm
    rw [ldTake1 h1]
/-- a slice without spare room: each element's cells, with their reading -/
theorem ldRow {e : TypeId} {ds : List (DataW H)} {p : List MemPlace} (ht : P.underlying t = some (.slice e)) (h : DataW.trod enc P w 0 (fun _ => true) held fuel t cs = some (.slice ds [], p)) :
    ∃ a n, cs = [.slice (some a) ds.length ds.length] ∧ ∀ i d, ds[i]? = some d → ∃ cs' q, w.cells? 0 (a.add (i * P.cellsOf e)) (P.cellsOf e) = some cs' ∧ DataW.trod enc P w 0 (fun _ => true) held n e cs' = some (d, q) := by
  rcases DataW.trod_slice ht h with ⟨_, hx⟩ | ⟨a, len, cap, elems, rest, n, _, hcs, hx, _, hl, _, hlen, hel, hre, _⟩
  · simp at hx
  · simp only [Prod.mk.injEq, DataW.slice.injEq] at hx
    obtain ⟨⟨rfl, hr⟩, _⟩ := hx
    have hr0 : rest = [] := by simpa using hr.symm
    have hr1 := (hre rfl).1
    rw [hr0] at hr1
    simp only [List.length_nil] at hr1
    have el : (elems.map (·.1)).length = len := by simpa using hlen
    have ec : cap = len := by omega
    refine ⟨a, n, by rw [el, hcs, ec], fun i d hd => ?_⟩
    have hi : i < len := by rw [← el]; exact (List.getElem?_eq_some_iff.1 hd).1
    have hE := hel i hi
    rw [List.getElem?_map] at hd
    cases hy : elems[i]? with
    | none => rw [hy] at hd; cases hd
    | some y =>
      rw [hy] at hE hd
      simp only [Option.map_some, Option.some.injEq] at hd
      simp only [Option.bind_eq_some_iff] at hE
      obtain ⟨c1, hc1, hy1⟩ := hE
      exact ⟨c1, y.2, hc1, by rw [hy1, ← hd]⟩
theorem ldAdd (b o n : Nat) : (⟨b, o, none⟩ : Addr).add n = ⟨b, o + n, none⟩ := by
  unfold Addr.add
  split
  · rename_i h; rw [h]; rfl
  · rfl
theorem ldCells1 {a : Addr} {c1 : List Value} (h : w.cells? 0 a 1 = some c1) : ∃ v, c1 = [v] ∧ w.cell? a = some v := by
  have e0 : a.add 0 = a := by simp [Addr.add]
  unfold World.cells? at h
  rw [if_pos (Nat.zero_le _)] at h
  simp only [List.range_succ, List.range_zero, List.nil_append, List.mapM_cons, List.mapM_nil, e0] at h
  cases hc : w.cell? a with
  | none => simp [hc] at h
  | some c => simp [hc] at h; exact ⟨c, h.symm, rfl⟩
theorem ldCells2 {a : Addr} {c1 : List Value} (h : w.cells? 0 a 2 = some c1) : ∃ u v, c1 = [u, v] ∧ w.cell? a = some u ∧ w.cell? (a.add 1) = some v := by
  have e0 : a.add 0 = a := by simp [Addr.add]
  unfold World.cells? at h
  rw [if_pos (Nat.zero_le _)] at h
  simp only [List.range_succ, List.range_zero, List.nil_append, List.cons_append, List.mapM_cons, List.mapM_nil, e0] at h
  cases hc : w.cell? a with
  | none => simp [hc] at h
  | some c =>
    cases hc1 : w.cell? (a.add 1) with
    | none => simp [hc, hc1] at h
    | some d => simp [hc, hc1] at h; exact ⟨c, d, h.symm, rfl, rfl⟩
theorem spot_none {a : Addr} {v : Value} (h : w.cell? a = some v) : a = ⟨a.block, a.off, none⟩ := by
  obtain ⟨b, o, sp⟩ := a
  cases sp with
  | none => rfl
  | some k =>
    unfold World.cell? at h
    split at h <;> simp at h
end

/-! ### the tables -/
def litF : DataW Unit → Nat
  | .lit (.float _ b) => b
  | _ => 0
def litI : DataW Unit → Nat
  | .lit (.int _ z) => z.toNat
  | _ => 0
def elemsOf : DataW Unit → List (DataW Unit)
  | .slice l _ => l
  | _ => []
def pwL : List Nat := (elemsOf Rows.laid_internal_strconv_float64pow10).map litF
def ptL : List Nat := (elemsOf Rows.laid_internal_strconv_powtab).map litI
theorem pw_data : (Rows.laid_internal_strconv_float64pow10 : DataW Unit) = .slice (pwL.map fun b => .lit (.float .f64 b)) [] := by rfl
theorem pt_data : (Rows.laid_internal_strconv_powtab : DataW Unit) = .slice (ptL.map fun (z : Nat) => .lit (.int .i64 (z : Int))) [] := by rfl
theorem pw_len : pwL.length = 23 := by rfl
theorem pt_len : ptL.length = 9 := by rfl
set_option maxRecDepth 100000 in
theorem p10_len : Go.Pinned.pow10Rows.length = 696 := by kernel_rfl
theorem ch_len : Go.Pinned.cheatRows.length = 61 := by kernel_rfl

def theLaid : List (String × DataW Unit) := Rows.lexJoinsRow.laid

variable {w : World} {ps : List MemPlace}
theorem laid_opt (h : DataW.LaidVars Tryz.prog w theLaid ps) : w.cell? ⟨5, 0, none⟩ = some (.bool true) := by
  obtain ⟨g, t, cs, fuel, p, hg, ht, hv, hd⟩ := laid_at h 4 "internal/strconv.optimize" Rows.laid_internal_strconv_optimize rfl
  obtain rfl : 5 = g := Option.some.inj ((show Tryz.prog.globalNamed "internal/strconv.optimize" = some 5 by kernel_rfl).symm.trans hg)
  obtain rfl : 4 = t := Option.some.inj ((show (Tryz.prog.globals[5]?).map (·.type) = some 4 by kernel_rfl).symm.trans ht)
  obtain ⟨b, h1, h2⟩ := DataW.trod_bool Tryz.underlying4 hd
  have hb : true = b := by
    have := congrArg Prod.fst h2
    simpa [Rows.laid_internal_strconv_optimize] using this
  subst hb
  rw [World.var?_cell hg hv 0, ← Array.getElem?_toList, h1]; rfl
theorem laid_info (h : DataW.LaidVars Tryz.prog w theLaid ps) : w.cell? ⟨6, 0, none⟩ = some (.int .u64 52) ∧ w.cell? ⟨6, 1, none⟩ = some (.int .u64 11) ∧ w.cell? ⟨6, 2, none⟩ = some (.int .i64 (-1023)) := by
  obtain ⟨g, t, cs, fuel, p, hg, ht, hv, hd⟩ := laid_at h 3 "internal/strconv.float64info" Rows.laid_internal_strconv_float64info rfl
  obtain rfl : 6 = g := Option.some.inj ((show Tryz.prog.globalNamed "internal/strconv.float64info" = some 6 by kernel_rfl).symm.trans hg)
  obtain rfl : 139 = t := Option.some.inj ((show (Tryz.prog.globals[6]?).map (·.type) = some 139 by kernel_rfl).symm.trans ht)
  obtain ⟨xs, n, _, hx, _, _, hf⟩ := DataW.trod_struct Tryz.underlying139 hd
  have hm : xs.map (·.1) = [.lit (.int .u64 52), .lit (.int .u64 11), .lit (.int .i64 (-1023))] := by
    have := congrArg Prod.fst hx
    simp only [Rows.laid_internal_strconv_float64info, DataW.agg.injEq] at this
    exact this.symm
  have e137 : Tryz.prog.cellsOf 137 = 1 := by kernel_rfl
  have e3 : Tryz.prog.cellsOf 3 = 1 := by kernel_rfl
  have f0 : DataW.trod (fun _ => ()) Tryz.prog w 0 (fun _ => true) false n 137 ((cs.toList.drop 0).take (Tryz.prog.cellsOf 137)) = xs[0]? := hf 0 _ rfl
  have f1 : DataW.trod (fun _ => ()) Tryz.prog w 0 (fun _ => true) false n 137 ((cs.toList.drop 1).take (Tryz.prog.cellsOf 137)) = xs[1]? := hf 1 _ rfl
  have f2 : DataW.trod (fun _ => ()) Tryz.prog w 0 (fun _ => true) false n 3 ((cs.toList.drop 2).take (Tryz.prog.cellsOf 3)) = xs[2]? := hf 2 _ rfl
  rw [e137] at f0 f1
  rw [e3] at f2
  have c0 := fld_int Tryz.underlying137 f0 (by rw [hm]; rfl)
  have c1 := fld_int Tryz.underlying137 f1 (by rw [hm]; rfl)
  have c2 := fld_int Tryz.underlying3 f2 (by rw [hm]; rfl)
  exact ⟨(World.var?_cell hg hv 0).trans ((Array.getElem?_toList ..).symm.trans c0), (World.var?_cell hg hv 1).trans ((Array.getElem?_toList ..).symm.trans c1), (World.var?_cell hg hv 2).trans ((Array.getElem?_toList ..).symm.trans c2)⟩
theorem laid_err (h : DataW.LaidVars Tryz.prog w theLaid ps) : ∃ ev, w.cell? ⟨3, 0, none⟩ = some ev ∧ (ev = .nilIface ∨ ∃ te pe, ev = .iface te pe) := by
  obtain ⟨g, t, cs, fuel, p, hg, ht, hv, hd⟩ := laid_at h 10 "strconv.ErrRange" Rows.laid_strconv_ErrRange rfl
  obtain rfl : 3 = g := Option.some.inj ((show Tryz.prog.globalNamed "strconv.ErrRange" = some 3 by kernel_rfl).symm.trans hg)
  obtain rfl : 76 = t := Option.some.inj ((show (Tryz.prog.globals[3]?).map (·.type) = some 76 by kernel_rfl).symm.trans ht)
  obtain ⟨v, h1, h2⟩ := trod_iface Tryz.underlying76 hd
  exact ⟨v, by rw [World.var?_cell hg hv 0, ← Array.getElem?_toList, h1]; rfl, h2⟩
theorem laid_powtab (h : DataW.LaidVars Tryz.prog w theLaid ps) : ∃ b o, w.cell? ⟨8, 0, none⟩ = some (.slice (some ⟨b, o, none⟩) 9 9) ∧ ∀ i, i < 9 → w.cell? ⟨b, o + i, none⟩ = some (.int .i64 ((ptL.getD i 0 : Nat) : Int)) := by
  obtain ⟨g, t, cs, fuel, p, hg, ht, hv, hd⟩ := laid_at h 5 "internal/strconv.powtab" Rows.laid_internal_strconv_powtab rfl
  obtain rfl : 8 = g := Option.some.inj ((show Tryz.prog.globalNamed "internal/strconv.powtab" = some 8 by kernel_rfl).symm.trans hg)
  obtain rfl : 178 = t := Option.some.inj ((show (Tryz.prog.globals[8]?).map (·.type) = some 178 by kernel_rfl).symm.trans ht)
  rw [pt_data] at hd
  obtain ⟨a, n, h1, h2⟩ := ldRow Tryz.underlying178 hd
  have e3 : Tryz.prog.cellsOf 3 = 1 := by kernel_rfl
  rw [List.length_map, pt_len] at h1
  have hc : ∀ i, i < 9 → w.cell? (a.add i) = some (.int .i64 ((ptL.getD i 0 : Nat) : Int)) := fun i hi => by
    have hg : ptL[i]? = some (ptL.getD i 0) := by
      rw [List.getD_eq_getElem?_getD, List.getElem?_eq_getElem (by rw [pt_len]; exact hi)]; rfl
    obtain ⟨c1, q, h3, h4⟩ := h2 i (.lit (.int .i64 ((ptL.getD i 0 : Nat) : Int))) (by rw [List.getElem?_map, hg]; rfl)
    rw [e3, Nat.mul_one] at h3
    obtain ⟨v, rfl, h5⟩ := ldCells1 h3
    obtain ⟨z, h6, h7, _⟩ := DataW.trod_int Tryz.underlying3 h4
    simp only [List.cons.injEq, and_true] at h6
    simp only [Prod.mk.injEq, DataW.lit.injEq, Lit.int.injEq, true_and] at h7
    rw [h5, h6, ← h7.1]
  have ha := spot_none ((by simpa [Addr.add] using hc 0 (by omega) : w.cell? a = _))
  refine ⟨a.block, a.off, ?_, fun i hi => ?_⟩
  · rw [World.var?_cell hg hv 0, ← Array.getElem?_toList, h1, ← ha]; rfl
  · rw [← hc i hi]
    conv => rhs; rw [ha, ldAdd]
theorem laid_pow10 (h : DataW.LaidVars Tryz.prog w theLaid ps) : ∃ b o, w.cell? ⟨9, 0, none⟩ = some (.slice (some ⟨b, o, none⟩) 23 23) ∧ ∀ i, i < 23 → w.cell? ⟨b, o + i, none⟩ = some (.float .f64 (pwL.getD i 0)) := by
  obtain ⟨g, t, cs, fuel, p, hg, ht, hv, hd⟩ := laid_at h 6 "internal/strconv.float64pow10" Rows.laid_internal_strconv_float64pow10 rfl
  obtain rfl : 9 = g := Option.some.inj ((show Tryz.prog.globalNamed "internal/strconv.float64pow10" = some 9 by kernel_rfl).symm.trans hg)
  obtain rfl : 179 = t := Option.some.inj ((show (Tryz.prog.globals[9]?).map (·.type) = some 179 by kernel_rfl).symm.trans ht)
  rw [pw_data] at hd
  obtain ⟨a, n, h1, h2⟩ := ldRow Tryz.underlying179 hd
  have e3 : Tryz.prog.cellsOf 74 = 1 := by kernel_rfl
  rw [List.length_map, pw_len] at h1
  have hc : ∀ i, i < 23 → w.cell? (a.add i) = some (.float .f64 (pwL.getD i 0)) := fun i hi => by
    have hg : pwL[i]? = some (pwL.getD i 0) := by
      rw [List.getD_eq_getElem?_getD, List.getElem?_eq_getElem (by rw [pw_len]; exact hi)]; rfl
    obtain ⟨c1, q, h3, h4⟩ := h2 i (.lit (.float .f64 (pwL.getD i 0))) (by rw [List.getElem?_map, hg]; rfl)
    rw [e3, Nat.mul_one] at h3
    obtain ⟨v, rfl, h5⟩ := ldCells1 h3
    obtain ⟨z, h6, h7⟩ := trod_float Tryz.underlying74 h4
    simp only [List.cons.injEq, and_true] at h6
    simp only [Prod.mk.injEq, DataW.lit.injEq, Lit.float.injEq, true_and] at h7
    rw [h5, h6, ← h7.1]
  have ha := spot_none ((by simpa [Addr.add] using hc 0 (by omega) : w.cell? a = _))
  refine ⟨a.block, a.off, ?_, fun i hi => ?_⟩
  · rw [World.var?_cell hg hv 0, ← Array.getElem?_toList, h1, ← ha]; rfl
  · rw [← hc i hi]
    conv => rhs; rw [ha, ldAdd]
theorem laid_cheats (h : DataW.LaidVars Tryz.prog w theLaid ps) : ∃ b o, w.cell? ⟨13, 0, none⟩ = some (.slice (some ⟨b, o, none⟩) 61 61) ∧ ∀ k, k ≤ 60 → w.cell? ⟨b, o + k * 2, none⟩ = some (.int .i64 (((Go.Pinned.cheatRows.getD k (0, [])).1 : Nat) : Int)) ∧ w.cell? ⟨b, o + k * 2 + 1, none⟩ = some (.string ⟨(Go.Pinned.cheatRows.getD k (0, [])).2.toArray⟩) := by
  obtain ⟨g, t, cs, fuel, p, hg, ht, hv, hd⟩ := laid_at h 12 "internal/strconv.leftcheats" Rows.laid_internal_strconv_leftcheats rfl
  obtain rfl : 13 = g := Option.some.inj ((show Tryz.prog.globalNamed "internal/strconv.leftcheats" = some 13 by kernel_rfl).symm.trans hg)
  obtain rfl : 205 = t := Option.some.inj ((show (Tryz.prog.globals[13]?).map (·.type) = some 205 by kernel_rfl).symm.trans ht)
  unfold Rows.laid_internal_strconv_leftcheats Go.Pinned.leftcheats at hd
  obtain ⟨a, n, h1, h2⟩ := ldRow Tryz.underlying205 hd
  have e204 : Tryz.prog.cellsOf 204 = 2 := by kernel_rfl
  have e3 : Tryz.prog.cellsOf 3 = 1 := by kernel_rfl
  have e9 : Tryz.prog.cellsOf 9 = 1 := by kernel_rfl
  rw [List.length_map, ch_len] at h1
  have hc : ∀ k, k ≤ 60 → w.cell? (a.add (k * 2)) = some (.int .i64 (((Go.Pinned.cheatRows.getD k (0, [])).1 : Nat) : Int)) ∧ w.cell? ((a.add (k * 2)).add 1) = some (.string ⟨(Go.Pinned.cheatRows.getD k (0, [])).2.toArray⟩) := fun k hk => by
    have hg : Go.Pinned.cheatRows[k]? = some (Go.Pinned.cheatRows.getD k (0, [])) := by
      rw [List.getD_eq_getElem?_getD, List.getElem?_eq_getElem (by rw [ch_len]; omega)]; rfl
    obtain ⟨r, hr⟩ : ∃ r, Go.Pinned.cheatRows.getD k (0, []) = r := ⟨_, rfl⟩
    rw [hr] at hg ⊢
    obtain ⟨c1, q, h3, h4⟩ := h2 k (.agg [.lit (.int .i64 (r.1 : Int)), .lit (.string r.2)]) (by rw [List.getElem?_map, hg]; rfl)
    rw [e204] at h3
    obtain ⟨u, v, rfl, h5, h6⟩ := ldCells2 h3
    obtain ⟨xs, m, _, hx, _, _, hf⟩ := DataW.trod_struct Tryz.underlying204 h4
    have hm : xs.map (·.1) = [.lit (.int .i64 (r.1 : Int)), .lit (.string r.2)] := by
      have := congrArg Prod.fst hx
      simp only [DataW.agg.injEq] at this
      exact this.symm
    have f0 : DataW.trod (fun _ => ()) Tryz.prog w 0 (fun _ => true) false m 3 (([u, v].drop 0).take (Tryz.prog.cellsOf 3)) = xs[0]? := hf 0 _ rfl
    have f1 : DataW.trod (fun _ => ()) Tryz.prog w 0 (fun _ => true) false m 9 (([u, v].drop 1).take (Tryz.prog.cellsOf 9)) = xs[1]? := hf 1 _ rfl
    rw [e3] at f0
    rw [e9] at f1
    have c0 := fld_int Tryz.underlying3 f0 (by rw [hm]; rfl)
    have c1 := fld_str Tryz.underlying9 f1 (by rw [hm]; rfl)
    simp only [List.getElem?_cons_zero, List.getElem?_cons_succ, Option.some.injEq] at c0 c1
    rw [h5, h6, c0, c1]
    exact ⟨rfl, rfl⟩
  have ha := spot_none ((by simpa [Addr.add] using (hc 0 (by omega)).1 : w.cell? a = _))
  refine ⟨a.block, a.off, ?_, fun k hk => ?_⟩
  · rw [World.var?_cell hg hv 0, ← Array.getElem?_toList, h1, ← ha]; rfl
  · rw [← (hc k hk).1, ← (hc k hk).2]
    constructor
    · conv => rhs; rw [ha, ldAdd]
    · conv => rhs; rw [ha, ldAdd, ldAdd]
/-- pow10Tab, cell by cell -/
def p10T (i : Nat) : Nat := if i % 2 = 0 then (Go.Pinned.pow10Rows.getD (i / 2) (0, 0)).1 else (Go.Pinned.pow10Rows.getD (i / 2) (0, 0)).2
theorem laid_tab (h : DataW.LaidVars Tryz.prog w theLaid ps) : ∀ i, i < 1392 → w.cell? ⟨12, i, none⟩ = some (.int .u64 (p10T i : Int)) := by
  obtain ⟨g, t, cs, fuel, p, hg, ht, hv, hd⟩ := laid_at h 13 "internal/strconv.pow10Tab" Rows.laid_internal_strconv_pow10Tab rfl
  obtain rfl : 12 = g := Option.some.inj ((show Tryz.prog.globalNamed "internal/strconv.pow10Tab" = some 12 by kernel_rfl).symm.trans hg)
  obtain rfl : 192 = t := Option.some.inj ((show (Tryz.prog.globals[12]?).map (·.type) = some 192 by kernel_rfl).symm.trans ht)
  unfold Rows.laid_internal_strconv_pow10Tab Go.Pinned.pow10Tab at hd
  obtain ⟨xs, m, _, hx, _, hxl, hf⟩ := DataW.trod_array Tryz.underlying192 hd
  have e191 : Tryz.prog.cellsOf 191 = 2 := by kernel_rfl
  have e36 : Tryz.prog.cellsOf 36 = 1 := by kernel_rfl
  have hm : xs.map (·.1) = Go.Pinned.pow10Rows.map fun x => .agg [.lit (.int .u64 (x.1 : Int)), .lit (.int .u64 (x.2 : Int))] := by
    have := congrArg Prod.fst hx
    simp only [DataW.agg.injEq] at this
    exact this.symm
  have hc : ∀ i, i < 696 → cs.toList[i * 2]? = some (.int .u64 ((Go.Pinned.pow10Rows.getD i (0, 0)).1 : Int)) ∧ cs.toList[i * 2 + 1]? = some (.int .u64 ((Go.Pinned.pow10Rows.getD i (0, 0)).2 : Int)) := fun i hi => by
    have hr : Go.Pinned.pow10Rows[i]? = some (Go.Pinned.pow10Rows.getD i (0, 0)) := by
      rw [List.getD_eq_getElem?_getD, List.getElem?_eq_getElem (by rw [p10_len]; exact hi)]; rfl
    obtain ⟨r, hr'⟩ : ∃ r, Go.Pinned.pow10Rows.getD i (0, 0) = r := ⟨_, rfl⟩
    rw [hr'] at hr ⊢
    have hmi : (xs.map (·.1))[i]? = some (.agg [.lit (.int .u64 (r.1 : Int)), .lit (.int .u64 (r.2 : Int))]) := by rw [hm, List.getElem?_map, hr]; rfl
    have hfi := hf i hi
    rw [e191] at hfi
    rw [List.getElem?_map] at hmi
    cases hy : xs[i]? with
    | none => rw [hy] at hmi; cases hmi
    | some y =>
      rw [hy] at hmi hfi
      simp only [Option.map_some, Option.some.injEq] at hmi
      obtain ⟨zs, n, _, hz, _, _, hg⟩ := DataW.trod_struct Tryz.underlying191 hfi
      have hmz : zs.map (·.1) = [.lit (.int .u64 (r.1 : Int)), .lit (.int .u64 (r.2 : Int))] := by
        have := congrArg Prod.fst hz
        rw [hmi] at this
        simp only [DataW.agg.injEq] at this
        exact this.symm
      have f0 : DataW.trod (fun _ => ()) Tryz.prog w 0 (fun _ => true) false n 36 ((((cs.toList.drop (i * 2)).take 2).drop 0).take (Tryz.prog.cellsOf 36)) = zs[0]? := hg 0 _ rfl
      have f1 : DataW.trod (fun _ => ()) Tryz.prog w 0 (fun _ => true) false n 36 ((((cs.toList.drop (i * 2)).take 2).drop 1).take (Tryz.prog.cellsOf 36)) = zs[1]? := hg 1 _ rfl
      rw [e36] at f0 f1
      have c0 := fld_int Tryz.underlying36 f0 (by rw [hmz]; rfl)
      have c1 := fld_int Tryz.underlying36 f1 (by rw [hmz]; rfl)
      rw [List.getElem?_take, List.getElem?_drop] at c0 c1
      simp only [Nat.add_zero] at c0
      rw [if_pos (by omega)] at c0 c1
      exact ⟨c0, c1⟩
  intro i hi
  rw [World.var?_cell hg hv i, ← Array.getElem?_toList]
  have := hc (i / 2) (by omega)
  unfold p10T
  by_cases h2 : i % 2 = 0
  · rw [if_pos h2, ← this.1, show i / 2 * 2 = i by omega]
  · rw [if_neg h2, ← this.2, show i / 2 * 2 + 1 = i by omega]
theorem max_len {w : World} (h : w.ShapedOpen Tryz.prog) : ∃ m, w.cell? ⟨1, 0, none⟩ = some (.int .i64 m) :=
  cell_of_shapedOpen_int h (t := 3) (zero := #[.int .i64 0]) (of_decide_eq_true (by kernel_rfl)) (by kernel_rfl) (by kernel_rfl) (by kernel_rfl) (by kernel_rfl) Tryz.underlying3
end Go.Proofs.YtcmhfeeocehlaaaGreatDoor
