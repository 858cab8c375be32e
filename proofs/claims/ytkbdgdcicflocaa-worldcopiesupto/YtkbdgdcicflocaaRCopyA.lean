/-
  The reference's Copy: what goes ahead of the walk.
-/
import Derived.Test.YtkbdgdcicflocaaRef25
import Derived.Test.YtkbdgdcicflocaaSorted
namespace Go.Proofs.Ytkbdgdcicflocaa
set_option linter.unusedSimpArgs false
set_option linter.unusedVariables false
open Go.RowKit
attribute [local go_sem ↓] Go.wp_at_zero Go.wp_at_succ

/-- a world without files and events, its input as another's -/
theorem ry_bare (w : World) (S : St) (hrd : S.rd ≤ S.inp.length) : YOwn w (w.alloc (.cells #[.slice none 0 0, .string (str (S.inp.drop S.rd)), .slice none 0 0, .slice none 0 0] 76)) w.heap.size 0 { S with fs := fun _ => none, tr := [] } := by
  obtain ⟨s, hs⟩ : ∃ s, str (S.inp.drop S.rd) = s := ⟨_, rfl⟩
  rw [hs]
  have hcell : ∀ i, (w.alloc (.cells #[.slice none 0 0, .string s, .slice none 0 0, .slice none 0 0] 76)).cell? ⟨w.heap.size, i, none⟩ = (#[.slice none 0 0, .string s, .slice none 0 0, .slice none 0 0] : Array Value)[i]? := fun i => by rw [World.cell?_alloc_new]
  refine ⟨upd (fun _ => none) w.heap.size (some .st), ⟨[], .slice none 0 0, .slice none 0 0, fun _ => .slice none 0 0, ?_⟩, (Tn.refl No w).alloc _, fun k hk => ?_⟩
  · refine { qlt := by simp, c0 := (hcell 0).trans rfl, c1 := (hcell 1).trans (by rw [hs]; rfl), c2 := (hcell 2).trans rfl, c3 := (hcell 3).trans rfl, fz := fun i => ?_, labs := upd_same _ _ _, tr := ⟨RW.nil _ _, fun i e h => (by simp at h)⟩, labt := fun g h => (by cases h), tlen := ⟨Nat.le_refl _, fun e h => (by simp at h)⟩, row := RW.nil _ _, labl := fun g h => (by cases h), lc := fun i hi => (by simp at hi), len := Nat.le_refl _, lt := fun k hk => ?_, fs := ?_, up := List.Pairwise.nil, rd := hrd }
    · have hh := heap_alloc_new w (.cells #[.slice none 0 0, .string s, .slice none 0 0, .slice none 0 0] 76)
      simp only [World.frozen?, hh]
      simp
    · by_cases e : k = w.heap.size
      · subst e; simp
      · rw [upd_other _ _ e] at hk; exact absurd rfl hk
    · funext x; rfl
  · by_cases e : k = w.heap.size
    · omega
    · rw [upd_other _ _ e] at hk; exact absurd rfl hk

/-- a file goes behind the others -/
theorem yown_file {w wr u : World} {q M : Nat} {S : St} (h : YOwn w wr q M S) (t : Tn No wr u) (nm : ByteArray) (ba : Option Addr) (bn bc' : Nat) (l : List UInt8) (hbr : BR u (.slice ba bn bc') l) (hob : ∀ g, (Value.slice ba bn bc').ownBlock = some g → wr.heap.size ≤ g) (hlast : ∀ x, (S.fs x).isSome = true → x < nm.data.toList) (hl : l.length ≤ M + 1) (hnm : nm.size ≤ 255) (hM : M + 1 ≤ 1099511627776) :
    ∃ la ln lc, (∀ u', Tn No wr u' → u'.cell? ⟨q, 0, none⟩ = some (.slice la ln lc)) ∧ q < wr.heap.size ∧ ∃ g n cap wa, (Builtin.append_ #[73, 73] 73 #[.slice la ln lc, .slice (some ⟨u.heap.size, 0, none⟩) 1 1]).run Try.prog (u.alloc (.cells #[.string nm, .slice ba bn bc'] 89)) = .ok (.slice (some ⟨g, 0, none⟩) n cap) wa ∧
      wa.cell? ⟨q, 0, none⟩ = some (.slice la ln lc) ∧ (∀ i, wa.frozen? ⟨q, i, none⟩ = false) ∧ q < wa.heap.size ∧ YOwn w (wa.setCell ⟨q, 0, none⟩ (.slice (some ⟨g, 0, none⟩) n cap)) q (M + 1) (S.put nm.data.toList l) := by
  obtain ⟨L, ⟨fl, lv, tv, bv, hx0⟩, tw, hlL⟩ := h
  obtain ⟨la, lc, hlv, _⟩ := hx0.row.form
  subst hlv
  refine ⟨la, fl.length, lc, fun u' t' => (t'.cell hx0.qlt (fun e => e)).trans hx0.c0, hx0.qlt, ?_⟩
  -- the bytes' block gets its name
  have hnamed : ∃ L2, RY u q L2 M S fl (.slice la fl.length lc) tv bv ∧ (∀ g, (Value.slice ba bn bc').ownBlock = some g → L2 g = some (.fl nm.data.toList)) ∧ ∀ k, L2 k ≠ none → w.heap.size ≤ k := by
    cases e : (Value.slice ba bn bc').ownBlock with
    | none => exact ⟨L, hx0.no t, fun g hg => (by cases hg), hlL⟩
    | some g =>
      have hg1 := hob g e
      have hn : L g = none := Classical.byContradiction (fun hn => by have := hx0.lt g hn; omega)
      refine ⟨upd L g (some (.fl nm.data.toList)), (hx0.no t).name g (hbr.lt g e) hn _, fun g' hg => (by cases hg; exact upd_same _ _ _), fun k hk => ?_⟩
      by_cases ek : k = g
      · have := tw.size; omega
      · rw [upd_other _ _ ek] at hk; exact hlL k hk
  obtain ⟨L2, hx, hlb, hl2⟩ := hnamed
  obtain ⟨g, cap, wa, hr, hc0, hfz, hql, hgl, hcap, hcm, hgq, hgL, hrw, hrow, hk, hq, ht⟩ := hx.addFile hM nm ba bn bc'
  refine ⟨g, fl.length + 1, cap, wa, hr, hc0, hfz, hql, ?_⟩
  have hmem : ∀ j (hj : j < fl.length), fl[j].1.data.toList < nm.data.toList := fun j hj => hlast _ (by
    rw [hx.fs, ← nms_mem]
    exact List.mem_map.2 ⟨fl[j], List.getElem_mem _, rfl⟩)
  refine YOwn.lft (tw.then t) hl2 (hx.inserted nm (.slice ba bn bc') l g cap fl.length (Nat.le_refl _) hgq hgL hrw hrow hk (World.cell?_setCell_same _ _ _ hc0) hq (fun i => by rw [World.frozen?_setCell]; exact hfz i) ht (fun j hj e => ?_) (fun j hj _ => hmem j hj) (fun j hj h' => by omega) hbr hlb hl hnm)
  have := hmem j hj
  rw [e] at this
  exact List.lt_irrefl _ this

/-- the descriptors' cells -/
def dcl (ds : Nat → De) : List Value := (List.range 57).map (fun j => if j % 3 = 0 then .int .i64 (ds (j / 3)).kind else if j % 3 = 1 then .string (ds (j / 3)).name else .int .i64 ((ds (j / 3)).place : Int))
theorem dcl_length (ds : Nat → De) : (dcl ds).length = 57 := by simp [dcl]
theorem dcl_at (ds : Nat → De) (j : Nat) (hj : j < 57) : (dcl ds)[j]? = some (if j % 3 = 0 then .int .i64 (ds (j / 3)).kind else if j % 3 = 1 then .string (ds (j / 3)).name else .int .i64 ((ds (j / 3)).place : Int)) := by
  simp [dcl, hj]

/-- rows behind none: a block of their own -/
theorem append_nil {w : World} {x : Value} {m : Nat} {news : List Value} {t tx : TypeId} (ty e : TypeId) (i : TypeInfo) (z : Value) (ht : Try.prog.underlying t = some (.slice e)) (hi : Try.prog.info? e = some i) (hz0 : i.zero = some z)
    (hzs : z.cells.size = i.size) (hs : Src Try.prog i.size tx x m news w) (hm : m ≤ maxLen) (hb : m * i.bytes ≤ 140737488355328) (h0 : 0 < m) :
    ∃ cap C, (Builtin.append_ #[t, tx] ty #[.slice none 0 0, x]).run Try.prog w = .ok (.slice (some ⟨w.heap.size, 0, none⟩) m cap) (w.drew.alloc (.cells C e)) ∧ m ≤ cap ∧ cap ≤ maxLen ∧ C.size = cap * i.size ∧ ∀ j, j < news.length → C[j]? = news[j]? := by
  have hnl := hs.newsLen
  have hfit : Builtin.nextslicecap (0 + m) 0 * i.bytes ≤ 281474976710656 := growslice_fits (by omega) (by simpa using hb)
  have hr := run_append_grow_src (P := Try.prog) w t tx ty e i z ht hi hz0 none 0 0 [] (by simp [Builtin.firstCells, loadCells, loadCellsFrom]) x m news hs (by omega) (by unfold maxLen at hm; omega) hfit
  have hge := grownCap_ge w (0 + m) 0 e
  have hcm := grownCap_le_maxLen w (0 + m) 0 e (by simpa using hm)
  rw [Nat.zero_add] at hr hge hcm
  refine ⟨_, _, hr, hge, hcm, ?_, fun j hj => ?_⟩
  · simp only [Array.size_append, List.size_toArray, List.length_append, List.length_nil, Nat.zero_add, size_zeroCells, hnl, hzs, ← Nat.add_mul]
    rw [Nat.add_sub_cancel' hge]
  · rw [Array.getElem?_append_left (by simp; omega), List.getElem?_toArray, List.nil_append]

theorem yown_ds {w u : World} {q M : Nat} {S : St} (h : YOwn w u q M S) (d : Dk) (ds : Nat → De) (hd : ∀ i, i < 19 → u.cell? ⟨d, i * 3, none⟩ = some (.int .i64 (ds i).kind) ∧ u.cell? ⟨d, i * 3 + 1, none⟩ = some (.string (ds i).name) ∧ u.cell? ⟨d, i * 3 + 2, none⟩ = some (.int .i64 ((ds i).place : Int))) (hp : ∀ i, i < 19 → (ds i).place ≤ M ∧ (ds i).name.size ≤ 255) :
    (∀ u', Tn No u u' → u'.cell? ⟨q, 2, none⟩ = some (.slice none 0 0)) ∧ q < u.heap.size ∧ ∃ g cap wa, (Builtin.append_ #[74, 74] 74 #[.slice none 0 0, .slice (some ⟨d, 0, none⟩) 19 d.cap]).run Try.prog u = .ok (.slice (some ⟨g, 0, none⟩) 19 cap) wa ∧
      wa.cell? ⟨q, 2, none⟩ = some (.slice none 0 0) ∧ (∀ i, wa.frozen? ⟨q, i, none⟩ = false) ∧ q < wa.heap.size ∧ ROwn w (wa.setCell ⟨q, 2, none⟩ (.slice (some ⟨g, 0, none⟩) 19 cap)) q M { S with ds := ds } := by
  obtain ⟨L, ⟨fl, lv, tv, bv, hx⟩, tw, hlL⟩ := h
  refine ⟨fun u' t' => (t'.cell hx.qlt (fun e => e)).trans hx.c2, hx.qlt, ?_⟩
  obtain ⟨i0, hi, hz0, hz1, hz2⟩ := info_parts de_info
  have hsrc : Src Try.prog 3 74 (.slice (some ⟨d, 0, none⟩) 19 d.cap) 19 (dcl ds) u :=
    Src.ofSlice _ Try.underlying74 _ 19 d.cap _ (by rw [dcl_length]) (fun j v hv => by
      have hj : j < 57 := by have := (List.getElem?_eq_some_iff.1 hv).1; rwa [dcl_length] at this
      rw [dcl_at ds j hj] at hv
      obtain ⟨c0, c1, c2⟩ := hd (j / 3) (by omega)
      rw [addr_add, ← Option.some.inj hv]
      split
      · rw [show j / 3 * 3 = j by omega] at c0; exact c0
      · split
        · rw [show j / 3 * 3 + 1 = j by omega] at c1; exact c1
        · rw [show j / 3 * 3 + 2 = j by omega] at c2; exact c2) (fun v hv => by
      simp only [dcl, List.mem_map] at hv
      obtain ⟨j, _, rfl⟩ := hv
      split
      · rfl
      · split <;> rfl)
  obtain ⟨cap, C, hr, hcap, hcm, hCs, hCn⟩ := append_nil 74 79 i0 _ Try.underlying74 hi hz0 (by rw [hz1]; rfl) (by rw [hz1]; exact hsrc) (by unfold maxLen; omega) (by rw [hz2]; omega) (by omega)
  have ta : Tn No u (u.drew.alloc (.cells C 79)) := (Tn.refl No u).drew.alloc _
  have hg : u.heap.size < (u.drew.alloc (.cells C 79)).heap.size := by simp
  have hnew : ∀ j, (u.drew.alloc (.cells C 79)).cell? ⟨u.heap.size, j, none⟩ = C[j]? := fun j => World.cell?_alloc_mark u.drew _ _ _ j
  have hh : (u.drew.alloc (.cells C 79)).heap[u.heap.size]? = some (.cells C 79 (0, 0)) := heap_alloc_new u.drew _
  obtain ⟨wa, hwa⟩ : ∃ wa, u.drew.alloc (.cells C 79) = wa := ⟨_, rfl⟩
  rw [hwa] at ta hg hnew hh hr
  have hql : q < wa.heap.size := Nat.lt_of_lt_of_le hx.qlt ta.size
  have hne : q ≠ u.heap.size := by have := hx.qlt; omega
  have hLn : L u.heap.size = none := Classical.byContradiction (fun hn => by have := hx.lt _ hn; omega)
  have hc2 : wa.cell? ⟨q, 2, none⟩ = some (.slice none 0 0) := (ta.cell hx.qlt (fun e => e)).trans hx.c2
  have hfq : ∀ i, wa.frozen? ⟨q, i, none⟩ = false := fun i => (ta.frozen hx.qlt (fun e => e)).trans (hx.fz i)
  refine ⟨u.heap.size, cap, wa, hr, hc2, hfq, hql, ?_⟩
  have hbk : ∀ k, k ≠ q → (wa.setCell ⟨q, 2, none⟩ (.slice (some ⟨u.heap.size, 0, none⟩) 19 cap)).heap[k]? = wa.heap[k]? := fun k hk => Below.heap_setCell _ _ _ _ hk
  have hnc : ∀ j, j < 57 → (wa.setCell ⟨q, 2, none⟩ (.slice (some ⟨u.heap.size, 0, none⟩) 19 cap)).cell? ⟨u.heap.size, j, none⟩ = (dcl ds)[j]? := fun j hj => by
    rw [World.cell?_of_block (w := wa) (a := ⟨u.heap.size, j, none⟩) (hbk _ hne.symm)]
    rw [hnew]
    exact hCn j (by rw [dcl_length]; exact hj)
  have hX := hx.withD (w' := wa.setCell ⟨q, 2, none⟩ (.slice (some ⟨u.heap.size, 0, none⟩) 19 cap)) ⟨u.heap.size, cap⟩ (by simpa using hg) hLn (by simpa using ta.size)
    (fun k hk hkq => (hbk k hkq).trans (ta.block k (hx.lt k hk) (fun e => e)))
    (fun i hi => by rw [World.cell?_setCell_other _ _ _ _ (by intro e; cases e; exact hi rfl)]; exact ta.cell hx.qlt (fun e => e))
    (World.cell?_setCell_same _ _ _ hc2)
    (fun i => by rw [World.frozen?_setCell]; exact hfq i)
    ds (fun i hi => by
      refine ⟨?_, ?_, ?_⟩
      · rw [hnc _ (by omega), dcl_at ds _ (by omega), if_pos (by omega), show i * 3 / 3 = i by omega]
      · rw [hnc _ (by omega), dcl_at ds _ (by omega), if_neg (by omega), if_pos (by omega), show (i * 3 + 1) / 3 = i by omega]
      · rw [hnc _ (by omega), dcl_at ds _ (by omega), if_neg (by omega), if_neg (by omega), show (i * 3 + 2) / 3 = i by omega])
    (fun i => by
      rw [World.frozen?_setCell]
      simp only [World.frozen?, hh]
      simp)
    hp
  refine ⟨_, ⟨_, _, _, _, _, hX⟩, (tw.then ta).set _ _ (fun h => by simp only at h; have := hlL q (by rw [hx.labs]; simp); omega), fun k hk => ?_⟩
  by_cases ek : k = u.heap.size
  · have := tw.size; omega
  · rw [upd_other _ _ ek] at hk; exact hlL k hk
end Go.Proofs.Ytkbdgdcicflocaa
namespace Go.Proofs.Ytkbdgdcicflocaa
set_option linter.unusedSimpArgs false
set_option linter.unusedVariables false
open Go.RowKit
attribute [local go_sem ↓] Go.wp_at_zero Go.wp_at_succ

/-- the events' cells -/
def ec (tr : List Ev) : List Value := tr.flatMap (fun e => [.int .i64 e.kind, .string e.name, .string (str e.text)])
theorem ec_length (tr : List Ev) : (ec tr).length = tr.length * 3 := by
  induction tr with
  | nil => rfl
  | cons f r ih => simp only [ec, List.flatMap_cons, List.length_append, List.length_cons, List.length_nil] at ih ⊢; omega
theorem ec_one (tr : List Ev) : ∀ v ∈ ec tr, v.oneCell' = true := by
  intro v hv
  simp only [ec, List.mem_flatMap, List.mem_cons, List.not_mem_nil, or_false] at hv
  obtain ⟨f, _, rfl | rfl | rfl⟩ := hv <;> rfl
theorem ec_at (tr : List Ev) (j : Nat) (e : Ev) (he : tr[j]? = some e) : (ec tr)[j * 3]? = some (.int .i64 e.kind) ∧ (ec tr)[j * 3 + 1]? = some (.string e.name) ∧ (ec tr)[j * 3 + 2]? = some (.string (str e.text)) := by
  induction tr generalizing j with
  | nil => simp at he
  | cons f r ih =>
    have e' : ec (f :: r) = .int .i64 f.kind :: .string f.name :: .string (str f.text) :: ec r := rfl
    rw [e']
    cases j with
    | zero =>
      have : f = e := by simpa using he
      subst this
      exact ⟨rfl, rfl, rfl⟩
    | succ j =>
      have := ih j (by simpa using he)
      rw [show (j + 1) * 3 = j * 3 + 1 + 1 + 1 by omega, show j * 3 + 1 + 1 + 1 + 1 = (j * 3 + 1) + 1 + 1 + 1 by omega, show j * 3 + 1 + 1 + 1 + 2 = (j * 3 + 2) + 1 + 1 + 1 by omega]
      simp only [List.getElem?_cons_succ]
      exact this
theorem ec_get (tr : List Ev) (j : Nat) (v : Value) (h : (ec tr)[j]? = some v) : ∃ e, tr[j / 3]? = some e ∧ v = (if j % 3 = 0 then .int .i64 e.kind else if j % 3 = 1 then .string e.name else .string (str e.text)) := by
  have hj := (List.getElem?_eq_some_iff.1 h).1
  rw [ec_length] at hj
  have hi : j / 3 < tr.length := by omega
  obtain ⟨e, he⟩ : ∃ e, tr[j / 3]? = some e := ⟨_, List.getElem?_eq_getElem hi⟩
  obtain ⟨a, b, c⟩ := ec_at tr (j / 3) e he
  refine ⟨e, he, ?_⟩
  by_cases h0 : j % 3 = 0
  · rw [if_pos h0]
    rw [show j / 3 * 3 = j by omega, h] at a
    exact Option.some.inj a
  · rw [if_neg h0]
    by_cases h1 : j % 3 = 1
    · rw [if_pos h1]
      rw [show j / 3 * 3 + 1 = j by omega, h] at b
      exact Option.some.inj b
    · rw [if_neg h1]
      rw [show j / 3 * 3 + 2 = j by omega, h] at c
      exact Option.some.inj c

theorem TV.src {u : World} {sv : Value} {tr : List Ev} (h : TV u sv tr) : Src Try.prog 3 47 sv tr.length (ec tr) u := by
  rcases h.rw with ⟨rfl, e⟩ | ⟨g, cap, rfl, _⟩
  · obtain rfl := List.length_eq_zero_iff.1 e
    exact Src.ofNil u Try.underlying47 0
  · refine Src.ofSlice _ Try.underlying47 _ _ cap _ (ec_length tr) (fun j v hv => ?_) (ec_one tr)
    obtain ⟨e, he, rfl⟩ := ec_get tr j v hv
    obtain ⟨a, b, c⟩ := h.ev (j / 3) e he
    rw [addr_add]
    simp only [vc] at a b c
    split
    · rw [show 3 * (j / 3) = j by omega] at a; exact a
    · split
      · rw [show 3 * (j / 3) + 1 = j by omega] at b; exact b
      · rw [show 3 * (j / 3) + 2 = j by omega] at c; exact c

/-- all events go on a trace that has none -/
theorem rown_tr {w u : World} {q M : Nat} {S : St} (h : ROwn w u q M S) (h0 : S.tr = []) (sv : Value) (tr : List Ev) (hsv : TV u sv tr) (hlen : tr.length ≤ M ∧ ∀ e ∈ tr, e.text.length ≤ M) (hM : M ≤ 1099511627776) :
    ∃ ta tn tc, (∀ u', Tn No u u' → u'.cell? ⟨q, 3, none⟩ = some (.slice ta tn tc)) ∧ q < u.heap.size ∧ ∃ va vn vc wa, (Builtin.append_ #[47, 47] 47 #[.slice ta tn tc, sv]).run Try.prog u = .ok (.slice va vn vc) wa ∧
      wa.cell? ⟨q, 3, none⟩ = some (.slice ta tn tc) ∧ (∀ i, wa.frozen? ⟨q, i, none⟩ = false) ∧ q < wa.heap.size ∧ ROwn w (wa.setCell ⟨q, 3, none⟩ (.slice va vn vc)) q M { S with tr := tr } := by
  obtain ⟨L, ⟨fl, d, lv, tv, bv, hx⟩, tw, hlL⟩ := h
  have hrw0 := hx.tr.rw
  rw [h0] at hrw0
  obtain ⟨ta, tc, htv, _⟩ := hrw0.form
  have hc3 := hx.c3
  rw [htv] at hc3
  refine ⟨ta, _, tc, fun u' t' => (t'.cell hx.qlt (fun e => e)).trans hc3, hx.qlt, ?_⟩
  obtain ⟨i, hi, hz0, hz1, hz2⟩ := info_parts aev_info
  rw [htv] at hrw0
  obtain ⟨v', wa, hr, hrw, _, hnew, hgr, hown⟩ := rw_append 47 50 i _ 3 40 Try.underlying47 hi hz0 hz1 hz2 rfl hrw0 hsv.src (by unfold maxLen; simp; omega) (by simp; omega) (by omega)
  simp only [List.length_nil, Nat.zero_add, Nat.zero_mul] at hrw hnew
  obtain ⟨va, vc', hva, _⟩ := hrw.form
  subst hva
  have hob : ∀ g, (Value.slice ta ([] : List Ev).length tc).ownBlock = some g → L g = some .tr := fun g hg => hx.labt g (by rw [htv]; exact hg)
  have hk : ∀ k, L k ≠ none → L k ≠ some .tr → wa.heap[k]? = u.heap[k]? := fun k h1 h2 => hgr.block k (hx.lt k h1) (fun e => h2 (hob k e.symm))
  have hq := hk q (by rw [hx.labs]; simp) (by rw [hx.labs]; simp)
  have cq : ∀ i, wa.cell? ⟨q, i, none⟩ = u.cell? ⟨q, i, none⟩ := fun i => World.cell?_of_block (w := u) (a := ⟨q, i, none⟩) hq
  have fq : ∀ i, wa.frozen? ⟨q, i, none⟩ = false := fun i => by
    have := hx.fz i
    simp only [World.frozen?, hq] at this ⊢
    exact this
  have c3' : wa.cell? ⟨q, 3, none⟩ = some (.slice ta ([] : List Ev).length tc) := (cq 3).trans hc3
  have hql : q < wa.heap.size := Nat.lt_of_lt_of_le hx.qlt hgr.size
  have hg2 : ∀ g, (Value.slice va tr.length vc').ownBlock = some g → L g = some .tr ∨ g = u.heap.size := fun g hg => by
    rcases hown with e | e
    · left; exact hob g (by rw [← e]; exact hg)
    · right; rw [e] at hg; exact (Option.some.inj hg).symm
  have hks : ∀ k, k ≠ q → (wa.setCell ⟨q, 3, none⟩ (.slice va tr.length vc')).heap[k]? = wa.heap[k]? := fun k hk => Below.heap_setCell _ _ _ _ hk
  have hne : ∀ g, (Value.slice va tr.length vc').ownBlock = some g → g ≠ q := fun g hg e => by
    subst e
    rcases hg2 _ hg with e | e
    · rw [hx.labs] at e; cases e
    · have := hx.qlt; omega
  have htv' : TV wa (.slice va tr.length vc') tr := ⟨hrw, fun j e he => by
    obtain ⟨a, b, c⟩ := ec_at tr j e he
    have hj := (List.getElem?_eq_some_iff.1 he).1
    have hl := ec_length tr
    exact ⟨by rw [Nat.mul_comm 3 j, hnew _ (by omega), a], by rw [Nat.mul_comm 3 j, hnew _ (by omega), b], by rw [Nat.mul_comm 3 j, hnew _ (by omega), c]⟩⟩
  -- the trace's block gets its name, if it is new
  obtain ⟨L', up, hlab, hlt, hw⟩ : ∃ L' : Nat → Option Lab, (∀ k x, L k = some x → L' k = some x) ∧ (∀ g, (Value.slice va tr.length vc').ownBlock = some g → L' g = some .tr) ∧ (∀ k, L' k ≠ none → k < wa.heap.size) ∧ ∀ k, L' k ≠ none → w.heap.size ≤ k := by
    cases e : (Value.slice va tr.length vc').ownBlock with
    | none => exact ⟨L, fun _ _ h => h, fun g hg => (by cases hg), fun k hk => Nat.lt_of_lt_of_le (hx.lt k hk) hgr.size, hlL⟩
    | some g =>
      refine ⟨upd L g (some .tr), fun k x hk => ?_, fun g' hg => (by cases hg; exact upd_same _ _ _), fun k hk => ?_, fun k hk => ?_⟩
      · by_cases ek : k = g
        · subst ek
          rw [upd_same]
          rcases hg2 _ e with e' | e'
          · rw [e'] at hk; exact hk
          · have := hx.lt k (by rw [hk]; simp); omega
        · rw [upd_other _ _ ek]; exact hk
      · by_cases ek : k = g
        · subst ek; exact hrw.lt _ e
        · rw [upd_other _ _ ek] at hk; exact Nat.lt_of_lt_of_le (hx.lt k hk) hgr.size
      · by_cases ek : k = g
        · subst ek
          rcases hg2 _ e with e' | e'
          · exact hlL k (by rw [e']; simp)
          · have := tw.size; omega
        · rw [upd_other _ _ ek] at hk; exact hlL k hk
  refine ⟨va, _, vc', wa, hr, c3', fq, hql, L', ⟨fl, d, lv, .slice va tr.length vc', bv, ?_⟩, ?_, hw⟩
  · exact hx.withT (Nat.le_refl _) (by simpa using hgr.size) (fun k h1 h2 h3 => (hks k h3).trans (hk k h1 h2)) (fun i hi => by rw [World.cell?_setCell_other _ _ _ _ (by intro e; cases e; exact hi rfl)]; exact cq i) (World.cell?_setCell_same _ _ _ c3') (fun i => by rw [World.frozen?_setCell]; exact fq i) up (fun k hk' => by simpa using hlt k hk') (htv'.kept (fun g hgg => hks g (hne g hgg))) hlab hlen
  · exact (tw.grown hgr (fun i e hl => by have := hlL i (by rw [hob i e]; simp); omega)).set _ _ (fun h => by simp only at h; have := hlL q (by rw [hx.labs]; simp); omega)
end Go.Proofs.Ytkbdgdcicflocaa
