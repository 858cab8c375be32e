/-
  lay: the walk.
-/
import Derived.Test.YtkbdgdcicflocaaLay
import Derived.Test.YtkbdgdcicflocaaOpen
import Derived.Deep.DeepMust
namespace Go.Proofs.Ytkbdgdcicflocaa
set_option linter.unusedSimpArgs false
set_option linter.unusedVariables false
open Go.RowKit
attribute [local go_sem ↓] Go.wp_at_zero Go.wp_at_succ

def layB (l : List UInt8) (pl : Nat) (t : List UInt8) : List UInt8 :=
  if t = [] then l else (l ++ List.replicate (pl - l.length) 0).take pl ++ t ++ (l ++ List.replicate (pl - l.length) 0).drop (pl + t.length)

theorem copy_run {w : World} {a : Option Addr} {cap : Nat} {l : List UInt8} (ty : TypeId) (h : BR w (.slice a l.length cap) l) (pl r : Nat) (hr : l.length = pl + r) (ad : Option Addr) (q : Nat) (had : 0 < r → ∃ g, a = some ⟨g, 0, none⟩ ∧ ad = some ⟨g, pl, none⟩) (s : ByteArray) :
    ∃ w', (Builtin.copy_ #[64, 9] ty #[.slice ad r q, .string s]).run Try.prog w = .ok (.int .i64 ((min s.size r : Nat) : Int)) w' ∧
      BR w' (.slice a l.length cap) (l.take pl ++ s.data.toList.take (min s.size r) ++ l.drop (pl + min s.size r)) ∧ w.grownBy w' (Value.ownBlock (.slice a l.length cap)) := by
  have hsl : s.data.toList.length = s.size := by simp
  have hlen : (l.take pl ++ s.data.toList.take (min s.size r) ++ l.drop (pl + min s.size r)).length = l.length := by simp; omega
  have hcells : ∀ n, n ≤ s.size → (Builtin.firstCells 1 n (.string s)).run Try.prog w = .ok (bc (s.data.toList.take n)).toArray w := fun n hn => by
    simp [Builtin.firstCells, bc]
    apply Array.ext'
    simp
  have hsz : (sizeOf 5).run Try.prog w = .ok 1 w := by kernel_rfl
  by_cases h0 : r = 0
  · subst h0
    refine ⟨w, ?_, ?_, ⟨rfl, rfl, rfl, Nat.le_refl _, fun _ _ _ => rfl⟩⟩
    · have hc := hcells 0 (by omega)
      have e : (bc (s.data.toList.take 0)).toArray = #[] := by simp [bc]
      rw [e] at hc
      have e2 : min s.size 0 = 0 := Nat.min_zero _
      cases ad <;> simp [Builtin.copy_, run_underlying Try.underlying64, hsz, Builtin.lenOf, hc, goInt, storeCells]
    · simpa using h
  · obtain ⟨g, rfl, rfl⟩ := had (by omega)
    have hbr := br_over h pl (s.data.toList.take (min s.size r)) l.length (by simp; omega) (by omega) (by
      obtain ⟨_, _, e, h1, _⟩ := h.rw.form
      cases e
      have := List.length_take_le (min s.size r) s.data.toList
      omega)
    have hl2 : (s.data.toList.take (min s.size r)).length = min s.size r := by rw [List.length_take, hsl]; omega
    rw [hl2] at hbr
    refine ⟨_, ?_, hbr, setCells_grown g _ _ w⟩
    obtain ⟨hrw, _⟩ := h
    rcases hrw with ⟨e, _⟩ | ⟨g2, cap2, e, hg, h1, h2, h3⟩
    · cases e
    · simp only [Value.slice.injEq, Option.some.injEq, Addr.mk.injEq, and_true, true_and] at e
      obtain ⟨rfl, rfl⟩ := e
      have hst := run_storeCells_cells (P := Try.prog) g pl (bc (s.data.toList.take (min s.size r))) 0 w (fun j hj => by rw [bc_length, hl2] at hj; exact (h3 _ (by omega)).1) (fun j hj => by rw [bc_length, hl2] at hj; exact (h3 _ (by omega)).2) (bc_one _)
      have hst' : (storeCells ⟨g, pl, none⟩ (bc (s.data.toList.take (min s.size r))) 0).run Try.prog w = .ok () (w.setCells g pl (bc (s.data.toList.take (min s.size r)))) := hst
      have hc := hcells (min s.size r) (by omega)
      have e3 : Nat.min s.size r = min s.size r := rfl
      simp [Builtin.copy_, run_underlying Try.underlying64, hsz, Builtin.lenOf, e3, hc, goInt, hst']

theorem extract_all (s : ByteArray) : s.extract 0 s.size = s := by
  apply ByteArray.ext
  apply Array.toList_inj.1
  rw [Lib.extract_data, List.drop_zero, List.take_of_length_le (by simp)]

theorem lay_math (l1 t : List UInt8) (pl r : Nat) (hr : l1.length = pl + r) : l1.take pl ++ t.take (min t.length r) ++ l1.drop (pl + min t.length r) ++ t.drop (min t.length r) = l1.take pl ++ t ++ l1.drop (pl + t.length) := by
  by_cases hm : t.length ≤ r
  · have e1 : t.take t.length = t := List.take_length
    have e2 : t.drop t.length = [] := List.drop_length
    rw [Nat.min_eq_left hm, e1, e2, List.append_nil]
  · have e1 : l1.drop (pl + t.length) = [] := List.drop_of_length_le (by omega)
    have e2 : l1.drop (pl + r) = [] := List.drop_of_length_le (by omega)
    rw [Nat.min_eq_right (by omega), e1, e2, List.append_nil, List.append_nil, List.append_assoc, List.take_append_drop]

def LayPost (w : World) (v : Value) (l : List UInt8) (pl : Nat) (s : ByteArray) (e : Ending) (w' : World) : Prop :=
  ∃ v', e = .returned v' ∧ BR w' v' (layB l pl s.data.toList) ∧ Tn (fun k => v.ownBlock = some k) w w' ∧ (∀ g, v'.ownBlock = some g → v.ownBlock = some g ∨ w.heap.size ≤ g) ∧ Still w' v l.length

/-- what stands behind the gap: the bytes are copied over, and appended -/
theorem lay_tail {w w1 : World} {v : Value} {l l1 : List UInt8} {a : Option Addr} {cap pl r n1 : Nat} {s : ByteArray} (hn1 : l1.length = n1) (h1 : BR w1 (.slice a n1 cap) l1) (ht : Tn (fun k => v.ownBlock = some k) w w1) (ho : ∀ g, Value.ownBlock (.slice a n1 cap) = some g → v.ownBlock = some g ∨ w.heap.size ≤ g) (he : l1 = l ++ List.replicate (pl - l.length) 0) (hr : l1.length = pl + r) (hs : ¬ s.size = 0) (hb : l1.length + s.size ≤ 70368744177664) (ad : Option Addr) (q : Nat) (had : 0 < r → ∃ g, a = some ⟨g, 0, none⟩ ∧ ad = some ⟨g, pl, none⟩) (hst : Still w1 v l.length) (hrel : Rel v (.slice a n1 cap) l.length) :
    ∃ w2, (Builtin.copy_ #[64, 9] 3 #[.slice ad r q, .string s]).run Try.prog w1 = .ok (.int .i64 ((min s.size r : Nat) : Int)) w2 ∧
    ∃ a3 n3 cap3 w3, (Builtin.append_ #[64, 9] 64 #[.slice a n1 cap, .string (s.extract (min s.size r) s.size)]).run Try.prog w2 = .ok (.slice a3 n3 cap3) w3 ∧ LayPost w v l pl s (.returned (.slice a3 n3 cap3)) w3 := by
  subst hn1
  obtain ⟨w2, hc, hbr2, hg2⟩ := copy_run 3 h1 pl r hr ad q had s
  have hsl : s.data.toList.length = s.size := by simp
  have hxd : (s.extract (min s.size r) s.size).data.toList = s.data.toList.drop (min s.size r) := by
    rw [Lib.extract_data, List.take_of_length_le (by simp)]
  have hxs : (s.extract (min s.size r) s.size).size = s.size - min s.size r := by simp
  have hl2 : (l1.take pl ++ s.data.toList.take (min s.size r) ++ l1.drop (pl + min s.size r)).length = l1.length := by simp; omega
  have hsrc : Src Try.prog 1 9 (.string (s.extract (min s.size r) s.size)) (s.data.toList.drop (min s.size r)).length (bc (s.data.toList.drop (min s.size r))) w2 := by
    have := Src.ofString (P := Try.prog) w2 Try.underlying9 (s.extract (min s.size r) s.size)
    rw [bc_string, hxd, hxs] at this
    rw [List.length_drop, hsl]
    exact this
  have hst2 := hst.step hg2 hrel hbr2
  rw [← hl2] at hbr2
  obtain ⟨v3, w3, hr3, hbr3, hg3, hgo3⟩ := br_append2 64 hbr2 hsrc (by rw [hl2, List.length_drop, hsl]; omega)
  have ho3 := hgo3.own
  obtain ⟨a3, cap3, rfl, _⟩ := hbr3.rw.form
  rw [hl2] at hr3 hg3 ho3 hgo3
  refine ⟨w2, hc, a3, _, cap3, w3, hr3, _, rfl, ?_, ?_, ?_, (hst2.goes hg3 hrel hgo3 hbr3).1⟩
  · have e : layB l pl s.data.toList = l1.take pl ++ s.data.toList.take (min s.size r) ++ l1.drop (pl + min s.size r) ++ s.data.toList.drop (min s.size r) := by
      have hne : ¬ s.data.toList = [] := fun e => hs (by rw [← hsl, e]; rfl)
      unfold layB
      rw [if_neg hne, ← he]
      have := lay_math l1 s.data.toList pl r hr
      rw [hsl] at this ⊢
      exact this.symm
    rw [e]
    exact hbr3
  · have hsub : ∀ i, Value.ownBlock (.slice a l1.length cap) = some i → i < w.heap.size → v.ownBlock = some i := fun i hi hlt => by
      rcases ho i hi with h | h
      · exact h
      · omega
    exact (ht.grown hg2 hsub).grown hg3 hsub
  · intro g hg
    have hs1 := ht.size
    have hs2 := hg2.size
    rcases ho3 with e | e
    · exact ho g (by rw [← e]; exact hg)
    · rw [e] at hg; cases hg; right; omega

theorem wpList_zeros (w : World) {ops : Array Oper} {rest : List Oper} {o : Oper} {a : Act} {Q : Exit → Act → World → Prop} (hg : o.guard = none) (s x : Operand) (ho : o.op = .call { callee := .builtin .append, args := #[s, x], argTypes := #[64, 3] }) (hty : o.type = 64)
    (v : Value) (n : Nat) (l : List UInt8) (hs : a.eval s = v) (hx : a.eval x = .int .i64 (n : Int)) (h : BR w v l) (h0 : 0 < n) (hb : l.length + n ≤ 70368744177664)
    (hK : ∀ a1 cap1 w', BR w' (.slice a1 (l.length + n) cap1) (l ++ List.replicate n 0) → w.grownBy w' v.ownBlock → (∀ g, Value.ownBlock (.slice a1 (l.length + n) cap1) = some g → v.ownBlock = some g ∨ w.heap.size ≤ g) → Goes w w' v (.slice a1 (l.length + n) cap1) → wpList Try.prog ops Q rest (a.put o.dst (.slice a1 (l.length + n) cap1)) w') : wpList Try.prog ops Q (o :: rest) a w := by
  refine wpList_plain hg fun K' hK' => ?_
  obtain ⟨v', w', hr, hbr, hgr, hgo⟩ := br_zeros2 h n h0 hb
  have hown := hgo.own
  obtain ⟨a1, cap1, hv, _⟩ := hbr.rw.form
  rw [List.length_append, List.length_replicate] at hv
  subst hv
  have hk := hK a1 cap1 w' hbr hgr (fun g hg => by
    rcases hown with e | e
    · left; rw [← e]; exact hg
    · right; rw [e] at hg; cases hg; exact Nat.le_refl _) hgo
  unfold Oper.wp
  simp [execOp, ho, hty, resolve, invoke, builtin, hs, hx, hr, Result.andThen]
  exact hK' _ _ hk

theorem wpList_run (w : World) {ops : Array Oper} {rest : List Oper} {o : Oper} {a : Act} {Q : Exit → Act → World → Prop} (hg : o.guard = none) (s x : Operand) (ho : o.op = .call { callee := .builtin .copy, args := #[s, x], argTypes := #[64, 9] })
    (v xv : Value) (hs : a.eval s = v) (hx : a.eval x = xv) (v' : Value) (w' : World) (hrun : (Builtin.copy_ #[64, 9] o.type #[v, xv]).run Try.prog w = .ok v' w')
    (hK : wpList Try.prog ops Q rest (a.put o.dst v') w') : wpList Try.prog ops Q (o :: rest) a w := by
  refine wpList_plain hg fun K' hK' => ?_
  unfold Oper.wp
  simp [execOp, ho, resolve, invoke, builtin, hs, hx, hrun, Result.andThen]
  exact hK' _ _ hK

set_option maxHeartbeats 1000000 in
set_option maxRecDepth 100000 in
theorem lay_nil (v : Value) (l : List UInt8) (pl : Nat) (s : ByteArray) (w : World) (h : BR w v l) (hs : s.size = 0) :
    Calls Try.prog 52 #[v, .int .i64 (pl : Int), .string s] w (LayPost w v l pl s) := by
  have he : s.toList.isEmpty = true := by rw [toList_isEmpty]; simpa using hs
  have hd : s.data.toList = [] := by rw [← ByteArray.toList_eq]; exact (toList_nil s).2 hs
  have hend : LayPost w v l pl s (.returned v) w := ⟨v, rfl, by unfold layB; rw [if_pos hd]; exact h, Tn.refl _ _, fun g hg => .inl hg, ⟨l, rfl, h⟩⟩
  have HE := hid hend
  clear h hs hd hend
  go_enter Try.func52, Try.ntmps52
  go_wp2
  go_ret
  exact HE.out

set_option maxHeartbeats 2000000 in
set_option maxRecDepth 100000 in
theorem lay_over (v : Value) (l : List UInt8) (pl : Nat) (s : ByteArray) (w : World) (h : BR w v l) (hs : ¬ s.size = 0) (hpl : pl ≤ l.length) (hb : l.length + s.size ≤ 70368744177664) :
    Calls Try.prog 52 #[v, .int .i64 (pl : Int), .string s] w (LayPost w v l pl s) := by
  have he : s.toList.isEmpty = false := by rw [toList_isEmpty]; simpa using hs
  obtain ⟨a, cap, rfl, hlc, hcm, hnil, hsome⟩ := h.rw.form
  obtain ⟨r, hr⟩ : ∃ r, l.length = pl + r := ⟨l.length - pl, by omega⟩
  obtain ⟨q, rfl⟩ : ∃ q, cap = pl + q := ⟨cap - pl, by omega⟩
  have hrep : l = l ++ List.replicate (pl - l.length) 0 := by rw [show pl - l.length = 0 by omega]; simp
  cases a with
  | none =>
    obtain ⟨h0, h1⟩ := hnil rfl
    have hp0 : pl = 0 := by omega
    have hr0 : r = 0 := by omega
    have hq0 : q = 0 := by omega
    subst hp0 hr0 hq0
    obtain ⟨w2, hc, a3, n3, cap3, w3, hap, hend⟩ := lay_tail (n1 := 0) h0 (by rw [h0] at h; exact h) (Tn.refl _ w) (fun g hg => .inl hg) hrep hr hs (by omega) none 0 (fun h => by omega) ⟨l, rfl, by rw [h0] at h; exact h⟩ (.inl ⟨none, 0, _, by rw [h0], rfl, by omega⟩)
    have e0 : min s.size 0 = 0 := Nat.min_zero _
    rw [e0] at hc hap
    rw [extract_all] at hap
    have HC := hid hc
    have HAP := hid hap
    have HE := hid hend
    rw [h0]
    simp only [Nat.add_zero] at HC HAP HE ⊢
    have hs0 : (0 : Int) ≤ (s.size : Int) := by omega
    clear hc hap hend h hs hrep hnil hsome hlc hr h0 h1 e0 hpl
    go_enter Try.func52, Try.ntmps52
    go_wp2_with (first
      | (at_builtin; refine wpList_app _ rfl _ _ _ _ rfl _ _ rfl rfl _ w3 HAP.out ?_)
      | (refine wpList_run _ rfl (.tmp 23) (.tmp 24) rfl _ _ rfl rfl _ w2 HC.out ?_))
    go_ret
    exact HE.out
  | some x =>
    obtain ⟨hx, hxl⟩ := hsome x rfl
    obtain ⟨g, o, sp⟩ := x
    cases hx
    obtain ⟨w2, hc, a3, n3, cap3, w3, hap, hend⟩ := lay_tail (n1 := pl + r) hr (by rw [← hr]; exact h) (Tn.refl _ w) (fun g hg => .inl hg) hrep hr hs (by omega) (if q = 0 then some ⟨g, 0, none⟩ else some ⟨g, pl, none⟩) q (fun h => ⟨g, rfl, by rw [if_neg (by omega)]⟩) ⟨l, rfl, by rw [← hr]; exact h⟩ (.inl ⟨_, _, _, by rw [hr], rfl, by omega⟩)
    have HC := hid hc
    have HAP := hid hap
    have HE := hid hend
    rw [hr]
    rw [hr] at hlc
    obtain ⟨m, hm⟩ : ∃ m, min s.size r = m := ⟨_, rfl⟩
    have hms : m ≤ s.size := by omega
    rw [hm] at HC HAP
    have hm1 : (0 : Int) ≤ (m : Int) := by omega
    have hm2 : (m : Int) ≤ (s.size : Int) := by omega
    have hb1 : (0 : Int) ≤ (pl : Int) := by omega
    have hb2 : (pl : Int) ≤ (pl : Int) + (r : Int) := by omega
    have hb4 : (pl : Int) ≤ (pl : Int) + (q : Int) := by omega
    have hb5 : ((pl : Int) - ((pl : Int) + (r : Int)) ≤ 0) := by omega
    clear hc hap hend h hs hrep hnil hsome hr hm hpl
    by_cases hq : q = 0
    · rw [if_pos hq] at HC
      subst hq
      obtain rfl : r = 0 := by omega
      simp only [Nat.add_zero] at HC HAP HE ⊢
      go_enter Try.func52, Try.ntmps52
      go_wp2_with (first
        | (at_builtin; refine wpList_app _ rfl _ _ _ _ rfl _ _ rfl rfl _ w3 HAP.out ?_)
        | (refine wpList_run _ rfl (.tmp 23) (.tmp 24) rfl _ _ rfl rfl _ w2 HC.out ?_))
      go_ret
      exact HE.out
    · rw [if_neg hq] at HC
      go_enter Try.func52, Try.ntmps52
      go_wp2_with (first
        | (at_builtin; refine wpList_app _ rfl _ _ _ _ rfl _ _ rfl rfl _ w3 HAP.out ?_)
        | (refine wpList_run _ rfl (.tmp 23) (.tmp 24) rfl _ _ rfl rfl _ w2 HC.out ?_))
      go_ret
      exact HE.out
end Go.Proofs.Ytkbdgdcicflocaa
namespace Go.Proofs.Ytkbdgdcicflocaa
set_option linter.unusedSimpArgs false
set_option linter.unusedVariables false
open Go.RowKit
attribute [local go_sem ↓] Go.wp_at_zero Go.wp_at_succ

theorem copy_none (w : World) (ad : Option Addr) (q : Nat) (s : ByteArray) (ty : TypeId) : (Builtin.copy_ #[64, 9] ty #[.slice ad 0 q, .string s]).run Try.prog w = .ok (.int .i64 0) w := by
  have hsz : (sizeOf 5).run Try.prog w = .ok 1 w := by kernel_rfl
  have hc : (Builtin.firstCells 1 0 (.string s)).run Try.prog w = .ok #[] w := by
    simp [Builtin.firstCells]
  cases ad <;> simp [Builtin.copy_, run_underlying Try.underlying64, hsz, Builtin.lenOf, hc, goInt, storeCells]

theorem lay_tail0 {w w1 : World} {v : Value} {l l1 : List UInt8} {a : Option Addr} {cap pl n1 : Nat} {s : ByteArray} (hn1 : l1.length = n1) (h1 : BR w1 (.slice a n1 cap) l1) (ht : Tn (fun k => v.ownBlock = some k) w w1) (ho : ∀ g, Value.ownBlock (.slice a n1 cap) = some g → v.ownBlock = some g ∨ w.heap.size ≤ g) (he : l1 = l ++ List.replicate (pl - l.length) 0) (hr : l1.length = pl) (hs : ¬ s.size = 0) (hb : l1.length + s.size ≤ 70368744177664) (hst : Still w1 v l.length) (hrel : Rel v (.slice a n1 cap) l.length) :
    ∃ a3 n3 cap3 w3, (Builtin.append_ #[64, 9] 64 #[.slice a n1 cap, .string s]).run Try.prog w1 = .ok (.slice a3 n3 cap3) w3 ∧ LayPost w v l pl s (.returned (.slice a3 n3 cap3)) w3 := by
  obtain ⟨w2, hc, a3, n3, cap3, w3, hap, hend⟩ := lay_tail (r := 0) hn1 h1 ht ho he (by omega) hs hb none 0 (fun h => by omega) hst hrel
  rw [copy_none] at hc
  have e : w2 = w1 := by
    simp only [Result.ok.injEq] at hc
    exact hc.2.symm
  subst e
  rw [Nat.min_zero, extract_all] at hap
  exact ⟨a3, n3, cap3, w3, hap, hend⟩

set_option maxHeartbeats 2000000 in
set_option maxRecDepth 100000 in
theorem lay_gap (v : Value) (l : List UInt8) (n : Nat) (s : ByteArray) (w : World) (h : BR w v l) (hs : ¬ s.size = 0) (hn : 0 < n) (hb : l.length + n + s.size ≤ 70368744177664) :
    Calls Try.prog 52 #[v, .int .i64 ((l.length + n : Nat) : Int), .string s] w (LayPost w v l (l.length + n) s) := by
  have he : s.toList.isEmpty = false := by rw [toList_isEmpty]; simpa using hs
  have hself : Rel v v l.length := by
    obtain ⟨a, c, e, _⟩ := h.rw.form
    exact .inl ⟨a, _, c, e, e, Nat.le_refl _⟩
  have htail : ∀ a1 cap1 w1, BR w1 (.slice a1 (l.length + n) cap1) (l ++ List.replicate n 0) → w.grownBy w1 v.ownBlock → (∀ g, Value.ownBlock (.slice a1 (l.length + n) cap1) = some g → v.ownBlock = some g ∨ w.heap.size ≤ g) → Goes w w1 v (.slice a1 (l.length + n) cap1) →
      ∃ g q a3 n3 cap3 w3, a1 = some ⟨g, 0, none⟩ ∧ cap1 = l.length + n + q ∧ l.length + n + q ≤ 9223372036854775807 ∧ (Builtin.append_ #[64, 9] 64 #[.slice a1 (l.length + n) cap1, .string s]).run Try.prog w1 = .ok (.slice a3 n3 cap3) w3 ∧ LayPost w v l (l.length + n) s (.returned (.slice a3 n3 cap3)) w3 := fun a1 cap1 w1 hbr hg ho hgo => by
    obtain ⟨g, cap2, e, _, h1, h2, _⟩ := hbr.rw.pos (by simp; omega)
    simp only [Value.slice.injEq] at e
    obtain ⟨rfl, _, rfl⟩ := e
    obtain ⟨a3, n3, cap3, w3, hap, hend⟩ := lay_tail0 (w := w) (v := v) (l := l) (pl := l.length + n) (by simp) hbr (Tn.of_grown hg) ho (by simp) (by simp) hs (by simp; omega) (Still.goes ⟨l, rfl, h⟩ hg hself hgo hbr).1 (Still.goes ⟨l, rfl, h⟩ hg hself hgo hbr).2
    rw [List.length_append, List.length_replicate] at h1
    exact ⟨g, cap1 - (l.length + n), a3, n3, cap3, w3, rfl, by omega, by omega, hap, hend⟩
  have HT := hid htail
  have HC := hid copy_none
  have HBR := hid h
  obtain ⟨a, cap, rfl, hlc, hcm, hnil, hsome⟩ := h.rw.form
  obtain ⟨len, hlen⟩ : ∃ len, l.length = len := ⟨_, rfl⟩
  rw [hlen] at hlc hb hnil HBR HT ⊢
  have HL := hid hlen
  have ec : ((len + n : Nat) : Int) = (len : Int) + (n : Int) := by omega
  have hd1 : (len : Int) + (n : Int) - (len : Int) = (n : Int) := by omega
  have hd2 : (0 : Int) < (n : Int) := by omega
  have hd3 : (0 : Int) ≤ (len : Int) + (n : Int) := by omega
  rw [ec]
  clear h htail hself hs hnil hsome hlen ec hcm
  go_enter Try.func52, Try.ntmps52
  go_wp2_with (first
    | (at_builtin; refine wpList_zeros _ rfl (.tmp 18) (.tmp 19) rfl rfl _ n l rfl rfl (by exact HBR.out) hn (by rw [HL.out]; omega) ?_; rw [HL.out]; intro a1 cap1 w1 hbr1 hg1 ho1 hgo1; obtain ⟨g, q, a3, n3, cap3, w3, rfl, rfl, hq, hap, hend⟩ := HT.out a1 cap1 w1 hbr1 hg1 ho1 hgo1; have HAP := hid hap; have HE := hid hend; clear hap hend hbr1 hg1 ho1 hgo1)
    | (at_builtin; refine wpList_app _ rfl _ _ _ _ rfl _ _ rfl rfl _ w3 HAP.out ?_)
    | (refine wpList_run _ rfl (.tmp 23) (.tmp 24) rfl _ _ rfl rfl _ _ (HC.out _ _ _ _ _) ?_))
  all_goals (go_ret; exact HE.out)

theorem lay_raw (v : Value) (l : List UInt8) (pl : Nat) (s : ByteArray) (w : World) (h : BR w v l) (hb : l.length + pl + s.size ≤ 70368744177664) :
    Calls Try.prog 52 #[v, .int .i64 (pl : Int), .string s] w (LayPost w v l pl s) := by
  by_cases hs : s.size = 0
  · exact lay_nil v l pl s w h hs
  by_cases hp : pl ≤ l.length
  · exact lay_over v l pl s w h hs hp (by omega)
  · obtain ⟨n, rfl⟩ : ∃ n, pl = l.length + n := ⟨pl - l.length, by omega⟩
    exact lay_gap v l n s w h hs (by omega) (by omega)
theorem layB_length (l : List UInt8) (pl : Nat) (t : List UInt8) : (layB l pl t).length ≤ max l.length (pl + t.length) := by
  unfold layB
  split
  · omega
  · simp; omega
end Go.Proofs.Ytkbdgdcicflocaa
