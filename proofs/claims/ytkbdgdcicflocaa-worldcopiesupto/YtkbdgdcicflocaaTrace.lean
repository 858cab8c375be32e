/-
  Trace.
-/
import Derived.Test.YtkbdgdcicflocaaOpen
import Derived.Deep.LoopGhost
namespace Go.Proofs.Ytkbdgdcicflocaa
set_option linter.unusedSimpArgs false
set_option linter.unusedVariables false
open Go.RowKit
attribute [local go_sem ↓] Go.wp_at_zero Go.wp_at_succ

/-- a list of events that was told -/
structure TV (w : World) (v : Value) (tr : List Ev) : Prop where
  rw : RW w 3 v tr.length
  ev : ∀ i e, tr[i]? = some e → vc w v (3 * i) = some (.int .i64 e.kind) ∧ vc w v (3 * i + 1) = some (.string e.name) ∧ vc w v (3 * i + 2) = some (.string (str e.text))
theorem TV.kept {w w' : World} {v : Value} {tr : List Ev} (h : TV w v tr) (hk : ∀ g, v.ownBlock = some g → w'.heap[g]? = w.heap[g]?) : TV w' v tr :=
  ⟨h.rw.kept hk, fun i e he => by
    obtain ⟨a, b, c⟩ := h.ev i e he
    exact ⟨(vc_kept hk _).trans a, (vc_kept hk _).trans b, (vc_kept hk _).trans c⟩⟩
theorem TV.no {w w' : World} {v : Value} {tr : List Ev} (h : TV w v tr) (t : Tn No w w') : TV w' v tr := h.kept (fun g hg => t.block g (h.rw.lt g hg) (fun e => e))

theorem wpList_str (w : World) {ops : Array Oper} {rest : List Oper} {o : Oper} {a : Act} {Q : Exit → Act → World → Prop} (hg : o.guard = none) (x : Operand) (hop : o.op = Op.convert 64 9 x) (v : Value) (l : List UInt8) (hx : a.eval x = v) (h : BR w v l)
    (hK : wpList Try.prog ops Q rest (a.put o.dst (.string (str l))) w) : wpList Try.prog ops Q (o :: rest) a w := by
  refine wpList_plain hg fun K' hK' => ?_
  have hr := br_string h
  unfold Oper.wp
  simp [execOp, hop, hx, hr, Result.andThen]
  exact hK' _ _ hK

theorem aev_info : (Try.prog.info? 50).map (fun i => (i.zero, i.size, i.bytes)) = some (some (.agg #[.int .i64 0, .string ⟨#[]⟩, .string ⟨#[]⟩]), 3, 40) := by kernel_rfl

/-- an event goes on the list that is told -/
theorem tv_append {w : World} {v : Value} {tr : List Ev} (h : TV w v tr) (e : Ev) (b : Nat) (hb : ∀ j u, ([.int .i64 e.kind, .string e.name, .string (str e.text)] : List Value)[j]? = some u → w.cell? ⟨b, j, none⟩ = some u) (hN : tr.length + 1 ≤ 2199023255552) :
    ∃ v' w', (Builtin.append_ #[47, 47] 47 #[v, .slice (some ⟨b, 0, none⟩) 1 1]).run Try.prog w = .ok v' w' ∧ TV w' v' (tr ++ [e]) ∧ w.grownBy w' v.ownBlock ∧ (v'.ownBlock = v.ownBlock ∨ v'.ownBlock = some w.heap.size) := by
  obtain ⟨i, hi, hz0, hz1, hz2⟩ := info_parts aev_info
  have hsrc : Src Try.prog 3 47 (.slice (some ⟨b, 0, none⟩) 1 1) 1 [.int .i64 e.kind, .string e.name, .string (str e.text)] w :=
    Src.ofSlice _ Try.underlying47 _ 1 1 _ rfl (fun j u hu => by rw [addr_add]; exact hb j u hu) (fun u hu => by simp at hu; rcases hu with rfl | rfl | rfl <;> rfl)
  obtain ⟨v', w', hr, hrw, hold, hnew, hgr, hown⟩ := rw_append 47 50 i _ 3 40 Try.underlying47 hi hz0 hz1 hz2 rfl h.rw hsrc (by unfold maxLen; omega) (by omega) (by omega)
  refine ⟨v', w', hr, ⟨by rw [List.length_append]; exact hrw, fun j e' he' => ?_⟩, hgr, hown⟩
  by_cases hj : j < tr.length
  · rw [List.getElem?_append_left hj] at he'
    obtain ⟨x, y, z⟩ := h.ev j e' he'
    exact ⟨by rw [hold _ (by omega)]; exact x, by rw [hold _ (by omega)]; exact y, by rw [hold _ (by omega)]; exact z⟩
  · have hj2 : j = tr.length := by
      have := (List.getElem?_eq_some_iff.1 he').1
      simp at this
      omega
    subst hj2
    have : e' = e := by simpa using he'.symm
    subst this
    refine ⟨?_, ?_, ?_⟩
    · rw [show 3 * tr.length = tr.length * 3 + 0 by omega, hnew 0 (by simp)]; rfl
    · rw [show 3 * tr.length + 1 = tr.length * 3 + 1 by omega, hnew 1 (by simp)]; rfl
    · rw [show 3 * tr.length + 2 = tr.length * 3 + 2 by omega, hnew 2 (by simp)]; rfl

def TracePost (w : World) (tr : List Ev) (e : Ending) (w' : World) : Prop :=
  ∃ v, e = .returned v ∧ TV w' v tr ∧ (∀ g, v.ownBlock = some g → w.heap.size ≤ g) ∧ Tn No w w'

set_option maxHeartbeats 2000000 in
set_option maxRecDepth 100000 in
theorem trace_raw (p : Nat) (L : Nat → Option Lab) (N : Nat) (S : St) (w : World) (h : PW w p L N S) (hN : N ≤ 1099511627776) :
    Calls Try.prog 19 #[.pointer (some ⟨p, 0, none⟩)] w (TracePost w S.tr) := by
  obtain ⟨c, mo, iv, tv, vs, hx⟩ := h
  have k60 := hx.sc.cell 60 (by omega)
  rw [hx.c60] at k60
  have plt := hx.sc.lt
  obtain ⟨a, cap, htv, hlc, hcm, hnil, hsome⟩ := hx.ew.rw.form
  have hlen := hx.ew.len
  rw [htv] at k60
  have HX := hid hx
  have HTV := hid htv
  obtain ⟨n, hn⟩ : ∃ n, S.tr.length = n := ⟨_, rfl⟩
  rw [hn] at k60 hlc hnil hlen
  have HN := hid hn
  have hn63 : n ≤ 1099511627776 := by omega
  have HSOME := hid hsome
  have HNIL := hid hnil
  clear hx htv hn hN hlen hcm hsome hnil
  go_enter Try.func19, Try.ntmps19
  go_wp2
  go_loopw [3, 13] (fun v i wr => ∃ k : Nat, k ≤ n ∧ i = .int .i64 k ∧ TV wr v (S.tr.take k) ∧ (∀ g, v.ownBlock = some g → w.heap.size ≤ g) ∧ Tn No w wr) (fun _ i _ => n - (intOf i).toNat)
  case atStart => exact ⟨0, by omega, rfl, ⟨by simpa using RW.nil w 3, fun i e he => by simp at he⟩, fun g hg => (by cases hg), (by repeat (first | exact Tn.refl _ _ | apply Tn.drew | apply Tn.drewN | apply Tn.alloc | (refine Tn.then ?_ (by assumption)) | (refine Tn.thenNo ?_ (by assumption))))⟩
  case round =>
    obtain ⟨k, hk, rfl, htv, hob, ht⟩ := hrel
    by_cases hlt : k < n
    · cases a with
      | none => have := (HNIL.out rfl).1; omega
      | some x =>
      obtain ⟨hxe, hxl⟩ := HSOME.out x rfl
      obtain ⟨g, o, sp⟩ := x
      cases hxe
      obtain ⟨e, he⟩ : ∃ e, S.tr[k]? = some e := ⟨_, List.getElem?_eq_getElem (by have := HN.out; omega)⟩
      obtain ⟨e0, e1, e2, ebr, _⟩ := HX.out.ew.ev k e he
      rw [HTV.out, Nat.mul_comm 3 k] at e0 e1 e2
      obtain ⟨av, cv, hvs, _⟩ := ebr.rw.form
      rw [hvs] at e2 ebr
      obtain ⟨nv, hnv⟩ : ∃ nv, e.text.length = nv := ⟨_, rfl⟩
      rw [hnv] at e2 ebr
      clear hvs hnv
      have q0 : wr.cell? ⟨g, k * 3, none⟩ = some (.int .i64 e.kind) := (ht.cell hxl (fun e => e)).trans e0
      have q1 : wr.cell? ⟨g, k * 3 + 1, none⟩ = some (.string e.name) := (ht.cell hxl (fun e => e)).trans e1
      have q2 : wr.cell? ⟨g, k * 3 + 2, none⟩ = some ((.slice av nv cv)) := (ht.cell hxl (fun e => e)).trans e2
      have hcv : (convert 64 9 ((.slice av nv cv))).run Try.prog (wr.alloc (.cells #[.int .i64 e.kind, .string e.name, (.slice av nv cv)] 87)) = .ok (.string (str e.text)) (wr.alloc (.cells #[.int .i64 e.kind, .string e.name, (.slice av nv cv)] 87)) := br_string (ebr.no (Tn.alloc ht _))
      have htk : S.tr.take (k + 1) = S.tr.take k ++ [e] := by rw [List.take_add_one, he]; rfl
      have hlk : (S.tr.take k).length = k := by have := HN.out; simp; omega
      have t1 : Tn No wr ((wr.alloc (.cells #[.int .i64 e.kind, .string e.name, (.slice av nv cv)] 87)).alloc (.cells #[.int .i64 e.kind, .string e.name, .string (str e.text)] 50)) := Tn.alloc (Tn.alloc (Tn.refl _ _) _) _
      obtain ⟨v', w', hr, htv', hgr', hown'⟩ := tv_append (htv.no t1) e (wr.heap.size + 1) (fun j u hu => by rw [World.cell?_alloc_at _ _ _ _ (by simp)]; simpa using hu) (by omega)
      have hob' : ∀ g, v'.ownBlock = some g → w.heap.size ≤ g := fun g hg => by
        rcases hown' with e | e
        · exact hob g (by rw [← e]; exact hg)
        · rw [e] at hg; cases hg; have := ht.size; have := t1.size; omega
      have ht' : Tn No w w' := (ht.then t1).grown hgr' (fun i hi hlt => by have := hob i hi; omega)
      rw [← htk] at htv'
      have HR := hid hr
      have HREL := hid (And.intro htv' (And.intro hob' ht'))
      have hgl : g < wr.heap.size := Nat.lt_of_lt_of_le hxl ht.size
      have hki : (k : Int) < (n : Int) := by omega
      clear HSOME HNIL e0 e1 e2 ebr htv he htk hlk hob hr htv' hgr' hown' hob' ht' t1
      go_wp2_with (at_builtin; refine wpList_app _ rfl _ _ _ _ rfl _ _ rfl rfl v' w' HR.out ?_)
      go_roundw
      case rel => exact ⟨k + 1, by omega, by go_num, HREL.out⟩
      case measure => simp [intOf]; omega
    · obtain rfl : k = n := by omega
      go_wp2
      go_ret
      have e : S.tr.take k = S.tr := List.take_of_length_le (by have := HN.out; omega)
      rw [e] at htv
      exact ⟨_, rfl, htv, hob, ht⟩
end Go.Proofs.Ytkbdgdcicflocaa
