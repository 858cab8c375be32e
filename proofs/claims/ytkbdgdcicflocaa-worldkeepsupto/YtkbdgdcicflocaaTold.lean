/-
  told; what a trace of the outputs tells.
-/
import Derived.Test.YtkbdgdcicflocaaFull
namespace Go.Proofs.Ytkbdgdcicflocaa
set_option linter.unusedSimpArgs false
set_option linter.unusedVariables false
open Go.RowKit
attribute [local go_sem ↓] Go.wp_at_zero Go.wp_at_succ

/-- the texts of all events of a kind -/
def tell (tr : List Ev) (k : Int) : List UInt8 := (tr.filter (fun e => e.kind == k)).flatMap (fun e => e.text)
theorem tell_nil (k : Int) : tell [] k = [] := rfl
theorem tell_snoc (tr : List Ev) (e : Ev) (k : Int) : tell (tr ++ [e]) k = tell tr k ++ (if e.kind = k then e.text else []) := by
  unfold tell
  rw [List.filter_append, List.flatMap_append]
  congr 1
  by_cases h : e.kind = k
  · simp [h]
  · simp [h]
theorem tell_le (tr : List Ev) (k : Int) (M : Nat) (h : (tr.map (fun e => e.text.length)).sum ≤ M) : (tell tr k).length ≤ M := by
  induction tr generalizing M with
  | nil => simp [tell]
  | cons e r ih =>
    simp only [List.map_cons, List.sum_cons] at h
    have := ih (M - e.text.length) (by omega)
    unfold tell at this ⊢
    by_cases hk : e.kind = k
    · simp only [List.filter_cons, hk, beq_self_eq_true, if_true, List.flatMap_cons, List.length_append]
      omega
    · have : (e.kind == k) = false := by simpa using hk
      simp only [List.filter_cons, this, Bool.false_eq_true, if_false]
      omega
theorem str_append (a b : List UInt8) : str a ++ str b = str (a ++ b) := by
  unfold str
  rw [ByteArray.mk_append_mk]
theorem sum_take_le (l : List Nat) (k : Nat) : (l.take k).sum ≤ l.sum := by
  induction l generalizing k with
  | nil => simp
  | cons a r ih =>
    cases k with
    | zero => simp
    | succ k => simp only [List.take_succ_cons, List.sum_cons]; have := ih k; omega

set_option maxHeartbeats 2000000 in
set_option maxRecDepth 100000 in
theorem told_raw (v : Value) (tr : List Ev) (kd : Int) (w : World) (h : TV w v tr) (hb : (tr.map (fun e => e.text.length)).sum ≤ 1099511627776) (hn : tr.length ≤ 1099511627776) :
    Calls Try.prog 20 #[v, .int .i64 kd] w fun e w' => e = .returned (.string (str (tell tr kd))) ∧ w' = w := by
  obtain ⟨a, cap, hv, hlc, hcm, hnil, hsome⟩ := h.rw.form
  obtain ⟨n, hlen⟩ : ∃ n, tr.length = n := ⟨_, rfl⟩
  rw [hlen] at hv hlc hnil hn
  have HL := hid hlen
  have HV := hid hv
  have HNIL := hid hnil
  have HSOME := hid hsome
  have HTV := hid h
  subst hv
  have hb' : ∀ k, (tell (tr.take k) kd).length ≤ 1099511627776 := fun k => tell_le _ _ _ (by
    have := sum_take_le (tr.map (fun e => e.text.length)) k
    rw [← List.map_take] at this
    omega)
  have HB := hid hb'
  have HB0 := hid hb
  clear h hlen hnil hsome hb hb' hcm hlc
  go_enter Try.func20, Try.ntmps20
  go_wp2
  go_loop [5, 6] (fun s i => ∃ k : Nat, k ≤ n ∧ i = .int .i64 k ∧ s = .string (str (tell (tr.take k) kd))) (fun _ i => n - (intOf i).toNat)
  case atStart => exact ⟨0, by omega, rfl, by simp [tell, str]⟩
  case round =>
    obtain ⟨k, hk, rfl, rfl⟩ := hrel
    by_cases hlt : k < n
    · cases a with
      | none => have := (HNIL.out rfl).1; omega
      | some x =>
      obtain ⟨hxe, hxl⟩ := HSOME.out x rfl
      obtain ⟨g, o, sp⟩ := x
      cases hxe
      obtain ⟨e, he⟩ : ∃ e, tr[k]? = some e := ⟨_, List.getElem?_eq_getElem (by have := HL.out; omega)⟩
      obtain ⟨e0, e1, e2⟩ := HTV.out.ev k e he
      rw [Nat.mul_comm 3 k] at e0 e2
      have q0 : w.cell? ⟨g, k * 3, none⟩ = some (.int .i64 e.kind) := e0
      have q2 : w.cell? ⟨g, k * 3 + 2, none⟩ = some (.string (str e.text)) := e2
      have htk : tr.take (k + 1) = tr.take k ++ [e] := by rw [List.take_add_one, he]; rfl
      have hte : e.text.length ≤ 1099511627776 := by
        have h1 := sum_take_le (tr.map (fun e => e.text.length)) (k + 1)
        rw [← List.map_take, htk, List.map_append, List.sum_append] at h1
        have := HB0.out
        simp at h1
        omega
      have hs1 : (str (tell (tr.take k) kd)).size ≤ 1099511627776 := by rw [str_size]; exact HB.out k
      have hs2 : (str e.text).size ≤ 1099511627776 := by rw [str_size]; exact hte
      have HTK := hid htk
      have hki : (k : Int) < (n : Int) := by omega
      clear e0 e1 e2 he htk hte HSOME HNIL HB HB0 HTV HV
      by_cases hd : e.kind = kd
      · have hd1 : (e.kind == kd) = true := by simpa using hd
        have HD := hid hd
        clear hd
        go_wp2
        go_round
        case rel => exact ⟨k + 1, by omega, by go_num, by rw [HTK.out, tell_snoc, if_pos HD.out, str_append]⟩
        case measure => simp [intOf]; omega
      · have hd1 : (e.kind == kd) = false := by simpa using hd
        have HD := hid hd
        clear hd
        go_wp2
        go_round
        case rel => exact ⟨k + 1, by omega, by go_num, by rw [HTK.out, tell_snoc, if_neg HD.out, List.append_nil]⟩
        case measure => simp [intOf]; omega
    · obtain rfl : k = n := by omega
      have e : tr.take k = tr := List.take_of_length_le (by have := HL.out; omega)
      rw [e]
      clear HSOME HNIL HB HB0 HTV HV
      go_wp2
      go_ret
      exact ⟨rfl, rfl⟩

/-! ### a trace of the outputs -/
/-- events of the outputs: none is empty, no two neighbours of one kind -/
structure Good (tr : List Ev) : Prop where
  ev : ∀ e ∈ tr, e.text ≠ [] ∧ e.name = noName
  nb : ∀ i e e', tr[i]? = some e → tr[i + 1]? = some e' → ¬ e'.kind = e.kind

theorem modify_last (f : Ev → Ev) (e : Ev) : ∀ r : List Ev, (r ++ [e]).modify r.length f = r ++ [f e]
  | [] => rfl
  | a :: r => by
    have := modify_last f e r
    simp only [List.cons_append, List.length_cons, List.modify_succ_cons, this]

theorem say_out {S : St} (k : Int) (t : List UInt8) (h : Good S.tr) : ∃ tr', S.say k noName t = { S with tr := tr' } ∧ Good tr' ∧ tell tr' k = tell S.tr k ++ t ∧ (∀ j, j ≠ k → tell tr' j = tell S.tr j) ∧ tr'.length ≤ S.tr.length + 1 ∧ (tr'.map (fun e => e.text.length)).sum = (S.tr.map (fun e => e.text.length)).sum + t.length := by
  by_cases h0 : t = []
  · refine ⟨S.tr, by unfold St.say; rw [if_pos h0], h, by simp [h0], fun _ _ => rfl, by omega, by simp [h0]⟩
  have hnew : (∀ e, S.tr.getLast? = some e → ¬ e.kind = k) → ∃ tr', (S.addEv ⟨k, noName, []⟩).addTx S.tr.length t = { S with tr := tr' } ∧ Good tr' ∧ tell tr' k = tell S.tr k ++ t ∧ (∀ j, j ≠ k → tell tr' j = tell S.tr j) ∧ tr'.length ≤ S.tr.length + 1 ∧ (tr'.map (fun e => e.text.length)).sum = (S.tr.map (fun e => e.text.length)).sum + t.length := by
    intro hl
    have e1 : (S.tr ++ [(⟨k, noName, []⟩ : Ev)]).modify S.tr.length (fun e => { e with text := e.text ++ t }) = S.tr ++ [⟨k, noName, t⟩] := by rw [modify_last]; rfl
    refine ⟨S.tr ++ [⟨k, noName, t⟩], ?_, ⟨fun e he => ?_, fun i e e' he he' => ?_⟩, by rw [tell_snoc, if_pos rfl], fun j hj => by rw [tell_snoc, if_neg (fun h => hj h.symm), List.append_nil], by simp, by simp⟩
    · simp only [St.addTx, St.addEv, e1]
    · rcases List.mem_append.1 he with he | he
      · exact h.ev e he
      · simp at he; subst he; exact ⟨h0, rfl⟩
    · by_cases hi : i + 1 < S.tr.length
      · rw [List.getElem?_append_left (by omega)] at he he'
        exact h.nb i e e' he he'
      · have hlt := (List.getElem?_eq_some_iff.1 he').1
        simp at hlt
        have hie : i + 1 = S.tr.length := by omega
        rw [List.getElem?_append_left (by omega)] at he
        rw [hie] at he'
        simp at he'
        subst he'
        intro hk
        apply hl e _ hk.symm
        rw [List.getLast?_eq_getElem?]
        have : S.tr.length - 1 = i := by omega
        rw [this]; exact he
  unfold St.say
  rw [if_neg h0]
  cases hl : S.tr.getLast? with
  | none => exact hnew (fun e he => by rw [hl] at he; cases he)
  | some e =>
    by_cases hk : e.kind = k ∧ e.name = noName
    · simp only [if_pos hk]
      obtain ⟨r, hr⟩ : ∃ r, S.tr = r ++ [e] := by
        have := List.getLast?_eq_some_iff.1 hl
        exact this
      have e1 : S.tr.modify (S.tr.length - 1) (fun e => { e with text := e.text ++ t }) = r ++ [{ e with text := e.text ++ t }] := by
        rw [hr]
        have hlen : (r ++ [e]).length - 1 = r.length := by simp
        rw [hlen, modify_last]
      refine ⟨r ++ [{ e with text := e.text ++ t }], by unfold St.addTx; rw [e1], ⟨fun x hx => ?_, fun i x x' hx hx' => ?_⟩, ?_, fun j hj => ?_, by rw [hr]; simp, ?_⟩
      · rcases List.mem_append.1 hx with hx | hx
        · exact h.ev x (by rw [hr]; exact List.mem_append.2 (.inl hx))
        · simp at hx; subst hx; exact ⟨by simp [h0], hk.2⟩
      · have key : ∀ (j : Nat) (y : Ev), (r ++ [{ e with text := e.text ++ t }])[j]? = some y → ∃ y0 : Ev, S.tr[j]? = some y0 ∧ y0.kind = y.kind := fun j y hy => by
          by_cases hj : j < r.length
          · rw [List.getElem?_append_left hj] at hy
            exact ⟨y, by rw [hr, List.getElem?_append_left hj]; exact hy, rfl⟩
          · have hlt := (List.getElem?_eq_some_iff.1 hy).1
            simp at hlt
            have hje : j = r.length := by omega
            subst hje
            simp at hy
            subst hy
            exact ⟨e, by rw [hr]; simp, rfl⟩
        obtain ⟨y0, a1, a2⟩ := key i x hx
        obtain ⟨y1, b1, b2⟩ := key (i + 1) x' hx'
        rw [← a2, ← b2]
        exact h.nb i y0 y1 a1 b1
      · rw [hr, tell_snoc, tell_snoc, if_pos hk.1, if_pos hk.1, List.append_assoc]
      · rw [hr, tell_snoc, tell_snoc, if_neg (fun e => hj (e.symm.trans hk.1)), if_neg (fun e => hj (e.symm.trans hk.1))]
      · rw [hr]; simp; omega
    · simp only [if_neg hk]
      refine hnew (fun e' he' => ?_)
      rw [hl] at he'
      cases he'
      have := (h.ev e (List.mem_of_getLast? hl)).2
      exact fun h => hk ⟨h, this⟩
end Go.Proofs.Ytkbdgdcicflocaa
