/-
  heap: what thingIn needs: the header without its mark, room for values, bytes as a text.
-/
import Derived.Test.YtlkbnjdhokjfnaaHFrA
namespace Go.Proofs.Ytlkbnjdhokjfnaa
set_option linter.unusedSimpArgs false
set_option linter.unusedVariables false
open Go.RowKit
attribute [local go_sem ↓] Go.wp_at_zero Go.wp_at_succ

/-- a word without the mark -/
def clr (W : Nat) : Nat := W / 64 * 64 + W % 32
theorem clr_bits (W : Nat) (h : W < 18446744073709551616) : bits .andNot .u64 (W : Int) 32 = (clr W : Int) := by
  have h1 := u64_andNot_nat W 32 h (by omega)
  have e : ((32 : Nat) : Int) = 32 := rfl
  rw [e] at h1
  rw [h1]
  have e2 : 18446744073709551615 - 32 = 18446744073709551552 ||| 31 := by decide
  rw [e2, Nat.and_or_distrib_left]
  have e3 := nat_midmask 64 6 W (by decide)
  have e4 : W &&& 18446744073709551552 = W / 64 * 64 := by
    have e5 : (2 ^ 64 - 2 ^ 6 : Nat) = 18446744073709551552 := by decide
    have := nat_hi64_6 W
    rw [this]
    omega
  rw [e4, nat_mask5, nat_join 6 _ _ (by omega) (by omega)]
  rfl
theorem kind_bits (H : Nat) (h : H < 18446744073709551616) : bits .and .u64 ((H : Int) / 2) 15 = ((H / 2 % 16 : Nat) : Int) := by
  have := u64_and_nat (H / 2) 15 (by omega) (by omega)
  rw [nat_mask4] at this
  rw [← this]
  congr 1
theorem tag_bits (H : Nat) (h : H < 18446744073709551616) : bits .and .u64 ((H : Int) / 256) 65535 = ((H / 256 % 65536 : Nat) : Int) := by
  have := u64_and_nat (H / 256) 65535 (by omega) (by omega)
  rw [nat_mask16] at this
  rw [← this]
  congr 1

theorem ld_string {w : World} {v : Value} {l : List UInt8} (h : LD 1 eB w v l) : (convert 40 9 v).run Try.prog w = .ok (.string ⟨l.toArray⟩) w := by
  obtain ⟨a, c, rfl, h1, h2, h3⟩ := h
  by_cases h0 : l.length = 0
  · obtain rfl := List.length_eq_zero_iff.1 h0
    cases a with
    | none => exact run_convert_bytes_nil w 40 5 Try.underlying40 Try.underlying5 0 c 9 Try.underlying9
    | some a => exact run_convert_bytes_back w 40 9 5 a c [] Try.underlying40 Try.underlying5 Try.underlying9 (fun j hj => by cases hj)
  · obtain ⟨g, o, rfl, hg, hc⟩ := h3 (by omega)
    refine run_convert_bytes_back w 40 9 5 ⟨g, o, none⟩ c l Try.underlying40 Try.underlying5 Try.underlying9 (fun j hj => ?_)
    have := hc j hj 0 (by omega)
    simp only [Nat.mul_one, Nat.add_zero, eB, List.getElem?_cons_zero] at this
    have e : (⟨g, o, none⟩ : Addr).add j = ⟨g, o + j, none⟩ := by simp [Addr.add]
    rw [e]; exact this
/-- 'string(b)' at the operation -/
theorem wpList_str (w : World) {ops : Array Oper} {rest : List Oper} {o : Oper} {a : Act} {Q : Exit → Act → World → Prop} (hg : o.guard = none) (x : Operand) (hop : o.op = Op.convert 40 9 x) (v : Value) (hx : a.eval x = v) (l : List UInt8) (h : LD 1 eB w v l)
    (hK : wpList Try.prog ops Q rest (a.put o.dst (.string ⟨l.toArray⟩)) w) : wpList Try.prog ops Q (o :: rest) a w := by
  refine wpList_plain hg fun K' hK' => ?_
  have hr := ld_string h
  unfold Oper.wp
  simp [execOp, hop, hx, hr, Result.andThen]
  exact hK' _ _ hK

/-- room for n values, and n of them -/
def Room0 (w : World) (n : Nat) (e : Ending) (w' : World) : Prop :=
  ∃ a c, e = .returned (.slice a 0 c) ∧ n ≤ c ∧ c ≤ 1073741824 ∧ (a = none → n = 0 ∧ c = 0) ∧ LR 2 eR w' (.slice a n c) (List.replicate n (0, 0)) ∧ Tn No w w' ∧ ∀ g, (Value.slice a n c).ownBlock = some g → w.heap.size ≤ g
set_option maxRecDepth 100000 in
theorem room_r0 (n : Nat) (hn : n ≤ 1073741824) (w : World) : Calls Try.prog 69 #[.int .i64 (n : Int)] w (Room0 w n) := by
  by_cases h0 : n = 0
  · subst h0
    go_enter Try.func69, Try.ntmps69
    go_wp2
    go_ret
    exact ⟨none, 0, rfl, Nat.le_refl _, by omega, fun _ => ⟨rfl, rfl⟩, LR.nil _ _ _, Tn.refl _ _, fun g h => by cases h⟩
  · have d0 : ((n : Int) == 0) = false := by simp; omega
    obtain ⟨i, hi, z0, z1, z2⟩ := info_parts ref_info
    obtain ⟨M, hM⟩ : ∃ M, madeCells (Value.agg #[.int .i64 0, .int .i64 0]).cells (((n : Nat) : Int).toNat * i.size) = M := ⟨_, rfl⟩
    have hmk : ∀ W : World, (Instr.makeSlice 22 (.int .i64 0) (.int .i64 (n : Int))).run Try.prog W = .ok (.slice (some ⟨W.heap.size, 0, none⟩) 0 n) (W.alloc (.cells M 61)) := fun W => by
      have h := run_make (P := Try.prog) W 22 61 i (.agg #[.int .i64 0, .int .i64 0]) Try.underlying22 hi z0 .i64 .i64 0 (n : Int) (by omega) (by omega) (by rw [z2, Int.mul_comm]; omega) (by omega)
      rw [hM] at h
      simpa using h
    have hMc : ∀ j, j < n * 2 → M[j]? = some (.int .i64 0) := fun j hj => by
      rw [← hM]
      have hsz : (madeCells (Value.agg #[.int .i64 0, .int .i64 0]).cells (((n : Nat) : Int).toNat * i.size)).size = n * 2 := by rw [size_madeCells, z1]; simp
      rw [Array.getElem?_eq_getElem (by rw [hsz]; exact hj)]
      simp only [madeCells, Array.getElem_ofFn]
      have : j % 2 = 0 ∨ j % 2 = 1 := by omega
      rcases this with e | e <;> simp [Value.cells, e]
    have HL : Hid (LR 2 eR (w.alloc (.cells M 61)) (.slice (some ⟨w.heap.size, 0, none⟩) n n) (List.replicate n (0, 0))) := by
      apply hid
      have hh := heap_alloc_new w (.cells M 61)
      have hc : ∀ j, j < n * 2 → (w.alloc (.cells M 61)).cell? ⟨w.heap.size, j, none⟩ = some (.int .i64 0) := fun j hj => by rw [World.cell?_alloc_new]; exact hMc j hj
      refine ⟨?_, fun k hk j hj => ?_⟩
      · rw [List.length_replicate]
        refine .inr ⟨w.heap.size, n, rfl, by simp, Nat.le_refl _, by unfold maxLen; omega, fun j hj => ⟨by rw [hc j hj]; rfl, by simp only [World.frozen?, hh]; simp⟩⟩
      · simp only [List.length_replicate] at hk
        simp only [vc, List.getElem_replicate, eR]
        rw [hc _ (by omega)]
        have : j = 0 ∨ j = 1 := by omega
        rcases this with e | e <;> subst e <;> rfl
    clear h0 hM hMc
    go_enter Try.func69, Try.ntmps69
    go_wp2
    go_ret
    exact ⟨_, n, rfl, Nat.le_refl _, hn, (fun e => (by cases e)), HL.out, (by repeat (first | exact Tn.refl _ _ | apply Tn.drew | apply Tn.drewN | apply Tn.alloc | (refine Tn.then ?_ (by assumption)) | (refine Tn.thenNo ?_ (by assumption)))), (fun g h => (by cases h; exact Nat.le_refl _))⟩
end Go.Proofs.Ytlkbnjdhokjfnaa
namespace Go.Proofs.Ytlkbnjdhokjfnaa
set_option linter.unusedSimpArgs false
set_option linter.unusedVariables false
open Go.RowKit
attribute [local go_sem ↓] Go.wp_at_zero Go.wp_at_succ

/-- a thing that is read: its bytes, its values' bytes -/
structure TR where
  kind : Int
  tag : Int
  bytes : List UInt8
  vals : List UInt8
def hdr (l : List UInt8) : Nat := clr (Hp.num (l.take 8))
def insOf (l : List UInt8) : List UInt8 := (l.drop 8).take (cutLen (hdr l / 16777216) (Hp.isRow ((hdr l / 2 % 16 : Nat) : Int)))
def thingP (l : List UInt8) : Option TR :=
  let H := hdr l
  let k := ((H / 2 % 16 : Nat) : Int)
  let tg := ((H / 256 % 65536 : Nat) : Int)
  if l.length < 8 then none else if cutB (l.drop 8) (cutLen (H / 16777216) (Hp.isRow k)) = false then none else
  if Hp.isRow k = true then (if laidB k tg ⟨(insOf l).toArray⟩ 0 H then some ⟨k, tg, insOf l, []⟩ else none)
  else if k = 8 then (if fnB (insOf l) = false then none else if laidB 8 (farOf (insOf l) / 16) ⟨#[]⟩ (((insOf l).length - 8) / 8) H then some ⟨8, farOf (insOf l) / 16, [], (insOf l).drop 8⟩ else none)
  else if laidB k tg ⟨#[]⟩ ((insOf l).length / 8) H then some ⟨k, tg, [], insOf l⟩ else none

def ThingPost (v : Value) (l : List UInt8) (w : World) (e : Ending) (w' : World) : Prop :=
  ∃ k tg s rv ia ib ic ok, e = .returned (.tuple #[.agg #[.int .i64 k, .int .i64 tg, .string s, rv], .slice ia ib ic, .bool ok]) ∧ (∃ a n c, rv = .slice a n c) ∧ Tn No w w' ∧
    (thingP l = none → ok = false) ∧ ∀ T, thingP l = some T → ok = true ∧ k = T.kind ∧ tg = T.tag ∧ s = ⟨T.bytes.toArray⟩ ∧ LR 2 eR w' rv (List.replicate (T.vals.length / 8) (0, 0)) ∧ (∀ g, rv.ownBlock = some g → w.heap.size ≤ g) ∧ ∀ w0, LD 1 eB w0 v l → LD 1 eB w0 (.slice ia ib ic) T.vals

set_option maxHeartbeats 4000000 in
set_option maxRecDepth 100000 in
theorem thingIn_short (v : Value) (l : List UInt8) (w : World) (h : LD 1 eB w v l) (hs : l.length < 8) : Calls Try.prog 71 #[v] w (ThingPost v l w) := by
  obtain ⟨a, c, rfl, _⟩ := h.form
  have HP : Hid (thingP l = none) := hid (by simp [thingP, hs])
  have HT : Hid (∀ o, Tn No w (w.alloc o)) := hid (fun o => (Tn.refl No w).alloc o)
  have hi : (l.length : Int) < 8 := by omega
  unfold ThingPost
  rw [HP.out]
  clear h HP
  generalize l.length = n at *
  go_enter Try.func71, Try.ntmps71
  go_wp2
  refine bodyPost_ret (v := .tuple #[.agg #[.int .i64 0, .int .i64 0, .string ⟨#[]⟩, .slice none 0 0], .slice none 0 0, .bool false]) (by simp [results, Try.results71, go_sem]) rfl ?_
  exact ⟨_, _, _, _, _, _, _, _, rfl, ⟨_, _, _, rfl⟩, HT.out _, fun _ => rfl, fun T h => by cases h⟩


/-- the two blocks of thingIn: what is answered (nothing yet), the thing under way -/
structure Two (w : World) (k tg : Int) (s : ByteArray) (rv : Value) (u : World) : Prop where
  z : u.heap[w.heap.size]? = some (.cells #[.int .i64 0, .int .i64 0, .string ⟨#[]⟩, .slice none 0 0] 24 (0, 0))
  c0 : u.cell? ⟨w.heap.size + 1, 0, none⟩ = some (.int .i64 k)
  c1 : u.cell? ⟨w.heap.size + 1, 1, none⟩ = some (.int .i64 tg)
  c2 : u.cell? ⟨w.heap.size + 1, 2, none⟩ = some (.string s)
  c3 : u.cell? ⟨w.heap.size + 1, 3, none⟩ = some rv
  f : ∀ j, u.frozen? ⟨w.heap.size + 1, j, none⟩ = false
  sz : w.heap.size + 1 < u.heap.size
  tn : Tn No w u
theorem Two.no {w : World} {k tg : Int} {s : ByteArray} {rv : Value} {u u' : World} (h : Two w k tg s rv u) (t : Tn No u u') : Two w k tg s rv u' := by
  have hs := h.sz
  refine ⟨by rw [t.block _ (by omega) (fun e => e)]; exact h.z, ?_, ?_, ?_, ?_, fun j => by rw [t.frozen hs (fun e => e)]; exact h.f j, Nat.lt_of_lt_of_le hs t.size, h.tn.then t⟩
  · rw [t.cell hs (fun e => e)]; exact h.c0
  · rw [t.cell hs (fun e => e)]; exact h.c1
  · rw [t.cell hs (fun e => e)]; exact h.c2
  · rw [t.cell hs (fun e => e)]; exact h.c3
theorem Two.begin (w : World) (k tg : Int) (s : ByteArray) (rv : Value) : Two w k tg s rv ((w.alloc (.cells #[.int .i64 0, .int .i64 0, .string ⟨#[]⟩, .slice none 0 0] 24)).alloc (.cells #[.int .i64 k, .int .i64 tg, .string s, rv] 24)) := by
  have hh := heap_alloc_new (w.alloc (.cells #[.int .i64 0, .int .i64 0, .string ⟨#[]⟩, .slice none 0 0] 24)) (.cells #[.int .i64 k, .int .i64 tg, .string s, rv] 24)
  have e : (w.alloc (.cells #[.int .i64 0, .int .i64 0, .string ⟨#[]⟩, .slice none 0 0] 24)).heap.size = w.heap.size + 1 := by simp
  rw [e] at hh
  refine ⟨by rw [Below.heap_alloc _ _ _ (by simp)]; exact heap_alloc_new w _, by simp only [World.cell?, hh]; rfl, by simp only [World.cell?, hh]; rfl, by simp only [World.cell?, hh]; rfl, by simp only [World.cell?, hh]; rfl, fun j => by simp only [World.frozen?, hh]; simp, by simp, (by repeat (first | exact Tn.refl _ _ | apply Tn.drew | apply Tn.drewN | apply Tn.alloc | (refine Tn.then ?_ (by assumption)) | (refine Tn.thenNo ?_ (by assumption))))⟩
theorem Two.set3 {w : World} {k tg : Int} {s : ByteArray} {rv : Value} {u : World} (h : Two w k tg s rv u) (rv' : Value) : Two w k tg s rv' (u.setCell ⟨w.heap.size + 1, 3, none⟩ rv') := by
  refine ⟨by rw [Below.heap_setCell _ _ _ _ (by simp)]; exact h.z, ?_, ?_, ?_, World.cell?_setCell_same _ _ _ h.c3, fun j => by rw [World.frozen?_setCell]; exact h.f j, by simpa using h.sz, h.tn.set _ _ (fun e => by simp at e; omega)⟩
  · rw [World.cell?_setCell_other _ _ _ _ (by simp)]; exact h.c0
  · rw [World.cell?_setCell_other _ _ _ _ (by simp)]; exact h.c1
  · rw [World.cell?_setCell_other _ _ _ _ (by simp)]; exact h.c2
/-- the cells that are written -/
structure Zs (w u : World) : Prop where
  z0 : u.cell? ⟨w.heap.size, 0, none⟩ = some (.int .i64 0)
  z1 : u.cell? ⟨w.heap.size, 1, none⟩ = some (.int .i64 0)
  z2 : u.cell? ⟨w.heap.size, 2, none⟩ = some (.string ⟨#[]⟩)
  z3 : u.cell? ⟨w.heap.size, 3, none⟩ = some (.slice none 0 0)
  f0 : u.frozen? ⟨w.heap.size, 0, none⟩ = false
  f1 : u.frozen? ⟨w.heap.size, 1, none⟩ = false
  f2 : u.frozen? ⟨w.heap.size, 2, none⟩ = false
  f3 : u.frozen? ⟨w.heap.size, 3, none⟩ = false
theorem Two.zs {w : World} {k tg : Int} {s : ByteArray} {rv : Value} {u : World} (h : Two w k tg s rv u) : Zs w u :=
  ⟨by simp only [World.cell?, h.z]; rfl, by simp only [World.cell?, h.z]; rfl, by simp only [World.cell?, h.z]; rfl, by simp only [World.cell?, h.z]; rfl, by simp only [World.frozen?, h.z]; rfl, by simp only [World.frozen?, h.z]; rfl, by simp only [World.frozen?, h.z]; rfl, by simp only [World.frozen?, h.z]; rfl⟩
def put4 (u : World) (g : Nat) (a b c d : Value) : World := (((u.setCell ⟨g, 0, none⟩ a).setCell ⟨g, 1, none⟩ b).setCell ⟨g, 2, none⟩ c).setCell ⟨g, 3, none⟩ d
theorem put4_tn (u : World) (g : Nat) (a b c d : Value) : Tn (fun k => k = g) u (put4 u g a b c d) :=
  ((((Tn.refl (fun k => k = g) u).set _ _ (fun _ => rfl)).set _ _ (fun _ => rfl)).set _ _ (fun _ => rfl)).set _ _ (fun _ => rfl)
theorem put4_cells {u : World} {g : Nat} {x0 x1 x2 x3 : Value} (h0 : u.cell? ⟨g, 0, none⟩ = some x0) (h1 : u.cell? ⟨g, 1, none⟩ = some x1) (h2 : u.cell? ⟨g, 2, none⟩ = some x2) (h3 : u.cell? ⟨g, 3, none⟩ = some x3) (a b c d : Value) :
    (u.setCell ⟨g, 0, none⟩ a).cell? ⟨g, 0, none⟩ = some a ∧ ((u.setCell ⟨g, 0, none⟩ a).setCell ⟨g, 1, none⟩ b).cell? ⟨g, 1, none⟩ = some b ∧ (((u.setCell ⟨g, 0, none⟩ a).setCell ⟨g, 1, none⟩ b).setCell ⟨g, 2, none⟩ c).cell? ⟨g, 2, none⟩ = some c ∧ ((((u.setCell ⟨g, 0, none⟩ a).setCell ⟨g, 1, none⟩ b).setCell ⟨g, 2, none⟩ c).setCell ⟨g, 3, none⟩ d).cell? ⟨g, 3, none⟩ = some d := by
  have k1 : (u.setCell ⟨g, 0, none⟩ a).cell? ⟨g, 1, none⟩ = some x1 := by rw [World.cell?_setCell_other _ _ _ _ (by simp)]; exact h1
  have k2 : ((u.setCell ⟨g, 0, none⟩ a).setCell ⟨g, 1, none⟩ b).cell? ⟨g, 2, none⟩ = some x2 := by rw [World.cell?_setCell_other _ _ _ _ (by simp), World.cell?_setCell_other _ _ _ _ (by simp)]; exact h2
  have k3 : (((u.setCell ⟨g, 0, none⟩ a).setCell ⟨g, 1, none⟩ b).setCell ⟨g, 2, none⟩ c).cell? ⟨g, 3, none⟩ = some x3 := by rw [World.cell?_setCell_other _ _ _ _ (by simp), World.cell?_setCell_other _ _ _ _ (by simp), World.cell?_setCell_other _ _ _ _ (by simp)]; exact h3
  exact ⟨World.cell?_setCell_same _ _ _ h0, World.cell?_setCell_same _ _ _ k1, World.cell?_setCell_same _ _ _ k2, World.cell?_setCell_same _ _ _ k3⟩
end Go.Proofs.Ytlkbnjdhokjfnaa
