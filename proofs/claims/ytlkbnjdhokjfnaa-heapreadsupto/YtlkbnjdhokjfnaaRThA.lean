/-
  heap's reference: a thing that is read, in plain words; its values being read.
-/
import Derived.Test.YtlkbnjdhokjfnaaRRfA
import Derived.Test.YtlkbnjdhokjfnaaHRdA
namespace Go.Proofs.Ytlkbnjdhokjfnaa
set_option linter.unusedSimpArgs false
set_option linter.unusedVariables false
open Go.RowKit

theorem valWs_succ {row : List Int} {ws : List Nat} {k : Nat} (hk : k < ws.length) : (ws.take (k + 1)).foldl meetW row = meetW ((ws.take k).foldl meetW row) ws[k] ∧
    (ws.take (k + 1)).map (valW ((ws.take (k + 1)).foldl meetW row)) = (ws.take k).map (valW ((ws.take k).foldl meetW row)) ++ [valW (meetW ((ws.take k).foldl meetW row) ws[k]) ws[k]] := by
  have e : ws.take (k + 1) = ws.take k ++ [ws[k]] := by rw [List.take_add_one, List.getElem?_eq_getElem hk]; rfl
  have e2 : (ws.take (k + 1)).foldl meetW row = meetW ((ws.take k).foldl meetW row) ws[k] := by rw [e, List.foldl_append]; rfl
  refine ⟨e2, ?_⟩
  rw [e2, e, List.map_append]
  congr 1
  obtain ⟨m, em, _⟩ := meetW_more ((ws.take k).foldl meetW row) ws[k]
  rw [em]
  exact valW_more (meetWs_has (ws.take k) row)

/-- values of words, being read -/
structure Rv (bv : Value) (A : Nat) (w : World) (p b : Nat) (mv : Value) (row : List Int) (ws : List Nat) (v : Value) (w' : World) (mv' : Value) : Prop where
  lr : LR 2 eR w' v (ws.map (valW (ws.foldl meetW row)))
  new : ∀ g, v.ownBlock = some g → w.heap.size ≤ g ∧ ¬ RO p b mv' g
  ra : RQ bv A w' p b mv' (ws.foldl meetW row)
  up : Up (RO p b mv) w (RO p b mv') w'
theorem Rv.no {bv : Value} {A : Nat} {w : World} {p b : Nat} {mv : Value} {row : List Int} {ws : List Nat} {v : Value} {w1 w2 : World} {mv' : Value} (h : Rv bv A w p b mv row ws v w1 mv') (t : Tn No w1 w2) : Rv bv A w p b mv row ws v w2 mv' :=
  ⟨h.lr.no t, h.new, h.ra.no t, h.up.trans (Up.no t)⟩
theorem Rv.push {bv : Value} {A : Nat} {w : World} {p b : Nat} {mv : Value} {row : List Int} {ws : List Nat} {v : Value} {w1 : World} {mv1 : Value} {k : Nat} (hk : k < ws.length) {w2 : World} {mv2 : Value}
    (h : Rv bv A w p b mv row (ws.take k) v w1 mv1) (ra : RQ bv A w2 p b mv2 (meetW ((ws.take k).foldl meetW row) ws[k])) (up : Up (RO p b mv1) w1 (RO p b mv2) w2) (c : Nat) (c0 : w2.cell? ⟨c, 0, none⟩ = some (.int .i64 (valW (meetW ((ws.take k).foldl meetW row) ws[k]) ws[k]).1)) (c1 : w2.cell? ⟨c, 1, none⟩ = some (.int .i64 (valW (meetW ((ws.take k).foldl meetW row) ws[k]) ws[k]).2)) (hl : ws.length ≤ 4294967295) :
    ∃ v' w', (Builtin.append_ #[22, 22] 22 #[v, .slice (some ⟨c, 0, none⟩) 1 1]).run Try.prog w2 = .ok v' w' ∧ Rv bv A w p b mv row (ws.take (k + 1)) v' w' mv2 := by
  obtain ⟨e1, e2⟩ := valWs_succ (row := row) hk
  obtain ⟨hlr, hno⟩ := h.lr.up up (fun g hg => (h.new g hg).2)
  obtain ⟨v', w', hrun, lr', ou⟩ := lref_push hlr _ c c0 c1 (by simp; omega)
  refine ⟨v', w', hrun, by rw [e2]; exact lr', fun g hg => ?_, ?_, ?_⟩
  · rcases ou.own g hg with e | e
    · exact ⟨(h.new g e).1, hno g e⟩
    · refine ⟨Nat.le_trans (h.up.trans up).tn.size e, fun e' => ?_⟩
      have := ra.olt g e'; omega
  · rw [e1]
    exact ra.kept ou.tn (fun g hg e => hno g e hg)
  · refine ⟨(h.up.trans up).tn.trans ou.tn (fun _ _ e => e) (fun i hi e => ?_), (h.up.trans up).own⟩
    have := (h.new i e).1; omega

/-- a thing at a place, its header known -/
def readH (l : List UInt8) (o x H : Nat) : Option (Hp.Nd Nat) :=
  let kind := H / 2 % 16
  let tag := H / 256 % 65536
  let n := H / 16777216
  let ws := if Hp.isRow kind then (n + 7) / 8 else n
  if x % 8 = 0 ∧ H % 2 = 1 ∧ H / 64 % 4 = 0 ∧ 1 ≤ kind ∧ kind ≤ 8 ∧ ws ≤ (l.length - o - 8) / 8 then
    let t : Option (Hp.Nd Nat) :=
      if Hp.isRow kind then
        if Hp.sub l (o + 8 + n) (8 * ws - n) = List.replicate (8 * ws - n) 0 then some ⟨kind, tag, Hp.sub l (o + 8) n, []⟩ else none
      else if kind = 8 then
        match Hp.wordsAt l (o + 8) n with
        | [] => none
        | c :: r => if tag = 0 ∧ Hp.codeBase ≤ c ∧ (c - Hp.codeBase) % 16 = 0 ∧ (c - Hp.codeBase) / 16 < 4194304 then some ⟨kind, ((c - Hp.codeBase) / 16 : Nat), [], r.map Hp.value⟩ else none
      else some ⟨kind, tag, [], (Hp.wordsAt l (o + 8) n).map Hp.value⟩
    match t with
    | some t => if Hp.May t then some t else none
    | none => none
  else none
theorem read_at {l : List UInt8} {A x : Nat} (h : atB l A x = true) : Hp.read l A x = readH l (x - A) x (atW l A x) := by
  have hw : atW l A x = Hp.num (Hp.sub l (x - A) 8) := by rw [atW, if_pos h]
  simp only [atB, decide_eq_true_eq] at h
  unfold Hp.read readH
  simp only [hw, h.1, h.2, true_and]
  rfl
theorem read_off {l : List UInt8} {A x : Nat} (h : atB l A x = false) : Hp.read l A x = none := by
  simp only [atB, decide_eq_false_iff_not] at h
  unfold Hp.read
  simp only
  rw [if_neg]
  rintro ⟨h1, h2, _⟩
  exact h ⟨h1, h2⟩

/-- what thing leaves -/
def RThingPost (bv : Value) (A : Nat) (l : List UInt8) (w : World) (p b : Nat) (mv : Value) (row : List Int) (x : Nat) (e : Ending) (w' : World) : Prop :=
  ∃ kd tg s a n c ok mv', e = .returned (.tuple #[.agg #[.int .i64 kd, .int .i64 tg, .string s, .slice a n c], .bool ok]) ∧ Up (RO p b mv) w (RO p b mv') w' ∧
    ((ok = false ∧ Hp.read l A x = none) ∨
     (ok = true ∧ ∃ ws, Hp.read l A x = some ⟨kd, tg, s.data.toList, ws.map Hp.value⟩ ∧ Rv bv A w p b mv row ws (.slice a n c) w' mv' ∧ (∀ y ∈ ws, y < 18446744073709551616)))
end Go.Proofs.Ytlkbnjdhokjfnaa
namespace Go.Proofs.Ytlkbnjdhokjfnaa
set_option linter.unusedSimpArgs false
set_option linter.unusedVariables false
open Go.RowKit
attribute [local go_sem ↓] Go.wp_at_zero Go.wp_at_succ

/-- what is set in a thing's cells is read back -/
theorem set4 {u : World} {r : Nat} {v0 v1 v2 v3 : Value} (h0 : u.cell? ⟨r, 0, none⟩ = some v0) (h1 : u.cell? ⟨r, 1, none⟩ = some v1) (h2 : u.cell? ⟨r, 2, none⟩ = some v2) (h3 : u.cell? ⟨r, 3, none⟩ = some v3) (a0 a1 a2 a3 : Value) :
    ((((u.setCell ⟨r, 0, none⟩ a0).setCell ⟨r, 1, none⟩ a1).setCell ⟨r, 2, none⟩ a2).setCell ⟨r, 3, none⟩ a3).cell? ⟨r, 0, none⟩ = some a0 ∧ ((((u.setCell ⟨r, 0, none⟩ a0).setCell ⟨r, 1, none⟩ a1).setCell ⟨r, 2, none⟩ a2).setCell ⟨r, 3, none⟩ a3).cell? ⟨r, 1, none⟩ = some a1 ∧ ((((u.setCell ⟨r, 0, none⟩ a0).setCell ⟨r, 1, none⟩ a1).setCell ⟨r, 2, none⟩ a2).setCell ⟨r, 3, none⟩ a3).cell? ⟨r, 2, none⟩ = some a2 ∧ ((((u.setCell ⟨r, 0, none⟩ a0).setCell ⟨r, 1, none⟩ a1).setCell ⟨r, 2, none⟩ a2).setCell ⟨r, 3, none⟩ a3).cell? ⟨r, 3, none⟩ = some a3 := by
  have e1 : (u.setCell ⟨r, 0, none⟩ a0).cell? ⟨r, 1, none⟩ = some v1 := by rw [World.cell?_setCell_other _ _ _ _ (by simp)]; exact h1
  have e2 : ((u.setCell ⟨r, 0, none⟩ a0).setCell ⟨r, 1, none⟩ a1).cell? ⟨r, 2, none⟩ = some v2 := by rw [World.cell?_setCell_other _ _ _ _ (by simp), World.cell?_setCell_other _ _ _ _ (by simp)]; exact h2
  have e3 : (((u.setCell ⟨r, 0, none⟩ a0).setCell ⟨r, 1, none⟩ a1).setCell ⟨r, 2, none⟩ a2).cell? ⟨r, 3, none⟩ = some v3 := by rw [World.cell?_setCell_other _ _ _ _ (by simp), World.cell?_setCell_other _ _ _ _ (by simp), World.cell?_setCell_other _ _ _ _ (by simp)]; exact h3
  refine ⟨?_, ?_, ?_, World.cell?_setCell_same _ _ _ e3⟩
  · rw [World.cell?_setCell_other _ _ _ _ (by simp), World.cell?_setCell_other _ _ _ _ (by simp), World.cell?_setCell_other _ _ _ _ (by simp)]; exact World.cell?_setCell_same _ _ _ h0
  · rw [World.cell?_setCell_other _ _ _ _ (by simp), World.cell?_setCell_other _ _ _ _ (by simp)]; exact World.cell?_setCell_same _ _ _ e1
  · rw [World.cell?_setCell_other _ _ _ _ (by simp)]; exact World.cell?_setCell_same _ _ _ e2

/-- the result's own place: zero, and it may be written -/
structure Rz (r : Nat) (u : World) : Prop where
  c0 : u.cell? ⟨r, 0, none⟩ = some (.int .i64 0)
  c1 : u.cell? ⟨r, 1, none⟩ = some (.int .i64 0)
  c2 : u.cell? ⟨r, 2, none⟩ = some (.string ⟨#[]⟩)
  c3 : u.cell? ⟨r, 3, none⟩ = some (.slice none 0 0)
  fz : ∀ j, u.frozen? ⟨r, j, none⟩ = false
  lt : r < u.heap.size
theorem rz_new (w : World) : Rz w.heap.size (w.alloc (.cells #[.int .i64 0, .int .i64 0, .string ⟨#[]⟩, .slice none 0 0] 24)) := by
  have hh := heap_alloc_new w (.cells #[.int .i64 0, .int .i64 0, .string ⟨#[]⟩, .slice none 0 0] 24)
  exact ⟨by simp only [World.cell?, hh]; rfl, by simp only [World.cell?, hh]; rfl, by simp only [World.cell?, hh]; rfl, by simp only [World.cell?, hh]; rfl, fun j => by simp only [World.frozen?, hh]; simp, by simp⟩
theorem Rz.tn {F : Nat → Prop} {r : Nat} {u u' : World} (h : Rz r u) (t : Tn F u u') (hn : ¬ F r) : Rz r u' :=
  ⟨by rw [t.cell h.lt hn]; exact h.c0, by rw [t.cell h.lt hn]; exact h.c1, by rw [t.cell h.lt hn]; exact h.c2, by rw [t.cell h.lt hn]; exact h.c3, fun j => by rw [t.frozen h.lt hn]; exact h.fz j, Nat.lt_of_lt_of_le h.lt t.size⟩

/-- a thing that is refused -/
theorem rthing_no {bv : Value} {A : Nat} {l : List UInt8} {w : World} {p b : Nat} {mv mv' : Value} {row : List Int} {x : Nat} {u u' : World} {kd tg : Int} {s : ByteArray} {a : Option Addr} {n c : Nat} (hr : Hp.read l A x = none) (hu : Up (RO p b mv) w (RO p b mv') u) (ht : Tn (fun k => k = w.heap.size) u u') : RThingPost bv A l w p b mv row x (.returned (.tuple #[.agg #[.int .i64 kd, .int .i64 tg, .string s, .slice a n c], .bool false])) u' :=
  ⟨kd, tg, s, a, n, c, false, mv', rfl, ⟨hu.tn.trans ht (fun _ _ e => e) (fun i hi e => by omega), hu.own⟩, .inl ⟨rfl, hr⟩⟩

set_option maxHeartbeats 8000000 in
set_option maxRecDepth 100000 in
theorem rthing_early (bv : Value) (A : Nat) (p b : Nat) (mv : Value) (row : List Int) (l : List UInt8) (x : Nat) (w : World) (h : RQ bv A w p b mv row) (hl : LD 1 eB w bv l) (hn : l.length ≤ 1073741824) (hA : A < 18446744073709551616) (hx : x < 18446744073709551616)
    (hbad : atB l A x = false ∨ ¬ x % 8 = 0 ∨ atW l A x % 2 = 0 ∨ ¬ atW l A x / 64 % 4 = 0) :
    Calls Try.prog 50 #[.pointer (some ⟨p, 0, none⟩), .int .u64 (x : Int)] w (RThingPost bv A l w p b mv row x) := by
  have hnone : Hp.read l A x = none := by
    cases hB : atB l A x with
    | false => exact read_off hB
    | true =>
      rw [read_at hB]
      unfold readH
      simp only
      rw [if_neg]
      rintro ⟨h1, h2, h3, _⟩
      rcases hbad with e | e | e | e
      · rw [hB] at e; cases e
      · exact e h1
      · omega
      · exact e h3
  have t1 : Tn No w (w.alloc (.cells #[.int .i64 0, .int .i64 0, .string ⟨#[]⟩, .slice none 0 0] 24)) := (Tn.refl No w).alloc _
  have HAT : Hid (Calls Try.prog 67 #[.pointer (some ⟨p, 0, none⟩), .int .u64 (x : Int)] (w.alloc (.cells #[.int .i64 0, .int .i64 0, .string ⟨#[]⟩, .slice none 0 0] 24)) fun e w' => e = .returned (.tuple #[.int .u64 (atW l A x : Int), .bool (atB l A x)]) ∧ Rz w.heap.size w' ∧ Tn No w w') := hid ((rat_raw bv A p b mv row l x _ (h.no t1) (hl.no t1) hn hA hx).mono (fun e w' ⟨he, t⟩ => ⟨he, (rz_new w).tn t (fun e => e), t1.then t⟩))
  have HFIN : Hid (∀ u u', Tn No w u → Tn (fun k => k = w.heap.size) u u' → RThingPost bv A l w p b mv row x (.returned (.tuple #[.agg #[.int .i64 0, .int .i64 0, .string ⟨#[]⟩, .slice none 0 0], .bool false])) u') := hid (fun u u' t t' => rthing_no hnone (Up.no t) t')
  have hHb := atW_lt l A x
  obtain ⟨H, hH⟩ : ∃ H, atW l A x = H := ⟨_, rfl⟩
  rw [hH] at hHb
  obtain ⟨Q64, hQ64⟩ : ∃ q, H / 64 = q := ⟨_, rfl⟩
  have w64 : IntKind.u64.wrap ((H : Int) / 64) = (Q64 : Int) := by rw [← hQ64]; simp [IntKind.wrap, IntKind.bits, IntKind.signed]; omega
  obtain ⟨B, hB⟩ : ∃ B, atB l A x = B := ⟨_, rfl⟩
  rw [hH, hB] at hbad HAT
  clear h hl hn hA hx hnone t1 hH hB
  have walk : (B = false ∨ (B = true ∧ ((x : Int) % 8 != 0) = true) ∨ (B = true ∧ ((x : Int) % 8 != 0) = false ∧ ((H : Int) % 2 == 0) = true) ∨ (B = true ∧ ((x : Int) % 8 != 0) = false ∧ ((H : Int) % 2 == 0) = false ∧ ((Q64 : Int) % 4 != 0) = true)) := by
    by_cases g1 : B = false
    · exact .inl g1
    · have b1 : B = true := by simpa using g1
      by_cases g2 : x % 8 = 0
      · have b2 : ((x : Int) % 8 != 0) = false := by simp; omega
        by_cases g3 : H % 2 = 0
        · exact .inr (.inr (.inl ⟨b1, b2, by simp; omega⟩))
        · refine .inr (.inr (.inr ⟨b1, b2, by simp; omega, ?_⟩))
          rcases hbad with e | e | e | e
          · exact absurd e g1
          · exact absurd g2 e
          · exact absurd e g3
          · simp; omega
      · exact .inr (.inl ⟨b1, by simp; omega⟩)
  clear hbad hQ64
  rcases walk with rfl | ⟨rfl, d1⟩ | ⟨rfl, d1, d2⟩ | ⟨rfl, d1, d2, d3⟩
  all_goals
    go_enter Try.func50, Try.ntmps50
    go_wp2_with (go_at_call 67; refine HAT.out.mono ?_; rintro e w2 ⟨rfl, hz, t2⟩; have z0 := hz.c0; have z1 := hz.c1; have z2 := hz.c2; have z3 := hz.c3; have f0 := hz.fz 0; have f1 := hz.fz 1; have f2 := hz.fz 2; have f3 := hz.fz 3; have zl := hz.lt; have HT2 := hid t2; clear hz t2)
    have K4 := hid (set4 z0 z1 z2 z3)
    refine bodyPost_ret (v := .tuple #[.agg #[.int .i64 0, .int .i64 0, .string ⟨#[]⟩, .slice none 0 0], .bool false]) (by simp [results, Try.results50, go_sem, (K4.out _ _ _ _).1, (K4.out _ _ _ _).2.1, (K4.out _ _ _ _).2.2.1, (K4.out _ _ _ _).2.2.2]) rfl ?_
    exact HFIN.out w2 _ HT2.out (((((Tn.refl (fun k => k = w.heap.size) w2).set _ _ (fun _ => rfl)).set _ _ (fun _ => rfl)).set _ _ (fun _ => rfl)).set _ _ (fun _ => rfl))
end Go.Proofs.Ytlkbnjdhokjfnaa
namespace Go.Proofs.Ytlkbnjdhokjfnaa
set_option linter.unusedSimpArgs false
set_option linter.unusedVariables false
open Go.RowKit
attribute [local go_sem ↓] Go.wp_at_zero Go.wp_at_succ

/-- a header's parts, as they are reckoned -/
structure Hd (H K T N Q2 Q64 Q256 : Nat) : Prop where
  w2 : IntKind.u64.wrap ((H : Int) / 2) = (Q2 : Int)
  w64 : IntKind.u64.wrap ((H : Int) / 64) = (Q64 : Int)
  w256 : IntKind.u64.wrap ((H : Int) / 256) = (Q256 : Int)
  k : (Q2 : Int) % 16 = (K : Int)
  t : (Q256 : Int) % 65536 = (T : Int)
  n : (H : Int) / 16777216 = (N : Int)
  kb : K < 16
  tb : T < 65536
  nb : N < 1099511627776
theorem hd_of (H : Nat) (hb : H < 18446744073709551616) : Hd H (H / 2 % 16) (H / 256 % 65536) (H / 16777216) (H / 2) (H / 64) (H / 256) := by
  refine ⟨?_, ?_, ?_, by omega, by omega, by omega, by omega, by omega, by omega⟩
  all_goals
    simp [IntKind.wrap, IntKind.bits, IntKind.signed]
    omega

/-- the same, behind one more block -/
theorem set4a {u : World} {r : Nat} {v0 v1 v2 v3 : Value} (h0 : u.cell? ⟨r, 0, none⟩ = some v0) (h1 : u.cell? ⟨r, 1, none⟩ = some v1) (h2 : u.cell? ⟨r, 2, none⟩ = some v2) (h3 : u.cell? ⟨r, 3, none⟩ = some v3) (hr : r < u.heap.size) (a0 a1 a2 a3 : Value) (ob : Obj) :
    (((((u.setCell ⟨r, 0, none⟩ a0).setCell ⟨r, 1, none⟩ a1).setCell ⟨r, 2, none⟩ a2).setCell ⟨r, 3, none⟩ a3).alloc ob).cell? ⟨r, 0, none⟩ = some a0 ∧ (((((u.setCell ⟨r, 0, none⟩ a0).setCell ⟨r, 1, none⟩ a1).setCell ⟨r, 2, none⟩ a2).setCell ⟨r, 3, none⟩ a3).alloc ob).cell? ⟨r, 1, none⟩ = some a1 ∧ (((((u.setCell ⟨r, 0, none⟩ a0).setCell ⟨r, 1, none⟩ a1).setCell ⟨r, 2, none⟩ a2).setCell ⟨r, 3, none⟩ a3).alloc ob).cell? ⟨r, 2, none⟩ = some a2 ∧ (((((u.setCell ⟨r, 0, none⟩ a0).setCell ⟨r, 1, none⟩ a1).setCell ⟨r, 2, none⟩ a2).setCell ⟨r, 3, none⟩ a3).alloc ob).cell? ⟨r, 3, none⟩ = some a3 := by
  obtain ⟨e0, e1, e2, e3⟩ := set4 h0 h1 h2 h3 a0 a1 a2 a3
  have t := (Tn.refl No ((((u.setCell ⟨r, 0, none⟩ a0).setCell ⟨r, 1, none⟩ a1).setCell ⟨r, 2, none⟩ a2).setCell ⟨r, 3, none⟩ a3)).alloc ob
  have hlt : r < ((((u.setCell ⟨r, 0, none⟩ a0).setCell ⟨r, 1, none⟩ a1).setCell ⟨r, 2, none⟩ a2).setCell ⟨r, 3, none⟩ a3).heap.size := by simpa using hr
  exact ⟨by rw [t.cell hlt (fun e => e)]; exact e0, by rw [t.cell hlt (fun e => e)]; exact e1, by rw [t.cell hlt (fun e => e)]; exact e2, by rw [t.cell hlt (fun e => e)]; exact e3⟩

set_option maxHeartbeats 8000000 in
set_option maxRecDepth 100000 in
theorem rthing_five (bv : Value) (A : Nat) (p b : Nat) (mv : Value) (row : List Int) (l : List UInt8) (x : Nat) (w : World) (h : RQ bv A w p b mv row) (hl : LD 1 eB w bv l) (hn : l.length ≤ 1073741824) (hA : A < 18446744073709551616) (hx : x < 18446744073709551616)
    (hB : atB l A x = true) (h8 : x % 8 = 0) (h2 : atW l A x % 2 = 1) (h64 : atW l A x / 64 % 4 = 0)
    (hbad : ¬ (1 ≤ atW l A x / 2 % 16 ∧ atW l A x / 2 % 16 ≤ 8 ∧ (if Hp.isRow ((atW l A x / 2 % 16 : Nat) : Int) then (atW l A x / 16777216 + 7) / 8 else atW l A x / 16777216) ≤ (l.length - (x - A) - 8) / 8)) :
    Calls Try.prog 50 #[.pointer (some ⟨p, 0, none⟩), .int .u64 (x : Int)] w (RThingPost bv A l w p b mv row x) := by
  have hnone : Hp.read l A x = none := by
    rw [read_at hB]
    unfold readH
    simp only
    rw [if_neg]
    rintro ⟨_, _, _, h1⟩
    exact hbad h1
  have t1 : Tn No w (w.alloc (.cells #[.int .i64 0, .int .i64 0, .string ⟨#[]⟩, .slice none 0 0] 24)) := (Tn.refl No w).alloc _
  have HAT : Hid (Calls Try.prog 67 #[.pointer (some ⟨p, 0, none⟩), .int .u64 (x : Int)] (w.alloc (.cells #[.int .i64 0, .int .i64 0, .string ⟨#[]⟩, .slice none 0 0] 24)) fun e w' => e = .returned (.tuple #[.int .u64 (atW l A x : Int), .bool true]) ∧ Rz w.heap.size w' ∧ RQ bv A w' p b mv row ∧ Tn No w w') := hid ((rat_raw bv A p b mv row l x _ (h.no t1) (hl.no t1) hn hA hx).mono (fun e w' ⟨he, t⟩ => ⟨by rw [he, hB], (rz_new w).tn t (fun e => e), h.no (t1.then t), t1.then t⟩))
  have HFIN : Hid (∀ u u' (kd tg : Int), Tn No w u → Tn (fun k => k = w.heap.size) u u' → RThingPost bv A l w p b mv row x (.returned (.tuple #[.agg #[.int .i64 kd, .int .i64 tg, .string ⟨#[]⟩, .slice none 0 0], .bool false])) u') := hid (fun u u' kd tg t t' => rthing_no hnone (Up.no t) t')
  have hHb := atW_lt l A x
  have hd := hd_of _ hHb
  have hBB := hB
  simp only [atB, decide_eq_true_eq] at hBB
  obtain ⟨H, hH⟩ : ∃ H, atW l A x = H := ⟨_, rfl⟩
  rw [hH] at hHb hd h2 h64 hbad HAT
  obtain ⟨Q2, hQ2⟩ : ∃ q, H / 2 = q := ⟨_, rfl⟩
  obtain ⟨Q64, hQ64⟩ : ∃ q, H / 64 = q := ⟨_, rfl⟩
  obtain ⟨Q256, hQ256⟩ : ∃ q, H / 256 = q := ⟨_, rfl⟩
  rw [hQ2, hQ64, hQ256] at hd
  rw [hQ2] at hbad
  rw [hQ64] at h64
  obtain ⟨K, hK⟩ : ∃ q, Q2 % 16 = q := ⟨_, rfl⟩
  obtain ⟨T, hT⟩ : ∃ q, Q256 % 65536 = q := ⟨_, rfl⟩
  obtain ⟨N, hN⟩ : ∃ q, H / 16777216 = q := ⟨_, rfl⟩
  rw [hK, hT, hN] at hd
  rw [hK, hN] at hbad
  obtain ⟨w2', w64, w256, hk, ht, hnn, kb, tb, nb⟩ := hd
  obtain ⟨ba, bc', hbv, hbc, hbcm, -⟩ := hl
  obtain ⟨L, hL⟩ : ∃ L, l.length = L := ⟨_, rfl⟩
  rw [hL] at hbv hbc hn hBB hbad
  obtain ⟨o, ho⟩ : ∃ o, x - A = o := ⟨_, rfl⟩
  rw [ho] at hBB hbad
  obtain ⟨rw', hrw⟩ : ∃ q, Hp.isRow (K : Int) = q := ⟨_, rfl⟩
  have HRR := hid (fun u => rrows_at hrw u)
  have e8 : ((x : Int) % 8 != 0) = false := by simp; omega
  have e2 : ((H : Int) % 2 == 0) = false := by simp; omega
  have e64 : ((Q64 : Int) % 4 != 0) = false := by simp; omega
  have s1 : (x : Int) - (A : Int) = (o : Int) := by omega
  have s2 : IntKind.u64.wrap ((x : Int) - (A : Int)) = (o : Int) := by rw [s1]; simp [IntKind.wrap, IntKind.bits, IntKind.signed]; omega
  obtain ⟨M, hM⟩ : ∃ M, (L - o - 8) / 8 = M := ⟨_, rfl⟩
  have s3 : ((L : Int) - (o : Int) - 8) / 8 = (M : Int) := by omega
  have s4 : IntKind.u64.wrap ((L : Int) - (o : Int)) = (L : Int) - (o : Int) := by simp [IntKind.wrap, IntKind.bits, IntKind.signed]; omega
  have s5 : IntKind.u64.wrap ((L : Int) - (o : Int) - 8) = (L : Int) - (o : Int) - 8 := by simp [IntKind.wrap, IntKind.bits, IntKind.signed]; omega
  have b1 : (o : Int) + 8 ≤ (L : Int) := by omega
  have b2 : (L : Int) ≤ 1073741824 := by omega
  have nbi : (N : Int) < 1099511627776 := by omega
  rw [hM] at hbad
  subst hbv
  clear h hA hx hnone t1 hH hB h8 h2 h64 hHb hQ2 hQ64 hQ256 hK hT hN hL ho hM hBB
  have cases3 : (K < 1 ∧ rw' = false) ∨ (8 < K ∧ rw' = false) ∨ (1 ≤ K ∧ K ≤ 8 ∧ rw' = false ∧ M < N) ∨ (1 ≤ K ∧ K ≤ 8 ∧ rw' = true ∧ M < (N + 7) / 8) := by
    rw [hrw] at hbad
    cases rw' with
    | false =>
      simp only [Bool.false_eq_true, if_false] at hbad
      by_cases g1 : K < 1
      · exact .inl ⟨g1, rfl⟩
      · by_cases g2 : 8 < K
        · exact .inr (.inl ⟨g2, rfl⟩)
        · exact .inr (.inr (.inl ⟨by omega, by omega, rfl, by omega⟩))
    | true =>
      simp only [if_true] at hbad
      have hk8 : 1 ≤ K ∧ K ≤ 8 := by
        simp [Hp.isRow] at hrw
        omega
      exact .inr (.inr (.inr ⟨hk8.1, hk8.2, rfl, by omega⟩))
  clear hbad hrw
  obtain ⟨kd, hkd⟩ : ∃ kd : Int, (K : Int) = kd := ⟨_, rfl⟩
  rw [hkd] at hk HRR
  have cases4 : (kd < 1 ∧ rw' = false) ∨ (1 ≤ kd ∧ 8 < kd ∧ rw' = false) ∨ (1 ≤ kd ∧ kd ≤ 8 ∧ rw' = false ∧ (M : Int) < (N : Int)) ∨ (1 ≤ kd ∧ kd ≤ 8 ∧ rw' = true ∧ (M : Int) < ((N : Int) + 7) / 8) := by
    rcases cases3 with ⟨g1, g2⟩ | ⟨g1, g2⟩ | ⟨g1, g2, g3, g4⟩ | ⟨g1, g2, g3, g4⟩
    · exact .inl ⟨by omega, g2⟩
    · exact .inr (.inl ⟨by omega, by omega, g2⟩)
    · exact .inr (.inr (.inl ⟨by omega, by omega, g3, by omega⟩))
    · exact .inr (.inr (.inr ⟨by omega, by omega, g3, by omega⟩))
  have kb0 : 0 ≤ kd := by omega
  have kb1 : kd < 16 := by omega
  clear cases3 hkd kb
  rcases cases4 with ⟨g1, rfl⟩ | ⟨g1, g2, rfl⟩ | ⟨g1, g2, rfl, g3⟩ | ⟨g1, g2, rfl, g3⟩
  · go_enter Try.func50, Try.ntmps50
    go_wp2_with (first
      | (go_at_call 67; refine HAT.out.mono ?_; rintro e w2 ⟨rfl, hz, hq, t2⟩; have z0 := hz.c0; have z1 := hz.c1; have z2 := hz.c2; have z3 := hz.c3; have f0 := hz.fz 0; have f1 := hz.fz 1; have f2 := hz.fz 2; have f3 := hz.fz 3; have zl := hz.lt; have r0 := hq.c0; have r1 := hq.c1; have rl := hq.lt; have HT2 := hid t2; clear hz t2 hq)
      | (go_at_call 33; refine (HRR.out _).mono ?_; rintro e w3 ⟨rfl, rfl⟩))
    have K4 := hid (set4a z0 z1 z2 z3 zl)
    refine bodyPost_ret (v := .tuple #[.agg #[.int .i64 kd, .int .i64 (T : Int), .string ⟨#[]⟩, .slice none 0 0], .bool false]) (by simp [results, Try.results50, go_sem, (K4.out _ _ _ _ _).1, (K4.out _ _ _ _ _).2.1, (K4.out _ _ _ _ _).2.2.1, (K4.out _ _ _ _ _).2.2.2]) rfl ?_
    exact HFIN.out w2 _ _ _ HT2.out ((((((Tn.refl (fun k => k = w.heap.size) w2).set _ _ (fun _ => rfl)).set _ _ (fun _ => rfl)).set _ _ (fun _ => rfl)).set _ _ (fun _ => rfl)).alloc _)
  · go_enter Try.func50, Try.ntmps50
    go_wp2_with (first
      | (go_at_call 67; refine HAT.out.mono ?_; rintro e w2 ⟨rfl, hz, hq, t2⟩; have z0 := hz.c0; have z1 := hz.c1; have z2 := hz.c2; have z3 := hz.c3; have f0 := hz.fz 0; have f1 := hz.fz 1; have f2 := hz.fz 2; have f3 := hz.fz 3; have zl := hz.lt; have r0 := hq.c0; have r1 := hq.c1; have rl := hq.lt; have HT2 := hid t2; clear hz t2 hq)
      | (go_at_call 33; refine (HRR.out _).mono ?_; rintro e w3 ⟨rfl, rfl⟩))
    have K4 := hid (set4a z0 z1 z2 z3 zl)
    refine bodyPost_ret (v := .tuple #[.agg #[.int .i64 kd, .int .i64 (T : Int), .string ⟨#[]⟩, .slice none 0 0], .bool false]) (by simp [results, Try.results50, go_sem, (K4.out _ _ _ _ _).1, (K4.out _ _ _ _ _).2.1, (K4.out _ _ _ _ _).2.2.1, (K4.out _ _ _ _ _).2.2.2]) rfl ?_
    exact HFIN.out w2 _ _ _ HT2.out ((((((Tn.refl (fun k => k = w.heap.size) w2).set _ _ (fun _ => rfl)).set _ _ (fun _ => rfl)).set _ _ (fun _ => rfl)).set _ _ (fun _ => rfl)).alloc _)
  · go_enter Try.func50, Try.ntmps50
    go_wp2_with (first
      | (go_at_call 67; refine HAT.out.mono ?_; rintro e w2 ⟨rfl, hz, hq, t2⟩; have z0 := hz.c0; have z1 := hz.c1; have z2 := hz.c2; have z3 := hz.c3; have f0 := hz.fz 0; have f1 := hz.fz 1; have f2 := hz.fz 2; have f3 := hz.fz 3; have zl := hz.lt; have r0 := hq.c0; have r1 := hq.c1; have rl := hq.lt; have HT2 := hid t2; clear hz t2 hq)
      | (go_at_call 33; refine (HRR.out _).mono ?_; rintro e w3 ⟨rfl, rfl⟩))
    have K4 := hid (set4a z0 z1 z2 z3 zl)
    refine bodyPost_ret (v := .tuple #[.agg #[.int .i64 kd, .int .i64 (T : Int), .string ⟨#[]⟩, .slice none 0 0], .bool false]) (by simp [results, Try.results50, go_sem, (K4.out _ _ _ _ _).1, (K4.out _ _ _ _ _).2.1, (K4.out _ _ _ _ _).2.2.1, (K4.out _ _ _ _ _).2.2.2]) rfl ?_
    exact HFIN.out w2 _ _ _ HT2.out ((((((Tn.refl (fun k => k = w.heap.size) w2).set _ _ (fun _ => rfl)).set _ _ (fun _ => rfl)).set _ _ (fun _ => rfl)).set _ _ (fun _ => rfl)).alloc _)
  · go_enter Try.func50, Try.ntmps50
    go_wp2_with (first
      | (go_at_call 67; refine HAT.out.mono ?_; rintro e w2 ⟨rfl, hz, hq, t2⟩; have z0 := hz.c0; have z1 := hz.c1; have z2 := hz.c2; have z3 := hz.c3; have f0 := hz.fz 0; have f1 := hz.fz 1; have f2 := hz.fz 2; have f3 := hz.fz 3; have zl := hz.lt; have r0 := hq.c0; have r1 := hq.c1; have rl := hq.lt; have HT2 := hid t2; clear hz t2 hq)
      | (go_at_call 33; refine (HRR.out _).mono ?_; rintro e w3 ⟨rfl, rfl⟩))
    have K4 := hid (set4a z0 z1 z2 z3 zl)
    refine bodyPost_ret (v := .tuple #[.agg #[.int .i64 kd, .int .i64 (T : Int), .string ⟨#[]⟩, .slice none 0 0], .bool false]) (by simp [results, Try.results50, go_sem, (K4.out _ _ _ _ _).1, (K4.out _ _ _ _ _).2.1, (K4.out _ _ _ _ _).2.2.1, (K4.out _ _ _ _ _).2.2.2]) rfl ?_
    exact HFIN.out w2 _ _ _ HT2.out ((((((Tn.refl (fun k => k = w.heap.size) w2).set _ _ (fun _ => rfl)).set _ _ (fun _ => rfl)).set _ _ (fun _ => rfl)).set _ _ (fun _ => rfl)).alloc _)
end Go.Proofs.Ytlkbnjdhokjfnaa
