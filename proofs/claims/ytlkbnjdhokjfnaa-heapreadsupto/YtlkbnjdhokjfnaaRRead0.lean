/-
  heap's reference: a graph that is being read.
-/
import Derived.Test.YtlkbnjdhokjfnaaRThC
import Derived.Test.YtlkbnjdhokjfnaaHReadEq
import Derived.Test.YtlkbnjdhokjfnaaHRead6
namespace Go.Proofs.Ytlkbnjdhokjfnaa
set_option linter.unusedSimpArgs false
set_option linter.unusedVariables false
open Go.RowKit

/-- a graph that is being read -/
structure Rq (bv : Value) (A : Nat) (lo : Nat) (w3 : World) (A0 : Nat → Prop) (p b cb : Nat) (mv tvo rvo : Value) (row : List Int) (out : List Th) (ros : List Rf) (wr : World) : Prop where
  up : Up A0 w3 (actr p b mv tvo rvo cb) wr
  ra : RQ bv A wr p b mv row
  c0 : wr.cell? ⟨cb, 0, none⟩ = some tvo
  c1 : wr.cell? ⟨cb, 1, none⟩ = some rvo
  cf : ∀ j, wr.frozen? ⟨cb, j, none⟩ = false
  cl : cb < wr.heap.size
  cn : ¬ RO p b mv cb
  tl : LR 4 eT wr tvo out
  tn : ∀ g, tvo.ownBlock = some g → lo ≤ g ∧ ¬ RO p b mv g ∧ g ≠ cb
  rl : LR 2 eR wr rvo ros
  rn : ∀ g, rvo.ownBlock = some g → lo ≤ g ∧ ¬ RO p b mv g ∧ g ≠ cb ∧ tvo.ownBlock ≠ some g
  each : ∀ t ∈ out, TO wr lo (actr p b mv tvo rvo cb) t

section
variable {bv : Value} {A : Nat} {lo : Nat} {w3 : World} {A0 : Nat → Prop} {p b cb : Nat} {mv tvo rvo : Value} {row : List Int} {out : List Th} {ros : List Rf} {wr : World}
/-- the row turns, and what is new -/
theorem Rq.later (h : Rq bv A lo w3 A0 p b cb mv tvo rvo row out ros wr) {w' : World} {mv2 : Value} {row' : List Int} (u : Up (RO p b mv) wr (RO p b mv2) w') (ra : RQ bv A w' p b mv2 row') : Rq bv A lo w3 A0 p b cb mv2 tvo rvo row' out ros w' := by
  have hz := u.tn.size
  have hcl := h.cl
  have hno : ∀ g, g < wr.heap.size → ¬ RO p b mv g → ¬ RO p b mv2 g := fun g hg hn e => by
    rcases u.own g e with e | e
    · exact hn e
    · omega
  have ua : Up (actr p b mv tvo rvo cb) wr (actr p b mv2 tvo rvo cb) w' := u.more (fun k => tvo.ownBlock = some k ∨ rvo.ownBlock = some k ∨ k = cb)
  exact {
    up := h.up.trans ua
    ra := ra
    c0 := by rw [u.tn.cell hcl h.cn]; exact h.c0
    c1 := by rw [u.tn.cell hcl h.cn]; exact h.c1
    cf := fun j => by rw [u.tn.frozen hcl h.cn]; exact h.cf j
    cl := by omega
    cn := hno cb hcl h.cn
    tl := h.tl.tn u.tn (fun g hg => (h.tn g hg).2.1)
    tn := fun g hg => ⟨(h.tn g hg).1, hno g (h.tl.rw.lt g hg) (h.tn g hg).2.1, (h.tn g hg).2.2⟩
    rl := h.rl.tn u.tn (fun g hg => (h.rn g hg).2.1)
    rn := fun g hg => ⟨(h.rn g hg).1, hno g (h.rl.rw.lt g hg) (h.rn g hg).2.1, (h.rn g hg).2.2⟩
    each := fun t ht => (h.each t ht).up ua }
theorem Rq.no (h : Rq bv A lo w3 A0 p b cb mv tvo rvo row out ros wr) {w' : World} (t : Tn No wr w') : Rq bv A lo w3 A0 p b cb mv tvo rvo row out ros w' := h.later (Up.no t) (h.ra.no t)

/-- one more root -/
theorem Rq.root (h : Rq bv A lo w3 A0 p b cb mv tvo rvo row out ros wr) (hlo : lo ≤ wr.heap.size) (r : Rf) (c : Nat) (k0 : wr.cell? ⟨c, 0, none⟩ = some (.int .i64 r.1)) (k1 : wr.cell? ⟨c, 1, none⟩ = some (.int .i64 r.2)) (hl : ros.length + 1 ≤ 4294967296) :
    ∃ rvo' w5, (Builtin.append_ #[22, 22] 22 #[rvo, .slice (some ⟨c, 0, none⟩) 1 1]).run Try.prog wr = .ok rvo' w5 ∧ (∃ a n c, rvo' = .slice a n c) ∧ w5.cell? ⟨cb, 1, none⟩ = some rvo ∧ w5.frozen? ⟨cb, 1, none⟩ = false ∧ cb < w5.heap.size ∧
      Rq bv A lo w3 A0 p b cb mv tvo rvo' row out (ros ++ [r]) (w5.setCell ⟨cb, 1, none⟩ rvo') := by
  obtain ⟨rvo', w5, hrun, hlr, hou⟩ := lref_push h.rl r c k0 k1 hl
  have hcl := h.cl
  have z5 := hou.tn.size
  have rcb : rvo.ownBlock ≠ some cb := fun e => (h.rn cb e).2.2.1 rfl
  have e0 : w5.cell? ⟨cb, 0, none⟩ = some tvo := by rw [hou.tn.cell hcl rcb]; exact h.c0
  have e1 : w5.cell? ⟨cb, 1, none⟩ = some rvo := by rw [hou.tn.cell hcl rcb]; exact h.c1
  have f5 : ∀ j, w5.frozen? ⟨cb, j, none⟩ = false := fun j => by rw [hou.tn.frozen hcl rcb]; exact h.cf j
  have rnew : ∀ g, rvo'.ownBlock = some g → lo ≤ g ∧ ¬ RO p b mv g ∧ g ≠ cb ∧ tvo.ownBlock ≠ some g := fun g hg => by
    rcases hou.own g hg with e | e
    · exact h.rn g e
    · refine ⟨by omega, fun e' => ?_, by omega, fun e' => ?_⟩
      · have := h.ra.olt g e'; omega
      · have := h.tl.rw.lt g e'; omega
  have uo : Up (actr p b mv tvo rvo cb) wr (actr p b mv tvo rvo' cb) w5 := by
    refine ⟨hou.tn.mono (fun k _ e => .inr (.inr (.inl e))), fun k e => ?_⟩
    rcases e with e | e | e | e
    · exact .inl (.inl e)
    · exact .inl (.inr (.inl e))
    · rcases hou.own k e with e | e
      · exact .inl (.inr (.inr (.inl e)))
      · exact .inr e
    · exact .inl (.inr (.inr (.inr e)))
  have uc : Up (actr p b mv tvo rvo' cb) w5 (actr p b mv tvo rvo' cb) (w5.setCell ⟨cb, 1, none⟩ rvo') := ⟨(Tn.refl _ w5).set _ _ (fun _ => .inr (.inr (.inr rfl))), fun _ e => .inl e⟩
  have uall := uo.trans uc
  have tcell : Tn (fun k => k = cb) w5 (w5.setCell ⟨cb, 1, none⟩ rvo') := (Tn.refl (fun k => k = cb) w5).set _ _ (fun _ => rfl)
  refine ⟨rvo', w5, hrun, ?_, e1, f5 1, by omega, ?_⟩
  · obtain ⟨a, c, e, _⟩ := hlr.rw.form
    exact ⟨a, _, c, e⟩
  exact {
    up := h.up.trans uall
    ra := (h.ra.kept hou.tn (fun k hk e => (h.rn k e).2.1 hk)).kept tcell (fun k hk e => h.cn (by rw [← e]; exact hk))
    c0 := by rw [World.cell?_setCell_other _ _ _ _ (by simp)]; exact e0
    c1 := World.cell?_setCell_same w5 _ _ e1
    cf := fun j => by rw [World.frozen?_setCell]; exact f5 j
    cl := by simp; omega
    cn := h.cn
    tl := (h.tl.tn hou.tn (fun g hg e => (h.rn g e).2.2.2 hg)).tn tcell (fun g hg e => (h.tn g hg).2.2 e)
    tn := h.tn
    rl := hlr.tn tcell (fun g hg e => (rnew g hg).2.2.1 e)
    rn := rnew
    each := fun t ht => (h.each t ht).up uall }

/-- one more thing -/
theorem Rq.thing (h : Rq bv A lo w3 A0 p b cb mv tvo rvo row out ros wr) (hlo : lo ≤ wr.heap.size) (t : Th) (hto : TO wr lo (actr p b mv tvo rvo cb) t) (c : Nat) (hc : ∀ j, j < 4 → wr.cell? ⟨c, j, none⟩ = (eT t)[j]?) (hl : out.length + 1 ≤ 4294967296) :
    ∃ tvo' w5, (Builtin.append_ #[25, 25] 25 #[tvo, .slice (some ⟨c, 0, none⟩) 1 1]).run Try.prog wr = .ok tvo' w5 ∧ (∃ a n c, tvo' = .slice a n c) ∧ w5.cell? ⟨cb, 0, none⟩ = some tvo ∧ w5.frozen? ⟨cb, 0, none⟩ = false ∧ cb < w5.heap.size ∧
      Rq bv A lo w3 A0 p b cb mv tvo' rvo row (out ++ [t]) ros (w5.setCell ⟨cb, 0, none⟩ tvo') := by
  obtain ⟨va, vk, hvf, _⟩ := hto.lr.rw.form
  obtain ⟨tvo', w5, hrun, hlr, hou⟩ := lth_push h.tl t (by rw [hvf]; rfl) c hc hl
  have hcl := h.cl
  have z5 := hou.tn.size
  have tcb : tvo.ownBlock ≠ some cb := fun e => (h.tn cb e).2.2 rfl
  have e0 : w5.cell? ⟨cb, 0, none⟩ = some tvo := by rw [hou.tn.cell hcl tcb]; exact h.c0
  have e1 : w5.cell? ⟨cb, 1, none⟩ = some rvo := by rw [hou.tn.cell hcl tcb]; exact h.c1
  have f5 : ∀ j, w5.frozen? ⟨cb, j, none⟩ = false := fun j => by rw [hou.tn.frozen hcl tcb]; exact h.cf j
  have tnew : ∀ g, tvo'.ownBlock = some g → lo ≤ g ∧ ¬ RO p b mv g ∧ g ≠ cb := fun g hg => by
    rcases hou.own g hg with e | e
    · exact h.tn g e
    · refine ⟨by omega, fun e' => ?_, by omega⟩
      have := h.ra.olt g e'; omega
  have uo : Up (actr p b mv tvo rvo cb) wr (actr p b mv tvo' rvo cb) w5 := by
    refine ⟨hou.tn.mono (fun k _ e => .inr (.inl e)), fun k e => ?_⟩
    rcases e with e | e | e | e
    · exact .inl (.inl e)
    · rcases hou.own k e with e | e
      · exact .inl (.inr (.inl e))
      · exact .inr e
    · exact .inl (.inr (.inr (.inl e)))
    · exact .inl (.inr (.inr (.inr e)))
  have uc : Up (actr p b mv tvo' rvo cb) w5 (actr p b mv tvo' rvo cb) (w5.setCell ⟨cb, 0, none⟩ tvo') := ⟨(Tn.refl _ w5).set _ _ (fun _ => .inr (.inr (.inr rfl))), fun _ e => .inl e⟩
  have uall := uo.trans uc
  have tcell : Tn (fun k => k = cb) w5 (w5.setCell ⟨cb, 0, none⟩ tvo') := (Tn.refl (fun k => k = cb) w5).set _ _ (fun _ => rfl)
  refine ⟨tvo', w5, hrun, ?_, e0, f5 0, by omega, ?_⟩
  · obtain ⟨a, c, e, _⟩ := hlr.rw.form
    exact ⟨a, _, c, e⟩
  exact {
    up := h.up.trans uall
    ra := (h.ra.kept hou.tn (fun k hk e => (h.tn k e).2.1 hk)).kept tcell (fun k hk e => h.cn (by rw [← e]; exact hk))
    c0 := World.cell?_setCell_same w5 _ _ e0
    c1 := by rw [World.cell?_setCell_other _ _ _ _ (by simp)]; exact e1
    cf := fun j => by rw [World.frozen?_setCell]; exact f5 j
    cl := by simp; omega
    cn := h.cn
    tl := hlr.tn tcell (fun g hg e => (tnew g hg).2.2 e)
    tn := tnew
    rl := (h.rl.tn hou.tn (fun g hg e => (h.rn g hg).2.2.2 e)).tn tcell (fun g hg e => (h.rn g hg).2.2.1 e)
    rn := fun g hg => ⟨(h.rn g hg).1, (h.rn g hg).2.1, (h.rn g hg).2.2.1, fun e => by
      rcases hou.own g e with e | e
      · exact (h.rn g hg).2.2.2 e
      · have := h.rl.rw.lt g hg; omega⟩
    each := fun x hx => by
      rcases List.mem_append.1 hx with hx | hx
      · exact (h.each x hx).up uall
      · simp only [List.mem_singleton] at hx
        subst hx
        exact hto.up uall }
/-- a word's value is asked for, and laid behind the roots -/
theorem Rq.rootval (h : Rq bv A lo w3 A0 p b cb mv tvo rvo row out ros wr) (hlo : lo ≤ wr.heap.size) (x : Nat) (hx : x < 18446744073709551616) (hl : row.length + 1 ≤ 4294967296) (hl2 : ros.length + 1 ≤ 4294967296) (u : World) (t : Tn No wr u) :
    Calls Try.prog 49 #[.pointer (some ⟨p, 0, none⟩), .int .u64 (x : Int)] u fun e w2 => ∃ mv2 r1 r2, e = .returned (.agg #[.int .i64 r1, .int .i64 r2]) ∧ (w2.cell? ⟨cb, 1, none⟩ = some rvo ∧ cb < w2.heap.size) ∧
      ∃ rvo' w5, (Builtin.append_ #[22, 22] 22 #[rvo, .slice (some ⟨w2.heap.size, 0, none⟩) 1 1]).run Try.prog (w2.alloc (.cells #[.int .i64 r1, .int .i64 r2] 61)) = .ok rvo' w5 ∧ (∃ a n c, rvo' = .slice a n c) ∧ w5.cell? ⟨cb, 1, none⟩ = some rvo ∧ w5.frozen? ⟨cb, 1, none⟩ = false ∧ cb < w5.heap.size ∧
        Rq bv A lo w3 A0 p b cb mv2 tvo rvo' (meetW row x) out (ros ++ [valW (meetW row x) x]) (w5.setCell ⟨cb, 1, none⟩ rvo') := by
  have hu := h.no t
  refine (rref_raw bv A p b mv row x u hu.ra hx hl).mono ?_
  rintro e w2 ⟨mv2, he, ra2, up2⟩
  have h2 := hu.later up2 ra2
  have t3 : Tn No w2 (w2.alloc (.cells #[.int .i64 (valW (meetW row x) x).1, .int .i64 (valW (meetW row x) x).2] 61)) := (Tn.refl No w2).alloc _
  have hz := t.size
  have hz2 := up2.tn.size
  obtain ⟨rvo', w5, a1, a2, a3, a4, a5, a6⟩ := (h2.no t3).root (by simp; omega) (valW (meetW row x) x) w2.heap.size (by rw [World.cell?_alloc_new]; rfl) (by rw [World.cell?_alloc_new]; rfl) hl2
  exact ⟨mv2, _, _, he, ⟨h2.c1, h2.cl⟩, rvo', w5, a1, a2, a3, a4, a5, a6⟩

/-- a thing that was read is laid behind the others -/
theorem Rq.next {i : Nat} {l : List UInt8} {s0 : List Nat} {rown : List Nat} (h : Rq bv A lo w3 A0 p b cb mv tvo rvo (Hp.cs rown) out ros wr) (hlo : lo ≤ wr.heap.size) (hst : Hp.Steps (getN l A) s0 i rown) (hnds : out.map Th.nd = Hp.upto (getN l A) rown i) (hoks : ∀ t ∈ out, okT t.pl) (hb : l.length ≤ 1073741824)
    {x : Nat} (hx : rown[i]? = some x) {kd tg : Int} {s : ByteArray} {ws : List Nat} (hT : Hp.read l A x = some ⟨kd, tg, s.data.toList, ws.map Hp.value⟩) (hwlt : ∀ y ∈ ws, y < 18446744073709551616) {rv mv2 : Value} {w2 : World} (hin : Rv bv A wr p b mv (Hp.cs rown) ws rv w2 mv2) (hrow : rown.length ≤ 2147483648) (hol : out.length + 1 ≤ 4294967296) (u : World) (t : Tn No w2 u) :
    ∃ row' : List Nat, ∃ tvo' w5, u.cell? ⟨cb, 0, none⟩ = some tvo ∧ cb < u.heap.size ∧ (Builtin.append_ #[25, 25] 25 #[tvo, .slice (some ⟨u.heap.size, 0, none⟩) 1 1]).run Try.prog (u.alloc (.cells #[.int .i64 kd, .int .i64 tg, .string s, rv] 24)) = .ok tvo' w5 ∧ (∃ a n c, tvo' = .slice a n c) ∧ w5.cell? ⟨cb, 0, none⟩ = some tvo ∧ w5.frozen? ⟨cb, 0, none⟩ = false ∧ cb < w5.heap.size ∧
      ∃ out', Hp.Steps (getN l A) s0 (i + 1) row' ∧ Rq bv A lo w3 A0 p b cb mv2 tvo' rvo (Hp.cs row') out' ros (w5.setCell ⟨cb, 0, none⟩ tvo') ∧ out'.map Th.nd = Hp.upto (getN l A) row' (i + 1) ∧ ∀ t ∈ out', okT t.pl := by
  have hg : getN l A x = some ⟨kd, tg, s.data.toList, ws.map Hp.value⟩ := by rw [getN_read]; exact hT
  have hg2 := hg
  simp only [getN, Option.map_eq_some_iff] at hg2
  obtain ⟨T, hrT, hTn⟩ := hg2
  simp only [TR.nd, Hp.Nd.mk.injEq] at hTn
  obtain ⟨k1, k2, k3, k4⟩ := hTn
  have hP := thingP_vals hrT
  have hBd := TR.bounds hrT
  have hfl : (fromL l A x).length ≤ l.length := by
    obtain ⟨o, e⟩ := fromL_drop l A x
    rw [e]; simp
  have hwl := wordsIn_length T.vals
  have hwl2 : ws.length = (wordsIn T.vals).length := by have := congrArg List.length k4; simpa using this.symm
  have hsz : s.size = T.bytes.length := by rw [k3, Array.length_toList]; rfl
  have hu := hin.no t
  have hra := hu.ra
  have hlr := hu.lr
  have hcs := meetWs_cast ws rown
  rw [hcs] at hra hlr
  obtain ⟨row', hrow'⟩ : ∃ row', Hp.meet rown (ws.map Hp.value) = row' := ⟨_, rfl⟩
  rw [hrow'] at hra hlr
  have hrl' : (Hp.cs row').length ≤ 8589934592 := by
    rw [← hrow', ← hcs]
    obtain ⟨m, em, hm⟩ := meetWs_more ws (Hp.cs rown)
    rw [em]; simp [Hp.cs] at hm ⊢; omega
  have hst' : Hp.Steps (getN l A) s0 (i + 1) row' := by
    have := Hp.Steps.succ hst hx hg
    rw [← hrow']; exact this
  have h2 := h.later hu.up hra
  obtain ⟨th, hth⟩ : ∃ th : Th, th = ⟨kd, tg, s, rv, ws.map (valW (Hp.cs row'))⟩ := ⟨_, rfl⟩
  have hz := hin.up.tn.size
  have hz2 := t.size
  have hto : TO u lo (actr p b mv2 tvo rvo cb) th := by
    rw [hth]
    refine ⟨hlr, fun g hg' => ?_, by rw [← k1]; exact hBd.1, by rw [← k2]; exact hBd.2, ?_, ?_, ?_⟩
    · obtain ⟨r1, r3⟩ := hu.new g hg'
      refine ⟨by omega, fun e => ?_⟩
      rcases e with e | e | e | e
      · exact r3 e
      · have := h.tl.rw.lt g e; omega
      · have := h.rl.rw.lt g e; omega
      · have := h.cl; omega
    · intro r hr
      obtain ⟨y, hy, rfl⟩ := List.mem_map.1 hr
      exact valW_ok2 (hwlt y hy) hrl'
    · show s.size ≤ _
      omega
    · simp only [List.length_map]; omega
  have t3 : Tn No u (u.alloc (.cells #[.int .i64 kd, .int .i64 tg, .string s, rv] 24)) := (Tn.refl No u).alloc _
  obtain ⟨tvo', w5, a1, a2, a3, a4, a5, a6⟩ := (h2.no t3).thing (by simp; omega) th (hto.up (Up.no t3)) u.heap.size (fun j hj => by
    rw [World.cell?_alloc_new, hth]
    match j, hj with
    | 0, _ => rfl
    | 1, _ => rfl
    | 2, _ => rfl
    | 3, _ => rfl) hol
  have hnd : th.nd = (⟨kd, tg, s.data.toList, ws.map Hp.value⟩ : Hp.Nd Nat).map (Hp.pos row') := by
    rw [hth]
    simp only [Th.nd, Hp.Nd.map, Hp.Nd.mk.injEq, true_and, List.map_map]
    apply List.map_congr_left
    intro y _
    exact (valW_cast row' y).1
  refine ⟨row', tvo', w5, h2.c0, h2.cl, a1, a2, a3, a4, a5, out ++ [th], hst', a6, ?_, ?_⟩
  · rw [List.map_append, hnds]
    have := hst.upto hx hg
    have e : Hp.meet rown (ws.map Hp.value) = row' := hrow'
    rw [e] at this
    rw [this]
    simp [hnd]
  · intro y hy
    rcases List.mem_append.1 hy with hy | hy
    · exact hoks y hy
    · simp only [List.mem_singleton] at hy
      subst hy
      rw [hth]
      intro r hr
      obtain ⟨z, _, rfl⟩ := List.mem_map.1 hr
      exact (valW_cast row' z).2
end

theorem Rq.fin {bv : Value} {A : Nat} {lo : Nat} {w3 : World} {A0 : Nat → Prop} {p q cb : Nat} {mv tvo rvo : Value} {row : List Nat} {out : List Th} {wr : World} {b : List UInt8} {at_ : Nat} {roots : List Nat} {i : Nat}
    (h : Rq bv A lo w3 A0 p q cb mv tvo rvo (Hp.cs row) out (roots.map (valW (Hp.cs (Hp.meet [] (roots.map Hp.value))))) wr) (hst : Hp.Steps (getN b at_) (Hp.meet [] (roots.map Hp.value)) i row) (hnds : out.map Th.nd = Hp.upto (getN b at_) row i) (hb : b.length ≤ 1073741824) (hrl : roots.length ≤ 1073741824) (hrw : ∀ x ∈ roots, x < 18446744073709551616) :
    GO wr lo tvo rvo out (roots.map (valW (Hp.cs (Hp.meet [] (roots.map Hp.value))))) ∧ (∀ r ∈ roots.map (valW (Hp.cs (Hp.meet [] (roots.map Hp.value)))), okR r) ∧ (roots.map (valW (Hp.cs (Hp.meet [] (roots.map Hp.value))))).map vOf = Hp.roots row (roots.map Hp.value) := by
  have hrow0 : (Hp.cs (Hp.meet [] (roots.map Hp.value))).length ≤ 8589934592 := by
    have e := meetWs_cast roots []
    rw [← e]
    obtain ⟨m, em, hm⟩ := meetWs_more roots (Hp.cs [])
    rw [em]; simp [Hp.cs] at hm ⊢; omega
  have hlen : out.length ≤ b.length := by
    have h1 := congrArg List.length hnds
    rw [List.length_map] at h1
    have h2 := upto_len (getN b at_) row i
    have h3 := steps_lt hst
    omega
  refine ⟨⟨h.tl, fun g hg => (h.tn g hg).1, fun t ht => (h.each t ht).less (fun k e => .inr (.inl e)), h.rl, fun g hg => ⟨(h.rn g hg).1, (h.rn g hg).2.2.2⟩, ?_, by omega, by simpa using hrl⟩, ?_, ?_⟩
  · intro r hr
    obtain ⟨y, hy, rfl⟩ := List.mem_map.1 hr
    exact valW_ok2 (hrw y hy) hrow0
  · intro r hr
    obtain ⟨y, hy, rfl⟩ := List.mem_map.1 hr
    exact (valW_cast _ y).2
  · unfold Hp.roots
    rw [List.map_map, List.map_map]
    apply List.map_congr_left
    intro y hy
    simp only [Function.comp]
    rw [(valW_cast _ y).1]
    have hm : ∃ m, row = Hp.meet [] (roots.map Hp.value) ++ m := by
      clear hnds hlen h
      induction hst with
      | zero => exact ⟨[], by simp⟩
      | @succ i seen k t _ _ _ ih =>
        obtain ⟨m, e⟩ := ih
        obtain ⟨m', e'⟩ := Hp.meet_more t.refs seen
        exact ⟨m ++ m', by rw [e', e, List.append_assoc]⟩
    obtain ⟨m, em⟩ := hm
    refine Hp.V.map_congr (Hp.meet_has [] (Hp.value y) (List.mem_map_of_mem hy)) (fun k hk => ?_)
    rw [em, Hp.pos_append hk]


set_option maxHeartbeats 4000000 in
/-- a thing that is read, of whatever header -/
theorem rthing_raw (bv : Value) (A : Nat) (p b : Nat) (mv : Value) (row : List Int) (l : List UInt8) (x : Nat) (w : World) (h : RQ bv A w p b mv row) (hl : LD 1 eB w bv l) (hn : l.length ≤ 1073741824) (hAL : A + l.length ≤ 9223372036854775808) (hx : x < 18446744073709551616) (hbo0 : 0 < l.length → ∀ g, bv.ownBlock = some g → ¬ RO p b mv g) (hrl : row.length ≤ 3221225000) :
    Calls Try.prog 50 #[.pointer (some ⟨p, 0, none⟩), .int .u64 (x : Int)] w (RThingPost bv A l w p b mv row x) := by
  have hA : A < 18446744073709551616 := by omega
  by_cases he : atB l A x = false ∨ ¬ x % 8 = 0 ∨ atW l A x % 2 = 0 ∨ ¬ atW l A x / 64 % 4 = 0
  · exact rthing_early bv A p b mv row l x w h hl hn hA hx he
  have hB : atB l A x = true := by
    cases hB : atB l A x with
    | false => exact absurd (.inl hB) he
    | true => rfl
  have hbo := hbo0 (by simp only [atB, decide_eq_true_eq] at hB; omega)
  have h8 : x % 8 = 0 := Classical.byContradiction (fun e => he (.inr (.inl e)))
  have h2 : atW l A x % 2 = 1 := by
    have : ¬ atW l A x % 2 = 0 := fun e => he (.inr (.inr (.inl e)))
    omega
  have h64 : atW l A x / 64 % 4 = 0 := Classical.byContradiction (fun e => he (.inr (.inr (.inr e))))
  by_cases hb5 : 1 ≤ atW l A x / 2 % 16 ∧ atW l A x / 2 % 16 ≤ 8 ∧ (if Hp.isRow ((atW l A x / 2 % 16 : Nat) : Int) then (atW l A x / 16777216 + 7) / 8 else atW l A x / 16777216) ≤ (l.length - (x - A) - 8) / 8
  · obtain ⟨k1, k2, k3⟩ := hb5
    cases hr : Hp.isRow ((atW l A x / 2 % 16 : Nat) : Int) with
    | true =>
      rw [hr, if_pos rfl] at k3
      exact rthing_rows bv A p b mv row l x w h hl hn hA hx hB h8 h2 h64 hr k3
    | false =>
      rw [hr, if_neg (by simp)] at k3
      by_cases hk : atW l A x / 2 % 16 = 8
      · by_cases hg : 1 ≤ atW l A x / 16777216 ∧ atW l A x / 256 % 65536 = 0 ∧ 4194304 ≤ atW l A (x + 8) ∧ (atW l A (x + 8) - 4194304) % 16 = 0 ∧ (atW l A (x + 8) - 4194304) / 16 < 4194304
        · exact rthing_cl bv A p b mv row l x w h hl hn hAL hx hbo hrl hB h8 h2 h64 hk k3 hg
        · exact rthing_clno bv A p b mv row l x w h hl hn hAL hx hbo hrl hB h8 h2 h64 hk k3 hg
      · exact rthing_plain bv A p b mv row l x w h hl hn hAL hx hbo hrl hB h8 h2 h64 hr ⟨k1, by omega⟩ k3
  · exact rthing_five bv A p b mv row l x w h hl hn hA hx hB h8 h2 h64 hb5
end Go.Proofs.Ytlkbnjdhokjfnaa
