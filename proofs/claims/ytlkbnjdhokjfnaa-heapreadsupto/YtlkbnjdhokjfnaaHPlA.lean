/-
  heap: the plain side of the statements: what may be by its plain parts; a walk and its steps; what is laid is read again.
-/
import Derived.Test.YtlkbnjdhokjfnaaHLoop
namespace Go.Proofs.Ytlkbnjdhokjfnaa
set_option linter.unusedSimpArgs false
set_option linter.unusedVariables false
open Go.RowKit

theorem fits_of {n : Nat} {r : Rf} (ok : okR r) (h : Hp.Fits n (vOf r)) : fitsR n r = true := by
  obtain ⟨a, x⟩ := r
  simp only [okR] at ok
  simp only [fitsR, decide_eq_true_eq]
  rcases ok with rfl | ⟨rfl, hx⟩
  · simp only [vOf, show ¬ ((1 : Int) = 2) by omega, if_false, Hp.Fits] at h
    omega
  · simp only [vOf, if_true, Hp.Fits] at h
    omega
/-- a graph may be, by its plain parts -/
theorem mayG_of {ts : List Th} {rs : List Rf} (h1 : ∀ t ∈ ts, okT t.pl) (h2 : ∀ r ∈ rs, okR r) (h : Hp.MayBe (ts.map Th.nd) (rs.map vOf)) : mayG ts rs = true := by
  have hl : (ts.map Th.nd).length = ts.length := by simp
  simp only [mayG, Bool.and_eq_true, List.all_eq_true]
  refine ⟨fun r hr => fits_of (h2 r hr) ?_, fun t ht => ?_⟩
  · have := h.roots _ (List.mem_map_of_mem hr)
    rwa [hl] at this
  · simp only [mayTh, Bool.and_eq_true, List.all_eq_true]
    refine ⟨?_, fun r hr => fits_of (h1 t ht r hr) ?_⟩
    · have := h.may _ (List.mem_map_of_mem ht)
      simpa [Hp.May, Th.nd, mayT] using this
    · have := h.refs _ (List.mem_map_of_mem ht) (vOf r) (by simp only [Th.nd]; exact List.mem_map_of_mem hr)
      rwa [hl] at this

section
variable {K : Type} [DecidableEq K] {get : K → Option (Hp.Nd K)} {s0 seen row : List K} {i : Nat}
/-- whoever walks on from the beginning walks on from each step -/
theorem steps_walk (h : Hp.Steps get s0 i seen) (w : Hp.Walk get 0 s0 row) : Hp.Walk get i seen row := by
  induction h with
  | zero => exact w
  | @succ i seen k t _ e g ih =>
    have h := ih
    cases h with
    | stop _ hi => rw [hi] at e; simp at e
    | next e' g' w' =>
      rw [e] at e'; cases e'
      rw [g] at g'; cases g'
      exact w'
/-- so nothing is missing on the way -/
theorem steps_there (h : Hp.Steps get s0 i seen) (w : Hp.Walk get 0 s0 row) {k : K} (e : seen[i]? = some k) : get k ≠ none := by
  have h' := steps_walk h w
  cases h' with
  | stop _ hi => rw [hi] at e; simp at e
  | next e' g' _ =>
    rw [e] at e'; cases e'
    rw [g']; simp
end

/-- what is numbered may be -/
theorem canon_may {K : Type} [DecidableEq K] {get : K → Option (Hp.Nd K)} {rs : List (Hp.V K)} {cs : List (Hp.Nd Nat)} {os : List (Hp.V Nat)} (h : Hp.Canon get rs cs os) (hm : ∀ k t, get k = some t → Hp.May t = true)
    (hs : ∀ k t, get k = some t → ∀ n, Hp.V.small n ∈ t.refs → -4611686018427387904 ≤ n ∧ n < 4611686018427387904) (hr : ∀ n, Hp.V.small n ∈ rs → -4611686018427387904 ≤ n ∧ n < 4611686018427387904) : Hp.MayBe cs os := by
  obtain ⟨row, w, e1, e2⟩ := h.ex
  have hold : ∀ k ∈ row, ∃ t, get k = some t ∧ ∀ v ∈ t.refs, v.all (· ∈ row) := by
    intro k hk
    obtain ⟨j, hj⟩ := List.getElem?_of_mem hk
    exact w.holds j (Nat.zero_le _) k hj
  have hlen : cs.length = row.length := by
    rw [e1]
    unfold Hp.things
    have : row.filterMap (fun k => (get k).map (Hp.Nd.map (Hp.pos row))) = row.map (fun k => ((get k).getD ⟨0, 0, [], []⟩).map (Hp.pos row)) := by
      rw [← List.filterMap_eq_map]
      apply Hp.fm_congr
      intro x hx
      obtain ⟨t', ht', -⟩ := hold x hx
      simp [ht']
    rw [this, List.length_map]
  have hfit : ∀ v : Hp.V K, v.all (· ∈ row) → (∀ n, v = .small n → -4611686018427387904 ≤ n ∧ n < 4611686018427387904) → Hp.Fits cs.length (v.map (Hp.pos row)) := by
    intro v hv hn
    cases v with
    | small n => exact hn n rfl
    | thing k => rw [hlen]; exact Hp.pos_lt hv
  have hthing : ∀ t ∈ cs, ∃ k u, k ∈ row ∧ get k = some u ∧ t = u.map (Hp.pos row) := by
    intro t ht
    rw [e1] at ht
    simp only [Hp.things, List.mem_filterMap, Option.map_eq_some_iff] at ht
    obtain ⟨k, hk, u, hu, rfl⟩ := ht
    exact ⟨k, u, hk, hu, rfl⟩
  refine ⟨fun v hv => ?_, fun t ht => ?_, fun t ht v hv => ?_⟩
  · rw [e2] at hv
    simp only [Hp.roots, List.mem_map] at hv
    obtain ⟨x, hx, rfl⟩ := hv
    refine hfit x ?_ (fun n e => hr n (e ▸ hx))
    obtain ⟨m, em⟩ := w.more
    have := Hp.meet_has [] x hx
    cases x with
    | small n => exact trivial
    | thing k => rw [em]; exact List.mem_append_left _ this
  · obtain ⟨k, u, _, hu, rfl⟩ := hthing t ht
    rw [Hp.May.map]
    exact hm k u hu
  · obtain ⟨k, u, hk, hu, rfl⟩ := hthing t ht
    simp only [Hp.Nd.map, List.mem_map] at hv
    obtain ⟨x, hx, rfl⟩ := hv
    obtain ⟨t', ht', hall⟩ := hold k hk
    rw [hu] at ht'; cases ht'
    exact hfit x (hall x hx) (fun n e => hs k u hu n (e ▸ hx))
end Go.Proofs.Ytlkbnjdhokjfnaa
namespace Go.Proofs.Ytlkbnjdhokjfnaa
set_option linter.unusedSimpArgs false
set_option linter.unusedVariables false
open Go.RowKit

theorem flat_congr {α β : Type} {f g : α → List β} : ∀ {l : List α}, (∀ x ∈ l, f x = g x) → l.flatMap f = l.flatMap g
  | [], _ => rfl
  | x :: l, h => by rw [List.flatMap_cons, List.flatMap_cons, h x (List.mem_cons_self ..), flat_congr (fun y hy => h y (List.mem_cons_of_mem _ hy))]
section
variable {t : Th}
theorem nd_len (h : mayT t = true) : Hp.len t.nd = lenR t.kind t.bytes t.refs.length := by
  obtain ⟨_, _, h3, h4⟩ := may_bounds (k := t.kind) (tag := t.tag) (s := t.bytes) (n := t.refs.length) h
  have hb : t.nd.bytes.length = t.bytes.size := by simp [Th.nd]
  have hr : t.nd.refs.length = t.refs.length := by simp [Th.nd]
  have hk : t.nd.kind = t.kind := rfl
  unfold Hp.len lenR
  rw [hb, hr, hk]
  cases hi : Hp.isRow t.kind with
  | true =>
    rw [if_pos rfl, h3 hi, if_neg (by intro e; rw [e] at hi; simp [Hp.isRow] at hi)]
    omega
  | false =>
    have : t.bytes.size = 0 := by rw [h4 hi]; rfl
    simp only [Bool.false_eq_true, if_false]
    split <;> omega
theorem nd_head (h : mayT t = true) : Hp.head t.nd = headR t.kind t.tag t.bytes t.refs.length := by
  unfold Hp.head headR
  rw [nd_len h]
  rfl
theorem nd_size (h : mayT t = true) : Hp.size t.nd = t.size := by
  obtain ⟨_, _, h3, h4⟩ := may_bounds (k := t.kind) (tag := t.tag) (s := t.bytes) (n := t.refs.length) h
  have hl := nd_len h
  have hb : t.nd.bytes.length = t.bytes.size := by simp [Th.nd]
  have hk : t.nd.kind = t.kind := rfl
  unfold Hp.size Th.size sizeR Hp.words
  rw [hl, hb, hk]
  unfold lenR
  cases hi : Hp.isRow t.kind with
  | true =>
    rw [if_pos rfl, h3 hi, if_neg (by intro e; rw [e] at hi; simp [Hp.isRow] at hi)]
    omega
  | false =>
    have : t.bytes.size = 0 := by rw [h4 hi]; rfl
    simp only [Bool.false_eq_true, if_false]
    split <;> omega
end
theorem nd_total : ∀ {ts : List Th}, (∀ t ∈ ts, mayT t = true) → Hp.total (ts.map Th.nd) = totR ts
  | [], _ => rfl
  | t :: ts, h => by
    have h1 := nd_size (h t (List.mem_cons_self ..))
    have h2 := nd_total (ts := ts) (fun x hx => h x (List.mem_cons_of_mem _ hx))
    simp only [Hp.total, List.map_cons, List.sum_cons, totR] at h2 ⊢
    omega
theorem place_eq {ts : List Th} (h : ∀ t ∈ ts, mayT t = true) (at_ : Nat) (hp : at_ + totR ts ≤ 9223372036854775808) {i : Nat} (hi : i < ts.length) : (placesR (at_ : Int) ts)[i]? = some ((Hp.place (ts.map Th.nd) at_ i : Nat) : Int) := by
  have hle := totR_le (ts := ts) i
  have hm : ∀ t ∈ ts.take i, mayT t = true := fun t ht => h t (List.mem_of_mem_take ht)
  have htt := nd_total hm
  simp only [placesR, List.getElem?_map, List.getElem?_range hi, Option.map_some, Option.some.injEq, Hp.place]
  rw [← List.map_take, htt]
  simp [IntKind.wrap, IntKind.bits, IntKind.signed]
  omega
theorem word_eq {ts : List Th} (h : ∀ t ∈ ts, mayT t = true) (at_ : Nat) (hp : at_ + totR ts ≤ 9223372036854775808) {r : Rf} (hr : fitsR ts.length r = true) : (wordR (placesR (at_ : Int) ts) r).toNat = Hp.word (Hp.place (ts.map Th.nd) at_) (vOf r) ∧ 0 ≤ wordR (placesR (at_ : Int) ts) r := by
  obtain ⟨a, x⟩ := r
  simp only [fitsR, decide_eq_true_eq] at hr
  rcases hr with ⟨rfl, hx⟩ | ⟨rfl, hx⟩
  · simp only [wordR, vOf, show ¬ ((1 : Int) = 2) by omega, if_false, Hp.word]
    exact ⟨trivial, by omega⟩
  · simp only [wordR, vOf, if_true, Hp.word]
    rw [place_eq h at_ hp (show x.toNat < ts.length by omega)]
    simp
theorem bytes_eq {ts : List Th} (h : ∀ t ∈ ts, mayT t = true) (at_ : Nat) (hp : at_ + totR ts ≤ 9223372036854775808) {t : Th} (ht : mayT t = true) (hr : ∀ r ∈ t.refs, fitsR ts.length r = true) : bytesR (placesR (at_ : Int) ts) t = Hp.bytesOf (Hp.place (ts.map Th.nd) at_) t.nd := by
  obtain ⟨_, _, h3, h4⟩ := may_bounds (k := t.kind) (tag := t.tag) (s := t.bytes) (n := t.refs.length) ht
  have hrefs : refsB (placesR (at_ : Int) ts) t.refs = Hp.lay (t.nd.refs.map (Hp.word (Hp.place (ts.map Th.nd) at_))) := by
    unfold refsB Hp.lay
    simp only [Th.nd, List.map_map, List.flatMap_map]
    apply flat_congr
    intro r hr'
    rw [(word_eq h at_ hp (hr r hr')).1]
    rfl
  unfold bytesR Hp.bytesOf
  rw [nd_head ht]
  have hk : t.nd.kind = t.kind := rfl
  unfold Hp.behind
  rw [hk]
  cases hi : Hp.isRow t.kind with
  | true =>
    have hn : t.refs = [] := List.length_eq_zero_iff.1 (h3 hi)
    have h8 : ¬ t.kind = 8 := by intro e; rw [e] at hi; simp [Hp.isRow] at hi
    rw [hn]
    have hb : t.nd.bytes = t.bytes.data.toList := rfl
    have hl : t.bytes.data.toList.length = t.bytes.size := by simp
    simp only [if_true, cloB, if_neg h8, refsB, List.flatMap_nil, List.append_nil, hb, hl, List.append_assoc]
  | false =>
    have he := h4 hi
    have hz : t.bytes.size = 0 := by rw [he]; rfl
    have hd : t.bytes.data.toList = [] := by rw [he]
    simp only [Bool.false_eq_true, if_false, hd, List.append_nil, hz]
    rw [hrefs]
    have hpad : Hp.pad 0 = [] := rfl
    rw [hpad]
    simp only [Hp.wordsOf, hk, cloB, Hp.lay, List.flatMap_append, List.append_nil, List.nil_append, List.append_assoc]
    congr 1
    split
    · simp [Hp.codeBase, Th.nd]
    · rfl
theorem layR_eq {ts : List Th} {rs : List Rf} (hm : mayG ts rs = true) (at_ : Nat) (hp : at_ + totR ts ≤ 9223372036854775808) : layR (placesR (at_ : Int) ts) ts = Hp.layAll (Hp.place (ts.map Th.nd) at_) (ts.map Th.nd) ∧ ∃ roots : List Nat, rs.map (wordR (placesR (at_ : Int) ts)) = Hp.cs roots ∧ roots = (rs.map vOf).map (Hp.word (Hp.place (ts.map Th.nd) at_)) := by
  obtain ⟨m1, m2, m3⟩ := may_parts hm
  have hmt : ∀ t ∈ ts, mayT t = true := List.all_eq_true.1 m2
  refine ⟨?_, _, ?_, rfl⟩
  · unfold layR Hp.layAll
    rw [List.flatMap_map]
    apply flat_congr
    intro t ht
    exact bytes_eq hmt at_ hp (hmt t ht) (List.all_eq_true.1 (m3 t ht))
  · simp only [Hp.cs, List.map_map]
    apply List.map_congr_left
    intro r hr
    have := word_eq hmt at_ hp (List.all_eq_true.1 m1 r hr)
    simp only [Function.comp]
    omega
end Go.Proofs.Ytlkbnjdhokjfnaa
namespace Go.Proofs.Ytlkbnjdhokjfnaa
set_option linter.unusedSimpArgs false
set_option linter.unusedVariables false
open Go.RowKit

theorem canon_back {ts : List Th} {rs : List Rf} (hm : mayG ts rs = true) (hb : ∀ t ∈ ts, t.bytes.size ≤ 1073741824 ∧ t.refs.length ≤ 1073741824) (at_ : Nat) (h8 : at_ % 8 = 0) (hp : at_ + totR ts ≤ 9223372036854775808) :
    ∃ (roots : List Nat) (cs : List (Hp.Nd Nat)) (os : List (Hp.V Nat)), rs.map (wordR (placesR (at_ : Int) ts)) = Hp.cs roots ∧ (∀ x ∈ roots, x < 18446744073709551616) ∧ Hp.Canon (Hp.nth (ts.map Th.nd)) (rs.map vOf) cs os ∧ Hp.Canon (getN (layR (placesR (at_ : Int) ts) ts) at_) (roots.map Hp.value) cs os := by
  obtain ⟨ok1, ok2, mb⟩ := may_ok hm
  obtain ⟨m1, m2, m3⟩ := may_parts hm
  have hmt : ∀ t ∈ ts, mayT t = true := List.all_eq_true.1 m2
  obtain ⟨hl, roots, hr1, hr2⟩ := layR_eq hm at_ hp
  obtain ⟨cs, os, hc⟩ := Hp.canon_ex mb
  have htot := nd_total hmt
  have hlen : ∀ t ∈ ts.map Th.nd, Hp.len t < 1099511627776 := by
    intro t ht
    obtain ⟨u, hu, rfl⟩ := List.mem_map.1 ht
    rw [nd_len (hmt u hu)]
    have := hb u hu
    unfold lenR
    split <;> omega
  have hcl := Hp.canon_laid mb h8 (by rw [htot]; exact hp) hlen hc
  refine ⟨roots, cs, os, hr1, ?_, hc, ?_⟩
  · intro x hx
    have : ((x : Nat) : Int) ∈ Hp.cs roots := List.mem_map_of_mem hx
    rw [← hr1] at this
    obtain ⟨r, hr, e⟩ := List.mem_map.1 this
    have hfr : fitsR ts.length r = true := List.all_eq_true.1 m1 r hr
    obtain ⟨a, y⟩ := r
    simp only [fitsR, decide_eq_true_eq] at hfr
    rcases hfr with ⟨rfl, hy⟩ | ⟨rfl, hy⟩
    · simp only [wordR, show ¬ ((1 : Int) = 2) by omega, if_false] at e
      omega
    · simp only [wordR, if_true] at e
      have hlt : y.toNat < ts.length := by omega
      rw [place_eq hmt at_ hp hlt] at e
      have h1 := totR_le (ts := ts) y.toNat
      have h2 := nd_total (ts := ts.take y.toNat) (fun t ht => hmt t (List.mem_of_mem_take ht))
      simp only [Option.getD_some, Hp.place] at e
      rw [← List.map_take, h2] at e
      omega
  · have hg : getN (layR (placesR (at_ : Int) ts) ts) at_ = Hp.read (Hp.layAll (Hp.place (ts.map Th.nd) at_) (ts.map Th.nd)) at_ := by
      rw [hl]
      funext x
      exact getN_read _ _ _
    rw [hg, hr2, List.map_map]
    exact hcl

/-- what Read says of what Lay left -/
theorem read_of_canon {b : List UInt8} {at_ : Nat} {roots : List Nat} {w w' : World} {e : Ending} {cs : List (Hp.Nd Nat)} {os : List (Hp.V Nat)} (h : ReadPost b at_ roots w e w') (hpl : placeB (at_ : Int) (b.length : Int) = true) (hc : Hp.Canon (getN b at_) (roots.map Hp.value) cs os) :
    ∃ tv rv out ros, e = .returned (.tuple #[.agg #[tv, rv], .int .i64 0]) ∧ Made w tv rv out ros w' ∧ out.map Th.nd = cs ∧ ros.map vOf = os := by
  obtain ⟨row0, wk0, e1, e2⟩ := hc.ex
  rcases h with ⟨h, _⟩ | ⟨_, tv, rv, out, ros, row, he, hmd, wk, h1, h2⟩ | ⟨_, _, _, i, row, k, st, hk, hn⟩
  · rw [hpl] at h; cases h
  · have := wk.same wk0
    subst this
    exact ⟨tv, rv, out, ros, he, hmd, h1.trans e1.symm, h2.trans e2.symm⟩
  · exact absurd hn (steps_there st wk0 hk)
end Go.Proofs.Ytlkbnjdhokjfnaa
namespace Go.Proofs.Ytlkbnjdhokjfnaa
set_option linter.unusedSimpArgs false
set_option linter.unusedVariables false
open Go.RowKit
attribute [local go_sem ↓] Go.wp_at_zero Go.wp_at_succ

def loopCs : List (Hp.Nd Nat) := [⟨1, 2, [], [.thing 0, .thing 1, .small (-1)]⟩, ⟨2, 0, [97, 98, 99], []⟩]
def loopOs : List (Hp.V Nat) := [.thing 0]
theorem loop_canon (g : Nat) : Hp.Canon (Hp.nth ([loopT0, loopT1 g].map Th.nd)) ([((2 : Int), (1 : Int))].map vOf) loopCs loopOs :=
  ⟨[1, 0], .next (k := 1) (t := (loopT1 g).nd) rfl rfl (.next (k := 0) (t := loopT0.nd) rfl rfl (.stop _ rfl)), rfl, rfl⟩
theorem loop_may (g : Nat) : mayG [loopT0, loopT1 g] [((2 : Int), (1 : Int))] = true := by rfl
theorem loop_tot (g : Nat) : totR [loopT0, loopT1 g] = 48 := by simp [totR, Th.size, sizeR, loopT0, loopT1, loopRefs, ByteArray.size]
theorem loop_words (g : Nat) : [((2 : Int), (1 : Int))].map (wordR (placesR 4096 [loopT0, loopT1 g])) = [4112] := by rfl
theorem loop_first (g : Nat) : (layR (placesR 4096 [loopT0, loopT1 g]) [loopT0, loopT1 g])[0]? = some 5 := by rfl
theorem cs_inj {l m : List Nat} (h : Hp.cs l = Hp.cs m) : l = m := by
  induction l generalizing m with
  | nil => cases m with
    | nil => rfl
    | cons => simp [Hp.cs] at h
  | cons x l ih => cases m with
    | nil => simp [Hp.cs] at h
    | cons y m =>
      simp only [Hp.cs, List.map_cons, List.cons.injEq] at h
      rw [show x = y by omega, ih h.2]
/-- what is read of it -/
structure KnownG (w : World) (tv rv : Value) (w' : World) : Prop where
  tn : Tn No w w'
  ex : ∃ out ros, GA w' tv rv out ros ∧ (∀ t ∈ out, okT t.pl) ∧ (∀ r ∈ ros, okR r) ∧ out.map Th.nd = loopCs ∧ ros.map vOf = loopOs
theorem loop_back (g : Nat) : Hp.Canon (getN (layR (placesR 4096 [loopT0, loopT1 g]) [loopT0, loopT1 g]) 4096) ([4112].map Hp.value) loopCs loopOs := by
  obtain ⟨roots, cs, os, h1, _, h3, h4⟩ := canon_back (loop_may g) (by intro t ht; simp only [List.mem_cons, List.not_mem_nil, or_false] at ht; rcases ht with rfl | rfl <;> simp [loopT0, loopT1, loopRefs, ByteArray.size]) 4096 (by decide) (by rw [loop_tot]; omega)
  have e : roots = [4112] := by
    apply cs_inj
    rw [← h1]
    exact loop_words g
  rw [e] at h4
  obtain ⟨e1, e2⟩ := h3.same (loop_canon g)
  rw [e1, e2] at h4
  exact h4
theorem same_loop {g : Nat} {out : List Th} {ros : List Rf} (h1 : ∀ t ∈ out, okT t.pl) (h2 : ∀ r ∈ ros, okR r) (e1 : out.map Th.nd = loopCs) (e2 : ros.map vOf = loopOs) : SameP out ros [loopT0, loopT1 g] [(2, 1)] := by
  have hc := loop_canon g
  have ha := hc.again
  refine ⟨mayG_of h1 h2 ?_, loop_may g, loopCs, loopOs, by rw [e1, e2]; exact ha, hc⟩
  rw [e1, e2]
  obtain ⟨_, _, mb⟩ := may_ok (loop_may g)
  refine canon_may hc (fun k t ht => mb.may t (List.mem_of_getElem? ht)) (fun k t ht n hn => mb.refs t (List.mem_of_getElem? ht) _ hn) (fun n hn => mb.roots _ hn)
end Go.Proofs.Ytlkbnjdhokjfnaa
