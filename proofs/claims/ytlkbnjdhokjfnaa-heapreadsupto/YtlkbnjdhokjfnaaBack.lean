/-
  A graph that is laid is read again, numbered by breadth; one whose things stand in another order is the same.
-/
import Derived.Test.YtlkbnjdhokjfnaaEnc
namespace Go.Proofs.Ytlkbnjdhokjfnaa.Hp
set_option linter.unusedSimpArgs false
set_option linter.unusedVariables false

def size {K : Type} (t : Nd K) : Nat := 8 + 8 * words t
def total {K : Type} (ts : List (Nd K)) : Nat := (ts.map size).sum
/-- where the i-th thing lies -/
def place {K : Type} (ts : List (Nd K)) (base i : Nat) : Nat := base + total (ts.take i)
def layAll {K : Type} (φ : K → Nat) (ts : List (Nd K)) : List UInt8 := ts.flatMap (bytesOf φ)

theorem layAll_length {K : Type} (φ : K → Nat) : ∀ (ts : List (Nd K)), (layAll φ ts).length = total ts
  | [] => rfl
  | t :: ts => by
    have := layAll_length φ ts
    simp only [layAll, List.flatMap_cons, List.length_append, bytesOf_length, total, List.map_cons, List.sum_cons, size] at this ⊢
    omega
theorem total_append {K : Type} (a b : List (Nd K)) : total (a ++ b) = total a + total b := by simp [total]
theorem total_8 {K : Type} : ∀ (ts : List (Nd K)), total ts % 8 = 0
  | [] => rfl
  | t :: ts => by
    have := total_8 ts
    simp only [total, List.map_cons, List.sum_cons, size] at this ⊢
    omega
theorem total_cons {K : Type} (t : Nd K) (ts : List (Nd K)) : total (t :: ts) = size t + total ts := by simp [total]
theorem layAll_split {K : Type} (φ : K → Nat) {ts : List (Nd K)} {i : Nat} {t : Nd K} (h : ts[i]? = some t) :
    layAll φ ts = layAll φ (ts.take i) ++ (bytesOf φ t ++ layAll φ (ts.drop (i + 1))) := by
  obtain ⟨hi, e⟩ := List.getElem?_eq_some_iff.1 h
  conv => lhs; rw [← List.take_append_drop i ts, List.drop_eq_getElem_cons hi, e]
  simp [layAll]
theorem total_split {K : Type} {ts : List (Nd K)} {i : Nat} {t : Nd K} (h : ts[i]? = some t) : total ts = total (ts.take i) + size t + total (ts.drop (i + 1)) := by
  obtain ⟨hi, e⟩ := List.getElem?_eq_some_iff.1 h
  conv => lhs; rw [← List.take_append_drop i ts, List.drop_eq_getElem_cons hi, e]
  rw [total_append, total_cons]; omega

theorem place_lt {K : Type} {ts : List (Nd K)} {base i j : Nat} (hj : j ≤ ts.length) (h : i < j) : place ts base i < place ts base j := by
  unfold place
  have hi : i < ts.length := by omega
  have e : ts.take j = ts.take i ++ (ts[i] :: (ts.take j).drop (i + 1)) := by
    conv => lhs; rw [← List.take_append_drop i (ts.take j)]
    rw [List.take_take, Nat.min_eq_left (by omega)]
    congr 1
    rw [List.drop_eq_getElem_cons (by simp; omega)]
    simp
  rw [e, total_append, total_cons]
  unfold size
  omega

/-- a value of a graph of n things may be -/
def Fits (n : Nat) : V Nat → Prop
  | .small x => -4611686018427387904 ≤ x ∧ x < 4611686018427387904
  | .thing k => k < n
/-- a graph may be -/
structure MayBe (ts : List (Nd Nat)) (rs : List (V Nat)) : Prop where
  roots : ∀ v ∈ rs, Fits ts.length v
  may : ∀ t ∈ ts, May t = true
  refs : ∀ t ∈ ts, ∀ v ∈ t.refs, Fits ts.length v

theorem Fits.all {n : Nat} {v : V Nat} (h : Fits n v) : v.all (· < n) := by
  cases v with
  | small => exact trivial
  | thing => exact h

/-- what is reached of a graph that may be there is -/
theorem canon_ex {ts : List (Nd Nat)} {rs : List (V Nat)} (h : MayBe ts rs) : ∃ cs os, Canon (nth ts) rs cs os := by
  have hin : ∀ v : V Nat, Fits ts.length v → v.all (· ∈ List.range ts.length) := by
    intro v hv
    cases v with
    | small => exact trivial
    | thing k => exact List.mem_range.2 hv
  obtain ⟨row, w⟩ := walk_ends (get := nth ts) (all := List.range ts.length) (by
      intro k hk
      have hk : k < ts.length := by simpa using hk
      exact ⟨ts[k], List.getElem?_eq_getElem hk, fun v hv => hin v (h.refs _ (List.getElem_mem hk) v hv)⟩)
    ts.length 0 (meet [] rs) (by simp) (Nat.zero_le _) (meet_nodup (by simp)) (meet_from (fun v hv => hin v (h.roots v hv)) (by intro k hk; cases hk))
  exact ⟨_, _, row, w, rfl, rfl⟩

/-- Read of Lay, with its roots, is Canon -/
theorem canon_laid {ts : List (Nd Nat)} {rs : List (V Nat)} (h : MayBe ts rs) {base : Nat} (h8 : base % 8 = 0) (hb : base + total ts ≤ 9223372036854775808) (hl : ∀ t ∈ ts, len t < 1099511627776)
    {cs : List (Nd Nat)} {os : List (V Nat)} (hc : Canon (nth ts) rs cs os) : Canon (read (layAll (place ts base) ts) base) (rs.map (fun v => value (word (place ts base) v))) cs os := by
  have hp : ∀ k, k < ts.length → place ts base k % 8 = 0 ∧ place ts base k < 9223372036854775808 := by
    intro k hk
    have h1 := total_8 (ts.take k)
    have h2 := total_split (List.getElem?_eq_getElem hk)
    unfold place size at *
    omega
  have hi : ∀ a b, a < ts.length → b < ts.length → place ts base a = place ts base b → a = b := by
    intro a b ha hb e
    rcases Nat.lt_trichotomy a b with h | h | h
    · have := place_lt (ts := ts) (base := base) (by omega) h; omega
    · exact h
    · have := place_lt (ts := ts) (base := base) (by omega) h; omega
  have hr : rs.map (fun v => value (word (place ts base) v)) = rs.map (V.map (place ts base)) := by
    apply List.map_congr_left
    intro v hv
    have hf := h.roots v hv
    exact value_word _ v (fun n e => by subst e; exact hf) (fun k e => by subst e; have := (hp k hf).1; omega)
  rw [hr]
  refine Canon.map (D := (· < ts.length)) hi ?_ (fun v hv => (h.roots v hv).all) hc
  intro k t hk ht
  have hm : t ∈ ts := List.mem_of_getElem? ht
  refine ⟨?_, fun v hv => (h.refs t hm v hv).all⟩
  rw [layAll_split (place ts base) ht]
  refine read_laid (h.may t hm) (hl t hm) (fun n hn => h.refs t hm _ hn) (fun j hj => ?_) ?_ (hp k hk).1
  · have := hp j (h.refs t hm _ hj); omega
  · rw [layAll_length]; rfl

/-- things that have moved by k places, with more behind them that nobody reaches, hold the same -/
theorem canon_turned {ts us : List (Nd Nat)} {rs : List (V Nat)} (h : MayBe ts rs) {φ : Nat → Nat} (hi : ∀ a b, a < ts.length → b < ts.length → φ a = φ b → a = b)
    (hu : ∀ k t, ts[k]? = some t → us[φ k]? = some (t.map φ)) {cs : List (Nd Nat)} {os : List (V Nat)} (hc : Canon (nth ts) rs cs os) : Canon (nth us) (rs.map (V.map φ)) cs os := by
  refine Canon.map (D := (· < ts.length)) hi ?_ (fun v hv => (h.roots v hv).all) hc
  intro k t hk ht
  exact ⟨hu k t ht, fun v hv => (h.refs t (List.mem_of_getElem? ht) v hv).all⟩

end Go.Proofs.Ytlkbnjdhokjfnaa.Hp
