/-
  The numbering by breadth, in plain functions: what is reached from roots, in the order in which it is met, is the same however things are called; what is numbered so and numbered again stays as it is.
-/
namespace Go.Proofs.Ytlkbnjdhokjfnaa.Hp
set_option linter.unusedSimpArgs false
set_option linter.unusedVariables false

/-- a value: a small number, or the thing of that name -/
inductive V (K : Type) where
  | small (n : Int)
  | thing (k : K)
/-- a thing -/
structure Nd (K : Type) where
  kind : Int
  tag : Int
  bytes : List UInt8
  refs : List (V K)

def V.map {K L : Type} (φ : K → L) : V K → V L
  | .small n => .small n
  | .thing k => .thing (φ k)
def Nd.map {K L : Type} (φ : K → L) (t : Nd K) : Nd L := ⟨t.kind, t.tag, t.bytes, t.refs.map (V.map φ)⟩
/-- all things that a value is are such -/
def V.all {K : Type} (D : K → Prop) : V K → Prop
  | .small _ => True
  | .thing k => D k

theorem V.map_map {K L J : Type} (φ : K → L) (ψ : L → J) (v : V K) : (v.map φ).map ψ = v.map (fun k => ψ (φ k)) := by cases v <;> rfl
theorem V.map_congr {K L : Type} {φ ψ : K → L} {D : K → Prop} {v : V K} (hv : v.all D) (h : ∀ k, D k → φ k = ψ k) : v.map φ = v.map ψ := by
  cases v with
  | small => rfl
  | thing k => simp only [V.map]; rw [h k hv]
theorem Nd.map_map {K L J : Type} (φ : K → L) (ψ : L → J) (t : Nd K) : (t.map φ).map ψ = t.map (fun k => ψ (φ k)) := by
  simp only [Nd.map, List.map_map, Nd.mk.injEq, true_and]
  apply List.map_congr_left
  intro v _
  exact V.map_map φ ψ v
theorem Nd.map_congr {K L : Type} {φ ψ : K → L} {D : K → Prop} {t : Nd K} (ht : ∀ v ∈ t.refs, v.all D) (h : ∀ k, D k → φ k = ψ k) : t.map φ = t.map ψ := by
  simp only [Nd.map, Nd.mk.injEq, true_and]
  apply List.map_congr_left
  intro v hv
  exact V.map_congr (ht v hv) h

theorem fm_congr {α β : Type} {f g : α → Option β} : ∀ {l : List α}, (∀ x ∈ l, f x = g x) → l.filterMap f = l.filterMap g
  | [], _ => rfl
  | x :: l, h => by
    simp only [List.filterMap_cons]
    rw [h x (List.mem_cons_self ..), fm_congr (fun y hy => h y (List.mem_cons_of_mem _ hy))]

section
variable {K : Type} [DecidableEq K]

/-- where a name stands -/
def pos : List K → K → Nat
  | [], _ => 0
  | x :: l, k => if x = k then 0 else pos l k + 1

theorem pos_append {l m : List K} {k : K} (h : k ∈ l) : pos (l ++ m) k = pos l k := by
  induction l with
  | nil => cases h
  | cons x l ih =>
    simp only [List.cons_append, pos]
    by_cases e : x = k
    · simp [e]
    · rw [if_neg e, if_neg e, ih]
      rcases List.mem_cons.1 h with h | h
      · exact absurd h.symm e
      · exact h
theorem pos_new {l : List K} {k : K} (h : k ∉ l) : pos (l ++ [k]) k = l.length := by
  induction l with
  | nil => simp [pos]
  | cons x l ih =>
    have e : x ≠ k := fun e => h (by simp [e])
    simp only [List.cons_append, pos, if_neg e, List.length_cons]
    rw [ih (fun k' => h (List.mem_cons_of_mem _ k'))]
theorem pos_lt {l : List K} {k : K} (h : k ∈ l) : pos l k < l.length := by
  induction l with
  | nil => cases h
  | cons x l ih =>
    simp only [pos, List.length_cons]
    split
    · omega
    · rename_i e
      have := ih ((List.mem_cons.1 h).resolve_left (fun h => e h.symm))
      omega
theorem get_pos {l : List K} {k : K} (h : k ∈ l) : l[pos l k]? = some k := by
  induction l with
  | nil => cases h
  | cons x l ih =>
    simp only [pos]
    split
    · rename_i e; simp [e]
    · rename_i e
      simpa using ih ((List.mem_cons.1 h).resolve_left (fun h => e h.symm))
theorem pos_get {l : List K} (hn : l.Nodup) {i : Nat} {k : K} (h : l[i]? = some k) : pos l k = i := by
  induction l generalizing i with
  | nil => simp at h
  | cons x l ih =>
    rw [List.nodup_cons] at hn
    cases i with
    | zero => simp at h; simp [pos, h]
    | succ i =>
      simp at h
      have e : x ≠ k := fun e => hn.1 (e ▸ List.mem_of_getElem? h)
      simp only [pos, if_neg e]
      rw [ih hn.2 h]

/-- a value is met -/
def meet1 (seen : List K) : V K → List K
  | .small _ => seen
  | .thing k => if k ∈ seen then seen else seen ++ [k]
/-- values are met, in order -/
def meet (seen : List K) (l : List (V K)) : List K := l.foldl meet1 seen

theorem meet_cons (seen : List K) (v : V K) (l : List (V K)) : meet seen (v :: l) = meet (meet1 seen v) l := rfl
theorem meet_append (seen : List K) (l m : List (V K)) : meet seen (l ++ m) = meet (meet seen l) m := by simp [meet]

theorem meet1_more (seen : List K) (v : V K) : ∃ m, meet1 seen v = seen ++ m := by
  cases v with
  | small n => exact ⟨[], by simp [meet1]⟩
  | thing k =>
    simp only [meet1]
    split
    · exact ⟨[], by simp⟩
    · exact ⟨[k], rfl⟩
theorem meet_more (l : List (V K)) : ∀ (seen : List K), ∃ m, meet seen l = seen ++ m := by
  induction l with
  | nil => exact fun seen => ⟨[], by simp [meet]⟩
  | cons v l ih =>
    intro seen
    obtain ⟨m, e⟩ := meet1_more seen v
    obtain ⟨m', e'⟩ := ih (meet1 seen v)
    exact ⟨m ++ m', by rw [meet_cons, e', e, List.append_assoc]⟩
theorem meet1_nodup {seen : List K} (h : seen.Nodup) (v : V K) : (meet1 seen v).Nodup := by
  cases v with
  | small n => exact h
  | thing k =>
    simp only [meet1]
    split
    · exact h
    · rename_i e
      rw [List.nodup_append]
      refine ⟨h, by simp, fun a ha b hb => ?_⟩
      simp at hb; subst hb
      intro e'; subst e'; exact e ha
theorem meet_nodup {l : List (V K)} : ∀ {seen : List K}, seen.Nodup → (meet seen l).Nodup := by
  induction l with
  | nil => exact fun h => h
  | cons v l ih => exact fun h => ih (meet1_nodup h v)
/-- all that are met stand there -/
theorem meet_has {l : List (V K)} : ∀ (seen : List K), ∀ v ∈ l, v.all (· ∈ meet seen l) := by
  induction l with
  | nil => intro _ v h; cases h
  | cons x l ih =>
    intro seen v hv
    rcases List.mem_cons.1 hv with h | h
    · subst h
      cases v with
      | small n => exact trivial
      | thing k =>
        have : k ∈ meet1 seen (.thing k) := by
          simp only [meet1]; split
          · assumption
          · simp
        obtain ⟨m, e⟩ := meet_more l (meet1 seen (.thing k))
        simp only [V.all, meet_cons, e]
        exact List.mem_append_left _ this
    · exact ih (meet1 seen x) v h
/-- what stands there stood there, or was met -/
theorem meet_from {D : K → Prop} {l : List (V K)} (hl : ∀ v ∈ l, v.all D) : ∀ {seen : List K}, (∀ k ∈ seen, D k) → ∀ k ∈ meet seen l, D k := by
  induction l with
  | nil => exact fun h => h
  | cons v l ih =>
    intro seen h
    refine ih (fun v hv => hl v (List.mem_cons_of_mem _ hv)) (fun k hk => ?_)
    have hv := hl v (List.mem_cons_self ..)
    cases v with
    | small n => exact h k hk
    | thing j =>
      simp only [meet1] at hk
      split at hk
      · exact h k hk
      · rcases List.mem_append.1 hk with hk | hk
        · exact h k hk
        · simp at hk; subst hk; exact hv

/-- from the i-th thing that was met on: what is met in the end -/
inductive Walk (get : K → Option (Nd K)) : Nat → List K → List K → Prop where
  | stop {i : Nat} (seen : List K) : i = seen.length → Walk get i seen seen
  | next {i : Nat} {seen row : List K} {k : K} {t : Nd K} : seen[i]? = some k → get k = some t → Walk get (i + 1) (meet seen t.refs) row → Walk get i seen row

theorem Walk.same {get : K → Option (Nd K)} {i : Nat} {seen row row' : List K} (h : Walk get i seen row) (h' : Walk get i seen row') : row = row' := by
  induction h generalizing row' with
  | stop seen hi =>
    cases h' with
    | stop => rfl
    | next e _ _ => rw [hi] at e; simp at e
  | next e g _ ih =>
    cases h' with
    | stop _ hi => rw [hi] at e; simp at e
    | next e' g' w' =>
      rw [e] at e'; cases e'
      rw [g] at g'; cases g'
      exact ih w'

theorem Walk.more {get : K → Option (Nd K)} {i : Nat} {seen row : List K} (h : Walk get i seen row) : ∃ m, row = seen ++ m := by
  induction h with
  | stop seen _ => exact ⟨[], by simp⟩
  | @next i seen row k t _ _ _ ih =>
    obtain ⟨m, e⟩ := ih
    obtain ⟨m', e'⟩ := meet_more t.refs seen
    exact ⟨m' ++ m, by rw [e, e', List.append_assoc]⟩

theorem Walk.nodup {get : K → Option (Nd K)} {i : Nat} {seen row : List K} (h : Walk get i seen row) (hn : seen.Nodup) : row.Nodup := by
  induction h with
  | stop => exact hn
  | next _ _ _ ih => exact ih (meet_nodup hn)

/-- each that is met from the i-th on is there, and what it holds is met -/
theorem Walk.holds {get : K → Option (Nd K)} {i : Nat} {seen row : List K} (h : Walk get i seen row) :
    ∀ j, i ≤ j → ∀ k, row[j]? = some k → ∃ t, get k = some t ∧ ∀ v ∈ t.refs, v.all (· ∈ row) := by
  induction h with
  | stop seen hi =>
    intro j hj k e
    rw [List.getElem?_eq_none (by omega)] at e; cases e
  | @next i seen row k t e g w ih =>
    intro j hj k' e'
    by_cases h : j = i
    · subst h
      obtain ⟨m, em⟩ := w.more
      obtain ⟨m', em'⟩ := meet_more t.refs seen
      have hi : j < seen.length := by
        rcases Nat.lt_or_ge j seen.length with h | h
        · exact h
        · rw [List.getElem?_eq_none h] at e; cases e
      have : row[j]? = seen[j]? := by
        rw [em, em', List.append_assoc, List.getElem?_append_left hi]
      rw [this, e] at e'
      cases e'
      refine ⟨t, g, fun v hv => ?_⟩
      have := meet_has seen v hv
      cases v with
      | small n => exact trivial
      | thing x => rw [em]; exact List.mem_append_left _ this
    · exact ih j (by omega) k' e'

theorem nodup_len : ∀ (l all : List K), l.Nodup → (∀ k ∈ l, k ∈ all) → l.length ≤ all.length
  | [], all, _, _ => Nat.zero_le _
  | x :: l, all, hn, hs => by
    rw [List.nodup_cons] at hn
    have hx := hs x (List.mem_cons_self ..)
    have := nodup_len l (all.erase x) hn.2 (fun k hk => (List.mem_erase_of_ne (a := k) (b := x) (fun e => hn.1 (by subst e; exact hk))).2 (hs k (List.mem_cons_of_mem _ hk)))
    rw [List.length_erase_of_mem hx] at this
    have : 0 < all.length := List.length_pos_of_mem hx
    simp only [List.length_cons]
    omega

/-- where there are finitely many names, and each has a thing whose values are such, one comes to an end -/
theorem walk_ends {get : K → Option (Nd K)} {all : List K} (hg : ∀ k ∈ all, ∃ t, get k = some t ∧ ∀ v ∈ t.refs, v.all (· ∈ all)) :
    ∀ (m i : Nat) (seen : List K), all.length ≤ i + m → i ≤ seen.length → seen.Nodup → (∀ k ∈ seen, k ∈ all) → ∃ row, Walk get i seen row := by
  have len : ∀ (seen : List K), seen.Nodup → (∀ k ∈ seen, k ∈ all) → seen.length ≤ all.length := by
    intro seen hn hs
    exact nodup_len seen all hn hs
  intro m
  induction m with
  | zero =>
    intro i seen hm hi hn hs
    have := len seen hn hs
    have : i = seen.length := by omega
    subst this
    exact ⟨seen, .stop seen rfl⟩
  | succ m ih =>
    intro i seen hm hi hn hs
    rcases Nat.lt_or_ge i seen.length with h | h
    · obtain ⟨t, g, ht⟩ := hg seen[i] (hs _ (List.getElem_mem h))
      obtain ⟨m', em⟩ := meet_more t.refs seen
      obtain ⟨row, w⟩ := ih (i + 1) (meet seen t.refs) (by omega) (by rw [em]; simp; omega) (meet_nodup hn) (meet_from ht hs)
      exact ⟨row, .next (List.getElem?_eq_getElem h) g w⟩
    · have : i = seen.length := by omega
      subst this
      exact ⟨seen, .stop seen rfl⟩

end

section
variable {K L : Type} [DecidableEq K] [DecidableEq L]

omit [DecidableEq K] [DecidableEq L] in
theorem mem_map_inj {φ : K → L} {D : K → Prop} (hi : ∀ a b, D a → D b → φ a = φ b → a = b) {l : List K} (hl : ∀ k ∈ l, D k) {k : K} (hk : D k) : φ k ∈ l.map φ ↔ k ∈ l := by
  constructor
  · intro h
    obtain ⟨x, hx, e⟩ := List.mem_map.1 h
    rw [← hi x k (hl x hx) hk e]; exact hx
  · exact fun h => List.mem_map_of_mem h
theorem pos_map {φ : K → L} {D : K → Prop} (hi : ∀ a b, D a → D b → φ a = φ b → a = b) {l : List K} (hl : ∀ k ∈ l, D k) {k : K} (hk : D k) : pos (l.map φ) (φ k) = pos l k := by
  induction l with
  | nil => rfl
  | cons x l ih =>
    simp only [List.map_cons, pos]
    rw [ih (fun k h => hl k (List.mem_cons_of_mem _ h))]
    by_cases e : x = k
    · simp [e]
    · rw [if_neg e, if_neg (fun h => e (hi x k (hl x (List.mem_cons_self ..)) hk h))]
theorem meet_map {φ : K → L} {D : K → Prop} (hi : ∀ a b, D a → D b → φ a = φ b → a = b) {l : List (V K)} (hv : ∀ v ∈ l, v.all D) :
    ∀ {seen : List K}, (∀ k ∈ seen, D k) → meet (seen.map φ) (l.map (V.map φ)) = (meet seen l).map φ := by
  induction l with
  | nil => intro seen _; rfl
  | cons v l ih =>
    intro seen hs
    have h1 := hv v (List.mem_cons_self ..)
    have e : meet1 (seen.map φ) (v.map φ) = (meet1 seen v).map φ := by
      cases v with
      | small n => rfl
      | thing k =>
        simp only [V.map, meet1, mem_map_inj hi hs h1]
        split <;> simp
    rw [List.map_cons, meet_cons, meet_cons, e]
    apply ih (fun v h => hv v (List.mem_cons_of_mem _ h))
    intro k hk
    exact meet_from (l := [v]) (by intro x hx; simp at hx; subst hx; exact h1) hs k hk

/-- things by other names are met in the same order -/
theorem Walk.map {φ : K → L} {D : K → Prop} (hi : ∀ a b, D a → D b → φ a = φ b → a = b) {get : K → Option (Nd K)} {get' : L → Option (Nd L)}
    (hg : ∀ k t, D k → get k = some t → get' (φ k) = some (t.map φ) ∧ ∀ v ∈ t.refs, v.all D) {i : Nat} {seen row : List K} (hs : ∀ k ∈ seen, D k) (h : Walk get i seen row) :
    Walk get' i (seen.map φ) (row.map φ) := by
  induction h with
  | stop seen hi => exact .stop _ (by rw [List.length_map]; exact hi)
  | @next i seen row k t e g w ih =>
    have hk : D k := hs k (List.mem_of_getElem? e)
    obtain ⟨g', ht⟩ := hg k t hk g
    refine .next (k := φ k) (by rw [List.getElem?_map, e]; rfl) g' ?_
    have := ih (meet_from ht hs)
    rwa [← meet_map hi ht hs] at this
end

section
variable {K : Type} [DecidableEq K]

/-- what is met, numbered -/
def things (get : K → Option (Nd K)) (row : List K) : List (Nd Nat) := row.filterMap (fun k => (get k).map (Nd.map (pos row)))
def roots (row : List K) (l : List (V K)) : List (V Nat) := l.map (V.map (pos row))
/-- a graph's things, by their numbers -/
def nth (l : List (Nd Nat)) : Nat → Option (Nd Nat) := fun i => l[i]?

/-- a graph of what is reached, numbered by breadth -/
structure Canon (get : K → Option (Nd K)) (rs : List (V K)) (ts : List (Nd Nat)) (os : List (V Nat)) : Prop where
  ex : ∃ row, Walk get 0 (meet [] rs) row ∧ ts = things get row ∧ os = roots row rs

theorem Canon.same {get : K → Option (Nd K)} {rs : List (V K)} {ts ts' : List (Nd Nat)} {os os' : List (V Nat)} (h : Canon get rs ts os) (h' : Canon get rs ts' os') : ts = ts' ∧ os = os' := by
  obtain ⟨row, w, e1, e2⟩ := h.ex
  obtain ⟨row', w', e1', e2'⟩ := h'.ex
  have := w.same w'
  subst this
  exact ⟨e1.trans e1'.symm, e2.trans e2'.symm⟩
end

/-- by other names it is the same graph -/
theorem Canon.map {K L : Type} [DecidableEq K] [DecidableEq L] {φ : K → L} {D : K → Prop} (hi : ∀ a b, D a → D b → φ a = φ b → a = b) {get : K → Option (Nd K)} {get' : L → Option (Nd L)}
    (hg : ∀ k t, D k → get k = some t → get' (φ k) = some (t.map φ) ∧ ∀ v ∈ t.refs, v.all D) {rs : List (V K)} (hr : ∀ v ∈ rs, v.all D)
    {ts : List (Nd Nat)} {os : List (V Nat)} (h : Canon get rs ts os) : Canon get' (rs.map (V.map φ)) ts os := by
  obtain ⟨row, w, e1, e2⟩ := h.ex
  have hs : ∀ k ∈ meet ([] : List K) rs, D k := meet_from hr (by intro k hk; cases hk)
  have hrow : ∀ k ∈ row, D k := by
    clear e1 e2 h
    generalize meet ([] : List K) rs = seen at w hs
    generalize 0 = n at w
    induction w with
    | stop _ _ => exact hs
    | @next i seen row k t e g w ih => exact ih (meet_from (hg k t (hs k (List.mem_of_getElem? e)) g).2 hs)
  have w' := w.map hi hg hs
  rw [← meet_map hi hr (by intro k hk; cases hk)] at w'
  have hp : ∀ k, D k → pos (row.map φ) (φ k) = pos row k := fun k hk => pos_map hi hrow hk
  refine ⟨row.map φ, w', ?_, ?_⟩
  · rw [e1]
    unfold things
    rw [List.filterMap_map]
    apply fm_congr
    intro k hk
    obtain ⟨j, hj⟩ := List.getElem?_of_mem hk
    obtain ⟨t, ht, -⟩ := w.holds j (Nat.zero_le _) k hj
    obtain ⟨g', hv⟩ := hg k t (hrow k hk) ht
    simp only [Function.comp, ht, g', Option.map_some]
    rw [Nd.map_map]
    congr 1
    exact Nd.map_congr hv (fun k hk => (hp k hk).symm)
  · rw [e2]
    unfold roots
    rw [List.map_map]
    apply List.map_congr_left
    intro v hv
    simp only [Function.comp, V.map_map]
    exact V.map_congr (hr v hv) (fun k hk => (hp k hk).symm)

/-- numbered so again it stays as it is -/
theorem Canon.again {K : Type} [DecidableEq K] {get : K → Option (Nd K)} {rs : List (V K)} {ts : List (Nd Nat)} {os : List (V Nat)} (h : Canon get rs ts os) : Canon (nth ts) os ts os := by
  obtain ⟨row, w, e1, e2⟩ := h.ex
  have hn : row.Nodup := w.nodup (meet_nodup (by simp))
  have hold : ∀ k ∈ row, ∃ t, get k = some t ∧ ∀ v ∈ t.refs, v.all (· ∈ row) := by
    intro k hk
    obtain ⟨j, hj⟩ := List.getElem?_of_mem hk
    exact w.holds j (Nat.zero_le _) k hj
  have hth : ∀ k t, k ∈ row → get k = some t → nth ts (pos row k) = some (t.map (pos row)) := by
    intro k t hk ht
    have : things get row = row.map (fun k => ((get k).getD ⟨0, 0, [], []⟩).map (pos row)) := by
      unfold things
      rw [← List.filterMap_eq_map]
      apply fm_congr
      intro x hx
      obtain ⟨t', ht', -⟩ := hold x hx
      simp [ht']
    unfold nth
    rw [e1, this, List.getElem?_map, get_pos hk]
    simp [ht]
  have := Canon.map (φ := pos row) (D := (· ∈ row)) (get' := nth ts)
    (fun a b ha hb e => by
      have h1 := get_pos ha
      have h2 := get_pos hb
      rw [e, h2] at h1
      exact (Option.some.inj h1).symm)
    (fun k t hk ht => by
      refine ⟨hth k t hk ht, ?_⟩
      obtain ⟨t', ht', hv⟩ := hold k hk
      rw [ht] at ht'; cases ht'
      exact hv)
    (rs := rs) (by
      obtain ⟨m, e⟩ := w.more
      intro v hv
      have := meet_has [] v hv
      cases v with
      | small n => exact trivial
      | thing k => simp only [V.all] at this ⊢; rw [e]; exact List.mem_append_left _ this) h
  have eo : os = rs.map (V.map (pos row)) := e2
  rw [eo]
  rwa [eo] at this

end Go.Proofs.Ytlkbnjdhokjfnaa.Hp
