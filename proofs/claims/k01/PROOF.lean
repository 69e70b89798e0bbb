import PyProof.Rows.All
import Wide.All
import OpenK.AllK
import Wide.FinOn
import HandS.ForMost
import HandS.TupSets
import HandS.Evl
import HandS.Codes
import HandS.IsInst
import HandS.Deep
import HandS.SortRule
import HandS.SortInts
import HandS.Conv
import HandS.Style
import HandS.Wide
import HandS.Flow
import HandS.DictTup
import HandS.Walk
import HandS.TupLe
import PySem.Challenge.RW_signposts_k01_whole_followed
set_option Elab.async false
set_option linter.all false
set_option maxRecDepth 100000
set_option maxHeartbeats 8000000

/-! Signs as plain data: where one comes to by them. -/
namespace Sg

/-- the place shown by the sign at p -/
def nx (s : List (Option Nat)) (p : Nat) : Option Nat := (s[p]?).getD none

/-- signs of n places: each shows a place -/
structure Wf (n : Nat) (s : List (Option Nat)) : Prop where
  len : s.length = n
  lt : ∀ p q, nx s p = some q → q < n

theorem nx_lt {s : List (Option Nat)} {p q : Nat} (h : nx s p = some q) : p < s.length := by
  unfold nx at h
  by_cases c : p < s.length
  · exact c
  · rw [List.getElem?_eq_none (by omega)] at h
    cases h
theorem nx_get {s : List (Option Nat)} {p : Nat} (h : p < s.length) : s[p]? = some (nx s p) := by
  unfold nx
  rw [List.getElem?_eq_getElem h]; rfl

/-- k steps along the signs -/
def orb (s : List (Option Nat)) (p : Nat) : Nat → Option Nat
  | 0 => some p
  | k + 1 => (orb s p k).bind (nx s)
theorem orb_succ' (s : List (Option Nat)) (p : Nat) : ∀ k, orb s p (k + 1) = (nx s p).bind fun q => orb s q k
  | 0 => by
    show (some p).bind (nx s) = _
    cases h : nx s p with
    | none => simp [h]
    | some q => simp [h, orb]
  | k + 1 => by
    show (orb s p (k + 1)).bind (nx s) = _
    rw [orb_succ' s p k]
    cases h : nx s p with
    | none => rfl
    | some q => rfl
theorem orb_add (s : List (Option Nat)) (p : Nat) : ∀ a b, orb s p (a + b) = (orb s p a).bind fun q => orb s q b
  | a, 0 => by
    show orb s p a = _
    cases h : orb s p a with
    | none => rfl
    | some q => rfl
  | a, b + 1 => by
    show (orb s p (a + b)).bind (nx s) = _
    rw [orb_add s p a b]
    cases h : orb s p a with
    | none => rfl
    | some q => rfl

/-- from p one comes to g -/
def Reach (s : List (Option Nat)) (g p : Nat) : Prop := ∃ k, orb s p k = some g
theorem reach_self (s : List (Option Nat)) (g : Nat) : Reach s g g := ⟨0, rfl⟩
theorem reach_next {s : List (Option Nat)} {g p q : Nat} (h : nx s p = some q) (r : Reach s g q) : Reach s g p := by
  obtain ⟨k, e⟩ := r
  exact ⟨k + 1, by rw [orb_succ', h]; exact e⟩
theorem reach_of {s : List (Option Nat)} {g p : Nat} (r : Reach s g p) (hne : p ≠ g) : ∃ q, nx s p = some q ∧ Reach s g q := by
  obtain ⟨k, e⟩ := r
  cases k with
  | zero => exact absurd (Option.some.inj e) hne
  | succ k =>
    rw [orb_succ'] at e
    cases h : nx s p with
    | none => rw [h] at e; cases e
    | some q => rw [h] at e; exact ⟨q, rfl, k, e⟩
/-- a set of places without g that is left by no sign -/
theorem reach_closed {s : List (Option Nat)} {g : Nat} {S : Nat → Prop} (hg : ¬ S g) (hc : ∀ p q, S p → nx s p = some q → S q) {p : Nat} (hp : S p) : ¬ Reach s g p := by
  rintro ⟨k, e⟩
  have key : ∀ k, ∀ q, orb s p k = some q → S q := by
    intro k
    induction k with
    | zero => intro q h; rw [← Option.some.inj h]; exact hp
    | succ k ih =>
      intro q h
      have h' : (orb s p k).bind (nx s) = some q := h
      cases e' : orb s p k with
      | none => rw [e'] at h'; cases h'
      | some r => rw [e'] at h'; exact hc r q (ih r e') h'
  exact hg (key k g e)

/-! ### the walk -/
/-- way: the places gone through, each once; b: the place of way that the last one's sign shows -/
structure IsWalk (s : List (Option Nat)) (p : Nat) (way : List Nat) (b : Option Nat) : Prop where
  head : way[0]? = some p
  step : ∀ i a c, way[i]? = some a → way[i + 1]? = some c → nx s a = some c
  nd : way.Nodup
  last : ∀ a, way[way.length - 1]? = some a → nx s a = b.bind fun j => way[j]?
  ok : ∀ j, b = some j → j < way.length

def walkF (s : List (Option Nat)) : Nat → List Nat → Option Nat → List Nat × Option Nat
  | 0, met, _ => (met, none)
  | _ + 1, met, none => (met, none)
  | f + 1, met, some a => if a ∈ met then (met, some (met.idxOf a)) else walkF s f (met ++ [a]) (nx s a)
/-- what is told of who goes from p -/
def walkd (s : List (Option Nat)) (p : Nat) : List Nat × Option Nat := walkF s (s.length + 1) [] (some p)

theorem nodup_le {n : Nat} : ∀ {l : List Nat}, l.Nodup → (∀ x ∈ l, x < n) → l.length ≤ n := by
  induction n with
  | zero =>
    intro l _ h
    cases l with
    | nil => exact Nat.le_refl _
    | cons a l => exact absurd (h a List.mem_cons_self) (Nat.not_lt_zero _)
  | succ n ih =>
    intro l hn h
    have h1 : (l.erase n).length ≤ n := ih (hn.erase n) fun x hx => by
      have a := (List.Nodup.mem_erase_iff hn).1 hx
      have b := h x a.2
      have := a.1
      omega
    have h2 := List.length_erase (a := n) (l := l)
    split at h2 <;> omega

/-- what has been met: on the way from p -/
structure Met (s : List (Option Nat)) (p : Nat) (met : List Nat) (at_ : Option Nat) : Prop where
  head : met ≠ [] → met[0]? = some p
  zero : met = [] → at_ = some p
  step : ∀ i a c, met[i]? = some a → met[i + 1]? = some c → nx s a = some c
  nd : met.Nodup
  last : ∀ a, met[met.length - 1]? = some a → nx s a = at_
  lt : ∀ a ∈ met, a < s.length
  at_lt : ∀ a, at_ = some a → a < s.length

theorem Met.start {s : List (Option Nat)} {p : Nat} (hp : p < s.length) : Met s p [] (some p) where
  head := fun h => absurd rfl h
  zero := fun _ => rfl
  step := fun i a c h => by simp at h
  nd := List.nodup_nil
  last := fun a h => by simp at h
  lt := fun a h => by cases h
  at_lt := fun a h => by cases h; exact hp
theorem Met.more {s : List (Option Nat)} {p n a : Nat} {met : List Nat} (w : Wf n s) (M : Met s p met (some a)) (h : a ∉ met) : Met s p (met ++ [a]) (nx s a) where
  head := fun _ => by
    cases met with
    | nil => rw [show a = p from Option.some.inj (M.zero rfl)]; rfl
    | cons x r => exact M.head (by simp)
  zero := fun h => by simp at h
  step := fun i x c hx hc => by
    rw [List.getElem?_append] at hx hc
    by_cases c1 : i + 1 < met.length
    · rw [if_pos (by omega)] at hx
      rw [if_pos c1] at hc
      exact M.step i x c hx hc
    · rw [if_neg c1] at hc
      have hi : i + 1 - met.length = 0 := by
        have := (List.getElem?_eq_some_iff.mp hc).1
        simp at this
        omega
      rw [hi] at hc
      have e : a = c := by simpa using hc
      by_cases c2 : i < met.length
      · rw [if_pos c2] at hx
        rw [← e]
        exact M.last x (by rw [show met.length - 1 = i by omega]; exact hx)
      · omega
  nd := by
    rw [List.nodup_append]
    refine ⟨M.nd, by simp, fun x hx y hy e => ?_⟩
    rw [List.mem_singleton] at hy
    subst hy
    subst e
    exact h hx
  last := fun x hx => by
    rw [List.length_append, List.length_singleton] at hx
    rw [List.getElem?_append_right (by omega)] at hx
    rw [show met.length + 1 - 1 - met.length = 0 by omega] at hx
    have e : a = x := by simpa using hx
    rw [e]
  lt := fun x hx => by
    rcases List.mem_append.mp hx with hx | hx
    · exact M.lt x hx
    · rw [List.mem_singleton.mp hx]; exact M.at_lt a rfl
  at_lt := fun x hx => by rw [w.len]; exact w.lt a x hx
theorem Met.len {s : List (Option Nat)} {p : Nat} {met : List Nat} {o : Option Nat} (M : Met s p met o) : met.length ≤ s.length := nodup_le M.nd M.lt
theorem Met.len_lt {s : List (Option Nat)} {p a : Nat} {met : List Nat} (M : Met s p met (some a)) (h : a ∉ met) : met.length < s.length := by
  have : (a :: met).length ≤ s.length := nodup_le (List.nodup_cons.mpr ⟨h, M.nd⟩) fun x hx => by
    rcases List.mem_cons.mp hx with e | hx
    · rw [e]; exact M.at_lt a rfl
    · exact M.lt x hx
  exact this
theorem idxOf_get {l : List Nat} {a : Nat} (h : a ∈ l) : l[l.idxOf a]? = some a := by
  have h1 := List.idxOf_lt_length_of_mem h
  rw [List.getElem?_eq_getElem h1, List.getElem_idxOf]
theorem Met.done {s : List (Option Nat)} {p a : Nat} {met : List Nat} (M : Met s p met (some a)) (h : a ∈ met) : IsWalk s p met (some (met.idxOf a)) where
  head := M.head (fun e => by rw [e] at h; cases h)
  step := M.step
  nd := M.nd
  last := fun x hx => by
    rw [M.last x hx]
    show some a = met[met.idxOf a]?
    rw [idxOf_get h]
  ok := fun j e => by cases e; exact List.idxOf_lt_length_of_mem h
theorem Met.ends {s : List (Option Nat)} {p : Nat} {met : List Nat} (M : Met s p met none) : IsWalk s p met none where
  head := M.head (fun e => by cases M.zero e)
  step := M.step
  nd := M.nd
  last := fun x hx => M.last x hx
  ok := fun j e => by cases e
theorem walkF_spec {n : Nat} {s : List (Option Nat)} {p : Nat} (w : Wf n s) : ∀ (f : Nat) (met : List Nat) (at_ : Option Nat), Met s p met at_ → s.length - met.length < f → IsWalk s p (walkF s f met at_).1 (walkF s f met at_).2
  | 0, _, _, _, h => absurd h (Nat.not_lt_zero _)
  | f + 1, met, none, M, _ => M.ends
  | f + 1, met, some a, M, h => by
    unfold walkF
    by_cases c : a ∈ met
    · rw [if_pos c]; exact M.done c
    · rw [if_neg c]
      have := M.len_lt c
      exact walkF_spec w f _ _ (M.more w c) (by rw [List.length_append, List.length_singleton]; omega)
theorem walkd_spec {n : Nat} {s : List (Option Nat)} {p : Nat} (w : Wf n s) (hp : p < n) : IsWalk s p (walkd s p).1 (walkd s p).2 :=
  walkF_spec w _ _ _ (Met.start (by rw [w.len]; exact hp)) (by simp)
/-! ### what a walk tells -/
section
variable {s : List (Option Nat)} {n p : Nat} {way : List Nat} {b : Option Nat}
theorem IsWalk.pos (W : IsWalk s p way b) : 0 < way.length := (List.getElem?_eq_some_iff.mp W.head).1
theorem IsWalk.orb (W : IsWalk s p way b) : ∀ i, i < way.length → orb s p i = way[i]?
  | 0, _ => W.head.symm
  | i + 1, h => by
    show (Sg.orb s p i).bind (nx s) = _
    rw [W.orb i (by omega), List.getElem?_eq_getElem (show i < way.length by omega), List.getElem?_eq_getElem h]
    exact W.step i _ _ (List.getElem?_eq_getElem _) (List.getElem?_eq_getElem h)
theorem IsWalk.lt (W : IsWalk s p way b) (w : Wf n s) (hp : p < n) {i a : Nat} (h : way[i]? = some a) : a < n := by
  cases i with
  | zero => rw [W.head] at h; rw [← Option.some.inj h]; exact hp
  | succ i =>
    have hl := (List.getElem?_eq_some_iff.mp h).1
    exact w.lt _ _ (W.step i _ a (List.getElem?_eq_getElem (by omega)) h)
theorem IsWalk.len_le (W : IsWalk s p way b) (w : Wf n s) (hp : p < n) : way.length ≤ n := nodup_le W.nd fun x hx => by
  obtain ⟨i, hi, e⟩ := List.getElem_of_mem hx
  exact W.lt w hp (i := i) (by rw [List.getElem?_eq_getElem hi, e])
/-- the last place -/
theorem IsWalk.lastE (W : IsWalk s p way b) : ∃ q, way[way.length - 1]? = some q := ⟨_, List.getElem?_eq_getElem (by have := W.pos; omega)⟩
/-- no round: g is come to just when it is the last one (g has no sign) -/
theorem IsWalk.reach_none (W : IsWalk s p way none) {g q : Nat} (hg : nx s g = none) (hq : way[way.length - 1]? = some q) : Reach s g p ↔ q = g := by
  have hpos := W.pos
  constructor
  · rintro ⟨k, e⟩
    by_cases c : k < way.length
    · rw [W.orb k c] at e
      by_cases d : k + 1 < way.length
      · have := W.step k g _ e (List.getElem?_eq_getElem d)
        rw [hg] at this; cases this
      · have : k = way.length - 1 := by omega
        rw [this, hq] at e
        exact Option.some.inj e
    · have e2 : k = way.length - 1 + (k - (way.length - 1)) := by omega
      rw [e2, orb_add, W.orb _ (by omega), hq] at e
      obtain ⟨m, hm⟩ : ∃ m, k - (way.length - 1) = m + 1 := ⟨k - way.length, by omega⟩
      rw [hm] at e
      have e' : Sg.orb s q (m + 1) = some g := e
      rw [orb_succ', W.last q hq] at e'
      cases e'
  · intro e
    exact ⟨way.length - 1, by rw [W.orb _ (by omega), hq, e]⟩
/-- a round: what has no sign is never come to -/
theorem IsWalk.reach_round {j : Nat} (W : IsWalk s p way (some j)) {g : Nat} (hg : nx s g = none) : ¬ Reach s g p := by
  have hj := W.ok j rfl
  have closed : ∀ a, a ∈ way → ∃ c, nx s a = some c ∧ c ∈ way := by
    intro a ha
    obtain ⟨i, hi, e⟩ := List.getElem_of_mem ha
    have e' : way[i]? = some a := by rw [List.getElem?_eq_getElem hi, e]
    by_cases c : i + 1 < way.length
    · exact ⟨_, W.step i a _ e' (List.getElem?_eq_getElem c), List.getElem_mem c⟩
    · have hi2 : i = way.length - 1 := by omega
      rw [hi2] at e'
      refine ⟨way[j], ?_, List.getElem_mem hj⟩
      rw [W.last a e']
      exact List.getElem?_eq_getElem hj
  refine reach_closed (S := fun a => a ∈ way) (fun h => ?_) (fun a c ha hc => ?_) (List.mem_of_getElem? W.head)
  · obtain ⟨c, e, _⟩ := closed g h
    rw [hg] at e; cases e
  · obtain ⟨d, e, hd⟩ := closed a ha
    rw [hc] at e
    rw [Option.some.inj e]; exact hd
end

/-! ### rounds begun elsewhere -/
def rot {α : Type} (c : List α) (k : Nat) : List α := c.drop k ++ c.take k
theorem rot_len {α : Type} (c : List α) (k : Nat) : (rot c k).length = c.length := by
  unfold rot
  rw [List.length_append, List.length_drop, List.length_take]
  omega
theorem rot_zero {α : Type} (c : List α) : rot c 0 = c := by simp [rot]
theorem rot_full {α : Type} (c : List α) : rot c c.length = c := by simp [rot]
theorem rot_rot {α : Type} (c : List α) {k m : Nat} (hk : k ≤ c.length) (hm : m ≤ c.length) : ∃ j, j ≤ c.length ∧ rot (rot c k) m = rot c j := by
  by_cases h : k + m ≤ c.length
  · refine ⟨k + m, h, ?_⟩
    unfold rot
    rw [List.drop_append_of_le_length (by rw [List.length_drop]; omega), List.take_append_of_le_length (by rw [List.length_drop]; omega), List.drop_drop, List.append_assoc, List.take_add]
  · refine ⟨k + m - c.length, by omega, ?_⟩
    unfold rot
    have e1 : (c.drop k ++ c.take k).drop m = (c.take k).drop (k + m - c.length) := by
      rw [List.drop_append, List.length_drop, List.drop_eq_nil_of_le (by rw [List.length_drop]; omega), List.nil_append]
      congr 1; omega
    have e2 : (c.drop k ++ c.take k).take m = c.drop k ++ (c.take k).take (k + m - c.length) := by
      rw [List.take_append, List.length_drop, List.take_of_length_le (by rw [List.length_drop]; omega)]
      congr 2; omega
    rw [e1, e2, List.take_take, Nat.min_eq_left (by omega), ← List.append_assoc]
    congr 1
    have e3 : k + m - c.length ≤ k := by omega
    generalize k + m - c.length = j at e3
    have : c.drop j = (c.take k).drop j ++ c.drop k := by
      conv => lhs; rw [← List.take_append_drop k c]
      rw [List.drop_append_of_le_length (by rw [List.length_take]; omega)]
    exact this.symm
/-- some beginning -/
def Turns {α : Type} (c d : List α) : Prop := ∃ k, k < c.length ∧ d = rot c k
theorem turns_le {α : Type} {c : List α} (hc : 0 < c.length) {k : Nat} (hk : k ≤ c.length) : Turns c (rot c k) := by
  by_cases h : k < c.length
  · exact ⟨k, h, rfl⟩
  · have : k = c.length := by omega
    rw [this, rot_full]
    exact ⟨0, hc, (rot_zero c).symm⟩
theorem turns_trans {α : Type} {c d e : List α} (h1 : Turns c d) (h2 : Turns d e) : Turns c e := by
  obtain ⟨k, hk, rfl⟩ := h1
  obtain ⟨m, hm, rfl⟩ := h2
  rw [rot_len] at hm
  obtain ⟨j, hj, ej⟩ := rot_rot c (Nat.le_of_lt hk) (Nat.le_of_lt hm)
  rw [ej]
  exact turns_le (by omega) hj
theorem turns_symm {α : Type} {c d : List α} (h : Turns c d) : Turns d c := by
  obtain ⟨k, hk, rfl⟩ := h
  refine ⟨if k = 0 then 0 else c.length - k, by rw [rot_len]; split <;> omega, ?_⟩
  by_cases h0 : k = 0
  · rw [if_pos h0, rot_zero, h0, rot_zero]
  · rw [if_neg h0]
    unfold rot
    have e : (c.drop k).length = c.length - k := List.length_drop
    rw [← e, List.drop_left, List.take_left, List.take_append_drop]
theorem turns_iff {α : Type} {c d : List α} (h : Turns c d) (e : List α) : Turns c e ↔ Turns d e := ⟨fun x => turns_trans (turns_symm h) x, fun x => turns_trans h x⟩
theorem turns_len {α : Type} {c d : List α} (h : Turns c d) : d.length = c.length := by
  obtain ⟨k, _, rfl⟩ := h
  exact rot_len c k

/-! ### the law's own way: so many steps, and a round from there -/
section
variable {s : List (Option Nat)} {n p : Nat} {way : List Nat} {j : Nat}
/-- the round's places, from the j-th of the walk on; behind t steps one stands at the ((t - j) mod L)-th -/
theorem IsWalk.cyc (W : IsWalk s p way (some j)) : ∀ m, Sg.orb s p (j + m) = (way.drop j)[m % (way.length - j)]? := by
  have hj := W.ok j rfl
  have hL : 0 < way.length - j := by omega
  intro m
  induction m with
  | zero =>
    rw [Nat.zero_mod, List.getElem?_drop, Nat.add_zero, W.orb j hj]
  | succ m ih =>
    show (Sg.orb s p (j + m)).bind (nx s) = _
    rw [ih]
    have hlt : m % (way.length - j) < way.length - j := Nat.mod_lt _ hL
    rw [List.getElem?_drop, List.getElem?_drop]
    generalize hr : m % (way.length - j) = r at hlt
    have e1 := List.getElem?_eq_getElem (show j + r < way.length by omega)
    rw [e1]
    show nx s way[j + r] = _
    by_cases c : r + 1 < way.length - j
    · have e2 : (m + 1) % (way.length - j) = r + 1 := by
        rw [Nat.add_mod, hr, Nat.mod_eq_of_lt (show 1 < way.length - j by omega), Nat.mod_eq_of_lt c]
      rw [e2]
      have e3 := List.getElem?_eq_getElem (show j + (r + 1) < way.length by omega)
      rw [e3]
      exact W.step (j + r) _ _ e1 e3
    · have e2 : (m + 1) % (way.length - j) = 0 := by
        rw [Nat.add_mod, hr]
        by_cases d : way.length - j = 1
        · rw [d]; exact Nat.mod_one _
        · rw [Nat.mod_eq_of_lt (show 1 < way.length - j by omega), show r + 1 = way.length - j by omega, Nat.mod_self]
      rw [e2, Nat.add_zero]
      have e4 : j + r = way.length - 1 := by omega
      rw [W.last _ (by rw [← e4]; exact e1)]
      rfl
end

/-- a round told from its first place on -/
structure IsRing (s : List (Option Nat)) (d : List Nat) : Prop where
  pos : 0 < d.length
  nd : d.Nodup
  step : ∀ i a c, d[i]? = some a → d[i + 1]? = some c → nx s a = some c
  last : ∀ a, d[d.length - 1]? = some a → nx s a = d[0]?
theorem IsWalk.ring {s : List (Option Nat)} {p : Nat} {way : List Nat} {j : Nat} (W : IsWalk s p way (some j)) : IsRing s (way.drop j) where
  pos := by
    have := W.ok j rfl
    rw [List.length_drop]; omega
  nd := List.Sublist.nodup (List.drop_sublist j way) W.nd
  step := fun i a c ha hc => by
    rw [List.getElem?_drop] at ha hc
    exact W.step (j + i) a c ha hc
  last := fun a ha => by
    have hj := W.ok j rfl
    rw [List.getElem?_drop, List.length_drop] at ha
    rw [W.last a (by rw [show way.length - 1 = j + (way.length - j - 1) by omega]; exact ha), List.getElem?_drop]
    rfl
theorem rot_get {α : Type} {c : List α} {k : Nat} (hk : k ≤ c.length) (i : Nat) : (rot c k)[i]? = if i < c.length - k then c[k + i]? else if i < c.length then c[i - (c.length - k)]? else none := by
  unfold rot
  rw [List.getElem?_append, List.length_drop]
  by_cases h : i < c.length - k
  · rw [if_pos h, if_pos h, List.getElem?_drop]
  · rw [if_neg h, if_neg h, List.getElem?_take]
    by_cases h2 : i < c.length
    · rw [if_pos h2, if_pos (by omega)]
    · rw [if_neg h2, if_neg (by omega)]
theorem IsRing.rot {s : List (Option Nat)} {c : List Nat} (R : IsRing s c) {k : Nat} (hk : k < c.length) : IsRing s (Sg.rot c k) where
  pos := by rw [rot_len]; exact R.pos
  nd := by
    unfold Sg.rot
    have h := R.nd
    rw [← List.take_append_drop k c] at h
    exact (List.perm_append_comm (l₁ := c.take k) (l₂ := c.drop k)).nodup_iff.mp h
  step := fun i a d ha hd => by
    have hd' := (List.getElem?_eq_some_iff.mp hd).1
    rw [rot_len] at hd'
    rw [rot_get (by omega)] at ha hd
    by_cases h : i + 1 < c.length - k
    · rw [if_pos h] at hd
      rw [if_pos (by omega)] at ha
      exact R.step (k + i) a d ha (by rw [← hd]; congr 1)
    · rw [if_neg h, if_pos hd'] at hd
      by_cases h2 : i < c.length - k
      · rw [if_pos h2] at ha
        have e : k + i = c.length - 1 := by omega
        rw [e] at ha
        rw [R.last a ha, ← hd]
        congr 1; omega
      · rw [if_neg h2, if_pos (by omega)] at ha
        exact R.step (i - (c.length - k)) a d ha (by rw [← hd]; congr 1; omega)
  last := fun a ha => by
    rw [rot_len] at ha
    have hp := R.pos
    rw [rot_get (by omega)] at ha
    rw [rot_get (by omega), if_pos (by omega), Nat.add_zero]
    by_cases h : c.length - 1 < c.length - k
    · rw [if_pos h] at ha
      have hk0 : k = 0 := by omega
      subst hk0
      rw [Nat.zero_add] at ha
      exact R.last a ha
    · rw [if_neg h, if_pos (by omega)] at ha
      have e : c.length - 1 - (c.length - k) = k - 1 := by omega
      rw [e] at ha
      have e2 := List.getElem?_eq_getElem hk
      rw [e2]
      exact R.step (k - 1) a _ ha (by rw [← e2]; congr 1; omega)
/-- behind t steps, t at least the walk's length, one stands in the round, at its k-th place -/
theorem IsWalk.late {s : List (Option Nat)} {p : Nat} {way : List Nat} {j : Nat} (W : IsWalk s p way (some j)) {t : Nat} (ht : way.length ≤ t) : ∃ k a, k < (way.drop j).length ∧ Sg.orb s p t = some a ∧ (Sg.rot (way.drop j) k)[0]? = some a := by
  have hj := W.ok j rfl
  have hL : 0 < way.length - j := by omega
  have hlt : (t - j) % (way.length - j) < way.length - j := Nat.mod_lt _ hL
  have hlt' : (t - j) % (way.length - j) < (way.drop j).length := by rw [List.length_drop]; exact hlt
  refine ⟨(t - j) % (way.length - j), (way.drop j)[(t - j) % (way.length - j)], hlt', ?_, ?_⟩
  · have q := W.cyc (t - j)
    rw [show j + (t - j) = t by omega] at q
    rw [q]
    exact List.getElem?_eq_getElem hlt'
  · rw [rot_get (by omega), if_pos (by omega), Nat.add_zero]
    exact List.getElem?_eq_getElem hlt'

/-! ### who comes: the program's marks -/
/-- marks set along a way -/
def markAll (known : List (Option Bool)) (v : Option Bool) : List Nat → List (Option Bool)
  | [] => known
  | a :: r => markAll (known.set a v) v r
theorem markAll_len (v : Option Bool) : ∀ (way : List Nat) (known : List (Option Bool)), (markAll known v way).length = known.length
  | [], _ => rfl
  | a :: r, known => by rw [markAll, markAll_len v r, List.length_set]
theorem markAll_snoc (v : Option Bool) : ∀ (way : List Nat) (known : List (Option Bool)) (a : Nat), markAll known v (way ++ [a]) = (markAll known v way).set a v
  | [], known, a => rfl
  | b :: r, known, a => by
    show markAll (known.set b v) v (r ++ [a]) = _
    rw [markAll_snoc v r]
    rfl
theorem markAll_get (v : Option Bool) : ∀ (way : List Nat) (known : List (Option Bool)) (q : Nat), q < known.length → (markAll known v way)[q]? = if q ∈ way then some v else known[q]?
  | [], known, q, _ => by simp [markAll]
  | a :: r, known, q, hq => by
    rw [markAll, markAll_get v r _ q (by rw [List.length_set]; exact hq)]
    by_cases h1 : q ∈ r
    · rw [if_pos h1, if_pos (List.mem_cons_of_mem _ h1)]
    · rw [if_neg h1, List.getElem?_set]
      by_cases h2 : a = q
      · subst h2
        rw [if_pos rfl, if_pos hq, if_pos List.mem_cons_self]
      · rw [if_neg h2, if_neg]
        intro h
        rcases List.mem_cons.mp h with e | e
        · exact h2 e.symm
        · exact h1 e

/-- the marks told so far are right -/
structure Marks (s : List (Option Nat)) (g : Nat) (known : List (Option Bool)) : Prop where
  len : known.length = s.length
  goal : known[g]? = some (some true)
  yes : ∀ q, known[q]? = some (some true) → Reach s g q
  no : ∀ q, known[q]? = some (some false) → ¬ Reach s g q
/-- a way under way: its places had no marks, each shows the next, the last one shows at -/
structure Under (s : List (Option Nat)) (g : Nat) (known : List (Option Bool)) (way : List Nat) (at_ : Option Nat) : Prop where
  unk : ∀ a ∈ way, known[a]? = some none
  nd : way.Nodup
  step : ∀ i a, way[i]? = some a → nx s a = if i + 1 < way.length then way[i + 1]? else at_
  at_lt : ∀ a, at_ = some a → a < s.length
theorem Under.start {s : List (Option Nat)} {g p : Nat} {known : List (Option Bool)} (hp : p < s.length) : Under s g known [] (some p) where
  unk := fun a h => by cases h
  nd := List.nodup_nil
  step := fun i a h => by simp at h
  at_lt := fun a e => by cases e; exact hp
theorem Under.more {n : Nat} {s : List (Option Nat)} {g a : Nat} {known : List (Option Bool)} {way : List Nat} (w : Wf n s) (K : known.length = s.length) (U : Under s g known way (some a)) (h : (markAll known (some false) way)[a]? = some none) :
    Under s g known (way ++ [a]) (nx s a) ∧ markAll known (some false) (way ++ [a]) = (markAll known (some false) way).set a (some false) := by
  have ha := U.at_lt a rfl
  rw [markAll_get _ _ _ _ (by rw [K]; exact ha)] at h
  have hn : a ∉ way := fun m => by rw [if_pos m] at h; cases h
  rw [if_neg hn] at h
  refine ⟨⟨fun x hx => ?_, ?_, fun i x hx => ?_, fun x e => ?_⟩, markAll_snoc _ _ _ _⟩
  · rcases List.mem_append.mp hx with m | m
    · exact U.unk x m
    · rw [List.mem_singleton.mp m]; exact h
  · rw [List.nodup_append]
    refine ⟨U.nd, by simp, fun x hx y hy e => ?_⟩
    rw [List.mem_singleton] at hy
    subst hy; subst e
    exact hn hx
  · rw [List.length_append, List.length_singleton]
    by_cases c : i < way.length
    · rw [List.getElem?_append_left c] at hx
      rw [U.step i x hx, if_pos (show i + 1 < way.length + 1 by omega)]
      by_cases d : i + 1 < way.length
      · rw [if_pos d, List.getElem?_append_left d]
      · rw [if_neg d, List.getElem?_append_right (by omega), show i + 1 - way.length = 0 by omega]
        rfl
    · rw [List.getElem?_append_right (by omega)] at hx
      have hi : i - way.length = 0 := by
        have := (List.getElem?_eq_some_iff.mp hx).1
        simp at this; omega
      rw [hi] at hx
      have e : a = x := by simpa using hx
      rw [if_neg (by omega), e]
  · rw [w.len]; exact w.lt a x e
theorem Under.len_lt {s : List (Option Nat)} {g a : Nat} {known : List (Option Bool)} {way : List Nat} (K : known.length = s.length) (U : Under s g known way (some a)) (h : (markAll known (some false) way)[a]? = some none) : way.length < s.length := by
  have ha := U.at_lt a rfl
  rw [markAll_get _ _ _ _ (by rw [K]; exact ha)] at h
  have hn : a ∉ way := fun m => by rw [if_pos m] at h; cases h
  have : (a :: way).length ≤ s.length := nodup_le (List.nodup_cons.mpr ⟨hn, U.nd⟩) fun x hx => by
    rcases List.mem_cons.mp hx with e | hx
    · rw [e]; exact ha
    · have := U.unk x hx
      rw [← K]
      exact (List.getElem?_eq_some_iff.mp this).1
  exact this
theorem Under.mem_step {s : List (Option Nat)} {g : Nat} {known : List (Option Bool)} {way : List Nat} {o : Option Nat} (U : Under s g known way o) {a : Nat} (h : a ∈ way) : (∃ c, nx s a = some c ∧ c ∈ way) ∨ nx s a = o := by
  obtain ⟨i, hi, e⟩ := List.getElem_of_mem h
  have := U.step i a (by rw [List.getElem?_eq_getElem hi, e])
  by_cases c : i + 1 < way.length
  · rw [if_pos c, List.getElem?_eq_getElem c] at this
    exact .inl ⟨_, this, List.getElem_mem c⟩
  · rw [if_neg c] at this
    exact .inr this
/-- where the way's end comes to the goal, all of it does -/
theorem Under.all_reach {s : List (Option Nat)} {g b : Nat} {known : List (Option Bool)} {way : List Nat} (U : Under s g known way (some b)) (r : Reach s g b) : ∀ a ∈ way, Reach s g a := by
  have key : ∀ d i a, way.length - i = d → way[i]? = some a → Reach s g a := by
    intro d
    induction d with
    | zero =>
      intro i a h1 h2
      have := (List.getElem?_eq_some_iff.mp h2).1
      omega
    | succ d ih =>
      intro i a h1 h2
      have h3 := U.step i a h2
      by_cases c : i + 1 < way.length
      · rw [if_pos c, List.getElem?_eq_getElem c] at h3
        exact reach_next h3 (ih (i + 1) _ (by omega) (List.getElem?_eq_getElem c))
      · rw [if_neg c] at h3
        exact reach_next h3 r
  intro a ha
  obtain ⟨i, hi, e⟩ := List.getElem_of_mem ha
  exact key _ i a rfl (by rw [List.getElem?_eq_getElem hi, e])
/-- where it doesn't, none does -/
theorem Under.none_reach {s : List (Option Nat)} {g : Nat} {known : List (Option Bool)} {way : List Nat} {o : Option Nat} (M : Marks s g known) (U : Under s g known way o) (h : ∀ b, o = some b → b ∈ way ∨ ¬ Reach s g b) : ∀ a ∈ way, ¬ Reach s g a := by
  intro a ha r
  have hg : ∀ x, x ∈ way → x ≠ g := fun x hx e => by
    have := U.unk x hx
    rw [e, M.goal] at this
    cases this
  have key : ∀ k x, x ∈ way → orb s x k ≠ some g := by
    intro k
    induction k with
    | zero => intro x hx e; exact hg x hx (Option.some.inj e)
    | succ k ih =>
      intro x hx e
      rw [orb_succ'] at e
      rcases U.mem_step hx with ⟨c, hc, hm⟩ | hc
      · rw [hc] at e
        exact ih c hm e
      · rw [hc] at e
        cases o with
        | none => cases e
        | some b =>
          rcases h b rfl with hm | hn
          · exact ih b hm e
          · exact hn ⟨k, e⟩
  obtain ⟨k, e⟩ := r
  exact key k a ha e
/-- behind a way -/
theorem Marks.after {s : List (Option Nat)} {g : Nat} {known : List (Option Bool)} {way : List Nat} {v : Bool} (M : Marks s g known) (unk : ∀ a ∈ way, known[a]? = some none) (h : ∀ a ∈ way, (v = true → Reach s g a) ∧ (v = false → ¬ Reach s g a)) : Marks s g (markAll known (some v) way) where
  len := by rw [markAll_len]; exact M.len
  goal := by
    have hl := (List.getElem?_eq_some_iff.mp M.goal).1
    rw [markAll_get _ _ _ _ hl, if_neg]
    · exact M.goal
    · intro m
      have := unk g m
      rw [M.goal] at this; cases this
  yes := fun q hq => by
    have hl := (List.getElem?_eq_some_iff.mp hq).1
    rw [markAll_len] at hl
    rw [markAll_get _ _ _ _ hl] at hq
    by_cases m : q ∈ way
    · rw [if_pos m] at hq
      exact (h q m).1 (Option.some.inj (Option.some.inj hq))
    · rw [if_neg m] at hq
      exact M.yes q hq
  no := fun q hq => by
    have hl := (List.getElem?_eq_some_iff.mp hq).1
    rw [markAll_len] at hl
    rw [markAll_get _ _ _ _ hl] at hq
    by_cases m : q ∈ way
    · rw [if_pos m] at hq
      exact (h q m).2 (Option.some.inj (Option.some.inj hq))
    · rw [if_neg m] at hq
      exact M.no q hq
theorem marks_mark (known : List (Option Bool)) (way : List Nat) (hin : ∀ a ∈ way, a < known.length) (u v : Option Bool) : markAll (markAll known u way) v way = markAll known v way := by
  apply List.ext_getElem?
  intro q
  by_cases hq : q < known.length
  · rw [markAll_get _ _ _ _ (by rw [markAll_len]; exact hq), markAll_get _ _ _ _ hq, markAll_get _ _ _ _ hq]
    split <;> rfl
  · rw [List.getElem?_eq_none (by rw [markAll_len, markAll_len]; omega), List.getElem?_eq_none (by rw [markAll_len]; omega)]
end Sg

/-! Sets of tuples of whole numbers, of up to 300 members: made of a list, asked by in and not in. -/
namespace Big
open PySem PySem.Spec PyProof.Rows L2

/-! ### masks whose step goes round all slots -/
def marks (m : Nat) : Nat → Nat → Nat → Nat
  | 0, _, acc => acc
  | n + 1, x, acc => marks m n ((x * 5 + 1) % (m + 1)) (acc ||| 2 ^ x)
theorem marks_bit (m j : Nat) : ∀ n k acc, (marks m n (lcgN m k) acc).testBit j = true → acc.testBit j = true ∨ ∃ b, k ≤ b ∧ b < k + n ∧ lcgN m b = j
  | 0, k, acc, h => .inl h
  | n + 1, k, acc, h => by
    rcases marks_bit m j n (k + 1) _ h with h1 | ⟨b, h1, h2, h3⟩
    · rw [Nat.testBit_or, Nat.testBit_two_pow, Bool.or_eq_true, decide_eq_true_eq] at h1
      rcases h1 with h1 | h1
      · exact .inl h1
      · exact .inr ⟨k, Nat.le_refl _, by omega, h1⟩
    · exact .inr ⟨b, by omega, by omega, h3⟩
structure Lap (m : Nat) : Prop where
  back : lcgN m (m + 1) = 0
  full : marks m (m + 1) 0 0 = 2 ^ (m + 1) - 1
  odd : m % 2 = 1
  one : m = 7 ∨ m = 31 ∨ m = 127 ∨ m = 511
theorem Lap.le {m : Nat} (R : Lap m) : m ≤ 511 := by
  have := R.one
  omega
theorem masks {m : Nat} (R : Lap m) : m = 7 ∨ m = 31 ∨ m = 127 ∨ m = 511 := R.one
theorem lap7 : Lap 7 := ⟨by decide +kernel, by decide +kernel, rfl, by decide⟩
theorem lap31 : Lap 31 := ⟨by decide +kernel, by decide +kernel, rfl, by decide⟩
theorem lap127 : Lap 127 := ⟨by decide +kernel, by decide +kernel, rfl, by decide⟩
theorem lap511 : Lap 511 := ⟨by decide +kernel, by decide +kernel, rfl, by decide⟩
section
variable {m : Nat}
theorem Lap.all (R : Lap m) {j : Nat} (h : j ≤ m) : ∃ b, b ≤ m ∧ lcgN m b = j := by
  have key : (marks m (m + 1) (lcgN m 0) 0).testBit j = true := by
    show (marks m (m + 1) 0 0).testBit j = true
    rw [R.full, Nat.testBit_two_pow_sub_one]
    exact decide_eq_true (by omega)
  rcases marks_bit m j _ _ _ key with h1 | ⟨b, _, h2, h3⟩
  · rw [Nat.zero_testBit] at h1; cases h1
  · exact ⟨b, by omega, h3⟩
theorem Lap.again (R : Lap m) : ∀ k, lcgN m (m + 1 + k) = lcgN m k := by
  intro k
  induction k with
  | zero => exact R.back
  | succ k ih =>
    have e : lcgN m (m + 1 + (k + 1)) = (lcgN m (m + 1 + k) * 5 + 1) % (m + 1) := rfl
    rw [e, ih]
    rfl
theorem Lap.far (R : Lap m) {i j : Nat} (hi : i ≤ m) (hj : j ≤ m) : ∃ k, k ≤ m ∧ lcgI m i k = j := by
  obtain ⟨a, ha, rfl⟩ := R.all hi
  obtain ⟨b, hb, rfl⟩ := R.all hj
  by_cases c : a ≤ b
  · refine ⟨b - a, by omega, ?_⟩
    have := lcgN_add m a (b - a)
    rw [this]
    congr 1; omega
  · refine ⟨b + (m + 1) - a, by omega, ?_⟩
    have := lcgN_add m a (b + (m + 1) - a)
    rw [this, ← R.again b]
    congr 1; omega
theorem Lap.run (R : Lap m) (h : Int) {j : Nat} (hj : j ≤ m) : ∃ n, n ≤ m + 12 ∧ runI m (SetTable.bits h) n = j := by
  obtain ⟨k, hk, e⟩ := R.far (runI_le m (SetTable.bits h) 12) hj
  refine ⟨12 + k, by omega, ?_⟩
  rw [← e]
  exact runI_tail (bits_lt h) k
theorem Lap.met (R : Lap m) (h : Int) {j : Nat} (hj : j ≤ m) : ∃ k, k < 10 * SetTable.turns m ∧ way m h k = j := by
  obtain ⟨n, hn, e⟩ := R.run h hj
  obtain ⟨k, hk, e2⟩ := run_nth m (SetTable.bits h) n
  have ht : SetTable.turns m = m + 15 := rfl
  refine ⟨k, by omega, ?_⟩
  show (nth m (runAt m (SetTable.bits h % (m + 1)) (SetTable.bits h)) k).j = j
  rw [e2]; exact e
end
theorem wayLe (m : Nat) (h : Int) (k : Nat) : way m h k ≤ m := by
  have small : SetTable.bits h % (m + 1) ≤ m := Nat.le_of_lt_succ (Nat.mod_lt _ (Nat.succ_pos m))
  unfold way
  generalize SetTable.bits h % (m + 1) = i at small
  have r := runEnd_bd small
  have q := nth_in (m := m) k (runAt m i (SetTable.bits h)) (by
    show i + (SetTable.runEnd m i - i) ≤ m
    omega)
  exact Nat.le_trans (Nat.le_add_right _ _) q

/-! ### a table that finds again what it holds -/
structure Tab (t : SetTable) (hs : List Int) : Prop where
  ris : Ris t.place.toList
  bare : t.dummies = #[]
  size : t.place.size = hs.length
  lap : Lap t.mask
  lim : ∀ x ∈ t.place.toList, x ≤ t.mask
  find : ∀ (i : Nat) (h : Int) (j : Nat), hs[i]? = some h → t.place.toList[i]? = some j → ∃ k, way t.mask h k = j ∧ ∀ q, q < k → way t.mask h q ∈ t.place.toList
section
variable {t : SetTable} {hs : List Int}
theorem Tab.hole (T : Tab t hs) (hl : hs.length ≤ t.mask) (h : Int) : ∃ K, K < 10 * SetTable.turns t.mask ∧ way t.mask h K ∉ t.place.toList ∧ ∀ k, k < K → way t.mask h k ∈ t.place.toList := by
  obtain ⟨j, hj, hn⟩ := st_missing t.place.toList (t.mask + 1) (by rw [Array.length_toList, T.size]; omega)
  obtain ⟨k, hk, e⟩ := T.lap.met h (show j ≤ t.mask by omega)
  obtain ⟨K, h1, h2, h3⟩ := st_least (p := fun q => way t.mask h q ∉ t.place.toList) k (by rw [e]; exact hn)
  exact ⟨K, by omega, h2, fun q hq => Classical.byContradiction fun z => h3 q hq z⟩
theorem Tab.ahead (T : Tab t hs) {h : Int} {K i j : Nat} (hK : way t.mask h K ∉ t.place.toList) (hi : hs[i]? = some h) (hj : t.place.toList[i]? = some j) : ∃ k, k < K ∧ way t.mask h k = j := by
  obtain ⟨k, e, hb⟩ := T.find i h j hi hj
  refine ⟨k, Classical.byContradiction fun c => ?_, e⟩
  by_cases d : K = k
  · rw [d, e] at hK
    exact hK (List.mem_of_getElem? hj)
  · exact hK (hb K (by omega))
/-- one more, at the first hole of its way -/
theorem Tab.more (T : Tab t hs) {h : Int} {K : Nat} (hK : way t.mask h K ∉ t.place.toList) (hb : ∀ k, k < K → way t.mask h k ∈ t.place.toList) :
    ∃ p t1, t.put (way t.mask h K) = (t1, p) ∧ p ≤ hs.length ∧ Tab t1 (hs.take p ++ h :: hs.drop p) ∧ t1.mask = t.mask ∧ t1.led = t.led ∧ t1.plain = t.plain ∧ t1.fill = hs.length + 1 := by
  have hw := wayLe t.mask h K
  generalize ej : way t.mask h K = j at hK hw ⊢
  obtain ⟨c1, _, _⟩ := below_cut T.ris j
  have hlen : t.place.toList.length = hs.length := by rw [Array.length_toList]; exact T.size
  have hp1 : SetTable.below t.place j ≤ t.place.toList.length := by rw [Array.length_toList]; exact c1
  have hp2 : SetTable.below t.place j ≤ hs.length := by omega
  have hpl := put_place t j
  have hnew : t.place[SetTable.below t.place j]? ≠ some j := by
    intro e
    apply hK
    exact List.mem_of_getElem? (i := SetTable.below t.place j) (by rw [Array.getElem?_toList]; exact e)
  have hsz : (t.put j).1.place.size = hs.length + 1 := by
    rw [← Array.length_toList, hpl, len_ins _ hp1, hlen]
  have keep : ∀ x, x ∈ t.place.toList → x ∈ (t.put j).1.place.toList := by
    intro x hx
    rw [hpl]
    exact mem_ins.mpr (.inr hx)
  refine ⟨SetTable.below t.place j, (t.put j).1, rfl, hp2, ?_, rfl, rfl, rfl, ?_⟩
  · refine { ris := ris_insert T.ris hnew, bare := put_dm T.bare j, size := ?_, lap := T.lap, lim := ?_, find := ?_ }
    · rw [len_ins _ hp2]; exact hsz
    · intro x hx
      rw [hpl] at hx
      rcases mem_ins.mp hx with e | e
      · subst e; exact hw
      · exact T.lim x e
    · intro i h' j' e1 e2
      rw [tins_get hs hp2] at e1
      rw [hpl, tins_get _ hp1] at e2
      have old : ∀ i' : Nat, hs[i']? = some h' → t.place.toList[i']? = some j' → ∃ k, way t.mask h' k = j' ∧ ∀ q, q < k → way t.mask h' q ∈ (t.put j).1.place.toList := by
        intro i' a b
        obtain ⟨k, e, z⟩ := T.find i' h' j' a b
        exact ⟨k, e, fun q hq => keep _ (z q hq)⟩
      by_cases c : i < SetTable.below t.place j
      · rw [if_pos c] at e1 e2
        exact old i e1 e2
      · rw [if_neg c] at e1 e2
        by_cases d : i = SetTable.below t.place j
        · rw [if_pos d] at e1 e2
          cases e1; cases e2
          exact ⟨K, ej, fun q hq => keep _ (hb q hq)⟩
        · rw [if_neg d] at e1 e2
          exact old (i - 1) e1 e2
  · show (t.put j).1.place.size + (t.put j).1.dummies.size = _
    rw [hsz, put_dm T.bare j]
    rfl
end

/-! ### all laid anew -/
section
variable {m : Nat}
theorem Lap.room (R : Lap m) (owner : Array (Option Nat)) (h : Int) {j : Nat} (hj : j ≤ m) (hf : oAt owner j = none) :
    ∃ K, SetTable.layClean.free m owner (SetTable.turns m) (SetTable.bits h % (m + 1)) (SetTable.bits h) = some (way m h K) ∧ oAt owner (way m h K) = none ∧ ∀ k, k < K → oAt owner (way m h k) ≠ none := by
  obtain ⟨n, hn, e⟩ := R.run h hj
  have ht : SetTable.turns m = m + 15 := rfl
  have at_n : way m h (off m (SetTable.bits h % (m + 1)) (SetTable.bits h) n) = j := by
    unfold way
    rw [nth_off, itL_run]
    exact e
  obtain ⟨K, k1, k2, k3⟩ := st_least (p := fun q => oAt owner (way m h q) = none) _ (by rw [at_n]; exact hf)
  refine ⟨K, free_spec m owner _ n _ _ K (by omega) k1 (fun q hq => ?_) ?_, k2, k3⟩
  · cases z : oAt owner (way m h q) with
    | none => exact absurd z (k3 q hq)
    | some v => rfl
  · show (oAt owner (way m h K)).isNone = true
    rw [k2]
    rfl
theorem Lap.lay1 (R : Lap m) {done : List Int} {owner : Array (Option Nat)} (W : Own m done owner) (hl : done.length ≤ m) (h : Int) :
    ∃ j, SetTable.layClean.free m owner (SetTable.turns m) (SetTable.bits h % (m + 1)) (SetTable.bits h) = some j ∧ Own m (done ++ [h]) (owner.setIfInBounds j (some done.length)) := by
  obtain ⟨ps, hps, hin⟩ := W.ps
  obtain ⟨j0, h0, hn0⟩ := st_missing ps (m + 1) (by omega)
  have hfree : oAt owner j0 = none := Classical.byContradiction fun z => hn0 (hin j0 (by omega) z)
  obtain ⟨K, e1, e2, e3⟩ := R.room owner h (show j0 ≤ m by omega) hfree
  have hw := wayLe m h K
  generalize ej : way m h K = j at e1 e2 hw
  have self := oAt_set_self (owner := owner) (some done.length) (show j < owner.size by rw [W.sz]; omega)
  have grow : ∀ i, oAt owner i ≠ none → oAt (owner.setIfInBounds j (some done.length)) i ≠ none := by
    intro i hi
    by_cases c : i = j
    · subst c; exact absurd e2 hi
    · rw [oAt_set_ne _ c]; exact hi
  refine ⟨j, e1, { sz := ?_, at_ := ?_, all := ?_, ps := ⟨j :: ps, ?_, ?_⟩ }⟩
  · rw [Array.size_setIfInBounds, W.sz]
  · intro i k hi e
    by_cases c : i = j
    · subst c
      rw [self] at e
      cases e
      exact ⟨h, K, by simp, ej, fun q hq => grow _ (e3 q hq)⟩
    · rw [oAt_set_ne _ c] at e
      obtain ⟨h', K', a1, a2, a3⟩ := W.at_ i k hi e
      refine ⟨h', K', ?_, a2, fun q hq => grow _ (a3 q hq)⟩
      rw [List.getElem?_append_left (List.getElem?_eq_some_iff.mp a1).1, a1]
  · intro k hk
    rw [List.length_append, List.length_singleton] at hk
    by_cases c : k = done.length
    · subst c; exact ⟨j, hw, self⟩
    · obtain ⟨i, hi, e⟩ := W.all k (by omega)
      refine ⟨i, hi, ?_⟩
      rw [oAt_set_ne, e]
      intro z
      subst z
      rw [e2] at e; cases e
  · rw [List.length_cons, List.length_append, hps, List.length_singleton]
  · intro i hi e
    by_cases c : i = j
    · subst c; exact List.mem_cons_self
    · rw [oAt_set_ne _ c] at e
      exact List.mem_cons_of_mem _ (hin i hi e)
theorem Lap.lays (R : Lap m) : ∀ (rest done : List Int) (owner : Array (Option Nat)), Own m done owner → done.length + rest.length ≤ m →
    ∃ o2, rest.foldl (stepF m) (some (owner, done.length)) = some (o2, (done ++ rest).length) ∧ Own m (done ++ rest) o2 := by
  intro rest
  induction rest with
  | nil => intro done owner W _; exact ⟨owner, by simp, by simpa using W⟩
  | cons h rest ih =>
    intro done owner W hl
    rw [List.length_cons] at hl
    obtain ⟨j, e, W1⟩ := R.lay1 W (by omega) h
    obtain ⟨o2, f, W2⟩ := ih (done ++ [h]) _ W1 (by rw [List.length_append, List.length_singleton]; omega)
    have ea : done ++ [h] ++ rest = done ++ h :: rest := by simp
    rw [ea] at f W2
    refine ⟨o2, ?_, W2⟩
    rw [List.foldl_cons, stepF_some e, ← f, List.length_append, List.length_singleton]
theorem Lap.laid (R : Lap m) {hs : Array Int} (hn : hs.size ≤ m) : ∃ owner, SetTable.layClean m hs = some owner ∧ Own m hs.toList owner := by
  obtain ⟨owner, f, W⟩ := R.lays hs.toList [] _ (Own.init m) (by simpa using hn)
  refine ⟨owner, ?_, by simpa using W⟩
  rw [layClean_eq, show (some (Array.replicate (m + 1) (none : Option Nat), 0)) = some (Array.replicate (m + 1) (none : Option Nat), ([] : List Int).length) from rfl, f]
  rfl
theorem relaidG (t : SetTable) {hs : Array Int} {wanted M : Nat} (hw : SetTable.sizeAbove wanted - 1 = M) (R : Lap M) (hn : hs.size ≤ M) :
    ∃ t2 order, t.relaid hs wanted = some (t2, order) ∧ order.toList.Perm (List.range hs.size) ∧ Tab t2 (order.toList.map fun i => hs.getD i 0) ∧ t2.mask = M ∧ t2.led = t.led ∧ t2.plain = t.plain := by
  obtain ⟨owner, e, W⟩ := R.laid hn
  have fst_ris : Ris ((liveOf M owner).map (·.1)) := (ris_live (fun j => owner.getD j none) (List.range (M + 1)) (by unfold Ris; exact List.pairwise_lt_range)).1
  have fst_in : ∀ x ∈ (liveOf M owner).map (·.1), x ∈ List.range (M + 1) := (ris_live (fun j => owner.getD j none) (List.range (M + 1)) (by unfold Ris; exact List.pairwise_lt_range)).2
  have fst_nd : ((liveOf M owner).map (·.1)).Nodup := fst_ris.imp fun q => Nat.ne_of_lt q
  have got : ∀ k, k < hs.size → k ∈ (liveOf M owner).map (·.2) := by
    intro k hk
    obtain ⟨j, b1, b2⟩ := W.all k (by simpa using hk)
    exact List.mem_map.mpr ⟨(j, k), (mem_live W.sz).mpr ⟨b1, b2⟩, rfl⟩
  have hlen : (liveOf M owner).length = hs.size := by
    obtain ⟨ps, p1, p2⟩ := W.ps
    have up := nat_nodup_len _ ps fst_nd (by
      intro x hx
      obtain ⟨⟨y, k⟩, hq, rfl⟩ := List.mem_map.mp hx
      obtain ⟨b1, b2⟩ := (mem_live W.sz).mp hq
      exact p2 y b1 (by rw [b2]; simp))
    have dn := nat_nodup_len (List.range hs.size) ((liveOf M owner).map (·.2)) List.nodup_range fun k hk => got k (List.mem_range.mp hk)
    simp only [List.length_map, List.length_range] at up dn
    have : hs.toList.length = hs.size := rfl
    omega
  refine ⟨tabOf t M owner, ((liveOf M owner).map (·.2)).toArray, ?_, perm_range hs.size _ (by simpa using hlen) (by simpa using got), ?_, rfl, rfl, rfl⟩
  · rw [relaid_eq, hw, e]; rfl
  · refine { ris := fst_ris, bare := rfl, size := by simp [tabOf], lap := R, lim := fun x hx => ?_, find := ?_ }
    · have := List.mem_range.mp (fst_in x hx)
      show x ≤ M
      omega
    · intro i h j h1 h2
      have h2' : ((liveOf M owner).map (·.1))[i]? = some j := h2
      rw [List.getElem?_map] at h2'
      obtain ⟨⟨y, k⟩, hq, rfl⟩ := Option.map_eq_some_iff.mp h2'
      have h1' : (((liveOf M owner).map (·.2)).map fun i => hs.getD i 0)[i]? = some h := h1
      rw [List.getElem?_map, List.getElem?_map, hq] at h1'
      have eh : hs.getD k 0 = h := Option.some.inj h1'
      obtain ⟨b1, b2⟩ := (mem_live W.sz).mp (List.mem_of_getElem? hq)
      obtain ⟨h0, K, a1, a2, a3⟩ := W.at_ y k b1 b2
      have e0 : h0 = h := by
        rw [← eh, Array.getD_eq_getD_getElem?, ← Array.getElem?_toList, a1]
        rfl
      subst e0
      refine ⟨K, a2, fun q hq' => ?_⟩
      cases z : oAt owner (way M h0 q) with
      | none => exact absurd z (a3 q hq')
      | some k2 => exact List.mem_map.mpr ⟨(way M h0 q, k2), (mem_live W.sz).mpr ⟨wayLe M h0 q, z⟩, rfl⟩
end

/-! ### the set on the heap -/
section
variable {P : Program} {w : World} {A : Around} {E : Value → Shared → Prop} {s : Shared}
structure SetG (P : Program) (w : World) (h : Heap) (a : Addr) (L : List (Addr × List Int)) (es : Array (Int × Value)) (ep : Nat) (t : SetTable) : Prop where
  obj : ∃ o, h.get? a = some o ∧ o.ExactSet ∧ o.data = .set es ep t
  ents : es.toList = rowsOf P w L
  tab : Tab t (L.map fun p => thash P w p.2)
  uniq : (L.map (·.2)).Nodup
  tups : ∀ p ∈ L, IsT P w h p.2 p.1
  pure_ : t.plain = true
  led : w.params.followText "set-order" = true ∨ t.led = true
  space : L.length * 5 < t.mask * 3
theorem rows_size {es : Array (Int × Value)} {L : List (Addr × List Int)} (h : es.toList = rowsOf P w L) : es.size = L.length := by
  have q := congrArg List.length h
  simpa [rowsOf] using q
theorem rows_at {es : Array (Int × Value)} {L : List (Addr × List Int)} (h : es.toList = rowsOf P w L) {i : Nat} {p : Addr × List Int} (e : L[i]? = some p) : es[i]? = some (thash P w p.2, Value.ref p.1) := by
  rw [← Array.getElem?_toList, h]
  simp [rowsOf, e]
theorem fits_of {t : SetTable} {n : Nat} (h1 : t.place.size = n) (h2 : t.dummies = #[]) (h3 : n ≤ t.mask) : t.fits n = true := by
  unfold SetTable.fits SetTable.fill
  rw [h2, h1]
  simpa using h3
theorem odd_stays {t : SetTable} (h : t.mask % 2 = 1) : ¬ t.gaveWay = true := by
  unfold SetTable.gaveWay
  rw [h]
  decide
variable {a : Addr} {L : List (Addr × List Int)} {es : Array (Int × Value)} {ep : Nat} {t : SetTable}
theorem SetG.cnt (R : SetG P w s.heap a L es ep t) : t.place.size = L.length := by
  have q := R.tab.size
  rwa [List.length_map] at q
theorem SetG.fit (R : SetG P w s.heap a L es ep t) : t.fits es.size = true := by
  have hr := R.space
  exact fits_of (R.cnt.trans (rows_size R.ents).symm) R.tab.bare (by rw [rows_size R.ents]; omega)

/-- the way from its c-th step on; ad: for adding -/
theorem seek (R : SetG P w s.heap a L es ep t) (ad : Bool) {x : Addr} {k : List Int} (hx : IsT P w s.heap k x) (hu : A.units < cLine) {K : Nat} (hKf : K < 10 * SetTable.turns t.mask)
    (hK : way t.mask (thash P w k) K ∉ t.place.toList) (hKb : ∀ c, c < K → way t.mask (thash P w k) c ∈ t.place.toList) {Q : SetFound → Shared → Prop}
    (yes : k ∈ L.map (·.2) → ∀ r : Option Nat, (ad = true → r = none) → (ad = false → r.isSome = true) → Q (.there r) s) (no : k ∉ L.map (·.2) → Q (.free (way t.mask (thash P w k) K) false) s) :
    ∀ (f c : Nat) (stand : Option SetTable.Probe), stand.getD (t.probeStart (thash P w k)) = nth t.mask (runAt t.mask (SetTable.bits (thash P w k) % (t.mask + 1)) (SetTable.bits (thash P w k))) c → c ≤ K → K - c < f →
      (∀ (i : Nat) p, L[i]? = some p → p.2 = k → ∃ c', c ≤ c' ∧ c' < K ∧ t.place.toList[i]? = some (way t.mask (thash P w k) c')) →
      wpAny (model P w) A (setSearchFrom a (.ref x) (thash P w k) ad f stand) Q E s := by
  intro f
  induction f with
  | zero => intro c stand _ _ hf _; exact absurd hf (Nat.not_lt_zero _)
  | succ f ih =>
    intro c stand hst hc hf hre
    obtain ⟨o, ho, hex, hd⟩ := R.obj
    have step0 : (nth t.mask (runAt t.mask (SetTable.bits (thash P w k) % (t.mask + 1)) (SetTable.bits (thash P w k))) c).dummy = none := by
      have go : ∀ (n : Nat) (p : SetTable.Probe), p.dummy = none → (nth t.mask p n).dummy = none := by
        intro n
        induction n with
        | zero => exact fun p h => h
        | succ n ih2 =>
          intro p h
          apply ih2
          unfold adv
          split <;> exact h
      exact go c _ rfl
    have far : ∀ q, (nth t.mask (nth t.mask (runAt t.mask (SetTable.bits (thash P w k) % (t.mask + 1)) (SetTable.bits (thash P w k))) c) q) = nth t.mask (runAt t.mask (SetTable.bits (thash P w k) % (t.mask + 1)) (SetTable.bits (thash P w k))) (c + q) := fun q => (nth_add t.mask c _ q).symm
    have farj : ∀ q, (nth t.mask (nth t.mask (runAt t.mask (SetTable.bits (thash P w k) % (t.mask + 1)) (SetTable.bits (thash P w k))) c) q).j = way t.mask (thash P w k) (c + q) := fun q => by rw [far]
    have look := go_spec t R.tab.ris R.tab.bare (fun i => (es[i]?.map (·.1)).getD 0) (thash P w k) (10 * SetTable.turns t.mask) (K - c) _ step0 (by omega)
      (fun q hq => by rw [farj]; exact hKb _ (by omega)) (by rw [farj, Nat.add_sub_cancel' hc]; exact hK)
    have at_hash : ∀ (i : Nat) p, L[i]? = some p → (fun i => (es[i]?.map (·.1)).getD 0) i = thash P w p.2 := fun i p hp => by
      show (es[i]?.map (·.1)).getD 0 = _
      rw [rows_at R.ents hp]
      rfl
    rw [← hst] at look
    rw [setSearchFrom_succ]
    refine wpAny_bind (wpAny_setState_of ho hd R.fit ?_)
    dsimp only
    refine wp_if_neg (odd_stays R.tab.lap.odd) ?_
    try refine wpAny_bind (wpAny_pure ?_)
    rcases look with ⟨q, i, hq, hi, hh, hno, hpr⟩ | ⟨hno, hpr⟩
    · have hpr2 : t.probe (fun i => (es[i]?.map (·.1)).getD 0) (thash P w k) (stand.getD (t.probeStart (thash P w k))) = some (.candidate (way t.mask (thash P w k) (c + q)) i (nth t.mask (runAt t.mask (SetTable.bits (thash P w k) % (t.mask + 1)) (SetTable.bits (thash P w k))) (c + (q + 1)))) := by
        rw [← farj, ← far, ← hst]
        exact hpr
      rw [hpr2]
      dsimp only
      rw [hst, farj] at hi
      have hil : i < L.length := by
        have := (List.getElem?_eq_some_iff.mp hi).1
        rw [Array.length_toList, R.cnt] at this
        exact this
      obtain ⟨p, hp⟩ : ∃ p, L[i]? = some p := ⟨_, List.getElem?_eq_getElem hil⟩
      have hmem : p ∈ L := List.mem_of_getElem? hp
      have hlive := slot_live R.tab.ris hi
      have behind : wpAny (model P w) A (searchRest a (.ref x) (thash P w k) ad f es t (way t.mask (thash P w k) (c + q)) i (nth t.mask (runAt t.mask (SetTable.bits (thash P w k) % (t.mask + 1)) (SetTable.bits (thash P w k))) (c + (q + 1)))) Q E s := by
        unfold searchRest
        rw [rows_at R.ents hp]
        dsimp only
        refine wpAny_bind (wpAny_holding (wpAny_eqBool_tuple hu (R.tups p hmem) hx ?_))
        refine wpAny_bind (wpAny_setState_of ho hd R.fit ?_)
        dsimp only
        by_cases hkk : p.2 = k
        · have hm : k ∈ L.map (·.2) := List.mem_map.mpr ⟨p, hmem, hkk⟩
          cases ad with
          | true =>
            refine wp_if_pos (by simp [hkk]) ?_
            exact wpAny_pure (yes hm none (fun _ => rfl) (fun z => nomatch z))
          | false =>
            refine wp_if_neg (by simp) ?_
            try refine wpAny_bind (wpAny_pure ?_)
            rw [sameMem]
            dsimp only
            simp only [if_true, hlive, rows_at R.ents hp]
            refine wpAny_bind (wpAny_isSame_ref_self (wpAny_bind (wpAny_pure ?_)))
            simp only [if_true]
            refine wp_if_pos (by simp [hkk]) ?_
            exact wpAny_pure (yes hm (some i) (fun z => nomatch z) (fun _ => rfl))
        · refine wp_if_neg (by simp [hkk]) ?_
          try refine wpAny_bind (wpAny_pure ?_)
          rw [sameMem]
          dsimp only
          simp only [if_true, hlive, rows_at R.ents hp]
          refine wpAny_bind (wpAny_isSame_ref_self (wpAny_bind (wpAny_pure ?_)))
          simp only [if_true]
          refine wp_if_neg (by simp [hkk]) ?_
          refine ih (c + (q + 1)) _ rfl (by omega) (by omega) fun i0 p0 h0 hk0 => ?_
          obtain ⟨c', a1, a2, a3⟩ := hre i0 p0 h0 hk0
          refine ⟨c', Classical.byContradiction fun z => ?_, a2, a3⟩
          by_cases y : c' = c + q
          · subst y
            have s0 := slot_live R.tab.ris a3
            rw [hlive] at s0
            injection s0 with s0
            subst s0
            rw [hp] at h0
            cases h0
            exact hkk hk0
          · refine hno (c' - c) i0 (by omega) ?_ ((at_hash i0 p0 h0).trans (by rw [hk0]))
            rw [hst, farj, Nat.add_sub_cancel' a1]
            exact a3
      by_cases hl : t.led = true
      · refine wp_if_neg (by simp [hl]) ?_
        try refine wpAny_bind (wpAny_pure ?_)
        exact behind
      · refine wp_if_pos (by simp [hl]) ?_
        refine wpAny_bind (seen_tup hx (fun y hy => ?_) ?_)
        · obtain ⟨e, he, rfl⟩ := List.mem_map.mp hy
          have he2 : e ∈ es.toList := by
            have := (show e ∈ es ∧ e.1 = thash P w k by simpa using he).1
            simpa using this
          rw [R.ents] at he2
          obtain ⟨p2, hp2, rfl⟩ := List.mem_map.mp he2
          exact ⟨p2.2, p2.1, rfl, R.tups p2 hp2⟩
        · refine wp_if_neg (by decide) ?_
          try refine wpAny_bind (wpAny_pure ?_)
          exact behind
    · have hpr2 : t.probe (fun i => (es[i]?.map (·.1)).getD 0) (thash P w k) (stand.getD (t.probeStart (thash P w k))) = some (.empty (way t.mask (thash P w k) K) none) := by
        have z := farj (K - c)
        rw [Nat.add_sub_cancel' hc, ← hst] at z
        rw [← z]
        exact hpr
      rw [hpr2]
      dsimp only
      refine wpAny_pure (no fun hm => ?_)
      obtain ⟨p0, h0, hk0⟩ := List.mem_map.mp hm
      obtain ⟨i0, hi0, rfl⟩ := List.getElem_of_mem h0
      obtain ⟨c', a1, a2, a3⟩ := hre i0 _ (List.getElem?_eq_getElem hi0) hk0
      refine hno (c' - c) i0 (by omega) ?_ ((at_hash i0 _ (List.getElem?_eq_getElem hi0)).trans (by rw [hk0]))
      rw [hst, farj, Nat.add_sub_cancel' a1]
      exact a3
/-- a search from the start -/
theorem searchG (R : SetG P w s.heap a L es ep t) (ad : Bool) {x : Addr} {k : List Int} (hx : IsT P w s.heap k x) (hu : A.units < cLine) {Q : SetFound → Shared → Prop}
    (yes : k ∈ L.map (·.2) → ∀ r : Option Nat, (ad = true → r = none) → (ad = false → r.isSome = true) → Q (.there r) s)
    (no : ∀ K, k ∉ L.map (·.2) → way t.mask (thash P w k) K ∉ t.place.toList → (∀ c, c < K → way t.mask (thash P w k) c ∈ t.place.toList) → Q (.free (way t.mask (thash P w k) K) false) s) :
    wpAny (model P w) A (setSearch a (.ref x) (thash P w k) ad) Q E s := by
  have hroom := R.space
  obtain ⟨K, hKf, hK, hKb⟩ := R.tab.hole (by rw [List.length_map]; omega) (thash P w k)
  have hle := R.tab.lap.le
  have ht : SetTable.turns t.mask = t.mask + 15 := rfl
  unfold setSearch
  refine seek R ad hx hu hKf hK hKb yes (fun hn => no K hn hK hKb) 100000 0 none rfl (Nat.zero_le _) (by omega) fun i p hp hk => ?_
  have hi : (L.map fun p => thash P w p.2)[i]? = some (thash P w k) := by rw [List.getElem?_map, hp, ← hk]; rfl
  have hil : i < t.place.toList.length := by
    rw [Array.length_toList, R.cnt]
    exact (List.getElem?_eq_some_iff.mp hp).1
  obtain ⟨c, hc, e⟩ := R.tab.ahead hK hi (List.getElem?_eq_getElem hil)
  exact ⟨c, Nat.zero_le _, hc, by rw [List.getElem?_eq_getElem hil, e]⟩
/-- asked -/
theorem findG (R : SetG P w s.heap a L es ep t) {x : Addr} {k : List Int} (hx : IsT P w s.heap k x) (hu : A.units < cLine) {Q : Option Nat → Shared → Prop}
    (h : ∀ r : Option Nat, r.isSome = decide (k ∈ L.map (·.2)) → Q r s) : wpAny (model P w) A (setFind a (.ref x) (thash P w k)) Q E s := by
  obtain ⟨o, ho, hex, hd⟩ := R.obj
  unfold setFind setFindIn
  refine wpAny_bind (wpAny_setState_of ho hd R.fit ?_)
  dsimp only
  refine wp_if_neg (by simp [byScan, Value.scannable]) ?_
  try refine wpAny_bind (wpAny_pure ?_)
  refine wpAny_bind (searchG R false hx hu (fun hm r _ hr => ?_) fun K hn _ _ => ?_)
  · dsimp only
    exact wpAny_pure (h r ((hr rfl).trans (decide_eq_true hm).symm))
  · dsimp only
    exact wpAny_pure (h none (decide_eq_false hn).symm)
theorem size_306 : SetTable.sizeAbove (SetTable.grown 77) = 512 := by decide +kernel
/-- laid anew, larger -/
theorem relayG {o : Obj} (ho : s.heap.get? a = some o) (hex : o.ExactSet) (hd : o.data = .set es ep t) (hrows : es.toList = rowsOf P w L) (hsz : t.place.size = es.size) (hdm : t.dummies = #[]) (hfl : es.size ≤ t.mask)
    (nd : (L.map (·.2)).Nodup) (tup : ∀ p ∈ L, IsT P w s.heap p.2 p.1) (pl : t.plain = true) (ld : w.params.followText "set-order" = true ∨ t.led = true) {wanted M : Nat}
    (hw : SetTable.sizeAbove wanted - 1 = M) (hM : Lap M) (hw2 : SetTable.sizeAbove wanted ≤ 512) (hn : L.length * 5 < M * 3) {Q : Unit → Shared → Prop}
    (hQ : ∀ h' L' es' ep' t', Heap.SameBut a s.heap h' → SetG P w h' a L' es' ep' t' → L'.Perm L → Q () { s with heap := h' }) : wpAny (model P w) A (setRelay a wanted) Q E s := by
  have hsl := rows_size hrows
  have hle := hM.le
  obtain ⟨t', order, e, hp, T, em, el, ep'⟩ := relaidG t (hs := es.map (·.1)) (wanted := wanted) hw hM (by rw [Array.size_map, hsl]; omega)
  rw [Array.size_map, hsl] at hp
  obtain ⟨L2, r1, r2, r3⟩ := order_rows L es order hrows hp
  rw [← r3] at T
  have hs2 : (order.filterMap (es[·]?)).size = es.size := by rw [rows_size r1, r2.length_eq, hsl]
  have hbig : es.size ≤ sizeLine := by rw [sizeLine_eq]; omega
  rw [setRelay_eq]
  refine wpAny_bind (wpAny_setState_of ho hd (fits_of hsz hdm hfl) ?_)
  dsimp only
  refine wp_if_neg (by rw [sizeLine_eq]; omega) ?_
  try refine wpAny_bind (wpAny_pure ?_)
  rw [e]
  dsimp only
  refine wpAny_bind ?_
  refine wp_if_neg (by rw [hs2]; simp) ?_
  try refine wpAny_bind (wpAny_pure ?_)
  refine wpAny_pure ?_
  dsimp only
  refine wpAny_storeSet_of ho hd ?_ (by rw [hs2]; exact hbig)
  have sb : Heap.SameBut a s.heap (s.heap.update a (Obj.putSet (order.filterMap (es[·]?)) t')) := Heap.SameBut.update ..
  refine hQ _ L2 (order.filterMap (es[·]?)) (ep + 1) t' sb ?_ r2
  refine ⟨⟨_, store_at ho hd, ⟨hex.1, hex.2.1, hex.2.2⟩, rfl⟩, r1, T, ?_, fun q hq => ?_, ?_, ?_, ?_⟩
  · exact (r2.map (·.2)).nodup_iff.mpr nd
  · exact isT_same (tup q (r2.mem_iff.mp hq)) ho hd sb
  · rw [ep']; exact pl
  · rw [el]; exact ld
  · rw [r2.length_eq, em]; exact hn
/-- one more is put in, or it is there -/
theorem addG (R : SetG P w s.heap a L es ep t) {x : Addr} {k : List Int} (hx : IsT P w s.heap k x) (hu : A.units < cLine) (hfew : L.length + 1 ≤ 300) {Q : Bool → Shared → Prop}
    (hQ : ∀ b h' L' es' ep' t', Heap.SameBut a s.heap h' → SetG P w h' a L' es' ep' t' → (k ∈ L.map (·.2) → L' = L) → (k ∉ L.map (·.2) → L'.Perm ((x, k) :: L)) → Q b { s with heap := h' }) :
    wpAny (model P w) A (setAddHashed a (.ref x) (thash P w k)) Q E s := by
  obtain ⟨o, ho, hex, hd⟩ := R.obj
  have hsl := rows_size R.ents
  have hroom := R.space
  unfold setAddHashed
  refine wpAny_holding ?_
  rw [show (100000 : Nat) = 99999 + 1 from rfl, setAddHashedIn_succ]
  refine wpAny_bind (wpAny_setState_of ho hd R.fit ?_)
  dsimp only
  refine wp_if_neg (by simp [byScan, Value.scannable]) ?_
  try refine wpAny_bind (wpAny_pure ?_)
  refine wpAny_bind (searchG R true hx hu (fun hm r hr _ => ?_) fun K hm hK hb => ?_)
  · rw [hr rfl]
    dsimp only
    exact wpAny_pure (hQ false s.heap L es ep t (Heap.SameBut.refl a s.heap) R (fun _ => rfl) fun z => absurd hm z)
  · dsimp only
    refine wpAny_bind (wpAny_setState_of ho hd R.fit ?_)
    dsimp only
    obtain ⟨p, t1, ept, q2, q3, q4, q5, q6, q9⟩ := R.tab.more hK hb
    rw [ept]
    dsimp only
    have hp1 : t1.plain = true := by rw [q6]; exact R.pure_
    rw [List.length_map] at q2 q9
    first
      | (refine wpAny_bind ?_; refine wp_if_pos hp1 ?_; refine hashBy_tup hx ?_)
      | refine wp_if_pos hp1 (wpAny_bind (hashBy_tup hx ?_))
    simp only [if_true]
    have pm := put_perm L p (x, k)
    have hlen : (L.take p ++ (x, k) :: L.drop p).length = L.length + 1 := pm.length_eq
    have hin : (SetTable.insertAt es p (thash P w k, Value.ref x)).toList = rowsOf P w (L.take p ++ (x, k) :: L.drop p) := by
      rw [SetTable.toList_insertAt, rows_put, R.ents]
    have hhs : (L.map fun p => thash P w p.2).take p ++ thash P w k :: (L.map fun p => thash P w p.2).drop p = (L.take p ++ (x, k) :: L.drop p).map (fun p => thash P w p.2) := by
      simp [List.map_take, List.map_drop]
    rw [hhs] at q3
    have nd1 : ((L.take p ++ (x, k) :: L.drop p).map (·.2)).Nodup := by
      rw [(pm.map (·.2)).nodup_iff]
      exact List.nodup_cons.mpr ⟨hm, R.uniq⟩
    have hes := rows_size hin
    rw [hlen] at hes
    generalize SetTable.insertAt es p (thash P w k, Value.ref x) = es1 at hin hes ⊢
    generalize L.take p ++ (x, k) :: L.drop p = L1 at pm hlen q3 nd1 hin
    have hbig : es1.size ≤ sizeLine := by rw [hes, sizeLine_eq]; omega
    refine wpAny_bind (wpAny_storeSet_of ho hd ?_ hbig)
    have sb : Heap.SameBut a s.heap (s.heap.update a (Obj.putSet es1 t1)) := Heap.SameBut.update ..
    have ho1 := store_at (es' := es1) (t' := t1) ho hd
    generalize s.heap.update a (Obj.putSet es1 t1) = h1 at sb ho1 ⊢
    have tup1 : ∀ p ∈ L1, IsT P w h1 p.2 p.1 := by
      intro p hp
      rcases List.mem_cons.mp (pm.mem_iff.mp hp) with rfl | hp
      · exact isT_same hx ho hd sb
      · exact isT_same (R.tups p hp) ho hd sb
    have ld1 : w.params.followText "set-order" = true ∨ t1.led = true := by rw [q5]; exact R.led
    by_cases hf : t1.tooFull = true
    · first
        | (refine wpAny_bind ?_; refine wp_if_pos (by simp [hf]) ?_)
        | (refine wp_if_pos (by simp [hf]) ?_; refine wpAny_bind ?_)
      have hfull : t1.mask * 3 ≤ (L.length + 1) * 5 := by
        have h := hf
        unfold SetTable.tooFull at h
        rw [decide_eq_true_eq, q9] at h
        exact h
      rw [q4] at hfull
      rw [hsl]
      have go : ∀ M, Lap M → SetTable.sizeAbove (SetTable.grown (L.length + 1)) = M + 1 → (L.length + 1) * 5 < M * 3 →
          wpAny (model P w) A (setRelay a (SetTable.grown (L.length + 1))) (fun _ s' => wpAny (model P w) A (pure true) Q E s') E { s with heap := h1 } := by
        intro M hM hsize hroom2
        have hle := hM.le
        have hsz1 : t1.place.size = es1.size := by rw [q3.size, List.length_map, hlen, hes]
        refine relayG (s := { s with heap := h1 }) ho1 ⟨hex.1, hex.2.1, hex.2.2⟩ rfl hin hsz1 q3.bare (by rw [hes, q4]; omega) nd1 tup1 hp1 ld1 (M := M) (by omega) hM (by omega) (by rw [hlen]; exact hroom2) ?_
        intro h2 L2 es2 ep2 t2 sb2 R2 pm2
        exact wpAny_pure (hQ true h2 L2 es2 ep2 t2 (sb.trans sb2) R2 (fun z => absurd z hm) fun _ => pm2.trans pm)
      have le := R.tab.lap
      have hc : (t.mask = 7 ∧ L.length = 4) ∨ (t.mask = 31 ∧ L.length = 18) ∨ (t.mask = 127 ∧ L.length = 76) := by
        have := masks le
        omega
      rcases hc with ⟨_, e2⟩ | ⟨_, e2⟩ | ⟨_, e2⟩
      · exact go 31 lap31 (by rw [e2, size_20]) (by omega)
      · exact go 127 lap127 (by rw [e2, size_76]) (by omega)
      · exact go 511 lap511 (by rw [e2, size_306]) (by omega)
    · first
        | refine wp_if_neg (by simp [hf]) ?_
        | (refine wpAny_bind ?_; refine wp_if_neg (by simp [hf]) ?_; refine wpAny_pure ?_)
      have hroom3 : L1.length * 5 < t1.mask * 3 := by
        have h := hf
        unfold SetTable.tooFull at h
        rw [decide_eq_true_eq, q9] at h
        rw [hlen]
        omega
      exact wpAny_pure (hQ true h1 L1 es1 (ep + 1) t1 sb ⟨⟨_, ho1, ⟨hex.1, hex.2.1, hex.2.2⟩, rfl⟩, hin, q3, nd1, tup1, hp1, ld1, hroom3⟩ (fun z => absurd z hm) fun _ => pm)
theorem SetG.move {h h' : Heap} (R : SetG P w h a L es ep t) (ha : ∀ o, h.get? a = some o → h'.get? a = some o) (ht : ∀ p ∈ L, IsT P w h' p.2 p.1) : SetG P w h' a L es ep t := by
  obtain ⟨⟨o, ho, r⟩, r2, r3, r4, _, r6, r7, r8⟩ := R
  exact ⟨⟨o, ha o ho, r⟩, r2, r3, r4, ht, r6, r7, r8⟩
/-- the object of a set just made -/
def newSet (w : World) : Obj := { cls := .type "set", dict := none, data := .set #[] 0 (.fresh 0 0 (!w.params.followText "set-order")) }
theorem setG_new {h : Heap} {a : Addr} (ho : h.get? a = some (newSet w)) : ∃ t, SetG P w h a [] #[] 0 t := by
  refine ⟨.fresh 0 0 (!w.params.followText "set-order"), ⟨_, ho, ⟨rfl, rfl, rfl⟩, rfl⟩, rfl, ⟨List.Pairwise.nil, rfl, rfl, lap7, ?_, ?_⟩, List.nodup_nil, ?_, rfl, ?_, ?_⟩
  · intro x hx; cases hx
  · intro i h j hi; simp at hi
  · intro p hp; cases hp
  · show _ ∨ (!w.params.followText "set-order") = true
    cases w.params.followText "set-order" <;> simp
  · show 0 * 5 < 7 * 3
    decide

/-- the items are put in, one by one -/
theorem fillG {I : Addr} {fp wr : List Addr} {G : Array GenState → Array GenState → Prop} {n : Nat} {Pv : Nat → Value → Prop} {St : Nat → Shared → Prop} {R : Result → Shared → Prop}
    (W : WalksS P w A.in1 I fp wr G n Pv St) (S : Addr) (hSf : S ∉ fp) (ks : List (Addr × List Int)) (hn : n = ks.length) (hfew : ks.length ≤ 300) (hval : ∀ i v, Pv i v → ∃ p, ks[i]? = some p ∧ v = .ref p.1)
    (h0 : Heap) (hk : ∀ p ∈ ks, IsT P w h0 p.2 p.1) (hS0 : h0.get? S = none) (hw0 : ∀ b ∈ wr, h0.get? b = none) (hu : A.in1.units < cLine)
    (hR : ∀ s' L es ep t, Moved (S :: wr) G s s' → SetG P w s'.heap S L es ep t → Got ks n L → (∀ b o, h0.get? b = some o → s'.heap.get? b = some o) → R (.ok (.ret .none)) s') :
    ∀ (k i : Nat) (s1 : Shared), n - i = k → i ≤ n → St i s1 → (∀ b o, h0.get? b = some o → s1.heap.get? b = some o) → (∃ L es ep t, SetG P w s1.heap S L es ep t ∧ Got ks i L) →
      (∀ s', Moved (S :: wr) G s1 s' → Moved (S :: wr) G s s') → codeAny (model P w) A (.builtin "set.update.loop" ⟨[.ref S, .ref I], []⟩) R s1 := by
  have hSw : S ∉ wr := fun h => hSf (W.sub _ h)
  have up : ∀ b ∈ wr, b ∈ S :: wr := fun b hb => List.mem_cons_of_mem _ hb
  have old : ∀ {s1 s2 : Shared}, Moved wr G s1 s2 → (∀ b o, h0.get? b = some o → s1.heap.get? b = some o) → ∀ b o, h0.get? b = some o → s2.heap.get? b = some o := by
    intro s1 s2 hm hkp b o e
    refine hm.heap b o (fun hb => ?_) (hkp b o e)
    rw [hw0 b hb] at e; cases e
  have tupsIn : ∀ {i : Nat} {L : List (Addr × List Int)} {hh : Heap}, Got ks i L → (∀ b o, h0.get? b = some o → hh.get? b = some o) → ∀ p ∈ L, IsT P w hh p.2 p.1 := by
    intro i L hh g hkp p hp
    exact isT_keep (hk p (List.mem_of_mem_take (g.sub p hp))) hkp
  intro k
  induction k with
  | zero =>
    intro i s1 hk' hi hst hkp ⟨L, es, ep, t, hS, g⟩ mv
    obtain rfl : i = n := by omega
    refine codeAny_builtin F.entry_set_update_loop ?_
    rw [Around.under_plainId F.plain_set_update_loop _]
    show wpAny _ A.in1 (pyNext (.ref I) >>= _) _ _ s1
    refine wpAny_bind (W.done s1 _ _ hst fun s' hm => ?_)
    show wpAny _ A.in1 (ret Value.none) _ _ s'
    exact wpAny_pure (hR s' L es ep t (mv s' (hm.mono up)) (hS.move (fun o e => hm.heap S o hSw e) (tupsIn g (old hm hkp))) g (old hm hkp))
  | succ k ih =>
    intro i s1 hk' hi hst hkp ⟨L, es, ep, t, hS, g⟩ mv
    have hlt : i < n := by omega
    refine codeAny_builtin F.entry_set_update_loop ?_
    rw [Around.under_plainId F.plain_set_update_loop _]
    show wpAny _ A.in1 (pyNext (.ref I) >>= _) _ _ s1
    refine wpAny_bind (W.item i s1 _ _ hlt hst fun v s' hP hst' hm => ?_)
    obtain ⟨p, hp, rfl⟩ := hval i v hP
    have hkp' := old hm hkp
    have hS' : SetG P w s'.heap S L es ep t := hS.move (fun o e => hm.heap S o hSw e) (tupsIn g hkp')
    have hx : IsT P w s'.heap p.2 p.1 := isT_keep (hk p (List.mem_of_getElem? hp)) hkp'
    have hl := g.len
    show wpAny _ A.in1 (holding [Value.ref p.1] (setAdd S (.ref p.1)) >>= _) _ _ s'
    refine wpAny_bind (wpAny_holding ?_)
    unfold setAdd
    refine wpAny_holding ?_
    refine wpAny_bind (wpAny_pyHash_tuple hu hx ?_)
    refine addG (s := { s' with toks := s'.toks + (p.2.length + 1) }) hS' hx hu (by omega) fun b h' L' es' ep' t' hsb hS2 c1 c2 => ?_
    have g' : Got ks (i + 1) L' := by
      by_cases c : p.2 ∈ L.map (·.2)
      · rw [c1 c]; exact g.same hp c
      · exact g.more hp (c2 c)
    have far : ∀ b, b ≠ S → h'.get? b = s'.heap.get? b := fun b hb => hsb.2 b hb
    refine wpAny_pure ⟨plainId_quiet F.plain_set_update_loop _, ih (i + 1) _ (by omega) hlt (W.frame _ s' _ _ hst' (Nat.le_add_right _ _) fun b hb o e => ?_) (fun b o e => ?_) ⟨L', es', ep', t', hS2, g'⟩ fun s'' hm'' => ?_⟩
    · show h'.get? b = some o
      rw [far b fun z => hSf (z ▸ hb)]; exact e
    · show h'.get? b = some o
      rw [far b fun z => by rw [z, hS0] at e; cases e]; exact hkp' b o e
    · refine mv s'' (Moved.trans W.gtrans ((hm.mono up).then_heap (Nat.le_add_right _ _) fun b o hb e => ?_) hm'')
      show h'.get? b = some o
      rw [far b fun z => hb (by rw [z]; exact List.mem_cons_self)]; exact e

/-- set(xs) -/
theorem call_setG {l : Addr} {items : Array Value} (ks : List (Addr × List Int)) {Q : Value → Shared → Prop} (hh : A.handled = none) (hl : s.heap.IsList l items) (hit : items.toList = ks.map fun p => Value.ref p.1)
    (hk : ∀ p ∈ ks, IsT P w s.heap p.2 p.1) (hfew : ks.length ≤ 300) (hu : A.units + 3 < cLine)
    (h : ∀ (h' : Heap) (tk : Nat) L es ep t, SetG P w h' s.heap.objs.size L es ep t → Got ks ks.length L → (∀ b o, s.heap.get? b = some o → h'.get? b = some o) → Q (.ref s.heap.objs.size) { s with heap := h', toks := tk }) :
    wpAny (model P w) A (call (.type "set") [.ref l]) Q E s := by
  have hisz : items.size = ks.length := by simpa using congrArg List.length hit
  obtain ⟨c, tl, hmro⟩ := F.called_set.mro
  have hmade := F.called_set.made
  have hsub := F.called_set.sub
  refine wpAny_call (codeAny_of_tree ?_)
  show wpAny _ _ (callAny (.type "set") _) _ _ _
  refine wpAny_pure ⟨Code.quiet_builtin _ (by decide +kernel), codeAny_builtin F.entry_type_call ?_⟩
  rw [Around.under_plain (weight_type_call_type "set" [.ref l] []) rfl]
  have h1 := F.called_set.notType
  have h2 := F.called_set.canCreate
  have hct := F.typeCall_set_1 (.ref l)
  repeat (any_goals (first | assumption | wp_step))
  refine codeAny_mono (code_set_led1 (.ref l) (E := E) (Q₁ := fun obj s₁ => obj = .ref s.heap.objs.size ∧ s₁ = { s with heap := s.heap.push (newSet w) }) ⟨rfl, rfl⟩) fun r s₁ hr => ?_
  cases r with
  | error e => exact hr
  | ok fl =>
    cases fl with
    | ret obj =>
      obtain ⟨rfl, rfl⟩ := hr
      have hS : (s.heap.push (newSet w)).get? s.heap.objs.size = some (newSet w) := Heap.get?_push_size _ rfl
      have hT : Shared.TypeIs { s with heap := s.heap.push (newSet w) } (.ref s.heap.objs.size) "set" := ⟨_, hS, rfl⟩
      have hli := F.called_set.init.lookup
      have hbi := F.called_set.init.bind (.ref s.heap.objs.size)
      repeat (any_goals (first | assumption | wp_step))
      refine codeAny_mono (codeAny_call_builtin (R := wants (fun r s₂ => r = .none ∧ ∃ h' tk L es ep t, s₂ = { s with heap := h', toks := tk } ∧ SetG P w h' s.heap.objs.size L es ep t ∧ Got ks ks.length L ∧
          (∀ b o, s.heap.get? b = some o → h'.get? b = some o)) E) F.called_set.init.plain F.entry_set_init (check_set_init_1 hT ?_)) fun r₂ s₂ hr₂ => ?_
      · obtain ⟨ol, hol, hcl, nl, hdl⟩ := hl
        obtain ⟨ocls, odict, odata, oslots⟩ := ol
        simp only at hcl hdl
        subst hcl; subst hdl
        have hol' : (s.heap.push (newSet w)).get? l = some { cls := .type "list", dict := odict, data := .seq items nl, slots := oslots } := Heap.get?_push_of_some _ hol
        have hsls := F.sub_list_set
        have hslf := F.sub_list_frozenset
        have hne : (Value.type "list" == Value.type "dict") = false := by decide
        have hl1 : (s.heap.push (newSet w)).IsList l items := ⟨_, hol', rfl, nl, rfl⟩
        unfold Builtin.«set.__init__» noKeywords Builtin.Frozenset.updateFrom
        generalize hPI : pyIter = PI
        wp_walk
        subst hPI
        refine wpAny_pyIter_list hl1 ?_
        refine wpAny_bind (wpAny_runValue ?_)
        have hlS : l < s.heap.objs.size := Heap.lt_size hol
        have hh3 : A.in1.in1.in1.handled = none := by simp [hh]
        have hz1 : (s.heap.push (newSet w)).objs.size = s.heap.objs.size + 1 := Heap.size_push ..
        have hneI : l ≠ (s.heap.push (newSet w)).objs.size := by
          rw [hz1]
          exact Nat.ne_of_lt (Nat.lt_succ_of_lt hlS)
        have hSf : s.heap.objs.size ∉ [(s.heap.push (newSet w)).objs.size, l] := by
          rw [hz1]
          simp only [List.mem_cons, List.not_mem_nil, or_false, not_or]
          exact ⟨Nat.ne_of_lt (Nat.lt_succ_self _), fun z => Nat.lt_irrefl _ (z ▸ hlS)⟩
        have hval : ∀ (i : Nat) (v : Value), items[i]? = some v → ∃ p, ks[i]? = some p ∧ v = .ref p.1 := by
          intro i v hv
          rw [← Array.getElem?_toList, hit, List.getElem?_map] at hv
          obtain ⟨p, hp, e⟩ := Option.map_eq_some_iff.mp hv
          exact ⟨p, hp, e.symm⟩
        have free : ∀ b, s.heap.objs.size ≤ b → s.heap.get? b = none := by
          intro b hb
          cases q : s.heap.get? b with
          | none => rfl
          | some o => exact absurd (Heap.lt_size q) (Nat.not_lt_of_le hb)
        refine fillG ((Walks.list hh3 _ l hneI items).toS) s.heap.objs.size hSf ks hisz hfew hval s.heap hk (free _ (Nat.le_refl _))
          (fun b hb => free b (by rw [List.mem_singleton.mp hb, hz1]; omega)) hu ?hR (items.size - 0) 0 _ (by omega) (Nat.zero_le _)
          ⟨⟨_, Heap.get?_push_size _ rfl, rfl, rfl⟩, (hl1.push _)⟩ (fun b o e => Heap.get?_push_of_some _ (Heap.get?_push_of_some _ e)) ?hS0 (fun _ z => z)
        case hS0 =>
          obtain ⟨t, ht⟩ := setG_new (P := P) (w := w) (h := (s.heap.push (newSet w)).push { cls := .type "list_iterator", data := .fields #[.ref l, .int 0 0] }) (a := s.heap.objs.size) (Heap.get?_push_of_some _ hS)
          exact ⟨[], #[], 0, t, ht, Got.zero ks⟩
        case hR =>
          intro s' L es ep t hm hS' g' hkp
          obtain ⟨h', g2, d', tk', os'⟩ := s'
          have eg : g2 = s.gens := hm.gens
          have ed : d' = s.drawn := hm.drawn
          have eo : os' = s.os := hm.os
          subst eg; subst ed; subst eo
          show wpAny _ _ _ _ _ _
          refine wpAny_pure ?_
          show wpAny _ _ (ret Value.none) _ _ _
          rw [hisz] at g'
          exact wpAny_pure ⟨rfl, h', tk', L, es, ep, t, rfl, hS', g', hkp⟩
      · cases r₂ with
        | error e => exact hr₂
        | ok fl₂ =>
          cases fl₂ with
          | ret r =>
            obtain ⟨rfl, h', tk, L, es, ep, t, rfl, hS', g', hk'⟩ := hr₂
            repeat (any_goals (first | assumption | wp_step))
            exact h _ _ _ _ _ _ hS' g' hk'
          | _ => exact hr₂.elim
    | _ => exact hr.elim
end

/-! ### as rules of the layer -/
/-- the set at a holds just the tuples of L, whose objects are told beside -/
def SetB (P : Program) (w : World) (h : Heap) (a : Addr) (L : List (Addr × List Int)) : Prop :=
  ∃ (es : Array (Int × Value)) (ep : Nat) (t : SetTable), (∃ o, h.get? a = some o ∧ o.ExactSet ∧ o.data = .set es ep t) ∧ es.toList = rowsOf P w L ∧ Tab t (L.map fun p => thash P w p.2) ∧ (L.map (·.2)).Nodup ∧ t.plain = true ∧
    (w.params.followText "set-order" = true ∨ t.led = true) ∧ L.length * 5 < t.mask * 3
def SetBO (P : Program) (w : World) (a : Addr) (L : List (Addr × List Int)) : HO := .ext fun h => SetB P w h a L
theorem SetG.b {P : Program} {w : World} {h : Heap} {a : Addr} {L : List (Addr × List Int)} {es : Array (Int × Value)} {ep : Nat} {t : SetTable} (R : SetG P w h a L es ep t) : SetB P w h a L := by
  obtain ⟨r1, r2, r3, r4, _, r6, r7, r8⟩ := R
  exact ⟨es, ep, t, r1, r2, r3, r4, r6, r7, r8⟩
theorem SetB.g {P : Program} {w : World} {h : Heap} {a : Addr} {L : List (Addr × List Int)} (R : SetB P w h a L) (ht : ∀ p ∈ L, IsT P w h p.2 p.1) : ∃ es ep t, SetG P w h a L es ep t := by
  obtain ⟨es, ep, t, r1, r2, r3, r4, r6, r7, r8⟩ := R
  exact ⟨es, ep, t, r1, r2, r3, r4, ht, r6, r7, r8⟩
theorem setB_new {P : Program} {w : World} {H : Hp} {h : Heap} {a : Addr} {L : List (Addr × List Int)} (R : SetB P w h a L) : ObjOk P w H h a (SetBO P w a L) := by
  obtain ⟨es, ep, t, ⟨o, ho, r⟩, q⟩ := id R
  refine ⟨R, ⟨o, ho⟩, fun h1 h2 p k => ?_⟩
  obtain ⟨es', ep', t', ⟨o', ho', r'⟩, q'⟩ := (show SetB P w h1 a L from p)
  exact ⟨es', ep', t', ⟨o', k o' ho', r'⟩, q'⟩
section
variable {X : Cx}
/-- set(xs), xs a list of tuples of whole numbers -/
def rSetT (K : PySem.W.Frag) (P : Program) (w : World) : List V → Hp → VK → Prop := fun xs H Q => ∃ (l : Addr) (ks : List (Addr × List Int)), xs = [V.ref l] ∧ SqL K H l (ks.map fun p => V.ref p.1) ∧ (∀ p ∈ ks, SqT K H p.1 (p.2.map V.int)) ∧ ks.length ≤ 300 ∧
  ∀ a L, H a = none → (∀ p ∈ L, p ∈ ks) → (∀ p ∈ ks, p.2 ∈ L.map (·.2)) → Q (.ref a) (upd H a (SetBO P w a L))
theorem call_setOfT (hc : X.calm = true) (hu : X.A.units + 65 < cLine) : CallR X (.type "set") (rSetT X.K X.prog X.w) := by
  intro pins s σ H xs us Q I r h
  obtain ⟨l, ks, rfl, hl, hk, hf, q⟩ := h
  rw [Vals.ref1 r]
  obtain ⟨its, rv, pl, hz⟩ := I.list hl
  have hn : H s.heap.objs.size = none := I.hok.fresh (Nat.le_refl _)
  refine call_setG (P := X.prog) (w := X.w) ks (I.ok.hd hc) pl.isList (by simpa using refs_of_vals rv) (fun p hp => I.isT (hk p hp)) hf (by omega) fun h' tk L es ep t R g k => ?_
  refine ⟨.ref s.heap.objs.size, upd H s.heap.objs.size (SetBO X.prog X.w s.heap.objs.size L), I.laid (t' := tk) k (Nat.le_refl _) (setB_new R.b), rfl, q _ L hn (fun p hp => ?_) fun p hp => ?_⟩
  · exact List.mem_of_mem_take (g.sub p hp)
  · exact g.all p (by rw [List.take_length]; exact hp)
/-- x in the set, x not in it -/
def rInT (K : PySem.W.Frag) (P : Program) (w : World) (no : Bool) : R2 := fun x y H Q => ∃ (t a : Addr) (k : List Int) (L : List (Addr × List Int)), x = V.ref t ∧ y = V.ref a ∧ SqT K H t (k.map V.int) ∧ H a = some (SetBO P w a L) ∧ (∀ p ∈ L, SqT K H p.1 (p.2.map V.int)) ∧
  Q (.bl (if no then !decide (k ∈ L.map (·.2)) else decide (k ∈ L.map (·.2)))) H
theorem asksG {pins : List (Addr × Obj)} {σ : L2.St} {H : Hp} {s : Shared} {t a : Addr} {k : List Int} {L : List (Addr × List Int)} {Q : Value → Shared → Prop} (I : Inv X pins σ H s) (hu : X.A.units + 65 < cLine) (hk : SqT X.K H t (k.map V.int)) (ha : H a = some (SetBO X.prog X.w a L)) (hL : ∀ p ∈ L, SqT X.K H p.1 (p.2.map V.int))
    {f : Bool → Value} (hq : ∀ tk, Q (f (decide (k ∈ L.map (·.2)))) { s with toks := tk }) :
    wpAny (model X.prog X.w) X.A (do return f (← contains (.ref a) (.ref t))) Q X.xe s := by
  have RB : SetB X.prog X.w s.heap a L := (I.hok a _ ha).1
  obtain ⟨es, ep, tb, R⟩ := RB.g fun p hp => I.isT (hL p hp)
  have hx := I.isT hk
  obtain ⟨o, ho, hex, hd⟩ := R.obj
  have hT : s.TypeIs (.ref a) "set" := ⟨o, ho, hex.1⟩
  refine wpAny_bind ?_
  unfold contains
  try with_reducible refine wpAny_holding ?_
  refine wpAny_bind (wpAny_specialOf hT PySem.F.slot_set_contains.lookup ?_)
  refine wp_if_neg (by rw [beq_builtin_none]; exact Bool.false_ne_true) ?_
  refine wpAny_bind (wpAny_callSpecialUnlessNone?_slot (name := Str.ofString "__contains__") hT PySem.F.slot_set_contains
    (wpAny_call_entry PySem.F.slot_set_contains hT entry_set_contains ?_ (PySem.F.args_set_contains_2 _ _)))
  unfold Builtin.«frozenset.__contains__» Builtin.Frozenset.oneOther
  simp only [List.isEmpty_nil, bind_assoc]
  unfold Builtin.Frozenset.addrOf Builtin.Frozenset.withSetAsKey setContains
  refine wpAny_bind (wpAny_pure ?_)
  try dsimp only
  refine wpAny_bind (wpAny_pure ?_)
  try dsimp only
  refine wpAny_bind (wpAny_tryCatch ?_)
  refine wpAny_holding ?_
  refine wpAny_bind (wpAny_pyHash_tuple (by show X.A.in1.units < cLine; simp; omega) hx ?_)
  refine wpAny_bind (findG (s := { s with toks := s.toks + (k.length + 1) }) R hx (by show X.A.in1.units < cLine; simp; omega) fun r hr => ?_)
  refine wpAny_pure ?_
  show wpAny _ _ (ret (Value.bool r.isSome)) _ _ _
  rw [hr]
  exact wpAny_pure ⟨_, rfl, wpAny_truthy_bool (wpAny_pure (hq _))⟩
theorem op_inSetT (hu : X.A.units + 65 < cLine) : OpR X (compareOp .In) (rInT X.K X.prog X.w false) := by
  intro pins s σ H x y v u Q I rx ry h
  obtain ⟨t, a, k, L, rfl, rfl, hk, ha, hL, q⟩ := h
  cases rx
  cases ry
  exact asksG I hu hk ha hL (f := fun b => .bool b) fun tk => ⟨.bl _, H, I.tok _, rfl, q⟩
theorem op_notInSetT (hu : X.A.units + 65 < cLine) : OpR X (compareOp .NotIn) (rInT X.K X.prog X.w true) := by
  intro pins s σ H x y v u Q I rx ry h
  obtain ⟨t, a, k, L, rfl, rfl, hk, ha, hL, q⟩ := h
  cases rx
  cases ry
  exact asksG I hu hk ha hL (f := fun b => .bool (!b)) fun tk => ⟨.bl _, H, I.tok _, rfl, q⟩
end
end Big

/-! Data as wide as what may be handed in, and readings that give something with a property. -/
namespace Sg
open PySem L2 Evl
open PyProof.Rows (envOfC)

/-! ### data -/
mutual
inductive Da (K : PySem.W.Frag) (H : Hp) : V → PyData → Prop
  | non : Da K H .non .none
  | bl (b : Bool) : Da K H (.bl b) (.bool b)
  | int (i : Int) : Da K H (.int i) (.int i)
  | str (x : Str) : Da K H (.str x) (.str x)
  | lst {a : Addr} {xs : List V} {ds : List PyData} (h : SqL K H a xs) (hs : DaAll K H xs ds) : Da K H (.ref a) (.list ds)
  | tup {a : Addr} {xs : List V} {ds : List PyData} (h : SqT K H a xs) (hs : DaAll K H xs ds) : Da K H (.ref a) (.tuple ds)
  | dic {a : Addr} {kvs : List (Key × V)} (h : H a = some (.dK kvs)) : Da K H (.ref a) (.dict [])
inductive DaAll (K : PySem.W.Frag) (H : Hp) : List V → List PyData → Prop
  | nil : DaAll K H [] []
  | cons {v : V} {vs : List V} {d : PyData} {ds : List PyData} (h : Da K H v d) (hs : DaAll K H vs ds) : DaAll K H (v :: vs) (d :: ds)
end
variable {K : PySem.W.Frag} {H H' : Hp}
mutual
theorem Da.mono (e : Ex H H') : ∀ {v : V} {d : PyData}, Da K H v d → Da K H' v d
  | _, _, .non => .non
  | _, _, .bl b => .bl b
  | _, _, .int i => .int i
  | _, _, .str x => .str x
  | _, _, .lst h hs => .lst (ex_l e h) (DaAll.mono e hs)
  | _, _, .tup h hs => .tup (ex_t e h) (DaAll.mono e hs)
  | _, _, .dic h => .dic (e _ _ h)
theorem DaAll.mono (e : Ex H H') : ∀ {vs : List V} {ds : List PyData}, DaAll K H vs ds → DaAll K H' vs ds
  | _, _, .nil => .nil
  | _, _, .cons h hs => .cons (Da.mono e h) (DaAll.mono e hs)
end
theorem DaAll.len : ∀ {vs : List V} {ds : List PyData}, DaAll K H vs ds → vs.length = ds.length
  | _, _, .nil => rfl
  | _, _, .cons _ hs => congrArg (· + 1) hs.len
theorem DaAll.at_ : ∀ {vs : List V} {ds : List PyData}, DaAll K H vs ds → ∀ {i : Nat} {v : V}, vs[i]? = some v → ∃ d, ds[i]? = some d ∧ Da K H v d
  | _, _, .nil, i, v, e => by simp at e
  | _, _, .cons (d := d) h hs, 0, v, e => by
    simp only [List.getElem?_cons_zero, Option.some.injEq] at e
    subst e
    exact ⟨d, rfl, h⟩
  | _, _, .cons h hs, i + 1, v, e => hs.at_ (i := i) (by simpa using e)
theorem DaAll.map {α : Type} (f : α → V) (g : α → PyData) : ∀ (l : List α), (∀ x ∈ l, Da K H (f x) (g x)) → DaAll K H (l.map f) (l.map g)
  | [], _ => .nil
  | x :: l, h => .cons (h x List.mem_cons_self) (DaAll.map f g l fun y hy => h y (List.mem_cons_of_mem _ hy))
theorem DaAll.snoc : ∀ {vs : List V} {ds : List PyData} {v : V} {d : PyData}, DaAll K H vs ds → Da K H v d → DaAll K H (vs ++ [v]) (ds ++ [d])
  | _, _, _, _, .nil, h => .cons h .nil
  | _, _, _, _, .cons a as, h => .cons a (as.snoc h)
theorem da_ints (l : List Int) : DaAll K H (l.map V.int) (l.map PyData.int) := DaAll.map _ _ l fun x _ => .int x
theorem dp_ints : ∀ (l : List Int), DpAll K H (l.map V.int) (l.map PyData.int)
  | [] => .nil
  | x :: l => .cons (.int x) (dp_ints l)
/-- a number or None -/
def oV : Option Int → V
  | none => .non
  | some i => .int i
def oD : Option Int → PyData
  | none => .none
  | some i => .int i
theorem da_o (o : Option Int) : Da K H (oV o) (oD o) := by cases o <;> constructor
theorem da_os (l : List (Option Int)) : DaAll K H (l.map oV) (l.map oD) := DaAll.map _ _ l fun x _ => da_o x
theorem dp_os : ∀ (l : List (Option Int)), DpAll K H (l.map oV) (l.map oD)
  | [] => .nil
  | none :: l => .cons .non (dp_os l)
  | some i :: l => .cons (.int i) (dp_os l)

/-! ### the type of data, and isinstance -/
def tyName : PyData → String
  | .none => "NoneType" | .bool _ => "bool" | .int _ => "int" | .str _ => "str" | .list _ => "list" | .tuple _ => "tuple" | .dict _ => "dict"
def isT (T : String) (d : PyData) : Bool := T == tyName d || (T == "int" && tyName d == "bool")
theorem ty_list {a : Addr} {xs : List V} (h : SqL K H a xs) : TyX K H (.ref a) (.type "list") := by
  rcases h with (h | ⟨o, h⟩) | ⟨o, its, n, h1, h2, _⟩
  · exact .base (.lst h)
  · exact .base (.frz h)
  · exact .kList h1 h2
theorem ty_tup {a : Addr} {xs : List V} (h : SqT K H a xs) : TyX K H (.ref a) (.type "tuple") := by
  rcases h with (h | ⟨o, h⟩) | ⟨o, its, n, h1, h2, _⟩
  · exact .base (.tup h)
  · exact .fTuple h
  · exact .kTuple h1 h2
theorem Da.ty {v : V} {d : PyData} (h : Da K H v d) : TyX K H v (.type (tyName d)) := by
  cases h with
  | non => exact .base .non
  | bl b => exact .base (.bl b)
  | int i => exact .base (.int i)
  | str x => exact .base (.str x)
  | lst h _ => exact ty_list h
  | tup h _ => exact ty_tup h
  | dic h => exact .base (.dK h)
theorem kit_int : ∀ d : PyData, kitB (tyName d) "int" = some (isT "int" d)
  | .none => (by decide +kernel : kitB "NoneType" "int" = some false)
  | .bool _ => (by decide +kernel : kitB "bool" "int" = some true)
  | .int _ => (by decide +kernel : kitB "int" "int" = some true)
  | .str _ => (by decide +kernel : kitB "str" "int" = some false)
  | .list _ => (by decide +kernel : kitB "list" "int" = some false)
  | .tuple _ => (by decide +kernel : kitB "tuple" "int" = some false)
  | .dict _ => (by decide +kernel : kitB "dict" "int" = some false)
theorem kit_bool : ∀ d : PyData, kitB (tyName d) "bool" = some (isT "bool" d)
  | .none => (by decide +kernel : kitB "NoneType" "bool" = some false)
  | .bool _ => (by decide +kernel : kitB "bool" "bool" = some true)
  | .int _ => (by decide +kernel : kitB "int" "bool" = some false)
  | .str _ => (by decide +kernel : kitB "str" "bool" = some false)
  | .list _ => (by decide +kernel : kitB "list" "bool" = some false)
  | .tuple _ => (by decide +kernel : kitB "tuple" "bool" = some false)
  | .dict _ => (by decide +kernel : kitB "dict" "bool" = some false)
theorem kit_list : ∀ d : PyData, kitB (tyName d) "list" = some (isT "list" d)
  | .none => (by decide +kernel : kitB "NoneType" "list" = some false)
  | .bool _ => (by decide +kernel : kitB "bool" "list" = some false)
  | .int _ => (by decide +kernel : kitB "int" "list" = some false)
  | .str _ => (by decide +kernel : kitB "str" "list" = some false)
  | .list _ => (by decide +kernel : kitB "list" "list" = some true)
  | .tuple _ => (by decide +kernel : kitB "tuple" "list" = some false)
  | .dict _ => (by decide +kernel : kitB "dict" "list" = some false)
theorem kit_tuple : ∀ d : PyData, kitB (tyName d) "tuple" = some (isT "tuple" d)
  | .none => (by decide +kernel : kitB "NoneType" "tuple" = some false)
  | .bool _ => (by decide +kernel : kitB "bool" "tuple" = some false)
  | .int _ => (by decide +kernel : kitB "int" "tuple" = some false)
  | .str _ => (by decide +kernel : kitB "str" "tuple" = some false)
  | .list _ => (by decide +kernel : kitB "list" "tuple" = some false)
  | .tuple _ => (by decide +kernel : kitB "tuple" "tuple" = some true)
  | .dict _ => (by decide +kernel : kitB "dict" "tuple" = some false)
theorem ev_isi {te : TE} {σ : L2.St} {v : V} {d : PyData} {T : String} {b : Bool} (h : Ev te σ H v) (hd : Da K H v d) (hk : kitB (tyName d) T = some b) : Ev (tCB (rIsi K) (tCons te (tCons (tC (.ty T)) tNil))) σ H (.bl b) := fun H1 e Q q =>
  h H1 e _ fun H2 e2 => ⟨v, .ty T, _, _, b, rfl, .ty T, (hd.mono (e.trans e2)).ty, kit_ty hk, q H2 e2⟩

/-! ### readings that give something with a property -/
def EvP (te : TE) (σ : L2.St) (H : Hp) (Post : V → Hp → Prop) : Prop := ∀ H1, Ex H H1 → ∀ Q : VK, (∀ v H2, Ex H1 H2 → Post v H2 → Q v H2) → te σ H1 Q
def Give (H : Hp) (Post : V → Hp → Prop) (Q : VK) : Prop := ∀ v H2, Ex H H2 → Post v H2 → Q v H2
def SpP (sp : Sp) (vs : List V) (H : Hp) (Post : V → Hp → Prop) : Prop := ∀ H1, Ex H H1 → ∀ Q : VK, (∀ v H2, Ex H1 H2 → Post v H2 → Q v H2) → ∀ E : XK, sp vs H1 Q E
section
variable {σ : L2.St} {te ta tb : TE} {t u : TT} {v x y z : V} {Post Post' : V → Hp → Prop} {D : Ends} {tz tu tw : TS} {r : R2}
theorem EvP.mono (e : Ex H H') (h : EvP te σ H Post) : EvP te σ H' Post := fun H1 a Q q => h H1 (e.trans a) Q q
theorem EvP.weak (h : EvP te σ H Post) (w : ∀ v H1, Ex H H1 → Post v H1 → Post' v H1) : EvP te σ H Post' := fun H1 e Q q => h H1 e Q fun v H2 e2 p => q v H2 e2 (w v H2 (e.trans e2) p)
theorem evp_of (h : Ev te σ H v) (p : ∀ H1, Ex H H1 → Post v H1) : EvP te σ H Post := fun H1 e Q q => h H1 e Q fun H2 e2 => q v H2 e2 (p H2 (e.trans e2))
theorem evp_l {xs : List V} (h : EvL te σ H xs) (p : ∀ a H1, H a = none → Ex H H1 → H1 a = some (.lst xs) → Post (.ref a) H1) : EvP te σ H Post := fun H1 e Q q =>
  h H1 e Q fun a H2 ha e2 h2 => q (.ref a) H2 e2 (p a H2 (fresh_back e ha) (e.trans e2) h2)
theorem evp_u {xs : List V} (h : EvU te σ H xs) (p : ∀ a H1, H a = none → Ex H H1 → H1 a = some (.tup xs) → Post (.ref a) H1) : EvP te σ H Post := fun H1 e Q q =>
  h H1 e Q fun a H2 ha e2 h2 => q (.ref a) H2 e2 (p a H2 (fresh_back e ha) (e.trans e2) h2)
theorem evp_call {sp : Sp} {dvs vs : List V} {E : XK} {ta : TA} (h : EvA ta σ H vs) (hs : SpP sp (vs ++ dvs) H Post) : EvP (tCall sp dvs E ta) σ H Post := fun H1 e Q q =>
  h H1 e _ fun H2 e2 => hs H2 (e.trans e2) Q (fun v H3 e3 p => q v H3 (e2.trans e3) p) E
/-- an operation whose first part gives something -/
theorem ev_opP (ha : EvP ta σ H Post) (hb : ∀ x H1, Ex H H1 → Post x H1 → ∃ y, Ev tb σ H1 y ∧ RV r x y H1 z) : Ev (tOp r ta tb) σ H z := fun H1 e Q q =>
  ha H1 e _ fun x H2 e2 p => by
    obtain ⟨y, h2, h3⟩ := hb x H2 (e.trans e2) p
    exact h2 H2 (Ex.refl _) _ fun H3 e3 => h3 H3 e3 Q fun H4 e4 => q H4 ((e2.trans e3).trans e4)
theorem ea_consP {tr : TA} {P : List V → Hp → Prop} (h : EvP te σ H Post) (hr : ∀ x H1, Ex H H1 → Post x H1 → ∀ Q : List V → Hp → Prop, (∀ vs H2, Ex H1 H2 → P (x :: vs) H2 → Q vs H2) → tr σ H1 Q) :
    ∀ H1, Ex H H1 → ∀ Q : List V → Hp → Prop, (∀ vs H2, Ex H1 H2 → P vs H2 → Q vs H2) → tCons te tr σ H1 Q := fun H1 e Q q =>
  h H1 e _ fun x H2 e2 p => hr x H2 (e.trans e2) p _ fun vs H3 e3 hP => q _ H3 (e2.trans e3) hP
theorem q_asgP {i : Nat} (h : EvP te σ H Post) (k : ∀ v H1, Ex H H1 → Post v H1 → tz D (σ.set i (some v)) H1) : tSeq (tAsg te (gName i)) tz D σ H := h H (Ex.refl H) _ k
theorem s_asgP {i : Nat} (h : EvP te σ H Post) (k : ∀ v H1, Ex H H1 → Post v H1 → D.nx (σ.set i (some v)) H1) : tAsg te (gName i) D σ H := h H (Ex.refl H) _ k
theorem s_retP (h : EvP te σ H Post) (k : ∀ v H1, Ex H H1 → Post v H1 → D.rt v H1) : tRet te D σ H := h H (Ex.refl H) _ k
theorem q_dropP (h : EvP te σ H Post) (k : ∀ v H1, Ex H H1 → Post v H1 → tz D σ H1) : tSeq (tDrop te) tz D σ H := h H (Ex.refl H) _ k
/-- i, j = (two things) -/
theorem q_unp2 {i j : Nat} (h : EvP te σ H Post) (k : ∀ p H1, Ex H H1 → Post p H1 → ∃ a x y, p = .ref a ∧ SqT K H1 a [x, y] ∧ tz D ((σ.set i (some x)).set j (some y)) H1) : tSeq (tAsg te (gTup K 2 (gCons (gName i) (gCons (gName j) gNil)))) tz D σ H :=
  h H (Ex.refl H) _ fun p H1 e q => by
    obtain ⟨a, x, y, rfl, ht, hk⟩ := k p H1 e q
    exact ⟨a, _, rfl, ht, rfl, x, _, rfl, y, _, rfl, rfl, hk⟩
theorem q_unp3 {i j l : Nat} (h : EvP te σ H Post) (k : ∀ p H1, Ex H H1 → Post p H1 → ∃ a x y z, p = .ref a ∧ SqT K H1 a [x, y, z] ∧ tz D (((σ.set i (some x)).set j (some y)).set l (some z)) H1) : tSeq (tAsg te (gTup K 3 (gCons (gName i) (gCons (gName j) (gCons (gName l) gNil))))) tz D σ H :=
  h H (Ex.refl H) _ fun p H1 e q => by
    obtain ⟨a, x, y, z, rfl, ht, hk⟩ := k p H1 e q
    exact ⟨a, _, rfl, ht, rfl, x, _, rfl, y, _, rfl, z, _, rfl, rfl, hk⟩
/-- x < y <= z -/
theorem ev_chain {r' : R2} {tc : TE} {b b2 : Bool} {w : V} (ha : Ev ta σ H x) (hb : Ev tb σ H y) (hr : RV r x y H (.bl b)) (hc : b = true → Ev tc σ H w) (hr' : b = true → RV r' y w H (.bl b2)) : Ev (tChain r r' ta tb tc) σ H (.bl (b && b2)) := fun H1 e Q q =>
  ha H1 e _ fun H2 e2 => hb H2 (e.trans e2) _ fun H3 e3 => hr H3 ((e.trans e2).trans e3) _ fun H4 e4 => ⟨b, rfl, by
    cases b with
    | true => exact iteT (hc rfl H4 (((e.trans e2).trans e3).trans e4) _ fun H5 e5 => hr' rfl H5 ((((e.trans e2).trans e3).trans e4).trans e5) Q fun H6 e6 => q H6 ((((e2.trans e3).trans e4).trans e5).trans e6))
    | false => exact iteF (q H4 ((e2.trans e3).trans e4))⟩
theorem rv_lt {i j : Int} : RV (rI0 fun i j => .bl (decide (i < j))) (.int i) (.int j) H (.bl (decide (i < j))) := rv_I0
theorem rv_isN : RV (fun x y H Q => y = .non ∧ Q (.bl (decide (x = .non))) H) x .non H (.bl (decide (x = .non))) := fun H1 _ _ q => ⟨rfl, q H1 (Ex.refl H1)⟩
theorem rv_notN : RV (fun x y H Q => y = .non ∧ Q (.bl (!decide (x = .non))) H) x .non H (.bl (!decide (x = .non))) := fun H1 _ _ q => ⟨rfl, q H1 (Ex.refl H1)⟩
/-- a value's truth -/
theorem et_tru {b : Bool} (h : Ev te σ H x) (ht : ∀ H1, Ex H H1 → TruV K x H1 b) : EvT (fun σ H Q => te σ H fun x H' => ∃ k, TruV K x H' k ∧ Q k H') σ H b := fun H1 e _ q => h H1 e _ fun H2 e2 => ⟨b, ht H2 (e.trans e2), q H2 e2⟩
/-- all, any of a list of truths that is made for it -/
theorem ev_all {bs : List Bool} (h : EvL te σ H (bs.map V.bl)) : Ev (tCB (rAll K) (tCons te tNil)) σ H (.bl (bs.all id)) := fun H1 e Q q =>
  h H1 e _ fun p H2 _ e2 h2 => ⟨p, bs, rfl, sq_of h2, q H2 e2⟩
theorem ev_any {bs : List Bool} (h : EvL te σ H (bs.map V.bl)) : Ev (tCB (rAny K) (tCons te tNil)) σ H (.bl (bs.any id)) := fun H1 e Q q =>
  h H1 e _ fun p H2 _ e2 h2 => ⟨p, bs, rfl, sq_of h2, q H2 e2⟩
/-- len of what stands -/
theorem ev_lenT {p : Addr} {xs : List V} (ha : Ev ta σ H (.ref p)) (h : SqT K H p xs) : Ev (tCB (rLenS K) (tCons ta tNil)) σ H (.int (xs.length : Int)) := fun H1 e Q q =>
  ha H1 e _ fun H2 e2 => ⟨p, xs, rfl, .inr (ex_t (e.trans e2) h), q H2 e2⟩
theorem ev_cbP {rr : List V → Hp → VK → Prop} (h : EvP te σ H Post) (hr : ∀ x H1, Ex H H1 → Post x H1 → RC rr [x] H1 z) : Ev (tCB rr (tCons te tNil)) σ H z := fun H1 e Q q =>
  h H1 e _ fun x H2 e2 p => hr x H2 (e.trans e2) p H2 (Ex.refl _) Q fun H3 e3 => q H3 (e2.trans e3)
end

/-! ### defs, methods, makers as the top has left them -/
structure DefOk (K : PySem.W.Frag) (mg : Str → Option Value) (x : Str) (st : Stmt) : Prop where
  ex : ∃ (f : Addr) (fd : FuncData), C8.Def K mg x st f fd ∧ fd.defaults = .none
structure MethOk (K : PySem.W.Frag) (C : Addr) (m qual : Str) (st : Stmt) : Prop where
  ex : ∃ (f : Addr) (fd : FuncData), Meth K C m f ∧ C8.Fun K m qual st f fd ∧ fd.defaults = .none
structure MakeOk (K : PySem.W.Frag) (mg : Str → Option Value) (x qual : Str) (C : Addr) (st : Stmt) : Prop where
  ex : ∃ (f : Addr) (fd : FuncData), Mk K C f ∧ mg x = some (.ref C) ∧ C8.Fun K "__init__" qual st f fd ∧ fd.defaults = .none
/-- how the arguments bind -/
def BindOkM (m qual : Str) (st : Stmt) (ps : List Str) : Prop := ∀ (kV doc pm : Value) (an : Option Addr) (cdv ct : Value) (us : List Value), us.length = ps.length → bindArgs (PySem.W.fnOf m qual (C8.fnArgs st) (C8.fnBody st) (C8.fnScope st) .none kV doc pm an cdv ct) ⟨us, []⟩ = pure (ps.zip us)
section
variable {P : Program} {w : World} {mg : Str → Option Value} {base : Heap} {x m qual : Str} {st : Stmt} {C : Addr} {N ps : List Str} {k : Nat} {sp : Sp}
theorem cal_of (D : DefOk K mg x st) (S : FnScope N ps (C8.fnScope st)) (hb : BindOkM x x st ps) (len : ∀ vs H Q E, sp vs H Q E → vs.length = ps.length)
    (hbody : ∀ (f : Addr) (cdv : Value) (A : Around) (outer : List Env) (s : Shared) (H : Hp) (vs : List V) (Q : VK) (E : XK), Room k (A.deeper (envOfC x (C8.fnScope st) s.heap.objs.size f cdv)) → sp vs H Q E →
      ∃ t, PSs (cxOf C8.CX0 P w K mg base N x (C8.fnScope st) f cdv A outer s H E).nox (C8.fnBody st) t ∧ t { nx := fun _ H' => Q .non H', rt := Q } (start N vs) H) : C8.Cal P w K mg base (k + 1) x sp [] := by
  obtain ⟨f, fd, d, e⟩ := D.ex
  exact C8.cal0 d (d.fn.binds e hb) .nil S len (hbody f)
theorem met_of (c : Cls K C) (D : MethOk K C m qual st) (S : FnScope N ps (C8.fnScope st)) (hb : BindOkM m qual st ps) (len : ∀ vs H Q E, sp vs H Q E → vs.length = ps.length)
    (hbody : ∀ (f : Addr) (cdv : Value) (A : Around) (outer : List Env) (s : Shared) (H : Hp) (vs : List V) (Q : VK) (E : XK), Room k (A.deeper (envOfC qual (C8.fnScope st) s.heap.objs.size f cdv)) → sp vs H Q E →
      ∃ t, PSs (cxOf C8.CX0 P w K mg base N qual (C8.fnScope st) f cdv A outer s H E).nox (C8.fnBody st) t ∧ t { nx := fun _ H' => Q .non H', rt := Q } (start N vs) H) : C8.Met P w K mg base (k + 1) C m sp [] := by
  obtain ⟨f, fd, me, d, e⟩ := D.ex
  exact C8.met0 c me d (d.binds e hb) S len (hbody f)
theorem mak_of (D : MakeOk K mg x qual C st) (S : FnScope N ps (C8.fnScope st)) (hb : BindOkM "__init__" qual st ps) (len : ∀ vs H Q E, sp vs H Q E → vs.length = ps.length)
    (hbody : ∀ (f : Addr) (cdv : Value) (A : Around) (outer : List Env) (s : Shared) (H : Hp) (vs : List V) (Q : VK) (E : XK), Room k (A.deeper (envOfC qual (C8.fnScope st) s.heap.objs.size f cdv)) → sp vs H Q E →
      ∃ t, PSs (cxOf C8.CX0 P w K mg base N qual (C8.fnScope st) f cdv A outer s H E).nox (C8.fnBody st) t ∧ t { nx := fun _ H' => Q .non H', rt := Q } (start N vs) H) : C8.Mak P w K mg base (k + 1) x C sp [] := by
  obtain ⟨f, fd, mk, hm, d, e⟩ := D.ex
  exact C8.mak0 mk hm d (d.binds e hb) .nil S len (hbody f)
end

/-! ### from what the top's walk finds -/
structure OwnTy (K : PySem.W.Frag) (C : Addr) : Prop where
  ha : PySem.W.findIn K (.ref C) "__class__" = some (some (.builtin "object.__class__"))
  hn : PySem.W.specialIn K (.builtin "object.__class__") "__get__" = some (some (.builtin "getset_descriptor.__get__"))
  htk : PySem.W.takesIn K (.builtin "object.__class__") = some true
  hm : PySem.W.mroIn K C (.type "object") = some true
section
variable {mg : Str → Option Value} {x m qual : Str} {st : Stmt} {C f : Addr} {oc : Value} {od an : Option Addr} {osl : Array (Option Value)} {kV doc pm cdv ct : Value}
theorem defOk_mk (g : mg x = some (.ref f)) (l : K.lookup f = some ⟨oc, od, .func (PySem.W.fnOf x x (C8.fnArgs st) (C8.fnBody st) (C8.fnScope st) .none kV doc pm an cdv ct), osl⟩)
    (c : PySem.W.codeIn K cdv x = true) (k : PySem.W.keepIn K (.ref f) = true) : DefOk K mg x st := ⟨f, _, ⟨⟨oc, od, .none, kV, doc, pm, an, cdv, ct, osl, rfl, l, c⟩, g, k⟩, rfl⟩
theorem methOk_mk (a : PySem.W.findIn K (.ref C) m = some (some (.ref f))) (i : PySem.W.isFn K (.ref f) = true) (l : K.lookup f = some ⟨oc, od, .func (PySem.W.fnOf m qual (C8.fnArgs st) (C8.fnBody st) (C8.fnScope st) .none kV doc pm an cdv ct), osl⟩)
    (c : PySem.W.codeIn K cdv qual = true) (k : PySem.W.keepIn K (.ref f) = true) : MethOk K C m qual st := ⟨f, _, ⟨a, i, k⟩, ⟨oc, od, .none, kV, doc, pm, an, cdv, ct, osl, rfl, l, c⟩, rfl⟩
theorem makeOk_mk (g : mg x = some (.ref C)) (mk : PySem.W.makesIn K C = true) (a : PySem.W.findIn K (.ref C) "__init__" = some (some (.ref f))) (i : PySem.W.isFn K (.ref f) = true)
    (l : K.lookup f = some ⟨oc, od, .func (PySem.W.fnOf "__init__" qual (C8.fnArgs st) (C8.fnBody st) (C8.fnScope st) .none kV doc pm an cdv ct), osl⟩)
    (c : PySem.W.codeIn K cdv qual = true) (k : PySem.W.keepIn K (.ref C) = true) : MakeOk K mg x qual C st := ⟨f, _, ⟨mk, a, i, k⟩, g, ⟨oc, od, .none, kV, doc, pm, an, cdv, ct, osl, rfl, l, c⟩, rfl⟩
end
end Sg

/-! Comprehensions and loops in the forms that are wanted here. -/
namespace Sg
open PySem L2 Evl Big
variable {K : PySem.W.Frag} {H H' : Hp} {σ : L2.St} {te ta tb : TE} {t u : TT} {v x y z : V} {D : Ends} {tz tu tw : TS} {g : TG}

theorem et_yes : EvT tYes σ H true := fun H1 _ _ q => q H1 (Ex.refl H1)
theorem filter_map_range {α β : Type} (l : List α) (p : α → Bool) (F : α → β) (pi : Nat → Bool) (Fi : Nat → β) (h : ∀ i x, l[i]? = some x → pi i = p x ∧ Fi i = F x) : ((List.range l.length).filter pi).map Fi = (l.filter p).map F := by
  have key : ∀ (l : List α) (k : Nat), (∀ i x, l[i]? = some x → pi (k + i) = p x ∧ Fi (k + i) = F x) → ((List.range' k l.length).filter pi).map Fi = (l.filter p).map F := by
    intro l
    induction l with
    | nil => intro k _; rfl
    | cons x l ih =>
      intro k h
      obtain ⟨h1, h2⟩ := h 0 x rfl
      rw [Nat.add_zero] at h1 h2
      have ih' := ih (k + 1) fun i y e => by
        have q := h (i + 1) y (by simpa using e)
        rw [show k + 1 + i = k + (i + 1) by omega]
        exact q
      rw [List.length_cons, List.range'_succ, List.filter_cons, List.filter_cons, h1]
      cases p x with
      | true => simp only [if_true, List.map_cons, h2, ih']
      | false => simp only [Bool.false_eq_true, if_false, ih']
  rw [List.range_eq_range']
  refine key l 0 fun i x e => ?_
  rw [Nat.zero_add]
  exact h i x e
theorem given_is {α : Type} (l : List α) (p : α → Bool) (F : α → V) (n : Nat) (hn : n = l.length) : given n (fun i => (l[i]?.map p).getD false) (fun i => (l[i]?.map F).getD .non) = (l.filter p).map F := by
  subst hn
  refine filter_map_range l p F _ _ fun i x e => ?_
  rw [e]
  exact ⟨rfl, rfl⟩
theorem wipe1 (σ : L2.St) (j : Nat) (x : Option V) : wipe ((wipe σ [j]).set j x) [j] = wipe σ [j] := by
  show ((σ.set j none).set j x).set j none = σ.set j none
  rw [List.set_set, List.set_set]
theorem wipe2 (σ : L2.St) {i j : Nat} (hij : i ≠ j) (x y : Option V) : wipe (((wipe σ [i, j]).set i x).set j y) [i, j] = wipe σ [i, j] := by
  show (((((σ.set j none).set i none).set i x).set j y).set j none).set i none = (σ.set j none).set i none
  generalize hs : σ.set j none = τ
  have e1 : (τ.set i none).set i x = τ.set i x := List.set_set none
  have e2 : ((τ.set i x).set j y).set j none = (τ.set i x).set j none := List.set_set y
  have e3 : (τ.set i x).set j none = (τ.set j none).set i x := List.set_comm x none hij
  have e4 : τ.set j none = τ := by rw [← hs]; exact List.set_set none
  have e5 : (τ.set i x).set i none = τ.set i none := List.set_set x
  rw [e1, e2, e3, e4, e5]

section
variable {α : Type}
/-- [e for x in xs if c] -/
theorem el_filtL {a : Addr} {tl : TE} {j : Nat} (l : List α) (f : α → V) (p : α → Bool) (F : α → V) (h : Ev tl σ H (.ref a)) (hx : SqL K H a (l.map f)) (hz : l.length ≤ 40000)
    (ht : ∀ x ∈ l, ∀ H1, Ex H H1 → EvT t ((wipe σ [j]).set j (some (f x))) H1 (p x)) (he : ∀ x ∈ l, ∀ H1, Ex H H1 → p x = true → Ev te ((wipe σ [j]).set j (some (f x))) H1 (F x)) :
    EvL (tLc (iList K tl) (gName j) t te [j]) σ H ((l.filter p).map F) := by
  have at_ : ∀ (i : Nat) (x : V), (l.map f)[i]? = some x → ∃ y, l[i]? = some y ∧ y ∈ l ∧ x = f y := by
    intro i x e
    rw [List.getElem?_map] at e
    obtain ⟨y, e1, e2⟩ := Option.map_eq_some_iff.mp e
    exact ⟨y, e1, List.mem_of_getElem? e1, e2.symm⟩
  rw [← given_is l p F (l.map f).length (by simp)]
  refine el_lcL _ _ h hx (by simpa using hz) (fun x => wipe1 σ j _) (fun i x H1 e1 hi => ?_) (fun i x H1 e1 hi hf => ?_)
  · obtain ⟨y, e2, hm, rfl⟩ := at_ i x hi
    rw [e2]
    exact ht y hm H1 e1
  · obtain ⟨y, e2, hm, rfl⟩ := at_ i x hi
    rw [e2] at hf ⊢
    exact he y hm H1 e1 hf
theorem filter_yes (l : List α) : l.filter (fun _ => true) = l := by simp
theorem el_mapL {a : Addr} {tl : TE} {j : Nat} (l : List α) (f : α → V) (F : α → V) (h : Ev tl σ H (.ref a)) (hx : SqL K H a (l.map f)) (hz : l.length ≤ 40000)
    (he : ∀ x ∈ l, ∀ H1, Ex H H1 → Ev te ((wipe σ [j]).set j (some (f x))) H1 (F x)) : EvL (tLc (iList K tl) (gName j) tYes te [j]) σ H (l.map F) := by
  have q := el_filtL (t := tYes) (te := te) (j := j) l f (fun _ => true) F h hx hz (fun _ _ _ _ => et_yes) fun x hm H1 e _ => he x hm H1 e
  rwa [filter_yes] at q
/-- .. over a new list -/
theorem el_filtN {tl : TE} {j : Nat} (l : List α) (f : α → V) (p : α → Bool) (F : α → V) (h : EvL tl σ H (l.map f)) (hz : l.length ≤ 40000)
    (ht : ∀ x ∈ l, ∀ H1, Ex H H1 → EvT t ((wipe σ [j]).set j (some (f x))) H1 (p x)) (he : ∀ x ∈ l, ∀ H1, Ex H H1 → p x = true → Ev te ((wipe σ [j]).set j (some (f x))) H1 (F x)) :
    EvL (tLc (iList K tl) (gName j) t te [j]) σ H ((l.filter p).map F) := by
  have at_ : ∀ (i : Nat) (x : V), (l.map f)[i]? = some x → ∃ y, l[i]? = some y ∧ y ∈ l ∧ x = f y := by
    intro i x e
    rw [List.getElem?_map] at e
    obtain ⟨y, e1, e2⟩ := Option.map_eq_some_iff.mp e
    exact ⟨y, e1, List.mem_of_getElem? e1, e2.symm⟩
  rw [← given_is l p F (l.map f).length (by simp)]
  refine el_lcNL _ _ h (by simpa using hz) (fun x => wipe1 σ j _) (fun i x H1 e1 hi => ?_) (fun i x H1 e1 hi hf => ?_)
  · obtain ⟨y, e2, hm, rfl⟩ := at_ i x hi
    rw [e2]
    exact ht y hm H1 e1
  · obtain ⟨y, e2, hm, rfl⟩ := at_ i x hi
    rw [e2] at hf ⊢
    exact he y hm H1 e1 hf
end
/-- [e for i in range(n) if c], n of any sign -/
theorem el_filtR {ta : TA} {j : Nat} {n : Int} (p : Nat → Bool) (F : Nat → V) (h : EvA ta σ H [.int n]) (hn : -40000 ≤ n ∧ n ≤ 40000)
    (ht : ∀ (i : Nat) H1, Ex H H1 → (i : Int) < n → EvT t ((wipe σ [j]).set j (some (.int (i : Int)))) H1 (p i)) (he : ∀ (i : Nat) H1, Ex H H1 → (i : Int) < n → p i = true → Ev te ((wipe σ [j]).set j (some (.int (i : Int)))) H1 (F i)) :
    EvL (tLc (iRng1 ta) (gName j) t te [j]) σ H (((List.range n.toNat).filter p).map F) := fun H0 e Q q => h H0 e _ fun H1 e1 => ⟨n, rfl, by omega, by omega, fun Dl hD =>
  lc_range (lo := 0) (n := n.toNat) (Cw H1 p F Dl) ⟨hD, Ex.new hD, upd_same⟩ (fun i H' hi pv => by
    have e0 : (0 : Int) + (i : Int) = (i : Int) := Int.zero_add _
    show wipe ((wipe σ [j]).set j (some (.int ((0 : Int) + (i : Int))))) [j] = wipe σ [j] ∧ t ((wipe σ [j]).set j (some (.int ((0 : Int) + (i : Int))))) H' fun b H3 => if b = true then te ((wipe σ [j]).set j (some (.int ((0 : Int) + (i : Int))))) H3 fun y H4 => ∃ acc, H4 Dl = some (.lst acc) ∧ acc.length < sizeLine ∧ Cw H1 p F Dl (i + 1) (upd H4 Dl (.lst (acc ++ [y]))) else Cw H1 p F Dl (i + 1) H3
    rw [e0]
    exact ⟨wipe1 σ j _, cw_turn pv (by omega) (ht i H1 (e.trans e1) (by omega)) (fun hf => he i H1 (e.trans e1) (by omega) hf)⟩) (fun H' pv => q Dl H' (fresh_back e1 pv.1) (e1.trans pv.2.1) pv.2.2)⟩
theorem el_mapR {ta : TA} {j : Nat} {n : Int} (F : Nat → V) (h : EvA ta σ H [.int n]) (hn : -40000 ≤ n ∧ n ≤ 40000) (he : ∀ (i : Nat) H1, Ex H H1 → (i : Int) < n → Ev te ((wipe σ [j]).set j (some (.int (i : Int)))) H1 (F i)) :
    EvL (tLc (iRng1 ta) (gName j) tYes te [j]) σ H ((List.range n.toNat).map F) := by
  have q := el_filtR (t := tYes) (te := te) (j := j) (fun _ => true) F h hn (fun _ _ _ _ => et_yes) fun i H1 e hi _ => he i H1 e hi
  rwa [filter_yes] at q

/-- what a comprehension gives at a turn: a value, or a new list -/
def Item (H0 : Hp) (Dl : Addr) : V ⊕ List V → V → Hp → Prop
  | .inl w, y, _ => y = w
  | .inr xs, y, H => ∃ p, y = .ref p ∧ p ≠ Dl ∧ H0 p = none ∧ H p = some (.lst xs)
theorem Item.keep {H0 H1 H2 : Hp} {Dl : Addr} {E : V ⊕ List V} {y : V} (h : Item H0 Dl E y H1) (k : ∀ b o, b ≠ Dl → H1 b = some o → H2 b = some o) : Item H0 Dl E y H2 := by
  cases E with
  | inl w => exact h
  | inr xs =>
    obtain ⟨p, e1, e2, e3, e4⟩ := h
    exact ⟨p, e1, e2, e3, k p _ e2 e4⟩
/-- the items told so far -/
structure Items (H0 : Hp) (Dl : Addr) (E : Nat → V ⊕ List V) (n : Nat) (ys : List V) (H : Hp) : Prop where
  len : ys.length = n
  at_ : ∀ i y, ys[i]? = some y → Item H0 Dl (E i) y H
def EvI (te : TE) (σ : L2.St) (H : Hp) : V ⊕ List V → Prop
  | .inl w => Ev te σ H w
  | .inr xs => EvL te σ H xs
def Mw (H : Hp) (E : Nat → V ⊕ List V) (Dl : Addr) (i : Nat) (H' : Hp) : Prop := H Dl = none ∧ Ex H H' ∧ ∃ ys, H' Dl = some (.lst ys) ∧ Items H Dl E i ys H'
theorem mw_turn {H H' : Hp} {E : Nat → V ⊕ List V} {Dl : Addr} {i : Nat} {σ2 : L2.St} (p : Mw H E Dl i H') (hi : i < 50000) (he : EvI te σ2 H (E i)) :
    te σ2 H' fun y H4 => ∃ acc, H4 Dl = some (.lst acc) ∧ acc.length < sizeLine ∧ Mw H E Dl (i + 1) (upd H4 Dl (.lst (acc ++ [y]))) := by
  obtain ⟨p1, p2, ys, p3, p4⟩ := p
  have fin : ∀ y H4, Ex H' H4 → Item H Dl (E i) y H4 → ∃ acc, H4 Dl = some (.lst acc) ∧ acc.length < sizeLine ∧ Mw H E Dl (i + 1) (upd H4 Dl (.lst (acc ++ [y]))) := by
    intro y H4 e4 it
    refine ⟨ys, e4 Dl _ p3, sz_lt (by rw [p4.len]; omega), p1, Ex.mut (p2.trans e4) p1, ys ++ [y], upd_same, ⟨by rw [List.length_append, p4.len]; rfl, fun k z hz => ?_⟩⟩
    have kp : ∀ b o, b ≠ Dl → H4 b = some o → (upd H4 Dl (.lst (ys ++ [y]))) b = some o := fun b o hb e => by rw [upd_ne hb]; exact e
    by_cases c : k < ys.length
    · rw [List.getElem?_append_left c] at hz
      exact ((p4.at_ k z hz).keep fun b o _ e => e4 b o e).keep kp
    · rw [List.getElem?_append_right (by omega)] at hz
      have h0 : k - ys.length = 0 := by
        have := (List.getElem?_eq_some_iff.mp hz).1
        simp at this; omega
      rw [h0] at hz
      have hk : k = i := by have := p4.len; omega
      have ez : y = z := by simpa using hz
      subst ez; subst hk
      exact it.keep kp
  cases hE : E i with
  | inl w =>
    rw [hE] at he fin
    exact he H' p2 _ fun H4 e4 => fin w H4 e4 rfl
  | inr xs =>
    rw [hE] at he fin
    refine he H' p2 _ fun q H4 hq e4 h4 => fin (.ref q) H4 e4 ⟨q, rfl, fun z => ?_, fresh_back p2 hq, h4⟩
    rw [z, p3] at hq
    cases hq
/-- [e for x in xs], e a value or a new list -/
theorem el_mixL {α : Type} {a : Addr} {tl : TE} {j : Nat} (l : List α) (f : α → V) (F : α → V ⊕ List V) (h : Ev tl σ H (.ref a)) (hx : SqL K H a (l.map f)) (hz : l.length ≤ 40000)
    (he : ∀ x ∈ l, ∀ H1, Ex H H1 → EvI te ((wipe σ [j]).set j (some (f x))) H1 (F x)) :
    EvP (tLc (iList K tl) (gName j) tYes te [j]) σ H (fun v H2 => ∃ Dl ys, v = .ref Dl ∧ H Dl = none ∧ H2 Dl = some (.lst ys) ∧ ys.length = l.length ∧ ∀ (i : Nat) x y, l[i]? = some x → ys[i]? = some y → Item H Dl (F x) y H2) := by
  intro H0 e Q q
  refine h H0 e _ fun H1 e1 => ⟨a, rfl, ⟨_, ex_l (e.trans e1) hx⟩, fun Dl hD => ?_⟩
  have at_ : ∀ (i : Nat) (x : V), (l.map f)[i]? = some x → ∃ y, l[i]? = some y ∧ y ∈ l ∧ x = f y := by
    intro i x e
    rw [List.getElem?_map] at e
    obtain ⟨y, e1, e2⟩ := Option.map_eq_some_iff.mp e
    exact ⟨y, e1, List.mem_of_getElem? e1, e2.symm⟩
  refine lc_list (xs := l.map f) (Mw H1 (fun i => (l[i]?.map F).getD (.inl .non)) Dl) ⟨hD, Ex.new hD, [], upd_same, rfl, fun i y e => by simp at e⟩ (fun i H' _ p => ex_l ((e.trans e1).trans p.2.1) hx) (fun i x H' hi p => ⟨wipe1 σ j _, ?_⟩) (fun H' p => ?_)
  · obtain ⟨y, e2, hm, rfl⟩ := at_ i x hi
    have hi' := (List.getElem?_eq_some_iff.mp hi).1
    rw [List.length_map] at hi'
    refine iteT (B := Mw H1 (fun i => (l[i]?.map F).getD (.inl .non)) Dl (i + 1) H') (mw_turn p (by omega) ?_)
    rw [e2]
    exact he y hm H1 (e.trans e1)
  · obtain ⟨p1, p2, ys, p3, p4⟩ := p
    refine q _ H' (e1.trans p2) ⟨Dl, ys, rfl, fresh_back (e.trans e1) p1, p3, by rw [p4.len, List.length_map], fun i x y hx' hy => ?_⟩
    have it := p4.at_ i y hy
    rw [hx'] at it
    show Item H Dl (F x) y H'
    have it' : Item H1 Dl (F x) y H' := it
    cases hF : F x with
    | inl w => rw [hF] at it'; exact it'
    | inr xs =>
      rw [hF] at it'
      obtain ⟨p, z1, z2, z3, z4⟩ := it'
      exact ⟨p, z1, z2, fresh_back (e.trans e1) z3, z4⟩
/-- [e for i in range(n)], e a new list -/
theorem el_mixR {ta : TA} {j : Nat} {n : Int} (F : Nat → V ⊕ List V) (h : EvA ta σ H [.int n]) (hn : -40000 ≤ n ∧ n ≤ 40000) (he : ∀ (i : Nat) H1, Ex H H1 → (i : Int) < n → EvI te ((wipe σ [j]).set j (some (.int (i : Int)))) H1 (F i)) :
    EvP (tLc (iRng1 ta) (gName j) tYes te [j]) σ H (fun v H2 => ∃ Dl ys, v = .ref Dl ∧ H Dl = none ∧ H2 Dl = some (.lst ys) ∧ ys.length = n.toNat ∧ ∀ (i : Nat) y, ys[i]? = some y → Item H Dl (F i) y H2) := by
  intro H0 e Q q
  refine h H0 e _ fun H1 e1 => ⟨n, rfl, by omega, by omega, fun Dl hD => ?_⟩
  refine lc_range (lo := 0) (n := n.toNat) (Mw H1 F Dl) ⟨hD, Ex.new hD, [], upd_same, rfl, fun i y e => by simp at e⟩ (fun i H' hi p => ?_) (fun H' p => ?_)
  · have e0 : (0 : Int) + (i : Int) = (i : Int) := Int.zero_add _
    show wipe ((wipe σ [j]).set j (some (.int ((0 : Int) + (i : Int))))) [j] = wipe σ [j] ∧ (if true = true then te ((wipe σ [j]).set j (some (.int ((0 : Int) + (i : Int))))) H' (fun y H4 => ∃ acc, H4 Dl = some (.lst acc) ∧ acc.length < sizeLine ∧ Mw H1 F Dl (i + 1) (upd H4 Dl (.lst (acc ++ [y])))) else Mw H1 F Dl (i + 1) H')
    rw [e0]
    exact ⟨wipe1 σ j _, iteT (mw_turn p (by omega) (he i H1 (e.trans e1) (by omega)))⟩
  · obtain ⟨p1, p2, ys, p3, p4⟩ := p
    refine q _ H' (e1.trans p2) ⟨Dl, ys, rfl, fresh_back (e.trans e1) p1, p3, p4.len, fun i y hy => ?_⟩
    have it := p4.at_ i y hy
    cases hF : F i with
    | inl w => rw [hF] at it; exact it
    | inr xs =>
      rw [hF] at it
      obtain ⟨p, z1, z2, z3, z4⟩ := it
      exact ⟨p, z1, z2, fresh_back (e.trans e1) z3, z4⟩
/-- [e for i, x in enumerate(xs) if c]; xs new or not: who is at a stands -/
theorem el_enum {α : Type} {ta : TA} {i1 i2 : Nat} (h12 : i1 ≠ i2) (l : List α) (f : α → V) (p : Nat → α → Bool) (F : Nat → α → V) {Post : V → Hp → Prop} (h : ∀ H1, Ex H H1 → ∀ Q : List V → Hp → Prop, (∀ a H2, Ex H1 H2 → SqL K H2 a (l.map f) → Q [.ref a] H2) → ta σ H1 Q) (hz : l.length ≤ 40000)
    (ht : ∀ (k : Nat) x, l[k]? = some x → ∀ H1, Ex H H1 → EvT t (((wipe σ [i1, i2]).set i1 (some (.int (k : Int)))).set i2 (some (f x))) H1 (p k x))
    (he : ∀ (k : Nat) x, l[k]? = some x → ∀ H1, Ex H H1 → p k x = true → Ev te (((wipe σ [i1, i2]).set i1 (some (.int (k : Int)))).set i2 (some (f x))) H1 (F k x)) :
    EvL (tLc (iEnum K ta) (gTup K 2 (gCons (gName i1) (gCons (gName i2) gNil))) t te [i1, i2]) σ H (given l.length (fun k => (l[k]?.map (p k)).getD false) (fun k => (l[k]?.map (F k)).getD .non)) := by
  intro H0 e Q q
  refine h H0 e _ fun a H1 e1 hx => ⟨a, _, rfl, hx, fun Dl hD => ?_⟩
  have hw : Walk (Ite K a) l.length (fun H => SqL K H a (l.map f)) (YPair (fun i => some (.int (i : Nat))) (fun i => (l.map f)[i]?)) := by
    have := walk_enum (K := K) (a := a) (xs := l.map f)
    rwa [List.length_map] at this
  refine lc_it hw (Cw H1 (fun k => (l[k]?.map (p k)).getD false) (fun k => (l[k]?.map (F k)).getD .non) Dl) ⟨hD, Ex.new hD, upd_same⟩ (fun i H' _ pv => ex_l pv.2.1 hx) (fun i x H2 H3 hi pv y => ?_) (fun H' pv => q Dl H' (fresh_back e1 pv.1) (e1.trans pv.2.1) pv.2.2)
  obtain ⟨T, x1, x2, rfl, hT, rfl, hx1, hx2⟩ := y
  have hx1' : V.int (i : Nat) = x1 := Option.some.inj hx1
  subst hx1'
  have hx2' : (l.map f)[i]? = some x2 := hx2
  rw [List.getElem?_map] at hx2'
  obtain ⟨z, e2, rfl⟩ := Option.map_eq_some_iff.mp hx2'
  have pT : Cw H1 (fun k => (l[k]?.map (p k)).getD false) (fun k => (l[k]?.map (F k)).getD .non) Dl i (upd H2 T (.tup [.int (i : Nat), f z])) :=
    ⟨pv.1, pv.2.1.trans (Ex.new hT), Ex.new hT _ _ pv.2.2⟩
  refine ⟨T, _, rfl, .inl (.inl upd_same), rfl, _, _, rfl, _, _, rfl, rfl, ?_⟩
  refine ⟨wipe2 σ h12 _ _, cw_turn pT (by omega) ?_ (fun hf => ?_)⟩
  · rw [e2]
    exact ht i z e2 H1 (e.trans e1)
  · rw [e2] at hf ⊢
    exact he i z e2 H1 (e.trans e1) hf

/-! ### loops -/
/-- for i in range(n), n of any sign -/
theorem q_forR {ta : TA} {j : Nat} {n : Int} (h : EvA ta σ H [.int n]) (hn : -100000 ≤ n ∧ n ≤ 100000) (Pv : Nat → L2.St → Hp → Prop) (h0 : ∀ H1, Ex H H1 → Pv 0 σ H1)
    (hs : ∀ (i : Nat) σ' H', (i : Int) < n → Pv i σ' H' → tu { D with nx := Pv (i + 1), ct := Pv (i + 1), bk := tz D } (σ'.set j (some (.int (i : Int)))) H') (hd : ∀ σ' H', Pv n.toNat σ' H' → tz D σ' H') : tSeq (tFor (iRng1 ta) (gName j) tu) tz D σ H :=
  h H (Ex.refl H) _ fun H1 e => ⟨n, rfl, by omega, by omega, for_range (lo := 0) (n := n.toNat) Pv (h0 H1 e) (fun i σ' H' hi p => by
    have e0 : (0 : Int) + (i : Int) = (i : Int) := Int.zero_add _
    show tu { D with nx := Pv (i + 1), ct := Pv (i + 1), bk := tz D } (σ'.set j (some (.int ((0 : Int) + (i : Int))))) H'
    rw [e0]
    exact hs i σ' H' (by omega) p) hd⟩
/-- for i in range(a, b, c), c > 0 -/
theorem q_forC {ta : TA} {j : Nat} {lo hi c : Int} {n : Nat} (h : EvA ta σ H [.int lo, .int hi, .int c]) (hr : RgC lo hi c n) (Pv : Nat → L2.St → Hp → Prop) (h0 : ∀ H1, Ex H H1 → Pv 0 σ H1)
    (hs : ∀ (i : Nat) σ' H', i < n → Pv i σ' H' → tu { D with nx := Pv (i + 1), ct := Pv (i + 1), bk := tz D } (σ'.set j (some (.int (lo + (i : Nat) * c)))) H') (hd : ∀ σ' H', Pv n σ' H' → tz D σ' H') : tSeq (tFor (iRng3 ta) (gName j) tu) tz D σ H :=
  h H (Ex.refl H) _ fun H1 e => ⟨lo, hi, c, n, rfl, hr, for_rangeC (lo := lo) (c := c) (n := n) Pv (h0 H1 e) (fun i σ' H' hi p => hs i σ' H' hi p) hd⟩
/-- for i, x in enumerate(xs) -/
theorem q_forE {α : Type} {a : Addr} {ta : TA} {i1 i2 : Nat} (l : List α) (f : α → V) (h : EvA ta σ H [.ref a]) (hx : SqL K H a (l.map f)) (Pv : Nat → L2.St → Hp → Prop) (h0 : ∀ H1, Ex H H1 → Pv 0 σ H1) (hk : ∀ i σ' H', i ≤ l.length → Pv i σ' H' → SqL K H' a (l.map f)) (hP : ∀ i σ' H' H2, Ex H' H2 → Pv i σ' H' → Pv i σ' H2)
    (hs : ∀ (i : Nat) x σ' H', l[i]? = some x → Pv i σ' H' → tu { D with nx := Pv (i + 1), ct := Pv (i + 1), bk := tz D } ((σ'.set i1 (some (.int (i : Int)))).set i2 (some (f x))) H') (hd : ∀ σ' H', Pv l.length σ' H' → tz D σ' H') :
    tSeq (tFor (iEnum K ta) (gTup K 2 (gCons (gName i1) (gCons (gName i2) gNil))) tu) tz D σ H :=
  h H (Ex.refl H) _ fun H1 e => by
    have hw : Walk (Ite K a) l.length (fun H => SqL K H a (l.map f)) (YPair (fun i => some (.int (i : Nat))) (fun i => (l.map f)[i]?)) := by
      have := walk_enum (K := K) (a := a) (xs := l.map f)
      rwa [List.length_map] at this
    refine ⟨a, _, rfl, ex_l e hx, for_it hw Pv (h0 H1 e) hk (fun i x σ' H2 H3 hi p y => ?_) hd⟩
    obtain ⟨T, x1, x2, rfl, hT, rfl, hx1, hx2⟩ := y
    have hx1' : V.int (i : Nat) = x1 := Option.some.inj hx1
    subst hx1'
    have hx2' : (l.map f)[i]? = some x2 := hx2
    rw [List.getElem?_map] at hx2'
    obtain ⟨z, e2, rfl⟩ := Option.map_eq_some_iff.mp hx2'
    exact ⟨T, _, rfl, .inl (.inl upd_same), rfl, _, _, rfl, _, _, rfl, rfl, hs i z σ' _ e2 (hP i σ' H2 _ (Ex.new hT) p)⟩
/-- lists by pairs -/
theorem DaAll.zip : ∀ {vs : List V} {ds : List PyData}, DaAll K H vs ds → ∃ l : List (V × PyData), vs = l.map (·.1) ∧ ds = l.map (·.2) ∧ ∀ p ∈ l, Da K H p.1 p.2
  | _, _, .nil => ⟨[], rfl, rfl, fun p h => by cases h⟩
  | _, _, .cons (v := v) (d := d) h hs => by
    obtain ⟨l, e1, e2, e3⟩ := hs.zip
    refine ⟨(v, d) :: l, by rw [List.map_cons, e1], by rw [List.map_cons, e2], fun p hp => ?_⟩
    rcases List.mem_cons.mp hp with rfl | hp
    · exact h
    · exact e3 p hp

/-! ### the layer's rules with the written part named outright (within a comprehension it can't be read off) -/
section
variable {X : Cx}
theorem k_list (K : PySem.W.Frag) (h : X.K = K := by rfl) : IxR X (rIxL K) := h ▸ ix_list
theorem k_tup (K : PySem.W.Frag) (h : X.K = K := by rfl) : IxR X (rIxT K) := h ▸ ix_tup
theorem k_sl (K : PySem.W.Frag) (h : X.K = K := by rfl) : SlR X (rSlL K) := h ▸ sl_list
theorem k_ltT (K : PySem.W.Frag) (hu : X.A.units < cLine) (h : X.K = K := by rfl) : OpR X (compareOp .Lt) (rLtT K) := h ▸ op_ltT hu
theorem k_eqD (K : PySem.W.Frag) (hu : X.A.units + 64 < cLine) (h : X.K = K := by rfl) : OpR X (compareOp .Eq) (rEqD K) := h ▸ op_eqD hu
theorem k_neD (K : PySem.W.Frag) (hu : X.A.units + 64 < cLine) (h : X.K = K := by rfl) : OpR X (compareOp .NotEq) (rNeD K) := h ▸ op_neD hu
theorem k_inD (K : PySem.W.Frag) (hu : X.A.units + 65 < cLine) (h : X.K = K := by rfl) : OpR X (compareOp .In) (rInD K) := h ▸ op_inD hu
theorem k_niD (K : PySem.W.Frag) (hu : X.A.units + 65 < cLine) (h : X.K = K := by rfl) : OpR X (compareOp .NotIn) (rNotInD K) := h ▸ op_notInD hu
theorem k_inS (K : PySem.W.Frag) (h : X.K = K := by rfl) : OpR X (compareOp .In) (rIn K false) := h ▸ op_in_seq
theorem k_niS (K : PySem.W.Frag) (h : X.K = K := by rfl) : OpR X (compareOp .NotIn) (rIn K true) := h ▸ op_notIn_seq
theorem k_inT (K : PySem.W.Frag) (P : Program) (w : World) (hu : X.A.units + 65 < cLine) (h : X.K = K := by rfl) (hp : X.prog = P := by rfl) (hw : X.w = w := by rfl) : OpR X (compareOp .In) (rInT K P w false) := by
  subst h hp hw
  exact op_inSetT hu
theorem k_isi (K : PySem.W.Frag) (h : X.K = K := by rfl) : CallR X (.builtin "isinstance") (rIsi K) := h ▸ call_isi
theorem k_len (K : PySem.W.Frag) (h : X.K = K := by rfl) : CallR X (.builtin "len") (rLenS K) := h ▸ call_len_seq
theorem k_lst (K : PySem.W.Frag) (h : X.K = K := by rfl) : CallR X (.type "list") (rListS K) := h ▸ call_list_of
theorem k_sum (K : PySem.W.Frag) (hc : X.calm = true) (h : X.K = K := by rfl) : CallR X (.builtin "sum") (rSum K) := h ▸ cr_sum hc
theorem k_all (K : PySem.W.Frag) (hc : X.calm = true) (h : X.K = K := by rfl) : CallR X (.builtin "all") (rAll K) := h ▸ cr_all hc
theorem k_any (K : PySem.W.Frag) (hc : X.calm = true) (h : X.K = K := by rfl) : CallR X (.builtin "any") (rAny K) := h ▸ cr_any hc
theorem k_set (K : PySem.W.Frag) (P : Program) (w : World) (hc : X.calm = true) (hu : X.A.units + 65 < cLine) (h : X.K = K := by rfl) (hp : X.prog = P := by rfl) (hw : X.w = w := by rfl) : CallR X (.type "set") (rSetT K P w) := by
  subst h hp hw
  exact call_setOfT hc hu
theorem k_fld (K : PySem.W.Frag) {e : Expr} {f : Str} {pos : Pos} {ta : TE} (he : PE X e ta) (h : X.K = K := by rfl) (hb : attributeBase e f X.env (eval e X.env) = eval e X.env := by rfl) : PE X (.Attribute e f pos) (tFld K ta f) := h ▸ pe_fld he hb
/-- a value's truth, as a test -/
def tTr (K : PySem.W.Frag) (ta : TE) : TT := fun σ H Q => ta σ H fun x H' => ∃ k, TruV K x H' k ∧ Q k H'
theorem k_tru (K : PySem.W.Frag) {a : Expr} {ta : TE} (ha : PE X a ta) (he : ∀ whole, isTrue a X.env whole = (do let v ← whole; standAt a.pos; holding [v] (truthy v)) := by intro _; rfl) (h : X.K = K := by rfl) : PT X a (tTr K ta) := h ▸ pt_truth ha he
theorem k_gt (K : PySem.W.Frag) {es : List Expr} {k : Nat} {pos : Pos} {t : TGs} {n : Nat} (hc : X.calm = true) (hp : PGs X es t) (hn : (assignEach es X.env).length = n := by rfl) (hst : (assignEach es X.env).findIdx? (·.1) = none := by rfl) (h : X.K = K := by rfl) : PG X (.Tuple es k pos) (gTup K n t) := h ▸ pg_tup hc hp hn hst
theorem k_il (K : PySem.W.Frag) {tg l : Expr} {tl : TE} (hl : PE X l tl) (h : X.K = K := by rfl) : PI X tg l (iList K tl) := h ▸ pi_list hl
theorem k_it (K : PySem.W.Frag) {tg l : Expr} {tl : TE} (hl : PE X l tl) (h : X.K = K := by rfl) : PI X tg l (iTup K tl) := h ▸ pi_tup hl
theorem k_rev (K : PySem.W.Frag) {e : Expr} {te : TE} {k : Nat} {p1 p2 p3 pos : Pos} (he : PE X e te) (h : X.K = K := by rfl) : PE X (.Subscript e (.Slice none none (some (.UnaryOp .USub (.Constant (.int 1) k p1) p2)) p3) pos) (tRevL K te) := h ▸ pe_revL he
end
theorem et_tr {b : Bool} (h : Ev te σ H x) (ht : ∀ H1, Ex H H1 → TruV K x H1 b) : EvT (tTr K te) σ H b := fun H1 e _ q => h H1 e _ fun H2 e2 => ⟨b, ht H2 (e.trans e2), q H2 e2⟩
theorem hu65_of {A : Around} {k : Nat} (hr : Room (k + 1) A) : A.units + 65 < cLine := by
  have q := hr.in1.units
  have e : A.in1.units = A.units + 1 := by simp
  omega
/-- an operation whose first part is a new tuple -/
theorem ev_opU1 {r : R2} {xs : List V} (ha : EvU ta σ H xs) (hb : ∀ H1, Ex H H1 → Ev tb σ H1 y) (hr : ∀ p H1, H1 p = some (.tup xs) → Ex H H1 → RV r (.ref p) y H1 z) : Ev (tOp r ta tb) σ H z := fun H1 e Q q =>
  ha H1 e _ fun p H2 _ e2 hp => hb H2 (e.trans e2) H2 (Ex.refl H2) _ fun H3 e3 => hr p H3 (e3 p _ hp) ((e.trans e2).trans e3) H3 (Ex.refl H3) Q fun H4 e4 => q H4 ((e2.trans e3).trans e4)
/-- set(xs) -/
theorem evp_set {P : Program} {w : World} {r : Addr} (ks : List (Addr × List Int)) (h : Ev te σ H (.ref r)) (h1 : SqL K H r (ks.map fun p => V.ref p.1)) (h2 : ∀ p ∈ ks, SqT K H p.1 (p.2.map V.int)) (h3 : ks.length ≤ 300) :
    EvP (tCB (rSetT K P w) (tCons te tNil)) σ H (fun v H' => ∃ a L, v = .ref a ∧ H a = none ∧ H' a = some (SetBO P w a L) ∧ (∀ p ∈ L, p ∈ ks) ∧ (∀ p ∈ ks, p.2 ∈ L.map (·.2))) := fun H1 e Q q =>
  h H1 e _ fun H2 e2 => ⟨r, ks, rfl, ex_l (e.trans e2) h1, fun p hp => ex_t (e.trans e2) (h2 p hp), h3, fun a L ha g1 g2 => q _ _ (e2.trans (Ex.new ha)) ⟨a, L, rfl, fresh_back (e.trans e2) ha, upd_same, g1, g2⟩⟩
/-- [x] * n -/
theorem el_rep {n : Nat} (h : Ev tb σ H (.int (n : Int))) (hn : n ≤ 100000) : EvL (tOp rRep (tLst (tCons (tC v) tNil)) tb) σ H (List.replicate n v) := fun H1 e Q q => by
  refine ⟨by show 1 ≤ sizeLine; decide, fun p hp => ?_⟩
  have e1 : Ex H1 (upd H1 p (.lst [v])) := Ex.new hp
  refine h _ (e.trans e1) _ fun H2 e2 => ⟨p, (n : Int), [v], rfl, rfl, e2 _ _ upd_same, by omega, by omega, ?_, fun r hr => ?_⟩
  · rw [Int.toNat_natCast, List.length_singleton, Nat.one_mul]
    exact sz_of hn
  · refine q r _ (fresh_back (e1.trans e2) hr) ((e1.trans e2).trans (Ex.new hr)) ?_
    rw [upd_same, Int.toNat_natCast, List.flatten_replicate_singleton]
/-- a loop over a list, the last of a block -/
theorem s_forLn' {α : Type} {a : Addr} {tl : TE} {j : Nat} (l : List α) (f : α → V) (h : Ev tl σ H (.ref a)) (hx : SqL K H a (l.map f)) (Pv : Nat → L2.St → Hp → Prop) (h0 : ∀ H1, Ex H H1 → Pv 0 σ H1) (hl : ∀ i σ' H', i ≤ l.length → Pv i σ' H' → SqL K H' a (l.map f))
    (hs : ∀ (i : Nat) x σ' H', l[i]? = some x → Pv i σ' H' → tu { D with nx := Pv (i + 1), ct := Pv (i + 1), bk := D.nx } (σ'.set j (some (f x))) H') (hd : ∀ σ' H', Pv l.length σ' H' → D.nx σ' H') : tFor (iList K tl) (gName j) tu D σ H := by
  refine s_forLn h hx Pv h0 (fun i σ' H' hi => hl i σ' H' (by rwa [List.length_map] at hi)) (fun i x σ' H' hx' p => ?_) (by rwa [List.length_map])
  rw [List.getElem?_map] at hx'
  obtain ⟨y, e, rfl⟩ := Option.map_eq_some_iff.mp hx'
  exact hs i y σ' H' e p
theorem q_forLn' {α : Type} {a : Addr} {tl : TE} {j : Nat} (l : List α) (f : α → V) (h : Ev tl σ H (.ref a)) (hx : SqL K H a (l.map f)) (Pv : Nat → L2.St → Hp → Prop) (h0 : ∀ H1, Ex H H1 → Pv 0 σ H1) (hl : ∀ i σ' H', i ≤ l.length → Pv i σ' H' → SqL K H' a (l.map f))
    (hs : ∀ (i : Nat) x σ' H', l[i]? = some x → Pv i σ' H' → tu { D with nx := Pv (i + 1), ct := Pv (i + 1), bk := tz D } (σ'.set j (some (f x))) H') (hd : ∀ σ' H', Pv l.length σ' H' → tz D σ' H') : tSeq (tFor (iList K tl) (gName j) tu) tz D σ H :=
  s_forLn' (D := { D with nx := tz D }) l f h hx Pv h0 hl hs hd
end Sg

/-! Data compared. -/
namespace Sg
open PySem L2 Evl
variable {K : PySem.W.Frag} {H H' : Hp} {σ : L2.St} {te ta tb : TE} {v x y z : V}
mutual
theorem dp_up (e : Ex H H') : ∀ {v : V} {d : PyData}, Dp K H v d → Dp K H' v d
  | _, _, .non => .non
  | _, _, .bl b => .bl b
  | _, _, .int i => .int i
  | _, _, .str x => .str x
  | _, _, .lst h hs => .lst (ex_l e h) (dps_up e hs)
  | _, _, .tup h hs => .tup (ex_t e h) (dps_up e hs)
theorem dps_up (e : Ex H H') : ∀ {vs : List V} {ds : List PyData}, DpAll K H vs ds → DpAll K H' vs ds
  | _, _, .nil => .nil
  | _, _, .cons h hs => .cons (dp_up e h) (dps_up e hs)
end
theorem dps_map {α : Type} (f : α → V) (g : α → PyData) : ∀ (l : List α), (∀ x ∈ l, Dp K H (f x) (g x)) → DpAll K H (l.map f) (l.map g)
  | [], _ => .nil
  | x :: l, h => .cons (h x List.mem_cons_self) (dps_map f g l fun y hy => h y (List.mem_cons_of_mem _ hy))
/-- data of Nones, numbers, lists, tuples, so deep at most -/
inductive Pd : Nat → PyData → Prop
  | non (n : Nat) : Pd n .none
  | int (n : Nat) (i : Int) : Pd n (.int i)
  | lst {n : Nat} {ds : List PyData} (h : ∀ d ∈ ds, Pd n d) : Pd (n + 1) (.list ds)
  | tup {n : Nat} {ds : List PyData} (h : ∀ d ∈ ds, Pd n d) : Pd (n + 1) (.tuple ds)
theorem lay_all : ∀ (ds : List PyData), (∀ d ∈ ds, d.canLay0 = true) → PyData.canLayAll0 ds = true
  | [], _ => by rw [PyData.canLayAll0]
  | d :: ds, h => by rw [PyData.canLayAll0, h d List.mem_cons_self, lay_all ds fun e he => h e (List.mem_cons_of_mem _ he)]; rfl
theorem depth_all {n : Nat} : ∀ (ds : List PyData), (∀ d ∈ ds, d.depth ≤ n) → PyData.depthAll ds ≤ n
  | [], _ => by rw [PyData.depthAll]; exact Nat.zero_le _
  | d :: ds, h => by
    rw [PyData.depthAll]
    exact Nat.max_le.mpr ⟨h d List.mem_cons_self, depth_all ds fun e he => h e (List.mem_cons_of_mem _ he)⟩
theorem Pd.lay : ∀ {n : Nat} {d : PyData}, Pd n d → d.canLay0 = true
  | _, _, .non _ => by rw [PyData.canLay0]
  | _, _, .int _ _ => by rw [PyData.canLay0]
  | _, _, .lst h => by rw [PyData.canLay0]; exact lay_all _ fun d hd => (h d hd).lay
  | _, _, .tup h => by rw [PyData.canLay0]; exact lay_all _ fun d hd => (h d hd).lay
theorem Pd.deep : ∀ {n : Nat} {d : PyData}, Pd n d → d.depth ≤ n
  | _, _, .non _ => by rw [PyData.depth]; exact Nat.zero_le _
  | _, _, .int _ _ => by rw [PyData.depth]; exact Nat.zero_le _
  | _, _, .lst h => by rw [PyData.depth]; exact Nat.succ_le_succ (depth_all _ fun d hd => (h d hd).deep)
  | _, _, .tup h => by rw [PyData.depth]; exact Nat.succ_le_succ (depth_all _ fun d hd => (h d hd).deep)
theorem Pd.shaped {n : Nat} {d : PyData} (h : Pd n d) (hn : n ≤ 64 := by decide) : SeqAt.shaped d = true := by
  unfold SeqAt.shaped
  rw [h.lay, Bool.true_and, decide_eq_true_eq]
  exact Nat.le_trans h.deep hn
theorem eqvAll_iff {n : Nat} (ih : ∀ {d e : PyData} {m : Nat}, Pd n d → Pd m e → (PyData.eqv d e = true ↔ d = e)) : ∀ {m : Nat} (ds es : List PyData), (∀ d ∈ ds, Pd n d) → (∀ e ∈ es, Pd m e) → (PyData.eqvAll ds es = true ↔ ds = es)
  | m, [], [], _, _ => by simp [PyData.eqvAll]
  | m, [], _ :: _, _, _ => by simp [PyData.eqvAll]
  | m, _ :: _, [], _, _ => by simp [PyData.eqvAll]
  | m, d :: ds, e :: es, h1, h2 => by
    rw [PyData.eqvAll, Bool.and_eq_true, ih (h1 d List.mem_cons_self) (h2 e List.mem_cons_self), eqvAll_iff ih ds es (fun x hx => h1 x (List.mem_cons_of_mem _ hx)) (fun x hx => h2 x (List.mem_cons_of_mem _ hx)), List.cons.injEq]
theorem eqv_iff : ∀ {n : Nat} {d e : PyData} {m : Nat}, Pd n d → Pd m e → (PyData.eqv d e = true ↔ d = e) := by
  intro n
  induction n with
  | zero =>
    intro d e m h1 h2
    cases h1 <;> cases h2 <;> simp [PyData.eqv]
  | succ n ih =>
    intro d e m h1 h2
    cases h1 with
    | non => cases h2 <;> simp [PyData.eqv]
    | int => cases h2 <;> simp [PyData.eqv]
    | lst h =>
      cases h2 with
      | lst h' => rw [PyData.eqv, eqvAll_iff ih _ _ h h', PyData.list.injEq]
      | _ => simp [PyData.eqv]
    | tup h =>
      cases h2 with
      | tup h' => rw [PyData.eqv, eqvAll_iff ih _ _ h h', PyData.tuple.injEq]
      | _ => simp [PyData.eqv]
theorem eqv_is {n m : Nat} {d e : PyData} (h1 : Pd n d) (h2 : Pd m e) {p : Prop} [Decidable p] (hp : d = e ↔ p) : PyData.eqv d e = decide p := by
  rw [Bool.eq_iff_iff, eqv_iff h1 h2, hp, decide_eq_true_iff]
theorem rv_eqD {d e : PyData} {n m : Nat} {p : Prop} [Decidable p] (hx : Dp K H x d) (hy : Dp K H y e) (h1 : Pd n d) (h2 : Pd m e) (hp : d = e ↔ p) (hn : n ≤ 64 := by decide) (hm : m ≤ 64 := by decide) : RV (rEqD K) x y H (.bl (decide p)) := fun H1 a Q q =>
  ⟨d, e, dp_up a hx, dp_up a hy, h1.shaped hn, h2.shaped hm, by rw [eqv_is h1 h2 hp]; exact q H1 (Ex.refl _)⟩
theorem rv_neD {d e : PyData} {n m : Nat} {p : Prop} [Decidable p] (hx : Dp K H x d) (hy : Dp K H y e) (h1 : Pd n d) (h2 : Pd m e) (hp : d = e ↔ p) (hn : n ≤ 64 := by decide) (hm : m ≤ 64 := by decide) : RV (rNeD K) x y H (.bl (!decide p)) := fun H1 a Q q =>
  ⟨d, e, dp_up a hx, dp_up a hy, h1.shaped hn, h2.shaped hm, by rw [eqv_is h1 h2 hp]; exact q H1 (Ex.refl _)⟩
/-- x in xs -/
theorem any_iff {n m : Nat} {d : PyData} {es : List PyData} (h1 : Pd n d) (h2 : ∀ e ∈ es, Pd m e) : (es.any fun z => PyData.eqv z d) = true ↔ d ∈ es := by
  rw [List.any_eq_true]
  constructor
  · rintro ⟨z, hz, e⟩
    rw [eqv_iff (h2 z hz) h1] at e
    rw [← e]; exact hz
  · intro hd
    exact ⟨d, hd, (eqv_iff h1 h1).mpr rfl⟩
theorem rv_inD {d : PyData} {es : List PyData} {n m : Nat} {p : Prop} [Decidable p] (hx : Dp K H x d) (hy : Dp K H y (.list es)) (h1 : Pd n d) (h2 : Pd (m + 1) (.list es)) (hp : d ∈ es ↔ p) (hn : n ≤ 64 := by decide) (hm : m + 1 ≤ 64 := by decide) : RV (rInD K) x y H (.bl (decide p)) := fun H1 a Q q => by
  refine ⟨d, es, dp_up a hx, dp_up a hy, h1.shaped hn, h2.shaped hm, ?_⟩
  have h2' : ∀ e ∈ es, Pd m e := by cases h2 with | lst h => exact h
  have e : (es.any fun z => PyData.eqv z d) = decide p := by rw [Bool.eq_iff_iff, any_iff h1 h2', hp, decide_eq_true_iff]
  rw [e]
  exact q H1 (Ex.refl _)
theorem rv_niD {d : PyData} {es : List PyData} {n m : Nat} {p : Prop} [Decidable p] (hx : Dp K H x d) (hy : Dp K H y (.list es)) (h1 : Pd n d) (h2 : Pd (m + 1) (.list es)) (hp : d ∈ es ↔ p) (hn : n ≤ 64 := by decide) (hm : m + 1 ≤ 64 := by decide) : RV (rNotInD K) x y H (.bl (!decide p)) := fun H1 a Q q => by
  refine ⟨d, es, dp_up a hx, dp_up a hy, h1.shaped hn, h2.shaped hm, ?_⟩
  have h2' : ∀ e ∈ es, Pd m e := by cases h2 with | lst h => exact h
  have e : (es.any fun z => PyData.eqv z d) = decide p := by rw [Bool.eq_iff_iff, any_iff h1 h2', hp, decide_eq_true_iff]
  rw [e]
  exact q H1 (Ex.refl _)
/-- lists of numbers -/
def natV (a : Nat) : V := .int (a : Int)
def natD (a : Nat) : PyData := .int (a : Int)
theorem dp_nats (l : List Nat) : DpAll K H (l.map natV) (l.map natD) := dps_map _ _ l fun x _ => .int _
theorem da_nats (l : List Nat) : DaAll K H (l.map natV) (l.map natD) := DaAll.map _ _ l fun x _ => .int _
theorem pd_nats (l : List Nat) : Pd 1 (.list (l.map natD)) := .lst fun d hd => by
  obtain ⟨a, _, rfl⟩ := List.mem_map.mp hd
  exact .int _ _
theorem pd_ints (l : List Int) : Pd 1 (.list (l.map PyData.int)) := .lst fun d hd => by
  obtain ⟨a, _, rfl⟩ := List.mem_map.mp hd
  exact .int _ _
theorem pd_os (l : List (Option Int)) : Pd 1 (.list (l.map oD)) := .lst fun d hd => by
  obtain ⟨a, _, rfl⟩ := List.mem_map.mp hd
  cases a <;> constructor
theorem map_inj {α β : Type} {f : α → β} (hf : ∀ a b, f a = f b → a = b) : ∀ {l m : List α}, l.map f = m.map f ↔ l = m
  | [], [] => by simp
  | [], _ :: _ => by simp
  | _ :: _, [] => by simp
  | a :: l, b :: m => by
    rw [List.map_cons, List.map_cons, List.cons.injEq, List.cons.injEq, map_inj hf]
    exact ⟨fun h => ⟨hf _ _ h.1, h.2⟩, fun h => ⟨by rw [h.1], h.2⟩⟩
theorem int_inj (a b : Int) (h : PyData.int a = PyData.int b) : a = b := by injection h
theorem natD_inj (a b : Nat) (h : natD a = natD b) : a = b := by
  unfold natD at h
  injection h with h
  omega
theorem oD_inj (a b : Option Int) (h : oD a = oD b) : a = b := by
  cases a <;> cases b <;> simp [oD] at h ⊢
  exact h
theorem lst_inj {ds es : List PyData} : PyData.list ds = PyData.list es ↔ ds = es := by rw [PyData.list.injEq]
/-! ### arguments some of which are made for the call -/
def EvAP (ta : TA) (σ : L2.St) (H : Hp) (Post : List V → Hp → Prop) : Prop := ∀ H1, Ex H H1 → ∀ Q : List V → Hp → Prop, (∀ vs H2, Ex H1 H2 → Post vs H2 → Q vs H2) → ta σ H1 Q
section
variable {tr tl : TA} {P R : List V → Hp → Prop} {Post : V → Hp → Prop}
theorem eap_nil : EvAP tNil σ H (fun vs _ => vs = []) := fun H1 _ _ q => q [] H1 (Ex.refl _) rfl
theorem eap_v (h : Ev te σ H v) (hr : EvAP tr σ H P) : EvAP (tCons te tr) σ H (fun vs H' => ∃ r, vs = v :: r ∧ P r H') := fun H1 e Q q =>
  h H1 e _ fun H2 e2 => hr H2 (e.trans e2) _ fun vs H3 e3 p => q _ H3 (e2.trans e3) ⟨vs, rfl, p⟩
theorem eap_l {xs : List V} (h : EvL te σ H xs) (hr : EvAP tr σ H P) : EvAP (tCons te tr) σ H (fun vs H' => ∃ p r, vs = .ref p :: r ∧ H p = none ∧ H' p = some (.lst xs) ∧ P r H') := fun H1 e Q q =>
  h H1 e _ fun p H2 hp e2 h2 => hr H2 (e.trans e2) _ fun vs H3 e3 pr => q _ H3 (e2.trans e3) ⟨p, vs, rfl, fresh_back e hp, e3 _ _ h2, pr⟩
theorem eap_p (h : EvP te σ H Post) (hm : ∀ v H1 H2, Ex H1 H2 → Post v H1 → Post v H2) (hr : EvAP tr σ H P) : EvAP (tCons te tr) σ H (fun vs H' => ∃ x r, vs = x :: r ∧ Post x H' ∧ P r H') := fun H1 e Q q =>
  h H1 e _ fun x H2 e2 px => hr H2 (e.trans e2) _ fun vs H3 e3 pr => q _ H3 (e2.trans e3) ⟨x, vs, rfl, hm _ _ _ e3 px, pr⟩
theorem evp_callA {sp : Sp} {dvs : List V} {E : XK} (h : EvAP tl σ H P) (hs : ∀ vs H1, Ex H H1 → P vs H1 → ∀ Q : VK, (∀ v H2, Ex H1 H2 → Post v H2 → Q v H2) → ∀ E : XK, sp (vs ++ dvs) H1 Q E) : EvP (tCall sp dvs E tl) σ H Post := fun H1 e Q q =>
  h H1 e _ fun vs H2 e2 p => hs vs H2 (e.trans e2) p Q (fun v H3 e3 pv => q v H3 (e2.trans e3) pv) E
theorem ev_callA {sp : Sp} {dvs : List V} {E : XK} (h : EvAP tl σ H P) (hs : ∀ vs H1, Ex H H1 → P vs H1 → ∀ Q : VK, (∀ H2, Ex H1 H2 → Q v H2) → ∀ E : XK, sp (vs ++ dvs) H1 Q E) : Ev (tCall sp dvs E tl) σ H v := fun H1 e Q q =>
  h H1 e _ fun vs H2 e2 p => hs vs H2 (e.trans e2) p Q (fun H3 e3 => q H3 (e2.trans e3)) E
end
section
variable {D : Ends} {tz : TS} {Post Post' : V → Hp → Prop} {P : List V → Hp → Prop} {tl : TA}
theorem q_par2 {i j : Nat} (h : EvAP tl σ H P) (k : ∀ vs H1, Ex H H1 → P vs H1 → ∃ v w, vs = [v, w] ∧ tz D ((σ.set i (some v)).set j (some w)) H1) : tSeq (tPar i j tl) tz D σ H := h H (Ex.refl H) _ k
theorem q_par3 {i j l : Nat} (h : EvAP tl σ H P) (k : ∀ vs H1, Ex H H1 → P vs H1 → ∃ u v w, vs = [u, v, w] ∧ tz D (((σ.set i (some u)).set j (some v)).set l (some w)) H1) : tSeq (tPar3 i j l tl) tz D σ H := h H (Ex.refl H) _ k
theorem s_par2 {i j : Nat} (h : EvAP tl σ H P) (k : ∀ vs H1, Ex H H1 → P vs H1 → ∃ v w, vs = [v, w] ∧ D.nx ((σ.set i (some v)).set j (some w)) H1) : tPar i j tl D σ H := h H (Ex.refl H) _ k
/-- a built-in of one thing, an operation with one thing ahead, that give something -/
theorem evp_cb1 {rr : List V → Hp → VK → Prop} (h : EvP te σ H Post) (hr : ∀ x H1, Ex H H1 → Post x H1 → ∃ z, RC rr [x] H1 z ∧ ∀ H2, Ex H1 H2 → Post' z H2) : EvP (tCB rr (tCons te tNil)) σ H Post' := fun H1 e Q q =>
  h H1 e _ fun x H2 e2 p => by
    obtain ⟨z, h1, h2⟩ := hr x H2 (e.trans e2) p
    exact h1 H2 (Ex.refl _) Q fun H3 e3 => q z H3 (e2.trans e3) (h2 H3 e3)
theorem evp_op1 {r : R2} (ha : EvP ta σ H Post) (hb : ∀ x H1, Ex H H1 → Post x H1 → ∃ y z, Ev tb σ H1 y ∧ RV r x y H1 z ∧ ∀ H2, Ex H1 H2 → Post' z H2) : EvP (tOp r ta tb) σ H Post' := fun H1 e Q q =>
  ha H1 e _ fun x H2 e2 p => by
    obtain ⟨y, z, h1, h2, h3⟩ := hb x H2 (e.trans e2) p
    exact h1 H2 (Ex.refl _) _ fun H3 e3 => h2 H3 e3 Q fun H4 e4 => q z H4 ((e2.trans e3).trans e4) (h3 H4 (e3.trans e4))
theorem rc_abs {i : Int} : RC (fun xs H Q => ∃ i, xs = [.int i] ∧ Q (.int (if i < 0 then -i else i)) H) [.int i] H (.int (if i < 0 then -i else i)) := fun H1 _ _ q => ⟨i, rfl, q H1 (Ex.refl _)⟩
theorem ev_sum {a : Addr} {ns : List Int} (h : Ev te σ H (.ref a)) (hS : SqL K H a (ns.map V.int)) : Ev (tCB (rSum K) (tCons te tNil)) σ H (.int ns.sum) := fun H1 e Q q =>
  h H1 e _ fun H2 e2 => ⟨a, ns, rfl, ex_l (e.trans e2) hS, q H2 e2⟩
theorem el_if {t : TT} {b : Bool} {xs : List V} (h : EvT t σ H b) (h1 : b = true → EvL ta σ H xs) (h2 : b = false → EvL tb σ H xs) : EvL (tIf t ta tb) σ H xs := fun H1 e Q q => h H1 e _ fun H2 e2 => by
  cases b with
  | true => exact iteT (h1 rfl H2 (e.trans e2) Q fun p H3 hp e3 h3 => q p H3 (fresh_back e2 hp) (e2.trans e3) h3)
  | false => exact iteF (h2 rfl H2 (e.trans e2) Q fun p H3 hp e3 h3 => q p H3 (fresh_back e2 hp) (e2.trans e3) h3)
end
theorem cut_from {xs : List V} {k : Nat} : cutV xs (some (k : Int)) none = xs.drop k := by
  unfold cutV
  rw [HT.sIx_nat, HT.sIx_none]
  by_cases h : k ≤ xs.length
  · rw [Nat.min_eq_left h]
    exact List.take_of_length_le (by rw [List.length_drop]; exact Nat.le_refl _)
  · rw [Nat.min_eq_right (by omega), List.drop_length, List.take_nil, List.drop_eq_nil_of_le (by omega)]
theorem cut_to {xs : List V} {k : Nat} : cutV xs none (some (k : Int)) = xs.take k := by
  unfold cutV
  rw [HT.sIx_nat, HT.sIx_none, List.drop_zero, Nat.sub_zero]
  by_cases h : k ≤ xs.length
  · rw [Nat.min_eq_left h]
  · rw [Nat.min_eq_right (by omega), List.take_length, List.take_of_length_le (by omega)]
end Sg

namespace Sg
set_option autoImplicit false
open PySem L2 Evl Big
open PyProof.Rows (envOfC)
def top (i : Nat) : Stmt := PySem.Challenge.pw_signposts_k01_whole_followed.main.body.getD i (.Pass ⟨0, 0, 0, 0⟩)
abbrev st_is_number : Stmt := (top 8)
abbrev N_is_number : List Str := ["given"]
abbrev P_is_number : List Str := ["given"]
theorem sc_is_number : FnScope N_is_number P_is_number (C8.fnScope st_is_number) := C8.fnScope_by (by decide +kernel)
abbrev st_is_place : Stmt := (top 9)
abbrev N_is_place : List Str := ["many", "given"]
abbrev P_is_place : List Str := ["many", "given"]
theorem sc_is_place : FnScope N_is_place P_is_place (C8.fnScope st_is_place) := C8.fnScope_by (by decide +kernel)
abbrev st_is_road : Stmt := (top 10)
abbrev N_is_road : List Str := ["many", "given", "start", "end"]
abbrev P_is_road : List Str := ["many", "given"]
theorem sc_is_road : FnScope N_is_road P_is_road (C8.fnScope st_is_road) := C8.fnScope_by (by decide +kernel)
abbrev st_are_roads : Stmt := (top 11)
abbrev N_are_roads : List Str := ["many", "given", "road", "k"]
abbrev P_are_roads : List Str := ["many", "given"]
theorem sc_are_roads : FnScope N_are_roads P_are_roads (C8.fnScope st_are_roads) := C8.fnScope_by (by decide +kernel)
abbrev st_is_land : Stmt := (top 12)
abbrev N_is_land : List Str := ["given", "many", "home", "roads"]
abbrev P_is_land : List Str := ["given"]
theorem sc_is_land : FnScope N_is_land P_is_land (C8.fnScope st_is_land) := C8.fnScope_by (by decide +kernel)
abbrev st_are_signs : Stmt := (top 13)
abbrev N_are_signs : List Str := ["land", "given", "many", "home", "roads", "known", "place", "sign"]
abbrev P_are_signs : List Str := ["land", "given"]
theorem sc_are_signs : FnScope N_are_signs P_are_signs (C8.fnScope st_are_signs) := C8.fnScope_by (by decide +kernel)
abbrev st_need_land : Stmt := (top 14)
abbrev N_need_land : List Str := ["land"]
abbrev P_need_land : List Str := ["land"]
theorem sc_need_land : FnScope N_need_land P_need_land (C8.fnScope st_need_land) := C8.fnScope_by (by decide +kernel)
abbrev st_need_signs : Stmt := (top 15)
abbrev N_need_signs : List Str := ["land", "signs"]
abbrev P_need_signs : List Str := ["land", "signs"]
theorem sc_need_signs : FnScope N_need_signs P_need_signs (C8.fnScope st_need_signs) := C8.fnScope_by (by decide +kernel)
abbrev st_need_place : Stmt := (top 16)
abbrev N_need_place : List Str := ["land", "place"]
abbrev P_need_place : List Str := ["land", "place"]
theorem sc_need_place : FnScope N_need_place P_need_place (C8.fnScope st_need_place) := C8.fnScope_by (by decide +kernel)
abbrev st_walked : Stmt := (top 18)
abbrev N_walked : List Str := ["signs", "place", "met", "at"]
abbrev P_walked : List Str := ["signs", "place"]
theorem sc_walked : FnScope N_walked P_walked (C8.fnScope st_walked) := C8.fnScope_by (by decide +kernel)
abbrev st_coming : Stmt := (top 19)
abbrev N_coming : List Str := ["signs", "goal", "known", "place", "way", "at", "gone"]
abbrev P_coming : List Str := ["signs", "goal"]
theorem sc_coming : FnScope N_coming P_coming (C8.fnScope st_coming) := C8.fnScope_by (by decide +kernel)
abbrev st_places_coming : Stmt := (top 20)
abbrev N_places_coming : List Str := ["signs", "goal", "place", "comes"]
abbrev P_places_coming : List Str := ["signs", "goal"]
theorem sc_places_coming : FnScope N_places_coming P_places_coming (C8.fnScope st_places_coming) := C8.fnScope_by (by decide +kernel)
abbrev st_Home_init : Stmt := inClass (top 23) 0
abbrev N_Home_init : List Str := ["self", "steps"]
abbrev P_Home_init : List Str := ["self", "steps"]
theorem sc_Home_init : FnScope N_Home_init P_Home_init (C8.fnScope st_Home_init) := C8.fnScope_by (by decide +kernel)
abbrev st_Home_shows : Stmt := inClass (top 23) 1
abbrev N_Home_shows : List Str := ["self", "land", "signs", "place", "way", "_"]
abbrev P_Home_shows : List Str := ["self", "land", "signs", "place"]
theorem sc_Home_shows : FnScope N_Home_shows P_Home_shows (C8.fnScope st_Home_shows) := C8.fnScope_by (by decide +kernel)
abbrev st_Round_init : Stmt := inClass (top 24) 0
abbrev N_Round_init : List Str := ["self", "places"]
abbrev P_Round_init : List Str := ["self", "places"]
theorem sc_Round_init : FnScope N_Round_init P_Round_init (C8.fnScope st_Round_init) := C8.fnScope_by (by decide +kernel)
abbrev st_Round_shows : Stmt := inClass (top 24) 1
abbrev N_Round_shows : List Str := ["self", "land", "signs", "place", "way", "begin"]
abbrev P_Round_shows : List Str := ["self", "land", "signs", "place"]
theorem sc_Round_shows : FnScope N_Round_shows P_Round_shows (C8.fnScope st_Round_shows) := C8.fnScope_by (by decide +kernel)
abbrev st_Stands_init : Stmt := inClass (top 25) 0
abbrev N_Stands_init : List Str := ["self", "place"]
abbrev P_Stands_init : List Str := ["self", "place"]
theorem sc_Stands_init : FnScope N_Stands_init P_Stands_init (C8.fnScope st_Stands_init) := C8.fnScope_by (by decide +kernel)
abbrev st_Stands_shows : Stmt := inClass (top 25) 1
abbrev N_Stands_shows : List Str := ["self", "land", "signs", "place", "way", "begin"]
abbrev P_Stands_shows : List Str := ["self", "land", "signs", "place"]
theorem sc_Stands_shows : FnScope N_Stands_shows P_Stands_shows (C8.fnScope st_Stands_shows) := C8.fnScope_by (by decide +kernel)
abbrev st_Turned_init : Stmt := inClass (top 26) 0
abbrev N_Turned_init : List Str := ["self", "signs", "sets"]
abbrev P_Turned_init : List Str := ["self", "signs", "sets"]
theorem sc_Turned_init : FnScope N_Turned_init P_Turned_init (C8.fnScope st_Turned_init) := C8.fnScope_by (by decide +kernel)
abbrev st_Turned_shows : Stmt := inClass (top 26) 1
abbrev N_Turned_shows : List Str := ["self", "land", "signs", "others", "place", "sign", "places"]
abbrev P_Turned_shows : List Str := ["self", "land", "signs"]
theorem sc_Turned_shows : FnScope N_Turned_shows P_Turned_shows (C8.fnScope st_Turned_shows) := C8.fnScope_by (by decide +kernel)
abbrev st_Shut_init : Stmt := inClass (top 27) 0
abbrev N_Shut_init : List Str := ["self", "places"]
abbrev P_Shut_init : List Str := ["self", "places"]
theorem sc_Shut_init : FnScope N_Shut_init P_Shut_init (C8.fnScope st_Shut_init) := C8.fnScope_by (by decide +kernel)
abbrev st_Shut_shows : Stmt := inClass (top 27) 1
abbrev N_Shut_shows : List Str := ["self", "land", "signs", "many", "home", "roads", "within", "place", "start", "end"]
abbrev P_Shut_shows : List Str := ["self", "land", "signs"]
theorem sc_Shut_shows : FnScope N_Shut_shows P_Shut_shows (C8.fnScope st_Shut_shows) := C8.fnScope_by (by decide +kernel)
abbrev st_copied : Stmt := (top 28)
abbrev N_copied : List Str := ["field", "part"]
abbrev P_copied : List Str := ["field"]
theorem sc_copied : FnScope N_copied P_copied (C8.fnScope st_copied) := C8.fnScope_by (by decide +kernel)
abbrev st_is_same_round : Stmt := (top 29)
abbrev N_is_same_round : List Str := ["places", "gone", "place", "k"]
abbrev P_is_same_round : List Str := ["places", "gone"]
theorem sc_is_same_round : FnScope N_is_same_round P_is_same_round (C8.fnScope st_is_same_round) := C8.fnScope_by (by decide +kernel)
abbrev st_is_kept_set : Stmt := (top 30)
abbrev N_is_kept_set : List Str := ["land", "signs", "places", "many", "home", "_", "within", "place"]
abbrev P_is_kept_set : List Str := ["land", "signs", "places"]
theorem sc_is_kept_set : FnScope N_is_kept_set P_is_kept_set (C8.fnScope st_is_kept_set) := C8.fnScope_by (by decide +kernel)
abbrev st_no_road_leaves_two : Stmt := (top 31)
abbrev N_no_road_leaves_two : List Str := ["land", "sets", "many", "_", "roads", "bits", "k", "places", "place", "start", "end", "left"]
abbrev P_no_road_leaves_two : List Str := ["land", "sets"]
theorem sc_no_road_leaves_two : FnScope N_no_road_leaves_two P_no_road_leaves_two (C8.fnScope st_no_road_leaves_two) := C8.fnScope_by (by decide +kernel)
abbrev st_followed : Stmt := (top 33)
abbrev N_followed : List Str := ["land", "signs", "place", "way", "begin"]
abbrev P_followed : List Str := ["land", "signs", "place"]
theorem sc_followed : FnScope N_followed P_followed (C8.fnScope st_followed) := C8.fnScope_by (by decide +kernel)
abbrev st_home_from : Stmt := (top 34)
abbrev N_home_from : List Str := ["land", "signs"]
abbrev P_home_from : List Str := ["land", "signs"]
theorem sc_home_from : FnScope N_home_from P_home_from (C8.fnScope st_home_from) := C8.fnScope_by (by decide +kernel)
abbrev st_need_walk : Stmt := (top 35)
abbrev N_need_walk : List Str := ["land", "signs", "place"]
abbrev P_need_walk : List Str := ["land", "signs", "place"]
theorem sc_need_walk : FnScope N_need_walk P_need_walk (C8.fnScope st_need_walk) := C8.fnScope_by (by decide +kernel)
abbrev st__law_number : Stmt := (top 37)
abbrev N__law_number : List Str := ["_law_cell", "_law_at", "_law_whole", "_law_small", "_law_blend", "_law_more"]
abbrev P__law_number : List Str := ["_law_cell", "_law_at", "_law_whole"]
theorem sc__law_number : FnScope N__law_number P__law_number (C8.fnScope st__law_number) := C8.fnScope_by (by decide +kernel)
abbrev st__law_land : Stmt := (top 38)
abbrev N__law_land : List Str := ["_law_script", "_law_by", "_law_most", "_law_cells", "_law_whole", "_law_found", "_law_signs", "_law_many", "_law_home_here", "_law_kind", "_law_place", "_law_number_here", "_law_mine", "_law_turn", "_law_far", "_law_other", "_law_sign"]
abbrev P__law_land : List Str := ["_law_script", "_law_by", "_law_most"]
theorem sc__law_land : FnScope N__law_land P__law_land (C8.fnScope st__law_land) := C8.fnScope_by (by decide +kernel)
abbrev st__law_land_right : Stmt := (top 39)
abbrev N__law_land_right : List Str := ["_law_land_here", "_law_signs", "_law_place", "_law_sign"]
abbrev P__law_land_right : List Str := ["_law_land_here", "_law_signs"]
theorem sc__law_land_right : FnScope N__law_land_right P__law_land_right (C8.fnScope st__law_land_right) := C8.fnScope_by (by decide +kernel)
abbrev st__law_end : Stmt := (top 40)
abbrev N__law_end : List Str := ["_law_land_here", "_law_signs", "_law_place", "_law_steps", "_law_ring", "_law_here"]
abbrev P__law_end : List Str := ["_law_land_here", "_law_signs", "_law_place"]
theorem sc__law_end : FnScope N__law_end P__law_end (C8.fnScope st__law_end) := C8.fnScope_by (by decide +kernel)
abbrev st__law_home : Stmt := (top 41)
abbrev N__law_home : List Str := ["_law_land_here", "_law_signs", "_law_place"]
abbrev P__law_home : List Str := ["_law_land_here", "_law_signs"]
theorem sc__law_home : FnScope N__law_home P__law_home (C8.fnScope st__law_home) := C8.fnScope_by (by decide +kernel)
abbrev st__law_due : Stmt := (top 42)
abbrev N__law_due : List Str := ["_law_land_here", "_law_signs", "_law_place", "_law_answer", "_law_kind", "_law_what", "_law_at"]
abbrev P__law_due : List Str := ["_law_land_here", "_law_signs", "_law_place", "_law_answer"]
theorem sc__law_due : FnScope N__law_due P__law_due (C8.fnScope st__law_due) := C8.fnScope_by (by decide +kernel)
abbrev st__law_says : Stmt := (top 43)
abbrev N__law_says : List Str := ["_law_land_here", "_law_signs", "_law_place", "_law_answer", "_law_said"]
abbrev P__law_says : List Str := ["_law_land_here", "_law_signs", "_law_place", "_law_answer"]
theorem sc__law_says : FnScope N__law_says P__law_says (C8.fnScope st__law_says) := C8.fnScope_by (by decide +kernel)
abbrev st__law_right : Stmt := (top 44)
abbrev N__law_right : List Str := ["_law_land_here", "_law_signs", "_law_place", "_law_others", "_law_handed", "_law_kind", "_law_again", "_law_answer", "_law_sorts", "_law_other"]
abbrev P__law_right : List Str := ["_law_land_here", "_law_signs", "_law_place", "_law_others"]
theorem sc__law_right : FnScope N__law_right P__law_right (C8.fnScope st__law_right) := C8.fnScope_by (by decide +kernel)
abbrev st__law_hand_right : Stmt := (top 45)
abbrev N__law_hand_right : List Str := ["_law_land_here", "_law_signs", "_law_place", "_law_kind", "_law_what", "_law_built", "_law_rows", "_law_row", "_law_handed", "_law_answer"]
abbrev P__law_hand_right : List Str := ["_law_land_here", "_law_signs", "_law_place"]
theorem sc__law_hand_right : FnScope N__law_hand_right P__law_hand_right (C8.fnScope st__law_hand_right) := C8.fnScope_by (by decide +kernel)
abbrev st_law : Stmt := (top 46)
abbrev N_law : List Str := ["_law_script", "_law_whole", "_law_by", "_law_land_here", "_law_signs", "_law_others", "_law_place", "_law_handed", "_law_found", "_law_round_told"]
abbrev P_law : List Str := ["_law_script"]
theorem sc_law : FnScope N_law P_law (C8.fnScope st_law) := C8.fnScope_by (by decide +kernel)
/-- where the classes stand -/
structure Ads where
  Answer : Addr
  Home : Addr
  Round : Addr
  Stands : Addr
  Turned : Addr
  Shut : Addr
/-- what is asked of the top -/
structure Txt (K : PySem.W.Frag) (mg : Str → Option Value) (ad : Ads) : Prop where
  n_abs : mg "abs" = none
  n_all : mg "all" = none
  n_any : mg "any" = none
  n_bool : mg "bool" = none
  n_enumerate : mg "enumerate" = none
  n_int : mg "int" = none
  n_isinstance : mg "isinstance" = none
  n_len : mg "len" = none
  n_list : mg "list" = none
  n_range : mg "range" = none
  n_set : mg "set" = none
  n_sorted : mg "sorted" = none
  n_sum : mg "sum" = none
  n_tuple : mg "tuple" = none
  c_MOST_PLACES : ∃ u, mg "MOST_PLACES" = some u ∧ RelV (.int 40) u
  c_MOST_ROADS : ∃ u, mg "MOST_ROADS" = some u ∧ RelV (.int 120) u
  g_Answer : mg "Answer" = some (.ref ad.Answer)
  g_Home : mg "Home" = some (.ref ad.Home)
  g_Round : mg "Round" = some (.ref ad.Round)
  g_Stands : mg "Stands" = some (.ref ad.Stands)
  g_Turned : mg "Turned" = some (.ref ad.Turned)
  g_Shut : mg "Shut" = some (.ref ad.Shut)
  cl_Home : Cls K ad.Home
  no_Home_steps : NoAttr K ad.Home "steps"
  mk_Home : MakeOk K mg "Home" "Home.__init__" ad.Home st_Home_init
  mt_Home_shows : MethOk K ad.Home "shows" "Home.shows" st_Home_shows
  oc_Home : OwnTy K ad.Home
  ki_Home_Answer : PySem.W.kitOne K (.ref ad.Home) (.ref ad.Answer) = some true
  ki_Home_Home : PySem.W.kitOne K (.ref ad.Home) (.ref ad.Home) = some true
  ki_Home_Round : PySem.W.kitOne K (.ref ad.Home) (.ref ad.Round) = some false
  ki_Home_Shut : PySem.W.kitOne K (.ref ad.Home) (.ref ad.Shut) = some false
  ki_Home_Stands : PySem.W.kitOne K (.ref ad.Home) (.ref ad.Stands) = some false
  ki_Home_Turned : PySem.W.kitOne K (.ref ad.Home) (.ref ad.Turned) = some false
  cl_Round : Cls K ad.Round
  no_Round_places : NoAttr K ad.Round "places"
  mk_Round : MakeOk K mg "Round" "Round.__init__" ad.Round st_Round_init
  mt_Round_shows : MethOk K ad.Round "shows" "Round.shows" st_Round_shows
  oc_Round : OwnTy K ad.Round
  ki_Round_Answer : PySem.W.kitOne K (.ref ad.Round) (.ref ad.Answer) = some true
  ki_Round_Home : PySem.W.kitOne K (.ref ad.Round) (.ref ad.Home) = some false
  ki_Round_Round : PySem.W.kitOne K (.ref ad.Round) (.ref ad.Round) = some true
  ki_Round_Shut : PySem.W.kitOne K (.ref ad.Round) (.ref ad.Shut) = some false
  ki_Round_Stands : PySem.W.kitOne K (.ref ad.Round) (.ref ad.Stands) = some false
  ki_Round_Turned : PySem.W.kitOne K (.ref ad.Round) (.ref ad.Turned) = some false
  cl_Stands : Cls K ad.Stands
  no_Stands_place : NoAttr K ad.Stands "place"
  mk_Stands : MakeOk K mg "Stands" "Stands.__init__" ad.Stands st_Stands_init
  mt_Stands_shows : MethOk K ad.Stands "shows" "Stands.shows" st_Stands_shows
  oc_Stands : OwnTy K ad.Stands
  ki_Stands_Answer : PySem.W.kitOne K (.ref ad.Stands) (.ref ad.Answer) = some true
  ki_Stands_Home : PySem.W.kitOne K (.ref ad.Stands) (.ref ad.Home) = some false
  ki_Stands_Round : PySem.W.kitOne K (.ref ad.Stands) (.ref ad.Round) = some false
  ki_Stands_Shut : PySem.W.kitOne K (.ref ad.Stands) (.ref ad.Shut) = some false
  ki_Stands_Stands : PySem.W.kitOne K (.ref ad.Stands) (.ref ad.Stands) = some true
  ki_Stands_Turned : PySem.W.kitOne K (.ref ad.Stands) (.ref ad.Turned) = some false
  cl_Turned : Cls K ad.Turned
  no_Turned_sets : NoAttr K ad.Turned "sets"
  no_Turned_signs : NoAttr K ad.Turned "signs"
  mk_Turned : MakeOk K mg "Turned" "Turned.__init__" ad.Turned st_Turned_init
  mt_Turned_shows : MethOk K ad.Turned "shows" "Turned.shows" st_Turned_shows
  oc_Turned : OwnTy K ad.Turned
  ki_Turned_Answer : PySem.W.kitOne K (.ref ad.Turned) (.ref ad.Answer) = some true
  ki_Turned_Home : PySem.W.kitOne K (.ref ad.Turned) (.ref ad.Home) = some false
  ki_Turned_Round : PySem.W.kitOne K (.ref ad.Turned) (.ref ad.Round) = some false
  ki_Turned_Shut : PySem.W.kitOne K (.ref ad.Turned) (.ref ad.Shut) = some false
  ki_Turned_Stands : PySem.W.kitOne K (.ref ad.Turned) (.ref ad.Stands) = some false
  ki_Turned_Turned : PySem.W.kitOne K (.ref ad.Turned) (.ref ad.Turned) = some true
  cl_Shut : Cls K ad.Shut
  no_Shut_places : NoAttr K ad.Shut "places"
  mk_Shut : MakeOk K mg "Shut" "Shut.__init__" ad.Shut st_Shut_init
  mt_Shut_shows : MethOk K ad.Shut "shows" "Shut.shows" st_Shut_shows
  oc_Shut : OwnTy K ad.Shut
  ki_Shut_Answer : PySem.W.kitOne K (.ref ad.Shut) (.ref ad.Answer) = some true
  ki_Shut_Home : PySem.W.kitOne K (.ref ad.Shut) (.ref ad.Home) = some false
  ki_Shut_Round : PySem.W.kitOne K (.ref ad.Shut) (.ref ad.Round) = some false
  ki_Shut_Shut : PySem.W.kitOne K (.ref ad.Shut) (.ref ad.Shut) = some true
  ki_Shut_Stands : PySem.W.kitOne K (.ref ad.Shut) (.ref ad.Stands) = some false
  ki_Shut_Turned : PySem.W.kitOne K (.ref ad.Shut) (.ref ad.Turned) = some false
  d_is_number : DefOk K mg "is_number" st_is_number
  d_is_place : DefOk K mg "is_place" st_is_place
  d_is_road : DefOk K mg "is_road" st_is_road
  d_are_roads : DefOk K mg "are_roads" st_are_roads
  d_is_land : DefOk K mg "is_land" st_is_land
  d_are_signs : DefOk K mg "are_signs" st_are_signs
  d_need_land : DefOk K mg "need_land" st_need_land
  d_need_signs : DefOk K mg "need_signs" st_need_signs
  d_need_place : DefOk K mg "need_place" st_need_place
  d_walked : DefOk K mg "walked" st_walked
  d_coming : DefOk K mg "coming" st_coming
  d_places_coming : DefOk K mg "places_coming" st_places_coming
  d_copied : DefOk K mg "copied" st_copied
  d_is_same_round : DefOk K mg "is_same_round" st_is_same_round
  d_is_kept_set : DefOk K mg "is_kept_set" st_is_kept_set
  d_no_road_leaves_two : DefOk K mg "no_road_leaves_two" st_no_road_leaves_two
  d_followed : DefOk K mg "followed" st_followed
  d_home_from : DefOk K mg "home_from" st_home_from
  d_need_walk : DefOk K mg "need_walk" st_need_walk
  d__law_number : DefOk K mg "_law_number" st__law_number
  d__law_land : DefOk K mg "_law_land" st__law_land
  d__law_land_right : DefOk K mg "_law_land_right" st__law_land_right
  d__law_end : DefOk K mg "_law_end" st__law_end
  d__law_home : DefOk K mg "_law_home" st__law_home
  d__law_due : DefOk K mg "_law_due" st__law_due
  d__law_says : DefOk K mg "_law_says" st__law_says
  d__law_right : DefOk K mg "_law_right" st__law_right
  d__law_hand_right : DefOk K mg "_law_hand_right" st__law_hand_right
  d_law : DefOk K mg "law" st_law
end Sg
namespace Sg
set_option autoImplicit false
open PySem L2 Evl Big
open PyProof.Rows (envOfC)
section
variable {P : Program} {w : World} {K : PySem.W.Frag} {mg : Str → Option Value} {base : Heap} {ad : Ads}
def numD : PyData → Bool
  | .int _ => true
  | _ => false
def sp_is_number (K : PySem.W.Frag) : Sp := fun vs H Q _ => ∃ v d, vs = [v] ∧ Da K H v d ∧ RetV (.bl (numD d)) H Q
theorem ok_is_number (T : Txt K mg ad) : C8.Cal P w K mg base 1 "is_number" (sp_is_number K) [] := by
  refine cal_of T.d_is_number sc_is_number (fun _ _ _ _ _ _ us hl => match us, hl with | [_], _ => rfl) (fun vs H Q E h => ?_) (fun f cdv A outer s H vs Q E hr h => ?_)
  · obtain ⟨v, d, rfl, _⟩ := h; rfl
  · obtain ⟨v, d, rfl, hd, k⟩ := h
    refine ⟨_, (pss_one (ps_ret (pe_and (pe_callB (k_isi K) (by rfl) T.n_isinstance (by decide +kernel) (pa_cons (pv 0) (pa_cons (pe_bltn (v := .ty "int") (by rfl) T.n_int (by decide +kernel) rfl) pa_nil))) (pe_one (pe_not (pe_callB (k_isi K) (by rfl) T.n_isinstance (by decide +kernel) (pa_cons (pv 0) (pa_cons (pe_bltn (v := .ty "bool") (by rfl) T.n_bool (by decide +kernel) rfl) pa_nil)))))))), ?_⟩
    have e1 := ev_isi (σ := start N_is_number [v]) (te := tVar 0) (ev_var rfl) hd (kit_int d)
    have e2 := ev_isi (σ := start N_is_number [v]) (te := tVar 0) (ev_var rfl) hd (kit_bool d)
    refine s_ret (ev_is (ev_andV e1 fun _ => ev_notV e2) (show V.bl _ = .bl (numD d) from ?_)) fun H1 e => k H1 e
    cases d <;> rfl

end
end Sg
namespace Sg
set_option autoImplicit false
open PySem L2 Evl Big
open PyProof.Rows (envOfC)
section
variable {P : Program} {w : World} {K : PySem.W.Frag} {mg : Str → Option Value} {base : Heap} {ad : Ads}
def placeD (n : Int) : PyData → Bool
  | .int i => decide (0 ≤ i) && decide (i < n)
  | _ => false
def sp_is_place (K : PySem.W.Frag) : Sp := fun vs H Q _ => ∃ n v d, vs = [.int n, v] ∧ Da K H v d ∧ RetV (.bl (placeD n d)) H Q
theorem ok_is_place (T : Txt K mg ad) : C8.Cal P w K mg base 2 "is_place" (sp_is_place K) [] := by
  have c_is_number : C8.Cal P w K mg base 1 "is_number" (sp_is_number K) [] := ok_is_number T
  refine cal_of T.d_is_place sc_is_place (fun _ _ _ _ _ _ us hl => match us, hl with | [_, _], _ => rfl) (fun vs H Q E h => ?_) (fun f cdv A outer s H vs Q E hr h => ?_)
  · obtain ⟨n, v, d, rfl, _⟩ := h; rfl
  · obtain ⟨n, v, d, rfl, hd, k⟩ := h
    refine ⟨_, (pss_one (ps_ret (pe_and (C8.pe_c c_is_number hr (by decide) rfl (pa_cons (pv 1) pa_nil)) (pe_one (pe_chain op_le op_lt pe_int (pv 1) (pv 0)))))), ?_⟩
    have e1 : Ev (tCall (sp_is_number K) [] C8.E0 (tCons (tVar 1) tNil)) (start N_is_place [.int n, v]) H (.bl (numD d)) :=
      ev_call (ea_cons (ev_var rfl) ea_nil) fun H1 a Q q E => ⟨v, d, rfl, hd.mono a, q⟩
    cases d with
    | int i =>
      cases hd
      refine s_ret (ev_andV e1 fun _ => ev_chain ev_c (ev_var rfl) rv_I0 (fun _ => ev_var rfl) (fun _ => rv_I0)) fun H1 e => ?_
      exact k H1 e
    | _ => 
      refine s_ret (ev_andV (b := false) e1 fun z => absurd z (by simp [numD])) fun H1 e => ?_
      exact k H1 e

end
end Sg
namespace Sg
set_option autoImplicit false
open PySem L2 Evl Big
open PyProof.Rows (envOfC)
section
variable {P : Program} {w : World} {K : PySem.W.Frag} {mg : Str → Option Value} {base : Heap} {ad : Ads}
def neD : PyData → PyData → Bool
  | .int i, .int j => !decide (i = j)
  | _, _ => false
def roadD (n : Int) : PyData → Bool
  | .tuple [a, b] => placeD n a && (placeD n b && neD a b)
  | _ => false
theorem placeD_int {n : Int} {d : PyData} (h : placeD n d = true) : ∃ i, d = .int i ∧ 0 ≤ i ∧ i < n := by
  cases d with
  | int i =>
    simp only [placeD, Bool.and_eq_true, decide_eq_true_eq] at h
    exact ⟨i, rfl, h.1, h.2⟩
  | _ => simp [placeD] at h
def sp_is_road (K : PySem.W.Frag) : Sp := fun vs H Q _ => ∃ n v d, vs = [.int n, v] ∧ Da K H v d ∧ RetV (.bl (roadD n d)) H Q
theorem ok_is_road (T : Txt K mg ad) : C8.Cal P w K mg base 3 "is_road" (sp_is_road K) [] := by
  have c_is_place : C8.Cal P w K mg base 2 "is_place" (sp_is_place K) [] := ok_is_place T
  refine cal_of T.d_is_road sc_is_road (fun _ _ _ _ _ _ us hl => match us, hl with | [_, _], _ => rfl) (fun vs H Q E h => ?_) (fun f cdv A outer s H vs Q E hr h => ?_)
  · obtain ⟨n, v, d, rfl, _⟩ := h; rfl
  · obtain ⟨n, v, d, rfl, hd, k⟩ := h
    refine ⟨_, (pss_cons (ps_if (PW.pt (pw_or (pt_not (pt_val (pe_callB (k_isi K) (by rfl) T.n_isinstance (by decide +kernel) (pa_cons (pv 1) (pa_cons (pe_bltn (v := .ty "tuple") (by rfl) T.n_tuple (by decide +kernel) rfl) pa_nil))))) (pw_or1 (pt_cmpR op_ne (pe_callB (k_len K) (by rfl) T.n_len PySem.boot_len (pa_cons (pv 1) pa_nil)) pe_int (nomark _))))) (pss_one (ps_ret pe_bl)) pss_nil)
  (pss_cons (ps_asg (pv 1) (k_gt K (n := 2) (by rfl) (pgs_cons (pg_name (i := 2) sc_is_road.nd rfl (Or.inl rfl)) (pgs_cons (pg_name (i := 3) sc_is_road.nd rfl (Or.inl rfl)) pgs_nil))))
  (pss_one (ps_ret (pe_and (C8.pe_c c_is_place hr (by decide) rfl (pa_cons (pv 0) (pa_cons (pv 2) pa_nil))) (pe_and (C8.pe_c c_is_place hr (by decide) rfl (pa_cons (pv 0) (pa_cons (pv 3) pa_nil))) (pe_one (pe_cmpR op_ne (pv 2) (pv 3) (nomark _))))))))), ?_⟩
    have e1 := ev_isi (σ := start N_is_road [.int n, v]) (te := tVar 1) (ev_var rfl) hd (kit_tuple d)
    have pl : ∀ {σ : L2.St} {H1 : Hp} {i : Nat} {x : V} {dx : PyData}, σ[0]? = some (some (V.int n)) → σ[i]? = some (some x) → Da K H1 x dx → Ev (tCall (sp_is_place K) [] C8.E0 (tCons (tVar 0) (tCons (tVar i) tNil))) σ H1 (.bl (placeD n dx)) :=
      fun h0 hi hx => ev_call (ea_cons (ev_var h0) (ea_cons (ev_var hi) ea_nil)) fun H2 a Q q E => ⟨n, _, _, rfl, hx.mono a, q⟩
    by_cases c : ∃ a b, d = .tuple [a, b]
    · obtain ⟨da, db, rfl⟩ := c
      cases hd with
      | tup h hs =>
        cases hs with
        | cons ha hs =>
          cases hs with
          | cons hb hs =>
            cases hs
            refine q_when (b := false) (et_is (et_or (et_not (et_B e1)) fun _ => et_test (ev_op (ev_lenT (ev_var rfl) h) ev_c (rv_ne rfl))) rfl) (fun z => nomatch z) fun _ H1 a1 => ?_
            refine q_unp2 (Post := fun p H2 => p = .ref _) (evp_of (ev_var rfl) fun _ _ => rfl) fun p H2 a2 hp => ⟨_, _, _, hp, ex_t (a1.trans a2) h, ?_⟩
            refine s_ret (ev_is (ev_andV (pl rfl rfl (ha.mono (a1.trans a2))) fun h1 => ev_andV (pl rfl rfl (hb.mono (a1.trans a2))) fun h2 => ?e3) rfl) fun H3 a3 => k H3 ((a1.trans a2).trans a3)
            obtain ⟨i, rfl, _⟩ := placeD_int h1
            obtain ⟨j, rfl, _⟩ := placeD_int h2
            cases ha
            cases hb
            refine ev_is (ev_op (ev_var rfl) (ev_var rfl) (rv_ne rfl)) ?_
            simp [neD]
    · have no : roadD n d = false := by
        unfold roadD
        split
        · exact absurd ⟨_, _, rfl⟩ c
        · rfl
      rw [no] at k
      refine q_when (b := true) ?_ (fun _ H1 a1 => s_ret ev_c fun H2 a2 => k H2 (a1.trans a2)) (fun z => nomatch z)
      cases hd with
      | tup h hs =>
        refine et_is (et_or (et_not (et_B e1)) fun _ => et_test (ev_op (ev_lenT (ev_var rfl) h) ev_c (rv_ne rfl))) ?_
        show (false || !decide (V.int _ = V.int 2)) = true
        have hl := hs.len
        rw [Bool.false_or, Bool.not_eq_true', decide_eq_false_iff_not]
        intro z
        injection z with z
        apply c
        rename_i xs ds
        match ds, hs with
        | [_, _], _ => exact ⟨_, _, rfl⟩
        | [], _ => have hl' : xs.length = 0 := hl; omega
        | [_], _ => have hl' : xs.length = 1 := hl; omega
        | _ :: _ :: _ :: r, _ => have hl' : xs.length = r.length + 1 + 1 + 1 := hl; omega
      | _ => exact et_is (et_or (b := false) (et_not (et_B e1)) fun z => nomatch z) rfl

end
end Sg
namespace Sg
set_option autoImplicit false
open PySem L2 Evl Big
open PyProof.Rows (envOfC)
section
variable {P : Program} {w : World} {K : PySem.W.Frag} {mg : Str → Option Value} {base : Heap} {ad : Ads}
/-- the two of a road -/
def prD2 : PyData → Int × Int
  | .tuple [.int a, .int b] => (a, b)
  | _ => (0, 0)
def lexP (p q : Int × Int) : Bool := HT.lexLt [p.1, p.2] [q.1, q.2]
def risD (ds : List PyData) : Bool := (List.range (ds.length - 1)).all fun k => lexP (prD2 (ds.getD k .none)) (prD2 (ds.getD (k + 1) .none))
def roadsD (n : Int) : PyData → Bool
  | .list ds => decide (ds.length ≤ 120) && (ds.all (roadD n) && risD ds)
  | _ => false
theorem roadD_pr {n : Int} {d : PyData} (h : roadD n d = true) : ∃ a b, d = .tuple [.int a, .int b] ∧ 0 ≤ a ∧ a < n ∧ 0 ≤ b ∧ b < n ∧ a ≠ b := by
  unfold roadD at h
  split at h
  · rename_i x y
    simp only [Bool.and_eq_true] at h
    obtain ⟨h1, h2, h3⟩ := h
    obtain ⟨i, rfl, a1, a2⟩ := placeD_int h1
    obtain ⟨j, rfl, b1, b2⟩ := placeD_int h2
    refine ⟨i, j, rfl, a1, a2, b1, b2, ?_⟩
    simpa [neD] using h3
  · cases h
def sp_are_roads (K : PySem.W.Frag) : Sp := fun vs H Q _ => ∃ n v d, vs = [.int n, v] ∧ Da K H v d ∧ RetV (.bl (roadsD n d)) H Q
theorem ok_are_roads (T : Txt K mg ad) : C8.Cal P w K mg base 4 "are_roads" (sp_are_roads K) [] := by
  have c_is_road : C8.Cal P w K mg base 3 "is_road" (sp_is_road K) [] := ok_is_road T
  refine cal_of T.d_are_roads sc_are_roads (fun _ _ _ _ _ _ us hl => match us, hl with | [_, _], _ => rfl) (fun vs H Q E h => ?_) (fun f cdv A outer s H vs Q E hr h => ?_)
  · obtain ⟨n, v, d, rfl, _⟩ := h; rfl
  · obtain ⟨n, v, d, rfl, hd, k⟩ := h
    refine ⟨_, (pss_cons (ps_if (PW.pt (pw_or (pt_not (pt_val (pe_callB (k_isi K) (by rfl) T.n_isinstance (by decide +kernel) (pa_cons (pv 1) (pa_cons (pe_bltn (v := .ty "list") (by rfl) T.n_list (by decide +kernel) rfl) pa_nil))))) (pw_or1 (pt_cmpR op_gt (pe_callB (k_len K) (by rfl) T.n_len PySem.boot_len (pa_cons (pv 1) pa_nil)) (C8.pe_gc rfl T.c_MOST_ROADS) (nomark _))))) (pss_one (ps_ret pe_bl)) pss_nil)
  (pss_cons (ps_if (pt_not (pt_val (pe_callB (k_all K rfl) (by rfl) T.n_all (by decide +kernel) (pa_cons (pe_lc (own := [("road", 2)]) (g := _) (tt := tYes) rfl sc_are_roads.nd (k_il K (pv 1)) (blkOk_by (N := N_are_roads) (sc := C8.fnScope st_are_roads) (by decide +kernel)) (fun _ _ _ _ _ => (pg_name (i := 2) sc_are_roads.nd rfl (Or.inl rfl))) (fun _ _ _ _ _ => pts_nil) (fun _ _ _ _ _ => (C8.pe_c c_is_road hr (by decide) rfl (pa_cons (pv 0) (pa_cons (pv 2) pa_nil))))) pa_nil)))) (pss_one (ps_ret pe_bl)) pss_nil)
  (pss_one (ps_ret (pe_callB (k_all K rfl) (by rfl) T.n_all (by decide +kernel) (pa_cons (pe_lc (own := [("k", 3)]) (g := _) (tt := tYes) rfl sc_are_roads.nd (pi_range1 rfl T.n_range (pa_cons (pe_op op_sub (pe_callB (k_len K) (by rfl) T.n_len PySem.boot_len (pa_cons (pv 1) pa_nil)) pe_int) pa_nil)) (blkOk_by (N := N_are_roads) (sc := C8.fnScope st_are_roads) (by decide +kernel)) (fun _ _ _ _ _ => (pg_name (i := 3) sc_are_roads.nd rfl (Or.inl rfl))) (fun _ _ _ _ _ => pts_nil) (fun _ _ _ _ _ => (pe_cmpR (k_ltT K hr.units0) (pe_ix (k_list K) (pv 1) (pv 3) (fun _ _ => rfl)) (pe_ix (k_list K) (pv 1) (pe_op op_add (pv 3) pe_int) (fun _ _ => rfl)) (nomark _)))) pa_nil)))))), ?_⟩
    have e1 := ev_isi (σ := start N_are_roads [.int n, v]) (te := tVar 1) (ev_var rfl) hd (kit_list d)
    cases hd with
    | @lst a xs ds h hs =>
      obtain ⟨l, rfl, rfl, hl⟩ := hs.zip
      by_cases c : l.length ≤ 120
      · skip
        refine q_when (b := false) (et_is (et_or (et_not (et_B e1)) fun _ => et_test (ev_op (ev_len (ev_var rfl) h) ev_c rv_I0)) ?_) (fun z => nomatch z) fun _ H1 a1 => ?_
        · show (false || decide ((120 : Int) < ((l.map (·.1)).length : Int))) = false
          simp only [List.length_map, Bool.false_or, decide_eq_false_iff_not]
          omega
        refine q_when (et_not (et_B (ev_all (K := K) (bs := l.map fun p => roadD n p.2) (by
          rw [List.map_map]
          exact el_mapL (j := 2) l (·.1) (fun p => V.bl (roadD n p.2)) (ev_var rfl) (ex_l a1 h) (by omega) fun p hp H2 a2 =>
            ev_call (ea_cons (ev_var rfl) (ea_cons (ev_var rfl) ea_nil)) fun H3 a3 Q q E => ⟨n, _, _, rfl, ((hl p hp).mono (a1.trans a2)).mono a3, q⟩)))) (fun hb H2 a2 => ?no) fun hb H2 a2 => ?yes
        case yes =>
          have c2 : (l.all fun p => roadD n p.2) = true := by
            have q : ((l.map fun p => roadD n p.2).all id) = true := by simpa using hb
            rwa [List.all_map] at q
          have hr2 : ∀ p ∈ l, roadD n p.2 = true := fun p hp => List.all_eq_true.mp c2 p hp
          have a12 := a1.trans a2
          have hlen : (l.map (·.1)).length = l.length := List.length_map ..
          have nth : ∀ (i : Nat), i < l.length → ∃ t x y, (l.map (·.1))[i]? = some (V.ref t) ∧ SqT K H t [.int x, .int y] ∧ prD2 ((l.map (·.2)).getD i .none) = (x, y) := by
            intro i hi
            have hp := List.getElem_mem hi
            have e := List.getElem?_eq_getElem hi
            generalize l[i] = p at hp e
            obtain ⟨x, y, e2, _⟩ := roadD_pr (hr2 p hp)
            have hda := hl p hp
            obtain ⟨pv, pd⟩ := p
            have e2' : pd = .tuple [.int x, .int y] := e2
            subst e2'
            cases hda with
            | @tup t xs _ ht hts =>
              cases hts with
              | cons q1 hts =>
                cases hts with
                | cons q2 hts =>
                  cases hts
                  cases q1
                  cases q2
                  refine ⟨t, x, y, by rw [List.getElem?_map, e]; rfl, ht, ?_⟩
                  rw [List.getD_eq_getElem?_getD, List.getElem?_map, e]
                  rfl
          refine s_ret (ev_all (K := K) (bs := (List.range (l.length - 1)).map fun k => lexP (prD2 ((l.map (·.2)).getD k .none)) (prD2 ((l.map (·.2)).getD (k + 1) .none))) ?_) fun H3 a3 => ?_
          · rw [List.map_map]
            have er : l.length - 1 = (((l.map (·.1)).length : Int) - 1).toNat := by rw [hlen]; omega
            rw [er]
            refine el_mapR (j := 3) _ (ea_cons (ev_op (ev_len (ev_var rfl) (ex_l a12 h)) ev_c rv_I0) ea_nil) (by rw [hlen]; omega) fun i H4 a4 hi => ?_
            rw [hlen] at hi
            obtain ⟨t1, x1, y1, g1, g2, g3⟩ := nth i (by omega)
            obtain ⟨t2, x2, y2, f1, f2, f3⟩ := nth (i + 1) (by omega)
            have a14 := a12.trans a4
            refine ev_is (ev_op (ev_op (ev_var rfl) (ev_var rfl) (rv_ixL (ex_l a14 h) (atI_nat g1))) (ev_op (ev_var rfl) (ev_op (ev_var rfl) ev_c rv_I0) (rv_ixL (ex_l a14 h) (at_of (j := i + 1) rfl f1))) (fun H5 a5 Q q => ⟨t1, t2, [x1, y1], [x2, y2], rfl, rfl, ex_t (a14.trans a5) g2, ex_t (a14.trans a5) f2, q H5 (Ex.refl _)⟩)) ?_
            show V.bl (HT.lexLt [x1, y1] [x2, y2]) = V.bl (lexP (prD2 ((l.map (·.2)).getD i .none)) (prD2 ((l.map (·.2)).getD (i + 1) .none)))
            rw [g3, f3]
            rfl
          · refine RetV.go ?_ (a12.trans a3)
            have ev : roadsD n (.list (l.map (·.2))) = ((List.range (l.length - 1)).map fun k => lexP (prD2 ((l.map (·.2)).getD k .none)) (prD2 ((l.map (·.2)).getD (k + 1) .none))).all id := by
              show (decide ((l.map (·.2)).length ≤ 120) && ((l.map (·.2)).all (roadD n) && risD (l.map (·.2)))) = _
              rw [List.length_map, decide_eq_true c, List.all_map, Bool.true_and]
              have : l.all (roadD n ∘ fun x => x.2) = true := c2
              rw [this, Bool.true_and]
              unfold risD
              rw [List.length_map, List.all_map]
              rfl
            rw [← ev]
            exact k
        case no =>
          have c2' : (l.all fun p => roadD n p.2) = false := by
            have q : ((l.map fun p => roadD n p.2).all id) = false := by
              cases z : ((l.map fun p => roadD n p.2).all id) with
              | true => rw [z] at hb; cases hb
              | false => rfl
            rwa [List.all_map] at q
          refine s_ret ev_c fun H3 a3 => ?_
          refine RetV.go ?_ ((a1.trans a2).trans a3)
          have ev : roadsD n (.list (l.map (·.2))) = false := by
            show (decide ((l.map (·.2)).length ≤ 120) && ((l.map (·.2)).all (roadD n) && risD (l.map (·.2)))) = _
            rw [List.all_map, show l.all (roadD n ∘ fun x => x.2) = false from c2', Bool.false_and, Bool.and_false]
          rw [← ev]
          exact k
      · refine q_when (b := true) (et_is (et_or (et_not (et_B e1)) fun _ => et_test (ev_op (ev_len (ev_var rfl) h) ev_c rv_I0)) ?_) (fun _ H1 a1 => s_ret ev_c fun H2 a2 => ?_) (fun z => nomatch z)
        · show (false || decide ((120 : Int) < ((l.map (·.1)).length : Int))) = true
          simp only [List.length_map, Bool.false_or, decide_eq_true_eq]
          omega
        · refine RetV.go ?_ (a1.trans a2)
          have ev : roadsD n (.list (l.map (·.2))) = false := by
            show (decide ((l.map (·.2)).length ≤ 120) && _) = _
            rw [List.length_map, decide_eq_false c, Bool.false_and]
          rw [← ev]
          exact k
    | _ => exact q_when (b := true) (et_is (et_or (b := false) (et_not (et_B e1)) fun z => nomatch z) rfl) (fun _ H1 a1 => s_ret ev_c fun H2 a2 => k H2 (a1.trans a2)) (fun z => nomatch z)

end
end Sg
namespace Sg
set_option autoImplicit false
open PySem L2 Evl Big
open PyProof.Rows (envOfC)
section
variable {P : Program} {w : World} {K : PySem.W.Frag} {mg : Str → Option Value} {base : Heap} {ad : Ads}
def landD : PyData → Bool
  | .tuple [.int n, h, r] => (decide (1 ≤ n) && decide (n ≤ 40)) && (placeD n h && roadsD n r)
  | _ => false
def sp_is_land (K : PySem.W.Frag) : Sp := fun vs H Q _ => ∃ v d, vs = [v] ∧ Da K H v d ∧ RetV (.bl (landD d)) H Q
theorem ok_is_land (T : Txt K mg ad) : C8.Cal P w K mg base 5 "is_land" (sp_is_land K) [] := by
  have c_is_place : C8.Cal P w K mg base 2 "is_place" (sp_is_place K) [] := ok_is_place T
  have c_is_number : C8.Cal P w K mg base 1 "is_number" (sp_is_number K) [] := ok_is_number T
  have c_are_roads : C8.Cal P w K mg base 4 "are_roads" (sp_are_roads K) [] := ok_are_roads T
  obtain ⟨u40, hm40, r40⟩ := T.c_MOST_PLACES
  refine cal_of T.d_is_land sc_is_land (fun _ _ _ _ _ _ us hl => match us, hl with | [_], _ => rfl) (fun vs H Q E h => ?_) (fun f cdv A outer s H vs Q E hr h => ?_)
  · obtain ⟨v, d, rfl, _⟩ := h; rfl
  · obtain ⟨v, d, rfl, hd, k⟩ := h
    refine ⟨_, (pss_cons (ps_if (PW.pt (pw_or (pt_not (pt_val (pe_callB (k_isi K) (by rfl) T.n_isinstance (by decide +kernel) (pa_cons (pv 0) (pa_cons (pe_bltn (v := .ty "tuple") (by rfl) T.n_tuple (by decide +kernel) rfl) pa_nil))))) (pw_or1 (pt_cmpR op_ne (pe_callB (k_len K) (by rfl) T.n_len PySem.boot_len (pa_cons (pv 0) pa_nil)) pe_int (nomark _))))) (pss_one (ps_ret pe_bl)) pss_nil)
  (pss_cons (ps_asg (pv 0) (k_gt K (n := 3) (by rfl) (pgs_cons (pg_name (i := 1) sc_is_land.nd rfl (Or.inl rfl)) (pgs_cons (pg_name (i := 2) sc_is_land.nd rfl (Or.inl rfl)) (pgs_cons (pg_name (i := 3) sc_is_land.nd rfl (Or.inl rfl)) pgs_nil)))))
  (pss_cons (ps_if (PW.pt (pw_or (pt_not (pt_val (C8.pe_c c_is_number hr (by decide) rfl (pa_cons (pv 1) pa_nil)))) (pw_or1 (pt_not (pt_chain op_le op_le pe_int (pv 1) (C8.pe_gc rfl T.c_MOST_PLACES)))))) (pss_one (ps_ret pe_bl)) pss_nil)
  (pss_one (ps_ret (pe_and (C8.pe_c c_is_place hr (by decide) rfl (pa_cons (pv 1) (pa_cons (pv 2) pa_nil))) (pe_one (C8.pe_c c_are_roads hr (by decide) rfl (pa_cons (pv 1) (pa_cons (pv 3) pa_nil)))))))))), ?_⟩
    have e1 := ev_isi (σ := start N_is_land [v]) (te := tVar 0) (ev_var rfl) hd (kit_tuple d)
    by_cases c : ∃ x y z, d = .tuple [x, y, z]
    · obtain ⟨dx, dy, dz, rfl⟩ := c
      cases hd with
      | tup h hs =>
        cases hs with
        | cons hx hs =>
          cases hs with
          | cons hy hs =>
            cases hs with
            | cons hz hs =>
              cases hs
              refine q_when (b := false) (et_is (et_or (et_not (et_B e1)) fun _ => et_test (ev_op (ev_lenT (ev_var rfl) h) ev_c (rv_ne rfl))) rfl) (fun z => nomatch z) fun _ H1 a1 => ?_
              refine q_unp3 (Post := fun p H2 => p = .ref _) (evp_of (ev_var rfl) fun _ _ => rfl) fun p H2 a2 hp => ⟨_, _, _, _, hp, ex_t (a1.trans a2) h, ?_⟩
              have a12 := a1.trans a2
              have en : ∀ {σ : L2.St} {H3 : Hp} {x : V} {dx : PyData}, σ[1]? = some (some x) → Da K H3 x dx → Ev (tCall (sp_is_number K) [] C8.E0 (tCons (tVar 1) tNil)) σ H3 (.bl (numD dx)) :=
                fun hi hx => ev_call (ea_cons (ev_var hi) ea_nil) fun H4 a Q q E => ⟨_, _, rfl, hx.mono a, q⟩
              cases dx with
              | int n =>
                cases hx
                refine q_when (et_or (et_not (et_B (en rfl (.int n)))) fun _ => et_not (et_test (ev_chain ev_c (ev_var rfl) rv_I0 (fun _ => ev_c) fun _ => rv_I0))) (fun hb H3 a3 => s_ret ev_c fun H4 a4 => ?_) (fun hb H3 a3 => ?_)
                · have hn : (decide ((1 : Int) ≤ n) && decide (n ≤ 40)) = false := by
                    cases z : (decide ((1 : Int) ≤ n) && decide (n ≤ 40)) with
                    | false => rfl
                    | true => rw [z] at hb; cases hb
                  have ev : landD (.tuple [.int n, dy, dz]) = false := by
                    show ((decide ((1 : Int) ≤ n) && decide (n ≤ 40)) && _) = false
                    rw [hn, Bool.false_and]
                  rw [← ev]
                  exact RetV.go k ((a12.trans a3).trans a4)
                · have hn : (decide ((1 : Int) ≤ n) && decide (n ≤ 40)) = true := by
                    cases z : (decide ((1 : Int) ≤ n) && decide (n ≤ 40)) with
                    | true => rfl
                    | false => rw [z] at hb; cases hb
                  have a13 := a12.trans a3
                  refine s_ret (ev_andV (ev_call (ea_cons (ev_var rfl) (ea_cons (ev_var rfl) ea_nil)) fun H4 a Q q E => ⟨n, _, dy, rfl, hy.mono (a13.trans a), q⟩)
                    fun _ => ev_call (ea_cons (ev_var rfl) (ea_cons (ev_var rfl) ea_nil)) fun H4 a Q q E => ⟨n, _, dz, rfl, hz.mono (a13.trans a), q⟩) fun H4 a4 => ?_
                  have ev : landD (.tuple [.int n, dy, dz]) = (placeD n dy && roadsD n dz) := by
                    show ((decide ((1 : Int) ≤ n) && decide (n ≤ 40)) && _) = _
                    rw [hn, Bool.true_and]
                  rw [← ev]
                  exact RetV.go k (a13.trans a4)
              | _ =>
                refine q_when (b := true) (et_is (et_or (b := false) (et_not (et_B (en rfl (hx.mono a12)))) fun z => nomatch z) rfl) (fun _ H3 a3 => s_ret ev_c fun H4 a4 => RetV.go k ((a12.trans a3).trans a4)) (fun z => nomatch z)
    · have no : landD d = false := by
        unfold landD
        split
        · exact absurd ⟨_, _, _, rfl⟩ c
        · rfl
      rw [no] at k
      refine q_when (b := true) ?_ (fun _ H1 a1 => s_ret ev_c fun H2 a2 => k H2 (a1.trans a2)) (fun z => nomatch z)
      cases hd with
      | tup h hs =>
        refine et_is (et_or (et_not (et_B e1)) fun _ => et_test (ev_op (ev_lenT (ev_var rfl) h) ev_c (rv_ne rfl))) ?_
        show (false || !decide (V.int _ = V.int 3)) = true
        have hl := hs.len
        rw [Bool.false_or, Bool.not_eq_true', decide_eq_false_iff_not]
        intro z
        injection z with z
        apply c
        rename_i xs ds
        match ds, hs with
        | [_, _, _], _ => exact ⟨_, _, _, rfl⟩
        | [], _ => have hl' : xs.length = 0 := hl; omega
        | [_], _ => have hl' : xs.length = 1 := hl; omega
        | [_, _], _ => have hl' : xs.length = 2 := hl; omega
        | _ :: _ :: _ :: _ :: r, _ => have hl' : xs.length = r.length + 1 + 1 + 1 + 1 := hl; omega
      | _ => exact et_is (et_or (b := false) (et_not (et_B e1)) fun z => nomatch z) rfl

end
end Sg
namespace Sg
set_option autoImplicit false
open PySem L2 Evl Big
open PyProof.Rows (envOfC)
section
variable {P : Program} {w : World} {K : PySem.W.Frag} {mg : Str → Option Value} {base : Heap} {ad : Ads}
/-- the roads of a land, as pairs -/
def rdD (p : Int × Int) : PyData := .tuple [.int p.1, .int p.2]
/-- one sign: none, or along a road -/
def signD (n : Int) (rs : List (Int × Int)) (p : Nat) (d : PyData) : Bool :=
  match d with
  | .none => true
  | .int i => (decide (0 ≤ i) && decide (i < n)) && decide (((p : Int), i) ∈ rs)
  | _ => false
def iOf : PyData → Int
  | .int i => i
  | _ => 0
def isNoneD : PyData → Bool
  | .none => true
  | _ => false
def signsD (n h : Int) (rs : List (Int × Int)) : PyData → Bool
  | .list ds => decide ((ds.length : Int) = n) && (((ds[h.toNat]?).map isNoneD).getD false && (List.range ds.length).all fun p => signD n rs p (ds.getD p .none))
  | _ => false
/-- roads at an address -/
def RoadsAt (K : PySem.W.Frag) (H : Hp) (r : Addr) (rs : List (Int × Int)) : Prop := ∃ ks : List (Addr × List Int), SqL K H r (ks.map fun p => V.ref p.1) ∧ (∀ p ∈ ks, SqT K H p.1 (p.2.map V.int)) ∧ ks.map (·.2) = rs.map fun q => [q.1, q.2]
theorem RoadsAt.mono {H H' : Hp} {r : Addr} {rs : List (Int × Int)} (e : Ex H H') (h : RoadsAt K H r rs) : RoadsAt K H' r rs := by
  obtain ⟨ks, h1, h2, h3⟩ := h
  exact ⟨ks, ex_l e h1, fun p hp => ex_t e (h2 p hp), h3⟩
/-- a land as its three parts -/
structure LandAt (K : PySem.W.Frag) (H : Hp) (v : V) (n h : Int) (rs : List (Int × Int)) : Prop where
  ex : ∃ a r, v = .ref a ∧ SqT K H a [.int n, .int h, .ref r] ∧ RoadsAt K H r rs
theorem LandAt.mono {H H' : Hp} {v : V} {n h : Int} {rs : List (Int × Int)} (e : Ex H H') (x : LandAt K H v n h rs) : LandAt K H' v n h rs := by
  obtain ⟨a, r, h1, h2, h3⟩ := x.ex
  exact ⟨a, r, h1, ex_t e h2, h3.mono e⟩
def sp_are_signs (K : PySem.W.Frag) : Sp := fun vs H Q _ => ∃ lv n h rs v d, vs = [lv, v] ∧ LandAt K H lv n h rs ∧ 0 ≤ h ∧ h < n ∧ rs.length ≤ 300 ∧ Da K H v d ∧ RetV (.bl (signsD n h rs d)) H Q
theorem pair_mem {ks : List (Addr × List Int)} {rs : List (Int × Int)} (e : ks.map (·.2) = rs.map fun q => [q.1, q.2]) (x y : Int) : [x, y] ∈ ks.map (·.2) ↔ (x, y) ∈ rs := by
  rw [e, List.mem_map]
  constructor
  · rintro ⟨⟨a, b⟩, hm, hq⟩
    have : a = x ∧ b = y := by simpa using hq
    rw [← this.1, ← this.2]; exact hm
  · intro hm; exact ⟨(x, y), hm, rfl⟩
theorem ok_are_signs (T : Txt K mg ad) : C8.Cal P w K mg base 3 "are_signs" (sp_are_signs K) [] := by
  have c_is_place : C8.Cal P w K mg base 2 "is_place" (sp_is_place K) [] := ok_is_place T
  refine cal_of T.d_are_signs sc_are_signs (fun _ _ _ _ _ _ us hl => match us, hl with | [_, _], _ => rfl) (fun vs H Q E h => ?_) (fun f cdv A outer s H vs Q E hr h => ?_)
  · obtain ⟨lv, n, h, rs, v, d, rfl, _⟩ := h; rfl
  · obtain ⟨lv, n, h, rs, v, d, rfl, hL, h0, hn, hrs, hd, k⟩ := h
    have hu65 := hu65_of hr
    refine ⟨_, (pss_cons (ps_asg (pv 0) (k_gt K (n := 3) (by rfl) (pgs_cons (pg_name (i := 2) sc_are_signs.nd rfl (Or.inl rfl)) (pgs_cons (pg_name (i := 3) sc_are_signs.nd rfl (Or.inl rfl)) (pgs_cons (pg_name (i := 4) sc_are_signs.nd rfl (Or.inl rfl)) pgs_nil)))))
  (pss_cons (ps_if (PW.pt (pw_or (pt_not (pt_val (pe_callB (k_isi K) (by rfl) T.n_isinstance (by decide +kernel) (pa_cons (pv 1) (pa_cons (pe_bltn (v := .ty "list") (by rfl) T.n_list (by decide +kernel) rfl) pa_nil))))) (pw_or (pt_cmpR op_ne (pe_callB (k_len K) (by rfl) T.n_len PySem.boot_len (pa_cons (pv 1) pa_nil)) (pv 2) (nomark _)) (pw_or1 (pt_cmpR op_notN (pe_ix (k_list K) (pv 1) (pv 3) (fun _ _ => rfl)) pe_non (nomark _)))))) (pss_one (ps_ret pe_bl)) pss_nil)
  (pss_cons (ps_set (i := 5) sc_are_signs.nd rfl (Or.inl rfl) (pe_callTy (k_set K P w rfl hu65) (by rfl) T.n_set (by decide +kernel) (pa_cons (pv 4) pa_nil)))
  (pss_cons (ps_for PassesOwn.never rfl (pi_enum rfl T.n_enumerate (pa_cons (pv 1) pa_nil)) (k_gt K (n := 2) (by rfl) (pgs_cons (pg_name (i := 6) sc_are_signs.nd rfl (Or.inl rfl)) (pgs_cons (pg_name (i := 7) sc_are_signs.nd rfl (Or.inl rfl)) pgs_nil)))
    (pss_one (ps_if (PW.pt (pw_and (pt_cmpR op_notN (pv 7) pe_non (nomark _)) (pw_and1 (pt_not (PW.pt (pw_and (pt_val (C8.pe_c c_is_place hr (by decide) rfl (pa_cons (pv 2) (pa_cons (pv 7) pa_nil)))) (pw_and1 (pt_cmpR (k_inT K P w hu65) (pe_tup (pa_cons (pv 6) (pa_cons (pv 7) pa_nil))) (pv 5) (by rfl))))))))) (pss_one (ps_ret pe_bl)) pss_nil)))
  (pss_one (ps_ret pe_bl)))))), ?_⟩
    obtain ⟨la, r, rfl, hT, hR⟩ := hL.ex
    refine q_unp3 (Post := fun p H2 => p = .ref la) (evp_of (ev_var rfl) fun _ _ => rfl) fun p H1 a1 hp => ⟨_, _, _, _, hp, ex_t a1 hT, ?_⟩
    have a1L : LandAt K H1 (.ref la) n h rs := ⟨la, r, rfl, ex_t a1 hT, hR.mono a1⟩
    have e1 : ∀ {σ : L2.St} {H2 : Hp}, σ[1]? = some (some v) → Ex H H2 → Ev (tCB (rIsi K) (tCons (tVar 1) (tCons (tC (.ty "list")) tNil))) σ H2 (.bl (isT "list" d)) := fun hi a => ev_isi (ev_var hi) (hd.mono a) (kit_list d)
    by_cases c : ∃ ds, d = .list ds ∧ ((ds.length : Int) = n ∧ ((ds[h.toNat]?).map isNoneD).getD false = true)
    · obtain ⟨ds, rfl, hlen, hhome⟩ := c
      cases hd with
      | @lst a xs _ hS hs =>
        obtain ⟨l, rfl, rfl, hl⟩ := hs.zip
        have hl2 : (l.map (·.1)).length = l.length := List.length_map ..
        have hl3 : (l.length : Int) = n := by simpa using hlen
        have hat : (l.map (·.1))[h.toNat]? = some .non := by
          have hi : h.toNat < l.length := by omega
          have e := List.getElem?_eq_getElem hi
          have hm := List.getElem_mem hi
          generalize l[h.toNat] = p at e hm
          rw [List.getElem?_map, e] at hhome
          have hda := hl p hm
          obtain ⟨pv, pd⟩ := p
          have hhome' : isNoneD pd = true := hhome
          cases pd with
          | none =>
            cases hda
            rw [List.getElem?_map, e]; rfl
          | _ => cases hhome'
        refine q_when (b := false) (et_is (et_or (et_not (et_B (e1 rfl a1))) fun _ => et_or (et_test (ev_op (ev_len (ev_var rfl) (ex_l a1 hS)) (ev_var rfl) (rv_ne rfl))) fun _ => et_test (ev_op (ev_op (ev_var rfl) (ev_var rfl) (rv_ixL (ex_l a1 hS) (at_of (j := h.toNat) (by omega) hat))) ev_c rv_notN)) ?_) (fun z => nomatch z) fun _ H2 a2 => ?_
        · rw [hl2, hl3]
          simp [isT, tyName]
        obtain ⟨ks, k1, k2, k3⟩ := hR
        have klen : ks.length ≤ 300 := by
          have := congrArg List.length k3
          simp only [List.length_map] at this
          omega
        have a12 := a1.trans a2
        refine q_asgP (evp_set ks (ev_var rfl) (ex_l a12 k1) (fun p hp => ex_t a12 (k2 p hp)) klen) fun _ H3 a3 ⟨sa, L, e2, hf, hs3, g1, g2⟩ => ?_
        subst e2
        have a13 := a12.trans a3
        have mem : ∀ (p i : Int), (decide ([p, i] ∈ L.map (·.2)) = decide ((p, i) ∈ rs)) := by
          intro p i
          have e : [p, i] ∈ L.map (·.2) ↔ (p, i) ∈ rs := by
            rw [← pair_mem k3]
            constructor
            · intro m
              obtain ⟨q, hq, e⟩ := List.mem_map.mp m
              exact List.mem_map.mpr ⟨q, g1 q hq, e⟩
            · intro m
              obtain ⟨q, hq, e⟩ := List.mem_map.mp m
              rw [← e]
              exact g2 q hq
          exact decide_eq_decide.mpr e
        have full : signsD n h rs (.list (l.map (·.2))) = (List.range l.length).all fun p => signD n rs p ((l.map (·.2)).getD p .none) := by
          show (decide (((l.map (·.2)).length : Int) = n) && ((((l.map (·.2))[h.toNat]?).map isNoneD).getD false && _)) = _
          rw [hhome, decide_eq_true hlen, List.length_map]
          rfl
        refine q_forE l (·.1) (ea_cons (ev_var rfl) ea_nil) (ex_l a13 hS)
          (fun i σ' H' => Ex H3 H' ∧ (∃ x y, σ' = [some (.ref la), some (.ref a), some (.int n), some (.int h), some (.ref r), some (.ref sa), x, y]) ∧ ∀ j, j < i → signD n rs j ((l.map (·.2)).getD j .none) = true)
          (fun H4 a4 => ⟨a4, ⟨_, _, rfl⟩, fun j hj => absurd hj (Nat.not_lt_zero _)⟩) (fun i σ' H' _ pv => ex_l (a13.trans pv.1) hS) (fun i σ' H' H2 e pv => ⟨pv.1.trans e, pv.2⟩) ?_ ?_
        · rintro i p σ' H' hp ⟨b1, ⟨x, y, rfl⟩, hall⟩
          have hda := (hl p (List.mem_of_getElem? hp)).mono (a13.trans b1)
          have hget : (l.map (·.2)).getD i .none = p.2 := by
            rw [List.getD_eq_getElem?_getD, List.getElem?_map, hp]; rfl
          refine s_when (b := !signD n rs i p.2) (et_is (et_and (et_test (ev_op (ev_var (i := 7) rfl) ev_c rv_notN)) fun _ => et_not (et_and (et_B (ev_call (sp := sp_is_place K) (dvs := []) (E := C8.E0) (ea_cons (ev_var (i := 2) rfl) (ea_cons (ev_var (i := 7) rfl) ea_nil)) fun H4 a Q q E => ⟨n, _, _, rfl, hda.mono a, q⟩)) fun hpl =>
              et_test (b := decide ([(i : Int), iOf p.2] ∈ L.map (·.2))) (ev_opU1 (r := rInT K P w false) (eu_tup (ea_cons (ev_var (i := 6) rfl) (ea_cons (ev_var (i := 7) rfl) ea_nil)) (by show 2 ≤ 100000; decide)) (fun _ _ => ev_var (i := 5) rfl) fun t H4 ht e4 => ?inn))) ?val) (fun hb H4 a4 => ?bad) (fun hb H4 a4 => ?good)
          case inn =>
            obtain ⟨q, eq, _⟩ := placeD_int hpl
            intro H5 a5 Q qq
            have hp1 : p.1 = .int q := by
              rw [eq] at hda
              generalize p.1 = pv at hda
              cases hda
              rfl
            refine ⟨t, sa, [(i : Int), iOf p.2], L, rfl, rfl, ?_, a5 _ _ (e4 _ _ (b1 _ _ hs3)), fun q2 hq2 => ex_t (((a13.trans b1).trans e4).trans a5) (k2 q2 (g1 q2 hq2)), qq H5 (Ex.refl _)⟩
            have z := a5 _ _ ht
            rw [hp1] at z
            rw [eq]
            exact st_of z
          case val =>
            rw [mem]
            cases hd2 : p.2 with
            | none =>
              rw [hd2] at hda
              generalize p.1 = pv at hda
              cases hda
              rfl
            | int q =>
              rw [hd2] at hda
              generalize p.1 = pv at hda
              cases hda
              rfl
            | _ =>
              rw [hd2] at hda
              generalize p.1 = pv at hda
              cases hda <;> rfl
          case bad =>
            refine s_ret ev_c fun H5 a5 => ?_
            have ev : signsD n h rs (.list (l.map (·.2))) = false := by
              rw [full, List.all_eq_false]
              refine ⟨i, List.mem_range.mpr (List.getElem?_eq_some_iff.mp hp).1, ?_⟩
              rw [hget]
              simpa using hb
            rw [← ev]
            exact RetV.go k (((a13.trans b1).trans a4).trans a5)
          case good =>
            refine ⟨b1.trans a4, ⟨_, _, rfl⟩, fun j hj => ?_⟩
            by_cases z : j < i
            · exact hall j z
            · have : j = i := by omega
              subst this
              rw [hget]
              simpa using hb
        · rintro σ' H' ⟨b1, ⟨x, y, rfl⟩, hall⟩
          refine s_ret ev_c fun H4 a4 => ?_
          have ev : signsD n h rs (.list (l.map (·.2))) = true := by
            rw [full, List.all_eq_true]
            intro j hj
            exact hall j (List.mem_range.mp hj)
          rw [← ev]
          exact RetV.go k ((a13.trans b1).trans a4)
    · have no : signsD n h rs d = false := by
        unfold signsD
        split
        · rename_i ds
          by_cases c1 : (ds.length : Int) = n
          · have c2 : ((ds[h.toNat]?).map isNoneD).getD false = false := by
              cases z : ((ds[h.toNat]?).map isNoneD).getD false with
              | false => rfl
              | true => exact absurd ⟨ds, rfl, c1, z⟩ c
            rw [c2, Bool.false_and, Bool.and_false]
          · rw [decide_eq_false c1, Bool.false_and]
        · rfl
      rw [no] at k
      refine q_when (b := true) ?_ (fun _ H2 a2 => s_ret ev_c fun H3 a3 => RetV.go k ((a1.trans a2).trans a3)) (fun z => nomatch z)
      cases hd with
      | @lst a xs ds hS hs =>
        have hl := hs.len
        by_cases c1 : (ds.length : Int) = n
        · obtain ⟨x, hx⟩ : ∃ x, xs[h.toNat]? = some x := ⟨_, List.getElem?_eq_getElem (by omega)⟩
          obtain ⟨dx, hdx, hda⟩ := hs.at_ hx
          refine et_is (et_or (et_not (et_B (e1 rfl a1))) fun _ => et_or (et_test (ev_op (ev_len (ev_var rfl) (ex_l a1 hS)) (ev_var rfl) (rv_ne rfl))) fun _ => et_test (ev_op (ev_op (ev_var rfl) (ev_var rfl) (rv_ixL (ex_l a1 hS) (at_of (j := h.toNat) (by omega) hx))) ev_c rv_notN)) ?_
          have hn : isNoneD dx = false := by
            cases z : isNoneD dx with
            | false => rfl
            | true => exact absurd ⟨ds, rfl, c1, by rw [hdx]; exact z⟩ c
          have hne : decide (x = V.non) = false := by
            refine decide_eq_false fun z => ?_
            subst z
            cases hda
            cases hn
          rw [hne]
          simp
        · have hne : (!decide (V.int (xs.length : Int) = V.int n)) = true := by
            have : ¬ (V.int (xs.length : Int) = V.int n) := by
              intro z
              injection z with z
              omega
            rw [decide_eq_false this]
            rfl
          exact et_is (et_or (b := true) (et_not (et_B (e1 rfl a1))) fun _ => et_or (a := true) (b := false) (et_is (et_test (ev_op (ev_len (ev_var rfl) (ex_l a1 hS)) (ev_var rfl) (rv_ne rfl))) hne) fun z => nomatch z) rfl
      | _ => exact et_is (et_or (b := false) (et_not (et_B (e1 rfl a1))) fun z => nomatch z) rfl

end
end Sg
namespace Sg
set_option autoImplicit false
open PySem L2 Evl Big
open PyProof.Rows (envOfC)
section
variable {P : Program} {w : World} {K : PySem.W.Frag} {mg : Str → Option Value} {base : Heap} {ad : Ads}
/-- a land and signs, as data -/
def landDat (n h : Int) (rs : List (Int × Int)) : PyData := .tuple [.int n, .int h, .list (rs.map rdD)]
def LandOk (n h : Int) (rs : List (Int × Int)) : Prop := landD (landDat n h rs) = true
def nV : Option Nat → V
  | none => .non
  | some q => .int (q : Int)
def nD : Option Nat → PyData
  | none => .none
  | some q => .int (q : Int)
theorem da_n {H : Hp} (o : Option Nat) : Da K H (nV o) (nD o) := by cases o <;> constructor
theorem da_signs {H : Hp} {a : Addr} {s : List (Option Nat)} (h : SqL K H a (s.map nV)) : Da K H (.ref a) (.list (s.map nD)) := .lst h (DaAll.map _ _ s fun x _ => da_n x)
theorem dp_n {H : Hp} : ∀ (s : List (Option Nat)), DpAll K H (s.map nV) (s.map nD)
  | [] => .nil
  | none :: l => .cons .non (dp_n l)
  | some i :: l => .cons (.int i) (dp_n l)
theorem LandAt.da {H : Hp} {v : V} {n h : Int} {rs : List (Int × Int)} (x : LandAt K H v n h rs) : Da K H v (landDat n h rs) := by
  obtain ⟨a, r, rfl, hT, ks, k1, k2, k3⟩ := x.ex
  refine .tup hT (.cons (.int n) (.cons (.int h) (.cons (.lst k1 ?_) .nil)))
  have e : rs.map rdD = ks.map fun p => .tuple (p.2.map .int) := by
    have : (ks.map (·.2)).map (fun l => PyData.tuple (l.map .int)) = (rs.map fun q => [q.1, q.2]).map (fun l => PyData.tuple (l.map .int)) := by rw [k3]
    rw [List.map_map, List.map_map] at this
    exact this.symm
  rw [e]
  exact DaAll.map _ _ ks fun p hp => .tup (k2 p hp) (da_ints p.2)
structure LandOk' (n h : Int) (rs : List (Int × Int)) : Prop where
  n1 : 1 ≤ n
  n40 : n ≤ 40
  h0 : 0 ≤ h
  hn : h < n
  few : rs.length ≤ 120
  rd : ∀ p ∈ rs, 0 ≤ p.1 ∧ p.1 < n ∧ 0 ≤ p.2 ∧ p.2 < n ∧ p.1 ≠ p.2
theorem LandOk.all {n h : Int} {rs : List (Int × Int)} (x : LandOk n h rs) : LandOk' n h rs := by
  have x' : ((decide (1 ≤ n) && decide (n ≤ 40)) && (placeD n (.int h) && roadsD n (.list (rs.map rdD)))) = true := x
  simp only [placeD, roadsD, Bool.and_eq_true, decide_eq_true_eq, List.length_map, List.all_map, List.all_eq_true] at x'
  obtain ⟨⟨a1, a2⟩, ⟨a3, a4⟩, a5, a6, a7⟩ := x'
  refine ⟨a1, a2, a3, a4, a5, fun p hp => ?_⟩
  have q := a6 p hp
  have q' : roadD n (rdD p) = true := q
  obtain ⟨i, j, e, b1, b2, b3, b4, b5⟩ := roadD_pr q'
  have e' : PyData.tuple [.int p.1, .int p.2] = .tuple [.int i, .int j] := e
  injection e' with e'
  injection e' with e1 e'
  injection e1 with e1
  injection e' with e2 e'
  injection e2 with e2
  rw [e1, e2]
  exact ⟨b1, b2, b3, b4, b5⟩
def SignsOk (n h : Int) (rs : List (Int × Int)) (s : List (Option Nat)) : Prop := signsD n h rs (.list (s.map nD)) = true
structure SignsOk' (n h : Int) (rs : List (Int × Int)) (s : List (Option Nat)) : Prop where
  wf : Wf n.toNat s
  len : (s.length : Int) = n
  home : nx s h.toNat = none
  along : ∀ p q : Nat, nx s p = some q → ((p : Int), (q : Int)) ∈ rs
theorem nD_get (s : List (Option Nat)) (p : Nat) : (s.map nD).getD p .none = nD (nx s p) := by
  rw [List.getD_eq_getElem?_getD, List.getElem?_map]
  unfold nx
  cases s[p]? with
  | none => rfl
  | some o => rfl
theorem SignsOk.all {n h : Int} {rs : List (Int × Int)} {s : List (Option Nat)} (x : SignsOk n h rs s) : SignsOk' n h rs s := by
  have x' : (decide (((s.map nD).length : Int) = n) && ((((s.map nD)[h.toNat]?).map isNoneD).getD false && (List.range (s.map nD).length).all fun p => signD n rs p ((s.map nD).getD p .none))) = true := x
  simp only [Bool.and_eq_true, decide_eq_true_eq, List.length_map, List.all_eq_true, List.mem_range] at x'
  obtain ⟨a1, a2, a3⟩ := x'
  have al : ∀ p q : Nat, nx s p = some q → (q : Int) < n ∧ ((p : Int), (q : Int)) ∈ rs := by
    intro p q e
    have z := a3 p (nx_lt e)
    rw [nD_get, e] at z
    simp only [nD, signD, Bool.and_eq_true, decide_eq_true_eq] at z
    exact ⟨z.1.2, z.2⟩
  refine ⟨⟨by omega, fun p q e => by have := (al p q e).1; omega⟩, a1, ?_, fun p q e => (al p q e).2⟩
  rw [List.getElem?_map] at a2
  unfold nx
  cases z : s[h.toNat]? with
  | none => rfl
  | some o =>
    rw [z] at a2
    cases o with
    | none => rfl
    | some q => simp [nD, isNoneD] at a2
theorem signsOk_mk {n h : Int} {rs : List (Int × Int)} {s : List (Option Nat)} (hl : (s.length : Int) = n) (h0 : 0 ≤ h) (hn : h < n) (hh : nx s h.toNat = none) (al : ∀ p q : Nat, nx s p = some q → (q : Int) < n ∧ ((p : Int), (q : Int)) ∈ rs) : SignsOk n h rs s := by
  show (decide (((s.map nD).length : Int) = n) && ((((s.map nD)[h.toNat]?).map isNoneD).getD false && (List.range (s.map nD).length).all fun p => signD n rs p ((s.map nD).getD p .none))) = true
  simp only [Bool.and_eq_true, decide_eq_true_eq, List.length_map, List.all_eq_true, List.mem_range]
  refine ⟨hl, ?_, fun p hp => ?_⟩
  · rw [List.getElem?_map, nx_get (show h.toNat < s.length by omega), hh]
    rfl
  · rw [nD_get]
    cases e : nx s p with
    | none => rfl
    | some q =>
      obtain ⟨b1, b2⟩ := al p q e
      simp only [nD, signD, Bool.and_eq_true, decide_eq_true_eq]
      exact ⟨⟨by omega, b1⟩, b2⟩
/-- a land stands, and signs of it -/
structure Given (K : PySem.W.Frag) (H : Hp) (lv sv : V) (n h : Int) (rs : List (Int × Int)) (s : List (Option Nat)) : Prop where
  land : LandAt K H lv n h rs
  ok : LandOk n h rs
  signs : ∃ a, sv = .ref a ∧ SqL K H a (s.map nV)
  sok : SignsOk n h rs s
theorem Given.mono {H H' : Hp} {lv sv : V} {n h : Int} {rs : List (Int × Int)} {s : List (Option Nat)} (e : Ex H H') (g : Given K H lv sv n h rs s) : Given K H' lv sv n h rs s := by
  obtain ⟨a, ea, ha⟩ := g.signs
  exact ⟨g.land.mono e, g.ok, ⟨a, ea, ex_l e ha⟩, g.sok⟩

end
end Sg
namespace Sg
set_option autoImplicit false
open PySem L2 Evl Big
open PyProof.Rows (envOfC)
section
variable {P : Program} {w : World} {K : PySem.W.Frag} {mg : Str → Option Value} {base : Heap} {ad : Ads}
def sp_need_land (K : PySem.W.Frag) : Sp := fun vs H Q _ => ∃ v d, vs = [v] ∧ Da K H v d ∧ landD d = true ∧ RetV .non H Q
theorem ok_need_land (T : Txt K mg ad) : C8.Cal P w K mg base 6 "need_land" (sp_need_land K) [] := by
  have c_is_land : C8.Cal P w K mg base 5 "is_land" (sp_is_land K) [] := ok_is_land T
  refine cal_of T.d_need_land sc_need_land (fun _ _ _ _ _ _ us hl => match us, hl with | [_], _ => rfl) (fun vs H Q E h => ?_) (fun f cdv A outer s H vs Q E hr h => ?_)
  · obtain ⟨v, d, rfl, _⟩ := h; rfl
  · obtain ⟨v, d, rfl, hd, hb, k⟩ := h
    refine ⟨_, (pss_one (ps_if (pt_not (pt_val (C8.pe_c c_is_land hr (by decide) rfl (pa_cons (pv 0) pa_nil)))) (pss_one ps_never) pss_nil)), ?_⟩
    exact s_when (b := false) (et_is (et_not (et_B (ev_call (ea_cons (ev_var rfl) ea_nil) fun H1 a Q q E => ⟨v, d, rfl, hd.mono a, q⟩))) (by rw [hb]; rfl)) (fun z => nomatch z) fun _ H1 a1 => k H1 a1
def sp_need_signs (K : PySem.W.Frag) : Sp := fun vs H Q _ => ∃ lv n h rs v d, vs = [lv, v] ∧ LandAt K H lv n h rs ∧ 0 ≤ h ∧ h < n ∧ rs.length ≤ 300 ∧ Da K H v d ∧ signsD n h rs d = true ∧ RetV .non H Q
theorem ok_need_signs (T : Txt K mg ad) : C8.Cal P w K mg base 4 "need_signs" (sp_need_signs K) [] := by
  have c_are_signs : C8.Cal P w K mg base 3 "are_signs" (sp_are_signs K) [] := ok_are_signs T
  refine cal_of T.d_need_signs sc_need_signs (fun _ _ _ _ _ _ us hl => match us, hl with | [_, _], _ => rfl) (fun vs H Q E h => ?_) (fun f cdv A outer s H vs Q E hr h => ?_)
  · obtain ⟨lv, n, h, rs, v, d, rfl, _⟩ := h; rfl
  · obtain ⟨lv, n, h, rs, v, d, rfl, hL, h0, hn, hrs, hd, hb, k⟩ := h
    refine ⟨_, (pss_one (ps_if (pt_not (pt_val (C8.pe_c c_are_signs hr (by decide) rfl (pa_cons (pv 0) (pa_cons (pv 1) pa_nil))))) (pss_one ps_never) pss_nil)), ?_⟩
    exact s_when (b := false) (et_is (et_not (et_B (ev_call (ea_cons (ev_var rfl) (ea_cons (ev_var rfl) ea_nil)) fun H1 a Q q E => ⟨lv, n, h, rs, v, d, rfl, hL.mono a, h0, hn, hrs, hd.mono a, q⟩))) (by rw [hb]; rfl)) (fun z => nomatch z) fun _ H1 a1 => k H1 a1
def sp_need_place (K : PySem.W.Frag) : Sp := fun vs H Q _ => ∃ lv n h rs v d, vs = [lv, v] ∧ LandAt K H lv n h rs ∧ Da K H v d ∧ placeD n d = true ∧ RetV .non H Q
theorem ok_need_place (T : Txt K mg ad) : C8.Cal P w K mg base 3 "need_place" (sp_need_place K) [] := by
  have c_is_place : C8.Cal P w K mg base 2 "is_place" (sp_is_place K) [] := ok_is_place T
  refine cal_of T.d_need_place sc_need_place (fun _ _ _ _ _ _ us hl => match us, hl with | [_, _], _ => rfl) (fun vs H Q E h => ?_) (fun f cdv A outer s H vs Q E hr h => ?_)
  · obtain ⟨lv, n, h, rs, v, d, rfl, _⟩ := h; rfl
  · obtain ⟨lv, n, h, rs, v, d, rfl, hL, hd, hb, k⟩ := h
    obtain ⟨la, r, rfl, hT, hR⟩ := hL.ex
    refine ⟨_, (pss_one (ps_if (pt_not (pt_val (C8.pe_c c_is_place hr (by decide) rfl (pa_cons (pe_ix (k_tup K) (pv 0) pe_int (fun _ _ => rfl)) (pa_cons (pv 1) pa_nil))))) (pss_one ps_never) pss_nil)), ?_⟩
    exact s_when (b := false) (et_is (et_not (et_B (ev_call (ea_cons (ev_op (ev_var rfl) ev_c (rv_ixT hT (atI_nat (j := 0) rfl))) (ea_cons (ev_var rfl) ea_nil)) fun H1 a Q q E => ⟨n, v, d, rfl, hd.mono a, q⟩))) (by rw [hb]; rfl)) (fun z => nomatch z) fun _ H1 a1 => k H1 a1
def sp_need_walk (K : PySem.W.Frag) : Sp := fun vs H Q _ => ∃ lv sv n h rs s p, vs = [lv, sv, .int p] ∧ Given K H lv sv n h rs s ∧ 0 ≤ p ∧ p < n ∧ RetV .non H Q
theorem ok_need_walk (T : Txt K mg ad) : C8.Cal P w K mg base 7 "need_walk" (sp_need_walk K) [] := by
  have c_need_land : C8.Cal P w K mg base 6 "need_land" (sp_need_land K) [] := ok_need_land T
  have c_need_signs : C8.Cal P w K mg base 4 "need_signs" (sp_need_signs K) [] := ok_need_signs T
  have c_need_place : C8.Cal P w K mg base 3 "need_place" (sp_need_place K) [] := ok_need_place T
  refine cal_of T.d_need_walk sc_need_walk (fun _ _ _ _ _ _ us hl => match us, hl with | [_, _, _], _ => rfl) (fun vs H Q E h => ?_) (fun f cdv A outer s H vs Q E hr h => ?_)
  · obtain ⟨lv, sv, n, h, rs, s, p, rfl, _⟩ := h; rfl
  · obtain ⟨lv, sv, n, h, rs, s, p, rfl, g, p0, pn, k⟩ := h
    obtain ⟨sa, rfl, hS⟩ := g.signs
    have L := g.ok.all
    refine ⟨_, (pss_cons (ps_expr (C8.pe_c c_need_land hr (by decide) rfl (pa_cons (pv 0) pa_nil)))
  (pss_cons (ps_expr (C8.pe_c c_need_signs hr (by decide) rfl (pa_cons (pv 0) (pa_cons (pv 1) pa_nil))))
  (pss_one (ps_expr (C8.pe_c c_need_place hr (by decide) rfl (pa_cons (pv 0) (pa_cons (pv 2) pa_nil))))))), ?_⟩
    refine q_drop (ev_call (ea_cons (ev_var rfl) ea_nil) fun H1 a Q q E => ⟨_, _, rfl, g.land.da.mono a, g.ok, q⟩) fun H1 a1 => ?_
    refine q_drop (ev_call (ea_cons (ev_var rfl) (ea_cons (ev_var rfl) ea_nil)) fun H2 a Q q E => ⟨_, n, h, rs, _, _, rfl, g.land.mono (a1.trans a), L.h0, L.hn, by have := L.few; omega, (da_signs hS).mono (a1.trans a), g.sok, q⟩) fun H2 a2 => ?_
    refine s_drop (ev_call (ea_cons (ev_var rfl) (ea_cons (ev_var rfl) ea_nil)) fun H3 a Q q E => ⟨_, n, h, rs, _, _, rfl, g.land.mono ((a1.trans a2).trans a), .int p, ?_, q⟩) fun H3 a3 => k H3 ((a1.trans a2).trans a3)
    simp only [placeD, Bool.and_eq_true, decide_eq_true_eq]
    exact ⟨p0, pn⟩

end
end Sg
namespace Sg
set_option autoImplicit false
open PySem L2 Evl Big
open PyProof.Rows (envOfC)
section
variable {P : Program} {w : World} {K : PySem.W.Frag} {mg : Str → Option Value} {base : Heap} {ad : Ads}

/-- the dict of what has been met -/
def metK : Nat → List Nat → List (Key × V)
  | _, [] => []
  | i, a :: r => (Sum.inl (a : Int), V.int (i : Int)) :: metK (i + 1) r
theorem metK_snoc : ∀ (i : Nat) (met : List Nat) (a : Nat), metK i (met ++ [a]) = metK i met ++ [(Sum.inl (a : Int), V.int ((i + met.length : Nat) : Int))]
  | i, [], a => rfl
  | i, b :: r, a => by
    rw [List.cons_append, metK, metK_snoc, metK, List.cons_append, List.length_cons, show i + 1 + r.length = i + (r.length + 1) by omega]
theorem metK_len : ∀ (i : Nat) (met : List Nat), (metK i met).length = met.length
  | i, [] => rfl
  | i, b :: r => by rw [metK, List.length_cons, metK_len, List.length_cons]
theorem metK_keys : ∀ (i : Nat) (met : List Nat), ((metK i met).map fun kv => kV kv.1) = met.map natV
  | i, [] => rfl
  | i, b :: r => by rw [metK, List.map_cons, metK_keys, List.map_cons]; rfl
theorem metK_none : ∀ (i : Nat) (met : List Nat) (a : Nat), a ∉ met → valV (metK i met) (Sum.inl (a : Int)) = none
  | i, [], a, _ => rfl
  | i, b :: r, a, h => by
    rw [metK, valV_neg, metK_none (i + 1) r a fun z => h (List.mem_cons_of_mem _ z)]
    intro z
    injection z with z
    exact h (by rw [show a = b by omega]; exact List.mem_cons_self)
theorem metK_some : ∀ (i : Nat) (met : List Nat) (a : Nat), a ∈ met → valV (metK i met) (Sum.inl (a : Int)) = some (V.int ((i + met.idxOf a : Nat) : Int))
  | i, b :: r, a, h => by
    by_cases c : b = a
    · subst c
      rw [metK, valV_pos rfl, List.idxOf_cons_self]
      rfl
    · have hr : a ∈ r := by
        rcases List.mem_cons.mp h with z | z
        · exact absurd z.symm c
        · exact z
      have e : (b :: r).idxOf a = r.idxOf a + 1 := by
        rw [List.idxOf_cons, show (b == a) = false by simpa using c]
        rfl
      rw [metK, valV_neg, metK_some (i + 1) r a hr, e, show i + 1 + r.idxOf a = i + (r.idxOf a + 1) by omega]
      intro z
      injection z with z
      exact c (by omega)
/-- the places gone through, and the place of the way that the last sign shows -/
def WalkedAt (H : Hp) (s : List (Option Nat)) (p : Nat) (v : V) (H' : Hp) : Prop := ∃ t l, v = .ref t ∧ H t = none ∧ H l = none ∧ H' t = some (.tup [.ref l, nV (walkd s p).2]) ∧ H' l = some (.lst ((walkd s p).1.map natV))
def sp_walked (K : PySem.W.Frag) : Sp := fun vs H Q _ => ∃ a s n p, vs = [.ref a, natV p] ∧ SqL K H a (s.map nV) ∧ Wf n s ∧ p < n ∧ n ≤ 1000 ∧ Give H (WalkedAt H s p) Q
theorem sign_at {s : List (Option Nat)} {p : Nat} (h : p < s.length) : (s.map nV)[p]? = some (nV (nx s p)) := by
  rw [List.getElem?_map, nx_get h]; rfl
theorem ok_walked (T : Txt K mg ad) : C8.Cal P w K mg base 1 "walked" (sp_walked K) [] := by
  refine cal_of T.d_walked sc_walked (fun _ _ _ _ _ _ us hl => match us, hl with | [_, _], _ => rfl) (fun vs H Q E h => ?_) (fun f cdv A outer st H vs Q E hr h => ?_)
  · obtain ⟨a, s, n, p, rfl, _⟩ := h; rfl
  · obtain ⟨a, s, n, p, rfl, hS, w0, hp, hn, k⟩ := h
    have hu := hu_of hr
    refine ⟨_, (pss_cons (ps_set (i := 2) sc_walked.nd rfl (Or.inl rfl) pe_dnewK)
  (pss_cons (ps_set (i := 3) sc_walked.nd rfl (Or.inl rfl) (pv 1))
  (pss_cons (ps_while PassesOwn.never (PW.pt (pw_and (pt_cmpR op_notN (pv 3) pe_non (nomark _)) (pw_and1 (pt_cmp (pc_dnotin hu (pv 3) (pv 2))))))
    (pss_cons (ps_dput hu (pv 2) (pv 3) (pe_callB call_lenD (by rfl) T.n_len PySem.boot_len (pa_cons (pv 2) pa_nil)) rfl)
  (pss_one (ps_set (i := 3) sc_walked.nd rfl (Or.inl rfl) (pe_ix (k_list K) (pv 0) (pv 3) (fun _ _ => rfl))))))
  (pss_cons (ps_if (pt_cmpR op_isN (pv 3) pe_non (nomark _)) (pss_one (ps_ret (pe_tup (pa_cons (pe_callTy (call_list_dK rfl) (by rfl) T.n_list (by decide +kernel) (pa_cons (pv 2) pa_nil)) (pa_cons pe_non pa_nil))))) pss_nil)
  (pss_one (ps_ret (pe_tup (pa_cons (pe_callTy (call_list_dK rfl) (by rfl) T.n_list (by decide +kernel) (pa_cons (pv 2) pa_nil)) (pa_cons (pe_dget hu (pv 2) (pv 3) (fun _ _ => rfl)) pa_nil))))))))), ?_⟩
    have sl : s.length = n := w0.len
    refine q_asgP (Post := fun v H1 => ∃ d, v = .ref d ∧ H d = none ∧ H1 d = some (.dK [])) (fun H1 e Q q d hd => q _ _ (Ex.new hd) ⟨d, rfl, fresh_back e hd, upd_same⟩) fun _ H1 a1 ⟨d, e1, hd, hd1⟩ => ?_
    subst e1
    refine q_asg (ev_var rfl) fun H2 a2 => ?_
    refine q_while (fun m σ' H' => ∃ met at_, Met s p met at_ ∧ walkF s (s.length + 1 - met.length) met at_ = walkd s p ∧ m = s.length + 1 - met.length ∧ σ' = [some (.ref a), some (natV p), some (.ref d), some (nV at_)] ∧ Ex H H' ∧ H' d = some (.dK (metK 0 met)))
      (s.length + 1) ⟨[], some p, Met.start (by omega), rfl, rfl, rfl, a1.trans a2, a2 _ _ hd1⟩ ?_
    rintro m σ' H' ⟨met, at_, M, hw, rfl, rfl, b1, b2⟩
    have hml := M.len
    have hS' := ex_l b1 hS
    cases at_ with
    | none =>
      refine ⟨false, et_is (et_and (b := false) (et_test (ev_op (ev_var rfl) ev_c rv_notN)) fun z => nomatch z) rfl, (fun z => nomatch z), fun _ H3 a3 => ?_⟩
      refine q_when (b := true) (et_test (ev_op (ev_var rfl) ev_c rv_isN)) (fun _ H4 a4 => ?_) (fun z => nomatch z)
      have hd4 := a4 _ _ (a3 _ _ b2)
      refine ⟨.ref d, rfl, d, _, rfl, hd4, fun l hl => ⟨by show 2 ≤ sizeLine; decide, fun t ht => ?_⟩⟩
      rw [metK_keys] at ht ⊢
      have tl : t ≠ l := fun z => by rw [z, upd_same] at ht; cases ht
      have b4 := (b1.trans a3).trans a4
      have hl0 := fresh_back b4 hl
      have ht0 : H t = none := fresh_back b4 (by rw [upd_ne tl] at ht; exact ht)
      have e : walkd s p = (met, none) := by
        rw [← hw, show s.length + 1 - met.length = (s.length - met.length) + 1 by omega]
        rfl
      refine k _ _ ((b4.trans (Ex.new hl)).trans (Ex.new ht)) ⟨t, l, rfl, ht0, hl0, ?_, ?_⟩
      · rw [e]; exact upd_same
      · rw [e, upd_ne tl.symm]; exact upd_same
    | some x =>
      have hx : x < s.length := M.at_lt x rfl
      have tst : ∀ o, o = valV (metK 0 met) (Sum.inl (x : Int)) → EvT (tAnd (tTest (tOp (fun x y H Q => y = .non ∧ Q (.bl (!decide (x = .non))) H) (tVar 3) (tC .non))) (tB (tDNotIn (tVar 3) (tVar 2)))) [some (.ref a), some (natV p), some (.ref d), some (nV (some x))] H' (!o.isSome) := by
        rintro o rfl
        refine et_is (et_and (et_test (ev_op (ev_var rfl) ev_c rv_notN)) fun _ => et_B (fun H3 a3 Q q => ⟨_, rfl, _, rfl, d, _, rfl, DGet.k (k := Sum.inl (x : Int)) (a3 _ _ b2), q H3 (Ex.refl _)⟩)) ?_
        rfl
      by_cases c : x ∈ met
      · refine ⟨false, et_is (tst _ rfl) (by rw [metK_some 0 met x c]; rfl), (fun z => nomatch z), fun _ H3 a3 => ?_⟩
        refine q_when (b := false) (et_test (ev_op (ev_var rfl) ev_c rv_isN)) (fun z => nomatch z) fun _ H4 a4 => ?_
        have hd4 := a4 _ _ (a3 _ _ b2)
        refine ⟨.ref d, rfl, d, _, rfl, hd4, fun l hl => ?_⟩
        have hd5 : (upd H4 l (.lst ((metK 0 met).map fun kv => kV kv.1))) d = some (.dK (metK 0 met)) := Ex.new hl _ _ hd4
        have hg : DGet (upd H4 l (.lst ((metK 0 met).map fun kv => kV kv.1))) d (kV (Sum.inl (x : Int))) (some (natV (met.idxOf x))) := by
          have z := DGet.k (k := Sum.inl (x : Int)) hd5
          rw [metK_some 0 met x c, Nat.zero_add] at z
          exact z
        refine ⟨.ref d, rfl, .int x, rfl, d, _, rfl, hg, by show 2 ≤ sizeLine; decide, fun t ht => ?_⟩
        rw [metK_keys] at ht ⊢
        have tl : t ≠ l := fun z => by rw [z, upd_same] at ht; cases ht
        have b4 := (b1.trans a3).trans a4
        have hl0 := fresh_back b4 hl
        have ht0 : H t = none := fresh_back b4 (by rw [upd_ne tl] at ht; exact ht)
        have e : walkd s p = (met, some (met.idxOf x)) := by
          rw [← hw, show s.length + 1 - met.length = (s.length - met.length) + 1 by omega]
          unfold walkF
          rw [if_pos c]
        refine k _ _ ((b4.trans (Ex.new hl)).trans (Ex.new ht)) ⟨t, l, rfl, ht0, hl0, ?_, ?_⟩
        · rw [e]; exact upd_same
        · rw [e, upd_ne tl.symm]; exact upd_same
      · have hm2 := M.len_lt c
        refine ⟨true, et_is (tst _ rfl) (by rw [metK_none 0 met x c]; rfl), fun _ H3 a3 => ⟨fun σ2 H2 => ∃ met' at_, Met s p met' at_ ∧ walkF s (s.length + 1 - met'.length) met' at_ = walkd s p ∧ met'.length = met.length + 1 ∧ σ2 = [some (.ref a), some (natV p), some (.ref d), some (nV at_)] ∧ Ex H H2 ∧ H2 d = some (.dK (metK 0 met')), ?_, ?_⟩, (fun z => nomatch z)⟩
        · rintro σ2 H2 ⟨met', at_, c1, c2, c3, c4, c5, c6⟩
          exact ⟨_, by omega, met', at_, c1, c2, rfl, c4, c5, c6⟩
        · have hd3 := a3 _ _ b2
          refine ⟨.ref d, rfl, d, _, rfl, hd3, .ref d, rfl, .int x, rfl, d, _, rfl, DPut.k (k := Sum.inl (x : Int)) hd3 (by rw [metK_len]; exact sz_lt (by omega)), ?_⟩
          have b4 := Ex.mut (o := .dK (putK (metK 0 met) (Sum.inl (x : Int)) (.int ((metK 0 met).length : Int)))) (b1.trans a3) hd
          have keys : putK (metK 0 met) (Sum.inl (x : Int)) (.int ((metK 0 met).length : Int)) = metK 0 (met ++ [x]) := by
            rw [putK_new _ (metK_none 0 met x c), metK_snoc, metK_len, Nat.zero_add]
          rw [keys] at b4 ⊢
          refine s_asg (ev_op (ev_var rfl) (ev_var rfl) (rv_ixL (ex_l b4 hS) (at_of (j := x) rfl (sign_at hx)))) fun H5 a5 => ?_
          refine ⟨met ++ [x], nx s x, M.more w0 c, ?_, by rw [List.length_append]; rfl, rfl, b4.trans a5, a5 _ _ upd_same⟩
          rw [← hw, List.length_append, List.length_singleton, show s.length + 1 - met.length = (s.length + 1 - (met.length + 1)) + 1 by omega]
          conv => rhs; unfold walkF
          rw [if_neg c]

end
end Sg
namespace Sg
set_option autoImplicit false
open PySem L2 Evl Big
open PyProof.Rows (envOfC)
section
variable {P : Program} {w : World} {K : PySem.W.Frag} {mg : Str → Option Value} {base : Heap} {ad : Ads}
def bV : Option Bool → V
  | none => .non
  | some b => .bl b
/-- from q one comes to g -/
noncomputable def reachB (s : List (Option Nat)) (g q : Nat) : Bool := @decide (Reach s g q) (Classical.propDecidable _)
theorem reachB_iff {s : List (Option Nat)} {g q : Nat} : reachB s g q = true ↔ Reach s g q := by
  unfold reachB
  exact @decide_eq_true_iff _ (Classical.propDecidable _)
def ComingAt (H : Hp) (s : List (Option Nat)) (g : Nat) (v : V) (H' : Hp) : Prop := ∃ l, v = .ref l ∧ H l = none ∧ H' l = some (.lst ((List.range s.length).map fun q => V.bl (reachB s g q)))
def sp_coming (K : PySem.W.Frag) : Sp := fun vs H Q _ => ∃ a s n g, vs = [.ref a, natV g] ∧ SqL K H a (s.map nV) ∧ Wf n s ∧ g < n ∧ n ≤ 1000 ∧ Give H (ComingAt H s g) Q
theorem marks_start {s : List (Option Nat)} {g : Nat} (hg : g < s.length) : Marks s g ((List.replicate s.length none).set g (some true)) where
  len := by simp
  goal := List.getElem?_set_self (by simpa using hg)
  yes := fun q e => by
    by_cases c : g = q
    · subst c; exact reach_self s g
    · rw [List.getElem?_set_ne c, List.getElem?_replicate] at e
      split at e <;> cases e
  no := fun q e => by
    by_cases c : g = q
    · subst c
      rw [List.getElem?_set_self (by simpa using hg)] at e
      cases e
    · rw [List.getElem?_set_ne c, List.getElem?_replicate] at e
      split at e <;> cases e
theorem bV_get {kn : List (Option Bool)} {q : Nat} {o : Option Bool} (h : kn[q]? = some o) : (kn.map bV)[q]? = some (bV o) := by
  rw [List.getElem?_map, h]; rfl
/-- all marked -/
theorem marks_done {s : List (Option Nat)} {g : Nat} {kn : List (Option Bool)} (M : Marks s g kn) (h : ∀ q, q < s.length → kn[q]? ≠ some none) : kn.map bV = (List.range s.length).map fun q => V.bl (reachB s g q) := by
  apply List.ext_getElem?
  intro q
  by_cases hq : q < s.length
  · have hq' : q < kn.length := by rw [M.len]; exact hq
    have e := List.getElem?_eq_getElem hq'
    generalize kn[q] = o at e
    rw [bV_get e, List.getElem?_map, List.getElem?_range hq]
    show some (bV o) = some (V.bl (reachB s g q))
    cases o with
    | none => exact absurd e (h q hq)
    | some b =>
      cases b with
      | true => rw [reachB_iff.mpr (M.yes q e)]; rfl
      | false =>
        have : reachB s g q = false := by
          cases z : reachB s g q with
          | false => rfl
          | true => exact absurd (reachB_iff.mp z) (M.no q e)
        rw [this]; rfl
  · rw [List.getElem?_eq_none (by rw [List.length_map, M.len]; omega), List.getElem?_eq_none (by simp; omega)]
theorem ok_coming (T : Txt K mg ad) : C8.Cal P w K mg base 1 "coming" (sp_coming K) [] := by
  refine cal_of T.d_coming sc_coming (fun _ _ _ _ _ _ us hl => match us, hl with | [_, _], _ => rfl) (fun vs H Q E h => ?_) (fun f cdv A outer st H vs Q E hr h => ?_)
  · obtain ⟨a, s, n, g, rfl, _⟩ := h; rfl
  · obtain ⟨a, s, n, g, rfl, hS, w0, hg, hn, k⟩ := h
    refine ⟨_, (pss_cons (ps_set (i := 2) sc_coming.nd rfl (Or.inl rfl) (pe_op op_rep (pe_lst (pa_cons pe_non pa_nil)) (pe_callB (k_len K) (by rfl) T.n_len PySem.boot_len (pa_cons (pv 0) pa_nil))))
  (pss_cons (ps_asg pe_bl (pg_sub (pv 2) (pv 1) set_list))
  (pss_cons (ps_for PassesOwn.never rfl (pi_range1 rfl T.n_range (pa_cons (pe_callB (k_len K) (by rfl) T.n_len PySem.boot_len (pa_cons (pv 0) pa_nil)) pa_nil)) (pg_name (i := 3) sc_coming.nd rfl (Or.inl rfl))
    (pss_cons (ps_set (i := 4) sc_coming.nd rfl (Or.inl rfl) (pe_lst pa_nil))
  (pss_cons (ps_set (i := 5) sc_coming.nd rfl (Or.inl rfl) (pv 3))
  (pss_cons (ps_while PassesOwn.never (PW.pt (pw_and (pt_cmpR op_notN (pv 5) pe_non (nomark _)) (pw_and1 (pt_cmpR op_isN (pe_ix (k_list K) (pv 2) (pv 5) (fun _ _ => rfl)) pe_non (nomark _)))))
    (pss_cons (ps_asg pe_bl (pg_sub (pv 2) (pv 5) set_list))
  (pss_cons (ps_expr (pe_bm PySem.F.plainAttrs_list PySem.F.slot_list_append PySem.F.type_list_append mt_append (pv 4) (pa_cons (pv 5) pa_nil)))
  (pss_one (ps_set (i := 5) sc_coming.nd rfl (Or.inl rfl) (pe_ix (k_list K) (pv 0) (pv 5) (fun _ _ => rfl)))))))
  (pss_one (ps_if (PW.pt (pw_and (pt_cmpR op_notN (pv 5) pe_non (nomark _)) (pw_and1 (k_tru K (pe_ix (k_list K) (pv 2) (pv 5) (fun _ _ => rfl)))))) (pss_one (ps_for PassesOwn.never rfl (k_il K (pv 4)) (pg_name (i := 6) sc_coming.nd rfl (Or.inl rfl))
    (pss_one (ps_asg pe_bl (pg_sub (pv 2) (pv 6) set_list))))) pss_nil))))))
  (pss_one (ps_ret (pv 2)))))), ?_⟩
    have sl : s.length = n := w0.len
    have lenE : ∀ {σ : L2.St} {H1 : Hp}, σ[0]? = some (some (.ref a)) → Ex H H1 → Ev (tCB (rLenS K) (tCons (tVar 0) tNil)) σ H1 (.int (s.length : Int)) := fun h0 e => by
      have q := ev_len (K := K) (ta := tVar 0) (ev_var h0) (ex_l e hS)
      rwa [List.length_map] at q
    refine q_asgL (el_rep (lenE rfl (Ex.refl H)) (by omega)) fun l H1 hl a1 hl1 => ?_
    refine q_setL (j := g) (v := .bl true) hl1 ev_c (ev_var rfl) (ev_var rfl) (by simp; omega) fun H2 a2 => ?_
    have b2 := Ex.mut (o := .lst ((List.replicate s.length V.non).set g (.bl true))) (a1.trans a2) hl
    have e0 : (List.replicate s.length V.non).set g (V.bl true) = (((List.replicate s.length none).set g (some true)).map bV) := by
      rw [List.map_set, List.map_replicate]; rfl
    rw [e0] at b2 ⊢
    refine q_forR (ea_cons (lenE rfl b2) ea_nil) (by omega)
      (fun i σ' H' => ∃ kn x y z u, Marks s g kn ∧ (∀ q, q < i → kn[q]? ≠ some none) ∧ Ex H H' ∧ H' l = some (.lst (kn.map bV)) ∧ σ' = [some (.ref a), some (natV g), some (.ref l), x, y, z, u])
      (fun H3 a3 => ⟨_, _, _, _, _, marks_start (by omega), fun q hq => absurd hq (Nat.not_lt_zero _), b2.trans a3, a3 _ _ upd_same, rfl⟩) ?_ ?_
    · rintro i σ' H' hi ⟨kn, x, y, z, u, M, hm, c1, c2, rfl⟩
      have hi' : i < s.length := by omega
      refine q_asgL (el_lst ea_nil (by decide)) fun wl H3 hwl a3 hwl3 => ?_
      have wl0 : H wl = none := fresh_back c1 hwl
      have wll : wl ≠ l := fun z => by rw [z, c2] at hwl; cases hwl
      refine q_asg (ev_var (v := natV i) rfl) fun H4 a4 => ?_
      refine q_while (fun m σ2 H5 => ∃ way at_, Under s g kn way at_ ∧ (i ∈ way ∨ (way = [] ∧ at_ = some i)) ∧ m = s.length - way.length ∧ σ2 = [some (.ref a), some (natV g), some (.ref l), some (natV i), some (.ref wl), some (nV at_), u] ∧ Ex H H5 ∧ H5 l = some (.lst ((markAll kn (some false) way).map bV)) ∧ H5 wl = some (.lst (way.map natV)))
        s.length ⟨[], some i, Under.start hi', .inr ⟨rfl, rfl⟩, rfl, rfl, (c1.trans a3).trans a4, a4 _ _ (a3 _ _ c2), a4 _ _ hwl3⟩ ?_
      rintro m σ2 H5 ⟨way, at_, U, hway, rfl, rfl, d1, d2, d3⟩
      have mk := markAll_len (some false) way kn
      -- behind the loop: all of the way has its right marks
      have last : ∀ (v : Bool) σ2 H6, (∀ a ∈ way, (v = true → Reach s g a) ∧ (v = false → ¬ Reach s g a)) → (markAll kn (some v) way)[i]? ≠ some none → Ex H H6 → H6 l = some (.lst ((markAll kn (some v) way).map bV)) → (∃ x y z u, σ2 = [some (.ref a), some (natV g), some (.ref l), x, y, z, u]) →
          ∃ kn x y z u, Marks s g kn ∧ (∀ q, q < i + 1 → kn[q]? ≠ some none) ∧ Ex H H6 ∧ H6 l = some (.lst (kn.map bV)) ∧ σ2 = [some (.ref a), some (natV g), some (.ref l), x, y, z, u] := by
        rintro v σ2 H6 h1 h2 h3 h4 ⟨x, y, z, u, rfl⟩
        refine ⟨_, x, y, z, u, M.after U.unk h1, fun q hq => ?_, h3, h4, rfl⟩
        by_cases e : q = i
        · subst e; exact h2
        · have hql : q < kn.length := by rw [M.len]; omega
          rw [markAll_get _ _ _ _ hql]
          split
          · intro z; cases z
          · exact hm q (by omega)
      have imark : ∀ v : Bool, i ∈ way → (markAll kn (some v) way)[i]? ≠ some none := by
        intro v h
        rw [markAll_get _ _ _ _ (by rw [M.len]; exact hi'), if_pos h]
        intro z; cases z
      cases at_ with
      | none =>
        refine ⟨false, et_is (et_and (b := false) (et_test (ev_op (ev_var rfl) ev_c rv_notN)) fun z => nomatch z) rfl, (fun z => nomatch z), fun _ H6 a6 => ?_⟩
        refine s_when (b := false) (et_is (et_and (b := false) (et_test (ev_op (ev_var rfl) ev_c rv_notN)) fun z => nomatch z) rfl) (fun z => nomatch z) fun _ H7 a7 => ?_
        have hiw : i ∈ way := by
          rcases hway with h | ⟨_, h⟩
          · exact h
          · cases h
        exact last false _ _ (fun q hq => ⟨(fun z => nomatch z), fun _ => U.none_reach M (fun b e => nomatch e) q hq⟩) (imark false hiw) ((d1.trans a6).trans a7) (a7 _ _ (a6 _ _ d2)) ⟨_, _, _, _, rfl⟩
      | some x =>
        have hx : x < s.length := U.at_lt x rfl
        have hxk : x < (markAll kn (some false) way).length := by rw [mk, M.len]; exact hx
        obtain ⟨o, ho⟩ : ∃ o, (markAll kn (some false) way)[x]? = some o := ⟨_, List.getElem?_eq_getElem hxk⟩
        have ixE : ∀ {H6 : Hp}, Ex H5 H6 → Ev (tOp (rIxL K) (tVar 2) (tVar 5)) [some (.ref a), some (natV g), some (.ref l), some (natV i), some (.ref wl), some (nV (some x)), u] H6 (bV o) := fun a6 =>
          ev_op (ev_var rfl) (ev_var rfl) (rv_ixL (sq_of (a6 _ _ d2)) (at_of (j := x) rfl (bV_get ho)))
        cases o with
        | none =>
          have hlt := U.len_lt M.len ho
          obtain ⟨U2, emk⟩ := U.more w0 M.len ho
          refine ⟨true, et_is (et_and (et_test (ev_op (ev_var rfl) ev_c rv_notN)) fun _ => et_test (ev_op (ixE (Ex.refl _)) ev_c rv_isN)) rfl, fun _ H6 a6 => ⟨fun σ2 H5 => ∃ way' at_, Under s g kn way' at_ ∧ (i ∈ way' ∨ (way' = [] ∧ at_ = some i)) ∧ way'.length = way.length + 1 ∧ σ2 = [some (.ref a), some (natV g), some (.ref l), some (natV i), some (.ref wl), some (nV at_), u] ∧ Ex H H5 ∧ H5 l = some (.lst ((markAll kn (some false) way').map bV)) ∧ H5 wl = some (.lst (way'.map natV)), ?_, ?_⟩, (fun z => nomatch z)⟩
          · rintro σ3 H7 ⟨way', at_, e1, e2, e3, e4, e5⟩
            exact ⟨_, by omega, way', at_, e1, e2, rfl, e4, e5⟩
          · refine q_setL (j := x) (v := .bl false) (a6 _ _ d2) ev_c (ev_var rfl) (ev_var rfl) (by rw [List.length_map]; exact hxk) fun H7 a7 => ?_
            have e2 : ((markAll kn (some false) way).map bV).set x (V.bl false) = (markAll kn (some false) (way ++ [x])).map bV := by rw [emk, List.map_set]; rfl
            rw [e2]
            have f7 := Ex.mut (o := .lst ((markAll kn (some false) (way ++ [x])).map bV)) ((d1.trans a6).trans a7) hl
            have hw7 : (upd H7 l (.lst ((markAll kn (some false) (way ++ [x])).map bV))) wl = some (.lst (way.map natV)) := by
              rw [upd_ne wll]; exact a7 _ _ (a6 _ _ d3)
            refine q_app (K := K) (v := natV x) hw7 (ev_var rfl) (ev_var rfl) (by rw [List.length_map]; omega) fun H8 a8 => ?_
            have f8 := Ex.mut (o := .lst (way.map natV ++ [natV x])) (f7.trans a8) wl0
            refine s_asg (ev_op (ev_var rfl) (ev_var rfl) (rv_ixL (ex_l f8 hS) (at_of (j := x) rfl (sign_at hx)))) fun H9 a9 => ?_
            refine ⟨way ++ [x], nx s x, U2, .inl ?_, by rw [List.length_append]; rfl, rfl, f8.trans a9, a9 _ _ ?_, a9 _ _ ?_⟩
            · rcases hway with h | ⟨h, h2⟩
              · exact List.mem_append_left _ h
              · rw [Option.some.inj h2]; exact List.mem_append_right _ (List.mem_singleton.mpr rfl)
            · rw [upd_ne wll.symm]
              exact a8 _ _ upd_same
            · rw [upd_same, List.map_append]; rfl
        | some v =>
          have fin : v = true → x ∉ way ∧ kn[x]? = some (some true) := by
            intro hv
            rw [markAll_get _ _ _ _ (by rw [M.len]; exact hx)] at ho
            by_cases c : x ∈ way
            · rw [if_pos c, hv] at ho; cases ho
            · rw [if_neg c] at ho
              exact ⟨c, by rw [ho, hv]⟩
          have fin2 : v = false → x ∈ way ∨ ¬ Reach s g x := by
            intro hv
            rw [markAll_get _ _ _ _ (by rw [M.len]; exact hx)] at ho
            by_cases c : x ∈ way
            · exact .inl c
            · rw [if_neg c, hv] at ho
              exact .inr (M.no x ho)
          have imark2 : ∀ v2 : Bool, (markAll kn (some v2) way)[i]? ≠ some none := by
            intro v2
            rcases hway with h | ⟨h, h2⟩
            · exact imark v2 h
            · subst h
              rw [← Option.some.inj h2]
              have ho' : kn[x]? = some (some v) := ho
              show kn[x]? ≠ some none
              rw [ho']
              intro z; cases z
          refine ⟨false, et_is (et_and (et_test (ev_op (ev_var rfl) ev_c rv_notN)) fun _ => et_test (ev_op (ixE (Ex.refl _)) ev_c rv_isN)) rfl, (fun z => nomatch z), fun _ H6 a6 => ?_⟩
          refine s_when (b := v) (et_is (et_and (b := v) (et_test (ev_op (ev_var rfl) ev_c rv_notN)) fun _ => et_tr (ixE a6) fun H7 _ => rfl) rfl) (fun hv H7 a7 => ?_) fun hv H7 a7 => ?_
          · obtain ⟨hxw, hxk2⟩ := fin hv
            refine s_forLn' (K := K) way natV (ev_var rfl) (sq_of (a7 _ _ (a6 _ _ d3)))
              (fun j σ3 H8 => Ex H H8 ∧ H8 l = some (.lst ((markAll (markAll kn (some false) way) (some true) (way.take j)).map bV)) ∧ H8 wl = some (.lst (way.map natV)) ∧ ∃ u, σ3 = [some (.ref a), some (natV g), some (.ref l), some (natV i), some (.ref wl), some (natV x), u])
              (fun H8 a8 => ⟨((d1.trans a6).trans a7).trans a8, a8 _ _ (a7 _ _ (a6 _ _ d2)), a8 _ _ (a7 _ _ (a6 _ _ d3)), _, rfl⟩) (fun j σ3 H8 _ p => sq_of p.2.2.1) ?_ ?_
            · rintro j q σ3 H8 hq ⟨g1, g2, g3, u', rfl⟩
              have hqm : q ∈ way := List.mem_of_getElem? hq
              have hql : q < kn.length := (List.getElem?_eq_some_iff.mp (U.unk q hqm)).1
              refine s_setL (j := q) (v := .bl true) g2 ev_c (ev_var rfl) (ev_var rfl) (by rw [List.length_map, markAll_len, mk]; exact hql) fun H9 a9 => ?_
              have e2 : ((markAll (markAll kn (some false) way) (some true) (way.take j)).map bV).set q (V.bl true) = (markAll (markAll kn (some false) way) (some true) (way.take (j + 1))).map bV := by
                rw [List.take_succ, hq]
                show _ = (markAll (markAll kn (some false) way) (some true) (way.take j ++ [q])).map bV
                rw [markAll_snoc, List.map_set]; rfl
              rw [e2]
              exact ⟨Ex.mut (g1.trans a9) hl, upd_same, by rw [upd_ne wll]; exact a9 _ _ g3, _, rfl⟩
            · rintro σ3 H8 ⟨g1, g2, g3, u', rfl⟩
              rw [List.take_length, marks_mark kn way (fun q hq => (List.getElem?_eq_some_iff.mp (U.unk q hq)).1)] at g2
              exact last true _ _ (fun q hq => ⟨fun _ => U.all_reach (M.yes x hxk2) q hq, fun z => nomatch z⟩) (imark2 true) g1 g2 ⟨_, _, _, _, rfl⟩
          · exact last false _ _ (fun q hq => ⟨(fun z => nomatch z), fun _ => U.none_reach M (fun b e => by cases e; exact fin2 hv) q hq⟩) (imark2 false) ((d1.trans a6).trans a7) (a7 _ _ (a6 _ _ d2)) ⟨_, _, _, _, rfl⟩
    · rintro σ' H' ⟨kn, x, y, z, u, M, hm, c1, c2, rfl⟩
      refine s_ret (ev_var rfl) fun H3 a3 => k _ _ (c1.trans a3) ⟨l, rfl, hl, ?_⟩
      rw [a3 _ _ c2, marks_done M fun q hq => hm q (by omega)]

end
end Sg
namespace Sg
set_option autoImplicit false
open PySem L2 Evl Big
open PyProof.Rows (envOfC)
section
variable {P : Program} {w : World} {K : PySem.W.Frag} {mg : Str → Option Value} {base : Heap} {ad : Ads}
noncomputable def comers (s : List (Option Nat)) (g : Nat) : List Nat := (List.range s.length).filter (reachB s g)
theorem given_comers (s : List (Option Nat)) (g : Nat) : given ((List.range s.length).map (reachB s g)).length (fun k => (((List.range s.length).map (reachB s g))[k]?.map fun b => b).getD false) (fun k => (((List.range s.length).map (reachB s g))[k]?.map fun _ => natV k).getD .non) = (comers s g).map natV := by
  rw [List.length_map, List.length_range]
  have z := filter_map_range (List.range s.length) (reachB s g) natV (fun k => (((List.range s.length).map (reachB s g))[k]?.map fun b => b).getD false) (fun k => (((List.range s.length).map (reachB s g))[k]?.map fun _ => natV k).getD .non) fun i x e => by
    have hi : i < s.length := by
      have := (List.getElem?_eq_some_iff.mp e).1
      simpa using this
    have ex : i = x := by
      rw [List.getElem?_range hi] at e
      exact Option.some.inj e
    subst ex
    rw [List.getElem?_map, e]
    exact ⟨rfl, rfl⟩
  rw [List.length_range] at z
  exact z
def sp_places_coming (K : PySem.W.Frag) : Sp := fun vs H Q _ => ∃ a s n g, vs = [.ref a, natV g] ∧ SqL K H a (s.map nV) ∧ Wf n s ∧ g < n ∧ n ≤ 1000 ∧ RetL ((comers s g).map natV) H Q
theorem ok_places_coming (T : Txt K mg ad) : C8.Cal P w K mg base 2 "places_coming" (sp_places_coming K) [] := by
  have c_coming : C8.Cal P w K mg base 1 "coming" (sp_coming K) [] := ok_coming T
  refine cal_of T.d_places_coming sc_places_coming (fun _ _ _ _ _ _ us hl => match us, hl with | [_, _], _ => rfl) (fun vs H Q E h => ?_) (fun f cdv A outer st H vs Q E hr h => ?_)
  · obtain ⟨a, s, n, g, rfl, _⟩ := h; rfl
  · obtain ⟨a, s, n, g, rfl, hS, w0, hg, hn, k⟩ := h
    refine ⟨_, (pss_one (ps_ret (pe_lc (own := [("place", 2), ("comes", 3)]) (g := _) (tt := _) rfl sc_places_coming.nd (pi_enum rfl T.n_enumerate (pa_cons (C8.pe_c c_coming hr (by decide) rfl (pa_cons (pv 0) (pa_cons (pv 1) pa_nil))) pa_nil)) (blkOk_by (N := N_places_coming) (sc := C8.fnScope st_places_coming) (by decide +kernel)) (fun _ _ _ _ _ => (k_gt K (n := 2) (by rfl) (pgs_cons (pg_name (i := 2) sc_places_coming.nd rfl (Or.inl rfl)) (pgs_cons (pg_name (i := 3) sc_places_coming.nd rfl (Or.inl rfl)) pgs_nil)))) (fun _ _ _ _ _ => (pts_one (k_tru K (pv 3)))) (fun _ _ _ _ _ => (pv 2))))), ?_⟩
    have q := el_enum (K := K) (σ := start N_places_coming [.ref a, natV g]) (H := H) (i1 := 2) (i2 := 3) (by decide) ((List.range s.length).map (reachB s g)) V.bl (fun _ b => b) (fun k _ => natV k) (Post := fun _ _ => True)
      (ta := tCons (tCall (sp_coming K) [] C8.E0 (tCons (tVar 0) (tCons (tVar 1) tNil))) tNil) (t := tTr K (tVar 3)) (te := tVar 2)
      (fun H1 e1 Q q => evp_call (Post := ComingAt H s g) (ea_cons (ev_var rfl) (ea_cons (ev_var rfl) ea_nil)) (fun H2 e2 Q2 q2 E => ⟨a, s, n, g, rfl, ex_l e2 hS, w0, hg, hn, fun v H3 e3 p => q2 v H3 e3 (by
        obtain ⟨l, h1, h2, h3⟩ := p
        exact ⟨l, h1, fresh_back e2 h2, h3⟩)⟩) H1 e1 _ fun v H2 e2 ⟨l, h1, h2, h3⟩ => by
          subst h1
          refine q l H2 e2 (sq_of ?_)
          rw [h3, List.map_map]
          rfl)
      (by simp; have := w0.len; omega) (fun k x _ H1 e1 => et_tr (ev_var rfl) fun H2 _ => rfl) (fun k x _ H1 e1 _ => ev_var rfl)
    rw [given_comers] at q
    exact s_retL q fun p H1 hp e h1 => k p H1 hp e h1

end
end Sg
namespace Sg
set_option autoImplicit false
open PySem L2 Evl Big
open PyProof.Rows (envOfC)
section
variable {P : Program} {w : World} {K : PySem.W.Frag} {mg : Str → Option Value} {base : Heap} {ad : Ads}
def sp_home_from (K : PySem.W.Frag) : Sp := fun vs H Q _ => ∃ lv sv n h rs s, vs = [lv, sv] ∧ Given K H lv sv n h rs s ∧ RetL ((comers s h.toNat).map natV) H Q
theorem ok_home_from (T : Txt K mg ad) : C8.Cal P w K mg base 7 "home_from" (sp_home_from K) [] := by
  have c_need_land : C8.Cal P w K mg base 6 "need_land" (sp_need_land K) [] := ok_need_land T
  have c_need_signs : C8.Cal P w K mg base 4 "need_signs" (sp_need_signs K) [] := ok_need_signs T
  have c_places_coming : C8.Cal P w K mg base 2 "places_coming" (sp_places_coming K) [] := ok_places_coming T
  refine cal_of T.d_home_from sc_home_from (fun _ _ _ _ _ _ us hl => match us, hl with | [_, _], _ => rfl) (fun vs H Q E h => ?_) (fun f cdv A outer st H vs Q E hr h => ?_)
  · obtain ⟨lv, sv, n, h, rs, s, rfl, _⟩ := h; rfl
  · obtain ⟨lv, sv, n, h, rs, s, rfl, g, k⟩ := h
    refine ⟨_, (pss_cons (ps_expr (C8.pe_c c_need_land hr (by decide) rfl (pa_cons (pv 0) pa_nil)))
  (pss_cons (ps_expr (C8.pe_c c_need_signs hr (by decide) rfl (pa_cons (pv 0) (pa_cons (pv 1) pa_nil))))
  (pss_one (ps_ret (C8.pe_c c_places_coming hr (by decide) rfl (pa_cons (pv 1) (pa_cons (pe_ix (k_tup K) (pv 0) pe_int (fun _ _ => rfl)) pa_nil))))))), ?_⟩
    have L := g.ok.all
    have S := g.sok.all
    have l1 := L.h0
    have l2 := L.hn
    have l3 := L.n40
    obtain ⟨sa, rfl, hS⟩ := g.signs
    refine q_drop (ev_call (ea_cons (ev_var rfl) ea_nil) fun H1 a Q q E => ⟨_, _, rfl, g.land.da.mono a, g.ok, q⟩) fun H1 a1 => ?_
    refine q_drop (ev_call (ea_cons (ev_var rfl) (ea_cons (ev_var rfl) ea_nil)) fun H2 a Q q E => ⟨_, n, h, rs, _, _, rfl, g.land.mono (a1.trans a), L.h0, L.hn, by have := L.few; omega, (da_signs hS).mono (a1.trans a), g.sok, q⟩) fun H2 a2 => ?_
    have a12 := a1.trans a2
    obtain ⟨la, r, rfl, hT, hR⟩ := g.land.ex
    have hh : V.int h = natV h.toNat := by unfold natV; congr 1; omega
    refine s_retL (el_call (ea_cons (ev_var rfl) (ea_cons (ev_is (ev_op (ev_var rfl) ev_c (rv_ixT (ex_t a12 hT) (atI_nat (j := 1) rfl))) hh) ea_nil)) fun H3 a Q q E => ⟨sa, s, n.toNat, h.toNat, rfl, ex_l (a12.trans a) hS, S.wf, by omega, by omega, q⟩) fun p H3 hp a3 h3 => k p H3 (fresh_back a12 hp) (a12.trans a3) h3

end
end Sg
namespace Sg
set_option autoImplicit false
open PySem L2 Evl Big
open PyProof.Rows (envOfC)
section
variable {P : Program} {w : World} {K : PySem.W.Frag} {mg : Str → Option Value} {base : Heap} {ad : Ads}
/-- a list's item: no list, or a list of what is told -/
abbrev It2 := (V × PyData) ⊕ (Addr × List V)
def itV : It2 → V
  | .inl p => p.1
  | .inr p => .ref p.1
def itE : It2 → V ⊕ List V
  | .inl p => .inl p.1
  | .inr p => .inr p.2
def ItOk (K : PySem.W.Frag) (H : Hp) : It2 → Prop
  | .inl p => Da K H p.1 p.2 ∧ isT "list" p.2 = false
  | .inr p => SqL K H p.1 p.2 ∧ p.2.length ≤ 100000
theorem ItOk.mono {H H' : Hp} (e : Ex H H') {x : It2} (h : ItOk K H x) : ItOk K H' x := by
  cases x with
  | inl p => exact ⟨h.1.mono e, h.2⟩
  | inr p => exact ⟨ex_l e h.1, h.2⟩
def CopyAt (H : Hp) (l : List It2) (v : V) (H' : Hp) : Prop := ∃ D ys, v = .ref D ∧ H D = none ∧ H' D = some (.lst ys) ∧ ys.length = l.length ∧ ∀ (i : Nat) x y, l[i]? = some x → ys[i]? = some y → Item H D (itE x) y H'
def sp_copied (K : PySem.W.Frag) : Sp := fun vs H Q _ => ∃ v, vs = [v] ∧
  ((∃ d, Da K H v d ∧ isT "list" d = false ∧ RetV v H Q) ∨ ∃ a l, v = .ref a ∧ SqL K H a (l.map itV) ∧ l.length ≤ 40000 ∧ (∀ x ∈ l, ItOk K H x) ∧ Give H (CopyAt H l) Q)
theorem isi_listT {σ : L2.St} {H : Hp} {te : TE} {v : V} {b : Bool} {t : String} (h : Ev te σ H v) (ht : ∀ H1, Ex H H1 → TyX K H1 v (.type t)) (hk : kitB t "list" = some b) : Ev (tCB (rIsi K) (tCons te (tCons (tC (.ty "list")) tNil))) σ H (.bl b) := fun H1 e Q q =>
  h H1 e _ fun H2 e2 => ⟨v, .ty "list", _, _, b, rfl, .ty "list", ht H2 (e.trans e2), kit_ty hk, q H2 e2⟩
theorem evp_ifF {σ : L2.St} {H : Hp} {t : TT} {ta tb : TE} {v : V} (h : EvT t σ H false) (h2 : Ev tb σ H v) : Ev (tIf t ta tb) σ H v := ev_if h (fun z => nomatch z) fun _ => h2
theorem el_ifT {σ : L2.St} {H : Hp} {t : TT} {ta tb : TE} {xs : List V} (h : EvT t σ H true) (h2 : EvL ta σ H xs) : EvL (tIf t ta tb) σ H xs := fun H1 e Q q => h H1 e _ fun H2 e2 => iteT (h2 H2 (e.trans e2) Q fun p H3 hp e3 h3 => q p H3 (fresh_back e2 hp) (e2.trans e3) h3)
theorem ok_copied (T : Txt K mg ad) : C8.Cal P w K mg base 1 "copied" (sp_copied K) [] := by
  refine cal_of T.d_copied sc_copied (fun _ _ _ _ _ _ us hl => match us, hl with | [_], _ => rfl) (fun vs H Q E h => ?_) (fun f cdv A outer st H vs Q E hr h => ?_)
  · obtain ⟨v, rfl, _⟩ := h; rfl
  · obtain ⟨v, rfl, h⟩ := h
    refine ⟨_, (pss_cons (ps_if (pt_not (pt_val (pe_callB (k_isi K) (by rfl) T.n_isinstance (by decide +kernel) (pa_cons (pv 0) (pa_cons (pe_bltn (v := .ty "list") (by rfl) T.n_list (by decide +kernel) rfl) pa_nil))))) (pss_one (ps_ret (pv 0))) pss_nil)
  (pss_one (ps_ret (pe_lc (own := [("part", 1)]) (g := _) (tt := tYes) rfl sc_copied.nd (k_il K (pv 0)) (blkOk_by (N := N_copied) (sc := C8.fnScope st_copied) (by decide +kernel)) (fun _ _ _ _ _ => (pg_name (i := 1) sc_copied.nd rfl (Or.inl rfl))) (fun _ _ _ _ _ => pts_nil) (fun _ _ _ _ _ => (pe_ifExp (pt_val (pe_callB (k_isi K) (by rfl) T.n_isinstance (by decide +kernel) (pa_cons (pv 1) (pa_cons (pe_bltn (v := .ty "list") (by rfl) T.n_list (by decide +kernel) rfl) pa_nil)))) (pe_callTy (k_lst K) (by rfl) T.n_list (by decide +kernel) (pa_cons (pv 1) pa_nil)) (pv 1))))))), ?_⟩
    rcases h with ⟨d, hd, hf, k⟩ | ⟨a, l, rfl, hS, hl, hit, k⟩
    · exact q_when (b := true) (et_is (et_not (et_B (ev_isi (ev_var rfl) hd (kit_list d)))) (by rw [hf]; rfl)) (fun _ H1 a1 => s_ret (ev_var rfl) fun H2 a2 => k H2 (a1.trans a2)) (fun z => nomatch z)
    · refine q_when (b := false) (et_is (et_not (et_B (isi_listT (ev_var rfl) (fun H1 e => ty_list (ex_l e hS)) (show kitB "list" "list" = some true by decide +kernel)))) rfl) (fun z => nomatch z) fun _ H1 a1 => ?_
      refine s_retP (el_mixL (K := K) (j := 1) l itV itE (ev_var rfl) (ex_l a1 hS) hl fun x hx H2 a2 => ?_) fun v H2 a2 p => ?_
      · have ok := (hit x hx).mono (a1.trans a2)
        cases x with
        | inl p =>
          show Ev _ _ H2 p.1
          refine ev_if (b := false) (et_B (ev_isi (ev_var rfl) ok.1 ?_)) (fun z => nomatch z) fun _ => ev_var rfl
          rw [kit_list, ok.2]
        | inr p =>
          show EvL _ _ H2 p.2
          exact el_ifT (et_B (isi_listT (ev_var rfl) (fun H3 e => ty_list (ex_l e ok.1)) (show kitB "list" "list" = some true by decide +kernel))) (el_list (ev_var rfl) ok.1)
      · obtain ⟨D, ys, h1, h2, h3, h4, h5⟩ := p
        refine k v H2 (a1.trans a2) ⟨D, ys, h1, fresh_back a1 h2, h3, h4, fun i x y e1 e2 => ?_⟩
        have it := h5 i x y e1 e2
        cases x with
        | inl p => exact it
        | inr p =>
          obtain ⟨q, z1, z2, z3, z4⟩ := it
          exact ⟨q, z1, z2, fresh_back a1 z3, z4⟩
/-- a list of no lists is copied as it stands -/
theorem copy_flat {H H' : Hp} {l : List (V × PyData)} {v : V} (h : CopyAt H (l.map .inl) v H') : ∃ D, v = .ref D ∧ H D = none ∧ H' D = some (.lst (l.map (·.1))) := by
  obtain ⟨D, ys, h1, h2, h3, h4, h5⟩ := h
  refine ⟨D, h1, h2, ?_⟩
  rw [h3]
  have : ys = l.map (·.1) := by
    apply List.ext_getElem?
    intro i
    by_cases hi : i < l.length
    · have hy : i < ys.length := by rw [h4, List.length_map]; exact hi
      have e1 := List.getElem?_eq_getElem hi
      have e2 := List.getElem?_eq_getElem hy
      have q := h5 i (.inl l[i]) ys[i] (by rw [List.getElem?_map, e1]; rfl) e2
      rw [e2, List.getElem?_map, e1]
      exact congrArg some q
    · rw [List.getElem?_eq_none (by rw [h4, List.length_map]; omega), List.getElem?_eq_none (by rw [List.length_map]; omega)]
  rw [this]

end
end Sg
namespace Sg
set_option autoImplicit false
open PySem L2 Evl Big
open PyProof.Rows (envOfC)
section
variable {P : Program} {w : World} {K : PySem.W.Frag} {mg : Str → Option Value} {base : Heap} {ad : Ads}
theorem ev_fld {σ : L2.St} {H : Hp} {te : TE} {x dx C : Addr} {fs : List (Str × V)} {f : Str} {v : V} (h : Ev te σ H (.ref x)) (ho : H x = some (.ins C dx fs)) (hc : Cls K C) (hn : NoAttr K C f) (hl : fs.lookup f = some v) : Ev (tFld K te f) σ H v := fun H1 e Q q =>
  h H1 e _ fun H2 e2 => ⟨x, C, dx, fs, v, rfl, e2 _ _ (e _ _ ho), hc, hn, hl, q H2 e2⟩
theorem look1 (f : Str) (v : V) : (putF f v []).lookup f = some v := by rw [lookup_putF, if_pos rfl]
theorem no1 {f m : Str} (v : V) (h : ¬ m = f) : (putF f v []).lookup m = none := by
  rw [lookup_putF, if_neg h]
  rfl
theorem at_end {xs : List V} {v : V} (h : xs[xs.length - 1]? = some v) : atI xs (-1) = some v := by
  have hp : 0 < xs.length := by
    have := (List.getElem?_eq_some_iff.mp h).1
    omega
  unfold atI ixN
  rw [if_neg (by decide), if_pos (by omega)]
  show xs[(-1 + (xs.length : Int)).toNat]? = some v
  rw [show (-1 + (xs.length : Int)).toNat = xs.length - 1 by omega]
  exact h
/-- the place where a walk comes to its end -/
def lastP (way : List Nat) : Nat := way.getD (way.length - 1) 0
theorem lastP_get {way : List Nat} (h : 0 < way.length) : way[way.length - 1]? = some (lastP way) := by
  unfold lastP
  rw [List.getD_eq_getElem?_getD, List.getElem?_eq_getElem (show way.length - 1 < way.length by omega)]
  rfl
theorem at_lastP {way : List Nat} (h : 0 < way.length) : atI (way.map natV) (-1) = some (natV (lastP way)) := by
  refine at_end ?_
  rw [List.length_map, List.getElem?_map, lastP_get h]
  rfl
/-- a made object: what stood stands, its one field as told -/
theorem made_ex {H H1 H3 : Hp} {x dx : Addr} {o : HO} (e : Ex H H1) (hx : H1 x = none) (hdx : H1 dx = none) (k : ∀ b o', b ≠ x → (upd (upd H1 dx (.own x)) x o) b = some o' → H3 b = some o') : Ex H1 H3 := fun b o' hb => by
  have n1 : b ≠ x := ne_of_none hb hx
  have n2 : b ≠ dx := ne_of_none hb hdx
  exact k b o' n1 (by rw [upd_ne n1, upd_ne n2]; exact hb)
/-- an __init__ that lays one field -/
def SpInit1 (sp : Sp) (C : Addr) (f : Str) (vs : List V) (H : Hp) (Post : V → Hp → Prop) : Prop := ∀ H1, Ex H H1 → ∀ (x dx : Addr) (Q : VK) (E : XK), H x = none → H1 x = some (.ins C dx []) →
  (∀ H3 fv, (∀ b o, b ≠ x → H1 b = some o → H3 b = some o) → H3 x = some (.ins C dx (putF f fv [])) → Post fv H3 → Q .non H3) → sp (.ref x :: vs) H1 Q E
theorem evp_make {σ : L2.St} {H : Hp} {C : Addr} {f : Str} {sp : Sp} {vs : List V} {E : XK} {ta : TA} {Post : V → Hp → Prop} (h : EvA ta σ H vs) (hs : SpInit1 sp C f vs H Post) :
    EvP (tMake C sp [] E ta) σ H (fun v H' => ∃ x dx fv, v = .ref x ∧ H x = none ∧ H' x = some (.ins C dx (putF f fv [])) ∧ Post fv H') := fun H0 e Q q =>
  h H0 e _ fun H1 e1 x dx hx hdx hne => by
    rw [List.append_nil]
    have hx0 : H x = none := fresh_back (e.trans e1) hx
    refine hs _ ((e.trans e1).trans ?_) x dx _ _ hx0 upd_same fun H3 fv k h3 p => ⟨rfl, ?_⟩
    · exact made_ex (o := .ins C dx []) (Ex.refl _) hx hdx fun b o' _ hb => hb
    · exact q _ H3 (e1.trans (made_ex (e.trans e1) hx hdx k)) ⟨x, dx, fv, rfl, hx0, h3, p⟩
/-- self.f = e, the first field -/
theorem s_fld1 {σ : L2.St} {H : Hp} {D : Ends} {te : TE} {x dx C : Addr} {f : Str} {i : Nat} {Post : V → Hp → Prop} (hi : σ[i]? = some (some (.ref x))) (hx : H x = some (.ins C dx [])) (hc : Cls K C) (hn : NoAttr K C f)
    (h : EvP te σ H Post) (k : ∀ v H1, Ex H H1 → Post v H1 → D.nx σ (upd H1 x (.ins C dx (putF f v [])))) : sFld K (tVar i) te f D σ H :=
  h H (Ex.refl H) _ fun v H1 e p => ⟨.ref x, hi, x, C, dx, [], rfl, e _ _ hx, hc, hn, by show 0 < 1000; decide, k v H1 e p⟩

end
end Sg
namespace Sg
set_option autoImplicit false
open PySem L2 Evl Big
open PyProof.Rows (envOfC)
section
variable {P : Program} {w : World} {K : PySem.W.Frag} {mg : Str → Option Value} {base : Heap} {ad : Ads}
def sp_Home_init (K : PySem.W.Frag) (C : Addr) (f : Str) : Sp := fun vs H Q _ => ∃ x dx v d, vs = [.ref x, v] ∧ H x = some (.ins C dx []) ∧ Da K H v d ∧ isT "list" d = false ∧
  ∀ H3, (∀ b o, b ≠ x → H b = some o → H3 b = some o) → H3 x = some (.ins C dx (putF f v [])) → Q .non H3
theorem init1_of {H : Hp} {C : Addr} {f : Str} {v : V} {d : PyData} (hd : Da K H v d) (hf : isT "list" d = false) : SpInit1 (sp_Home_init K C f) C f [v] H (fun fv _ => fv = v) := fun H1 e x dx Q E _ hx k =>
  ⟨x, dx, v, d, rfl, hx, hd.mono e, hf, fun H3 a b => k H3 v a b rfl⟩
theorem ok_Home_init (T : Txt K mg ad) : C8.Mak P w K mg base 2 "Home" ad.Home (sp_Home_init K ad.Home "steps") [] := by
  have c_copied : C8.Cal P w K mg base 1 "copied" (sp_copied K) [] := ok_copied T
  refine mak_of T.mk_Home sc_Home_init (fun _ _ _ _ _ _ us hl => match us, hl with | [_, _], _ => rfl) (fun vs H Q E h => ?_) (fun f cdv A outer st H vs Q E hr h => ?_)
  · obtain ⟨x, dx, v, d, rfl, _⟩ := h; rfl
  · obtain ⟨x, dx, v, d, rfl, hx, hd, hf, k⟩ := h
    refine ⟨_, (pss_one (ps_fld (pv 0) (C8.pe_c c_copied hr (by decide) rfl (pa_cons (pv 1) pa_nil)) rfl)), ?_⟩
    refine s_fld1 rfl hx T.cl_Home T.no_Home_steps (evp_of (ev_call (ea_cons (ev_var rfl) ea_nil) fun H1 a Q q E => ⟨v, rfl, .inl ⟨d, hd.mono a, hf, q⟩⟩) (Post := fun u _ => u = v) fun _ _ => rfl) fun u H1 e hu => ?_
    subst hu
    exact k _ (fun b o hb q => by rw [upd_ne hb]; exact e _ _ q) upd_same
def isIntD (j : Int) : PyData → Bool
  | .int i => decide (i = j)
  | _ => false
def homeB (s : List (Option Nat)) (p : Nat) (h : Int) (d : PyData) : Bool :=
  decide ((lastP (walkd s p).1 : Int) = h) && isIntD (((walkd s p).1.length : Int) - 1) d
/-- asked: an answer of one field, a land, signs, a place -/
structure Asked (K : PySem.W.Frag) (H : Hp) (C : Addr) (f : Str) (vs : List V) (x : Addr) (d : PyData) (n h : Int) (rs : List (Int × Int)) (s : List (Option Nat)) (p : Nat) : Prop where
  ex : ∃ lv a dx fv, vs = [.ref x, lv, .ref a, natV p] ∧ H x = some (.ins C dx (putF f fv [])) ∧ Da K H fv d ∧ LandAt K H lv n h rs ∧ SqL K H a (s.map nV)
  wf : Wf s.length s
  lt : p < s.length
  few : s.length ≤ 1000
theorem Asked.mono {H H' : Hp} {C : Addr} {f : Str} {vs : List V} {x : Addr} {d : PyData} {n h : Int} {rs : List (Int × Int)} {s : List (Option Nat)} {p : Nat} (e : Ex H H') (q : Asked K H C f vs x d n h rs s p) : Asked K H' C f vs x d n h rs s p := by
  obtain ⟨⟨lv, a, dx, fv, h1, h2, h3, h4, h5⟩, w1, w2, w3⟩ := q
  exact ⟨⟨lv, a, dx, fv, h1, e _ _ h2, h3.mono e, h4.mono e, ex_l e h5⟩, w1, w2, w3⟩
def sp_shows1 (K : PySem.W.Frag) (C : Addr) (f : Str) (g : List (Option Nat) → Nat → Int → PyData → Bool) : Sp := fun vs H Q _ => ∃ x d n h rs s p, Asked K H C f vs x d n h rs s p ∧ RetV (.bl (g s p h d)) H Q
theorem evp_walked {σ : L2.St} {H : Hp} {i j : Nat} {a : Addr} {s : List (Option Nat)} {p : Nat} (h1 : σ[i]? = some (some (.ref a))) (h2 : σ[j]? = some (some (natV p))) (hS : SqL K H a (s.map nV)) (w : Wf s.length s) (hp : p < s.length) (hn : s.length ≤ 1000) :
    EvP (tCall (sp_walked K) [] C8.E0 (tCons (tVar i) (tCons (tVar j) tNil))) σ H (WalkedAt H s p) :=
  evp_call (ea_cons (ev_var h1) (ea_cons (ev_var h2) ea_nil)) fun H1 e Q q E => ⟨a, s, _, p, rfl, ex_l e hS, w, hp, hn, fun v H2 e2 ⟨t, l, z1, z2, z3, z4, z5⟩ => q v H2 e2 ⟨t, l, z1, fresh_back e z2, fresh_back e z3, z4, z5⟩⟩
theorem ok_Home_shows (T : Txt K mg ad) : C8.Met P w K mg base 2 ad.Home "shows" (sp_shows1 K ad.Home "steps" homeB) [] := by
  have c_walked : C8.Cal P w K mg base 1 "walked" (sp_walked K) [] := ok_walked T
  have c_is_number : C8.Cal P w K mg base 1 "is_number" (sp_is_number K) [] := ok_is_number T
  refine met_of T.cl_Home T.mt_Home_shows sc_Home_shows (fun _ _ _ _ _ _ us hl => match us, hl with | [_, _, _, _], _ => rfl) (fun vs H Q E h => ?_) (fun f cdv A outer st H vs Q E hr h => ?_)
  · obtain ⟨x, d, n, h, rs, s, p, ⟨⟨lv, a, dx, fv, rfl, _⟩, _⟩, _⟩ := h; rfl
  · obtain ⟨x, d, n, h, rs, s, p, ⟨⟨lv, a, dx, fv, rfl, hx, hd, hL, hS⟩, w0, hp, hn⟩, k⟩ := h
    obtain ⟨la, r, rfl, hT, hR⟩ := hL.ex
    refine ⟨_, (pss_cons (ps_asg (C8.pe_c c_walked hr (by decide) rfl (pa_cons (pv 2) (pa_cons (pv 3) pa_nil))) (k_gt K (n := 2) (by rfl) (pgs_cons (pg_name (i := 4) sc_Home_shows.nd rfl (Or.inl rfl)) (pgs_cons (pg_name (i := 5) sc_Home_shows.nd rfl (Or.inl rfl)) pgs_nil))))
  (pss_cons (ps_if (pt_cmpR op_ne (pe_ix (k_list K) (pv 4) (pe_un un_neg pe_int) (fun _ _ => rfl)) (pe_ix (k_tup K) (pv 1) pe_int (fun _ _ => rfl)) (nomark _)) (pss_one (ps_ret pe_bl)) pss_nil)
  (pss_one (ps_ret (pe_and (C8.pe_c c_is_number hr (by decide) rfl (pa_cons (k_fld K (pv 0)) pa_nil)) (pe_one (pe_cmpR op_eq (k_fld K (pv 0)) (pe_op op_sub (pe_callB (k_len K) (by rfl) T.n_len PySem.boot_len (pa_cons (pv 4) pa_nil)) pe_int) (nomark _)))))))), ?_⟩
    have W := walkd_spec w0 hp
    refine q_unp2 (evp_walked rfl rfl hS w0 hp hn) fun v H1 a1 ⟨t, l, z1, _, _, z4, z5⟩ => ⟨t, _, _, z1, st_of z4, ?_⟩
    have lE : ∀ {σ : L2.St} {H2 : Hp}, σ[4]? = some (some (.ref l)) → Ex H1 H2 → Ev (tOp (rIxL K) (tVar 4) (tUn (rU fun i => .int (-i)) (tC (.int 1)))) σ H2 (natV (lastP (walkd s p).1)) := fun h4 e =>
      ev_op (ev_var h4) (ev_un ev_c ru_neg) (rv_ixL (sq_of (e _ _ z5)) (at_lastP W.pos))
    refine q_when (et_test (ev_op (lE rfl (Ex.refl _)) (ev_op (ev_var rfl) ev_c (rv_ixT (ex_t a1 hT) (atI_nat (j := 1) rfl))) (rv_ne rfl))) (fun hb H2 a2 => s_ret ev_c fun H3 a3 => ?_) fun hb H2 a2 => ?_
    · have ev : homeB s p h d = false := by
        have hne : ¬ ((lastP (walkd s p).1 : Int) = h) := by
          intro z
          have hb' : (!decide (V.int (lastP (walkd s p).1 : Int) = V.int h)) = true := hb
          rw [z] at hb'
          simp at hb'
        unfold homeB
        rw [decide_eq_false hne, Bool.false_and]
      rw [← ev]
      exact RetV.go k ((a1.trans a2).trans a3)
    · have heq : (lastP (walkd s p).1 : Int) = h := by
        have hb' : (!decide (V.int (lastP (walkd s p).1 : Int) = V.int h)) = false := hb
        simp only [Bool.not_eq_false', decide_eq_true_eq] at hb'
        injection hb'
      have a12 := a1.trans a2
      have fE : ∀ {σ : L2.St} {H3 : Hp}, σ[0]? = some (some (.ref x)) → Ex H2 H3 → Ev (tFld K (tVar 0) "steps") σ H3 fv := fun h0 e => ev_fld (ev_var h0) (e _ _ (a12 _ _ hx)) T.cl_Home T.no_Home_steps (look1 _ _)
      refine s_ret (v := .bl (homeB s p h d)) ?_ fun H3 a3 => RetV.go k (a12.trans a3)
      refine ev_is (ev_andV (b := isIntD (((walkd s p).1.length : Int) - 1) d) (ev_call (ea_cons (fE rfl (Ex.refl _)) ea_nil) fun H3 e Q q E => ⟨fv, d, rfl, hd.mono (a12.trans e), q⟩) fun hnum => ?_) ?_
      · cases d with
        | int i =>
          cases hd
          refine ev_is (ev_op (fE rfl (Ex.refl _)) (ev_op (ev_len (K := K) (ev_var rfl) (sq_of (a2 _ _ z5))) ev_c rv_I0) (rv_eq rfl)) ?_
          rw [List.length_map]
          simp [isIntD]
        | _ => cases hnum
      · unfold homeB
        rw [decide_eq_true heq, Bool.true_and]
        cases d <;> rfl

end
end Sg
namespace Sg
set_option autoImplicit false
open PySem L2 Evl Big
open PyProof.Rows (envOfC)
section
variable {P : Program} {w : World} {K : PySem.W.Frag} {mg : Str → Option Value} {base : Heap} {ad : Ads}
theorem ok_Stands_init (T : Txt K mg ad) : C8.Mak P w K mg base 2 "Stands" ad.Stands (sp_Home_init K ad.Stands "place") [] := by
  have c_copied : C8.Cal P w K mg base 1 "copied" (sp_copied K) [] := ok_copied T
  refine mak_of T.mk_Stands sc_Stands_init (fun _ _ _ _ _ _ us hl => match us, hl with | [_, _], _ => rfl) (fun vs H Q E h => ?_) (fun f cdv A outer st H vs Q E hr h => ?_)
  · obtain ⟨x, dx, v, d, rfl, _⟩ := h; rfl
  · obtain ⟨x, dx, v, d, rfl, hx, hd, hf, k⟩ := h
    refine ⟨_, (pss_one (ps_fld (pv 0) (C8.pe_c c_copied hr (by decide) rfl (pa_cons (pv 1) pa_nil)) rfl)), ?_⟩
    refine s_fld1 rfl hx T.cl_Stands T.no_Stands_place (evp_of (ev_call (ea_cons (ev_var rfl) ea_nil) fun H1 a Q q E => ⟨v, rfl, .inl ⟨d, hd.mono a, hf, q⟩⟩) (Post := fun u _ => u = v) fun _ _ => rfl) fun u H1 e hu => ?_
    subst hu
    exact k _ (fun b o hb q => by rw [upd_ne hb]; exact e _ _ q) upd_same
def standsB (s : List (Option Nat)) (p : Nat) (h : Int) (d : PyData) : Bool :=
  !((walkd s p).2.isSome || decide ((lastP (walkd s p).1 : Int) = h)) && isIntD (lastP (walkd s p).1 : Int) d
theorem nV_some (o : Option Nat) : (!decide (nV o = V.non)) = o.isSome := by
  cases o <;> rfl
theorem ok_Stands_shows (T : Txt K mg ad) : C8.Met P w K mg base 2 ad.Stands "shows" (sp_shows1 K ad.Stands "place" standsB) [] := by
  have c_walked : C8.Cal P w K mg base 1 "walked" (sp_walked K) [] := ok_walked T
  have c_is_number : C8.Cal P w K mg base 1 "is_number" (sp_is_number K) [] := ok_is_number T
  refine met_of T.cl_Stands T.mt_Stands_shows sc_Stands_shows (fun _ _ _ _ _ _ us hl => match us, hl with | [_, _, _, _], _ => rfl) (fun vs H Q E h => ?_) (fun f cdv A outer st H vs Q E hr h => ?_)
  · obtain ⟨x, d, n, h, rs, s, p, ⟨⟨lv, a, dx, fv, rfl, _⟩, _⟩, _⟩ := h; rfl
  · obtain ⟨x, d, n, h, rs, s, p, ⟨⟨lv, a, dx, fv, rfl, hx, hd, hL, hS⟩, w0, hp, hn⟩, k⟩ := h
    obtain ⟨la, r, rfl, hT, hR⟩ := hL.ex
    refine ⟨_, (pss_cons (ps_asg (C8.pe_c c_walked hr (by decide) rfl (pa_cons (pv 2) (pa_cons (pv 3) pa_nil))) (k_gt K (n := 2) (by rfl) (pgs_cons (pg_name (i := 4) sc_Stands_shows.nd rfl (Or.inl rfl)) (pgs_cons (pg_name (i := 5) sc_Stands_shows.nd rfl (Or.inl rfl)) pgs_nil))))
  (pss_cons (ps_if (PW.pt (pw_or (pt_cmpR op_notN (pv 5) pe_non (nomark _)) (pw_or1 (pt_cmpR op_eq (pe_ix (k_list K) (pv 4) (pe_un un_neg pe_int) (fun _ _ => rfl)) (pe_ix (k_tup K) (pv 1) pe_int (fun _ _ => rfl)) (nomark _))))) (pss_one (ps_ret pe_bl)) pss_nil)
  (pss_one (ps_ret (pe_and (C8.pe_c c_is_number hr (by decide) rfl (pa_cons (k_fld K (pv 0)) pa_nil)) (pe_one (pe_cmpR op_eq (k_fld K (pv 0)) (pe_ix (k_list K) (pv 4) (pe_un un_neg pe_int) (fun _ _ => rfl)) (nomark _)))))))), ?_⟩
    have W := walkd_spec w0 hp
    refine q_unp2 (evp_walked rfl rfl hS w0 hp hn) fun v H1 a1 ⟨t, l, z1, _, _, z4, z5⟩ => ⟨t, _, _, z1, st_of z4, ?_⟩
    have lE : ∀ {σ : L2.St} {H2 : Hp}, σ[4]? = some (some (.ref l)) → Ex H1 H2 → Ev (tOp (rIxL K) (tVar 4) (tUn (rU fun i => .int (-i)) (tC (.int 1)))) σ H2 (natV (lastP (walkd s p).1)) := fun h4 e =>
      ev_op (ev_var h4) (ev_un ev_c ru_neg) (rv_ixL (sq_of (e _ _ z5)) (at_lastP W.pos))
    have eqI : decide (natV (lastP (walkd s p).1) = V.int h) = decide ((lastP (walkd s p).1 : Int) = h) := by
      refine decide_eq_decide.mpr ⟨fun z => ?_, fun z => by unfold natV; rw [z]⟩
      unfold natV at z
      injection z
    refine q_when (et_or (et_test (ev_op (ev_var rfl) ev_c rv_notN)) fun _ => et_test (ev_op (lE rfl (Ex.refl _)) (ev_op (ev_var rfl) ev_c (rv_ixT (ex_t a1 hT) (atI_nat (j := 1) rfl))) (rv_eq rfl))) (fun hb H2 a2 => s_ret ev_c fun H3 a3 => ?_) fun hb H2 a2 => ?_
    · rw [nV_some, eqI] at hb
      have ev : standsB s p h d = false := by
        unfold standsB
        rw [hb]
        rfl
      rw [← ev]
      exact RetV.go k ((a1.trans a2).trans a3)
    · rw [nV_some, eqI] at hb
      have a12 := a1.trans a2
      have fE : ∀ {σ : L2.St} {H3 : Hp}, σ[0]? = some (some (.ref x)) → Ex H2 H3 → Ev (tFld K (tVar 0) "place") σ H3 fv := fun h0 e => ev_fld (ev_var h0) (e _ _ (a12 _ _ hx)) T.cl_Stands T.no_Stands_place (look1 _ _)
      refine s_ret (v := .bl (standsB s p h d)) ?_ fun H3 a3 => RetV.go k (a12.trans a3)
      refine ev_is (ev_andV (b := isIntD (lastP (walkd s p).1 : Int) d) (ev_call (ea_cons (fE rfl (Ex.refl _)) ea_nil) fun H3 e Q q E => ⟨fv, d, rfl, hd.mono (a12.trans e), q⟩) fun hnum => ?_) ?_
      · cases d with
        | int i =>
          cases hd
          refine ev_is (ev_op (fE rfl (Ex.refl _)) (lE rfl a2) (rv_eq rfl)) ?_
          simp [natV, isIntD]
        | _ => cases hnum
      · unfold standsB
        rw [hb]
        cases d <;> rfl

end
end Sg
namespace Sg
set_option autoImplicit false
open PySem L2 Evl Big
open PyProof.Rows (envOfC)
section
variable {P : Program} {w : World} {K : PySem.W.Frag} {mg : Str → Option Value} {base : Heap} {ad : Ads}
/-- the places are the round's, begun somewhere -/
noncomputable def roundB (c : List Nat) (d : PyData) : Bool := @decide (∃ e, d = .list (e.map natD) ∧ Turns c e) (Classical.propDecidable _)
theorem roundB_iff {c : List Nat} {d : PyData} : roundB c d = true ↔ ∃ e, d = .list (e.map natD) ∧ Turns c e := by
  unfold roundB
  exact @decide_eq_true_iff _ (Classical.propDecidable _)
def sp_is_same_round (K : PySem.W.Frag) : Sp := fun vs H Q _ => ∃ v d b c, vs = [v, .ref b] ∧ Da K H v d ∧ SqL K H b (c.map natV) ∧ c.length ≤ 1000 ∧ RetV (.bl (roundB c d)) H Q
theorem round_no {H : Hp} {Q : VK} {c : List Nat} {d : PyData} (h : isT "list" d = false) (k : RetV (.bl (roundB c d)) H Q) : RetV (.bl false) H Q := by
  have ev : roundB c d = false := by
    cases z : roundB c d with
    | false => rfl
    | true =>
      obtain ⟨e, he, ht⟩ := roundB_iff.mp z
      rw [he] at h
      cases h
  rwa [ev] at k
/-- gone[k:] + gone[:k] -/
theorem el_rot {σ : L2.St} {H : Hp} {b : Addr} {c : List Nat} {i j k : Nat} (h1 : σ[i]? = some (some (.ref b))) (h2 : σ[j]? = some (some (natV k))) (hS : SqL K H b (c.map natV)) (hc : c.length ≤ 1000) :
    EvL (tOp rCat (tSl (rSlL K) (tVar i) (tPart (tVar j)) tNoPart) (tSl (rSlL K) (tVar i) tNoPart (tPart (tVar j)))) σ H ((rot c k).map natV) := fun H1 e Q q => by
  refine el_sl (ev_var h1) (eo_some (ev_var h2)) eo_none hS H1 e _ fun p H2 hp e2 g2 => ?_
  refine el_sl (ev_var h1) eo_none (eo_some (ev_var h2)) hS H2 (e.trans e2) _ fun r H3 hr' e3 g3 => ?_
  rw [cut_from] at g2
  rw [cut_to] at g3
  refine ⟨p, r, _, _, rfl, rfl, e3 _ _ g2, g3, ?_, fun t ht => ?_⟩
  · refine sz_of ?_
    rw [List.length_drop, List.length_take, List.length_map]
    omega
  · refine q t _ (fresh_back (e2.trans e3) ht) ((e2.trans e3).trans (Ex.new ht)) ?_
    rw [upd_same]
    congr 2
    unfold rot
    rw [List.map_append, List.map_drop, List.map_take]
theorem ok_is_same_round (T : Txt K mg ad) : C8.Cal P w K mg base 2 "is_same_round" (sp_is_same_round K) [] := by
  have c_is_number : C8.Cal P w K mg base 1 "is_number" (sp_is_number K) [] := ok_is_number T
  refine cal_of T.d_is_same_round sc_is_same_round (fun _ _ _ _ _ _ us hl => match us, hl with | [_, _], _ => rfl) (fun vs H Q E h => ?_) (fun f cdv A outer st H vs Q E hr h => ?_)
  · obtain ⟨v, d, b, c, rfl, _⟩ := h; rfl
  · obtain ⟨v, d, b, c, rfl, hd, hS, hc, k⟩ := h
    refine ⟨_, (pss_cons (ps_if (PW.pt (pw_or (pt_not (pt_val (pe_callB (k_isi K) (by rfl) T.n_isinstance (by decide +kernel) (pa_cons (pv 0) (pa_cons (pe_bltn (v := .ty "list") (by rfl) T.n_list (by decide +kernel) rfl) pa_nil))))) (pw_or1 (pt_cmpR op_ne (pe_callB (k_len K) (by rfl) T.n_len PySem.boot_len (pa_cons (pv 0) pa_nil)) (pe_callB (k_len K) (by rfl) T.n_len PySem.boot_len (pa_cons (pv 1) pa_nil)) (nomark _))))) (pss_one (ps_ret pe_bl)) pss_nil)
  (pss_cons (ps_if (pt_not (pt_val (pe_callB (k_all K rfl) (by rfl) T.n_all (by decide +kernel) (pa_cons (pe_lc (own := [("place", 2)]) (g := _) (tt := tYes) rfl sc_is_same_round.nd (k_il K (pv 0)) (blkOk_by (N := N_is_same_round) (sc := C8.fnScope st_is_same_round) (by decide +kernel)) (fun _ _ _ _ _ => (pg_name (i := 2) sc_is_same_round.nd rfl (Or.inl rfl))) (fun _ _ _ _ _ => pts_nil) (fun _ _ _ _ _ => (C8.pe_c c_is_number hr (by decide) rfl (pa_cons (pv 2) pa_nil)))) pa_nil)))) (pss_one (ps_ret pe_bl)) pss_nil)
  (pss_one (ps_ret (pe_callB (k_any K rfl) (by rfl) T.n_any (by decide +kernel) (pa_cons (pe_lc (own := [("k", 3)]) (g := _) (tt := tYes) rfl sc_is_same_round.nd (pi_range1 rfl T.n_range (pa_cons (pe_callB (k_len K) (by rfl) T.n_len PySem.boot_len (pa_cons (pv 1) pa_nil)) pa_nil)) (blkOk_by (N := N_is_same_round) (sc := C8.fnScope st_is_same_round) (by decide +kernel)) (fun _ _ _ _ _ => (pg_name (i := 3) sc_is_same_round.nd rfl (Or.inl rfl))) (fun _ _ _ _ _ => pts_nil) (fun _ _ _ _ _ => (pe_cmpR (k_eqD K hr.units) (pv 0) (pe_op op_cat (pe_slice (k_sl K) (pv 1) (po_some (pv 3)) po_none) (pe_slice (k_sl K) (pv 1) po_none (po_some (pv 3)))) (nomark _)))) pa_nil)))))), ?_⟩
    have e1 : ∀ {H1 : Hp}, Ex H H1 → Ev (tCB (rIsi K) (tCons (tVar 0) (tCons (tC (.ty "list")) tNil))) (start N_is_same_round [v, .ref b]) H1 (.bl (isT "list" d)) := fun a => ev_isi (ev_var rfl) (hd.mono a) (kit_list d)
    have lenB : ∀ {H1 : Hp}, Ex H H1 → Ev (tCB (rLenS K) (tCons (tVar 1) tNil)) (start N_is_same_round [v, .ref b]) H1 (.int (c.length : Int)) := fun e => by
      have q := ev_len (K := K) (ta := tVar 1) (σ := start N_is_same_round [v, .ref b]) (ev_var rfl) (ex_l e hS)
      rwa [List.length_map] at q
    cases hd with
    | @lst a xs ds h hs =>
      obtain ⟨l, rfl, rfl, hl⟩ := hs.zip
      have lenA : ∀ {H1 : Hp}, Ex H H1 → Ev (tCB (rLenS K) (tCons (tVar 0) tNil)) (start N_is_same_round [.ref a, .ref b]) H1 (.int (l.length : Int)) := fun e => by
        have q := ev_len (K := K) (ta := tVar 0) (σ := start N_is_same_round [.ref a, .ref b]) (ev_var rfl) (ex_l e h)
        rwa [List.length_map] at q
      refine q_when (et_or (et_not (et_B (e1 (Ex.refl H)))) fun _ => et_test (ev_op (lenA (Ex.refl H)) (lenB (Ex.refl H)) (rv_ne rfl))) (fun hb H1 a1 => s_ret ev_c fun H2 a2 => ?_) fun hb H1 a1 => ?_
      · have ev : roundB c (.list (l.map (·.2))) = false := by
          cases z : roundB c (.list (l.map (·.2))) with
          | false => rfl
          | true =>
            obtain ⟨e, he, ht⟩ := roundB_iff.mp z
            have q := congrArg List.length (lst_inj.mp he)
            rw [List.length_map, List.length_map, turns_len ht] at q
            exfalso
            have hb' : (false || !decide (V.int (l.length : Int) = V.int (c.length : Int))) = true := hb
            rw [q] at hb'
            simp at hb'
        rw [← ev]
        exact RetV.go k (a1.trans a2)
      have hlen : l.length = c.length := by
        have hb' : (false || !decide (V.int (l.length : Int) = V.int (c.length : Int))) = false := hb
        simp only [Bool.false_or, Bool.not_eq_false', decide_eq_true_eq] at hb'
        injection hb' with hb'
        omega
      refine q_when (et_not (et_B (ev_all (K := K) (bs := l.map fun p => numD p.2) (by
          rw [List.map_map]
          exact el_mapL (j := 2) l (·.1) (fun p => V.bl (numD p.2)) (ev_var rfl) (ex_l a1 h) (by omega) fun p hp H2 a2 =>
            ev_call (ea_cons (ev_var rfl) ea_nil) fun H3 a3 Q q E => ⟨_, _, rfl, ((hl p hp).mono (a1.trans a2)).mono a3, q⟩)))) (fun hb2 H2 a2 => s_ret ev_c fun H3 a3 => ?_) fun hb2 H2 a2 => ?_
      · have hno : ((l.map fun p => numD p.2).all id) = false := by
          cases z : ((l.map fun p => numD p.2).all id) with
          | true => rw [z] at hb2; cases hb2
          | false => rfl
        have ev : roundB c (.list (l.map (·.2))) = false := by
          cases z : roundB c (.list (l.map (·.2))) with
          | false => rfl
          | true =>
            obtain ⟨e, he, ht⟩ := roundB_iff.mp z
            have he' := lst_inj.mp he
            exfalso
            rw [List.all_map, show (id ∘ fun p : V × PyData => numD p.2) = (numD ∘ fun p : V × PyData => p.2) from rfl, ← List.all_map, he', List.all_map] at hno
            have : e.all (numD ∘ natD) = true := List.all_eq_true.mpr fun x _ => rfl
            rw [this] at hno; cases hno
        rw [← ev]
        exact RetV.go k ((a1.trans a2).trans a3)
      have hnum : ∀ p ∈ l, ∃ i, p.2 = .int i := by
        have z : ((l.map fun p => numD p.2).all id) = true := by simpa using hb2
        rw [List.all_map, List.all_eq_true] at z
        intro p hp
        have q := z p hp
        have q' : numD p.2 = true := q
        cases h2 : p.2 with
        | int i => exact ⟨i, rfl⟩
        | _ => rw [h2] at q'; cases q'
      obtain ⟨is, his⟩ : ∃ is : List Int, l.map (·.2) = is.map .int := by
        clear hlen hb hb2 hl h hs lenA e1 k
        induction l with
        | nil => exact ⟨[], rfl⟩
        | cons p l ih =>
          obtain ⟨i, hi⟩ := hnum p List.mem_cons_self
          obtain ⟨is, his⟩ := ih fun q hq => hnum q (List.mem_cons_of_mem _ hq)
          exact ⟨i :: is, by rw [List.map_cons, List.map_cons, hi, his]⟩
      have a12 := a1.trans a2
      have hdp : Dp K H (.ref a) (.list (is.map .int)) := by
        refine .lst h ?_
        rw [← his]
        refine dps_map _ _ l fun p hp => ?_
        have q := hl p hp
        obtain ⟨i, hi⟩ := hnum p hp
        rw [hi] at q ⊢
        generalize p.1 = pv at q ⊢
        cases q
        exact .int i
      refine s_ret (ev_any (K := K) (bs := (List.range c.length).map fun k => decide (is = (rot c k).map Int.ofNat)) ?_) fun H3 a3 => ?_
      · rw [List.map_map]
        have ht : c.length = (c.length : Int).toNat := by omega
        rw [ht]
        refine el_mapR (j := 3) _ (ea_cons (lenB a12) ea_nil) (by omega) fun i H4 a4 hi => ?_
        have a14 := a12.trans a4
        exact ev_opL (ev_var rfl) (el_rot rfl rfl (ex_l a14 hS) hc) fun p H5 hp e5 => rv_eqD (dp_up (a14.trans e5) hdp) (.lst (sq_of hp) (dp_nats _)) (pd_ints is) (pd_nats _) (by
          rw [lst_inj]
          have : (rot c i).map natD = ((rot c i).map Int.ofNat).map PyData.int := by rw [List.map_map]; rfl
          rw [this, map_inj int_inj])
      · refine RetV.go ?_ (a12.trans a3)
        have ev : roundB c (.list (l.map (·.2))) = (((List.range c.length).map fun k => decide (is = (rot c k).map Int.ofNat)).any id) := by
          rw [Bool.eq_iff_iff, roundB_iff, List.any_map, List.any_eq_true, his]
          constructor
          · rintro ⟨e, he, k, hk, rfl⟩
            refine ⟨k, List.mem_range.mpr hk, ?_⟩
            show decide (is = (rot c k).map Int.ofNat) = true
            rw [decide_eq_true_eq]
            have he' := lst_inj.mp he
            have : (rot c k).map natD = ((rot c k).map Int.ofNat).map PyData.int := by rw [List.map_map]; rfl
            rw [this, map_inj int_inj] at he'
            exact he'
          · rintro ⟨k, hk, e⟩
            have e' : is = (rot c k).map Int.ofNat := by simpa using e
            refine ⟨rot c k, ?_, k, List.mem_range.mp hk, rfl⟩
            rw [e', List.map_map]
            rfl
        rw [← ev]
        exact k
    | _ =>
      refine q_when (b := true) (et_is (et_or (b := false) (et_not (et_B (e1 (Ex.refl H)))) fun z => nomatch z) rfl) (fun _ H1 a1 => s_ret ev_c fun H2 a2 => ?_) (fun z => nomatch z)
      exact RetV.go (round_no (by rfl) k) (a1.trans a2)

end
end Sg
namespace Sg
set_option autoImplicit false
open PySem L2 Evl Big
open PyProof.Rows (envOfC)
section
variable {P : Program} {w : World} {K : PySem.W.Frag} {mg : Str → Option Value} {base : Heap} {ad : Ads}
def sp_Round_init (K : PySem.W.Frag) (C : Addr) (f : Str) : Sp := fun vs H Q _ => ∃ x dx a l, vs = [.ref x, .ref a] ∧ H x = some (.ins C dx []) ∧ SqL K H a (l.map itV) ∧ l.length ≤ 40000 ∧ (∀ y ∈ l, ItOk K H y) ∧
  ∀ H3 fv, (∀ b o, b ≠ x → H b = some o → H3 b = some o) → H3 x = some (.ins C dx (putF f fv [])) → CopyAt H l fv H3 → Q .non H3
theorem CopyAt.put {H H1 : Hp} {l : List It2} {v : V} {x : Addr} {o : HO} (h : CopyAt H l v H1) (hx : H x ≠ none) : CopyAt H l v (upd H1 x o) := by
  obtain ⟨D, ys, h1, h2, h3, h4, h5⟩ := h
  have nD : D ≠ x := fun z => hx (z ▸ h2)
  refine ⟨D, ys, h1, h2, by rw [upd_ne nD]; exact h3, h4, fun i it y e1 e2 => ?_⟩
  have q := h5 i it y e1 e2
  cases it with
  | inl p => exact q
  | inr p =>
    obtain ⟨r, z1, z2, z3, z4⟩ := q
    have nr : r ≠ x := fun z => hx (z ▸ z3)
    exact ⟨r, z1, z2, z3, by rw [upd_ne nr]; exact z4⟩
theorem ok_Round_init (T : Txt K mg ad) : C8.Mak P w K mg base 2 "Round" ad.Round (sp_Round_init K ad.Round "places") [] := by
  have c_copied : C8.Cal P w K mg base 1 "copied" (sp_copied K) [] := ok_copied T
  refine mak_of T.mk_Round sc_Round_init (fun _ _ _ _ _ _ us hl => match us, hl with | [_, _], _ => rfl) (fun vs H Q E h => ?_) (fun f cdv A outer st H vs Q E hr h => ?_)
  · obtain ⟨x, dx, a, l, rfl, _⟩ := h; rfl
  · obtain ⟨x, dx, a, l, rfl, hx, hS, hl, hit, k⟩ := h
    refine ⟨_, (pss_one (ps_fld (pv 0) (C8.pe_c c_copied hr (by decide) rfl (pa_cons (pv 1) pa_nil)) rfl)), ?_⟩
    refine s_fld1 rfl hx T.cl_Round T.no_Round_places (evp_call (Post := CopyAt H l) (ea_cons (ev_var rfl) ea_nil) fun H1 e Q q E => ⟨_, rfl, .inr ⟨a, l, rfl, ex_l e hS, hl, fun y hy => (hit y hy).mono e, fun v H2 e2 p => q v H2 e2 ?_⟩⟩) fun u H1 e hu => ?_
    · obtain ⟨D, ys, h1, h2, h3, h4, h5⟩ := p
      refine ⟨D, ys, h1, fresh_back e h2, h3, h4, fun i it y e1 e2 => ?_⟩
      have q := h5 i it y e1 e2
      cases it with
      | inl p => exact q
      | inr p =>
        obtain ⟨r, z1, z2, z3, z4⟩ := q
        exact ⟨r, z1, z2, fresh_back e z3, z4⟩
    · exact k _ u (fun b o hb q => by rw [upd_ne hb]; exact e _ _ q) upd_same (hu.put (by rw [hx]; simp))
noncomputable def roundS (s : List (Option Nat)) (p : Nat) (h : Int) (d : PyData) : Bool := match (walkd s p).2 with
  | none => false
  | some j => roundB ((walkd s p).1.drop j) d
theorem ok_Round_shows (T : Txt K mg ad) : C8.Met P w K mg base 3 ad.Round "shows" (sp_shows1 K ad.Round "places" roundS) [] := by
  have c_walked : C8.Cal P w K mg base 1 "walked" (sp_walked K) [] := ok_walked T
  have c_is_same_round : C8.Cal P w K mg base 2 "is_same_round" (sp_is_same_round K) [] := ok_is_same_round T
  refine met_of T.cl_Round T.mt_Round_shows sc_Round_shows (fun _ _ _ _ _ _ us hl => match us, hl with | [_, _, _, _], _ => rfl) (fun vs H Q E h => ?_) (fun f cdv A outer st H vs Q E hr h => ?_)
  · obtain ⟨x, d, n, h, rs, s, p, ⟨⟨lv, a, dx, fv, rfl, _⟩, _⟩, _⟩ := h; rfl
  · obtain ⟨x, d, n, h, rs, s, p, ⟨⟨lv, a, dx, fv, rfl, hx, hd, hL, hS⟩, w0, hp, hn⟩, k⟩ := h
    refine ⟨_, (pss_cons (ps_asg (C8.pe_c c_walked hr (by decide) rfl (pa_cons (pv 2) (pa_cons (pv 3) pa_nil))) (k_gt K (n := 2) (by rfl) (pgs_cons (pg_name (i := 4) sc_Round_shows.nd rfl (Or.inl rfl)) (pgs_cons (pg_name (i := 5) sc_Round_shows.nd rfl (Or.inl rfl)) pgs_nil))))
  (pss_cons (ps_if (pt_cmpR op_isN (pv 5) pe_non (nomark _)) (pss_one (ps_ret pe_bl)) pss_nil)
  (pss_one (ps_ret (C8.pe_c c_is_same_round hr (by decide) rfl (pa_cons (k_fld K (pv 0)) (pa_cons (pe_slice (k_sl K) (pv 4) (po_some (pv 5)) po_none) pa_nil))))))), ?_⟩
    have W := walkd_spec w0 hp
    have hlen := W.len_le w0 hp
    refine q_unp2 (evp_walked rfl rfl hS w0 hp hn) fun v H1 a1 ⟨t, l, z1, _, _, z4, z5⟩ => ⟨t, _, _, z1, st_of z4, ?_⟩
    cases hb : (walkd s p).2 with
    | none =>
      refine q_when (b := true) (et_test (ev_op (ev_var rfl) ev_c rv_isN)) (fun _ H2 a2 => s_ret ev_c fun H3 a3 => ?_) (fun z => nomatch z)
      have ev : roundS s p h d = false := by
        unfold roundS
        rw [hb]
      rw [← ev]
      exact RetV.go k ((a1.trans a2).trans a3)
    | some j =>
      refine q_when (b := false) (et_test (ev_op (ev_var rfl) ev_c rv_isN)) (fun z => nomatch z) fun _ H2 a2 => ?_
      have a12 := a1.trans a2
      have hj : ∀ {σ : L2.St}, σ[4]? = some (some (.ref l)) → σ[5]? = some (some (nV (some j))) → EvL (tSl (rSlL K) (tVar 4) (tPart (tVar 5)) tNoPart) σ H2 (((walkd s p).1.drop j).map natV) := fun h4 h5 => by
        have q := el_sl (K := K) (ev_var h4) (eo_some (ev_var h5)) eo_none (sq_of (a2 _ _ z5))
        rw [cut_from, ← List.map_drop] at q
        exact q
      have ev : roundS s p h d = roundB ((walkd s p).1.drop j) d := by
        unfold roundS
        rw [hb]
      rw [ev] at k
      refine s_ret (ev_callA (eap_v (ev_fld (f := "places") (ev_var (i := 0) rfl) (a12 _ _ hx) T.cl_Round T.no_Round_places (look1 _ _)) (eap_l (hj rfl rfl) eap_nil)) fun vs H4 a4 ⟨r0, e0, r, r1, e1, _, g4, e2⟩ Q q E => ?_) fun H3 a3 => RetV.go k (a12.trans a3)
      subst e0 e1 e2
      exact ⟨fv, d, r, _, rfl, hd.mono (a12.trans a4), sq_of g4, by rw [List.length_drop]; omega, q⟩

end
end Sg
namespace Sg
set_option autoImplicit false
open PySem L2 Evl Big
open PyProof.Rows (envOfC)
section
variable {P : Program} {w : World} {K : PySem.W.Frag} {mg : Str → Option Value} {base : Heap} {ad : Ads}
inductive End
  | home (m : Nat)
  | stands (q : Nat)
  | round (c : List Nat)
def endOf (s : List (Option Nat)) (p : Nat) (h : Int) : End := match (walkd s p).2 with
  | some j => .round ((walkd s p).1.drop j)
  | none => if (lastP (walkd s p).1 : Int) = h then .home ((walkd s p).1.length - 1) else .stands (lastP (walkd s p).1)
/-- the answer at x; H0: a heap that knew nothing of it -/
def AnsAt (ad : Ads) (H0 H : Hp) (x : Addr) : End → Prop
  | .home m => ∃ dx, H x = some (.ins ad.Home dx (putF "steps" (natV m) []))
  | .stands q => ∃ dx, H x = some (.ins ad.Stands dx (putF "place" (natV q) []))
  | .round c => ∃ dx D, H x = some (.ins ad.Round dx (putF "places" (.ref D) [])) ∧ H0 D = none ∧ D ≠ x ∧ H D = some (.lst (c.map natV))
theorem AnsAt.mono {H0 H H' : Hp} {x : Addr} {e : End} (a : Ex H H') (h : AnsAt ad H0 H x e) : AnsAt ad H0 H' x e := by
  cases e with
  | home m => obtain ⟨dx, h⟩ := h; exact ⟨dx, a _ _ h⟩
  | stands q => obtain ⟨dx, h⟩ := h; exact ⟨dx, a _ _ h⟩
  | round c => obtain ⟨dx, D, h1, h2, h3, h4⟩ := h; exact ⟨dx, D, a _ _ h1, h2, h3, a _ _ h4⟩
def FollowAt (ad : Ads) (H : Hp) (s : List (Option Nat)) (p : Nat) (h : Int) (v : V) (H' : Hp) : Prop := ∃ x, v = .ref x ∧ H x = none ∧ AnsAt ad H H' x (endOf s p h)
def sp_followed (K : PySem.W.Frag) (ad : Ads) : Sp := fun vs H Q _ => ∃ lv sv n h rs s p, vs = [lv, sv, natV p] ∧ Given K H lv sv n h rs s ∧ (p : Int) < n ∧ Give H (FollowAt ad H s p h) Q
theorem evp_makeA {σ : L2.St} {H : Hp} {C : Addr} {f : Str} {sp : Sp} {E : XK} {ta : TA} {P : List V → Hp → Prop} {Post : V → Hp → Prop} (h : EvAP ta σ H P) (hs : ∀ vs H1, Ex H H1 → P vs H1 → SpInit1 sp C f vs H1 Post) :
    EvP (tMake C sp [] E ta) σ H (fun v H' => ∃ x dx fv, v = .ref x ∧ H x = none ∧ H' x = some (.ins C dx (putF f fv [])) ∧ Post fv H') := fun H0 e Q q =>
  h H0 e _ fun vs H1 e1 pv x dx hx hdx hne => by
    rw [List.append_nil]
    have hx0 : H x = none := fresh_back (e.trans e1) hx
    refine hs vs H1 (e.trans e1) pv _ ?_ x dx _ _ hx upd_same fun H3 fv k h3 p => ⟨rfl, ?_⟩
    · exact made_ex (o := .ins C dx []) (Ex.refl _) hx hdx fun b o' _ hb => hb
    · exact q _ H3 (e1.trans (made_ex (Ex.refl _) hx hdx k)) ⟨x, dx, fv, rfl, hx0, h3, p⟩
def flatN (c : List Nat) : List It2 := (c.map fun a => (natV a, natD a)).map .inl
theorem flatN_vals (c : List Nat) : (flatN c).map itV = c.map natV := by
  unfold flatN
  rw [List.map_map, List.map_map]
  rfl
theorem flatN_ok {H : Hp} (c : List Nat) : ∀ y ∈ flatN c, ItOk K H y := by
  intro y hy
  unfold flatN at hy
  rw [List.map_map] at hy
  obtain ⟨a, _, rfl⟩ := List.mem_map.mp hy
  exact ⟨.int _, rfl⟩
theorem flatN_copy {H H' : Hp} {c : List Nat} {v : V} (h : CopyAt H (flatN c) v H') : ∃ D, v = .ref D ∧ H D = none ∧ H' D = some (.lst (c.map natV)) := by
  obtain ⟨D, h1, h2, h3⟩ := copy_flat h
  rw [List.map_map] at h3
  exact ⟨D, h1, h2, h3⟩
/-- Round of a list of numbers -/
theorem init_round {H H1 : Hp} {C : Addr} {f : Str} {a : Addr} {c : List Nat} (e : Ex H H1) (hS : SqL K H1 a (c.map natV)) (hc : c.length ≤ 40000) : SpInit1 (sp_Round_init K C f) C f [.ref a] H1 (fun fv H3 => ∃ D, fv = .ref D ∧ H D = none ∧ H3 D = some (.lst (c.map natV))) :=
  fun H2 e2 x dx Q E hx0 hx k => ⟨x, dx, a, flatN c, rfl, hx, by rw [flatN_vals]; exact ex_l e2 hS, by unfold flatN; rw [List.length_map, List.length_map]; exact hc, flatN_ok c, fun H3 fv g1 g2 g3 => by
    obtain ⟨D, z1, z2, z3⟩ := flatN_copy g3
    exact k H3 fv g1 g2 ⟨D, z1, fresh_back (e.trans e2) z2, z3⟩⟩
theorem ok_followed (T : Txt K mg ad) : C8.Cal P w K mg base 8 "followed" (sp_followed K ad) [] := by
  have c_need_walk : C8.Cal P w K mg base 7 "need_walk" (sp_need_walk K) [] := ok_need_walk T
  have c_walked : C8.Cal P w K mg base 1 "walked" (sp_walked K) [] := ok_walked T
  have m_Round : C8.Mak P w K mg base 2 "Round" ad.Round (sp_Round_init K ad.Round "places") [] := ok_Round_init T
  have m_Home : C8.Mak P w K mg base 2 "Home" ad.Home (sp_Home_init K ad.Home "steps") [] := ok_Home_init T
  have m_Stands : C8.Mak P w K mg base 2 "Stands" ad.Stands (sp_Home_init K ad.Stands "place") [] := ok_Stands_init T
  refine cal_of T.d_followed sc_followed (fun _ _ _ _ _ _ us hl => match us, hl with | [_, _, _], _ => rfl) (fun vs H Q E h => ?_) (fun f cdv A outer st H vs Q E hr h => ?_)
  · obtain ⟨lv, sv, n, h, rs, s, p, rfl, _⟩ := h; rfl
  · obtain ⟨lv, sv, n, h, rs, s, p, rfl, g, hp, k⟩ := h
    refine ⟨_, (pss_cons (ps_expr (C8.pe_c c_need_walk hr (by decide) rfl (pa_cons (pv 0) (pa_cons (pv 1) (pa_cons (pv 2) pa_nil)))))
  (pss_cons (ps_asg (C8.pe_c c_walked hr (by decide) rfl (pa_cons (pv 1) (pa_cons (pv 2) pa_nil))) (k_gt K (n := 2) (by rfl) (pgs_cons (pg_name (i := 3) sc_followed.nd rfl (Or.inl rfl)) (pgs_cons (pg_name (i := 4) sc_followed.nd rfl (Or.inl rfl)) pgs_nil))))
  (pss_cons (ps_if (pt_cmpR op_notN (pv 4) pe_non (nomark _)) (pss_one (ps_ret (C8.pe_mk m_Round hr (by decide) rfl (pa_cons (pe_slice (k_sl K) (pv 3) (po_some (pv 4)) po_none) pa_nil)))) pss_nil)
  (pss_cons (ps_if (pt_cmpR op_eq (pe_ix (k_list K) (pv 3) (pe_un un_neg pe_int) (fun _ _ => rfl)) (pe_ix (k_tup K) (pv 0) pe_int (fun _ _ => rfl)) (nomark _)) (pss_one (ps_ret (C8.pe_mk m_Home hr (by decide) rfl (pa_cons (pe_op op_sub (pe_callB (k_len K) (by rfl) T.n_len PySem.boot_len (pa_cons (pv 3) pa_nil)) pe_int) pa_nil)))) pss_nil)
  (pss_one (ps_ret (C8.pe_mk m_Stands hr (by decide) rfl (pa_cons (pe_ix (k_list K) (pv 3) (pe_un un_neg pe_int) (fun _ _ => rfl)) pa_nil)))))))), ?_⟩
    have L := g.ok.all
    have S := g.sok.all
    have sl : s.length = n.toNat := S.wf.len
    have ln1 := L.n1
    have ln40 := L.n40
    have hps : p < s.length := by omega
    have w0 : Wf s.length s := ⟨rfl, fun a b e => by rw [sl]; exact S.wf.lt a b e⟩
    obtain ⟨sa, rfl, hS⟩ := g.signs
    obtain ⟨la, r, rfl, hT, hR⟩ := g.land.ex
    refine q_drop (ev_call (ea_cons (ev_var rfl) (ea_cons (ev_var rfl) (ea_cons (ev_var rfl) ea_nil))) fun H1 a Q q E => ⟨_, _, n, h, rs, s, (p : Int), rfl, g.mono a, by omega, hp, q⟩) fun H1 a1 => ?_
    have W := walkd_spec w0 hps
    have hlen := W.len_le w0 hps
    have hpos := W.pos
    refine q_unp2 (evp_walked rfl rfl (ex_l a1 hS) w0 hps (by omega)) fun v H2 a2 ⟨t, l, z1, _, _, z4, z5⟩ => ⟨t, _, _, z1, st_of z4, ?_⟩
    have a12 := a1.trans a2
    have lE : ∀ {σ : L2.St} {H3 : Hp}, σ[3]? = some (some (.ref l)) → Ex H2 H3 → Ev (tOp (rIxL K) (tVar 3) (tUn (rU fun i => .int (-i)) (tC (.int 1)))) σ H3 (natV (lastP (walkd s p).1)) := fun h4 e =>
      ev_op (ev_var h4) (ev_un ev_c ru_neg) (rv_ixL (sq_of (e _ _ z5)) (at_lastP W.pos))
    cases hb : (walkd s p).2 with
    | some j =>
      have eo : endOf s p h = .round ((walkd s p).1.drop j) := by unfold endOf; rw [hb]
      refine q_when (b := true) (et_test (ev_op (ev_var rfl) ev_c rv_notN)) (fun _ H3 a3 => ?_) (fun z => nomatch z)
      have hj : ∀ {σ : L2.St}, σ[3]? = some (some (.ref l)) → σ[4]? = some (some (nV (some j))) → EvL (tSl (rSlL K) (tVar 3) (tPart (tVar 4)) tNoPart) σ H3 (((walkd s p).1.drop j).map natV) := fun h4 h5 => by
        have q := el_sl (K := K) (ev_var h4) (eo_some (ev_var h5)) eo_none (sq_of (a3 _ _ z5))
        rw [cut_from, ← List.map_drop] at q
        exact q
      have b3 := a12.trans a3
      refine s_retP (evp_makeA (f := "places") (Post := fun fv H' => ∃ D, fv = .ref D ∧ H3 D = none ∧ H' D = some (.lst (((walkd s p).1.drop j).map natV))) (eap_l (hj rfl rfl) eap_nil) fun vs H4 a4 ⟨r0, r1, e1, _, g4, e2⟩ => ?_) fun v H4 a4 ⟨x, dx, fv, e1, hx0, hx, D, e2, hD0, hD⟩ => ?_
      · subst e1 e2
        exact init_round a4 (sq_of g4) (by rw [List.length_drop]; omega)
      · subst e1 e2
        refine k _ _ (b3.trans a4) ⟨x, rfl, fresh_back b3 hx0, ?_⟩
        rw [eo]
        have nD : D ≠ x := fun z => by rw [z, hx] at hD; cases hD
        exact ⟨dx, D, hx, fresh_back b3 hD0, nD, hD⟩
    | none =>
      refine q_when (b := false) (et_test (ev_op (ev_var rfl) ev_c rv_notN)) (fun z => nomatch z) fun _ H3 a3 => ?_
      have b3 := a12.trans a3
      refine q_when (et_test (ev_op (lE rfl a3) (ev_op (ev_var rfl) ev_c (rv_ixT (ex_t b3 hT) (atI_nat (j := 1) rfl))) (rv_eq rfl))) (fun he H4 a4 => ?_) fun he H4 a4 => ?_
      · have heq : (lastP (walkd s p).1 : Int) = h := by
          have z := of_decide_eq_true he
          unfold natV at z
          injection z
        have eo : endOf s p h = .home ((walkd s p).1.length - 1) := by unfold endOf; rw [hb]; exact if_pos heq
        have b4 := b3.trans a4
        refine s_retP (evp_make (f := "steps") (ea_cons (ev_is (ev_op (ev_len (K := K) (ev_var rfl) (sq_of (a4 _ _ (a3 _ _ z5)))) ev_c rv_I0) (w := natV ((walkd s p).1.length - 1)) ?_) ea_nil) (init1_of (d := natD _) (.int _) rfl)) fun v H5 a5 ⟨x, dx, fv, e1, hx0, hx, e2⟩ => ?_
        · rw [List.length_map]
          unfold natV
          congr 1
          omega
        · subst e1 e2
          refine k _ _ (b4.trans a5) ⟨x, rfl, fresh_back b4 hx0, ?_⟩
          rw [eo]
          exact ⟨dx, hx⟩
      · have heq : ¬ (lastP (walkd s p).1 : Int) = h := by
          intro z
          have := of_decide_eq_false he
          apply this
          unfold natV
          rw [z]
        have eo : endOf s p h = .stands (lastP (walkd s p).1) := by unfold endOf; rw [hb]; exact if_neg heq
        have b4 := b3.trans a4
        refine s_retP (evp_make (f := "place") (ea_cons (lE rfl (a3.trans a4)) ea_nil) (init1_of (d := natD _) (.int _) rfl)) fun v H5 a5 ⟨x, dx, fv, e1, hx0, hx, e2⟩ => ?_
        subst e1 e2
        refine k _ _ (b4.trans a5) ⟨x, rfl, fresh_back b4 hx0, ?_⟩
        rw [eo]
        exact ⟨dx, hx⟩

end
end Sg
namespace Sg
set_option autoImplicit false
open PySem L2 Evl Big
open PyProof.Rows (envOfC)
section
variable {P : Program} {w : World} {K : PySem.W.Frag} {mg : Str → Option Value} {base : Heap} {ad : Ads}
/-- signs whose roads are not among these are taken down -/
def keepS (rs : List (Int × Int)) (p : Nat) : Option Nat → Option Nat
  | none => none
  | some q => if ((p : Int), (q : Int)) ∈ rs then some q else none
theorem keepS_in {rs : List (Int × Int)} {p q : Nat} (h : ((p : Int), (q : Int)) ∈ rs) : keepS rs p (some q) = some q := if_pos h
theorem keepS_out {rs : List (Int × Int)} {p q : Nat} (h : ¬ ((p : Int), (q : Int)) ∈ rs) : keepS rs p (some q) = none := if_neg h
def rightS (rs : List (Int × Int)) (s : List (Option Nat)) : List (Option Nat) := (List.range s.length).map fun p => keepS rs p (nx s p)
def sp_law_land_right (K : PySem.W.Frag) : Sp := fun vs H Q _ => ∃ lv n h rs a s, vs = [lv, .ref a] ∧ LandAt K H lv n h rs ∧ rs.length ≤ 300 ∧ SqL K H a (s.map nV) ∧ s.length ≤ 1000 ∧ RetL ((rightS rs s).map nV) H Q
theorem LandAt.dpR {H : Hp} {r : Addr} {rs : List (Int × Int)} (h : RoadsAt K H r rs) : Dp K H (.ref r) (.list (rs.map rdD)) := by
  obtain ⟨ks, k1, k2, k3⟩ := h
  have e : rs.map rdD = ks.map fun p => .tuple (p.2.map .int) := by
    have : (ks.map (·.2)).map (fun l => PyData.tuple (l.map .int)) = (rs.map fun q => [q.1, q.2]).map (fun l => PyData.tuple (l.map .int)) := by rw [k3]
    rw [List.map_map, List.map_map] at this
    exact this.symm
  refine .lst k1 ?_
  rw [e]
  exact dps_map _ _ ks fun p hp => .tup (k2 p hp) (dp_ints p.2)
theorem pd_rd (p : Int × Int) : Pd 1 (rdD p) := .tup fun d hd => by
  rcases List.mem_cons.mp hd with rfl | hd
  · exact .int _ _
  · rw [List.mem_singleton.mp hd]; exact .int _ _
theorem pd_rds (rs : List (Int × Int)) : Pd 2 (.list (rs.map rdD)) := .lst fun d hd => by
  obtain ⟨p, _, rfl⟩ := List.mem_map.mp hd
  exact pd_rd p
theorem rd_mem {p : Int × Int} {rs : List (Int × Int)} : rdD p ∈ rs.map rdD ↔ p ∈ rs := by
  rw [List.mem_map]
  constructor
  · rintro ⟨⟨a, b⟩, hm, e⟩
    unfold rdD at e
    injection e with e
    injection e with e1 e
    injection e1 with e1
    injection e with e2 _
    injection e2 with e2
    have : p = (a, b) := by cases p; simp_all
    rw [this]; exact hm
  · intro h; exact ⟨p, h, rfl⟩
/-- (i, j) in a land's roads -/
theorem ev_road {σ : L2.St} {H : Hp} {ta tb tc : TE} {x y : Int} {r : Addr} {rs : List (Int × Int)} (h1 : Ev ta σ H (.int x)) (h2 : Ev tb σ H (.int y)) (h3 : ∀ H1, Ex H H1 → Ev tc σ H1 (.ref r)) (hR : RoadsAt K H r rs) : Ev (tOp (rInD K) (tTup (tCons ta (tCons tb tNil))) tc) σ H (.bl (decide ((x, y) ∈ rs))) :=
  ev_opU1 (eu_tup (ea_cons h1 (ea_cons h2 ea_nil)) (by show 2 ≤ 100000; decide)) h3 fun p H1 hp e => rv_inD (.tup (st_of hp) (.cons (.int x) (.cons (.int y) .nil))) (LandAt.dpR (hR.mono e)) (pd_rd (x, y)) (pd_rds rs) (rd_mem (p := (x, y)))
theorem ok_law_land_right (T : Txt K mg ad) : C8.Cal P w K mg base 2 "_law_land_right" (sp_law_land_right K) [] := by
  refine cal_of T.d__law_land_right sc__law_land_right (fun _ _ _ _ _ _ us hl => match us, hl with | [_, _], _ => rfl) (fun vs H Q E h => ?_) (fun f cdv A outer st H vs Q E hr h => ?_)
  · obtain ⟨lv, n, h, rs, a, s, rfl, _⟩ := h; rfl
  · obtain ⟨lv, n, h, rs, a, s, rfl, hL, hrs, hS, hs, k⟩ := h
    have hu65 := hu65_of hr
    obtain ⟨la, r, rfl, hT, hR⟩ := hL.ex
    refine ⟨_, (pss_one (ps_ret (pe_lc (own := [("_law_place", 2), ("_law_sign", 3)]) (g := _) (tt := tYes) rfl sc__law_land_right.nd (pi_enum rfl T.n_enumerate (pa_cons (pv 1) pa_nil)) (blkOk_by (N := N__law_land_right) (sc := C8.fnScope st__law_land_right) (by decide +kernel)) (fun _ _ _ _ _ => (k_gt K (n := 2) (by rfl) (pgs_cons (pg_name (i := 2) sc__law_land_right.nd rfl (Or.inl rfl)) (pgs_cons (pg_name (i := 3) sc__law_land_right.nd rfl (Or.inl rfl)) pgs_nil)))) (fun _ _ _ _ _ => pts_nil) (fun _ _ _ _ _ => (pe_ifExp (PW.pt (pw_or (pt_cmpR op_isN (pv 3) pe_non (nomark _)) (pw_or1 (pt_cmpR (k_inD K hu65) (pe_tup (pa_cons (pv 2) (pa_cons (pv 3) pa_nil))) (pe_ix (k_tup K) (pv 0) pe_int (fun _ _ => rfl)) (by rfl))))) (pv 3) pe_non))))), ?_⟩
    have q := el_enum (K := K) (σ := start N__law_land_right [.ref la, .ref a]) (H := H) (i1 := 2) (i2 := 3) (by decide) s nV (fun _ _ => true) (fun p o => nV (keepS rs p o)) (Post := fun _ _ => True)
      (ta := tCons (tVar 1) tNil) (t := tYes)
      (te := tIf (tOr (tTest (tOp (fun x y H Q => y = .non ∧ Q (.bl (decide (x = .non))) H) (tVar 3) (tC .non))) (tTest (tOp (rInD K) (tTup (tCons (tVar 2) (tCons (tVar 3) tNil))) (tOp (rIxT K) (tVar 0) (tC (.int 2)))))) (tVar 3) (tC .non))
      (fun H1 e1 Q q => ea_cons (ev_var rfl) ea_nil H1 e1 _ fun H2 e2 => q a H2 e2 (ex_l (e1.trans e2) hS)) (by omega) (fun k x _ H1 e1 => et_yes) (fun p o hp H1 e1 _ => ?_)
    · have eg : given s.length (fun k => (s[k]?.map ((fun _ _ => true) k)).getD false) (fun k => (s[k]?.map ((fun p o => nV (keepS rs p o)) k)).getD .non) = (rightS rs s).map nV := by
        unfold given rightS
        rw [List.map_map]
        have ef : (List.range s.length).filter (fun k => (s[k]?.map ((fun _ _ => true) k)).getD false) = List.range s.length := by
          rw [List.filter_eq_self]
          intro k hk
          rw [List.getElem?_eq_getElem (List.mem_range.mp hk)]
          rfl
        rw [ef]
        refine List.map_congr_left fun k hk => ?_
        have hk' := List.mem_range.mp hk
        rw [nx_get hk']
        rfl
      rw [eg] at q
      exact s_retL q fun p H1 hp e h1 => k p H1 hp e h1
    · cases o with
      | none => exact ev_if (b := true) (et_is (et_or (b := false) (et_test (ev_op (ev_var rfl) ev_c rv_isN)) fun z => nomatch z) rfl) (fun _ => ev_var rfl) (fun z => nomatch z)
      | some q =>
        refine ev_if (b := decide (((p : Int), (q : Int)) ∈ rs)) (et_is (et_or (et_test (ev_op (ev_var rfl) ev_c rv_isN)) fun _ => et_test (ev_road (ev_var rfl) (ev_var rfl) (fun H2 e2 => ev_op (ev_var rfl) ev_c (rv_ixT (ex_t (e1.trans e2) hT) (atI_nat (j := 2) rfl))) (hR.mono e1))) ?_) (fun hb => ?_) fun hb => ?_
        · rfl
        · refine ev_is (ev_var rfl) ?_
          rw [keepS_in (of_decide_eq_true hb)]
        · refine ev_is ev_c ?_
          rw [keepS_out (of_decide_eq_false hb)]
          rfl

end
end Sg
namespace Sg
set_option autoImplicit false
open PySem L2 Evl Big
open PyProof.Rows (envOfC)
section
variable {P : Program} {w : World} {K : PySem.W.Frag} {mg : Str → Option Value} {base : Heap} {ad : Ads}
theorem orb_below {s : List (Option Nat)} {p k m a : Nat} (h : orb s p (k + m) = some a) : ∃ b, orb s p k = some b := by
  rw [orb_add] at h
  cases e : orb s p k with
  | none => rw [e] at h; cases h
  | some b => exact ⟨b, rfl⟩
theorem ends_at {s : List (Option Nat)} {p g k a : Nat} (w : Wf s.length s) (hp : p < s.length) (hg : nx s g = none) (hk : k ≤ s.length + 1) (ho : orb s p k = some a) (ht : ¬ (a ≠ g ∧ nx s a ≠ none ∧ k ≤ s.length)) :
    (a = g → endOf s p g = .home k) ∧ (a ≠ g → nx s a = none → endOf s p g = .stands a) ∧ (a ≠ g → nx s a ≠ none → ∃ c i, endOf s p g = .round c ∧ i < c.length ∧ c.length ≤ s.length ∧ IsRing s c ∧ (rot c i)[0]? = some a) := by
  have W := walkd_spec w hp
  have hlen := W.len_le w hp
  unfold endOf
  generalize (walkd s p).1 = way at W hlen
  generalize (walkd s p).2 = b at W
  cases b with
  | none =>
    have pos := W.pos
    have hq := lastP_get pos
    have hq2 : nx s (lastP way) = none := W.last _ hq
    have klt : k < way.length := by
      by_cases c : k < way.length
      · exact c
      · exfalso
        have e : k = way.length + (k - way.length) := by omega
        rw [e] at ho
        obtain ⟨b, hb⟩ := orb_below ho
        have e2 : orb s p way.length = (orb s p (way.length - 1)).bind (nx s) := by
          conv => lhs; rw [show way.length = (way.length - 1) + 1 by omega]
          rfl
        rw [e2, W.orb _ (by omega), hq] at hb
        have hb' : nx s (lastP way) = some b := hb
        rw [hq2] at hb'
        cases hb'
    have ha := (W.orb k klt).symm.trans ho
    have kl : k = way.length - 1 := by
      by_cases c : k = way.length - 1
      · exact c
      · exfalso
        have e := W.step k a _ ha (List.getElem?_eq_getElem (show k + 1 < way.length by omega))
        apply ht
        refine ⟨fun z => ?_, fun z => ?_, by omega⟩
        · rw [z, hg] at e; cases e
        · rw [z] at e; cases e
    have hl : a = lastP way := by
      rw [kl, hq] at ha
      exact (Option.some.inj ha).symm
    subst hl
    refine ⟨fun z => ?_, fun z _ => ?_, fun z z2 => absurd hq2 z2⟩
    · show (if ((lastP way : Nat) : Int) = (g : Int) then End.home (way.length - 1) else _) = _
      rw [if_pos (by rw [z]), ← kl]
    · show (if ((lastP way : Nat) : Int) = (g : Int) then End.home (way.length - 1) else _) = _
      rw [if_neg (by omega)]
  | some j =>
    have hj := W.ok j rfl
    have hna : nx s a ≠ none := by
      obtain ⟨i, x, _, hx, _⟩ := W.late (t := k + 1 + way.length) (by omega)
      obtain ⟨y, hy⟩ := orb_below hx
      have hy' : (orb s p k).bind (nx s) = some y := hy
      rw [ho] at hy'
      intro z
      have hy'' : nx s a = some y := hy'
      rw [z] at hy''
      cases hy''
    refine ⟨fun z => absurd hg (z ▸ hna), fun _ z => absurd z hna, fun z _ => ?_⟩
    have kn : way.length ≤ k := by
      by_cases c : way.length ≤ k
      · exact c
      · exact absurd ⟨z, hna, by omega⟩ ht
    obtain ⟨i, x, h1, h2, h3⟩ := W.late kn
    rw [ho] at h2
    cases h2
    exact ⟨_, i, rfl, h1, by rw [List.length_drop]; omega, W.ring, h3⟩
def kindS : End → Str
  | .home _ => "home"
  | .stands _ => "stands"
  | .round _ => "round"
def WhatAt (H H' : Hp) (x : V) : End → Prop
  | .home m => x = natV m
  | .stands q => x = natV q
  | .round c => ∃ l d, x = .ref l ∧ H l = none ∧ H' l = some (.lst (d.map natV)) ∧ Turns c d
theorem WhatAt.mono {H H1 H2 : Hp} {x : V} {e : End} (a : Ex H1 H2) (h : WhatAt H H1 x e) : WhatAt H H2 x e := by
  cases e with
  | home m => exact h
  | stands q => exact h
  | round c => obtain ⟨l, d, h1, h2, h3, h4⟩ := h; exact ⟨l, d, h1, h2, a _ _ h3, h4⟩
theorem WhatAt.back {H0 H H1 : Hp} {x : V} {e : End} (a : Ex H0 H) (h : WhatAt H H1 x e) : WhatAt H0 H1 x e := by
  cases e with
  | home m => exact h
  | stands q => exact h
  | round c => obtain ⟨l, d, h1, h2, h3, h4⟩ := h; exact ⟨l, d, h1, fresh_back a h2, h3, h4⟩
def EndAt (H : Hp) (s : List (Option Nat)) (p : Nat) (h : Int) (v : V) (H' : Hp) : Prop := ∃ t x, v = .ref t ∧ H t = none ∧ H' t = some (.tup [.str (kindS (endOf s p h)), x]) ∧ WhatAt H H' x (endOf s p h)
theorem EndAt.back {H0 H H1 : Hp} {s : List (Option Nat)} {p : Nat} {h : Int} {v : V} (a : Ex H0 H) (q : EndAt H s p h v H1) : EndAt H0 s p h v H1 := by
  obtain ⟨t, x, h1, h2, h3, h4⟩ := q
  exact ⟨t, x, h1, fresh_back a h2, h3, h4.back a⟩
/-- what the law asks of a land and its signs -/
structure Laid (K : PySem.W.Frag) (H : Hp) (lv sv : V) (n h : Int) (rs : List (Int × Int)) (s : List (Option Nat)) : Prop where
  land : LandAt K H lv n h rs
  signs : ∃ a, sv = .ref a ∧ SqL K H a (s.map nV)
  wf : Wf s.length s
  len : (s.length : Int) = n
  few : s.length ≤ 40
  home : 0 ≤ h ∧ h < n
  none_ : nx s h.toNat = none
theorem Laid.mono {H H' : Hp} {lv sv : V} {n h : Int} {rs : List (Int × Int)} {s : List (Option Nat)} (e : Ex H H') (g : Laid K H lv sv n h rs s) : Laid K H' lv sv n h rs s := by
  obtain ⟨h1, ⟨a, h2, h3⟩, h4, h5, h6, h7, h8⟩ := g
  exact ⟨h1.mono e, ⟨a, h2, ex_l e h3⟩, h4, h5, h6, h7, h8⟩
def sp_law_end (K : PySem.W.Frag) : Sp := fun vs H Q _ => ∃ lv sv n h rs s p, vs = [lv, sv, natV p] ∧ Laid K H lv sv n h rs s ∧ p < s.length ∧ Give H (EndAt H s p h) Q
theorem ok_law_end (T : Txt K mg ad) : C8.Cal P w K mg base 1 "_law_end" (sp_law_end K) [] := by
  refine cal_of T.d__law_end sc__law_end (fun _ _ _ _ _ _ us hl => match us, hl with | [_, _, _], _ => rfl) (fun vs H Q E h => ?_) (fun f cdv A outer st H vs Q E hr h => ?_)
  · obtain ⟨lv, sv, n, h, rs, s, p, rfl, _⟩ := h; rfl
  · obtain ⟨lv, sv, n, h, rs, s, p, rfl, ⟨hL, ⟨a, rfl, hS⟩, w0, hn, h40, ⟨h0, h1⟩, hno⟩, hp, k⟩ := h
    obtain ⟨la, r, rfl, hT, hR⟩ := hL.ex
    refine ⟨_, (pss_cons (ps_set (i := 3) sc__law_end.nd rfl (Or.inl rfl) pe_int)
  (pss_cons (ps_while PassesOwn.never (PW.pt (pw_and (pt_cmpR op_ne (pv 2) (pe_ix (k_tup K) (pv 0) pe_int (fun _ _ => rfl)) (nomark _)) (pw_and (pt_cmpR op_notN (pe_ix (k_list K) (pv 1) (pv 2) (fun _ _ => rfl)) pe_non (nomark _)) (pw_and1 (pt_cmpR op_le (pv 3) (pe_ix (k_tup K) (pv 0) pe_int (fun _ _ => rfl)) (nomark _))))))
    (pss_one (ps_par (i := 2) (j := 3) (by rfl) sc__law_end.nd rfl rfl (by decide) rfl rfl (pa_cons (pe_ix (k_list K) (pv 1) (pv 2) (fun _ _ => rfl)) (pa_cons (pe_op op_add (pv 3) pe_int) pa_nil)) (by rfl))))
  (pss_cons (ps_if (pt_cmpR op_eq (pv 2) (pe_ix (k_tup K) (pv 0) pe_int (fun _ _ => rfl)) (nomark _)) (pss_one (ps_ret (pe_tup (pa_cons pe_str (pa_cons (pv 3) pa_nil))))) pss_nil)
  (pss_cons (ps_if (pt_cmpR op_isN (pe_ix (k_list K) (pv 1) (pv 2) (fun _ _ => rfl)) pe_non (nomark _)) (pss_one (ps_ret (pe_tup (pa_cons pe_str (pa_cons (pv 2) pa_nil))))) pss_nil)
  (pss_cons (ps_par (i := 4) (j := 5) (by rfl) sc__law_end.nd rfl rfl (by decide) rfl rfl (pa_cons (pe_lst (pa_cons (pv 2) pa_nil)) (pa_cons (pe_ix (k_list K) (pv 1) (pv 2) (fun _ _ => rfl)) pa_nil)) (by rfl))
  (pss_cons (ps_while PassesOwn.never (pt_cmpR op_ne (pv 5) (pv 2) (nomark _))
    (pss_cons (ps_expr (pe_bm PySem.F.plainAttrs_list PySem.F.slot_list_append PySem.F.type_list_append mt_append (pv 4) (pa_cons (pv 5) pa_nil)))
  (pss_one (ps_set (i := 5) sc__law_end.nd rfl (Or.inl rfl) (pe_ix (k_list K) (pv 1) (pv 5) (fun _ _ => rfl))))))
  (pss_one (ps_ret (pe_tup (pa_cons pe_str (pa_cons (pv 4) pa_nil))))))))))), ?_⟩
    obtain ⟨g, hg⟩ : ∃ g : Nat, h = (g : Int) := ⟨h.toNat, by omega⟩
    subst hg
    have hno : nx s g = none := hno
    have hg : g < s.length := by omega
    refine q_asg ev_c fun H1 a1 => ?_
    have homeE : ∀ {σ : L2.St} {H2 : Hp}, σ[0]? = some (some (.ref la)) → Ex H H2 → Ev (tOp (rIxT K) (tVar 0) (tC (.int 1))) σ H2 (.int (g : Int)) := fun h0 e => ev_op (ev_var h0) ev_c (rv_ixT (ex_t e hT) (atI_nat (j := 1) rfl))
    have manyE : ∀ {σ : L2.St} {H2 : Hp}, σ[0]? = some (some (.ref la)) → Ex H H2 → Ev (tOp (rIxT K) (tVar 0) (tC (.int 0))) σ H2 (.int n) := fun h0 e => ev_op (ev_var h0) ev_c (rv_ixT (ex_t e hT) (atI_nat (j := 0) rfl))
    have signE : ∀ {σ : L2.St} {H2 : Hp} {i x : Nat}, σ[1]? = some (some (.ref a)) → σ[i]? = some (some (natV x)) → x < s.length → Ex H H2 → Ev (tOp (rIxL K) (tVar 1) (tVar i)) σ H2 (nV (nx s x)) := fun h1 h2 hx e => ev_op (ev_var h1) (ev_var h2) (rv_ixL (ex_l e hS) (at_of (j := _) rfl (sign_at hx)))
    refine q_while (fun m σ' H' => ∃ k x, k ≤ s.length + 1 ∧ m = s.length + 1 - k ∧ orb s p k = some x ∧ x < s.length ∧ Ex H H' ∧ σ' = [some (.ref la), some (.ref a), some (natV x), some (natV k), none, none]) (s.length + 1) ⟨0, p, by omega, by omega, rfl, hp, a1, rfl⟩ ?_
    rintro m σ' H' ⟨i, x, b1, b2, b3, b4, b5, rfl⟩
    refine ⟨!decide (V.int (x : Int) = V.int (g : Int)) && (!decide (nV (nx s x) = .non) && decide ((i : Int) ≤ n)), et_and (et_test (ev_op (ev_var rfl) (homeE rfl b5) (rv_ne rfl))) fun _ => et_and (et_test (ev_op (signE rfl rfl b4 b5) ev_c rv_notN)) fun _ => et_test (ev_op (ev_var rfl) (manyE rfl b5) rv_I0), fun hb H2 a2 => ⟨fun σ2 H2 => ∃ x', orb s p (i + 1) = some x' ∧ x' < s.length ∧ i + 1 ≤ s.length + 1 ∧ Ex H H2 ∧ σ2 = [some (.ref la), some (.ref a), some (natV x'), some (natV (i + 1)), none, none], ?_, ?_⟩, fun hb H2 a2 => ?_⟩
    · rintro σ2 H3 ⟨x', c1, c2, c3, c4, c5⟩
      exact ⟨_, by omega, i + 1, x', c3, rfl, c1, c2, c4, c5⟩
    · simp only [Bool.and_eq_true, Bool.not_eq_true', decide_eq_false_iff_not, decide_eq_true_eq] at hb
      obtain ⟨_, hb2, hb3⟩ := hb
      obtain ⟨y, hy⟩ : ∃ y, nx s x = some y := by
        cases e : nx s x with
        | none => rw [e] at hb2; exact absurd rfl hb2
        | some y => exact ⟨y, rfl⟩
      have hy2 := w0.lt _ _ hy
      refine s_par2 (eap_v (signE rfl rfl b4 (b5.trans a2)) (eap_v (ev_op (ev_var rfl) ev_c rv_I0) eap_nil)) fun vs H3 a3 ⟨r1, e1, r2, e2, e3⟩ => ?_
      subst e3 e2 e1
      refine ⟨_, _, rfl, y, ?_, hy2, by omega, (b5.trans a2).trans a3, ?_⟩
      · show (orb s p i).bind (nx s) = some y
        rw [b3]; exact hy
      · rw [hy]; rfl
    · have ht : ¬ (x ≠ g ∧ nx s x ≠ none ∧ i ≤ s.length) := by
        rintro ⟨z1, z2, z3⟩
        obtain ⟨y, hy⟩ : ∃ y, nx s x = some y := by
          cases e : nx s x with
          | none => exact absurd e z2
          | some y => exact ⟨y, rfl⟩
        rw [hy] at hb
        have h1 : ¬ (V.int (x : Int) = V.int (g : Int)) := fun z => by injection z with z; exact z1 (by omega)
        have h2 : ¬ (nV (some y) = .non) := fun z => by cases z
        rw [decide_eq_false h1, decide_eq_false h2, decide_eq_true (by omega)] at hb
        cases hb
      obtain ⟨E1, E2, E3⟩ := ends_at w0 hp hno b1 b3 ht
      have b52 := b5.trans a2
      refine q_when (et_test (ev_op (ev_var rfl) (homeE rfl b52) (rv_eq rfl))) (fun hb H3 a3 => ?_) fun hb H3 a3 => ?_
      · have e : x = g := by
          have z := of_decide_eq_true hb
          injection z with z
          omega
        have ee := E1 e
        refine s_retU (eu_tup (ea_cons ev_c (ea_cons (ev_var rfl) ea_nil)) (by show 2 ≤ 100000; decide)) fun t H4 ht0 a4 h4 => k _ _ (b52.trans a3 |>.trans a4) ⟨t, natV i, rfl, fresh_back (b52.trans a3) ht0, ?_, ?_⟩
        · rw [ee]; exact h4
        · rw [ee]; rfl
      · have e : x ≠ g := fun z => by
          have z2 := of_decide_eq_false hb
          exact z2 (by rw [z]; rfl)
        have b53 := b52.trans a3
        refine q_when (et_test (ev_op (signE rfl rfl b4 b53) ev_c rv_isN)) (fun hb H4 a4 => ?_) fun hb H4 a4 => ?_
        · have hx : nx s x = none := by
            have z := of_decide_eq_true hb
            cases e : nx s x with
            | none => rfl
            | some y => rw [e] at z; cases z
          have ee := E2 e hx
          refine s_retU (eu_tup (ea_cons ev_c (ea_cons (ev_var rfl) ea_nil)) (by show 2 ≤ 100000; decide)) fun t H5 ht0 a5 h5 => k _ _ (b53.trans a4 |>.trans a5) ⟨t, natV x, rfl, fresh_back (b53.trans a4) ht0, ?_, ?_⟩
          · rw [ee]; exact h5
          · rw [ee]; rfl
        · obtain ⟨y, hy⟩ : ∃ y, nx s x = some y := by
            have z := of_decide_eq_false hb
            cases e : nx s x with
            | none => rw [e] at z; exact absurd rfl z
            | some y => exact ⟨y, rfl⟩
          obtain ⟨c, i0, ee, hi0, hcl, R0, hd0⟩ := E3 e (by rw [hy]; simp)
          have R := R0.rot hi0
          have hdl : (rot c i0).length ≤ 40 := by rw [rot_len]; omega
          have tc : Turns c (rot c i0) := ⟨i0, hi0, rfl⟩
          generalize rot c i0 = d at R hdl tc hd0
          have hdp := R.pos
          have b54 := b53.trans a4
          refine q_par2 (eap_l (el_lst (ea_cons (ev_var rfl) ea_nil) (by show 1 ≤ 100000; decide)) (eap_v (signE rfl rfl b4 b54) eap_nil)) fun vs H5 a5 ⟨l, r1, e1, hl0, hl, v, e2, e3⟩ => ?_
          subst e3 e2 e1
          refine ⟨_, _, rfl, ?_⟩
          have hl0 := fresh_back b54 hl0
          have b55 := b54.trans a5
          refine q_while (fun m σ' H' => ∃ k y, 1 ≤ k ∧ k ≤ d.length ∧ m = d.length - k ∧ y < s.length ∧ (k < d.length → d[k]? = some y) ∧ (k = d.length → y = x) ∧ Ex H H' ∧ H' l = some (.lst ((d.take k).map natV)) ∧ σ' = [some (.ref la), some (.ref a), some (natV x), some (natV i), some (.ref l), some (natV y)]) (d.length - 1) ⟨1, y, Nat.le_refl _, hdp, rfl, w0.lt _ _ hy, fun h1 => ?_, fun h1 => ?_, b55, ?_, ?_⟩ ?_
          · rw [← hy]
            have z := R.step 0 x _ hd0 (List.getElem?_eq_getElem h1)
            rw [z]; exact List.getElem?_eq_getElem h1
          · have z := R.last x (by rw [← h1]; exact hd0)
            rw [hy, hd0] at z
            exact Option.some.inj z
          · rw [hl]
            have : d.take 1 = [x] := by
              cases d with
              | nil => cases hd0
              | cons u v => cases hd0; rfl
            rw [this]; rfl
          · rw [hy]; rfl
          · rintro m σ' H' ⟨kk, z, c1, c2, c3, c4, c5, c6, c7, c8, rfl⟩
            refine ⟨_, et_test (ev_op (ev_var rfl) (ev_var rfl) (rv_ne rfl)), fun hb H6 a6 => ⟨fun σ2 H2 => ∃ z', z' < s.length ∧ kk < d.length ∧ (kk + 1 < d.length → d[kk + 1]? = some z') ∧ (kk + 1 = d.length → z' = x) ∧ Ex H H2 ∧ H2 l = some (.lst ((d.take (kk + 1)).map natV)) ∧ σ2 = [some (.ref la), some (.ref a), some (natV x), some (natV i), some (.ref l), some (natV z')], ?_, ?_⟩, fun hb H6 a6 => ?_⟩
            · rintro σ2 H7 ⟨z', d1, d2, d3, d4, d5, d6, d7⟩
              exact ⟨_, by omega, kk + 1, z', by omega, by omega, rfl, d1, d3, d4, d5, d6, d7⟩
            · have hzx : z ≠ x := fun q => by
                have hb' : (!decide (natV z = natV x)) = true := hb
                rw [q] at hb'
                simp at hb'
              have klt : kk < d.length := by
                by_cases q : kk < d.length
                · exact q
                · exact absurd (c6 (by omega)) hzx
              have hz := c5 klt
              have hl6 := a6 _ _ c8
              refine q_app (K := K) (v := natV z) hl6 (ev_var rfl) (ev_var rfl) (by rw [List.length_map, List.length_take]; omega) fun H7 a7 => ?_
              have e7 := Ex.mut (o := .lst ((d.take kk).map natV ++ [natV z])) ((c7.trans a6).trans a7) hl0
              refine s_asg (signE rfl rfl c4 e7) fun H8 a8 => ?_
              have hnz : ∃ z', nx s z = some z' ∧ (kk + 1 < d.length → d[kk + 1]? = some z') ∧ (kk + 1 = d.length → z' = x) := by
                by_cases q : kk + 1 < d.length
                · have g1 := List.getElem?_eq_getElem q
                  exact ⟨_, R.step kk z _ hz g1, fun _ => g1, fun q2 => by omega⟩
                · have q2 := R.last z (by rw [show d.length - 1 = kk by omega]; exact hz)
                  rw [hd0] at q2
                  exact ⟨x, q2, fun q3 => absurd q3 q, fun _ => rfl⟩
              obtain ⟨z', q1, q2, q3⟩ := hnz
              refine ⟨z', w0.lt _ _ q1, klt, q2, q3, e7.trans a8, ?_, ?_⟩
              · refine a8 _ _ ?_
                rw [upd_same, List.take_succ, hz, List.map_append]
                rfl
              · rw [q1]; rfl
            · have hzx : z = x := by
                have hb' : (!decide (natV z = natV x)) = false := hb
                simp only [Bool.not_eq_false', decide_eq_true_eq] at hb'
                injection hb' with hb'
                omega
              have kl : kk = d.length := by
                by_cases q : kk = d.length
                · exact q
                · exfalso
                  have q1 := c5 (by omega)
                  rw [hzx, ← hd0] at q1
                  have q2 := (List.getElem?_inj (show kk < d.length by omega) R.nd).mp q1
                  omega
              subst kl
              rw [List.take_length] at c8
              refine s_retU (eu_tup (ea_cons ev_c (ea_cons (ev_var rfl) ea_nil)) (by show 2 ≤ 100000; decide)) fun t H7 ht0 a7 h7 => k _ _ (c7.trans a6 |>.trans a7) ⟨t, .ref l, rfl, fresh_back (c7.trans a6) ht0, ?_, ?_⟩
              · rw [ee]; exact h7
              · rw [ee]; exact ⟨l, d, rfl, hl0, a7 _ _ (a6 _ _ c8), tc⟩

end
end Sg
namespace Sg
set_option autoImplicit false
open PySem L2 Evl Big
open PyProof.Rows (envOfC)
section
variable {P : Program} {w : World} {K : PySem.W.Frag} {mg : Str → Option Value} {base : Heap} {ad : Ads}
theorem end_home {s : List (Option Nat)} {p g : Nat} (w : Wf s.length s) (hp : p < s.length) (hg : nx s g = none) : decide (V.str (kindS (endOf s p g)) = V.str "home") = reachB s g p := by
  have W := walkd_spec w hp
  unfold endOf reachB
  generalize (walkd s p).1 = way at W
  generalize (walkd s p).2 = b at W
  rw [decide_eq_decide]
  cases b with
  | none =>
    have hq := lastP_get W.pos
    rw [W.reach_none hg hq]
    show V.str (kindS (if ((lastP way : Nat) : Int) = (g : Int) then .home (way.length - 1) else .stands (lastP way))) = _ ↔ _
    by_cases c : lastP way = g
    · rw [if_pos (by rw [c])]
      exact ⟨fun _ => c, fun _ => rfl⟩
    · rw [if_neg (by omega)]
      exact ⟨(fun z => nomatch z), fun z => absurd z c⟩
  | some j => exact ⟨(fun z => nomatch z), fun z => absurd z (W.reach_round hg)⟩
def sp_law_home (K : PySem.W.Frag) : Sp := fun vs H Q _ => ∃ lv sv n h rs s, vs = [lv, sv] ∧ Laid K H lv sv n h rs s ∧ RetL ((comers s h.toNat).map natV) H Q
theorem ok_law_home (T : Txt K mg ad) : C8.Cal P w K mg base 2 "_law_home" (sp_law_home K) [] := by
  have c__law_end : C8.Cal P w K mg base 1 "_law_end" (sp_law_end K) [] := ok_law_end T
  refine cal_of T.d__law_home sc__law_home (fun _ _ _ _ _ _ us hl => match us, hl with | [_, _], _ => rfl) (fun vs H Q E h => ?_) (fun f cdv A outer st H vs Q E hr h => ?_)
  · obtain ⟨lv, sv, n, h, rs, s, rfl, _⟩ := h; rfl
  · obtain ⟨lv, sv, n, h, rs, s, rfl, g, k⟩ := h
    have g0 := g
    obtain ⟨hL, ⟨a, rfl, hS⟩, w0, hn, h40, ⟨h0, h1⟩, hno⟩ := g0
    obtain ⟨la, r, rfl, hT, hR⟩ := hL.ex
    refine ⟨_, (pss_one (ps_ret (pe_lc (own := [("_law_place", 2)]) (g := _) (tt := _) rfl sc__law_home.nd (pi_range1 rfl T.n_range (pa_cons (pe_ix (k_tup K) (pv 0) pe_int (fun _ _ => rfl)) pa_nil)) (blkOk_by (N := N__law_home) (sc := C8.fnScope st__law_home) (by decide +kernel)) (fun _ _ _ _ _ => (pg_name (i := 2) sc__law_home.nd rfl (Or.inl rfl))) (fun _ _ _ _ _ => (pts_one (pt_cmpR op_eq (pe_ix (k_tup K) (C8.pe_c c__law_end hr (by decide) rfl (pa_cons (pv 0) (pa_cons (pv 1) (pa_cons (pv 2) pa_nil)))) pe_int (fun _ _ => rfl)) pe_str (nomark _)))) (fun _ _ _ _ _ => (pv 2))))), ?_⟩
    refine s_retL (xs := (comers s h.toNat).map natV) ?_ fun p H1 hp e h1 => k p H1 hp e h1
    have q := el_filtR (n := n) (σ := start N__law_home [.ref la, .ref a]) (H := H) (j := 2) (reachB s h.toNat) natV (ea_cons (ev_op (ev_var (i := 0) rfl) ev_c (rv_ixT hT (atI_nat (j := 0) rfl))) ea_nil) (by omega) (t := tTest (tOp rEq (tOp (rIxT K) (tCall (sp_law_end K) [] C8.E0 (tCons (tVar 0) (tCons (tVar 1) (tCons (tVar 2) tNil)))) (tC (.int 0))) (tC (.str "home")))) (te := tVar 2) (fun i H1 e hi => ?_) (fun i H1 e hi _ => ev_var rfl)
    · rw [show n.toNat = s.length by omega] at q
      exact q
    · refine et_is (et_test (ev_op (ev_opP (evp_call (Post := EndAt H1 s i h) (ea_cons (ev_var rfl) (ea_cons (ev_var rfl) (ea_cons (ev_var rfl) ea_nil))) fun H2 e2 Q q E => ⟨_, _, n, h, rs, s, i, rfl, (g.mono e).mono e2, by omega, fun v H3 e3 z => q v H3 e3 (z.back e2)⟩) fun x H2 e2 ⟨t, x0, z1, z2, z3, z4⟩ => ?_) ev_c (rv_eq (x := .str (kindS (endOf s i h))) rfl))) ?_
      · subst z1
        exact ⟨_, ev_c, rv_ixT (st_of z3) (atI_nat (j := 0) rfl)⟩
      · have z := end_home (p := i) w0 (by omega) hno
        rw [show ((h.toNat : Nat) : Int) = h by omega] at z
        exact z

end
end Sg
namespace Sg
set_option autoImplicit false
open PySem L2 Evl Big
open PyProof.Rows (envOfC)
section
variable {P : Program} {w : World} {K : PySem.W.Frag} {mg : Str → Option Value} {base : Heap} {ad : Ads}
theorem ev_opQ {σ : L2.St} {H : Hp} {ta tb : TE} {x z : V} {r : R2} {Post : V → Hp → Prop} (ha : Ev ta σ H x) (hb : ∀ H1, Ex H H1 → EvP tb σ H1 Post) (hr : ∀ y H1, Ex H H1 → Post y H1 → RV r x y H1 z) : Ev (tOp r ta tb) σ H z := fun H1 e Q q =>
  ha H1 e _ fun H2 e2 => hb H2 (e.trans e2) H2 (Ex.refl _) _ fun y H3 e3 p => hr y H3 ((e.trans e2).trans e3) p H3 (Ex.refl _) Q fun H4 e4 => q H4 ((e2.trans e3).trans e4)
theorem ev_isiC {σ : L2.St} {H : Hp} {te : TE} {x dx C D : Addr} {fs : List (Str × V)} {b : Bool} (h : Ev te σ H (.ref x)) (hx : H x = some (.ins C dx fs)) (c : Cls K C) (o : OwnTy K C) (ki : PySem.W.kitOne K (.ref C) (.ref D) = some b) :
    Ev (tCB (rIsi K) (tCons te (tCons (tC (.ref D)) tNil))) σ H (.bl b) := fun H1 e Q q =>
  h H1 e _ fun H2 e2 => ⟨.ref x, .ref D, _, _, b, rfl, .own D, .base (.ins (e2 _ _ (e _ _ hx)) c o.ha o.hn o.htk o.hm), ki, q H2 e2⟩
theorem dps_get {H : Hp} : ∀ {ys : List V} {ds : List PyData}, ys.length = ds.length → (∀ (i : Nat) y d, ys[i]? = some y → ds[i]? = some d → Dp K H y d) → DpAll K H ys ds
  | [], [], _, _ => .nil
  | y :: ys, d :: ds, hl, h => .cons (h 0 y d rfl rfl) (dps_get (by simpa using hl) fun i y' d' h1 h2 => h (i + 1) y' d' (by rw [List.getElem?_cons_succ]; exact h1) (by rw [List.getElem?_cons_succ]; exact h2))
/-- an answer with what it tells -/
inductive Ans
  | home (z : Int)
  | stands (z : Int)
  | round (zs : List Int)
def AAt (K : PySem.W.Frag) (ad : Ads) (H : Hp) (x : Addr) : Ans → Prop
  | .home z => ∃ dx, H x = some (.ins ad.Home dx (putF "steps" (.int z) []))
  | .stands z => ∃ dx, H x = some (.ins ad.Stands dx (putF "place" (.int z) []))
  | .round zs => ∃ dx D, H x = some (.ins ad.Round dx (putF "places" (.ref D) [])) ∧ SqL K H D (zs.map V.int)
theorem AAt.mono {H H' : Hp} {x : Addr} {A : Ans} (e : Ex H H') (h : AAt K ad H x A) : AAt K ad H' x A := by
  cases A with
  | home z => obtain ⟨dx, h⟩ := h; exact ⟨dx, e _ _ h⟩
  | stands z => obtain ⟨dx, h⟩ := h; exact ⟨dx, e _ _ h⟩
  | round zs => obtain ⟨dx, D, h1, h2⟩ := h; exact ⟨dx, D, e _ _ h1, ex_l e h2⟩
def dueB : End → Ans → Bool
  | .home m, .home z => decide ((m : Int) = z)
  | .stands q, .stands z => decide ((q : Int) = z)
  | .round c, .round zs => decide (zs ∈ (List.range c.length).map fun k => (rot c k).map Int.ofNat)
  | _, _ => false
theorem dueB_turns {c d : List Nat} {zs : List Int} (t : Turns c d) : dueB (.round c) (.round zs) = decide (zs ∈ (List.range d.length).map fun k => (rot d k).map Int.ofNat) := by
  refine decide_eq_decide.mpr ?_
  have key : ∀ e : List Nat, zs ∈ ((List.range e.length).map fun k => (rot e k).map Int.ofNat) ↔ ∃ f, zs = f.map Int.ofNat ∧ Turns e f := by
    intro e
    rw [List.mem_map]
    constructor
    · rintro ⟨k, hk, rfl⟩
      exact ⟨_, rfl, k, List.mem_range.mp hk, rfl⟩
    · rintro ⟨f, rfl, k, hk, rfl⟩
      exact ⟨k, List.mem_range.mpr hk, rfl⟩
  rw [key, key]
  constructor
  · rintro ⟨f, h1, h2⟩; exact ⟨f, h1, (turns_iff t f).mp h2⟩
  · rintro ⟨f, h1, h2⟩; exact ⟨f, h1, (turns_iff t f).mpr h2⟩
theorem dueB_len {c : List Nat} {zs : List Int} (h : zs.length ≠ c.length) : dueB (.round c) (.round zs) = false := by
  refine decide_eq_false fun z => ?_
  obtain ⟨k, _, rfl⟩ := List.mem_map.mp z
  rw [List.length_map, rot_len] at h
  exact h rfl
theorem end_len {s : List (Option Nat)} {p : Nat} {h : Int} {c : List Nat} (w : Wf s.length s) (hp : p < s.length) (e : endOf s p h = .round c) : c.length ≤ s.length := by
  have W := walkd_spec w hp
  have hlen := W.len_le w hp
  unfold endOf at e
  generalize (walkd s p).1 = way at W hlen e
  generalize (walkd s p).2 = b at W e
  cases b with
  | none => simp only at e; split at e <;> cases e
  | some j =>
    have e' : End.round (way.drop j) = .round c := e
    injection e' with e'
    rw [← e', List.length_drop]; omega
def sp_law_due (K : PySem.W.Frag) (ad : Ads) : Sp := fun vs H Q _ => ∃ lv sv n h rs s p x A, vs = [lv, sv, natV p, .ref x] ∧ Laid K H lv sv n h rs s ∧ p < s.length ∧ AAt K ad H x A ∧ RetV (.bl (dueB (endOf s p h) A)) H Q
theorem evp_end {σ : L2.St} {H : Hp} {ta tb tc : TE} {lv sv : V} {n h : Int} {rs : List (Int × Int)} {s : List (Option Nat)} {p : Nat} (h1 : Ev ta σ H lv) (h2 : Ev tb σ H sv) (h3 : Ev tc σ H (natV p)) (g : Laid K H lv sv n h rs s) (hp : p < s.length) :
    EvP (tCall (sp_law_end K) [] C8.E0 (tCons ta (tCons tb (tCons tc tNil)))) σ H (EndAt H s p h) :=
  evp_call (Post := EndAt H s p h) (ea_cons h1 (ea_cons h2 (ea_cons h3 ea_nil))) fun H2 e2 Q q E => ⟨_, _, n, h, rs, s, p, rfl, g.mono e2, hp, fun v H3 e3 z => q v H3 e3 (z.back e2)⟩
theorem ok_law_due (T : Txt K mg ad) : C8.Cal P w K mg base 2 "_law_due" (sp_law_due K ad) [] := by
  have c__law_end : C8.Cal P w K mg base 1 "_law_end" (sp_law_end K) [] := ok_law_end T
  refine cal_of T.d__law_due sc__law_due (fun _ _ _ _ _ _ us hl => match us, hl with | [_, _, _, _], _ => rfl) (fun vs H Q E h => ?_) (fun f cdv A outer st H vs Q E hr h => ?_)
  · obtain ⟨lv, sv, n, h, rs, s, p, x, A, rfl, _⟩ := h; rfl
  · obtain ⟨lv, sv, n, h, rs, s, p, x, An, rfl, g, hp, hA, k⟩ := h
    have hu65 := hu65_of hr
    refine ⟨_, (pss_cons (ps_asg (C8.pe_c c__law_end hr (by decide) rfl (pa_cons (pv 0) (pa_cons (pv 1) (pa_cons (pv 2) pa_nil)))) (k_gt K (n := 2) (by rfl) (pgs_cons (pg_name (i := 4) sc__law_due.nd rfl (Or.inl rfl)) (pgs_cons (pg_name (i := 5) sc__law_due.nd rfl (Or.inr rfl)) pgs_nil))))
  (pss_cons (ps_if (pt_val (pe_callB (k_isi K) (by rfl) T.n_isinstance (by decide +kernel) (pa_cons (pv 3) (pa_cons (pe_glob (v := .ref ad.Home) rfl T.g_Home rfl) pa_nil)))) (pss_one (ps_ret (pe_and (pe_cmpR op_eq (pv 4) pe_str (nomark _)) (pe_one (pe_cmpR (k_eqD K hr.units) (pv 5) (k_fld K (pv 3)) (nomark _)))))) pss_nil)
  (pss_cons (ps_if (pt_val (pe_callB (k_isi K) (by rfl) T.n_isinstance (by decide +kernel) (pa_cons (pv 3) (pa_cons (pe_glob (v := .ref ad.Stands) rfl T.g_Stands rfl) pa_nil)))) (pss_one (ps_ret (pe_and (pe_cmpR op_eq (pv 4) pe_str (nomark _)) (pe_one (pe_cmpR (k_eqD K hr.units) (pv 5) (k_fld K (pv 3)) (nomark _)))))) pss_nil)
  (pss_cons (ps_if (PW.pt (pw_or (pt_cmpR op_ne (pv 4) pe_str (nomark _)) (pw_or1 (pt_cmpR op_ne (pe_callB (k_len K) (by rfl) T.n_len PySem.boot_len (pa_cons (k_fld K (pv 3)) pa_nil)) (pe_callB (k_len K) (by rfl) T.n_len PySem.boot_len (pa_cons (pv 5) pa_nil)) (nomark _))))) (pss_one (ps_ret pe_bl)) pss_nil)
  (pss_one (ps_ret (pe_cmpR (k_inD K hu65) (k_fld K (pv 3)) (pe_lc (own := [("_law_at", 6)]) (g := _) (tt := tYes) rfl sc__law_due.nd (pi_range1 rfl T.n_range (pa_cons (pe_callB (k_len K) (by rfl) T.n_len PySem.boot_len (pa_cons (pv 5) pa_nil)) pa_nil)) (blkOk_by (N := N__law_due) (sc := C8.fnScope st__law_due) (by decide +kernel)) (fun _ _ _ _ _ => (pg_name (i := 6) sc__law_due.nd rfl (Or.inl rfl))) (fun _ _ _ _ _ => pts_nil) (fun _ _ _ _ _ => (pe_op op_cat (pe_slice (k_sl K) (pv 5) (po_some (pv 6)) po_none) (pe_slice (k_sl K) (pv 5) po_none (po_some (pv 6)))))) (by rfl)))))))), ?_⟩
    refine q_unp2 (evp_end (ev_var rfl) (ev_var rfl) (ev_var rfl) g hp) fun v H1 a1 ⟨t, x0, z1, z2, z3, z4⟩ => ⟨t, _, _, z1, st_of z3, ?_⟩
    have hA1 := hA.mono a1
    have w0 := g.wf
    have h40 := g.few
    have hcl := fun c => end_len (h := h) (c := c) w0 hp
    generalize endOf s p h = e at z3 z4 k hcl
    cases An with
    | home z =>
      obtain ⟨dx, hx⟩ := hA1
      refine q_when (b := true) (et_B (ev_isiC (ev_var rfl) hx T.cl_Home T.oc_Home T.ki_Home_Home)) (fun _ H2 a2 => ?_) (fun z => nomatch z)
      refine s_ret (v := .bl (dueB e (.home z))) ?_ fun H3 a3 => RetV.go k ((a1.trans a2).trans a3)
      have fE : ∀ {σ : L2.St} {H3 : Hp}, σ[3]? = some (some (.ref x)) → Ex H2 H3 → Ev (tFld K (tVar 3) "steps") σ H3 (.int z) := fun h0 e => ev_fld (ev_var h0) (e _ _ (a2 _ _ hx)) T.cl_Home T.no_Home_steps (look1 _ _)
      cases e with
      | home m =>
        cases (show x0 = natV m from z4)
        exact ev_is (ev_andV (b := decide ((m : Int) = z)) (ev_op (ev_var rfl) ev_c (rv_eq rfl)) fun _ => ev_op (ev_var rfl) (fE rfl (Ex.refl _)) (rv_eqD (p := (m : Int) = z) (.int m) (.int z) (.int 0 _) (.int 0 _) (by simp))) rfl
      | stands q => exact ev_is (ev_andV (b := false) (ev_op (ev_var rfl) ev_c (rv_eq rfl)) fun z => nomatch z) rfl
      | round q => exact ev_is (ev_andV (b := false) (ev_op (ev_var rfl) ev_c (rv_eq rfl)) fun z => nomatch z) rfl
    | stands z =>
      obtain ⟨dx, hx⟩ := hA1
      refine q_when (b := false) (et_B (ev_isiC (ev_var rfl) hx T.cl_Stands T.oc_Stands T.ki_Stands_Home)) (fun z => nomatch z) fun _ H2 a2 => ?_
      refine q_when (b := true) (et_B (ev_isiC (ev_var rfl) (a2 _ _ hx) T.cl_Stands T.oc_Stands T.ki_Stands_Stands)) (fun _ H3 a3 => ?_) (fun z => nomatch z)
      refine s_ret (v := .bl (dueB e (.stands z))) ?_ fun H4 a4 => RetV.go k (((a1.trans a2).trans a3).trans a4)
      have fE : ∀ {σ : L2.St} {H4 : Hp}, σ[3]? = some (some (.ref x)) → Ex H3 H4 → Ev (tFld K (tVar 3) "place") σ H4 (.int z) := fun h0 e => ev_fld (ev_var h0) (e _ _ (a3 _ _ (a2 _ _ hx))) T.cl_Stands T.no_Stands_place (look1 _ _)
      cases e with
      | stands m =>
        cases (show x0 = natV m from z4)
        exact ev_is (ev_andV (b := decide ((m : Int) = z)) (ev_op (ev_var rfl) ev_c (rv_eq rfl)) fun _ => ev_op (ev_var rfl) (fE rfl (Ex.refl _)) (rv_eqD (p := (m : Int) = z) (.int m) (.int z) (.int 0 _) (.int 0 _) (by simp))) rfl
      | home q => exact ev_is (ev_andV (b := false) (ev_op (ev_var rfl) ev_c (rv_eq rfl)) fun z => nomatch z) rfl
      | round q => exact ev_is (ev_andV (b := false) (ev_op (ev_var rfl) ev_c (rv_eq rfl)) fun z => nomatch z) rfl
    | round zs =>
      obtain ⟨dx, D, hx, hD⟩ := hA1
      refine q_when (b := false) (et_B (ev_isiC (ev_var rfl) hx T.cl_Round T.oc_Round T.ki_Round_Home)) (fun z => nomatch z) fun _ H2 a2 => ?_
      refine q_when (b := false) (et_B (ev_isiC (ev_var rfl) (a2 _ _ hx) T.cl_Round T.oc_Round T.ki_Round_Stands)) (fun z => nomatch z) fun _ H3 a3 => ?_
      have a23 := a2.trans a3
      have a13 := a1.trans a23
      have fE : ∀ {σ : L2.St} {H4 : Hp}, σ[3]? = some (some (.ref x)) → Ex H3 H4 → Ev (tFld K (tVar 3) "places") σ H4 (.ref D) := fun h0 e => ev_fld (ev_var h0) (e _ _ (a23 _ _ hx)) T.cl_Round T.no_Round_places (look1 _ _)
      cases e with
      | home q =>
        refine q_when (et_is (b := true) (et_or (b := true) (et_test (ev_op (ev_var rfl) ev_c (rv_ne rfl))) fun z => nomatch z) rfl) (fun _ H4 a4 => s_ret ev_c fun H5 a5 => RetV.go k ((a13.trans a4).trans a5)) (fun z => nomatch z)
      | stands q =>
        refine q_when (et_is (b := true) (et_or (b := true) (et_test (ev_op (ev_var rfl) ev_c (rv_ne rfl))) fun z => nomatch z) rfl) (fun _ H4 a4 => s_ret ev_c fun H5 a5 => RetV.go k ((a13.trans a4).trans a5)) (fun z => nomatch z)
      | round c =>
        obtain ⟨l, d, rfl, hl0, hl, tc⟩ := z4
        have hdl : d.length ≤ 40 := by
          rw [turns_len tc]
          have := hcl c rfl
          omega
        have hD3 := ex_l a23 hD
        refine q_when (b := !decide (V.int (zs.length : Int) = V.int (d.length : Int))) (et_is (et_or (b := !decide (V.int (zs.length : Int) = V.int (d.length : Int))) (et_test (ev_op (ev_var rfl) ev_c (rv_ne rfl))) fun _ => et_test (ev_op (ev_is (ev_len (K := K) (fE rfl (Ex.refl _)) hD3) (by rw [List.length_map])) (ev_is (ev_len (K := K) (ev_var rfl) (sq_of (a23 _ _ hl))) (by rw [List.length_map])) (rv_ne rfl))) rfl) (fun hb H4 a4 => s_ret ev_c fun H5 a5 => ?_) fun hb H4 a4 => ?_
        · have hne : zs.length ≠ c.length := fun z => by
            rw [z, ← turns_len tc] at hb
            simp at hb
          rw [dueB_len hne] at k
          exact RetV.go k ((a13.trans a4).trans a5)
        · rw [dueB_turns tc] at k
          refine s_ret (v := .bl (decide (zs ∈ (List.range d.length).map fun k => (rot d k).map Int.ofNat))) ?_ fun H5 a5 => RetV.go k ((a13.trans a4).trans a5)
          refine ev_opQ (Post := fun v H2 => ∃ Dl ys, v = .ref Dl ∧ H2 Dl = some (.lst ys) ∧ ys.length = d.length ∧ ∀ (i : Nat) (y : V), ys[i]? = some y → ∃ r, y = .ref r ∧ H2 r = some (.lst ((rot d i).map natV))) (fE rfl a4) (fun H5 a5 => (el_mixR (j := 6) (n := (d.length : Int)) (fun i => .inr ((rot d i).map natV)) (ea_cons (ev_is (ev_len (K := K) (ev_var (i := 5) rfl) (sq_of ((a23.trans (a4.trans a5)) _ _ hl))) (by rw [List.length_map])) ea_nil) (by omega) fun i H6 a6 hi => el_rot (K := K) (i := 5) (j := 6) rfl rfl (sq_of ((a23.trans (a4.trans a5) |>.trans a6) _ _ hl)) (by omega)).weak fun v H6 _ ⟨Dl, ys, e1, _, e3, e4, e5⟩ => ⟨Dl, ys, e1, e3, by rw [e4]; omega, fun i y hy => by obtain ⟨r, q1, _, _, q4⟩ := e5 i y hy; exact ⟨r, q1, q4⟩⟩) fun y H5 a5 ⟨Dl, ys, e1, e3, e4, e5⟩ => ?_
          subst e1
          refine rv_inD (d := .list (zs.map .int)) (es := (List.range d.length).map fun k => .list ((rot d k).map natD)) (.lst (ex_l (a4.trans a5) hD3) (dp_ints zs)) (.lst (sq_of e3) ?_) (pd_ints zs) (m := 1) (.lst fun q hq => ?_) ?_
          · refine dps_get (by rw [e4, List.length_map, List.length_range]) fun i y0 d0 h1 h2 => ?_
            obtain ⟨r, q1, q4⟩ := e5 i y0 h1
            rw [List.getElem?_map] at h2
            obtain ⟨i', hi', q5⟩ := Option.map_eq_some_iff.mp h2
            have hi2 : i' = i := by
              rw [List.getElem?_range (by have := (List.getElem?_eq_some_iff.mp hi').1; rwa [List.length_range] at this)] at hi'
              exact (Option.some.inj hi').symm
            subst hi2 q1 q5
            exact .lst (sq_of q4) (dp_nats _)
          · obtain ⟨i, _, rfl⟩ := List.mem_map.mp hq
            exact pd_nats _
          · have e0 : ∀ k, (rot d k).map natD = ((rot d k).map Int.ofNat).map PyData.int := fun k => by rw [List.map_map]; rfl
            constructor
            · intro z
              obtain ⟨k, hk, z⟩ := List.mem_map.mp z
              have z' := lst_inj.mp z
              rw [e0, map_inj int_inj] at z'
              exact List.mem_map.mpr ⟨k, hk, z'⟩
            · intro z
              obtain ⟨k, hk, z⟩ := List.mem_map.mp z
              refine List.mem_map.mpr ⟨k, hk, ?_⟩
              rw [e0, z]

end
end Sg
namespace Sg
set_option autoImplicit false
open PySem L2 Evl Big
open PyProof.Rows (envOfC)
section
variable {P : Program} {w : World} {K : PySem.W.Frag} {mg : Str → Option Value} {base : Heap} {ad : Ads}
theorem due_round {c : List Nat} {zs : List Int} : dueB (.round c) (.round zs) = true ↔ ∃ f, zs = f.map Int.ofNat ∧ Turns c f := by
  show decide _ = true ↔ _
  rw [decide_eq_true_eq, List.mem_map]
  constructor
  · rintro ⟨k, hk, rfl⟩
    exact ⟨_, rfl, k, List.mem_range.mp hk, rfl⟩
  · rintro ⟨f, rfl, k, hk, rfl⟩
    exact ⟨k, List.mem_range.mpr hk, rfl⟩
theorem shows_home {s : List (Option Nat)} {p g : Nat} {z : Int} (w : Wf s.length s) (hp : p < s.length) (hg : nx s g = none) : homeB s p g (.int z) = dueB (endOf s p g) (.home z) := by
  have W := walkd_spec w hp
  have pos := W.pos
  have hq := lastP_get pos
  unfold homeB endOf
  generalize (walkd s p).1 = way at W pos hq
  generalize (walkd s p).2 = b at W
  cases b with
  | none =>
    show _ = dueB (if ((lastP way : Nat) : Int) = (g : Int) then .home (way.length - 1) else .stands (lastP way)) _
    by_cases c : ((lastP way : Nat) : Int) = (g : Int)
    · rw [if_pos c, decide_eq_true c, Bool.true_and]
      show decide _ = decide _
      refine decide_eq_decide.mpr ?_
      omega
    · rw [if_neg c, decide_eq_false c, Bool.false_and]
      rfl
  | some j =>
    have c : ¬ ((lastP way : Nat) : Int) = (g : Int) := fun z => by
      have e := W.last _ hq
      have e2 : lastP way = g := by omega
      rw [e2, hg] at e
      have e3 : way[j]? = none := e.symm
      have := W.ok j rfl
      rw [List.getElem?_eq_getElem this] at e3
      cases e3
    rw [decide_eq_false c, Bool.false_and]
    rfl
theorem shows_stands {s : List (Option Nat)} {p g : Nat} {z : Int} : standsB s p g (.int z) = dueB (endOf s p g) (.stands z) := by
  unfold standsB endOf
  generalize (walkd s p).1 = way
  generalize (walkd s p).2 = b
  cases b with
  | none =>
    show _ = dueB (if ((lastP way : Nat) : Int) = (g : Int) then .home (way.length - 1) else .stands (lastP way)) _
    by_cases c : ((lastP way : Nat) : Int) = (g : Int)
    · rw [if_pos c, decide_eq_true c]
      rfl
    · rw [if_neg c, decide_eq_false c]
      show decide _ = decide _
      refine decide_eq_decide.mpr ?_
      omega
  | some j => rfl
theorem shows_round {s : List (Option Nat)} {p : Nat} {h : Int} {zs : List Int} : roundS s p h (.list (zs.map .int)) = dueB (endOf s p h) (.round zs) := by
  unfold roundS endOf
  generalize (walkd s p).1 = way
  generalize (walkd s p).2 = b
  cases b with
  | none =>
    show false = dueB (if ((lastP way : Nat) : Int) = h then .home (way.length - 1) else .stands (lastP way)) _
    split <;> rfl
  | some j =>
    show roundB (way.drop j) _ = dueB (.round (way.drop j)) _
    rw [Bool.eq_iff_iff, due_round, roundB_iff]
    constructor
    · rintro ⟨e, h1, h2⟩
      refine ⟨e, ?_, h2⟩
      have z := lst_inj.mp h1
      have : e.map natD = (e.map Int.ofNat).map PyData.int := by rw [List.map_map]; rfl
      rw [this, map_inj int_inj] at z
      exact z
    · rintro ⟨e, h1, h2⟩
      refine ⟨e, ?_, h2⟩
      rw [h1, List.map_map]
      rfl
/-- an answer's own class, and what its method shows -/
structure OwnAns (P : Program) (w : World) (K : PySem.W.Frag) (mg : Str → Option Value) (base : Heap) (ad : Ads) (H : Hp) (x : Addr) (An : Ans) (k : Nat) (C : Addr) (f : Str) (g : List (Option Nat) → Nat → Int → PyData → Bool) (fv : V) (d : PyData) (dx : Addr) : Prop where
  lvl : k ≤ 3
  met : C8.Met P w K mg base k C "shows" (sp_shows1 K C f g) []
  at_ : H x = some (.ins C dx (putF f fv []))
  da : Da K H fv d
  cl : Cls K C
  ty : OwnTy K C
  ans : PySem.W.kitOne K (.ref C) (.ref ad.Answer) = some true
  no : (putF f fv []).lookup ("shows" : Str) = none
  due : ∀ s p n h rs lv sv, Laid K H lv sv n h rs s → p < s.length → g s p h d = dueB (endOf s p h) An
def aK : Ans → Nat
  | .round _ => 3
  | _ => 2
def aC (ad : Ads) : Ans → Addr
  | .home _ => ad.Home
  | .stands _ => ad.Stands
  | .round _ => ad.Round
def aF : Ans → Str
  | .home _ => "steps"
  | .stands _ => "place"
  | .round _ => "places"
noncomputable def aG : Ans → List (Option Nat) → Nat → Int → PyData → Bool
  | .home _ => homeB
  | .stands _ => standsB
  | .round _ => roundS
theorem met_ans (T : Txt K mg ad) (An : Ans) : C8.Met P w K mg base (aK An) (aC ad An) "shows" (sp_shows1 K (aC ad An) (aF An) (aG An)) [] := by
  cases An with
  | home z => exact ok_Home_shows T
  | stands z => exact ok_Stands_shows T
  | round zs => exact ok_Round_shows T
theorem aK_le (An : Ans) : aK An ≤ 3 := by cases An <;> simp [aK]
theorem own_of (T : Txt K mg ad) {H : Hp} {x : Addr} {An : Ans} (h : AAt K ad H x An) : ∃ fv d dx, OwnAns P w K mg base ad H x An (aK An) (aC ad An) (aF An) (aG An) fv d dx := by
  have hl := aK_le An
  have hm := met_ans (P := P) (w := w) (base := base) T An
  cases An with
  | home z =>
    obtain ⟨dx, hx⟩ := h
    refine ⟨_, _, dx, hl, hm, hx, .int z, T.cl_Home, T.oc_Home, T.ki_Home_Answer, no1 _ (show ¬ ("shows" : Str) = "steps" by decide), fun s p n h rs lv sv g hp => ?_⟩
    have := shows_home (z := z) (g := h.toNat) g.wf hp g.none_
    rwa [show ((h.toNat : Nat) : Int) = h by have := g.home; omega] at this
  | stands z =>
    obtain ⟨dx, hx⟩ := h
    refine ⟨_, _, dx, hl, hm, hx, .int z, T.cl_Stands, T.oc_Stands, T.ki_Stands_Answer, no1 _ (show ¬ ("shows" : Str) = "place" by decide), fun s p n h rs lv sv g hp => ?_⟩
    have := shows_stands (s := s) (p := p) (z := z) (g := h.toNat)
    rwa [show ((h.toNat : Nat) : Int) = h by have := g.home; omega] at this
  | round zs =>
    obtain ⟨dx, D, hx, hD⟩ := h
    exact ⟨_, _, dx, hl, hm, hx, .lst hD (DaAll.map _ _ zs fun x _ => .int _), T.cl_Round, T.oc_Round, T.ki_Round_Answer, no1 _ (show ¬ ("shows" : Str) = "places" by decide), fun s p n h rs lv sv g hp => shows_round⟩
theorem ev_shows {σ : L2.St} {H : Hp} {x : Addr} {An : Ans} {k : Nat} {C : Addr} {f : Str} {g : List (Option Nat) → Nat → Int → PyData → Bool} {fv : V} {d : PyData} {dx : Addr} (O : OwnAns P w K mg base ad H x An k C f g fv d dx)
    {lv sv : V} {n h : Int} {rs : List (Int × Int)} {s : List (Option Nat)} {p : Nat} {te ta tb tc : TE} (h0 : Ev te σ H (.ref x)) (h1 : Ev ta σ H lv) (h2 : Ev tb σ H sv) (h3 : Ev tc σ H (natV p)) (G : Laid K H lv sv n h rs s) (hp : p < s.length) :
    Ev (tMeth C "shows" (sp_shows1 K C f g) [] C8.E0 te (tCons ta (tCons tb (tCons tc tNil)))) σ H (.bl (dueB (endOf s p h) An)) := fun H1 e Q q =>
  h0 H1 e _ fun H2 e2 => ⟨x, dx, _, rfl, (e.trans e2) _ _ O.at_, O.no, (ea_cons h1 (ea_cons h2 (ea_cons h3 ea_nil))) H2 (e.trans e2) _ fun H3 e3 => by
    have e03 := (e.trans e2).trans e3
    have G3 := G.mono e03
    obtain ⟨a, rfl, hS⟩ := G3.signs
    refine ⟨x, d, n, h, rs, s, p, ⟨⟨lv, a, dx, fv, rfl, e03 _ _ O.at_, O.da.mono e03, G3.land, hS⟩, G.wf, hp, by have := G.few; omega⟩, ?_⟩
    rw [O.due s p n h rs lv _ G hp]
    exact fun H4 e4 => q H4 ((e2.trans e3).trans e4)⟩
def sp_law_says (K : PySem.W.Frag) (ad : Ads) : Sp := fun vs H Q _ => ∃ lv sv n h rs s p x A, vs = [lv, sv, natV p, .ref x] ∧ Laid K H lv sv n h rs s ∧ p < s.length ∧ AAt K ad H x A ∧ RetV (.bl true) H Q
theorem ok_law_says (T : Txt K mg ad) : C8.Cal P w K mg base 4 "_law_says" (sp_law_says K ad) [] := by
  have c__law_due : C8.Cal P w K mg base 2 "_law_due" (sp_law_due K ad) [] := ok_law_due T
  refine cal_of T.d__law_says sc__law_says (fun _ _ _ _ _ _ us hl => match us, hl with | [_, _, _, _], _ => rfl) (fun vs H Q E h => ?_) (fun f cdv A outer st H vs Q E hr h => ?_)
  · obtain ⟨lv, sv, n, h, rs, s, p, x, A, rfl, _⟩ := h; rfl
  · obtain ⟨lv, sv, n, h, rs, s, p, x, An, rfl, g, hp, hA, k⟩ := h
    obtain ⟨fv, d, dx, O⟩ := own_of (P := P) (w := w) (base := base) T hA
    have hk3 : aK An ≤ 3 := O.lvl
    have m_shows := O.met
    refine ⟨_, (pss_cons (ps_set (i := 4) sc__law_says.nd rfl (Or.inl rfl) (C8.pe_mt m_shows hr hk3 (pv 3) (pa_cons (pv 0) (pa_cons (pv 1) (pa_cons (pv 2) pa_nil)))))
  (pss_one (ps_ret (pe_and (pe_callB (k_isi K) (by rfl) T.n_isinstance (by decide +kernel) (pa_cons (pv 4) (pa_cons (pe_bltn (v := .ty "bool") (by rfl) T.n_bool (by decide +kernel) rfl) pa_nil))) (pe_and (pe_cmpR op_eq (pv 4) (C8.pe_c c__law_due hr (by decide) rfl (pa_cons (pv 0) (pa_cons (pv 1) (pa_cons (pv 2) (pa_cons (pv 3) pa_nil))))) (nomark _)) (pe_one (pe_callB (k_isi K) (by rfl) T.n_isinstance (by decide +kernel) (pa_cons (pv 3) (pa_cons (pe_glob (v := .ref ad.Answer) rfl T.g_Answer rfl) pa_nil))))))))), ?_⟩
    refine q_asg (ev_shows O (ev_var rfl) (ev_var rfl) (ev_var rfl) (ev_var rfl) g hp) fun H1 a1 => ?_
    refine s_ret (v := .bl true) ?_ fun H3 a3 => RetV.go k (a1.trans a3)
    refine ev_is (ev_andV (b := true) (ev_isi (d := .bool _) (ev_var rfl) (.bl _) (kit_bool _)) fun _ => ev_is (ev_andV (b := true) (ev_op (ev_var rfl) (ev_call (ea_cons (ev_var rfl) (ea_cons (ev_var rfl) (ea_cons (ev_var rfl) (ea_cons (ev_var rfl) ea_nil)))) fun H2 e Q q E => ⟨_, _, n, h, rs, s, p, x, An, rfl, g.mono (a1.trans e), hp, hA.mono (a1.trans e), q⟩) (rv_eq rfl)) fun _ => ev_isiC (ev_var rfl) (a1 _ _ O.at_) O.cl O.ty O.ans) ?_) ?_
    · rw [decide_eq_true rfl]; rfl
    · rfl

end
end Sg
namespace Sg
set_option autoImplicit false
open PySem L2 Evl Big
open PyProof.Rows (envOfC)
section
variable {P : Program} {w : World} {K : PySem.W.Frag} {mg : Str → Option Value} {base : Heap} {ad : Ads}
def ansOf : End → Ans
  | .home m => .home m
  | .stands q => .stands q
  | .round c => .round (c.map Int.ofNat)
theorem AnsAt.back {H0 H H' : Hp} {x : Addr} {e : End} (a : Ex H0 H) (h : AnsAt ad H H' x e) : AnsAt ad H0 H' x e := by
  cases e with
  | home m => exact h
  | stands q => exact h
  | round c => obtain ⟨dx, D, h1, h2, h3, h4⟩ := h; exact ⟨dx, D, h1, fresh_back a h2, h3, h4⟩
theorem due_ans {e : End} (h : ∀ c, e = .round c → 0 < c.length) : dueB e (ansOf e) = true := by
  cases e with
  | home m => exact decide_eq_true rfl
  | stands q => exact decide_eq_true rfl
  | round c => exact due_round.mpr ⟨c, rfl, 0, h c rfl, (rot_zero c).symm⟩
theorem natV_ints (c : List Nat) : c.map natV = (c.map Int.ofNat).map V.int := by
  rw [List.map_map]; rfl
theorem ans_at {H0 H : Hp} {x : Addr} {e : End} (h : AnsAt ad H0 H x e) : AAt K ad H x (ansOf e) := by
  cases e with
  | home m => exact h
  | stands q => exact h
  | round c =>
    obtain ⟨dx, D, h1, h2, h3, h4⟩ := h
    refine ⟨dx, D, h1, ?_⟩
    rw [← natV_ints]
    exact sq_of h4
theorem end_pos {s : List (Option Nat)} {p : Nat} {h : Int} {c : List Nat} (w : Wf s.length s) (hp : p < s.length) (e : endOf s p h = .round c) : 0 < c.length := by
  have W := walkd_spec w hp
  unfold endOf at e
  generalize (walkd s p).1 = way at W e
  generalize (walkd s p).2 = b at W e
  cases b with
  | none => simp only at e; split at e <;> cases e
  | some j =>
    have e' : End.round (way.drop j) = .round c := e
    injection e' with e'
    have := W.ok j rfl
    rw [← e', List.length_drop]; omega
theorem pd_n (s : List (Option Nat)) : Pd 1 (.list (s.map nD)) := .lst fun d hd => by
  obtain ⟨a, _, rfl⟩ := List.mem_map.mp hd
  cases a <;> constructor
theorem nD_inj (a b : Option Nat) (h : nD a = nD b) : a = b := by
  cases a <;> cases b <;> simp [nD] at h ⊢
  omega
theorem ans_isi (T : Txt K mg ad) {H : Hp} {x : Addr} {An : Ans} (h : AAt K ad H x An) : ∃ dx fs, H x = some (.ins (aC ad An) dx fs) := by
  cases An with
  | home z => obtain ⟨dx, h⟩ := h; exact ⟨_, _, h⟩
  | stands z => obtain ⟨dx, h⟩ := h; exact ⟨_, _, h⟩
  | round z => obtain ⟨dx, D, h, _⟩ := h; exact ⟨_, _, h⟩
def kindB : Ans → Bool × Bool × Bool
  | .home _ => (true, false, false)
  | .stands _ => (false, false, true)
  | .round _ => (false, true, false)
structure Kits (K : PySem.W.Frag) (ad : Ads) (An : Ans) : Prop where
  cl : Cls K (aC ad An)
  ty : OwnTy K (aC ad An)
  answer : PySem.W.kitOne K (.ref (aC ad An)) (.ref ad.Answer) = some true
  turned : PySem.W.kitOne K (.ref (aC ad An)) (.ref ad.Turned) = some false
  shut : PySem.W.kitOne K (.ref (aC ad An)) (.ref ad.Shut) = some false
  home : PySem.W.kitOne K (.ref (aC ad An)) (.ref ad.Home) = some (kindB An).1
  round : PySem.W.kitOne K (.ref (aC ad An)) (.ref ad.Round) = some (kindB An).2.1
  stands : PySem.W.kitOne K (.ref (aC ad An)) (.ref ad.Stands) = some (kindB An).2.2
theorem kits (T : Txt K mg ad) (An : Ans) : Kits K ad An := by
  cases An with
  | home z => exact ⟨T.cl_Home, T.oc_Home, T.ki_Home_Answer, T.ki_Home_Turned, T.ki_Home_Shut, T.ki_Home_Home, T.ki_Home_Round, T.ki_Home_Stands⟩
  | stands z => exact ⟨T.cl_Stands, T.oc_Stands, T.ki_Stands_Answer, T.ki_Stands_Turned, T.ki_Stands_Shut, T.ki_Stands_Home, T.ki_Stands_Round, T.ki_Stands_Stands⟩
  | round z => exact ⟨T.cl_Round, T.oc_Round, T.ki_Round_Answer, T.ki_Round_Turned, T.ki_Round_Shut, T.ki_Round_Home, T.ki_Round_Round, T.ki_Round_Stands⟩
theorem kind_end (e : End) : kindB (ansOf e) = (decide (V.str (kindS e) = V.str "home"), decide (V.str (kindS e) = V.str "round"), decide (V.str (kindS e) = V.str "stands")) := by
  cases e <;> rfl
theorem eqv_bools : ∀ (b : Bool × Bool × Bool), PyData.eqv (.list [.bool b.1, .bool b.2.1, .bool b.2.2]) (.list [.bool b.1, .bool b.2.1, .bool b.2.2]) = true := by
  rintro ⟨a, b, c⟩; cases a <;> cases b <;> cases c <;> simp [PyData.eqv, PyData.eqvAll]
theorem shaped_bools (a b c : Bool) : SeqAt.shaped (.list [.bool a, .bool b, .bool c]) = true := by
  cases a <;> cases b <;> cases c <;> decide
theorem rv_notB {a b : Bool} {H : Hp} : RV rNotB (.bl a) (.bl b) H (.bl (!decide (a = b))) := fun H1 _ _ q => ⟨a, b, rfl, rfl, q H1 (Ex.refl H1)⟩
/-- what the law checks of one answer -/
def sp_law_right (K : PySem.W.Frag) (ad : Ads) : Sp := fun vs H Q _ => ∃ (lv sv : V) (n h : Int) (rs : List (Int × Int)) (s : List (Option Nat)) (p : Nat) (oa : Addr) (os : List Nat), vs = [lv, sv, natV p, .ref oa] ∧ Laid K H lv sv n h rs s ∧ Given K H lv sv n h rs s ∧ p < s.length ∧ SqL K H oa (os.map natV) ∧ (∀ q ∈ os, q < s.length) ∧ os.length ≤ 1000 ∧ RetV (.bl true) H Q
theorem ok_law_right (T : Txt K mg ad) : C8.Cal P w K mg base 9 "_law_right" (sp_law_right K ad) [] := by
  have c__law_due : C8.Cal P w K mg base 2 "_law_due" (sp_law_due K ad) [] := ok_law_due T
  have c__law_end : C8.Cal P w K mg base 1 "_law_end" (sp_law_end K) [] := ok_law_end T
  have c__law_says : C8.Cal P w K mg base 4 "_law_says" (sp_law_says K ad) [] := ok_law_says T
  have c_followed : C8.Cal P w K mg base 8 "followed" (sp_followed K ad) [] := ok_followed T
  refine cal_of T.d__law_right sc__law_right (fun _ _ _ _ _ _ us hl => match us, hl with | [_, _, _, _], _ => rfl) (fun vs H Q E h => ?_) (fun f cdv A outer st H vs Q E hr h => ?_)
  · obtain ⟨lv, sv, n, h, rs, s, p, oa, os, rfl, _⟩ := h; rfl
  · obtain ⟨lv, sv, n, h, rs, s, p, oa, os, rfl, g, gv, hp, hO, hos, hol, k⟩ := h
    have m_shows := met_ans (P := P) (w := w) (base := base) T (ansOf (endOf s p h))
    have hk3 := aK_le (ansOf (endOf s p h))
    have KI := kits T (ansOf (endOf s p h))
    obtain ⟨a, rfl, hS⟩ := g.signs
    have hu := hu_of hr
    refine ⟨_, (pss_cons (ps_par (i := 4) (j := 5) (by rfl) sc__law_right.nd rfl rfl (by decide) rfl rfl (pa_cons (pe_callTy (k_lst K) (by rfl) T.n_list (by decide +kernel) (pa_cons (pv 1) pa_nil)) (pa_cons (pe_ix (k_tup K) (C8.pe_c c__law_end hr (by decide) rfl (pa_cons (pv 0) (pa_cons (pv 1) (pa_cons (pv 2) pa_nil)))) pe_int (fun _ _ => rfl)) pa_nil)) (by rfl))
  (pss_cons (ps_for PassesOwn.never rfl (pi_range1 rfl T.n_range (pa_cons pe_int pa_nil)) (pg_name (i := 6) sc__law_right.nd rfl (Or.inl rfl))
    (pss_cons (ps_set (i := 7) sc__law_right.nd rfl (Or.inr rfl) (C8.pe_c c_followed hr (by decide) rfl (pa_cons (pv 0) (pa_cons (pv 4) (pa_cons (pv 2) pa_nil)))))
  (pss_cons (ps_if (PW.pt (pw_or (pt_not (pt_val (pe_callB (k_isi K) (by rfl) T.n_isinstance (by decide +kernel) (pa_cons (pv 7) (pa_cons (pe_glob (v := .ref ad.Answer) rfl T.g_Answer rfl) pa_nil))))) (pw_or (pt_val (pe_callB (k_isi K) (by rfl) T.n_isinstance (by decide +kernel) (pa_cons (pv 7) (pa_cons (pe_glob (v := .ref ad.Turned) rfl T.g_Turned rfl) pa_nil)))) (pw_or1 (pt_val (pe_callB (k_isi K) (by rfl) T.n_isinstance (by decide +kernel) (pa_cons (pv 7) (pa_cons (pe_glob (v := .ref ad.Shut) rfl T.g_Shut rfl) pa_nil)))))))) (pss_one (ps_ret pe_bl)) pss_nil)
  (pss_cons (ps_set (i := 8) sc__law_right.nd rfl (Or.inl rfl) (pe_lst (pa_cons (pe_callB (k_isi K) (by rfl) T.n_isinstance (by decide +kernel) (pa_cons (pv 7) (pa_cons (pe_glob (v := .ref ad.Home) rfl T.g_Home rfl) pa_nil))) (pa_cons (pe_callB (k_isi K) (by rfl) T.n_isinstance (by decide +kernel) (pa_cons (pv 7) (pa_cons (pe_glob (v := .ref ad.Round) rfl T.g_Round rfl) pa_nil))) (pa_cons (pe_callB (k_isi K) (by rfl) T.n_isinstance (by decide +kernel) (pa_cons (pv 7) (pa_cons (pe_glob (v := .ref ad.Stands) rfl T.g_Stands rfl) pa_nil))) pa_nil)))))
  (pss_cons (ps_if (PW.pt (pw_or (pt_cmpR (k_neD K hr.units) (pv 8) (pe_lst (pa_cons (pe_cmpR op_eq (pv 5) pe_str (nomark _)) (pa_cons (pe_cmpR op_eq (pv 5) pe_str (nomark _)) (pa_cons (pe_cmpR op_eq (pv 5) pe_str (nomark _)) pa_nil)))) (nomark _)) (pw_or1 (pt_cmpR (k_neD K hr.units) (pv 4) (pv 1) (nomark _))))) (pss_one (ps_ret pe_bl)) pss_nil)
  (pss_cons (ps_if (PW.pt (pw_or (pt_not (pt_val (C8.pe_c c__law_due hr (by decide) rfl (pa_cons (pv 0) (pa_cons (pv 1) (pa_cons (pv 2) (pa_cons (pv 7) pa_nil))))))) (pw_or1 (pt_cmpR op_notBl (C8.pe_mt m_shows hr (Nat.le_trans hk3 (by decide)) (pv 7) (pa_cons (pv 0) (pa_cons (pv 1) (pa_cons (pv 2) pa_nil)))) pe_bl (nomark _))))) (pss_one (ps_ret pe_bl)) pss_nil)
  (pss_cons (ps_if (pt_not (pt_val (pe_callB (k_all K rfl) (by rfl) T.n_all (by decide +kernel) (pa_cons (pe_lc (own := [("_law_other", 9)]) (g := _) (tt := tYes) rfl sc__law_right.nd (k_il K (pv 3)) (blkOk_by (N := N__law_right) (sc := C8.fnScope st__law_right) (by decide +kernel)) (fun _ _ _ _ _ => (pg_name (i := 9) sc__law_right.nd rfl (Or.inl rfl))) (fun _ _ _ _ _ => pts_nil) (fun _ _ _ _ _ => (C8.pe_c c__law_says hr (by decide) rfl (pa_cons (pv 0) (pa_cons (pv 1) (pa_cons (pv 9) (pa_cons (pv 7) pa_nil))))))) pa_nil)))) (pss_one (ps_ret pe_bl)) pss_nil)
  (pss_one (ps_if (pt_cmpR op_eq (pv 5) pe_str (nomark _)) (pss_cons (ps_expr (pe_bm PySem.F.plainAttrs_list PySem.F.slot_list_append PySem.F.type_list_append mt_append (k_fld K (pv 7)) (pa_cons (pv 2) pa_nil)))
  (pss_one (ps_if (pt_cmpR op_notBl (C8.pe_mt m_shows hr (Nat.le_trans hk3 (by decide)) (pv 7) (pa_cons (pv 0) (pa_cons (pv 1) (pa_cons (pv 2) pa_nil)))) pe_bl (nomark _)) (pss_one (ps_ret pe_bl)) pss_nil))) pss_nil)))))))))
  (pss_one (ps_ret pe_bl)))), ?_⟩
    have hdue := due_ans (e := endOf s p h) fun c => end_pos g.wf hp
    have hpn : (p : Int) < n := by have := g.len; omega
    refine q_par2 (eap_l (el_list (K := K) (ev_var rfl) hS) (eap_v (v := .str (kindS (endOf s p h))) (ev_opP (evp_end (ev_var rfl) (ev_var rfl) (ev_var rfl) g hp) fun x H2 e2 ⟨t, x0, z1, z2, z3, z4⟩ => by
      subst z1
      exact ⟨_, ev_c, rv_ixT (st_of z3) (atI_nat (j := 0) rfl)⟩) eap_nil)) fun vs H1 a1 ⟨hd, r1, e1, hd0, hhd, r2, e2, e3⟩ => ?_
    subst e3 e2 e1
    refine ⟨_, _, rfl, ?_⟩
    refine q_forR (ea_cons ev_c ea_nil) (by decide) (fun i σ' H' => Ex H1 H' ∧ ∃ x6 x7 x8, σ' = [some lv, some (.ref a), some (natV p), some (.ref oa), some (.ref hd), some (.str (kindS (endOf s p h))), x6, x7, x8, none]) (fun H2 a2 => ⟨a2, _, _, _, rfl⟩) ?_ ?_
    · rintro i σ' H' hi ⟨b1, x6, x7, x8, rfl⟩
      have c1 := a1.trans b1
      have gh : Given K H' lv (.ref hd) n h rs s := ⟨gv.land.mono c1, gv.ok, ⟨hd, rfl, sq_of (b1 _ _ hhd)⟩, gv.sok⟩
      have g1 := g.mono c1
      refine q_asgP (Post := FollowAt ad H' s p h) (evp_call (ea_cons (ev_var rfl) (ea_cons (ev_var rfl) (ea_cons (ev_var rfl) ea_nil))) fun H2 e2 Q q E => ⟨lv, .ref hd, n, h, rs, s, p, rfl, gh.mono e2, hpn, fun v H3 e3 ⟨x, z1, z2, z3⟩ => q v H3 e3 ⟨x, z1, fresh_back e2 z2, z3.back e2⟩⟩) fun v H2 a2 ⟨x, e1, hx0, hx⟩ => ?_
      subst e1
      have hA := ans_at (K := K) hx
      obtain ⟨dx, fs, hxi⟩ := ans_isi T hA
      have c2 := c1.trans a2
      -- an answer, and no other
      refine q_when (b := false) (et_is (et_or (et_not (et_B (ev_isiC (ev_var rfl) hxi KI.cl KI.ty KI.answer))) fun _ => et_or (b := false) (et_B (ev_isiC (ev_var rfl) hxi KI.cl KI.ty KI.turned)) fun _ => et_B (ev_isiC (ev_var rfl) hxi KI.cl KI.ty KI.shut)) rfl) (fun z => nomatch z) fun _ H3 a3 => ?_
      have isE : ∀ {σ : L2.St} {H4 : Hp} {D : Addr} {b : Bool}, σ[7]? = some (some (.ref x)) → Ex H3 H4 → PySem.W.kitOne K (.ref (aC ad (ansOf (endOf s p h)))) (.ref D) = some b → Ev (tCB (rIsi K) (tCons (tVar 7) (tCons (tC (.ref D)) tNil))) σ H4 (.bl b) := fun h7 e ki => ev_isiC (ev_var h7) (e _ _ (a3 _ _ hxi)) KI.cl KI.ty ki
      refine q_asgL (xs := [.bl (kindB (ansOf (endOf s p h))).1, .bl (kindB (ansOf (endOf s p h))).2.1, .bl (kindB (ansOf (endOf s p h))).2.2]) (el_lst (ea_cons (isE rfl (Ex.refl _) KI.home) (ea_cons (isE rfl (Ex.refl _) KI.round) (ea_cons (isE rfl (Ex.refl _) KI.stands) ea_nil))) (by show 3 ≤ 100000; decide)) fun so H4 hso0 a4 hso => ?_
      have c4 := (c2.trans a3).trans a4
      have bd : ∀ {H : Hp} (b : Bool × Bool × Bool), DpAll K H [.bl b.1, .bl b.2.1, .bl b.2.2] [.bool b.1, .bool b.2.1, .bool b.2.2] := fun b => .cons (.bl _) (.cons (.bl _) (.cons (.bl _) .nil))
      refine q_when (b := false) (et_is (et_or (a := false) (b := false) (et_test (ev_opL (xs := [.bl (kindB (ansOf (endOf s p h))).1, .bl (kindB (ansOf (endOf s p h))).2.1, .bl (kindB (ansOf (endOf s p h))).2.2]) (ev_var rfl) ?_ fun q H5 hq e5 => fun H6 e6 Q q2 => ⟨_, _, .lst (sq_of (e6 _ _ (e5 _ _ hso))) (bd (kindB (ansOf (endOf s p h)))), .lst (sq_of (e6 _ _ hq)) (bd (kindB (ansOf (endOf s p h)))), shaped_bools _ _ _, shaped_bools _ _ _, ?_⟩)) fun _ => et_test (ev_is (ev_op (ev_var rfl) (ev_var rfl) (rv_neD (p := True) (.lst (sq_of (a4 _ _ (a3 _ _ (a2 _ _ (b1 _ _ hhd))))) (dp_n s)) (.lst (ex_l c4 hS) (dp_n s)) (pd_n s) (pd_n s) (by simp))) rfl)) rfl) (fun z => nomatch z) fun _ H5 a5 => ?_
      · rw [kind_end]
        exact el_lst (ea_cons (ev_op (ev_var rfl) ev_c (rv_eq rfl)) (ea_cons (ev_op (ev_var rfl) ev_c (rv_eq rfl)) (ea_cons (ev_op (ev_var rfl) ev_c (rv_eq rfl)) ea_nil))) (by show 3 ≤ 100000; decide)
      · rw [eqv_bools]
        exact q2 _ (Ex.refl _)
      have c5 := c4.trans a5
      have hA5 := hA.mono ((a3.trans a4).trans a5)
      have showE : ∀ {σ : L2.St} {H6 : Hp} {An : Ans} {C : Addr} {f : Str} {G : List (Option Nat) → Nat → Int → PyData → Bool}, aC ad An = C → aF An = f → aG An = G → σ[7]? = some (some (.ref x)) → σ[0]? = some (some lv) → σ[1]? = some (some (.ref a)) → σ[2]? = some (some (natV p)) → Ex H H6 → AAt K ad H6 x An → Ev (tMeth C "shows" (sp_shows1 K C f G) [] C8.E0 (tVar 7) (tCons (tVar 0) (tCons (tVar 1) (tCons (tVar 2) tNil)))) σ H6 (.bl (dueB (endOf s p h) An)) := by
        intro σ H6 An C f G e1 e2 e3 h7 h0 h1 h2 e6 hA6
        subst e1 e2 e3
        obtain ⟨fv, d, dx, O⟩ := own_of (P := P) (w := w) (base := base) T hA6
        exact ev_shows O (ev_var h7) (ev_var h0) (ev_var h1) (ev_var h2) (g.mono e6) hp
      refine q_when (b := false) (et_is (et_or (a := false) (b := false) (et_is (et_not (et_B (ev_call (z := .bl true) (ea_cons (ev_var rfl) (ea_cons (ev_var rfl) (ea_cons (ev_var rfl) (ea_cons (ev_var rfl) ea_nil)))) fun H6 e Q q E => ⟨_, _, n, h, rs, s, p, x, _, rfl, g.mono (c5.trans e), hp, hA5.mono e, by rw [hdue]; exact q⟩))) rfl) fun _ => et_test (ev_is (ev_op (showE rfl rfl rfl rfl rfl rfl rfl c5 hA5) ev_c rv_notB) (by rw [hdue]; rfl))) rfl) (fun z => nomatch z) fun _ H6 a6 => ?_
      have c6 := c5.trans a6
      have hA6 := hA5.mono a6
      refine q_when (b := false) (et_is (et_not (et_B (ev_all (K := K) (bs := os.map fun _ => true) (by
        rw [List.map_map]
        exact el_mapL (j := 9) os natV _ (ev_var rfl) (ex_l c6 hO) (by omega) fun q hq H7 e7 => ev_call (ea_cons (ev_var rfl) (ea_cons (ev_var rfl) (ea_cons (ev_var rfl) (ea_cons (ev_var rfl) ea_nil)))) fun H8 e Q q2 E => ⟨_, _, n, h, rs, s, q, x, _, rfl, g.mono ((c6.trans e7).trans e), hos q hq, hA6.mono (e7.trans e), q2⟩)))) (by simp)) (fun z => nomatch z) fun _ H7 a7 => ?_
      have c7 := c6.trans a7
      have c17 : Ex H1 H7 := ((((b1.trans a2).trans a3).trans a4).trans a5 |>.trans a6).trans a7
      refine s_if (b := decide (V.str (kindS (endOf s p h)) = V.str "round")) (et_test (ev_op (ev_var rfl) ev_c (rv_eq rfl))) (fun hb H8 a8 => ?_) fun hb H8 a8 => ?_
      · have hk := of_decide_eq_true hb
        obtain ⟨c, he⟩ : ∃ c, endOf s p h = .round c := by
          cases he : endOf s p h with
          | home m => rw [he] at hk; exact absurd hk (show ¬ (V.str "home" = V.str "round") by decide)
          | stands m => rw [he] at hk; exact absurd hk (show ¬ (V.str "stands" = V.str "round") by decide)
          | round c => exact ⟨c, rfl⟩
        have hcl := end_len g.wf hp he
        have h40 := g.few
        obtain ⟨dxx, D, z1, z2, z3, z4⟩ : AnsAt ad H' H2 x (.round c) := he ▸ hx
        have c28 := (((((a3.trans a4).trans a5).trans a6).trans a7).trans a8)
        have D0 : H D = none := fresh_back c1 z2
        refine q_app (K := K) (l := D) (xs := c.map natV) (v := natV p) (c28 _ _ z4) (ev_fld (ev_var rfl) (c28 _ _ z1) T.cl_Round T.no_Round_places (look1 _ _)) (ev_var rfl) (by rw [List.length_map]; omega) fun H9 a9 => ?_
        have e9 := Ex.mut (o := .lst (c.map natV ++ [natV p])) ((c7.trans a8).trans a9) D0
        have e19 := Ex.mut (o := .lst (c.map natV ++ [natV p])) ((c17.trans a8).trans a9) (fresh_back b1 z2)
        have hA9 : AAt K ad (upd H9 D (.lst (c.map natV ++ [natV p]))) x (.round (c.map Int.ofNat ++ [(p : Int)])) := by
          refine ⟨dxx, D, ?_, sq_of ?_⟩
          · rw [upd_ne z3.symm]; exact a9 _ _ (c28 _ _ z1)
          · rw [upd_same, List.map_append, natV_ints]; rfl
        have hd9 : dueB (endOf s p h) (.round (c.map Int.ofNat ++ [(p : Int)])) = false := by
          rw [he]
          exact dueB_len (by rw [List.length_append, List.length_map, List.length_singleton]; omega)
        refine s_if (b := false) (et_test (ev_is (ev_op (showE (by rw [he]; rfl) (by rw [he]; rfl) (by rw [he]; rfl) rfl rfl rfl rfl e9 hA9) ev_c rv_notB) (by rw [hd9]; rfl))) (fun z => nomatch z) fun _ H10 a10 => ?_
        exact ⟨e19.trans a10, _, _, _, rfl⟩
      · exact ⟨c17.trans a8, _, _, _, rfl⟩
    · rintro σ' H' ⟨b1, x6, x7, x8, rfl⟩
      exact s_ret ev_c fun H2 a2 => RetV.go k ((a1.trans b1).trans a2)

end
end Sg
namespace Sg
set_option autoImplicit false
open PySem L2 Evl Big
open PyProof.Rows (envOfC)
section
variable {P : Program} {w : World} {K : PySem.W.Frag} {mg : Str → Option Value} {base : Heap} {ad : Ads}
/-- an answer that stands whatever becomes of b -/
def AL (ad : Ads) (b : Addr) (H : Hp) (x : Addr) : Ans → Prop
  | .home z => x ≠ b ∧ ∃ dx, H x = some (.ins ad.Home dx (putF "steps" (.int z) []))
  | .stands z => x ≠ b ∧ ∃ dx, H x = some (.ins ad.Stands dx (putF "place" (.int z) []))
  | .round zs => x ≠ b ∧ ∃ dx D, H x = some (.ins ad.Round dx (putF "places" (.ref D) [])) ∧ D ≠ b ∧ H D = some (.lst (zs.map V.int))
def Keep (b : Addr) (H H' : Hp) : Prop := ∀ c o, c ≠ b → H c = some o → H' c = some o
theorem Keep.trans {b : Addr} {H H1 H2 : Hp} (h1 : Keep b H H1) (h2 : Keep b H1 H2) : Keep b H H2 := fun c o n q => h2 c o n (h1 c o n q)
theorem Keep.of {b : Addr} {H H1 : Hp} (h : Ex H H1) : Keep b H H1 := fun c o _ q => h c o q
theorem Keep.upd_ {b : Addr} {H : Hp} {o : HO} : Keep b H (upd H b o) := fun c o n q => by rw [upd_ne n]; exact q
theorem AL.keep {b : Addr} {H H' : Hp} {x : Addr} {An : Ans} (k : Keep b H H') (h : AL ad b H x An) : AL ad b H' x An := by
  cases An with
  | home z => obtain ⟨n, dx, h⟩ := h; exact ⟨n, dx, k _ _ n h⟩
  | stands z => obtain ⟨n, dx, h⟩ := h; exact ⟨n, dx, k _ _ n h⟩
  | round zs => obtain ⟨n, dx, D, h1, h2, h3⟩ := h; exact ⟨n, dx, D, k _ _ n h1, h2, k _ _ h2 h3⟩
theorem AL.at_ {b : Addr} {H : Hp} {x : Addr} {An : Ans} (h : AL ad b H x An) : AAt K ad H x An := by
  cases An with
  | home z => exact h.2
  | stands z => exact h.2
  | round zs => obtain ⟨n, dx, D, h1, h2, h3⟩ := h; exact ⟨dx, D, h1, sq_of h3⟩
/-- answers of one number -/
def A0 (ad : Ads) (H : Hp) (x : Addr) : Ans → Prop
  | .home z => ∃ dx, H x = some (.ins ad.Home dx (putF "steps" (.int z) []))
  | .stands z => ∃ dx, H x = some (.ins ad.Stands dx (putF "place" (.int z) []))
  | .round _ => False
theorem A0.mono {H H' : Hp} {x : Addr} {An : Ans} (e : Ex H H') (h : A0 ad H x An) : A0 ad H' x An := by
  cases An with
  | home z => obtain ⟨dx, h⟩ := h; exact ⟨dx, e _ _ h⟩
  | stands z => obtain ⟨dx, h⟩ := h; exact ⟨dx, e _ _ h⟩
  | round zs => exact h
theorem A0.al {b : Addr} {H : Hp} {x : Addr} {An : Ans} (hb : H b = none) (h : A0 ad H x An) : AL ad b H x An := by
  cases An with
  | home z => obtain ⟨dx, h⟩ := h; exact ⟨ne_of_none h hb, dx, h⟩
  | stands z => obtain ⟨dx, h⟩ := h; exact ⟨ne_of_none h hb, dx, h⟩
  | round zs => exact h.elim
def As (ad : Ads) (n : Nat) (vs : List V) (H : Hp) : Prop := ∃ as : List (Addr × Ans), vs = as.map (fun q => V.ref q.1) ∧ as.length = n ∧ ∀ q ∈ as, A0 ad H q.1 q.2
theorem eas_nil {σ : L2.St} {H : Hp} : EvAP tNil σ H (As ad 0) := fun H1 _ _ q => q [] H1 (Ex.refl _) ⟨[], rfl, rfl, fun _ h => by cases h⟩
theorem eas_cons {σ : L2.St} {H : Hp} {te : TE} {tr : TA} {n : Nat} (h : EvP te σ H (fun v H' => ∃ x An, v = .ref x ∧ A0 ad H' x An)) (hr : EvAP tr σ H (As ad n)) : EvAP (tCons te tr) σ H (As ad (n + 1)) := fun H1 e Q q =>
  h H1 e _ fun v H2 e2 ⟨x, An, e1, hx⟩ => hr H2 (e.trans e2) _ fun vs H3 e3 ⟨as, p1, p2, p3⟩ => q _ H3 (e2.trans e3) ⟨(x, An) :: as, by rw [e1, p1]; rfl, by rw [List.length_cons, p2], fun q hq => by
    rcases List.mem_cons.mp hq with rfl | hq
    · exact hx.mono e3
    · exact p3 q hq⟩
/-- lists of numbers, none of them at b -/
def Rw (b : Addr) (n : Nat) (vs : List V) (H : Hp) : Prop := ∃ rs : List (Addr × List Int), vs = rs.map (fun q => V.ref q.1) ∧ rs.length = n ∧ ∀ q ∈ rs, q.1 ≠ b ∧ H q.1 = some (.lst (q.2.map V.int)) ∧ q.2.length ≤ 100
theorem Rw.mono {b : Addr} {n : Nat} {vs : List V} {H H' : Hp} (e : Ex H H') (h : Rw b n vs H) : Rw b n vs H' := by
  obtain ⟨rs, h1, h2, h3⟩ := h
  exact ⟨rs, h1, h2, fun q hq => ⟨(h3 q hq).1, e _ _ (h3 q hq).2.1, (h3 q hq).2.2⟩⟩
theorem Rw.app {b : Addr} {n m : Nat} {vs ws : List V} {H : Hp} (h1 : Rw b n vs H) (h2 : Rw b m ws H) : Rw b (n + m) (vs ++ ws) H := by
  obtain ⟨rs, p1, p2, p3⟩ := h1
  obtain ⟨ts, q1, q2, q3⟩ := h2
  refine ⟨rs ++ ts, by rw [p1, q1, List.map_append], by rw [List.length_append, p2, q2], fun q hq => ?_⟩
  rcases List.mem_append.mp hq with hq | hq
  · exact p3 q hq
  · exact q3 q hq
theorem erw_nil {σ : L2.St} {H : Hp} {b : Addr} : EvAP tNil σ H (Rw b 0) := fun H1 _ _ q => q [] H1 (Ex.refl _) ⟨[], rfl, rfl, fun _ h => by cases h⟩
theorem erw_cons {σ : L2.St} {H : Hp} {b : Addr} {ob : HO} {te : TE} {tr : TA} {n : Nat} (zs : List Int) (hb : H b = some ob) (h : EvL te σ H (zs.map V.int)) (hz : zs.length ≤ 100) (hr : EvAP tr σ H (Rw b n)) : EvAP (tCons te tr) σ H (Rw b (n + 1)) := fun H1 e Q q =>
  h H1 e _ fun p H2 hp e2 h2 => hr H2 (e.trans e2) _ fun vs H3 e3 ⟨as, p1, p2, p3⟩ => q _ H3 (e2.trans e3) ⟨(p, zs) :: as, by rw [p1]; rfl, by rw [List.length_cons, p2], fun q hq => by
    rcases List.mem_cons.mp hq with rfl | hq
    · exact ⟨(ne_of_none (e _ _ hb) hp).symm, e3 _ _ h2, hz⟩
    · exact p3 q hq⟩
theorem erw_consV {σ : L2.St} {H : Hp} {b l : Addr} {te : TE} {tr : TA} {n : Nat} (zs : List Int) (hn : l ≠ b) (h : Ev te σ H (.ref l)) (hl : H l = some (.lst (zs.map V.int))) (hz : zs.length ≤ 100) (hr : EvAP tr σ H (Rw b n)) : EvAP (tCons te tr) σ H (Rw b (n + 1)) := fun H1 e Q q =>
  h H1 e _ fun H2 e2 => hr H2 (e.trans e2) _ fun vs H3 e3 ⟨as, p1, p2, p3⟩ => q _ H3 (e2.trans e3) ⟨(l, zs) :: as, by rw [p1]; rfl, by rw [List.length_cons, p2], fun q hq => by
    rcases List.mem_cons.mp hq with rfl | hq
    · exact ⟨hn, e3 _ _ (e2 _ _ (e _ _ hl)), hz⟩
    · exact p3 q hq⟩
theorem evp_lst {σ : L2.St} {H : Hp} {ta : TA} {P : List V → Hp → Prop} (h : EvAP ta σ H P) (hm : ∀ vs H1 H2, Ex H1 H2 → P vs H1 → P vs H2) (hl : ∀ vs H1, P vs H1 → vs.length ≤ 100000) : EvP (tLst ta) σ H (fun v H' => ∃ r vs, v = .ref r ∧ H r = none ∧ H' r = some (.lst vs) ∧ P vs H' ∧ ∃ H1, Ex H H1 ∧ P vs H1 ∧ H1 r = none ∧ Ex H1 H') := fun H1 e Q q =>
  h H1 e _ fun vs H2 e2 p => ⟨sz_of (hl vs H2 p), fun r hr => q _ _ (e2.trans (Ex.new hr)) ⟨r, vs, rfl, fresh_back (e.trans e2) hr, upd_same, hm _ _ _ (Ex.new hr) p, H2, e.trans e2, p, hr, Ex.new hr⟩⟩
theorem evp_cat {σ : L2.St} {H : Hp} {ta tb : TE} {l : Addr} {xs : List V} {P : List V → Hp → Prop} (ha : Ev ta σ H (.ref l)) (hl : H l = some (.lst xs)) (hb : EvP tb σ H (fun v H' => ∃ y ys, v = .ref y ∧ H' y = some (.lst ys) ∧ P ys H')) (hm : ∀ vs H1 H2, Ex H1 H2 → P vs H1 → P vs H2) (hz : ∀ ys H', P ys H' → xs.length + ys.length ≤ 100000) :
    EvP (tOp rCat ta tb) σ H (fun v H' => ∃ r ys, v = .ref r ∧ H r = none ∧ H' r = some (.lst (xs ++ ys)) ∧ P ys H') := fun H1 e Q q =>
  ha H1 e _ fun H2 e2 => hb H2 (e.trans e2) _ fun v H3 e3 ⟨y, ys, h1, h2, h3⟩ => ⟨l, y, xs, ys, rfl, h1, e3 _ _ (e2 _ _ (e _ _ hl)), h2, sz_of (hz _ _ h3), fun p hp => q _ _ ((e2.trans e3).trans (Ex.new hp)) ⟨p, ys, rfl, fresh_back ((e.trans e2).trans e3) hp, upd_same, hm _ _ _ (Ex.new hp) h3⟩⟩
theorem el_cat {σ : L2.St} {H : Hp} {ta tb : TE} {xs ys : List V} (ha : EvL ta σ H xs) (hb : EvL tb σ H ys) (hz : xs.length + ys.length ≤ 100000) : EvL (tOp rCat ta tb) σ H (xs ++ ys) := fun H1 e Q q =>
  ha H1 e _ fun p H2 hp e2 h2 => hb H2 (e.trans e2) _ fun r H3 hr e3 h3 => ⟨p, r, xs, ys, rfl, rfl, e3 _ _ h2, h3, sz_of hz, fun t ht => q t _ (fresh_back (e2.trans e3) ht) ((e2.trans e3).trans (Ex.new ht)) upd_same⟩
theorem el_catV {σ : L2.St} {H : Hp} {ta tb : TE} {l m : Addr} {xs ys : List V} (ha : Ev ta σ H (.ref l)) (hl : H l = some (.lst xs)) (hb : Ev tb σ H (.ref m)) (hm : H m = some (.lst ys)) (hz : xs.length + ys.length ≤ 100000) : EvL (tOp rCat ta tb) σ H (xs ++ ys) := fun H1 e Q q =>
  ha H1 e _ fun H2 e2 => hb H2 (e.trans e2) _ fun H3 e3 => ⟨l, m, xs, ys, rfl, rfl, e3 _ _ (e2 _ _ (e _ _ hl)), e3 _ _ (e2 _ _ (e _ _ hm)), sz_of hz, fun t ht => q t _ (fresh_back (e2.trans e3) ht) ((e2.trans e3).trans (Ex.new ht)) upd_same⟩
theorem el_rev {σ : L2.St} {H : Hp} {te : TE} {a : Addr} {xs : List V} (h : Ev te σ H (.ref a)) (hs : SqL K H a xs) : EvL (tRevL K te) σ H xs.reverse := fun H1 e _ q =>
  h H1 e _ fun H2 e2 => ⟨a, xs, rfl, ex_l (e.trans e2) hs, fun p hp => q p _ (fresh_back e2 hp) (e2.trans (Ex.new hp)) upd_same⟩
theorem el_rg {σ : L2.St} {H : Hp} {te : TE} {n : Int} (h : Ev te σ H (.int n)) (h0 : 0 ≤ n) (hn : n ≤ 1000) : EvL (tLstRg (tRg1 te)) σ H (((List.range n.toNat).map fun i => ((i : Nat) : Int)).map V.int) := fun H1 e _ q =>
  h H1 e _ fun H2 e2 => ⟨n, rfl, RgOk.of_le (by omega) (by omega) (by omega) h0, fun p hp => q p _ (fresh_back e2 hp) (e2.trans (Ex.new hp)) (by
    rw [upd_same]
    congr 2
    unfold rgV
    rw [List.map_map, Int.sub_zero]
    refine List.map_congr_left fun i _ => ?_
    show V.int (0 + (i : Int)) = V.int (i : Int)
    rw [Int.zero_add])⟩
/-- a cut of a list of numbers -/
def cutI (zs : List Int) (lo hi : Option Int) : List Int := (zs.drop (HT.sIx zs.length 0 lo)).take (HT.sIx zs.length zs.length hi - HT.sIx zs.length 0 lo)
theorem cut_map (zs : List Int) (lo hi : Option Int) : cutV (zs.map V.int) lo hi = (cutI zs lo hi).map V.int := by
  unfold cutV cutI
  rw [List.length_map, ← List.map_drop, ← List.map_take]
theorem cutI_len (zs : List Int) (lo hi : Option Int) : (cutI zs lo hi).length ≤ zs.length := by
  unfold cutI
  rw [List.length_take, List.length_drop]
  omega
theorem el_cut {σ : L2.St} {H : Hp} {te : TE} {tl th : TO} {a : Addr} {zs : List Int} {lo hi : Option Int} (h : Ev te σ H (.ref a)) (h1 : EvO tl σ H lo) (h2 : EvO th σ H hi) (hs : SqL K H a (zs.map V.int)) : EvL (tSl (rSlL K) te tl th) σ H ((cutI zs lo hi).map V.int) := by
  have q := el_sl (K := K) h h1 h2 hs
  rwa [cut_map] at q
theorem el_app {te : TE} {σ : L2.St} {H : Hp} {xs ys : List Int} (h : EvL te σ H (xs.map V.int ++ ys.map V.int)) : EvL te σ H ((xs ++ ys).map V.int) := by
  rw [List.map_append]; exact h
def flatI (c : List Int) : List It2 := (c.map fun a => (V.int a, PyData.int a)).map .inl
theorem init_roundI {H H1 : Hp} {C : Addr} {f : Str} {a : Addr} {c : List Int} (e : Ex H H1) (hS : SqL K H1 a (c.map V.int)) (hc : c.length ≤ 40000) : SpInit1 (sp_Round_init K C f) C f [.ref a] H1 (fun fv H3 => ∃ D, fv = .ref D ∧ H D = none ∧ H3 D = some (.lst (c.map V.int))) :=
  fun H2 e2 x dx Q E hx0 hx k => ⟨x, dx, a, flatI c, rfl, hx, by
    have : (flatI c).map itV = c.map V.int := by unfold flatI; rw [List.map_map, List.map_map]; rfl
    rw [this]; exact ex_l e2 hS, by unfold flatI; rw [List.length_map, List.length_map]; exact hc, (fun y hy => by
    unfold flatI at hy
    rw [List.map_map] at hy
    obtain ⟨a, _, rfl⟩ := List.mem_map.mp hy
    exact ⟨.int _, rfl⟩), fun H3 fv g1 g2 g3 => by
    obtain ⟨D, z1, z2, z3⟩ := copy_flat g3
    rw [List.map_map] at z3
    exact k H3 fv g1 g2 ⟨D, z1, fresh_back (e.trans e2) z2, z3⟩⟩
theorem evp_home {σ : L2.St} {H : Hp} {te : TE} {z : Int} (h : Ev te σ H (.int z)) : EvP (tMake ad.Home (sp_Home_init K ad.Home "steps") [] C8.E0 (tCons te tNil)) σ H (fun v H' => ∃ x An, v = .ref x ∧ A0 ad H' x An) :=
  (evp_make (ea_cons h ea_nil) (init1_of (d := .int z) (.int z) rfl)).weak fun v H1 _ ⟨x, dx, fv, h1, _, h3, h4⟩ => ⟨x, .home z, h1, dx, by rw [h3, h4]⟩
theorem evp_stands {σ : L2.St} {H : Hp} {te : TE} {z : Int} (h : Ev te σ H (.int z)) : EvP (tMake ad.Stands (sp_Home_init K ad.Stands "place") [] C8.E0 (tCons te tNil)) σ H (fun v H' => ∃ x An, v = .ref x ∧ A0 ad H' x An) :=
  (evp_make (ea_cons h ea_nil) (init1_of (d := .int z) (.int z) rfl)).weak fun v H1 _ ⟨x, dx, fv, h1, _, h3, h4⟩ => ⟨x, .stands z, h1, dx, by rw [h3, h4]⟩
/-- an if, and one going-on for both -/
theorem q_whenK {t : TT} {tu tz : TS} {D : Ends} {σ : L2.St} {H : Hp} {b : Bool} (M : L2.St → Hp → Prop) (h : EvT t σ H b) (h1 : (∀ σ' H', M σ' H' → tz D σ' H') → b = true → ∀ H1, Ex H H1 → tu { D with nx := tz D } σ H1) (h2 : b = false → ∀ H1, Ex H H1 → M σ H1) (k : ∀ σ' H', M σ' H' → tz D σ' H') : tSeq (tIfS t tu tNext) tz D σ H :=
  q_when h (h1 k) fun hb H1 e => k _ _ (h2 hb H1 e)
def zOf : End → Int
  | .home m => (m : Int) + 1
  | _ => 3
def sp_law_hand_right (K : PySem.W.Frag) : Sp := fun vs H Q _ => ∃ (lv sv : V) (n h : Int) (rs : List (Int × Int)) (s : List (Option Nat)) (p : Nat), vs = [lv, sv, natV p] ∧ Laid K H lv sv n h rs s ∧ p < s.length ∧ RetV (.bl true) H Q
theorem ok_law_hand_right (T : Txt K mg ad) : C8.Cal P w K mg base 5 "_law_hand_right" (sp_law_hand_right K) [] := by
  have c__law_end : C8.Cal P w K mg base 1 "_law_end" (sp_law_end K) [] := ok_law_end T
  have c__law_says : C8.Cal P w K mg base 4 "_law_says" (sp_law_says K ad) [] := ok_law_says T
  have m_Round : C8.Mak P w K mg base 2 "Round" ad.Round (sp_Round_init K ad.Round "places") [] := ok_Round_init T
  have m_Home : C8.Mak P w K mg base 2 "Home" ad.Home (sp_Home_init K ad.Home "steps") [] := ok_Home_init T
  have m_Stands : C8.Mak P w K mg base 2 "Stands" ad.Stands (sp_Home_init K ad.Stands "place") [] := ok_Stands_init T
  refine cal_of T.d__law_hand_right sc__law_hand_right (fun _ _ _ _ _ _ us hl => match us, hl with | [_, _, _], _ => rfl) (fun vs H Q E h => ?_) (fun f cdv A outer st H vs Q E hr h => ?_)
  · obtain ⟨lv, sv, n, h, rs, s, p, rfl, _⟩ := h; rfl
  · obtain ⟨lv, sv, n, h, rs, s, p, rfl, g, hp, k⟩ := h
    have hu := hu_of hr
    refine ⟨_, (pss_cons (ps_asg (C8.pe_c c__law_end hr (by decide) rfl (pa_cons (pv 0) (pa_cons (pv 1) (pa_cons (pv 2) pa_nil)))) (k_gt K (n := 2) (by rfl) (pgs_cons (pg_name (i := 3) sc__law_hand_right.nd rfl (Or.inl rfl)) (pgs_cons (pg_name (i := 4) sc__law_hand_right.nd rfl (Or.inl rfl)) pgs_nil))))
  (pss_cons (ps_set (i := 5) sc__law_hand_right.nd rfl (Or.inl rfl) (pe_lst (pa_cons (C8.pe_mk m_Home hr (by decide) rfl (pa_cons pe_int pa_nil)) (pa_cons (C8.pe_mk m_Home hr (by decide) rfl (pa_cons (pe_un un_neg pe_int) pa_nil)) (pa_cons (C8.pe_mk m_Home hr (by decide) rfl (pa_cons (pe_ifExp (pt_cmpR op_eq (pv 3) pe_str (nomark _)) (pe_op op_add (pv 4) pe_int) pe_int) pa_nil)) (pa_cons (C8.pe_mk m_Stands hr (by decide) rfl (pa_cons (pv 2) pa_nil)) (pa_cons (C8.pe_mk m_Stands hr (by decide) rfl (pa_cons (pe_un un_neg pe_int) pa_nil)) (pa_cons (C8.pe_mk m_Stands hr (by decide) rfl (pa_cons (pe_ix (k_tup K) (pv 0) pe_int (fun _ _ => rfl)) pa_nil)) pa_nil))))))))
  (pss_cons (ps_set (i := 6) sc__law_hand_right.nd rfl (Or.inl rfl) (pe_lst (pa_cons (pe_lst pa_nil) (pa_cons (pe_lst (pa_cons (pv 2) pa_nil)) (pa_cons (pe_lst (pa_cons (pe_un un_neg pe_int) pa_nil)) (pa_cons (pe_lst (pa_cons (pe_op op_pow pe_int pe_int) pa_nil)) (pa_cons (pe_listRg rfl rfl T.n_list (prg_1 rfl T.n_range (pe_ix (k_tup K) (pv 0) pe_int (fun _ _ => rfl)))) pa_nil)))))))
  (pss_cons (ps_if (pt_cmpR op_eq (pv 3) pe_str (nomark _)) (pss_one (ps_set (i := 6) sc__law_hand_right.nd rfl (Or.inl rfl) (pe_op op_cat (pv 6) (pe_lst (pa_cons (pv 4) (pa_cons (pe_op op_cat (pe_slice (k_sl K) (pv 4) (po_some pe_int) po_none) (pe_slice (k_sl K) (pv 4) po_none (po_some pe_int))) (pa_cons (k_rev K (pv 4)) (pa_cons (pe_slice (k_sl K) (pv 4) (po_some pe_int) po_none) (pa_cons (pe_op op_cat (pv 4) (pv 4)) (pa_cons (pe_op op_cat (pe_slice (k_sl K) (pv 4) po_none (po_some (pe_un un_neg pe_int))) (pe_lst (pa_cons (pe_ix (k_tup K) (pv 0) pe_int (fun _ _ => rfl)) pa_nil))) pa_nil)))))))))) pss_nil)
  (pss_cons (ps_for PassesOwn.never rfl (k_il K (pv 6)) (pg_name (i := 7) sc__law_hand_right.nd rfl (Or.inl rfl))
    (pss_cons (ps_set (i := 8) sc__law_hand_right.nd rfl (Or.inl rfl) (pe_callTy (k_lst K) (by rfl) T.n_list (by decide +kernel) (pa_cons (pv 7) pa_nil)))
  (pss_cons (ps_set (i := 9) sc__law_hand_right.nd rfl (Or.inl rfl) (C8.pe_mk m_Round hr (by decide) rfl (pa_cons (pv 8) pa_nil)))
  (pss_cons (ps_expr (pe_bm PySem.F.plainAttrs_list PySem.F.slot_list_append PySem.F.type_list_append mt_append (pv 8) (pa_cons pe_int pa_nil)))
  (pss_cons (ps_if (pt_cmpR (k_neD K hr.units) (k_fld K (pv 9)) (pv 7) (nomark _)) (pss_one (ps_ret pe_bl)) pss_nil)
  (pss_one (ps_expr (pe_bm PySem.F.plainAttrs_list PySem.F.slot_list_append PySem.F.type_list_append mt_append (pv 5) (pa_cons (pv 9) pa_nil)))))))))
  (pss_one (ps_ret (pe_callB (k_all K rfl) (by rfl) T.n_all (by decide +kernel) (pa_cons (pe_lc (own := [("_law_answer", 9)]) (g := _) (tt := tYes) rfl sc__law_hand_right.nd (k_il K (pv 5)) (blkOk_by (N := N__law_hand_right) (sc := C8.fnScope st__law_hand_right) (by decide +kernel)) (fun _ _ _ _ _ => (pg_name (i := 9) sc__law_hand_right.nd rfl (Or.inl rfl))) (fun _ _ _ _ _ => pts_nil) (fun _ _ _ _ _ => (C8.pe_c c__law_says hr (by decide) rfl (pa_cons (pv 0) (pa_cons (pv 1) (pa_cons (pv 2) (pa_cons (pv 9) pa_nil))))))) pa_nil))))))))), ?_⟩
    have h40 := g.few
    have hlen := g.len
    have hcl := fun c => end_len (h := h) (c := c) g.wf hp
    obtain ⟨la, r0, rfl, hT, hR⟩ := g.land.ex
    refine q_unp2 (evp_end (ev_var rfl) (ev_var rfl) (ev_var rfl) g hp) fun v H1 a1 ⟨t, x0, z1, z2, z3, z4⟩ => ⟨t, _, _, z1, st_of z3, ?_⟩
    generalize endOf s p h = e at z3 z4 hcl
    have homeE : ∀ {σ : L2.St} {H2 : Hp}, σ[0]? = some (some (.ref la)) → Ex H H2 → Ev (tOp (rIxT K) (tVar 0) (tC (.int 1))) σ H2 (.int h) := fun h0 e => ev_op (ev_var h0) ev_c (rv_ixT (ex_t e hT) (atI_nat (j := 1) rfl))
    refine q_asgP (evp_lst (eas_cons (evp_home ev_c) (eas_cons (evp_home (ev_un ev_c ru_neg)) (eas_cons (evp_home (z := zOf e) (ev_if (b := decide (V.str (kindS e) = V.str "home")) (et_test (ev_op (ev_var rfl) ev_c (rv_eq rfl))) (fun hb => ?_) fun hb => ?_)) (eas_cons (evp_stands (ev_var rfl)) (eas_cons (evp_stands (ev_un ev_c ru_neg)) (eas_cons (evp_stands (homeE rfl a1)) eas_nil))))))
      (fun vs H1 H2 e ⟨as, q1, q2, q3⟩ => ⟨as, q1, q2, fun q hq => (q3 q hq).mono e⟩) (fun vs H1 ⟨as, q1, q2, q3⟩ => by rw [q1, List.length_map, q2]; decide)) fun v H2 a2 ⟨b, vs, e1, b0, hb, _, Hm, em1, ⟨as, q1, q2, q3⟩, hbm, em2⟩ => ?_
    · cases e with
      | home m => cases (show x0 = natV m from z4); exact ev_op (ev_var rfl) ev_c rv_I0
      | stands m => exact absurd (of_decide_eq_true hb) (show ¬ (V.str "stands" = V.str "home") by decide)
      | round m => exact absurd (of_decide_eq_true hb) (show ¬ (V.str "round" = V.str "home") by decide)
    · cases e with
      | home m => exact absurd rfl (of_decide_eq_false hb)
      | stands m => exact ev_c
      | round m => exact ev_c
    · subst e1
      have c2 := a1.trans a2
      have b00 : H b = none := fresh_back a1 b0
      have hAs : ∀ q ∈ as, AL ad b H2 q.1 q.2 := fun q hq => ((q3 q hq).al hbm).keep (Keep.of em2)
      -- the rows
      refine q_asgP (evp_lst (P := Rw b 5) (erw_cons [] hb (el_lst ea_nil (by decide)) (by decide) (erw_cons [(p : Int)] hb (el_lst (ea_cons (ev_var rfl) ea_nil) (by show 1 ≤ 100000; decide)) (by show 1 ≤ 100; decide) (erw_cons [-1] hb (el_lst (ea_cons (ev_un ev_c ru_neg) ea_nil) (by show 1 ≤ 100000; decide)) (by decide) (erw_cons [100000000000000000000] hb (el_lst (ea_cons (ev_op ev_c ev_c (rv_I (C := CPow) (g := fun i j => .int (i ^ j.toNat)) ⟨by decide, by decide, by decide⟩)) ea_nil) (by show 1 ≤ 100000; decide)) (by decide) (erw_cons _ hb (el_rg (n := n) (ev_op (ev_var rfl) ev_c (rv_ixT (ex_t c2 hT) (atI_nat (j := 0) rfl))) (by omega) (by omega)) (by rw [List.length_map, List.length_range]; omega) erw_nil)))))
        (fun vs H1 H2 e q => q.mono e) (fun vs H1 ⟨rs, q1, q2, q3⟩ => by rw [q1, List.length_map, q2]; decide)) fun v H3 a3 ⟨rw, vs2, e1, rw0, hrw, hRw, _⟩ => ?_
      subst e1
      have c3 := c2.trans a3
      have hb3 := a3 _ _ hb
      have rwb : rw ≠ b := (ne_of_none hb rw0).symm
      refine q_whenK (fun σ' H' => ∃ rr ws m, Ex H3 H' ∧ H' rr = some (.lst ws) ∧ Rw b m ws H' ∧ rr ≠ b ∧ m ≤ 100 ∧ σ' = [some (.ref la), some sv, some (natV p), some (.str (kindS e)), some x0, some (.ref b), some (.ref rr), none, none, none]) (et_test (ev_op (ev_var rfl) ev_c (rv_eq rfl))) (fun go hbb H4 a4 => ?_) (fun hbb H4 a4 => ⟨rw, vs2, 5, a4, a4 _ _ hrw, hRw.mono a4, rwb, by decide, rfl⟩) ?_
      · cases e with
        | home m => exact absurd (of_decide_eq_true hbb) (show ¬ (V.str "home" = V.str "round") by decide)
        | stands m => exact absurd (of_decide_eq_true hbb) (show ¬ (V.str "stands" = V.str "round") by decide)
        | round c =>
          obtain ⟨l, d, rfl, hl0, hl, tc⟩ := z4
          have hdl : d.length ≤ 40 := by
            rw [turns_len tc]
            have := hcl c rfl
            omega
          rw [natV_ints] at hl
          have hdi : (d.map Int.ofNat).length ≤ 40 := by rw [List.length_map]; exact hdl
          generalize d.map Int.ofNat = di at hl hdi
          have a24 := (a2.trans a3).trans a4
          have hl4 := a24 _ _ hl
          have hb4 := a4 _ _ hb3
          have lb : l ≠ b := ne_of_none hl b0
          refine s_asgP (evp_cat (ev_var rfl) (a4 _ _ hrw) ((evp_lst (P := Rw b 6) (erw_consV di lb (ev_var rfl) hl4 (by omega) (erw_cons (cutI di (some 1) none ++ cutI di none (some 1)) hb4 (el_app (el_cat (el_cut (K := K) (ev_var rfl) (eo_some ev_c) eo_none (sq_of hl4)) (el_cut (K := K) (ev_var rfl) eo_none (eo_some ev_c) (sq_of hl4)) (by
            have := cutI_len di (some 1) none
            have := cutI_len di none (some 1)
            rw [List.length_map, List.length_map]; omega))) (by
            have := cutI_len di (some 1) none
            have := cutI_len di none (some 1)
            rw [List.length_append]; omega) (erw_cons di.reverse hb4 (by
              rw [List.map_reverse]
              exact el_rev (K := K) (ev_var rfl) (sq_of hl4)) (by rw [List.length_reverse]; omega) (erw_cons (cutI di (some 1) none) hb4 (el_cut (K := K) (ev_var rfl) (eo_some ev_c) eo_none (sq_of hl4)) (by have := cutI_len di (some 1) none; omega) (erw_cons (di ++ di) hb4 (el_app (el_catV (ev_var rfl) hl4 (ev_var rfl) hl4 (by rw [List.length_map]; omega))) (by rw [List.length_append]; omega) (erw_cons (cutI di none (some (-1)) ++ [h]) hb4 (el_app (el_cat (el_cut (K := K) (ev_var rfl) eo_none (eo_some (ev_un ev_c ru_neg)) (sq_of hl4)) (el_lst (ea_cons (homeE rfl (c3.trans a4)) ea_nil) (by show 1 ≤ 100000; decide)) (by
            have := cutI_len di none (some (-1))
            rw [List.length_map, List.length_map, List.length_singleton]; omega))) (by
            have := cutI_len di none (some (-1))
            rw [List.length_append, List.length_singleton]; omega) erw_nil))))))
            (fun vs H1 H2 e q => q.mono e) (fun vs H1 ⟨rs, q1, q2, q3⟩ => by rw [q1, List.length_map, q2]; decide)).weak fun v H5 _ ⟨r, vs, y1, _, y3, y4, _⟩ => ⟨r, vs, y1, y3, y4⟩) (fun vs H1 H2 e q => q.mono e) (fun ys H' ⟨rs, q1, q2, q3⟩ => by
              obtain ⟨rs', q1', q2', _⟩ := hRw
              rw [q1, q1', List.length_map, List.length_map, q2, q2']; decide)) fun v H5 a5 ⟨r, ys, y1, y2, y3, y4⟩ => ?_
          subst y1
          exact go _ _ ⟨r, vs2 ++ ys, 5 + 6, a4.trans a5, y3, Rw.app (hRw.mono (a4.trans a5)) y4, (ne_of_none hb4 y2).symm, by decide, rfl⟩
      · rintro σ' H4 ⟨rr, ws, m, a4, hrr, ⟨rows, w1, w2, w3⟩, rrb, hm, rfl⟩
        have hb4 := a4 _ _ hb3
        have c4 := c3.trans a4
        have hAs4 : ∀ q ∈ as, AL ad b H4 q.1 q.2 := fun q hq => (hAs q hq).keep (Keep.of (a3.trans a4))
        subst w1
        have f5 : ∀ q ∈ as, AAt K ad H4 q.1 q.2 := fun q hq => (hAs4 q hq).at_
        rw [q1] at hb4
        refine q_forLn (K := K) (a := rr) (xs := rows.map fun q => V.ref q.1) (ev_var rfl) (sq_of hrr) (fun i σ' H' => ∃ as' : List (Addr × Ans), Ex H H' ∧ Keep b H4 H' ∧ H' b = some (.lst (as'.map fun q => V.ref q.1)) ∧ (∀ q ∈ as', AL ad b H' q.1 q.2) ∧ as'.length = 6 + i ∧ ∃ x7 x8 x9, σ' = [some (.ref la), some sv, some (natV p), some (.str (kindS e)), some x0, some (.ref b), some (.ref rr), x7, x8, x9])
          (fun H5 a5 => ⟨as, c4.trans a5, Keep.of a5, a5 _ _ hb4, fun q hq => (hAs4 q hq).keep (Keep.of a5), q2, _, _, _, rfl⟩) (fun i σ' H' _ ⟨as', _, kp, _⟩ => sq_of (kp _ _ rrb hrr)) ?_ ?_
        · rintro i x σ' H' hi ⟨as', b1, b2, b3, b4, b5, x7, x8, x9, rfl⟩
          rw [List.getElem?_map] at hi
          obtain ⟨⟨rq, zs⟩, hq, rfl⟩ := Option.map_eq_some_iff.mp hi
          obtain ⟨rqb, hrq, hzs⟩ := w3 _ (List.mem_of_getElem? hq)
          have hzs : zs.length ≤ 100 := hzs
          have hil : i < rows.length := (List.getElem?_eq_some_iff.mp hq).1
          have hrq' := b2 _ _ rqb hrq
          refine q_asgL (el_list (K := K) (ev_var rfl) (sq_of hrq')) fun hd H5 hd0 a5 hhd => ?_
          refine q_asgP (evp_make (ea_cons (ev_var rfl) ea_nil) (init_roundI (Ex.refl H5) (sq_of hhd) (by omega))) fun v H6 a6 ⟨x, dx, fv, e1, hx0, hx, D, e2, hD0, hD⟩ => ?_
          subst e1 e2
          have hdb : hd ≠ b := (ne_of_none b3 hd0).symm
          have hdr : rq ≠ hd := ne_of_none hrq' hd0
          have xhd : x ≠ hd := (ne_of_none hhd hx0).symm
          have Dhd : D ≠ hd := (ne_of_none hhd hD0).symm
          have b35 := a5 _ _ b3
          have xb : x ≠ b := (ne_of_none b35 hx0).symm
          have Db : D ≠ b := (ne_of_none b35 hD0).symm
          have hd00 : H hd = none := fresh_back b1 hd0
          refine q_app (K := K) (l := hd) (xs := zs.map V.int) (v := .int 0) (a6 _ _ hhd) (ev_var rfl) ev_c (by rw [List.length_map]; omega) fun H7 a7 => ?_
          have e8 := Ex.mut (o := .lst (zs.map V.int ++ [.int 0])) ((b1.trans a5).trans (a6.trans a7)) hd00
          have k8 : Keep b H' (upd H7 hd (.lst (zs.map V.int ++ [.int 0]))) := fun c o n q => by
            have hc : c ≠ hd := ne_of_none q hd0
            rw [upd_ne hc]
            exact a7 _ _ (a6 _ _ (a5 _ _ q))
          have hb8 : (upd H7 hd (.lst (zs.map V.int ++ [.int 0]))) b = some (.lst (as'.map fun q => V.ref q.1)) := by
            rw [upd_ne hdb.symm]
            exact a7 _ _ (a6 _ _ b35)
          have hx8 : (upd H7 hd (.lst (zs.map V.int ++ [.int 0]))) x = some (.ins ad.Round dx (putF "places" (.ref D) [])) := by
            rw [upd_ne xhd]; exact a7 _ _ hx
          have hD8 : (upd H7 hd (.lst (zs.map V.int ++ [.int 0]))) D = some (.lst (zs.map V.int)) := by
            rw [upd_ne Dhd]; exact a7 _ _ hD
          have hrq8 := k8 _ _ rqb hrq'
          generalize upd H7 hd (.lst (zs.map V.int ++ [.int 0])) = H8 at e8 k8 hb8 hx8 hD8 hrq8
          refine q_when (b := false) (et_is (et_test (ev_op (ev_fld (f := "places") (ev_var rfl) hx8 T.cl_Round T.no_Round_places (look1 _ _)) (ev_var rfl) (rv_neD (p := True) (.lst (sq_of hD8) (dp_ints zs)) (.lst (sq_of hrq8) (dp_ints zs)) (pd_ints zs) (pd_ints zs) (by simp)))) rfl) (fun z => nomatch z) fun _ H9 a9 => ?_
          refine s_app (K := K) (l := b) (v := .ref x) (a9 _ _ hb8) (ev_var rfl) (ev_var rfl) (by rw [List.length_map]; omega) fun H10 a10 => ?_
          have e10 := Ex.mut (o := .lst ((as'.map fun q => V.ref q.1) ++ [.ref x])) ((e8.trans a9).trans a10) b00
          have k10 : Keep b H' (upd H10 b (.lst ((as'.map fun q => V.ref q.1) ++ [.ref x]))) := (k8.trans (Keep.of (a9.trans a10))).trans Keep.upd_
          refine ⟨as' ++ [(x, .round zs)], e10, b2.trans k10, ?_, fun q hq => ?_, by rw [List.length_append, b5]; rfl, _, _, _, rfl⟩
          · rw [upd_same, List.map_append]; rfl
          · rcases List.mem_append.mp hq with hq | hq
            · exact (b4 q hq).keep k10
            · rw [List.mem_singleton] at hq
              subst hq
              exact AL.keep Keep.upd_ (show AL ad b H10 x (.round zs) from ⟨xb, dx, D, a10 _ _ (a9 _ _ hx8), Db, a10 _ _ (a9 _ _ hD8)⟩)
        · rintro σ' H' ⟨as', b1, b2, b3, b4, b5, x7, x8, x9, rfl⟩
          rw [List.length_map] at b5
          refine s_ret (v := .bl true) (ev_is (ev_all (K := K) (bs := as'.map fun _ => true) (by
            rw [List.map_map]
            exact el_mapL (j := 9) as' (fun q => V.ref q.1) _ (ev_var rfl) (sq_of b3) (by omega) fun q hq H7 e7 => ev_call (ea_cons (ev_var rfl) (ea_cons (ev_var rfl) (ea_cons (ev_var rfl) (ea_cons (ev_var rfl) ea_nil)))) fun H8 e Q q2 E => ⟨_, _, n, h, rs, s, p, q.1, q.2, rfl, g.mono ((b1.trans e7).trans e), hp, ((b4 q hq).at_ (K := K)).mono (e7.trans e), q2⟩)) (by simp)) fun H8 a8 => RetV.go k (b1.trans a8)

end
end Sg
namespace Sg
set_option autoImplicit false
open PySem L2 Evl Big
open PyProof.Rows (envOfC)
section
variable {P : Program} {w : World} {K : PySem.W.Frag} {mg : Str → Option Value} {base : Heap} {ad : Ads}
def sp_law_number (K : PySem.W.Frag) : Sp := fun vs H Q _ => ∃ c w : Int, ∃ t : Int, vs = [.int c, .int t, .int w] ∧ 0 ≤ t ∧ t ≤ 1000 ∧ Give H (fun v _ => ∃ z : Int, v = .int z) Q
theorem nab {i : Int} {a : Nat} (h0 : 0 ≤ i) (h : i < (2 : Int) ^ a) : i.natAbs < 2 ^ a := by
  have e : ((i.natAbs : Nat) : Int) = i := Int.natAbs_of_nonneg h0
  have h2 : ((i.natAbs : Nat) : Int) < ((2 ^ a : Nat) : Int) := by
    rw [e]
    simpa using h
  exact Int.ofNat_lt.mp h2
theorem ok_law_number (T : Txt K mg ad) : C8.Cal P w K mg base 1 "_law_number" (sp_law_number K) [] := by
  refine cal_of T.d__law_number sc__law_number (fun _ _ _ _ _ _ us hl => match us, hl with | [_, _, _], _ => rfl) (fun vs H Q E h => ?_) (fun f cdv A outer st H vs Q E hr h => ?_)
  · obtain ⟨c, w, t, rfl, _⟩ := h; rfl
  · obtain ⟨c, w, t, rfl, t0, t1, k⟩ := h
    refine ⟨_, (pss_cons (ps_if (pt_cmpR op_ge (pv 0) (pe_op op_pow pe_int pe_int) (nomark _)) (pss_one (ps_ret (pe_op op_fdiv (pv 0) (pe_op op_add pe_int (pe_op op_mod (pv 1) pe_int))))) pss_nil)
  (pss_cons (ps_set (i := 3) sc__law_number.nd rfl (Or.inl rfl) (pe_op op_mod (pv 0) (pe_op op_pow pe_int pe_int)))
  (pss_cons (ps_set (i := 4) sc__law_number.nd rfl (Or.inl rfl) (pe_op op_mod (pe_op op_add (pe_op op_mulW (pe_op op_add (pv 3) (pe_op op_mulW pe_int (pv 1))) pe_int) (pv 2)) pe_int))
  (pss_cons (ps_set (i := 5) sc__law_number.nd rfl (Or.inl rfl) (pe_op op_mulW (pv 4) (pe_op op_add (pe_op op_add (pv 3) (pe_op op_mulW pe_int (pv 1))) pe_int)))
  (pss_one (ps_ret (pe_op op_fdiv (pe_op op_mulW (pe_op op_mulW (pv 5) (pe_op op_add (pe_op op_add (pv 4) (pv 3)) pe_int)) (pe_op op_add (pe_op op_mulW (pv 4) (pv 4)) pe_int)) (pe_op op_add pe_int (pv 1))))))))), ?_⟩
    have p18 : ∀ {σ : L2.St} {H1 : Hp}, Ev (tOp (rI CPow fun i j => .int (i ^ j.toNat)) (tC (.int 10)) (tC (.int 18))) σ H1 (.int 1000000000000000000) := fun {σ H1} => ev_op ev_c ev_c (rv_I (C := CPow) (g := fun i j => .int (i ^ j.toNat)) ⟨by decide, by decide, by decide⟩)
    refine q_when (et_test (ev_op (ev_var rfl) p18 rv_I0)) (fun hb H1 a1 => ?_) fun hb H1 a1 => ?_
    · refine s_ret (ev_op (ev_var rfl) (ev_op ev_c (ev_op (ev_var rfl) ev_c (rv_I (C := fun _ j => 0 < j) (by decide))) rv_I0) (rv_I (C := CDiv) ⟨?_, ?_⟩)) fun H2 a2 => k _ _ (a1.trans a2) ⟨_, rfl⟩
      · omega
      · omega
    · have s0 : 0 ≤ c % 1000000000000000000 := Int.emod_nonneg _ (by decide)
      have s1 : c % 1000000000000000000 < 1000000000000000000 := Int.emod_lt_of_pos _ (by decide)
      refine q_asg (ev_op (ev_var rfl) p18 (rv_I (C := fun _ j => 0 < j) (by decide))) fun H2 a2 => ?_
      generalize c % 1000000000000000000 = s at s0 s1
      have b0 : 0 ≤ ((s + 977 * t) * 48271 + w) % 2147483647 := Int.emod_nonneg _ (by decide)
      have b1 : ((s + 977 * t) * 48271 + w) % 2147483647 < 2147483647 := Int.emod_lt_of_pos _ (by decide)
      refine q_asg (ev_op (ev_op (ev_op (ev_op (ev_var rfl) (ev_op ev_c (ev_var rfl) (rv_I (C := CMulW) (wide_mul (a := 10) (b := 10) (by decide) (nab t0 (by omega)) (by decide) (by decide) (by decide)))) rv_I0) ev_c
        (rv_I (C := CMulW) (wide_mul (a := 61) (b := 16) (nab (by omega) (by omega)) (by decide) (by decide) (by decide) (by decide)))) (ev_var rfl) rv_I0) ev_c (rv_I (C := fun _ j => 0 < j) (by decide))) fun H3 a3 => ?_
      generalize ((s + 977 * t) * 48271 + w) % 2147483647 = b at b0 b1
      have hb31 : b.natAbs < 2 ^ 31 := nab b0 (by omega)
      have h31 : (s + 31 * t + 7).natAbs < 2 ^ 61 := nab (by omega) (by omega)
      refine q_asg (ev_op (ev_var rfl) (ev_op (ev_op (ev_var rfl) (ev_op ev_c (ev_var rfl) (rv_I (C := CMulW) (wide_mul (a := 5) (b := 10) (by decide) (nab t0 (by omega)) (by decide) (by decide) (by decide)))) rv_I0) ev_c rv_I0)
        (rv_I (C := CMulW) (wide_mul hb31 h31 (by decide) (by decide) (by decide)))) fun H4 a4 => ?_
      have hm : (b * (s + 31 * t + 7)).natAbs < 2 ^ 92 := wide_lt hb31 h31
      generalize b * (s + 31 * t + 7) = m at hm
      have h5 : (b + s + 5).natAbs < 2 ^ 61 := nab (by omega) (by omega)
      have hbb : (b * b).natAbs < 2 ^ 62 := wide_lt hb31 hb31
      have hbb2 : (b * b + 11).natAbs < 2 ^ 63 := by
        have z := Int.natAbs_add_le (b * b) 11
        have z2 : (11 : Int).natAbs = 11 := rfl
        omega
      refine s_ret (ev_op (ev_op (ev_op (ev_var rfl) (ev_op (ev_op (ev_var rfl) (ev_var rfl) rv_I0) ev_c rv_I0) (rv_I (C := CMulW) (wide_mul hm h5 (by decide) (by decide) (by decide))))
        (ev_op (ev_op (ev_var rfl) (ev_var rfl) (rv_I (C := CMulW) (wide_mul hb31 hb31 (by decide) (by decide) (by decide)))) ev_c rv_I0) (rv_I (C := CMulW) (wide_mul (wide_lt hm h5) hbb2 (by decide) (by decide) (by decide))))
        (ev_op ev_c (ev_var rfl) rv_I0) (rv_I (C := CDiv) ⟨by omega, by omega⟩)) fun H5 a5 => k _ _ ((((a1.trans a2).trans a3).trans a4).trans a5) ⟨_, rfl⟩

end
end Sg
namespace Sg
set_option autoImplicit false
open PySem L2 Evl Big
open PyProof.Rows (envOfC)
section
variable {P : Program} {w : World} {K : PySem.W.Frag} {mg : Str → Option Value} {base : Heap} {ad : Ads}
/-- the roads found so far, as the dict's pairs -/
def fKey (p : Int × Int) : List Key := [Sum.inl p.1, Sum.inl p.2]
def fndK (F : List (Int × Int)) : List (List Key × V) := F.map fun p => (fKey p, V.bl true)
theorem fKey_inj {p q : Int × Int} (h : fKey p = fKey q) : p = q := by
  unfold fKey at h
  injection h with h1 h
  injection h1 with h1
  injection h with h2 _
  injection h2 with h2
  cases p; cases q; simp_all
def addR (F : List (Int × Int)) (p : Int × Int) : List (Int × Int) := if p ∈ F then F else F ++ [p]
theorem fndK_put (F : List (Int × Int)) (p : Int × Int) : putK (fndK F) (fKey p) (.bl true) = fndK (addR F p) := by
  unfold putK addR
  have ha : ((fndK F).any fun kv => decide (kv.1 = fKey p)) = decide (p ∈ F) := by
    rw [Bool.eq_iff_iff, List.any_eq_true, decide_eq_true_eq]
    constructor
    · rintro ⟨kv, hm, e⟩
      obtain ⟨q, hq, rfl⟩ := List.mem_map.mp hm
      rw [decide_eq_true_eq] at e
      rw [← fKey_inj e]; exact hq
    · intro hm
      exact ⟨(fKey p, .bl true), List.mem_map.mpr ⟨p, hm, rfl⟩, decide_eq_true rfl⟩
  rw [ha]
  by_cases c : p ∈ F
  · rw [if_pos (decide_eq_true c), if_pos c]
    unfold fndK
    rw [List.map_map]
    refine List.map_congr_left fun q _ => ?_
    show (if fKey q = fKey p then (fKey q, V.bl true) else (fKey q, V.bl true)) = _
    rw [ite_self]
  · rw [if_neg (by rw [decide_eq_false c]; simp), if_neg c]
    unfold fndK
    rw [List.map_append]
    rfl
theorem addR_nodup {F : List (Int × Int)} {p : Int × Int} (h : F.Nodup) : (addR F p).Nodup := by
  unfold addR
  split
  · exact h
  · rename_i c
    rw [List.nodup_append]
    refine ⟨h, by simp, fun a ha b hb e => ?_⟩
    rw [List.mem_singleton] at hb
    subst hb; subst e
    exact c ha
theorem addR_mem {F : List (Int × Int)} {p q : Int × Int} : q ∈ addR F p ↔ q ∈ F ∨ q = p := by
  unfold addR
  split
  · rename_i c
    constructor
    · exact .inl
    · rintro (h | rfl)
      · exact h
      · exact c
  · rw [List.mem_append, List.mem_singleton]
theorem addR_len {F : List (Int × Int)} {p : Int × Int} : (addR F p).length ≤ F.length + 1 := by
  unfold addR
  split
  · exact Nat.le_succ _
  · rw [List.length_append]; exact Nat.le_refl _
/-- a pair's two numbers, read off the heap -/
def prH (H : Hp) : V → Int × Int
  | .ref t => match H t with
    | some (.tup [.int a, .int b]) => (a, b)
    | _ => (0, 0)
  | _ => (0, 0)
def adV : V → Addr
  | .ref t => t
  | _ => 0
theorem prH_of {H : Hp} {t : Addr} {a b : Int} (h : H t = some (.tup [.int a, .int b])) : prH H (.ref t) = (a, b) := by
  simp only [prH, h]
/-- the keys' tuples -/
theorem keys_at {H : Hp} : ∀ (F : List (Int × Int)) (bs : List Addr), IsKeys H (fndK F) bs → ∃ ks : List (Addr × (Int × Int)), ks.map (·.1) = bs ∧ ks.map (·.2) = F ∧ ∀ p ∈ ks, H p.1 = some (.tup [.int p.2.1, .int p.2.2])
  | [], _, .nil => ⟨[], rfl, rfl, fun p h => by cases h⟩
  | f :: F, _, .cons (b := b) h t => by
    obtain ⟨ks, e1, e2, e3⟩ := keys_at F _ t
    refine ⟨(b, f) :: ks, by rw [List.map_cons, e1], by rw [List.map_cons, e2], fun p hp => ?_⟩
    rcases List.mem_cons.mp hp with rfl | hp
    · exact h
    · exact e3 p hp
theorem ris_of {ds : List (Int × Int)} (h : ds.Pairwise fun p q => p.1 < q.1 ∨ (p.1 = q.1 ∧ p.2 < q.2)) : risD (ds.map rdD) = true := by
  unfold risD
  rw [List.all_eq_true]
  intro k hk
  have hk' := List.mem_range.mp hk
  rw [List.length_map] at hk'
  have e1 := List.getElem?_eq_getElem (show k < ds.length by omega)
  have e2 := List.getElem?_eq_getElem (show k + 1 < ds.length by omega)
  have q := (List.pairwise_iff_getElem.mp h) k (k + 1) (by omega) (by omega) (by omega)
  generalize ds[k] = a at e1 q
  generalize ds[k + 1] = b at e2 q
  rw [List.getD_eq_getElem?_getD, List.getD_eq_getElem?_getD, List.getElem?_map, List.getElem?_map, e1, e2]
  show HT.lexLt [a.1, a.2] [b.1, b.2] = true
  simp only [HT.lexLt]
  by_cases c : a.1 = b.1
  · rw [if_pos c]
    have : a.2 < b.2 := by omega
    rw [if_neg (by omega), decide_eq_true_eq]
    exact this
  · rw [if_neg c, decide_eq_true_eq]
    omega
theorem landOk_mk {n h : Int} {rs : List (Int × Int)} (n1 : 1 ≤ n) (n40 : n ≤ 40) (h0 : 0 ≤ h) (hn : h < n) (few : rs.length ≤ 120) (rd : ∀ p ∈ rs, 0 ≤ p.1 ∧ p.1 < n ∧ 0 ≤ p.2 ∧ p.2 < n ∧ p.1 ≠ p.2) (rise : rs.Pairwise fun p q => p.1 < q.1 ∨ (p.1 = q.1 ∧ p.2 < q.2)) : LandOk n h rs := by
  show ((decide (1 ≤ n) && decide (n ≤ 40)) && (placeD n (.int h) && roadsD n (.list (rs.map rdD)))) = true
  simp only [placeD, roadsD, Bool.and_eq_true, decide_eq_true_eq, List.length_map, List.all_map, List.all_eq_true]
  refine ⟨⟨n1, n40⟩, ⟨h0, hn⟩, few, fun p hp => ?_, ris_of rise⟩
  obtain ⟨a1, a2, a3, a4, a5⟩ := rd p hp
  show (placeD n (.int p.1) && (placeD n (.int p.2) && neD (.int p.1) (.int p.2))) = true
  simp only [placeD, neD, Bool.and_eq_true, decide_eq_true_eq, Bool.not_eq_true', decide_eq_false_iff_not]
  exact ⟨⟨a1, a2⟩, ⟨a3, a4⟩, a5⟩
/-- what the law's maker of lands tells: a new land, new signs along its roads (those that are not cut off) -/
structure Made (H H' : Hp) (v : V) (most n h : Int) (all : List (Int × Int)) (s : List (Option Nat)) : Prop where
  at_ : ∃ t lt r sg, ∃ ks : List (Addr × List Int), v = .ref t ∧ H' t = some (.tup [.ref lt, .ref sg]) ∧ H' lt = some (.tup [.int n, .int h, .ref r]) ∧ H' r = some (.lst (ks.map fun p => V.ref p.1)) ∧ (∀ p ∈ ks, H' p.1 = some (.tup (p.2.map V.int))) ∧
    ks.map (·.2) = (all.take 120).map (fun q => [q.1, q.2]) ∧ H' sg = some (.lst (s.map nV)) ∧ H t = none ∧ H lt = none ∧ H r = none ∧ H sg = none
  ok : LandOk n h (all.take 120)
  most : n ≤ most
  len : (s.length : Int) = n
  home : nx s h.toNat = none
  along : ∀ p q : Nat, nx s p = some q → (q : Int) < n ∧ ((p : Int), (q : Int)) ∈ all
  few : (all.length : Int) ≤ 4 * n
def sp_law_land (K : PySem.W.Frag) : Sp := fun vs H Q _ => ∃ (sa : Addr) (ns : List Int) (by_ most : Int), vs = [.ref sa, .int by_, .int most] ∧ SqL K H sa (ns.map V.int) ∧ ns.length ≤ 63 ∧ 0 ≤ by_ ∧ by_ ≤ 100 ∧ 1 ≤ most ∧ most ≤ 40 ∧ Give H (fun v H' => ∃ n h all s, Made H H' v most n h all s) Q
def cells (ns : List Int) : List Int := if ns = [] then [5] else ns.take 63
theorem cells_len (ns : List Int) : 0 < (cells ns).length ∧ (cells ns).length ≤ 63 := by
  unfold cells
  split
  · exact ⟨by decide, by decide⟩
  · rename_i c
    have : ns.length ≠ 0 := fun z => c (List.length_eq_zero_iff.mp z)
    rw [List.length_take]
    omega
theorem four_ix (L : List Int) (hl : L.length = 4) {k : Nat} (hk : k < 4) : atI (L.map V.int) (k : Int) = some (V.int (L.getD k 0)) := by
  refine atI_nat ?_
  rw [List.getElem?_map, List.getD_eq_getElem?_getD, List.getElem?_eq_getElem (show k < L.length by omega)]
  rfl
theorem ev_four {σ : L2.St} {H : Hp} {tb : TE} {a b c d : Int} {k : Nat} (h : ∀ H1, Ex H H1 → Ev tb σ H1 (.int (k : Int))) (hk : k < 4) : Ev (tOp (rIxT K) (tTup (tCons (tC (.int a)) (tCons (tC (.int b)) (tCons (tC (.int c)) (tCons (tC (.int d)) tNil))))) tb) σ H (.int ([a, b, c, d].getD k 0)) :=
  ev_opU1 (eu_tup (ea_cons ev_c (ea_cons ev_c (ea_cons ev_c (ea_cons ev_c ea_nil)))) (by show 4 ≤ 100000; decide)) h fun p H1 hp e => rv_ixT (st_of hp) (four_ix [a, b, c, d] rfl hk)
theorem nx_left {s t : List (Option Nat)} {p : Nat} (h : p < s.length) : nx (s ++ t) p = nx s p := by
  unfold nx
  rw [List.getElem?_append_left h]
theorem nx_right {s : List (Option Nat)} {x : Option Nat} {p : Nat} (h : s.length ≤ p) : nx (s ++ [x]) p = if p = s.length then x else none := by
  unfold nx
  rw [List.getElem?_append_right h]
  by_cases c : p = s.length
  · rw [if_pos c, c, Nat.sub_self]; rfl
  · rw [if_neg c, List.getElem?_eq_none (by simp; omega)]; rfl
theorem ok_law_land (T : Txt K mg ad) : C8.Cal P w K mg base 2 "_law_land" (sp_law_land K) [] := by
  have c__law_number : C8.Cal P w K mg base 1 "_law_number" (sp_law_number K) [] := ok_law_number T
  refine cal_of T.d__law_land sc__law_land (fun _ _ _ _ _ _ us hl => match us, hl with | [_, _, _], _ => rfl) (fun vs H Q E h => ?_) (fun f cdv A outer st H vs Q E hr h => ?_)
  · obtain ⟨sa, ns, by_, most, rfl, _⟩ := h; rfl
  · obtain ⟨sa, ns, by_, most, rfl, hS, hns, y0, y1, m1, m40, k⟩ := h
    have hu := hu_of hr
    refine ⟨_, (pss_cons (ps_set (i := 3) sc__law_land.nd rfl (Or.inl rfl) (pe_ifExp (pt_cmpR (k_neD K hr.units) (pv 0) (pe_lst pa_nil) (nomark _)) (pe_slice (k_sl K) (pv 0) po_none (po_some pe_int)) (pe_lst (pa_cons pe_int pa_nil))))
  (pss_cons (ps_par3 (i := 4) (j := 5) (l := 6) (by rfl) sc__law_land.nd rfl rfl rfl (by decide) (by decide) (by decide) rfl rfl rfl (pa_cons (pe_op op_add (pe_callB call_abs (by rfl) T.n_abs (by decide +kernel) (pa_cons (pe_callB (k_sum K rfl) (by rfl) T.n_sum (by decide +kernel) (pa_cons (pv 3) pa_nil)) pa_nil)) (pe_op op_mulW pe_int (pv 1))) (pa_cons pe_dnewT (pa_cons (pe_lst pa_nil) pa_nil))) (by rfl))
  (pss_cons (ps_set (i := 7) sc__law_land.nd rfl (Or.inl rfl) (pe_op op_add pe_int (pe_op op_mod (pv 4) (pv 2))))
  (pss_cons (ps_par (i := 8) (j := 9) (by rfl) sc__law_land.nd rfl rfl (by decide) rfl rfl (pa_cons (pe_op op_mod (pe_op op_fdiv (pv 4) pe_int) (pv 7)) (pa_cons (pe_op op_mod (pe_op op_fdiv (pv 4) pe_int) pe_int) pa_nil)) (by rfl))
  (pss_cons (ps_for PassesOwn.never rfl (pi_range1 rfl T.n_range (pa_cons (pv 7) pa_nil)) (pg_name (i := 10) sc__law_land.nd rfl (Or.inl rfl))
    (pss_cons (ps_set (i := 11) sc__law_land.nd rfl (Or.inl rfl) (pe_op op_fdiv (pe_callB call_abs (by rfl) T.n_abs (by decide +kernel) (pa_cons (C8.pe_c c__law_number hr (by decide) rfl (pa_cons (pe_op op_add (pe_ix (k_list K) (pv 3) (pe_op op_mod (pe_op op_add (pv 10) (pv 1)) (pe_callB (k_len K) (by rfl) T.n_len PySem.boot_len (pa_cons (pv 3) pa_nil))) (fun _ _ => rfl)) (pv 10)) (pa_cons (pe_op op_add (pv 10) (pv 1)) (pa_cons (pv 4) pa_nil)))) pa_nil)) pe_int))
  (pss_cons (ps_set (i := 12) sc__law_land.nd rfl (Or.inl rfl) (pe_lst pa_nil))
  (pss_cons (ps_for PassesOwn.never rfl (pi_range1 rfl T.n_range (pa_cons (pe_op op_add (pe_op op_mod (pv 11) (pe_ix (k_tup K) (pe_tup (pa_cons pe_int (pa_cons pe_int (pa_cons pe_int (pa_cons pe_int pa_nil))))) (pv 9) (fun _ _ => rfl))) (pe_ifExp (pt_cmpR op_gt (pv 9) pe_int (nomark _)) pe_int pe_int)) pa_nil)) (pg_name (i := 13) sc__law_land.nd rfl (Or.inl rfl))
    (pss_cons (ps_set (i := 14) sc__law_land.nd rfl (Or.inl rfl) (pe_op op_fdiv (pv 11) (pe_ix (k_tup K) (pe_tup (pa_cons pe_int (pa_cons pe_int (pa_cons pe_int (pa_cons pe_int pa_nil))))) (pv 13) (fun _ _ => rfl))))
  (pss_cons (ps_set (i := 15) sc__law_land.nd rfl (Or.inl rfl) (pe_ifExp (PW.pt (pw_or (pt_cmpR op_gt (pe_op op_mod (pe_op op_fdiv (pv 14) (pv 7)) pe_int) pe_int (nomark _)) (pw_or1 (pt_cmpR op_eq (pv 9) pe_int (nomark _))))) (pe_op op_mod (pv 14) (pv 7)) (pe_op op_mod (pe_op op_add (pe_op op_add (pv 10) pe_int) (pe_op op_mod (pe_op op_fdiv (pv 14) (pe_op op_mulW pe_int (pv 7))) pe_int)) (pv 7))))
  (pss_one (ps_if (pt_cmpR op_ne (pv 15) (pv 10) (nomark _)) (pss_cons (ps_expr (pe_bm PySem.F.plainAttrs_list PySem.F.slot_list_append PySem.F.type_list_append mt_append (pv 12) (pa_cons (pv 15) pa_nil)))
  (pss_one (ps_dput hu (pv 5) (pe_tup (pa_cons (pv 10) (pa_cons (pv 15) pa_nil))) pe_bl rfl))) pss_nil)))))
  (pss_cons (ps_set (i := 16) sc__law_land.nd rfl (Or.inl rfl) pe_non)
  (pss_cons (ps_if (PW.pt (pw_and (pt_cmpR (k_neD K hr.units) (pv 12) (pe_lst pa_nil) (nomark _)) (pw_and (pt_cmpR op_ne (pv 10) (pv 8) (nomark _)) (pw_and1 (pt_cmpR op_gt (pe_op op_mod (pe_op op_fdiv (pv 11) pe_int) pe_int) pe_int (nomark _)))))) (pss_one (ps_set (i := 16) sc__law_land.nd rfl (Or.inl rfl) (pe_ix (k_list K) (pv 12) (pe_op op_mod (pe_op op_fdiv (pv 11) pe_int) (pe_callB (k_len K) (by rfl) T.n_len PySem.boot_len (pa_cons (pv 12) pa_nil))) (fun _ _ => rfl)))) pss_nil)
  (pss_one (ps_expr (pe_bm PySem.F.plainAttrs_list PySem.F.slot_list_append PySem.F.type_list_append mt_append (pv 6) (pa_cons (pv 16) pa_nil))))))))))
  (pss_one (ps_ret (pe_tup (pa_cons (pe_tup (pa_cons (pv 7) (pa_cons (pv 8) (pa_cons (pe_slice (k_sl K) (pe_callB cr_sortedPO (by rfl) T.n_sorted (by decide +kernel) (pa_cons (pe_callTy (call_list_dT rfl) (by rfl) T.n_list (by decide +kernel) (pa_cons (pv 5) pa_nil)) pa_nil)) po_none (po_some pe_int)) pa_nil)))) (pa_cons (pv 6) pa_nil)))))))))), ?_⟩
    have hcl := cells_len ns
    -- the cells
    refine q_asgL (xs := (cells ns).map V.int) (el_if (b := !decide (ns = [])) (et_test (ev_opL (ev_var rfl) (el_lst ea_nil (by decide)) fun p H1 hp e => rv_neD (.lst (ex_l e hS) (dp_ints ns)) (.lst (sq_of hp) .nil) (pd_ints ns) (pd_ints []) (by
        rw [lst_inj]
        exact map_inj (m := []) int_inj))) (fun hb => ?_) fun hb => ?_) fun cl H1 hcl0 a1 hcl1 => ?_
    · have hne : ¬ ns = [] := by simpa using hb
      have q := el_sl (K := K) (σ := start N__law_land [.ref sa, .int by_, .int most]) (te := tVar 0) (tl := tNoPart) (th := tPart (tC (.int 63))) (ev_var rfl) eo_none (eo_some ev_c) hS
      have e : cutV (ns.map V.int) none (some 63) = (cells ns).map V.int := by
        have z := cut_to (xs := ns.map V.int) (k := 63)
        unfold cells
        rw [if_neg hne, List.map_take]
        exact z
      rw [e] at q
      exact q
    · have he : ns = [] := by simpa using hb
      have e : (cells ns).map V.int = [V.int 5] := by
        unfold cells
        rw [if_pos he]
        rfl
      rw [e]
      exact el_lst (ea_cons ev_c ea_nil) (by show 1 ≤ 100000; decide)
    -- whole, found, signs
    refine q_par3 (eap_v (ev_op (ev_cb (ea_cons (ev_sum (ev_var rfl) (sq_of hcl1)) ea_nil) rc_abs) (ev_op ev_c (ev_var rfl) (rv_I (C := CMulW) (wide_mul (a := 3) (b := 10) (by decide) (nab y0 (by omega)) (by decide) (by decide) (by decide)))) rv_I0)
      (eap_p (Post := fun v H2 => ∃ d, v = .ref d ∧ H1 d = none ∧ H2 d = some (.dT [])) (fun H2 e Q q d hd => q _ _ (Ex.new hd) ⟨d, rfl, fresh_back e hd, upd_same⟩) (fun v Ha Hb e ⟨d, h1, h2, h3⟩ => ⟨d, h1, h2, e _ _ h3⟩)
      (eap_l (el_lst ea_nil (by decide)) eap_nil))) fun vs H2 a2 ⟨r1, e1, x, r2, e2, ⟨fd, e3, hfd0, hfd⟩, sl, r3, e4, hsl0, hsl, e5⟩ => ?_
    subst e5 e4 e3 e2 e1
    refine ⟨_, _, _, rfl, ?_⟩
    have w0 : 0 ≤ (if (cells ns).sum < 0 then -(cells ns).sum else (cells ns).sum) + 7 * by_ := by split <;> omega
    generalize (if (cells ns).sum < 0 then -(cells ns).sum else (cells ns).sum) + 7 * by_ = whole at w0
    -- many
    have n1 : 1 ≤ 1 + whole % most := by have := Int.emod_nonneg whole (show most ≠ 0 by omega); omega
    have nm : 1 + whole % most ≤ most := by have := Int.emod_lt_of_pos whole (show 0 < most by omega); omega
    refine q_asg (ev_op ev_c (ev_op (ev_var rfl) (ev_var rfl) (rv_I (C := fun _ j => 0 < j) (by omega))) rv_I0) fun H3 a3 => ?_
    generalize 1 + whole % most = n at n1 nm
    -- home, kind
    have h0 : 0 ≤ whole / 40 % n := Int.emod_nonneg _ (by omega)
    have hn : whole / 40 % n < n := Int.emod_lt_of_pos _ (by omega)
    have k0 : 0 ≤ whole / 1600 % 4 := Int.emod_nonneg _ (by decide)
    have k4 : whole / 1600 % 4 < 4 := Int.emod_lt_of_pos _ (by decide)
    refine q_par2 (eap_v (ev_op (ev_op (ev_var rfl) ev_c (rv_I (C := CDiv) ⟨by decide, by decide⟩)) (ev_var rfl) (rv_I (C := fun _ j => 0 < j) (by omega))) (eap_v (ev_op (ev_op (ev_var rfl) ev_c (rv_I (C := CDiv) ⟨by decide, by decide⟩)) ev_c (rv_I (C := fun _ j => 0 < j) (by decide))) eap_nil)) fun vs H4 a4 ⟨r1, e1, r2, e2, e3⟩ => ?_
    subst e3 e2 e1
    refine ⟨_, _, rfl, ?_⟩
    generalize whole / 40 % n = h at h0 hn
    obtain ⟨kk, hkk⟩ : ∃ kk : Nat, whole / 1600 % 4 = (kk : Int) := ⟨(whole / 1600 % 4).toNat, by omega⟩
    rw [hkk] at k4 ⊢
    have hkk4 : kk < 4 := by omega
    have a14 := ((a1.trans a2).trans a3).trans a4
    have fd0 : H fd = none := fresh_back a1 hfd0
    have sl0 : H sl = none := fresh_back a1 hsl0
    have fsl : fd ≠ sl := fun z => by rw [z, hsl] at hfd; cases hfd
    have hfd4 := a4 _ _ (a3 _ _ hfd)
    have hsl4 := a4 _ _ (a3 _ _ hsl)
    have cl4 := a4 _ _ (a3 _ _ (a2 _ _ hcl1))
    have clfd : cl ≠ fd := ne_of_none hcl1 hfd0
    have clsl : cl ≠ sl := ne_of_none hcl1 hsl0
    have ec : cells ns ≠ [] := fun z => by rw [z] at hcl; exact absurd hcl.1 (by decide)
    refine q_forR (ea_cons (ev_var rfl) ea_nil) (by omega)
      (fun i σ' H' => ∃ (F : List (Int × Int)) (s : List (Option Nat)) (x10 x11 x12 x13 x14 x15 x16 : Option V), Ex H H' ∧ H' fd = some (.dT (fndK F)) ∧ H' sl = some (.lst (s.map nV)) ∧ H' cl = some (.lst ((cells ns).map V.int)) ∧ s.length = i ∧ F.Nodup ∧ F.length ≤ 4 * i ∧
        (∀ p ∈ F, 0 ≤ p.1 ∧ p.1 < n ∧ 0 ≤ p.2 ∧ p.2 < n ∧ p.1 ≠ p.2) ∧ (∀ p q : Nat, nx s p = some q → (q : Int) < n ∧ ((p : Int), (q : Int)) ∈ F) ∧ nx s h.toNat = none ∧
        σ' = [some (.ref sa), some (.int by_), some (.int most), some (.ref cl), some (.int whole), some (.ref fd), some (.ref sl), some (.int n), some (.int h), some (.int (kk : Int)), x10, x11, x12, x13, x14, x15, x16])
      (fun H5 a5 => ⟨[], [], _, _, _, _, _, _, _, a14.trans a5, a5 _ _ hfd4, a5 _ _ hsl4, a5 _ _ cl4, rfl, List.nodup_nil, Nat.zero_le _, (fun p hp => by cases hp), (fun p q e => by simp [nx] at e), (by simp [nx]), rfl⟩) ?_ ?_
    · rintro i σ' H' hi ⟨F, s, x10, x11, x12, x13, x14, x15, x16, b1, b2, b3, b4, b5, b6, b7, b8, b9, b10, rfl⟩
      -- the number
      have hix : ((i : Int) + by_) % ((cells ns).length : Int) < ((cells ns).length : Int) := Int.emod_lt_of_pos _ (by omega)
      have hix0 : 0 ≤ ((i : Int) + by_) % ((cells ns).length : Int) := Int.emod_nonneg _ (by omega)
      obtain ⟨jx, hjx⟩ : ∃ jx : Nat, ((i : Int) + by_) % ((cells ns).length : Int) = (jx : Int) := ⟨(((i : Int) + by_) % ((cells ns).length : Int)).toNat, by omega⟩
      have hget := List.getElem?_eq_getElem (show jx < (cells ns).length by omega)
      generalize (cells ns)[jx] = cv at hget
      have lenE : Ev (tCB (rLenS K) (tCons (tVar 3) tNil)) ([some (.ref sa), some (.int by_), some (.int most), some (.ref cl), some (.int whole), some (.ref fd), some (.ref sl), some (.int n), some (.int h), some (.int (kk : Int)), some (.int (i : Int)), x11, x12, x13, x14, x15, x16]) H' (.int ((cells ns).length : Int)) := by
        have q := ev_len (K := K) (ta := tVar 3) (σ := [some (.ref sa), some (.int by_), some (.int most), some (.ref cl), some (.int whole), some (.ref fd), some (.ref sl), some (.int n), some (.int h), some (.int (kk : Int)), some (.int (i : Int)), x11, x12, x13, x14, x15, x16]) (ev_var rfl) (sq_of b4)
        rwa [List.length_map] at q
      refine q_asgP (Post := fun v _ => ∃ N : Int, 0 ≤ N ∧ v = .int N) (evp_op1 (Post := fun v _ => ∃ N : Int, 0 ≤ N ∧ v = .int N) (evp_cb1 (Post := fun v _ => ∃ z : Int, v = .int z) (evp_call (ea_cons (ev_op (ev_op (ev_var rfl) (ev_op (ev_op (ev_var rfl) (ev_var rfl) rv_I0) lenE (rv_I (C := fun _ j => 0 < j) (by omega))) (rv_ixL (sq_of b4) (at_of (j := jx) hjx (by rw [List.getElem?_map, hget]; rfl)))) (ev_var rfl) rv_I0) (ea_cons (ev_op (ev_var rfl) (ev_var rfl) rv_I0) (ea_cons (ev_var rfl) ea_nil)))
        fun H5 e Q q E => ⟨_, _, _, rfl, by omega, by omega, q⟩) fun x H5 e ⟨z, hz⟩ => ⟨.int (if z < 0 then -z else z), by subst hz; exact rc_abs, fun H6 _ => ⟨_, by split <;> omega, rfl⟩⟩)
        fun x H5 e ⟨N, hN, hx⟩ => ⟨.int 3, .int (N / 3), ev_c, by subst hx; exact rv_I (C := CDiv) ⟨by decide, by decide⟩, fun H6 _ => ⟨_, by omega, rfl⟩⟩) fun v H5 c1 ⟨N, hN, hv⟩ => ?_
      subst hv
      -- mine
      refine q_asgL (el_lst ea_nil (by decide)) fun ml H6 hml0 c2 hml => ?_
      have b16 := (b1.trans c1).trans c2
      have ml0 : H ml = none := fresh_back (b1.trans c1) hml0
      have mlfd : ml ≠ fd := fun z => by rw [z, c1 _ _ b2] at hml0; cases hml0
      have mlsl : ml ≠ sl := fun z => by rw [z, c1 _ _ b3] at hml0; cases hml0
      have mlcl : ml ≠ cl := fun z => by rw [z, c1 _ _ b4] at hml0; cases hml0
      have hc4 : 0 < [2, 3, 4, 3].getD kk (0 : Int) ∧ ∀ M : Int, 0 ≤ M % [2, 3, 4, 3].getD kk (0 : Int) + (if (0 : Int) < (kk : Int) then 1 else 0) ∧ M % [2, 3, 4, 3].getD kk (0 : Int) + (if (0 : Int) < (kk : Int) then 1 else 0) ≤ 4 := by
        match kk, hkk4 with
        | 0, _ => exact ⟨by decide, fun M => by show 0 ≤ M % 2 + 0 ∧ M % 2 + 0 ≤ 4; omega⟩
        | 1, _ => exact ⟨by decide, fun M => by show 0 ≤ M % 3 + 1 ∧ M % 3 + 1 ≤ 4; omega⟩
        | 2, _ => exact ⟨by decide, fun M => by show 0 ≤ M % 4 + 1 ∧ M % 4 + 1 ≤ 4; omega⟩
        | 3, _ => exact ⟨by decide, fun M => by show 0 ≤ M % 3 + 1 ∧ M % 3 + 1 ≤ 4; omega⟩
      obtain ⟨hc40, hc41⟩ := hc4
      obtain ⟨hc42, hc43⟩ := hc41 N
      have hN7 : Ev (tOp (rI0 fun i j => V.int (i + j)) (tOp (rI (fun _ j => 0 < j) fun i j => V.int (i % j)) (tVar 11) (tOp (rIxT K) (tTup (tCons (tC (.int 2)) (tCons (tC (.int 3)) (tCons (tC (.int 4)) (tCons (tC (.int 3)) tNil))))) (tVar 9)))
          (tIf (tTest (tOp (rI0 fun i j => V.bl (decide (j < i))) (tVar 9) (tC (.int 0)))) (tC (.int 1)) (tC (.int 0))))
          [some (.ref sa), some (.int by_), some (.int most), some (.ref cl), some (.int whole), some (.ref fd), some (.ref sl), some (.int n), some (.int h), some (.int (kk : Int)), some (.int (i : Int)), some (.int N), some (.ref ml), x13, x14, x15, x16] H6 (.int (N % [2, 3, 4, 3].getD kk (0 : Int) + (if (0 : Int) < (kk : Int) then 1 else 0))) :=
        ev_op (ev_op (ev_var rfl) (ev_four (fun _ _ => ev_var rfl) hkk4) (rv_I (C := fun _ j => 0 < j) hc40)) (ev_if (b := decide ((0 : Int) < (kk : Int))) (et_test (ev_op (ev_var rfl) ev_c rv_I0)) (fun hb => ev_is ev_c (by rw [if_pos (of_decide_eq_true hb)])) (fun hb => ev_is ev_c (by rw [if_neg (of_decide_eq_false hb)]))) rv_I0
      refine q_forR (ea_cons hN7 ea_nil) (by omega)
        (fun j σ2 H7 => ∃ (F2 : List (Int × Int)) (m : List Int) (x13 x14 x15 x16 : Option V), Ex H H7 ∧ H7 fd = some (.dT (fndK F2)) ∧ H7 sl = some (.lst (s.map nV)) ∧ H7 cl = some (.lst ((cells ns).map V.int)) ∧ H7 ml = some (.lst (m.map V.int)) ∧ F2.Nodup ∧ F2.length ≤ 4 * i + j ∧
          (∀ p ∈ F2, 0 ≤ p.1 ∧ p.1 < n ∧ 0 ≤ p.2 ∧ p.2 < n ∧ p.1 ≠ p.2) ∧ (∀ p ∈ F, p ∈ F2) ∧ (∀ o ∈ m, ((i : Int), o) ∈ F2 ∧ 0 ≤ o ∧ o < n) ∧ m.length ≤ j ∧
          σ2 = [some (.ref sa), some (.int by_), some (.int most), some (.ref cl), some (.int whole), some (.ref fd), some (.ref sl), some (.int n), some (.int h), some (.int (kk : Int)), some (.int (i : Int)), some (.int N), some (.ref ml), x13, x14, x15, x16])
        (fun H7 c7 => ⟨F, [], _, _, _, _, b16.trans c7, c7 _ _ (c2 _ _ (c1 _ _ b2)), c7 _ _ (c2 _ _ (c1 _ _ b3)), c7 _ _ (c2 _ _ (c1 _ _ b4)), c7 _ _ hml, b6, by omega, b8, (fun p hp => hp), (fun o ho => by cases ho), Nat.le_refl _, rfl⟩) ?_ ?_
      · rintro j σ2 H7 hj ⟨F2, m, x13, x14, x15, x16, d1, d2, d3, d4, d5, d6, d7, d8, d9, d10, d11, rfl⟩
        have hj4 : j < 4 := by omega
        have hdv : 0 < [5, 1009, 99991, 10000019].getD j (0 : Int) ∧ [5, 1009, 99991, 10000019].getD j (0 : Int) < 1073741824 := by
          match j, hj4 with
          | 0, _ => exact ⟨by decide, by decide⟩
          | 1, _ => exact ⟨by decide, by decide⟩
          | 2, _ => exact ⟨by decide, by decide⟩
          | 3, _ => exact ⟨by decide, by decide⟩
        refine q_asg (ev_op (ev_var rfl) (ev_four (fun _ _ => ev_var rfl) hj4) (rv_I (C := CDiv) hdv)) fun H8 c8 => ?_
        generalize N / [5, 1009, 99991, 10000019].getD j (0 : Int) = far
        have m1 : 0 ≤ far % n := Int.emod_nonneg _ (by omega)
        have m2 : far % n < n := Int.emod_lt_of_pos _ (by omega)
        have m3 : 0 ≤ ((i : Int) + 1 + far / (3 * n) % 3) % n := Int.emod_nonneg _ (by omega)
        have m4 : ((i : Int) + 1 + far / (3 * n) % 3) % n < n := Int.emod_lt_of_pos _ (by omega)
        obtain ⟨o, ho0, hon, hoe⟩ : ∃ o : Int, 0 ≤ o ∧ o < n ∧ o = if (decide (0 < far / n % 3) || decide (V.int (kk : Int) = V.int 3)) = true then far % n else ((i : Int) + 1 + far / (3 * n) % 3) % n := by
          refine ⟨_, ?_, ?_, rfl⟩
          · split <;> omega
          · split <;> omega
        refine q_asg (v := .int o) (ev_if (b := decide (0 < far / n % 3) || decide (V.int (kk : Int) = V.int 3)) (et_or (et_test (ev_op (ev_op (ev_op (ev_var rfl) (ev_var rfl) (rv_I (C := CDiv) ⟨by omega, by omega⟩)) ev_c (rv_I (C := fun _ j => 0 < j) (by decide))) ev_c rv_I0)) fun _ => et_test (ev_op (ev_var rfl) ev_c (rv_eq rfl)))
          (fun hb => ev_is (ev_op (ev_var rfl) (ev_var rfl) (rv_I (C := fun _ j => 0 < j) (by omega))) (by rw [hoe, if_pos hb]))
          (fun hb => ev_is (ev_op (ev_op (ev_op (ev_var rfl) ev_c rv_I0) (ev_op (ev_op (ev_var rfl) (ev_op ev_c (ev_var rfl) (rv_I (C := CMulW) (wide_mul (a := 2) (b := 6) (by decide) (nab (by omega) (by omega)) (by decide) (by decide) (by decide)))) (rv_I (C := CDiv) ⟨by omega, by omega⟩)) ev_c (rv_I (C := fun _ j => 0 < j) (by decide))) rv_I0) (ev_var rfl) (rv_I (C := fun _ j => 0 < j) (by omega))) (by rw [hoe, if_neg (by rw [hb]; simp)]))) fun H9 c9 => ?_
        clear hoe
        have e9 := (d1.trans c8).trans c9
        have f9 := c9 _ _ (c8 _ _ d2)
        have s9 := c9 _ _ (c8 _ _ d3)
        have cl9 := c9 _ _ (c8 _ _ d4)
        have ml9 := c9 _ _ (c8 _ _ d5)
        refine s_when (et_test (ev_op (ev_var rfl) (ev_var rfl) (rv_ne rfl))) (fun hb H10 c10 => ?_) fun hb H10 c10 => ?_
        · have hne : o ≠ (i : Int) := by
            intro z
            rw [z] at hb
            simp at hb
          refine q_app (K := K) (v := .int o) (c10 _ _ ml9) (ev_var rfl) (ev_var rfl) (by rw [List.length_map]; omega) fun H11 c11 => ?_
          have e11 := Ex.mut (o := .lst (m.map V.int ++ [.int o])) ((e9.trans c10).trans c11) ml0
          have f11 : (upd H11 ml (.lst (m.map V.int ++ [.int o]))) fd = some (.dT (fndK F2)) := by rw [upd_ne mlfd.symm]; exact c11 _ _ (c10 _ _ f9)
          have s11 : (upd H11 ml (.lst (m.map V.int ++ [.int o]))) sl = some (.lst (s.map nV)) := by rw [upd_ne mlsl.symm]; exact c11 _ _ (c10 _ _ s9)
          have cl11 : (upd H11 ml (.lst (m.map V.int ++ [.int o]))) cl = some (.lst ((cells ns).map V.int)) := by rw [upd_ne mlcl.symm]; exact c11 _ _ (c10 _ _ cl9)
          have ml11 : (upd H11 ml (.lst (m.map V.int ++ [.int o]))) ml = some (.lst ((m ++ [o]).map V.int)) := by rw [upd_same, List.map_append]; rfl
          generalize upd H11 ml (.lst (m.map V.int ++ [.int o])) = G at e11 f11 s11 cl11 ml11
          refine ⟨.ref fd, rfl, .int (i : Int), rfl, .int o, rfl, by show 2 ≤ sizeLine; decide, fun t ht => ⟨fd, _, rfl, DPut.t (k := fKey ((i : Int), o)) (Ex.new ht _ _ f11) upd_same (by show (fndK F2).length < sizeLine; unfold fndK; rw [List.length_map]; exact sz_lt (by omega)), ?_⟩⟩
          rw [fndK_put]
          have n1 := Ex.new (o := .tup [.int (i : Int), .int o]) ht
          have e12 := Ex.mut (o := .dT (fndK (addR F2 ((i : Int), o)))) (e11.trans n1) fd0
          refine ⟨addR F2 ((i : Int), o), m ++ [o], _, _, _, _, e12, upd_same, ?_, ?_, ?_, addR_nodup d6, ?_, ?_, (fun p hp => addR_mem.mpr (.inl (d9 p hp))), ?_, ?_, rfl⟩
          · rw [upd_ne fsl.symm]; exact n1 _ _ s11
          · rw [upd_ne clfd]; exact n1 _ _ cl11
          · rw [upd_ne mlfd]; exact n1 _ _ ml11
          · have := addR_len (F := F2) (p := ((i : Int), o)); omega
          · intro p hp
            rcases addR_mem.mp hp with hp | rfl
            · exact d8 p hp
            · exact ⟨by omega, by omega, ho0, hon, fun z => hne z.symm⟩
          · intro o' ho'
            rcases List.mem_append.mp ho' with ho' | ho'
            · exact ⟨addR_mem.mpr (.inl (d10 o' ho').1), (d10 o' ho').2⟩
            · rw [List.mem_singleton.mp ho']
              exact ⟨addR_mem.mpr (.inr rfl), ho0, hon⟩
          · rw [List.length_append, List.length_singleton]; omega
        · exact ⟨F2, m, _, _, _, _, e9.trans c10, c10 _ _ f9, c10 _ _ s9, c10 _ _ cl9, c10 _ _ ml9, d6, by omega, d8, d9, d10, by omega, rfl⟩
      · rintro σ2 H7 ⟨F2, m, x13, x14, x15, x16, d1, d2, d3, d4, d5, d6, d7, d8, d9, d10, d11, rfl⟩
        have hF4 : F2.length ≤ 4 * (i + 1) := by omega
        refine q_asg (v := nV none) ev_c fun H8 c8 => ?_
        have e8 := d1.trans c8
        have fin : ∀ (sg : Option Nat) H9, Ex H8 H9 → (∀ q, sg = some q → (q : Int) < n ∧ ((i : Int), (q : Int)) ∈ F2 ∧ (i : Int) ≠ h) →
            tDrop (tBM K "list" rAppend (tVar 6) (tCons (tVar 16) tNil)) { nx := fun σ' H' => ∃ (F : List (Int × Int)) (s : List (Option Nat)) (x10 x11 x12 x13 x14 x15 x16 : Option V), Ex H H' ∧ H' fd = some (.dT (fndK F)) ∧ H' sl = some (.lst (s.map nV)) ∧ H' cl = some (.lst ((cells ns).map V.int)) ∧ s.length = i + 1 ∧ F.Nodup ∧ F.length ≤ 4 * (i + 1) ∧
              (∀ p ∈ F, 0 ≤ p.1 ∧ p.1 < n ∧ 0 ≤ p.2 ∧ p.2 < n ∧ p.1 ≠ p.2) ∧ (∀ p q : Nat, nx s p = some q → (q : Int) < n ∧ ((p : Int), (q : Int)) ∈ F) ∧ nx s h.toNat = none ∧
              σ' = [some (.ref sa), some (.int by_), some (.int most), some (.ref cl), some (.int whole), some (.ref fd), some (.ref sl), some (.int n), some (.int h), some (.int (kk : Int)), x10, x11, x12, x13, x14, x15, x16], rt := Q }
              [some (.ref sa), some (.int by_), some (.int most), some (.ref cl), some (.int whole), some (.ref fd), some (.ref sl), some (.int n), some (.int h), some (.int (kk : Int)), some (.int (i : Int)), some (.int N), some (.ref ml), x13, x14, x15, some (nV sg)] H9 := by
          intro sg H9 c9 hsg
          refine s_app (K := K) (v := nV sg) (c9 _ _ (c8 _ _ d3)) (ev_var rfl) (ev_var rfl) (by rw [List.length_map]; omega) fun H10 c10 => ?_
          have e10 := Ex.mut (o := .lst (s.map nV ++ [nV sg])) ((e8.trans c9).trans c10) sl0
          refine ⟨F2, s ++ [sg], _, _, _, _, _, _, _, e10, ?_, ?_, ?_, ?_, d6, hF4, d8, ?_, ?_, rfl⟩
          · rw [upd_ne fsl]; exact c10 _ _ (c9 _ _ (c8 _ _ d2))
          · rw [upd_same, List.map_append]; rfl
          · rw [upd_ne clsl]; exact c10 _ _ (c9 _ _ (c8 _ _ d4))
          · rw [List.length_append, b5]; rfl
          · intro p q e
            by_cases c : p < s.length
            · rw [nx_left c] at e
              obtain ⟨z1, z2⟩ := b9 p q e
              exact ⟨z1, d9 _ z2⟩
            · rw [nx_right (by omega)] at e
              by_cases c2 : p = s.length
              · rw [if_pos c2] at e
                obtain ⟨z1, z2, z3⟩ := hsg q e
                rw [c2, b5]
                exact ⟨z1, z2⟩
              · rw [if_neg c2] at e
                cases e
          · by_cases c : h.toNat < s.length
            · rw [nx_left c]; exact b10
            · rw [nx_right (by omega)]
              split
              · rename_i c2
                cases sg with
                | none => rfl
                | some q =>
                  obtain ⟨_, _, z3⟩ := hsg q rfl
                  exfalso
                  apply z3
                  omega
              · rfl
        refine q_when (b := !decide (m = []) && (!decide (V.int (i : Int) = V.int h) && decide (0 < N / 7 % 6))) (et_and (et_test (ev_opL (ev_var rfl) (el_lst ea_nil (by decide)) fun p H9 hp e => rv_neD (.lst (sq_of (e _ _ (c8 _ _ d5))) (dp_ints m)) (.lst (sq_of hp) .nil) (pd_ints m) (pd_ints []) (by
            rw [lst_inj]
            exact map_inj (m := []) int_inj))) fun _ => et_and (et_test (ev_op (ev_var rfl) (ev_var rfl) (rv_ne rfl))) fun _ => et_test (ev_op (ev_op (ev_op (ev_var rfl) ev_c (rv_I (C := CDiv) ⟨by decide, by decide⟩)) ev_c (rv_I (C := fun _ j => 0 < j) (by decide))) ev_c rv_I0)) (fun hb H9 c9 => ?_) fun hb H9 c9 => ?_
        · simp only [Bool.and_eq_true, Bool.not_eq_true', decide_eq_false_iff_not, decide_eq_true_eq] at hb
          obtain ⟨hm, hih, _⟩ := hb
          have hml2 : 0 < m.length := List.length_pos_iff.mpr hm
          have z0 : 0 ≤ N / 42 % (m.length : Int) := Int.emod_nonneg _ (by omega)
          have z1 : N / 42 % (m.length : Int) < (m.length : Int) := Int.emod_lt_of_pos _ (by omega)
          obtain ⟨jm, hjm⟩ : ∃ jm : Nat, N / 42 % (m.length : Int) = (jm : Int) := ⟨(N / 42 % (m.length : Int)).toNat, by omega⟩
          have hgm := List.getElem?_eq_getElem (show jm < m.length by omega)
          have hgm2 := List.getElem_mem (show jm < m.length by omega)
          generalize m[jm] = o at hgm hgm2
          obtain ⟨y1, y2, y3⟩ := d10 o hgm2
          obtain ⟨q, hq⟩ : ∃ q : Nat, o = (q : Int) := ⟨o.toNat, by omega⟩
          subst hq
          have ml9 := c9 _ _ (c8 _ _ d5)
          have lenM : Ev (tCB (rLenS K) (tCons (tVar 12) tNil)) [some (.ref sa), some (.int by_), some (.int most), some (.ref cl), some (.int whole), some (.ref fd), some (.ref sl), some (.int n), some (.int h), some (.int (kk : Int)), some (.int (i : Int)), some (.int N), some (.ref ml), x13, x14, x15, some (nV none)] H9 (.int (m.length : Int)) := by
            have z := ev_len (K := K) (ta := tVar 12) (σ := [some (.ref sa), some (.int by_), some (.int most), some (.ref cl), some (.int whole), some (.ref fd), some (.ref sl), some (.int n), some (.int h), some (.int (kk : Int)), some (.int (i : Int)), some (.int N), some (.ref ml), x13, x14, x15, some (nV none)]) (ev_var rfl) (sq_of ml9)
            rwa [List.length_map] at z
          refine s_asg (v := nV (some q)) (ev_op (ev_var rfl) (ev_op (ev_op (ev_var rfl) ev_c (rv_I (C := CDiv) ⟨by decide, by decide⟩)) lenM (rv_I (C := fun _ j => 0 < j) (by omega))) (rv_ixL (sq_of ml9) (at_of (j := jm) hjm (by rw [List.getElem?_map, hgm]; rfl)))) fun H10 c10 => ?_
          refine fin (some q) H10 (c9.trans c10) fun q' hq' => ?_
          cases hq'
          exact ⟨y3, y1, fun z => hih (by rw [z])⟩
        · exact fin none H9 c9 fun q hq => by cases hq
    · rintro σ' H' ⟨F, s, x10, x11, x12, x13, x14, x15, x16, b1, b2, b3, b4, b5, b6, b7, b8, b9, b10, rfl⟩
      have em : ((n.toNat : Nat) : Int) = n := by omega
      have hfd' := b2
      refine s_retP (Post := fun v H2 => ∃ n h all s, Made H H2 v most n h all s) (fun H1 e Q q => ?_) (fun v H2 e2 p => k v H2 (b1.trans e2) p)
      have f1 := e _ _ b2
      refine ⟨_, rfl, _, rfl, .ref fd, rfl, fd, fndK F, rfl, .inl f1, fun p bs hp hk => ?_⟩
      obtain ⟨ks, e1, e2, e3⟩ := keys_at F bs hk
      have hx : Ex H1 (upd H1 p (.lst (bs.map V.ref))) := Ex.new hp
      have g3 : ∀ q ∈ ks, (upd H1 p (.lst (bs.map V.ref))) q.1 = some (.tup [.int q.2.1, .int q.2.2]) := fun q hq => hx _ _ (e3 q hq)
      generalize hH2 : upd H1 p (.lst (bs.map V.ref)) = H2 at hx g3
      have hpl : H2 p = some (.lst (bs.map V.ref)) := by rw [← hH2]; exact upd_same
      refine ⟨p, bs.map V.ref, prH H2, rfl, sq_of hpl, fun x hx' => ?_, fun ys r srt stb hr => ?_⟩
      · rw [← e1, List.map_map] at hx'
        obtain ⟨q, hq, rfl⟩ := List.mem_map.mp hx'
        refine ⟨q.1, rfl, ?_⟩
        show H2 q.1 = some (.tup [.int (prH H2 (.ref q.1)).1, .int (prH H2 (.ref q.1)).2])
        rw [prH_of (g3 q hq)]
        exact g3 q hq
      · have hx3 : Ex H2 (upd H2 r (.lst ys)) := Ex.new hr
        have hrl : (upd H2 r (.lst ys)) r = some (.lst ys) := upd_same
        generalize upd H2 r (.lst ys) = H3 at hx3 hrl
        refine ⟨120, rfl, r, ys, rfl, sq_of hrl, fun r2 hr2 => ?_⟩
        refine ⟨by show 3 ≤ sizeLine; decide, fun lt hlt => ?_⟩
        refine ⟨_, rfl, by show 2 ≤ sizeLine; decide, fun t ht => ?_⟩
        have hys : ys.Perm (bs.map V.ref) := stb.perm
        have hF : (ys.map (prH H2)).Perm F := by
          refine (hys.map _).trans (List.Perm.of_eq ?_)
          rw [← e1, List.map_map, List.map_map, ← e2]
          exact List.map_congr_left fun q hq => prH_of (g3 q hq)
        have hyr : ∀ y ∈ ys, ∃ a, y = V.ref a ∧ H2 a = some (.tup [.int (prH H2 y).1, .int (prH H2 y).2]) := fun y hy => by
          have := hys.mem_iff.mp hy
          rw [← e1, List.map_map] at this
          obtain ⟨q, hq, rfl⟩ := List.mem_map.mp this
          refine ⟨q.1, rfl, ?_⟩
          show H2 q.1 = some (.tup [.int (prH H2 (.ref q.1)).1, .int (prH H2 (.ref q.1)).2])
          rw [prH_of (g3 q hq)]
          exact g3 q hq
        obtain ⟨all, hall⟩ : ∃ all, all = ys.map (prH H2) := ⟨_, rfl⟩
        rw [← hall] at hF
        have hnd : all.Nodup := hF.nodup_iff.mpr b6
        have hri : all.Pairwise fun p q => p.1 < q.1 ∨ (p.1 = q.1 ∧ p.2 < q.2) := by
          have z : all.Pairwise fun p q => SrtO.lexB q p = false := by rw [hall, List.pairwise_map]; exact srt
          refine (z.and hnd).imp fun {p q} ⟨h1, h2⟩ => ?_
          have h1 := SrtO.lexB_no.mp h1
          have h3 : ¬ (p.1 = q.1 ∧ p.2 = q.2) := fun z => h2 (Prod.ext z.1 z.2)
          omega
        have ee : Ex H1 H3 := hx.trans hx3
        have et : ((Ex H3 (upd H3 r2 (.lst (cutV ys none (some 120)))))) := Ex.new hr2
        have c120 : cutV ys none (some ((120 : Nat) : Int)) = ys.take 120 := cut_to
        have a1' : (upd H3 r2 (HO.lst (cutV ys none (some 120)))) r2 = some (.lst (ys.take 120)) := by rw [← c120]; exact upd_same
        generalize upd H3 r2 (HO.lst (cutV ys none (some 120))) = H4 at et a1' hlt ht
        have et2 := Ex.new (o := HO.tup [.int n, .int h, .ref r2]) hlt
        have a2' : (upd H4 lt (HO.tup [.int n, .int h, .ref r2])) lt = some (.tup [.int n, .int h, .ref r2]) := upd_same
        generalize upd H4 lt (HO.tup [.int n, .int h, .ref r2]) = H5 at et2 a2' ht
        have et3 := Ex.new (o := HO.tup [.ref lt, .ref sl]) ht
        have a3' : (upd H5 t (HO.tup [.ref lt, .ref sl])) t = some (.tup [.ref lt, .ref sl]) := upd_same
        generalize upd H5 t (HO.tup [.ref lt, .ref sl]) = H6 at et3 a3'
        have e14 := ((ee.trans et).trans et2).trans et3
        have e0 := (b1.trans e)
        refine q _ _ e14 ⟨n, h, all, s, ⟨t, lt, r2, sl, (ys.take 120).map (fun v => (adV v, [(prH H2 v).1, (prH H2 v).2])), rfl, a3', et3 _ _ a2', et3 _ _ (et2 _ _ ?_), fun pp hpp => ?_, ?_, e14 _ _ (e _ _ b3), ?_, ?_, ?_, sl0⟩, ?_, nm, ?_, b10, fun p q' hq => ?_, ?_⟩
        · rw [a1', List.map_map]
          congr 2
          refine ((List.map_congr_left fun y hy => ?_).trans (List.map_id _)).symm
          obtain ⟨a, rfl, _⟩ := hyr y (List.mem_of_mem_take hy)
          rfl
        · obtain ⟨y, hy, rfl⟩ := List.mem_map.mp hpp
          obtain ⟨a, rfl, ha⟩ := hyr y (List.mem_of_mem_take hy)
          exact et3 _ _ (et2 _ _ (et _ _ (hx3 _ _ ha)))
        · rw [hall, List.map_map, ← List.map_take, List.map_map]
          rfl
        · exact fresh_back (((b1.trans e).trans ee |>.trans et |>.trans et2)) ht
        · exact fresh_back (((b1.trans e).trans ee |>.trans et)) hlt
        · exact fresh_back (((b1.trans e).trans ee)) hr2
        · exact landOk_mk n1 (by omega) h0 hn (by rw [List.length_take]; omega) (fun p hp => b8 p (hF.mem_iff.mp (List.mem_of_mem_take hp))) (hri.sublist (List.take_sublist _ _))
        · rw [b5]; omega
        · obtain ⟨z1, z2⟩ := b9 p q' hq
          exact ⟨z1, hF.mem_iff.mpr z2⟩
        · rw [hF.length_eq]; omega

end
end Sg
namespace Sg
set_option autoImplicit false
open PySem L2 Evl Big
open PyProof.Rows (envOfC)
section
variable {P : Program} {w : World} {K : PySem.W.Frag} {mg : Str → Option Value} {base : Heap} {ad : Ads}
def spLaw (K : PySem.W.Frag) : Sp := fun vs H Q _ => ∃ (a : Addr) (ns : List Int), vs = [.ref a] ∧ SqL K H a (ns.map V.int) ∧ ns.length ≤ 63 ∧ ∀ H', Q (.bl true) H'
theorem laid_mk {H : Hp} {lv : V} {a : Addr} {n h : Int} {rs : List (Int × Int)} {s : List (Option Nat)} (hL : LandAt K H lv n h rs) (ok : LandOk n h rs) (hS : SqL K H a (s.map nV)) (hl : (s.length : Int) = n) (hh : nx s h.toNat = none)
    (al : ∀ p q : Nat, nx s p = some q → (q : Int) < n ∧ ((p : Int), (q : Int)) ∈ rs) : Laid K H lv (.ref a) n h rs s ∧ Given K H lv (.ref a) n h rs s := by
  have q := ok.all
  refine ⟨⟨hL, ⟨a, rfl, hS⟩, ⟨rfl, fun p x e => ?_⟩, hl, ?_, ⟨q.h0, q.hn⟩, hh⟩, hL, ok, ⟨a, rfl, hS⟩, signsOk_mk hl q.h0 q.hn hh al⟩
  · have := (al p x e).1
    omega
  · have := q.n40
    omega
theorem right_len (rs : List (Int × Int)) (s : List (Option Nat)) : (rightS rs s).length = s.length := by
  unfold rightS
  rw [List.length_map, List.length_range]
theorem right_nx {rs : List (Int × Int)} {s : List (Option Nat)} {p : Nat} (hp : p < s.length) : nx (rightS rs s) p = keepS rs p (nx s p) := by
  have e : (rightS rs s)[p]? = some (keepS rs p (nx s p)) := by
    unfold rightS
    rw [List.getElem?_map, List.getElem?_range hp]
    rfl
  rw [nx_get (by rw [right_len]; exact hp)] at e
  exact Option.some.inj e
theorem right_some {rs : List (Int × Int)} {s : List (Option Nat)} {p q : Nat} (h : nx (rightS rs s) p = some q) : nx s p = some q ∧ ((p : Int), (q : Int)) ∈ rs := by
  have hp := nx_lt h
  rw [right_len] at hp
  rw [right_nx hp] at h
  cases e : nx s p with
  | none => rw [e] at h; cases h
  | some x =>
    rw [e] at h
    by_cases c : ((p : Int), (x : Int)) ∈ rs
    · rw [keepS_in c] at h
      cases h
      exact ⟨rfl, c⟩
    · rw [keepS_out c] at h
      cases h
theorem right_none {rs : List (Int × Int)} {s : List (Option Nat)} {p : Nat} (h : nx s p = none) : nx (rightS rs s) p = none := by
  cases e : nx (rightS rs s) p with
  | none => rfl
  | some q => rw [(right_some e).1] at h; cases h
theorem set_some {s : List (Option Nat)} {j p q : Nat} (h : nx (s.set j none) p = some q) : nx s p = some q := by
  unfold nx at h ⊢
  rw [List.getElem?_set] at h
  by_cases c : j = p
  · rw [if_pos c] at h
    split at h <;> cases h
  · rw [if_neg c] at h
    exact h
theorem set_none {s : List (Option Nat)} {j p : Nat} (h : nx s p = none) : nx (s.set j none) p = none := by
  cases e : nx (s.set j none) p with
  | none => rfl
  | some q => rw [set_some e] at h; cases h
theorem rg_at {lo hi c : Int} (hc : c = 3 ∨ c = 5) (h0 : 0 ≤ lo) (h1 : lo ≤ 40) (h2 : 0 ≤ hi) (h3 : hi ≤ 40) : ∃ m : Nat, RgC lo hi c m ∧ ∀ i : Nat, i < m → lo + (i : Int) * c < hi := by
  have key : 0 ≤ Builtin.Range.rangeSize lo hi c ∧ Builtin.Range.small lo hi c = true ∧ c ≠ 0 ∧ c.natAbs < 1073741824 ∧ ∀ i : Int, 0 ≤ i → i < Builtin.Range.rangeSize lo hi c → lo + i * c < hi := by
    unfold Builtin.Range.small Builtin.Range.rangeSize
    simp only [Builtin.Range.rangeFitsLong, Bool.and_eq_true, Bool.or_eq_true, decide_eq_true_eq, beq_iff_eq]
    rcases hc with rfl | rfl
    · simp only [show (3 : Int) > 0 by decide, if_true]
      refine ⟨?_, ?_, by decide, by decide, ?_⟩
      · split <;> omega
      · exact ⟨by split <;> omega, .inr (by rw [Bool.and_eq_true, decide_eq_true_eq, decide_eq_true_eq]; omega)⟩
      · intro i; split <;> omega
    · simp only [show (5 : Int) > 0 by decide, if_true]
      refine ⟨?_, ?_, by decide, by decide, ?_⟩
      · split <;> omega
      · exact ⟨by split <;> omega, .inr (by rw [Bool.and_eq_true, decide_eq_true_eq, decide_eq_true_eq]; omega)⟩
      · intro i; split <;> omega
  obtain ⟨k1, k2, k3, k4, k5⟩ := key
  refine ⟨(Builtin.Range.rangeSize lo hi c).toNat, ⟨k3, k4, k2, by omega⟩, fun i hi => k5 i (by omega) (by omega)⟩
theorem ev_fldP {σ : L2.St} {H : Hp} {te : TE} {f : Str} {v : V} {Post : V → Hp → Prop} (h : EvP te σ H Post) (hp : ∀ x H1, Ex H H1 → Post x H1 → ∃ a C dx fs, x = .ref a ∧ H1 a = some (.ins C dx fs) ∧ Cls K C ∧ NoAttr K C f ∧ fs.lookup f = some v) : Ev (tFld K te f) σ H v := fun H1 e Q q =>
  h H1 e _ fun x H2 e2 p => by
    obtain ⟨a, C, dx, fs, h1, h2, h3, h4, h5⟩ := hp x H2 (e.trans e2) p
    exact ⟨a, C, dx, fs, v, h1, h2, h3, h4, h5, q H2 e2⟩
theorem s_forC {σ : L2.St} {H : Hp} {D : Ends} {tu : TS} {ta : TA} {j : Nat} {lo hi c : Int} {n : Nat} (h : EvA ta σ H [.int lo, .int hi, .int c]) (hr : RgC lo hi c n) (Pv : Nat → L2.St → Hp → Prop) (h0 : ∀ H1, Ex H H1 → Pv 0 σ H1)
    (hs : ∀ (i : Nat) σ' H', i < n → Pv i σ' H' → tu { D with nx := Pv (i + 1), ct := Pv (i + 1), bk := D.nx } (σ'.set j (some (.int (lo + (i : Nat) * c)))) H') (hd : ∀ σ' H', Pv n σ' H' → D.nx σ' H') : tFor (iRng3 ta) (gName j) tu D σ H :=
  h H (Ex.refl H) _ fun H1 e => ⟨lo, hi, c, n, rfl, hr, for_rangeC (lo := lo) (c := c) (n := n) Pv (h0 H1 e) (fun i σ' H' hi p => hs i σ' H' hi p) hd⟩
theorem el_home_from {σ : L2.St} {H : Hp} {ta tb : TE} {lv sv : V} {n h : Int} {rs : List (Int × Int)} {s : List (Option Nat)} (h1 : Ev ta σ H lv) (h2 : Ev tb σ H sv) (g : Given K H lv sv n h rs s) : EvL (tCall (sp_home_from K) [] C8.E0 (tCons ta (tCons tb tNil))) σ H ((comers s h.toNat).map natV) := fun H6 e6 Q q =>
  (ea_cons h1 (ea_cons h2 ea_nil)) H6 e6 _ fun H7 e7 => ⟨_, _, n, h, rs, s, rfl, g.mono (e6.trans e7), fun p H8 hp e8 h8 => q p H8 (fresh_back e7 hp) (e7.trans e8) h8⟩
theorem el_law_home {σ : L2.St} {H : Hp} {ta tb : TE} {lv sv : V} {n h : Int} {rs : List (Int × Int)} {s : List (Option Nat)} (h1 : Ev ta σ H lv) (h2 : Ev tb σ H sv) (g : Laid K H lv sv n h rs s) : EvL (tCall (sp_law_home K) [] C8.E0 (tCons ta (tCons tb tNil))) σ H ((comers s h.toNat).map natV) := fun H6 e6 Q q =>
  (ea_cons h1 (ea_cons h2 ea_nil)) H6 e6 _ fun H7 e7 => ⟨_, _, n, h, rs, s, rfl, g.mono (e6.trans e7), fun p H8 hp e8 h8 => q p H8 (fresh_back e7 hp) (e7.trans e8) h8⟩
theorem ne_nats {H : Hp} {a b : Addr} {l : List Nat} (h1 : H a = some (.lst (l.map natV))) (h2 : H b = some (.lst (l.map natV))) : RV (rNeD K) (.ref a) (.ref b) H (.bl false) := by
  have q := rv_neD (K := K) (p := True) (.lst (sq_of h1) (dp_nats l)) (.lst (sq_of h2) (dp_nats l)) (pd_nats l) (pd_nats l) (by simp)
  exact q
theorem EvAP.weak {σ : L2.St} {H : Hp} {ta : TA} {P P' : List V → Hp → Prop} (h : EvAP ta σ H P) (w : ∀ vs H1, Ex H H1 → P vs H1 → P' vs H1) : EvAP ta σ H P' := fun H1 e Q q => h H1 e Q fun vs H2 e2 p => q vs H2 e2 (w vs H2 (e.trans e2) p)
theorem sort3 {l : List Int} (h : l.Perm [1, 2, 0]) (s : l.Pairwise (· ≤ ·)) : l = [0, 1, 2] := by
  have hl := h.length_eq
  match l, hl with
  | [a, b, c], _ =>
    have m0 := h.mem_iff (a := 0)
    have m1 := h.mem_iff (a := 1)
    have m2 := h.mem_iff (a := 2)
    simp only [List.mem_cons, List.not_mem_nil, or_false, List.pairwise_cons, List.Pairwise.nil, and_true, List.cons.injEq] at m0 m1 m2 s ⊢
    have s1 := s.1 b (.inl rfl)
    have s2 := s.2.1 c rfl
    simp at m0 m1 m2
    omega
theorem evp_tup {σ : L2.St} {H : Hp} {ta : TA} {P : List V → Hp → Prop} (h : EvAP ta σ H P) (hm : ∀ vs H1 H2, Ex H1 H2 → P vs H1 → P vs H2) (hl : ∀ vs H1, P vs H1 → vs.length ≤ 100000) : EvP (tTup ta) σ H (fun v H' => ∃ r vs, v = .ref r ∧ H' r = some (.tup vs) ∧ P vs H') := fun H1 e Q q =>
  h H1 e _ fun vs H2 e2 p => ⟨sz_of (hl vs H2 p), fun r hr => q _ _ (e2.trans (Ex.new hr)) ⟨r, vs, rfl, upd_same, hm _ _ _ (Ex.new hr) p⟩⟩
/-- roads, written out -/
def Rds (L : List (Int × Int)) (vs : List V) (H : Hp) : Prop := ∃ ks : List (Addr × List Int), vs = ks.map (fun p => V.ref p.1) ∧ (∀ p ∈ ks, H p.1 = some (.tup (p.2.map V.int))) ∧ ks.map (·.2) = L.map fun q => [q.1, q.2]
theorem Rds.mono {L : List (Int × Int)} {vs : List V} {H H' : Hp} (e : Ex H H') (h : Rds L vs H) : Rds L vs H' := by
  obtain ⟨ks, h1, h2, h3⟩ := h
  exact ⟨ks, h1, fun p hp => e _ _ (h2 p hp), h3⟩
theorem erd_nil {σ : L2.St} {H : Hp} : EvAP tNil σ H (Rds []) := fun H1 _ _ q => q [] H1 (Ex.refl _) ⟨[], rfl, (fun _ h => by cases h), rfl⟩
theorem erd_cons {σ : L2.St} {H : Hp} {tr : TA} {a b : Int} {L : List (Int × Int)} (hr : EvAP tr σ H (Rds L)) : EvAP (tCons (tTup (tCons (tC (.int a)) (tCons (tC (.int b)) tNil))) tr) σ H (Rds ((a, b) :: L)) := fun H1 e Q q =>
  eu_tup (ea_cons ev_c (ea_cons ev_c ea_nil)) (by show 2 ≤ 100000; decide) H1 e _ fun p H2 hp e2 h2 => hr H2 (e.trans e2) _ fun vs H3 e3 ⟨ks, p1, p2, p3⟩ => q _ H3 (e2.trans e3) ⟨(p, [a, b]) :: ks, by rw [p1]; rfl, (fun q hq => by
    rcases List.mem_cons.mp hq with rfl | hq
    · exact e3 _ _ h2
    · exact p2 q hq), by rw [List.map_cons, p3]; rfl⟩
/-- the land of the last rows -/
def landL : List (Int × Int) := [(0, 1), (1, 2), (2, 0), (3, 4)]
theorem land_last {H : Hp} {v : V} {r : Addr} {vs : List V} {lr : Addr} (h1 : H r = some (.tup [.int 5, .int 4, .ref lr])) (h2 : H lr = some (.lst vs)) (h3 : Rds landL vs H) (e : v = .ref r) : LandAt K H v 5 4 landL := by
  obtain ⟨ks, q1, q2, q3⟩ := h3
  exact ⟨r, lr, e, st_of h1, ks, by rw [← q1]; exact sq_of h2, fun p hp => st_of (q2 p hp), q3⟩
theorem ok_last : LandOk 5 4 landL := by rfl
def sRing : List (Option Nat) := [some 1, some 2, some 0, none, none]
def sEnds : List (Option Nat) := [some 1, some 2, none, some 4, none]
theorem end1 : endOf sRing 1 4 = .round [1, 2, 0] := by rfl
theorem end2 : endOf sEnds 0 4 = .stands 2 := by rfl
theorem end3 : endOf sEnds 3 4 = .home 1 := by rfl
theorem given_last {H : Hp} {v : V} {a : Addr} {s : List (Option Nat)} (hL : LandAt K H v 5 4 landL) (hS : H a = some (.lst (s.map nV))) (ok : SignsOk 5 4 landL s) : Given K H v (.ref a) 5 4 landL s := ⟨hL, ok_last, ⟨a, rfl, sq_of hS⟩, ok⟩
theorem okS1 : SignsOk 5 4 landL sRing := by rfl
theorem okS2 : SignsOk 5 4 landL sEnds := by rfl
/-- followed, of signs made for the call -/
theorem evp_foll {σ : L2.St} {H : Hp} {tb tc : TE} {tl : TA} {xs : List V} {s : List (Option Nat)} {p : Nat} {v : V} (hL : LandAt K H v 5 4 landL) (ha : Ev tb σ H v) (hl : EvA tl σ H xs) (hz : xs.length ≤ 100000) (hc : Ev tc σ H (natV p)) (ex : xs = s.map nV) (ok : SignsOk 5 4 landL s) (hp : p < 5) :
    EvP (tCall (sp_followed K ad) [] C8.E0 (tCons tb (tCons (tLst tl) (tCons tc tNil)))) σ H (FollowAt ad H s p 4) :=
  evp_callA (eap_v ha (eap_l (el_lst hl hz) (eap_v hc eap_nil))) fun vs H1 e ⟨r1, e1, q, r2, e2, q0, hq, r3, e3, e4⟩ Q k E => by
    subst e4 e3 e2 e1
    rw [ex] at hq
    exact ⟨v, .ref q, 5, 4, landL, s, p, rfl, given_last (hL.mono e) hq ok, by omega, fun v' H2 e2 ⟨x, z1, z2, z3⟩ => k v' H2 e2 ⟨x, z1, fresh_back e z2, z3.back e⟩⟩
theorem et_due {σ : L2.St} {H : Hp} {i j l : Nat} {lv sv : V} {n h : Int} {rs : List (Int × Int)} {s : List (Option Nat)} {p : Nat} (h1 : σ[i]? = some (some lv)) (h2 : σ[j]? = some (some sv)) (h3 : σ[l]? = some (some (natV p))) (g : Laid K H lv sv n h rs s) (gv : Given K H lv sv n h rs s) (hp : p < s.length) :
    EvT (tNot (tB (tCall (sp_law_due K ad) [] C8.E0 (tCons (tVar i) (tCons (tVar j) (tCons (tVar l) (tCons (tCall (sp_followed K ad) [] C8.E0 (tCons (tVar i) (tCons (tVar j) (tCons (tVar l) tNil)))) tNil))))))) σ H false := by
  refine et_is (et_not (et_B (b := true) (ev_callA (eap_v (ev_var h1) (eap_v (ev_var h2) (eap_v (ev_var h3) (eap_p (Post := fun v H' => ∃ x, v = .ref x ∧ AnsAt ad H H' x (endOf s p h)) (evp_call (ea_cons (ev_var h1) (ea_cons (ev_var h2) (ea_cons (ev_var h3) ea_nil))) fun H2 e2 Q q E => ⟨lv, sv, n, h, rs, s, p, rfl, gv.mono e2, by have := g.len; omega, fun v H3 e3 ⟨x, z1, z2, z3⟩ => q v H3 e3 ⟨x, z1, z3.back e2⟩⟩) (fun v H1 H2 e ⟨x, z1, z2⟩ => ⟨x, z1, z2.mono e⟩) eap_nil)))) fun vs H1 e ⟨r1, e1, r2, e2, r3, e3, x, r4, e4, ⟨y, e5, hy⟩, e6⟩ Q q E => ?_))) rfl
  subst e6 e5 e4 e3 e2 e1
  refine ⟨lv, sv, n, h, rs, s, p, y, _, rfl, g.mono e, hp, ans_at hy, ?_⟩
  rw [due_ans fun c => end_pos g.wf hp]
  exact q
theorem fn_law (T : Txt K mg ad) {f : Addr} {fd : FuncData} (D : C8.Def K mg "law" st_law f fd) : FnOk P w K mg base C8.CX0 10 f fd P_law (spLaw K) := by
  have c__law_land : C8.Cal P w K mg base 2 "_law_land" (sp_law_land K) [] := ok_law_land T
  have c__law_land_right : C8.Cal P w K mg base 2 "_law_land_right" (sp_law_land_right K) [] := ok_law_land_right T
  have c__law_right : C8.Cal P w K mg base 9 "_law_right" (sp_law_right K ad) [] := ok_law_right T
  have c__law_hand_right : C8.Cal P w K mg base 5 "_law_hand_right" (sp_law_hand_right K) [] := ok_law_hand_right T
  have c__law_home : C8.Cal P w K mg base 2 "_law_home" (sp_law_home K) [] := ok_law_home T
  have c__law_due : C8.Cal P w K mg base 2 "_law_due" (sp_law_due K ad) [] := ok_law_due T
  have c_home_from : C8.Cal P w K mg base 7 "home_from" (sp_home_from K) [] := ok_home_from T
  have c_followed : C8.Cal P w K mg base 8 "followed" (sp_followed K ad) [] := ok_followed T
  refine C8.fn0 D.fn sc_law (fun vs H Q E h => ?_) (fun cdv A outer st H vs Q E hr h => ?_)
  · obtain ⟨a, ns, rfl, _⟩ := h; rfl
  · obtain ⟨sa, ns, rfl, hS, hns, k⟩ := h
    have hu := hu_of hr
    refine ⟨_, (pss_cons (ps_set (i := 1) sc_law.nd rfl (Or.inl rfl) (pe_callB call_abs (by rfl) T.n_abs (by decide +kernel) (pa_cons (pe_callB (k_sum K rfl) (by rfl) T.n_sum (by decide +kernel) (pa_cons (pe_slice (k_sl K) (pv 0) po_none (po_some pe_int)) pa_nil)) pa_nil)))
  (pss_cons (ps_for PassesOwn.never rfl (k_il K (pe_lst (pa_cons pe_int (pa_cons pe_int (pa_cons pe_int pa_nil))))) (pg_name (i := 2) sc_law.nd rfl (Or.inl rfl))
    (pss_cons (ps_asg (C8.pe_c c__law_land hr (by decide) rfl (pa_cons (pv 0) (pa_cons (pv 2) (pa_cons pe_int pa_nil)))) (k_gt K (n := 2) (by rfl) (pgs_cons (pg_name (i := 3) sc_law.nd rfl (Or.inl rfl)) (pgs_cons (pg_name (i := 4) sc_law.nd rfl (Or.inl rfl)) pgs_nil))))
  (pss_cons (ps_set (i := 4) sc_law.nd rfl (Or.inl rfl) (C8.pe_c c__law_land_right hr (by decide) rfl (pa_cons (pv 3) (pa_cons (pv 4) pa_nil))))
  (pss_cons (ps_set (i := 5) sc_law.nd rfl (Or.inl rfl) (pe_lst (pa_cons (pe_op op_mod (pv 1) (pe_ix (k_tup K) (pv 3) pe_int (fun _ _ => rfl))) (pa_cons (pe_op op_mod (pe_op op_fdiv (pv 1) pe_int) (pe_ix (k_tup K) (pv 3) pe_int (fun _ _ => rfl))) (pa_cons (pe_ix (k_tup K) (pv 3) pe_int (fun _ _ => rfl)) pa_nil)))))
  (pss_cons (ps_for PassesOwn.never rfl (pi_range3 rfl T.n_range (pa_cons (pe_op op_mod (pv 1) pe_int) (pa_cons (pe_ix (k_tup K) (pv 3) pe_int (fun _ _ => rfl)) (pa_cons pe_int pa_nil)))) (pg_name (i := 6) sc_law.nd rfl (Or.inl rfl))
    (pss_one (ps_if (PW.pt (pw_or (pt_not (pt_val (C8.pe_c c__law_right hr (by decide) rfl (pa_cons (pv 3) (pa_cons (pv 4) (pa_cons (pv 6) (pa_cons (pv 5) pa_nil))))))) (pw_or1 (pt_not (pt_val (C8.pe_c c__law_hand_right hr (by decide) rfl (pa_cons (pv 3) (pa_cons (pv 4) (pa_cons (pv 6) pa_nil))))))))) (pss_one (ps_ret pe_bl)) pss_nil)))
  (pss_cons (ps_par (i := 7) (j := 8) (by rfl) sc_law.nd rfl rfl (by decide) rfl rfl (pa_cons (pe_callTy (k_lst K) (by rfl) T.n_list (by decide +kernel) (pa_cons (pv 4) pa_nil)) (pa_cons (C8.pe_c c_home_from hr (by decide) rfl (pa_cons (pv 3) (pa_cons (pv 4) pa_nil))) pa_nil)) (by rfl))
  (pss_cons (ps_if (PW.pt (pw_or (pt_cmpR (k_neD K hr.units) (pv 8) (C8.pe_c c__law_home hr (by decide) rfl (pa_cons (pv 3) (pa_cons (pv 4) pa_nil))) (nomark _)) (pw_or (pt_cmpR (k_neD K hr.units) (C8.pe_c c_home_from hr (by decide) rfl (pa_cons (pv 3) (pa_cons (pv 7) pa_nil))) (pv 8) (nomark _)) (pw_or1 (pt_cmpR (k_neD K hr.units) (pv 7) (pv 4) (nomark _)))))) (pss_one (ps_ret pe_bl)) pss_nil)
  (pss_cons (ps_for PassesOwn.never rfl (pi_range3 rfl T.n_range (pa_cons (pe_op op_mod (pv 1) pe_int) (pa_cons (pe_ix (k_tup K) (pv 3) pe_int (fun _ _ => rfl)) (pa_cons pe_int pa_nil)))) (pg_name (i := 6) sc_law.nd rfl (Or.inl rfl))
    (pss_one (ps_if (pt_not (pt_val (C8.pe_c c__law_due hr (by decide) rfl (pa_cons (pv 3) (pa_cons (pv 7) (pa_cons (pv 6) (pa_cons (C8.pe_c c_followed hr (by decide) rfl (pa_cons (pv 3) (pa_cons (pv 7) (pa_cons (pv 6) pa_nil)))) pa_nil))))))) (pss_one (ps_ret pe_bl)) pss_nil)))
  (pss_cons (ps_asg pe_non (pg_sub (pv 7) (pe_op op_mod (pe_op op_fdiv (pv 1) pe_int) (pe_ix (k_tup K) (pv 3) pe_int (fun _ _ => rfl))) set_list))
  (pss_cons (ps_if (pt_cmpR (k_neD K hr.units) (C8.pe_c c_home_from hr (by decide) rfl (pa_cons (pv 3) (pa_cons (pv 7) pa_nil))) (C8.pe_c c__law_home hr (by decide) rfl (pa_cons (pv 3) (pa_cons (pv 7) pa_nil))) (nomark _)) (pss_one (ps_ret pe_bl)) pss_nil)
  (pss_one (ps_for PassesOwn.never rfl (pi_range3 rfl T.n_range (pa_cons (pe_op op_mod (pv 1) pe_int) (pa_cons (pe_ix (k_tup K) (pv 3) pe_int (fun _ _ => rfl)) (pa_cons pe_int pa_nil)))) (pg_name (i := 6) sc_law.nd rfl (Or.inl rfl))
    (pss_one (ps_if (pt_not (pt_val (C8.pe_c c__law_due hr (by decide) rfl (pa_cons (pv 3) (pa_cons (pv 7) (pa_cons (pv 6) (pa_cons (C8.pe_c c_followed hr (by decide) rfl (pa_cons (pv 3) (pa_cons (pv 7) (pa_cons (pv 6) pa_nil)))) pa_nil))))))) (pss_one (ps_ret pe_bl)) pss_nil))))))))))))))
  (pss_cons (ps_set (i := 3) sc_law.nd rfl (Or.inl rfl) (pe_tup (pa_cons pe_int (pa_cons pe_int (pa_cons (pe_lst (pa_cons (pe_tup (pa_cons pe_int (pa_cons pe_int pa_nil))) (pa_cons (pe_tup (pa_cons pe_int (pa_cons pe_int pa_nil))) (pa_cons (pe_tup (pa_cons pe_int (pa_cons pe_int pa_nil))) (pa_cons (pe_tup (pa_cons pe_int (pa_cons pe_int pa_nil))) pa_nil))))) pa_nil)))))
  (pss_cons (ps_set (i := 9) sc_law.nd rfl (Or.inl rfl) (C8.pe_c c_followed hr (by decide) rfl (pa_cons (pv 3) (pa_cons (pe_lst (pa_cons pe_int (pa_cons pe_int (pa_cons pe_int (pa_cons pe_non (pa_cons pe_non pa_nil)))))) (pa_cons pe_int pa_nil)))))
  (pss_cons (ps_if (PW.pt (pw_or (pt_not (pt_val (pe_callB (k_isi K) (by rfl) T.n_isinstance (by decide +kernel) (pa_cons (pv 9) (pa_cons (pe_glob (v := .ref ad.Round) rfl T.g_Round rfl) pa_nil))))) (pw_or1 (pt_cmpR (k_neD K hr.units) (pe_callB cr_sortedI (by rfl) T.n_sorted (by decide +kernel) (pa_cons (k_fld K (pv 9)) pa_nil)) (pe_lst (pa_cons pe_int (pa_cons pe_int (pa_cons pe_int pa_nil)))) (nomark _))))) (pss_one (ps_ret pe_bl)) pss_nil)
  (pss_one (ps_ret (pe_and (pe_cmpR op_eq (k_fld K (C8.pe_c c_followed hr (by decide) rfl (pa_cons (pv 3) (pa_cons (pe_lst (pa_cons pe_int (pa_cons pe_int (pa_cons pe_non (pa_cons pe_int (pa_cons pe_non pa_nil)))))) (pa_cons pe_int pa_nil))))) pe_int (nomark _)) (pe_one (pe_cmpR op_eq (k_fld K (C8.pe_c c_followed hr (by decide) rfl (pa_cons (pv 3) (pa_cons (pe_lst (pa_cons pe_int (pa_cons pe_int (pa_cons pe_non (pa_cons pe_int (pa_cons pe_non pa_nil)))))) (pa_cons pe_int pa_nil))))) pe_int (nomark _))))))))))), ?_⟩
    have hcut : cutV (ns.map V.int) none (some ((63 : Nat) : Int)) = ns.map V.int := by
      rw [cut_to, List.take_of_length_le (by rw [List.length_map]; exact hns)]
    have sumE : ∀ {σ : L2.St} {H1 : Hp}, σ[0]? = some (some (.ref sa)) → Ex H H1 → EvP (tSl (rSlL K) (tVar 0) tNoPart (tPart (tC (.int 63)))) σ H1 (fun v H2 => ∃ r, v = .ref r ∧ SqL K H2 r (ns.map V.int)) := fun h0 e => fun H2 e2 Q q =>
      el_sl (K := K) (ev_var h0) eo_none (eo_some ev_c) (ex_l e hS) H2 e2 _ fun p H3 hp e3 h3 => q _ _ e3 ⟨p, rfl, sq_of (by rw [h3]; exact congrArg (fun z => some (HO.lst z)) hcut)⟩
    refine q_asgP (Post := fun v _ => ∃ W : Int, 0 ≤ W ∧ v = .int W) (evp_cb1 (Post := fun v _ => v = .int ns.sum) (evp_cb1 (Post := fun v H2 => ∃ r, v = .ref r ∧ SqL K H2 r (ns.map V.int)) (sumE rfl (Ex.refl H)) fun x H1 e ⟨r, e1, h1⟩ => ⟨.int ns.sum, by subst e1; exact fun H2 e2 Q q => ⟨r, ns, rfl, ex_l e2 h1, q H2 (Ex.refl _)⟩, fun _ _ => rfl⟩)
      fun x H1 e hx => ⟨.int (if ns.sum < 0 then -ns.sum else ns.sum), by subst hx; exact rc_abs, fun _ _ => ⟨_, by split <;> omega, rfl⟩⟩) fun v H1 a1 ⟨W, W0, e1⟩ => ?_
    subst e1
    refine q_forNLn (K := K) (xs := [.int 0, .int 1, .int 2]) (el_lst (ea_cons ev_c (ea_cons ev_c (ea_cons ev_c ea_nil))) (by show 3 ≤ 100000; decide)) (fun q i σ' H' => Ex H1 H' ∧ H' q = some (.lst [.int 0, .int 1, .int 2]) ∧ ∃ x2 x3 x4 x5 x6 x7 x8, σ' = [some (.ref sa), some (.int W), x2, x3, x4, x5, x6, x7, x8, none])
      (fun q H2 hq a2 h2 => ⟨a2, h2, _, _, _, _, _, _, _, rfl⟩) (fun q i σ' H' _ ⟨_, h2, _⟩ => sq_of h2) ?_ ?_
    · rintro q i x σ' H' hi ⟨b1, b2, x2, x3, x4, x5, x6, x7, x8, rfl⟩
      obtain ⟨by_, rfl, y0, y2⟩ : ∃ by_ : Int, x = .int by_ ∧ 0 ≤ by_ ∧ by_ ≤ 2 := by
        have hm := List.mem_of_getElem? hi
        simp only [List.mem_cons, List.not_mem_nil, or_false] at hm
        rcases hm with rfl | rfl | rfl
        · exact ⟨0, rfl, by decide, by decide⟩
        · exact ⟨1, rfl, by decide, by decide⟩
        · exact ⟨2, rfl, by decide, by decide⟩
      have c0 := a1.trans b1
      refine q_unp2 (Post := fun v H2 => ∃ n h all s, Made H' H2 v 40 n h all s) (evp_call (ea_cons (ev_var rfl) (ea_cons (ev_var rfl) (ea_cons ev_c ea_nil))) fun H2 e Q q E => ⟨sa, ns, by_, 40, rfl, ex_l (c0.trans e) hS, hns, y0, by omega, by decide, by decide, fun v H3 e3 ⟨n, h, all, s, M⟩ => q v H3 e3 ⟨n, h, all, s, ?_⟩⟩) fun v H2 a2 ⟨n, h, all, s, M⟩ => ?_
      · obtain ⟨⟨t, lt, r, sg, ks, m1, m2, m3, m4, m5, m6, m7, m8, m9, m10, m11⟩, m12, m13, m14, m15, m16, m17⟩ := M
        exact ⟨⟨t, lt, r, sg, ks, m1, m2, m3, m4, m5, m6, m7, fresh_back e m8, fresh_back e m9, fresh_back e m10, fresh_back e m11⟩, m12, m13, m14, m15, m16, m17⟩
      obtain ⟨⟨t, lt, r, sg, ks, m1, m2, m3, m4, m5, m6, m7, m8, m9, m10, m11⟩, m12, m13, m14, m15, m16, m17⟩ := M
      refine ⟨t, _, _, m1, st_of m2, ?_⟩
      have LO := m12.all
      have hL : LandAt K H2 (.ref lt) n h (all.take 120) := ⟨lt, r, rfl, st_of m3, ks, sq_of m4, fun p hp => st_of (m5 p hp), m6⟩
      have n1 := LO.n1
      have n40 := LO.n40
      have h0 := LO.h0
      have hhn := LO.hn
      generalize hrs : all.take 120 = rs at hL LO m12
      have c2 := c0.trans a2
      -- the signs
      refine q_asgL (xs := (rightS rs s).map nV) (fun H3 e3 Q q => (ea_cons (ev_var rfl) (ea_cons (ev_var rfl) ea_nil)) H3 e3 _ fun H4 e4 => ⟨.ref lt, n, h, rs, sg, s, rfl, hL.mono (e3.trans e4), by have := LO.few; omega, sq_of ((e3.trans e4) _ _ m7), by omega, fun p H5 hp e5 h5 => q p H5 (fresh_back e4 hp) (e4.trans e5) h5⟩) fun sg2 H3 sg0 a3 hsg => ?_
      have hlen : (((rightS rs s).length : Nat) : Int) = n := by rw [right_len]; exact m14
      obtain ⟨s', hs'⟩ : ∃ s', s' = rightS rs s := ⟨_, rfl⟩
      have hno' : nx s' h.toNat = none := by rw [hs']; exact right_none m15
      have hal' : ∀ p q : Nat, nx s' p = some q → (q : Int) < n ∧ ((p : Int), (q : Int)) ∈ rs := fun p q e => by
        rw [hs'] at e
        obtain ⟨z1, z2⟩ := right_some e
        exact ⟨(m16 p q z1).1, z2⟩
      rw [← hs'] at hlen hsg
      clear hs' m16 m15 m14 m7
      obtain ⟨g3, gv3⟩ := laid_mk (hL.mono a3) m12 (sq_of hsg) hlen hno' hal'
      have c3 := c2.trans a3
      have landE : ∀ {σ : L2.St} {H4 : Hp}, σ[3]? = some (some (.ref lt)) → Ex H3 H4 → Ev (tOp (rIxT K) (tVar 3) (tC (.int 0))) σ H4 (.int n) := fun h3 e => ev_op (ev_var h3) ev_c (rv_ixT (st_of (e _ _ (a3 _ _ m3))) (atI_nat (j := 0) rfl))
      have homeE : ∀ {σ : L2.St} {H4 : Hp}, σ[3]? = some (some (.ref lt)) → Ex H3 H4 → Ev (tOp (rIxT K) (tVar 3) (tC (.int 1))) σ H4 (.int h) := fun h3 e => ev_op (ev_var h3) ev_c (rv_ixT (st_of (e _ _ (a3 _ _ m3))) (atI_nat (j := 1) rfl))
      have mod0 : ∀ z : Int, 0 ≤ z % n := fun z => Int.emod_nonneg _ (by omega)
      have modn : ∀ z : Int, z % n < n := fun z => Int.emod_lt_of_pos _ (by omega)
      -- the others
      refine q_asgL (xs := [.int (W % n), .int (W / 40 % n), .int h]) (el_lst (ea_cons (ev_op (ev_var rfl) (landE rfl (Ex.refl _)) (rv_I (C := fun _ j => 0 < j) (by omega))) (ea_cons (ev_op (ev_op (ev_var rfl) ev_c (rv_I (C := CDiv) ⟨by decide, by decide⟩)) (landE rfl (Ex.refl _)) (rv_I (C := fun _ j => 0 < j) (by omega))) (ea_cons (homeE rfl (Ex.refl _)) ea_nil))) (by show 3 ≤ 100000; decide)) fun oa H4 oa0 a4 hoa => ?_
      have eos : ([.int (W % n), .int (W / 40 % n), .int h] : List V) = [(W % n).toNat, (W / 40 % n).toNat, h.toNat].map natV := by
        have := mod0 W
        have := mod0 (W / 40)
        simp only [List.map_cons, List.map_nil, natV]
        rw [Int.toNat_of_nonneg (mod0 W), Int.toNat_of_nonneg (mod0 (W / 40)), Int.toNat_of_nonneg h0]
      rw [eos] at hoa
      have hos : ∀ q ∈ [(W % n).toNat, (W / 40 % n).toNat, h.toNat], q < s'.length := by
        intro q hq
        have := modn W
        have := modn (W / 40)
        have := mod0 W
        have := mod0 (W / 40)
        simp only [List.mem_cons, List.not_mem_nil, or_false] at hq
        rcases hq with rfl | rfl | rfl <;> omega
      have c4 := c3.trans a4
      have w3 : 0 ≤ W % 3 ∧ W % 3 < 3 := ⟨Int.emod_nonneg _ (by decide), Int.emod_lt_of_pos _ (by decide)⟩
      have w5 : 0 ≤ W % 5 ∧ W % 5 < 5 := ⟨Int.emod_nonneg _ (by decide), Int.emod_lt_of_pos _ (by decide)⟩
      obtain ⟨m3', hm3, hl3⟩ := rg_at (lo := W % 3) (hi := n) (c := 3) (.inl rfl) w3.1 (by omega) (by omega) n40
      obtain ⟨m5', hm5, hl5⟩ := rg_at (lo := W % 5) (hi := n) (c := 5) (.inr rfl) w5.1 (by omega) (by omega) n40
      have nat3 : ∀ i : Nat, ∃ p : Nat, W % 3 + (i : Int) * 3 = (p : Int) := fun i => ⟨(W % 3 + (i : Int) * 3).toNat, by omega⟩
      have nat5 : ∀ i : Nat, ∃ p : Nat, W % 5 + (i : Int) * 5 = (p : Int) := fun i => ⟨(W % 5 + (i : Int) * 5).toNat, by omega⟩
      refine q_forC (ea_cons (ev_op (ev_var rfl) ev_c (rv_I (C := fun _ j => 0 < j) (by decide))) (ea_cons (landE rfl a4) (ea_cons ev_c ea_nil))) hm3 (fun i σ' H' => Ex H4 H' ∧ ∃ x6 x7 x8, σ' = [some (.ref sa), some (.int W), some (.int by_), some (.ref lt), some (.ref sg2), some (.ref oa), x6, x7, x8, none]) (fun H5 a5 => ⟨a5, _, _, _, rfl⟩) ?_ ?_
      · rintro i' σ' H5 hi' ⟨a5, x6, x7, x8, rfl⟩
        obtain ⟨p, hp⟩ := nat3 i'
        have hpn := hl3 i' hi'
        rw [hp] at hpn ⊢
        have hps : p < s'.length := by omega
        have a35 := a4.trans a5
        refine s_when (b := false) (et_is (et_or (a := false) (b := false) (et_is (et_not (et_B (b := true) (ev_call (ea_cons (ev_var rfl) (ea_cons (ev_var rfl) (ea_cons (ev_var rfl) (ea_cons (ev_var rfl) ea_nil)))) fun H6 e Q q E => ⟨_, _, n, h, rs, s', p, oa, _, rfl, g3.mono (a35.trans e), gv3.mono (a35.trans e), hps, sq_of ((a5.trans e) _ _ hoa), hos, by show 3 ≤ 1000; decide, q⟩))) rfl) fun _ => et_is (et_not (et_B (b := true) (ev_call (ea_cons (ev_var rfl) (ea_cons (ev_var rfl) (ea_cons (ev_var rfl) ea_nil))) fun H6 e Q q E => ⟨_, _, n, h, rs, s', p, rfl, g3.mono (a35.trans e), hps, q⟩))) rfl) rfl) (fun z => nomatch z) fun _ H6 a6 => ⟨a5.trans a6, _, _, _, rfl⟩
      · rintro σ' H5 ⟨a5, x6, x7, x8, rfl⟩
        have a35 := a4.trans a5
        have gv5 := gv3.mono a35
        have g5 := g3.mono a35
        refine q_par2 (eap_l (el_list (K := K) (ev_var rfl) (sq_of (a35 _ _ hsg))) (eap_l (fun H6 e6 Q q => (ea_cons (ev_var rfl) (ea_cons (ev_var rfl) ea_nil)) H6 e6 _ fun H7 e7 => ⟨_, _, n, h, rs, s', rfl, gv5.mono (e6.trans e7), fun p H8 hp e8 h8 => q p H8 (fresh_back e7 hp) (e7.trans e8) h8⟩) eap_nil)) fun vs H6 a6 ⟨hd, r1, e1, hd0, hhd, fo, r2, e2, fo0, hfo, e3⟩ => ?_
        subst e3 e2 e1
        refine ⟨_, _, rfl, ?_⟩
        have a36 := a35.trans a6
        have c6 := c3.trans a36
        have hd00 : H hd = none := fresh_back (c3.trans a35) hd0
        have hd03 : H3 hd = none := fresh_back a35 hd0
        have g6 := g3.mono a36
        obtain ⟨gh6, gvh6⟩ := laid_mk g6.land m12 (sq_of hhd) hlen hno' hal'
        refine q_when (b := false) (et_is (et_or (a := false) (b := false) (et_test (ev_opL (ev_var rfl) (el_law_home (ev_var rfl) (ev_var rfl) g6) fun q H7 hq e7 => ne_nats (e7 _ _ hfo) hq)) fun _ => et_is (et_or (a := false) (b := false) (et_test (ev_opL1 (el_home_from (ev_var rfl) (ev_var rfl) gvh6) (fun _ _ => ev_var rfl) fun q H7 hq e7 => ne_nats hq (e7 _ _ hfo))) fun _ => et_test (ev_is (ev_op (ev_var rfl) (ev_var rfl) (rv_neD (p := True) (.lst (sq_of hhd) (dp_n s')) (.lst (sq_of (a36 _ _ hsg)) (dp_n s')) (pd_n s') (pd_n s') (by simp))) rfl)) rfl) rfl) (fun z => nomatch z) fun _ H7 a7 => ?_
        have a37 := a36.trans a7
        refine q_forC (ea_cons (ev_op (ev_var rfl) ev_c (rv_I (C := fun _ j => 0 < j) (by decide))) (ea_cons (landE rfl a37) (ea_cons ev_c ea_nil))) hm5 (fun i σ' H' => Ex H7 H' ∧ ∃ x6, σ' = [some (.ref sa), some (.int W), some (.int by_), some (.ref lt), some (.ref sg2), some (.ref oa), x6, some (.ref hd), some (.ref fo), none]) (fun H8 a8 => ⟨a8, _, rfl⟩) ?_ ?_
        · rintro i' σ' H8 hi' ⟨a8, x6, rfl⟩
          obtain ⟨p, hp⟩ := nat5 i'
          have hpn := hl5 i' hi'
          rw [hp] at hpn ⊢
          exact s_when (b := false) (et_due rfl rfl rfl (gh6.mono (a7.trans a8)) (gvh6.mono (a7.trans a8)) (by omega)) (fun z => nomatch z) fun _ H9 a9 => ⟨a8.trans a9, _, rfl⟩
        · rintro σ' H8 ⟨a8, x6, rfl⟩
          have a38 := a37.trans a8
          obtain ⟨j, hj⟩ : ∃ j : Nat, W / 3 % n = (j : Int) := ⟨(W / 3 % n).toNat, by have := mod0 (W / 3); omega⟩
          have hjn := modn (W / 3)
          refine q_setL (l := hd) (xs := s'.map nV) (j := j) (v := .non) (a8 _ _ (a7 _ _ hhd)) ev_c (ev_var rfl) (ev_is (ev_op (ev_op (ev_var rfl) ev_c (rv_I (C := CDiv) ⟨by decide, by decide⟩)) (landE rfl a38) (rv_I (C := fun _ j => 0 < j) (by omega))) (by rw [hj])) (by rw [List.length_map]; omega) fun H9 a9 => ?_
          have eset : (s'.map nV).set j .non = (s'.set j none).map nV := by
            show (s'.map nV).set j (nV none) = _
            exact (List.map_set (f := nV)).symm
          rw [eset]
          have e39 := Ex.mut (o := .lst ((s'.set j none).map nV)) (a38.trans a9) hd03
          have hhd10 : (upd H9 hd (.lst ((s'.set j none).map nV))) hd = some (.lst ((s'.set j none).map nV)) := upd_same
          generalize upd H9 hd (.lst ((s'.set j none).map nV)) = H10 at e39 hhd10
          obtain ⟨gh10, gvh10⟩ := laid_mk (g3.mono e39).land m12 (sq_of hhd10) (by rw [List.length_set]; exact hlen) (set_none hno') (fun p q e => hal' p q (set_some e))
          refine q_when (b := false) (et_test (ev_opLL (el_home_from (ev_var rfl) (ev_var rfl) gvh10) (el_law_home (ev_var rfl) (ev_var rfl) gh10) fun p q H11 hp hq e11 => ne_nats hp hq)) (fun z => nomatch z) fun _ H11 a11 => ?_
          have a311 := e39.trans a11
          refine s_forC (ea_cons (ev_op (ev_var rfl) ev_c (rv_I (C := fun _ j => 0 < j) (by decide))) (ea_cons (landE rfl a311) (ea_cons ev_c ea_nil))) hm5 (fun i σ' H' => Ex H11 H' ∧ ∃ x6, σ' = [some (.ref sa), some (.int W), some (.int by_), some (.ref lt), some (.ref sg2), some (.ref oa), x6, some (.ref hd), some (.ref fo), none]) (fun H12 a12 => ⟨a12, _, rfl⟩) ?_ ?_
          · rintro i' σ' H12 hi' ⟨a12, x6, rfl⟩
            obtain ⟨p, hp⟩ := nat5 i'
            have hpn := hl5 i' hi'
            rw [hp] at hpn ⊢
            exact s_when (b := false) (et_due rfl rfl rfl (gh10.mono (a11.trans a12)) (gvh10.mono (a11.trans a12)) (by rw [List.length_set]; omega)) (fun z => nomatch z) fun _ H13 a13 => ⟨a12.trans a13, _, rfl⟩
          · rintro σ' H12 ⟨a12, x6, rfl⟩
            have e212 := (a3.trans a311).trans a12
            exact ⟨(b1.trans a2).trans e212, e212 _ _ (a2 _ _ b2), _, _, _, _, _, _, _, rfl⟩
    · rintro q σ' H' ⟨b1, b2, x2, x3, x4, x5, x6, x7, x8, rfl⟩
      have c0 := a1.trans b1
      refine q_asgP (Post := fun v H' => LandAt K H' v 5 4 landL) ((evp_tup (P := fun vs H' => ∃ lr vs0, vs = [.int 5, .int 4, .ref lr] ∧ H' lr = some (.lst vs0) ∧ Rds landL vs0 H') ((eap_v ev_c (eap_v ev_c (eap_p (Post := fun v H' => ∃ lr vs0, v = .ref lr ∧ H' lr = some (.lst vs0) ∧ Rds landL vs0 H') ((evp_lst (erd_cons (erd_cons (erd_cons (erd_cons erd_nil)))) (fun vs H1 H2 e q => q.mono e) (fun vs H1 ⟨ks, q1, q2, q3⟩ => by
          have z := congrArg List.length q3
          rw [q1, List.length_map]
          rw [List.length_map] at z
          rw [z]; decide)).weak fun v H2 _ ⟨r, vs, y1, y2, y3, y4, _⟩ => ⟨r, vs, y1, y3, y4⟩) (fun v H1 H2 e ⟨r, vs, y1, y2, y3⟩ => ⟨r, vs, y1, e _ _ y2, y3.mono e⟩) eap_nil))).weak fun vs H2 _ ⟨r1, e1, r2, e2, x, r3, e3, ⟨lr, vs0, y1, y2, y3⟩, e4⟩ => ⟨lr, vs0, by rw [e1, e2, e3, e4, y1], y2, y3⟩) (fun vs H1 H2 e ⟨r, vs0, y1, y2, y3⟩ => ⟨r, vs0, y1, e _ _ y2, y3.mono e⟩) (fun vs H1 ⟨r, vs0, y1, _⟩ => by rw [y1]; show 3 ≤ 100000; decide)).weak fun v H2 _ ⟨r, vs, y1, y2, lr, vs0, y3, y4, y5⟩ => land_last (by rw [y2, y3]) y4 y5 y1) fun v H2 a2 hL => ?_
      refine q_asgP (evp_foll (s := sRing) (p := 1) hL (ev_var rfl) (ea_cons ev_c (ea_cons ev_c (ea_cons ev_c (ea_cons ev_c (ea_cons ev_c ea_nil))))) (by show 5 ≤ 100000; decide) ev_c rfl okS1 (by decide)) fun v2 H3 a3 ⟨x, e1, hx0, hx⟩ => ?_
      subst e1
      rw [end1] at hx
      obtain ⟨dx, D, z1, z2, z3, z4⟩ := hx
      have hL3 := hL.mono a3
      refine q_when (b := false) (et_is (et_or (a := false) (b := false) (et_is (et_not (et_B (ev_isiC (ev_var rfl) z1 T.cl_Round T.oc_Round T.ki_Round_Round))) rfl) fun _ => et_test (ev_opLL (xs := [0, 1, 2].map natV) (ys := [0, 1, 2].map natV) (fun H4 e4 Q q => (ev_fld (f := "places") (ev_var rfl) z1 T.cl_Round T.no_Round_places (look1 _ _)) H4 e4 _ fun H5 e5 => ⟨D, [1, 2, 0], rfl, sq_of ((e4.trans e5) _ _ z4), fun ns' p h1 h2 hp => by
        rw [sort3 h1 h2]
        exact q p _ (fresh_back e5 hp) (e5.trans (Ex.new hp)) upd_same⟩) (el_lst (ea_cons ev_c (ea_cons ev_c (ea_cons ev_c ea_nil))) (by show 3 ≤ 100000; decide)) fun p q H4 hp hq _ => ne_nats hp hq)) rfl) (fun z => nomatch z) fun _ H4 a4 => ?_
      have hL4 := hL3.mono a4
      refine s_ret (v := .bl true) (ev_is (ev_andV (b := true) (ev_op (ev_fldP (v := .int 2) (evp_foll (s := sEnds) (p := 0) hL4 (ev_var rfl) (ea_cons ev_c (ea_cons ev_c (ea_cons ev_c (ea_cons ev_c (ea_cons ev_c ea_nil))))) (by show 5 ≤ 100000; decide) ev_c rfl okS2 (by decide)) fun x H5 e5 ⟨y, h1, h2, h3⟩ => ?_) ev_c (rv_eq rfl)) fun _ => ev_op (ev_fldP (v := .int 1) (evp_foll (s := sEnds) (p := 3) hL4 (ev_var rfl) (ea_cons ev_c (ea_cons ev_c (ea_cons ev_c (ea_cons ev_c (ea_cons ev_c ea_nil))))) (by show 5 ≤ 100000; decide) ev_c rfl okS2 (by decide)) fun x H5 e5 ⟨y, h1, h2, h3⟩ => ?_) ev_c (rv_eq rfl)) ?_) fun H5 a5 => k H5
      · rw [end2] at h3
        obtain ⟨dx, h3⟩ := h3
        exact ⟨y, _, dx, _, h1, h3, T.cl_Stands, T.no_Stands_place, look1 _ _⟩
      · rw [end3] at h3
        obtain ⟨dx, h3⟩ := h3
        exact ⟨y, _, dx, _, h1, h3, T.cl_Home, T.no_Home_steps, look1 _ _⟩
      · rfl
theorem law_at (T : Txt K mg ad) {fa : Addr} (hfa : mg "law" = some (.ref fa)) : ∃ fd : FuncData, (∀ (s : Shared) (u : Value), BindsTo s fd ⟨[u], []⟩ [("_law_script", u)]) ∧ ∀ base : Heap, K.In base → base.Ns mainGlobals mg → FnOk P w K mg base C8.CX0 10 fa fd ["_law_script"] (spLaw K) := by
  obtain ⟨f, fd, D, df⟩ := T.d_law.ex
  have e := D.mgf.symm.trans hfa
  cases e
  refine ⟨fd, fun s u => ?_, fun base _ _ => fn_law T D⟩
  obtain ⟨oc, od, dV, kV, doc, pm, an, cdv, ct, osl, rfl, lk, hcd⟩ := D.fn.ex
  have e : dV = .none := df
  subst e
  exact .of_eq rfl
theorem walk {l : PySem.W.OpenLaw} {q : Program} {loose : List Str} {XP : (Str → Option Value) → Heap → Prop} {YP : World → Heap → Prop} {d : DefRec} {K : Params → PySem.W.Frag} (hn : l.most = some 63) (hdf : d.params.defaults = [])
    (hY : ∀ (w : World) (h : Heap), YP w h → (K w.params).In h)
    (F : ∀ (w : World) (mg : Str → Option Value) (fa : Addr) (h : Heap), (K w.params).In h → h.Ns mainGlobals mg → mg d.name = some (.ref fa) →
      ∃ fd : FuncData, (∀ (s : Shared) (u : Value), BindsTo s fd ⟨[u], []⟩ [("_law_script", u)]) ∧ ∀ base : Heap, (K w.params).In base → base.Ns mainGlobals mg → FnOk l.prog w (K w.params) mg base C8.CX0 10 fa fd ["_law_script"] (spLaw (K w.params))) :
    PySem.W.WalkO q loose XP YP l.row.toRowW d [] (fun f vs => PySem.call f vs) :=
  L2.walk_of (n := 63) (k := 10) (x := "_law_script") (CX := fun _ => C8.CX0) (sp := fun w => spLaw (K w.params)) hn (by decide) hdf ⟨rfl, by decide, by decide⟩ hY F (fun _ _ a ns hl _ hS => ⟨a, ns, rfl, hS, hl, fun _ => rfl⟩) fun _ _ _ _ _ z => z

end
end Sg
namespace Sg
set_option autoImplicit false
open PySem L2 Evl Big
open PyProof.Rows (envOfC)
theorem kit_same {K : PySem.W.Frag} {C : Addr} : PySem.W.kitOne K (.ref C) (.ref C) = some true := if_pos (beq_self_eq_true _)
theorem kit_other {K : PySem.W.Frag} {C D : Addr} {cd} {b : Bool} (hn : (Value.ref C == Value.ref D) = false) (h1 : PySem.W.clsIn K D = some cd) (h2 : PySem.W.typeIn K (.ref D) = some (.type "type")) (h3 : PySem.W.subIn K (.ref C) (.ref D) = some b) : PySem.W.kitOne K (.ref C) (.ref D) = some b := by
  unfold PySem.W.kitOne
  rw [hn, if_neg (by decide)]
  show (if ((PySem.W.clsIn K D).isSome && PySem.W.typeIn K (.ref D) == some (.type "type")) = true then _ else _) = _
  rw [h1, h2, if_pos (by rfl), h3]
theorem law_ads {P : Program} {w : World} {K : PySem.W.Frag} {mg : Str → Option Value} {a_Answer a_Home a_Round a_Stands a_Turned a_Shut : Addr} (_ : mg "Answer" = some (.ref a_Answer)) (_ : mg "Home" = some (.ref a_Home)) (_ : mg "Round" = some (.ref a_Round)) (_ : mg "Stands" = some (.ref a_Stands)) (_ : mg "Turned" = some (.ref a_Turned)) (_ : mg "Shut" = some (.ref a_Shut)) (T : Txt K mg ⟨a_Answer, a_Home, a_Round, a_Stands, a_Turned, a_Shut⟩) {fa : Addr} (hfa : mg "law" = some (.ref fa)) : ∃ fd : FuncData, (∀ (s : Shared) (u : Value), BindsTo s fd ⟨[u], []⟩ [("_law_script", u)]) ∧ ∀ base : Heap, K.In base → base.Ns mainGlobals mg → FnOk P w K mg base C8.CX0 10 fa fd ["_law_script"] (spLaw K) :=
  law_at T hfa
end Sg
open PySem PySem.W PyProof.Rows in
theorem PySem.Challenge.cw_signposts_k01_whole_followed_holds : PySem.Challenge.rw_signposts_k01_whole_followed.Holds := by
  w_on; o_law; k_head; (case hw => w_witness2)
  k_fill
  refine Sg.walk (l := PySem.Challenge.rw_signposts_k01_whole_followed) rfl rfl (fun w h Y => PySem.W.kIn_of Y) ?F
  case F =>
    intro w mg fa h KX G hmg
    have hg_Answer : mg ("Answer" : PySem.Str) = some (.ref _) := PySem.W.mg_of KX G (by k_is)
    have hg_Home : mg ("Home" : PySem.Str) = some (.ref _) := PySem.W.mg_of KX G (by k_is)
    have hg_Round : mg ("Round" : PySem.Str) = some (.ref _) := PySem.W.mg_of KX G (by k_is)
    have hg_Stands : mg ("Stands" : PySem.Str) = some (.ref _) := PySem.W.mg_of KX G (by k_is)
    have hg_Turned : mg ("Turned" : PySem.Str) = some (.ref _) := PySem.W.mg_of KX G (by k_is)
    have hg_Shut : mg ("Shut" : PySem.Str) = some (.ref _) := PySem.W.mg_of KX G (by k_is)
    refine Sg.law_ads hg_Answer hg_Home hg_Round hg_Stands hg_Turned hg_Shut ?T hmg
    case T =>
      refine ⟨?_, ?_, ?_, ?_, ?_, ?_, ?_, ?_, ?_, ?_, ?_, ?_, ?_, ?_, ?_, ?_, ?_, ?_, ?_, ?_, ?_, ?_, ?_, ?_, ?_, ?_, ?_, ?_, ?_, ?_, ?_, ?_, ?_, ?_, ?_, ?_, ?_, ?_, ?_, ?_, ?_, ?_, ?_, ?_, ?_, ?_, ?_, ?_, ?_, ?_, ?_, ?_, ?_, ?_, ?_, ?_, ?_, ?_, ?_, ?_, ?_, ?_, ?_, ?_, ?_, ?_, ?_, ?_, ?_, ?_, ?_, ?_, ?_, ?_, ?_, ?_, ?_, ?_, ?_, ?_, ?_, ?_, ?_, ?_, ?_, ?_, ?_, ?_, ?_, ?_, ?_, ?_, ?_, ?_, ?_, ?_, ?_, ?_, ?_, ?_, ?_, ?_, ?_, ?_, ?_, ?_, ?_⟩
      · try dsimp only
        exact PySem.W.mg_none_of KX G (by k_is)
      · try dsimp only
        exact PySem.W.mg_none_of KX G (by k_is)
      · try dsimp only
        exact PySem.W.mg_none_of KX G (by k_is)
      · try dsimp only
        exact PySem.W.mg_none_of KX G (by k_is)
      · try dsimp only
        exact PySem.W.mg_none_of KX G (by k_is)
      · try dsimp only
        exact PySem.W.mg_none_of KX G (by k_is)
      · try dsimp only
        exact PySem.W.mg_none_of KX G (by k_is)
      · try dsimp only
        exact PySem.W.mg_none_of KX G (by k_is)
      · try dsimp only
        exact PySem.W.mg_none_of KX G (by k_is)
      · try dsimp only
        exact PySem.W.mg_none_of KX G (by k_is)
      · try dsimp only
        exact PySem.W.mg_none_of KX G (by k_is)
      · try dsimp only
        exact PySem.W.mg_none_of KX G (by k_is)
      · try dsimp only
        exact PySem.W.mg_none_of KX G (by k_is)
      · try dsimp only
        exact PySem.W.mg_none_of KX G (by k_is)
      · try dsimp only
        exact ⟨_, PySem.W.mg_of KX G (by k_is), ⟨_, rfl⟩⟩
      · try dsimp only
        exact ⟨_, PySem.W.mg_of KX G (by k_is), ⟨_, rfl⟩⟩
      · try dsimp only
        exact hg_Answer
      · try dsimp only
        exact hg_Home
      · try dsimp only
        exact hg_Round
      · try dsimp only
        exact hg_Stands
      · try dsimp only
        exact hg_Turned
      · try dsimp only
        exact hg_Shut
      · try dsimp only
        exact ⟨by k_is, by k_is, by k_is, by k_is⟩
      · try dsimp only
        exact (show PySem.W.findIn _ _ _ = _ by k_is)
      · try dsimp only
        exact Sg.makeOk_mk hg_Home (by k_is) (by k_is) (by k_is) (by k_is) (by k_is) (by k_is)
      · try dsimp only
        exact Sg.methOk_mk (by k_is) (by k_is) (by k_is) (by k_is) (by k_is)
      · try dsimp only
        exact ⟨by k_is, by k_is, by k_is, by k_is⟩
      · try dsimp only
        exact Sg.kit_other (by decide) (by k_is) (by k_is) (by k_is)
      · try dsimp only
        exact Sg.kit_same
      · try dsimp only
        exact Sg.kit_other (by decide) (by k_is) (by k_is) (by k_is)
      · try dsimp only
        exact Sg.kit_other (by decide) (by k_is) (by k_is) (by k_is)
      · try dsimp only
        exact Sg.kit_other (by decide) (by k_is) (by k_is) (by k_is)
      · try dsimp only
        exact Sg.kit_other (by decide) (by k_is) (by k_is) (by k_is)
      · try dsimp only
        exact ⟨by k_is, by k_is, by k_is, by k_is⟩
      · try dsimp only
        exact (show PySem.W.findIn _ _ _ = _ by k_is)
      · try dsimp only
        exact Sg.makeOk_mk hg_Round (by k_is) (by k_is) (by k_is) (by k_is) (by k_is) (by k_is)
      · try dsimp only
        exact Sg.methOk_mk (by k_is) (by k_is) (by k_is) (by k_is) (by k_is)
      · try dsimp only
        exact ⟨by k_is, by k_is, by k_is, by k_is⟩
      · try dsimp only
        exact Sg.kit_other (by decide) (by k_is) (by k_is) (by k_is)
      · try dsimp only
        exact Sg.kit_other (by decide) (by k_is) (by k_is) (by k_is)
      · try dsimp only
        exact Sg.kit_same
      · try dsimp only
        exact Sg.kit_other (by decide) (by k_is) (by k_is) (by k_is)
      · try dsimp only
        exact Sg.kit_other (by decide) (by k_is) (by k_is) (by k_is)
      · try dsimp only
        exact Sg.kit_other (by decide) (by k_is) (by k_is) (by k_is)
      · try dsimp only
        exact ⟨by k_is, by k_is, by k_is, by k_is⟩
      · try dsimp only
        exact (show PySem.W.findIn _ _ _ = _ by k_is)
      · try dsimp only
        exact Sg.makeOk_mk hg_Stands (by k_is) (by k_is) (by k_is) (by k_is) (by k_is) (by k_is)
      · try dsimp only
        exact Sg.methOk_mk (by k_is) (by k_is) (by k_is) (by k_is) (by k_is)
      · try dsimp only
        exact ⟨by k_is, by k_is, by k_is, by k_is⟩
      · try dsimp only
        exact Sg.kit_other (by decide) (by k_is) (by k_is) (by k_is)
      · try dsimp only
        exact Sg.kit_other (by decide) (by k_is) (by k_is) (by k_is)
      · try dsimp only
        exact Sg.kit_other (by decide) (by k_is) (by k_is) (by k_is)
      · try dsimp only
        exact Sg.kit_other (by decide) (by k_is) (by k_is) (by k_is)
      · try dsimp only
        exact Sg.kit_same
      · try dsimp only
        exact Sg.kit_other (by decide) (by k_is) (by k_is) (by k_is)
      · try dsimp only
        exact ⟨by k_is, by k_is, by k_is, by k_is⟩
      · try dsimp only
        exact (show PySem.W.findIn _ _ _ = _ by k_is)
      · try dsimp only
        exact (show PySem.W.findIn _ _ _ = _ by k_is)
      · try dsimp only
        exact Sg.makeOk_mk hg_Turned (by k_is) (by k_is) (by k_is) (by k_is) (by k_is) (by k_is)
      · try dsimp only
        exact Sg.methOk_mk (by k_is) (by k_is) (by k_is) (by k_is) (by k_is)
      · try dsimp only
        exact ⟨by k_is, by k_is, by k_is, by k_is⟩
      · try dsimp only
        exact Sg.kit_other (by decide) (by k_is) (by k_is) (by k_is)
      · try dsimp only
        exact Sg.kit_other (by decide) (by k_is) (by k_is) (by k_is)
      · try dsimp only
        exact Sg.kit_other (by decide) (by k_is) (by k_is) (by k_is)
      · try dsimp only
        exact Sg.kit_other (by decide) (by k_is) (by k_is) (by k_is)
      · try dsimp only
        exact Sg.kit_other (by decide) (by k_is) (by k_is) (by k_is)
      · try dsimp only
        exact Sg.kit_same
      · try dsimp only
        exact ⟨by k_is, by k_is, by k_is, by k_is⟩
      · try dsimp only
        exact (show PySem.W.findIn _ _ _ = _ by k_is)
      · try dsimp only
        exact Sg.makeOk_mk hg_Shut (by k_is) (by k_is) (by k_is) (by k_is) (by k_is) (by k_is)
      · try dsimp only
        exact Sg.methOk_mk (by k_is) (by k_is) (by k_is) (by k_is) (by k_is)
      · try dsimp only
        exact ⟨by k_is, by k_is, by k_is, by k_is⟩
      · try dsimp only
        exact Sg.kit_other (by decide) (by k_is) (by k_is) (by k_is)
      · try dsimp only
        exact Sg.kit_other (by decide) (by k_is) (by k_is) (by k_is)
      · try dsimp only
        exact Sg.kit_other (by decide) (by k_is) (by k_is) (by k_is)
      · try dsimp only
        exact Sg.kit_same
      · try dsimp only
        exact Sg.kit_other (by decide) (by k_is) (by k_is) (by k_is)
      · try dsimp only
        exact Sg.kit_other (by decide) (by k_is) (by k_is) (by k_is)
      · try dsimp only
        exact Sg.defOk_mk (PySem.W.mg_of KX G (by k_is)) (by k_is) (by k_is) (by k_is)
      · try dsimp only
        exact Sg.defOk_mk (PySem.W.mg_of KX G (by k_is)) (by k_is) (by k_is) (by k_is)
      · try dsimp only
        exact Sg.defOk_mk (PySem.W.mg_of KX G (by k_is)) (by k_is) (by k_is) (by k_is)
      · try dsimp only
        exact Sg.defOk_mk (PySem.W.mg_of KX G (by k_is)) (by k_is) (by k_is) (by k_is)
      · try dsimp only
        exact Sg.defOk_mk (PySem.W.mg_of KX G (by k_is)) (by k_is) (by k_is) (by k_is)
      · try dsimp only
        exact Sg.defOk_mk (PySem.W.mg_of KX G (by k_is)) (by k_is) (by k_is) (by k_is)
      · try dsimp only
        exact Sg.defOk_mk (PySem.W.mg_of KX G (by k_is)) (by k_is) (by k_is) (by k_is)
      · try dsimp only
        exact Sg.defOk_mk (PySem.W.mg_of KX G (by k_is)) (by k_is) (by k_is) (by k_is)
      · try dsimp only
        exact Sg.defOk_mk (PySem.W.mg_of KX G (by k_is)) (by k_is) (by k_is) (by k_is)
      · try dsimp only
        exact Sg.defOk_mk (PySem.W.mg_of KX G (by k_is)) (by k_is) (by k_is) (by k_is)
      · try dsimp only
        exact Sg.defOk_mk (PySem.W.mg_of KX G (by k_is)) (by k_is) (by k_is) (by k_is)
      · try dsimp only
        exact Sg.defOk_mk (PySem.W.mg_of KX G (by k_is)) (by k_is) (by k_is) (by k_is)
      · try dsimp only
        exact Sg.defOk_mk (PySem.W.mg_of KX G (by k_is)) (by k_is) (by k_is) (by k_is)
      · try dsimp only
        exact Sg.defOk_mk (PySem.W.mg_of KX G (by k_is)) (by k_is) (by k_is) (by k_is)
      · try dsimp only
        exact Sg.defOk_mk (PySem.W.mg_of KX G (by k_is)) (by k_is) (by k_is) (by k_is)
      · try dsimp only
        exact Sg.defOk_mk (PySem.W.mg_of KX G (by k_is)) (by k_is) (by k_is) (by k_is)
      · try dsimp only
        exact Sg.defOk_mk (PySem.W.mg_of KX G (by k_is)) (by k_is) (by k_is) (by k_is)
      · try dsimp only
        exact Sg.defOk_mk (PySem.W.mg_of KX G (by k_is)) (by k_is) (by k_is) (by k_is)
      · try dsimp only
        exact Sg.defOk_mk (PySem.W.mg_of KX G (by k_is)) (by k_is) (by k_is) (by k_is)
      · try dsimp only
        exact Sg.defOk_mk (PySem.W.mg_of KX G (by k_is)) (by k_is) (by k_is) (by k_is)
      · try dsimp only
        exact Sg.defOk_mk (PySem.W.mg_of KX G (by k_is)) (by k_is) (by k_is) (by k_is)
      · try dsimp only
        exact Sg.defOk_mk (PySem.W.mg_of KX G (by k_is)) (by k_is) (by k_is) (by k_is)
      · try dsimp only
        exact Sg.defOk_mk (PySem.W.mg_of KX G (by k_is)) (by k_is) (by k_is) (by k_is)
      · try dsimp only
        exact Sg.defOk_mk (PySem.W.mg_of KX G (by k_is)) (by k_is) (by k_is) (by k_is)
      · try dsimp only
        exact Sg.defOk_mk (PySem.W.mg_of KX G (by k_is)) (by k_is) (by k_is) (by k_is)
      · try dsimp only
        exact Sg.defOk_mk (PySem.W.mg_of KX G (by k_is)) (by k_is) (by k_is) (by k_is)
      · try dsimp only
        exact Sg.defOk_mk (PySem.W.mg_of KX G (by k_is)) (by k_is) (by k_is) (by k_is)
      · try dsimp only
        exact Sg.defOk_mk (PySem.W.mg_of KX G (by k_is)) (by k_is) (by k_is) (by k_is)
      · try dsimp only
        exact Sg.defOk_mk (PySem.W.mg_of KX G (by k_is)) (by k_is) (by k_is) (by k_is)
#print axioms PySem.Challenge.cw_signposts_k01_whole_followed_holds
