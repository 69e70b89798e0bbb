import PyProof.Rows.All
import Wide.All
import OpenK.AllK
import Wide.FinOn
import HandS.ForMost
import HandS.TupSets
import HandS.Evl
import HandS.Codes
import HandS.IsInst
import HandS.Deep
import HandS.SortRule
import HandS.SortInts
import HandS.Conv
import HandS.Style
import HandS.Wide
import HandS.Flow
import HandS.DictTup
import HandS.Walk
import HandS.TupLe
import HandS.Gcd
import HandS.Text
import HandS.Exc
import HandS.TryOnly
import HandS.ExcOwn
import HandS.ExcIs
import HandS.Lambda
import HandS.EndTab
import KE.KNestM
import KE.KLam
import PySem.Challenge.RW_signposts_k06_whole_posts
set_option Elab.async false
set_option linter.all false
set_option maxRecDepth 100000
set_option maxHeartbeats 8000000

/-! Signs as plain data: where one comes to by them. -/
namespace Sg

/-- the place shown by the sign at p -/
def nx (s : List (Option Nat)) (p : Nat) : Option Nat := (s[p]?).getD none

/-- signs of n places: each shows a place -/
structure Wf (n : Nat) (s : List (Option Nat)) : Prop where
  len : s.length = n
  lt : ∀ p q, nx s p = some q → q < n

theorem nx_lt {s : List (Option Nat)} {p q : Nat} (h : nx s p = some q) : p < s.length := by
  unfold nx at h
  by_cases c : p < s.length
  · exact c
  · rw [List.getElem?_eq_none (by omega)] at h
    cases h
theorem nx_get {s : List (Option Nat)} {p : Nat} (h : p < s.length) : s[p]? = some (nx s p) := by
  unfold nx
  rw [List.getElem?_eq_getElem h]; rfl

/-- k steps along the signs -/
def orb (s : List (Option Nat)) (p : Nat) : Nat → Option Nat
  | 0 => some p
  | k + 1 => (orb s p k).bind (nx s)
theorem orb_succ' (s : List (Option Nat)) (p : Nat) : ∀ k, orb s p (k + 1) = (nx s p).bind fun q => orb s q k
  | 0 => by
    show (some p).bind (nx s) = _
    cases h : nx s p with
    | none => simp [h]
    | some q => simp [h, orb]
  | k + 1 => by
    show (orb s p (k + 1)).bind (nx s) = _
    rw [orb_succ' s p k]
    cases h : nx s p with
    | none => rfl
    | some q => rfl
theorem orb_add (s : List (Option Nat)) (p : Nat) : ∀ a b, orb s p (a + b) = (orb s p a).bind fun q => orb s q b
  | a, 0 => by
    show orb s p a = _
    cases h : orb s p a with
    | none => rfl
    | some q => rfl
  | a, b + 1 => by
    show (orb s p (a + b)).bind (nx s) = _
    rw [orb_add s p a b]
    cases h : orb s p a with
    | none => rfl
    | some q => rfl

/-- from p one comes to g -/
def Reach (s : List (Option Nat)) (g p : Nat) : Prop := ∃ k, orb s p k = some g
theorem reach_self (s : List (Option Nat)) (g : Nat) : Reach s g g := ⟨0, rfl⟩
theorem reach_next {s : List (Option Nat)} {g p q : Nat} (h : nx s p = some q) (r : Reach s g q) : Reach s g p := by
  obtain ⟨k, e⟩ := r
  exact ⟨k + 1, by rw [orb_succ', h]; exact e⟩
theorem reach_of {s : List (Option Nat)} {g p : Nat} (r : Reach s g p) (hne : p ≠ g) : ∃ q, nx s p = some q ∧ Reach s g q := by
  obtain ⟨k, e⟩ := r
  cases k with
  | zero => exact absurd (Option.some.inj e) hne
  | succ k =>
    rw [orb_succ'] at e
    cases h : nx s p with
    | none => rw [h] at e; cases e
    | some q => rw [h] at e; exact ⟨q, rfl, k, e⟩
/-- a set of places without g that is left by no sign -/
theorem reach_closed {s : List (Option Nat)} {g : Nat} {S : Nat → Prop} (hg : ¬ S g) (hc : ∀ p q, S p → nx s p = some q → S q) {p : Nat} (hp : S p) : ¬ Reach s g p := by
  rintro ⟨k, e⟩
  have key : ∀ k, ∀ q, orb s p k = some q → S q := by
    intro k
    induction k with
    | zero => intro q h; rw [← Option.some.inj h]; exact hp
    | succ k ih =>
      intro q h
      have h' : (orb s p k).bind (nx s) = some q := h
      cases e' : orb s p k with
      | none => rw [e'] at h'; cases h'
      | some r => rw [e'] at h'; exact hc r q (ih r e') h'
  exact hg (key k g e)

/-! ### the walk -/
/-- way: the places gone through, each once; b: the place of way that the last one's sign shows -/
structure IsWalk (s : List (Option Nat)) (p : Nat) (way : List Nat) (b : Option Nat) : Prop where
  head : way[0]? = some p
  step : ∀ i a c, way[i]? = some a → way[i + 1]? = some c → nx s a = some c
  nd : way.Nodup
  last : ∀ a, way[way.length - 1]? = some a → nx s a = b.bind fun j => way[j]?
  ok : ∀ j, b = some j → j < way.length

def walkF (s : List (Option Nat)) : Nat → List Nat → Option Nat → List Nat × Option Nat
  | 0, met, _ => (met, none)
  | _ + 1, met, none => (met, none)
  | f + 1, met, some a => if a ∈ met then (met, some (met.idxOf a)) else walkF s f (met ++ [a]) (nx s a)
/-- what is told of who goes from p -/
def walkd (s : List (Option Nat)) (p : Nat) : List Nat × Option Nat := walkF s (s.length + 1) [] (some p)

theorem nodup_le {n : Nat} : ∀ {l : List Nat}, l.Nodup → (∀ x ∈ l, x < n) → l.length ≤ n := by
  induction n with
  | zero =>
    intro l _ h
    cases l with
    | nil => exact Nat.le_refl _
    | cons a l => exact absurd (h a List.mem_cons_self) (Nat.not_lt_zero _)
  | succ n ih =>
    intro l hn h
    have h1 : (l.erase n).length ≤ n := ih (hn.erase n) fun x hx => by
      have a := (List.Nodup.mem_erase_iff hn).1 hx
      have b := h x a.2
      have := a.1
      omega
    have h2 := List.length_erase (a := n) (l := l)
    split at h2 <;> omega

/-- what has been met: on the way from p -/
structure Met (s : List (Option Nat)) (p : Nat) (met : List Nat) (at_ : Option Nat) : Prop where
  head : met ≠ [] → met[0]? = some p
  zero : met = [] → at_ = some p
  step : ∀ i a c, met[i]? = some a → met[i + 1]? = some c → nx s a = some c
  nd : met.Nodup
  last : ∀ a, met[met.length - 1]? = some a → nx s a = at_
  lt : ∀ a ∈ met, a < s.length
  at_lt : ∀ a, at_ = some a → a < s.length

theorem Met.start {s : List (Option Nat)} {p : Nat} (hp : p < s.length) : Met s p [] (some p) where
  head := fun h => absurd rfl h
  zero := fun _ => rfl
  step := fun i a c h => by simp at h
  nd := List.nodup_nil
  last := fun a h => by simp at h
  lt := fun a h => by cases h
  at_lt := fun a h => by cases h; exact hp
theorem Met.more {s : List (Option Nat)} {p n a : Nat} {met : List Nat} (w : Wf n s) (M : Met s p met (some a)) (h : a ∉ met) : Met s p (met ++ [a]) (nx s a) where
  head := fun _ => by
    cases met with
    | nil => rw [show a = p from Option.some.inj (M.zero rfl)]; rfl
    | cons x r => exact M.head (by simp)
  zero := fun h => by simp at h
  step := fun i x c hx hc => by
    rw [List.getElem?_append] at hx hc
    by_cases c1 : i + 1 < met.length
    · rw [if_pos (by omega)] at hx
      rw [if_pos c1] at hc
      exact M.step i x c hx hc
    · rw [if_neg c1] at hc
      have hi : i + 1 - met.length = 0 := by
        have := (List.getElem?_eq_some_iff.mp hc).1
        simp at this
        omega
      rw [hi] at hc
      have e : a = c := by simpa using hc
      by_cases c2 : i < met.length
      · rw [if_pos c2] at hx
        rw [← e]
        exact M.last x (by rw [show met.length - 1 = i by omega]; exact hx)
      · omega
  nd := by
    rw [List.nodup_append]
    refine ⟨M.nd, by simp, fun x hx y hy e => ?_⟩
    rw [List.mem_singleton] at hy
    subst hy
    subst e
    exact h hx
  last := fun x hx => by
    rw [List.length_append, List.length_singleton] at hx
    rw [List.getElem?_append_right (by omega)] at hx
    rw [show met.length + 1 - 1 - met.length = 0 by omega] at hx
    have e : a = x := by simpa using hx
    rw [e]
  lt := fun x hx => by
    rcases List.mem_append.mp hx with hx | hx
    · exact M.lt x hx
    · rw [List.mem_singleton.mp hx]; exact M.at_lt a rfl
  at_lt := fun x hx => by rw [w.len]; exact w.lt a x hx
theorem Met.len {s : List (Option Nat)} {p : Nat} {met : List Nat} {o : Option Nat} (M : Met s p met o) : met.length ≤ s.length := nodup_le M.nd M.lt
theorem Met.len_lt {s : List (Option Nat)} {p a : Nat} {met : List Nat} (M : Met s p met (some a)) (h : a ∉ met) : met.length < s.length := by
  have : (a :: met).length ≤ s.length := nodup_le (List.nodup_cons.mpr ⟨h, M.nd⟩) fun x hx => by
    rcases List.mem_cons.mp hx with e | hx
    · rw [e]; exact M.at_lt a rfl
    · exact M.lt x hx
  exact this
theorem idxOf_get {l : List Nat} {a : Nat} (h : a ∈ l) : l[l.idxOf a]? = some a := by
  have h1 := List.idxOf_lt_length_of_mem h
  rw [List.getElem?_eq_getElem h1, List.getElem_idxOf]
theorem Met.done {s : List (Option Nat)} {p a : Nat} {met : List Nat} (M : Met s p met (some a)) (h : a ∈ met) : IsWalk s p met (some (met.idxOf a)) where
  head := M.head (fun e => by rw [e] at h; cases h)
  step := M.step
  nd := M.nd
  last := fun x hx => by
    rw [M.last x hx]
    show some a = met[met.idxOf a]?
    rw [idxOf_get h]
  ok := fun j e => by cases e; exact List.idxOf_lt_length_of_mem h
theorem Met.ends {s : List (Option Nat)} {p : Nat} {met : List Nat} (M : Met s p met none) : IsWalk s p met none where
  head := M.head (fun e => by cases M.zero e)
  step := M.step
  nd := M.nd
  last := fun x hx => M.last x hx
  ok := fun j e => by cases e
theorem walkF_spec {n : Nat} {s : List (Option Nat)} {p : Nat} (w : Wf n s) : ∀ (f : Nat) (met : List Nat) (at_ : Option Nat), Met s p met at_ → s.length - met.length < f → IsWalk s p (walkF s f met at_).1 (walkF s f met at_).2
  | 0, _, _, _, h => absurd h (Nat.not_lt_zero _)
  | f + 1, met, none, M, _ => M.ends
  | f + 1, met, some a, M, h => by
    unfold walkF
    by_cases c : a ∈ met
    · rw [if_pos c]; exact M.done c
    · rw [if_neg c]
      have := M.len_lt c
      exact walkF_spec w f _ _ (M.more w c) (by rw [List.length_append, List.length_singleton]; omega)
theorem walkd_spec {n : Nat} {s : List (Option Nat)} {p : Nat} (w : Wf n s) (hp : p < n) : IsWalk s p (walkd s p).1 (walkd s p).2 :=
  walkF_spec w _ _ _ (Met.start (by rw [w.len]; exact hp)) (by simp)
/-! ### what a walk tells -/
section
variable {s : List (Option Nat)} {n p : Nat} {way : List Nat} {b : Option Nat}
theorem IsWalk.pos (W : IsWalk s p way b) : 0 < way.length := (List.getElem?_eq_some_iff.mp W.head).1
theorem IsWalk.orb (W : IsWalk s p way b) : ∀ i, i < way.length → orb s p i = way[i]?
  | 0, _ => W.head.symm
  | i + 1, h => by
    show (Sg.orb s p i).bind (nx s) = _
    rw [W.orb i (by omega), List.getElem?_eq_getElem (show i < way.length by omega), List.getElem?_eq_getElem h]
    exact W.step i _ _ (List.getElem?_eq_getElem _) (List.getElem?_eq_getElem h)
theorem IsWalk.lt (W : IsWalk s p way b) (w : Wf n s) (hp : p < n) {i a : Nat} (h : way[i]? = some a) : a < n := by
  cases i with
  | zero => rw [W.head] at h; rw [← Option.some.inj h]; exact hp
  | succ i =>
    have hl := (List.getElem?_eq_some_iff.mp h).1
    exact w.lt _ _ (W.step i _ a (List.getElem?_eq_getElem (by omega)) h)
theorem IsWalk.len_le (W : IsWalk s p way b) (w : Wf n s) (hp : p < n) : way.length ≤ n := nodup_le W.nd fun x hx => by
  obtain ⟨i, hi, e⟩ := List.getElem_of_mem hx
  exact W.lt w hp (i := i) (by rw [List.getElem?_eq_getElem hi, e])
/-- the last place -/
theorem IsWalk.lastE (W : IsWalk s p way b) : ∃ q, way[way.length - 1]? = some q := ⟨_, List.getElem?_eq_getElem (by have := W.pos; omega)⟩
/-- no round: g is come to just when it is the last one (g has no sign) -/
theorem IsWalk.reach_none (W : IsWalk s p way none) {g q : Nat} (hg : nx s g = none) (hq : way[way.length - 1]? = some q) : Reach s g p ↔ q = g := by
  have hpos := W.pos
  constructor
  · rintro ⟨k, e⟩
    by_cases c : k < way.length
    · rw [W.orb k c] at e
      by_cases d : k + 1 < way.length
      · have := W.step k g _ e (List.getElem?_eq_getElem d)
        rw [hg] at this; cases this
      · have : k = way.length - 1 := by omega
        rw [this, hq] at e
        exact Option.some.inj e
    · have e2 : k = way.length - 1 + (k - (way.length - 1)) := by omega
      rw [e2, orb_add, W.orb _ (by omega), hq] at e
      obtain ⟨m, hm⟩ : ∃ m, k - (way.length - 1) = m + 1 := ⟨k - way.length, by omega⟩
      rw [hm] at e
      have e' : Sg.orb s q (m + 1) = some g := e
      rw [orb_succ', W.last q hq] at e'
      cases e'
  · intro e
    exact ⟨way.length - 1, by rw [W.orb _ (by omega), hq, e]⟩
/-- a round: what has no sign is never come to -/
theorem IsWalk.reach_round {j : Nat} (W : IsWalk s p way (some j)) {g : Nat} (hg : nx s g = none) : ¬ Reach s g p := by
  have hj := W.ok j rfl
  have closed : ∀ a, a ∈ way → ∃ c, nx s a = some c ∧ c ∈ way := by
    intro a ha
    obtain ⟨i, hi, e⟩ := List.getElem_of_mem ha
    have e' : way[i]? = some a := by rw [List.getElem?_eq_getElem hi, e]
    by_cases c : i + 1 < way.length
    · exact ⟨_, W.step i a _ e' (List.getElem?_eq_getElem c), List.getElem_mem c⟩
    · have hi2 : i = way.length - 1 := by omega
      rw [hi2] at e'
      refine ⟨way[j], ?_, List.getElem_mem hj⟩
      rw [W.last a e']
      exact List.getElem?_eq_getElem hj
  refine reach_closed (S := fun a => a ∈ way) (fun h => ?_) (fun a c ha hc => ?_) (List.mem_of_getElem? W.head)
  · obtain ⟨c, e, _⟩ := closed g h
    rw [hg] at e; cases e
  · obtain ⟨d, e, hd⟩ := closed a ha
    rw [hc] at e
    rw [Option.some.inj e]; exact hd
end

/-! ### rounds begun elsewhere -/
def rot {α : Type} (c : List α) (k : Nat) : List α := c.drop k ++ c.take k
theorem rot_len {α : Type} (c : List α) (k : Nat) : (rot c k).length = c.length := by
  unfold rot
  rw [List.length_append, List.length_drop, List.length_take]
  omega
theorem rot_zero {α : Type} (c : List α) : rot c 0 = c := by simp [rot]
theorem rot_full {α : Type} (c : List α) : rot c c.length = c := by simp [rot]
theorem rot_rot {α : Type} (c : List α) {k m : Nat} (hk : k ≤ c.length) (hm : m ≤ c.length) : ∃ j, j ≤ c.length ∧ rot (rot c k) m = rot c j := by
  by_cases h : k + m ≤ c.length
  · refine ⟨k + m, h, ?_⟩
    unfold rot
    rw [List.drop_append_of_le_length (by rw [List.length_drop]; omega), List.take_append_of_le_length (by rw [List.length_drop]; omega), List.drop_drop, List.append_assoc, List.take_add]
  · refine ⟨k + m - c.length, by omega, ?_⟩
    unfold rot
    have e1 : (c.drop k ++ c.take k).drop m = (c.take k).drop (k + m - c.length) := by
      rw [List.drop_append, List.length_drop, List.drop_eq_nil_of_le (by rw [List.length_drop]; omega), List.nil_append]
      congr 1; omega
    have e2 : (c.drop k ++ c.take k).take m = c.drop k ++ (c.take k).take (k + m - c.length) := by
      rw [List.take_append, List.length_drop, List.take_of_length_le (by rw [List.length_drop]; omega)]
      congr 2; omega
    rw [e1, e2, List.take_take, Nat.min_eq_left (by omega), ← List.append_assoc]
    congr 1
    have e3 : k + m - c.length ≤ k := by omega
    generalize k + m - c.length = j at e3
    have : c.drop j = (c.take k).drop j ++ c.drop k := by
      conv => lhs; rw [← List.take_append_drop k c]
      rw [List.drop_append_of_le_length (by rw [List.length_take]; omega)]
    exact this.symm
/-- some beginning -/
def Turns {α : Type} (c d : List α) : Prop := ∃ k, k < c.length ∧ d = rot c k
theorem turns_le {α : Type} {c : List α} (hc : 0 < c.length) {k : Nat} (hk : k ≤ c.length) : Turns c (rot c k) := by
  by_cases h : k < c.length
  · exact ⟨k, h, rfl⟩
  · have : k = c.length := by omega
    rw [this, rot_full]
    exact ⟨0, hc, (rot_zero c).symm⟩
theorem turns_trans {α : Type} {c d e : List α} (h1 : Turns c d) (h2 : Turns d e) : Turns c e := by
  obtain ⟨k, hk, rfl⟩ := h1
  obtain ⟨m, hm, rfl⟩ := h2
  rw [rot_len] at hm
  obtain ⟨j, hj, ej⟩ := rot_rot c (Nat.le_of_lt hk) (Nat.le_of_lt hm)
  rw [ej]
  exact turns_le (by omega) hj
theorem turns_symm {α : Type} {c d : List α} (h : Turns c d) : Turns d c := by
  obtain ⟨k, hk, rfl⟩ := h
  refine ⟨if k = 0 then 0 else c.length - k, by rw [rot_len]; split <;> omega, ?_⟩
  by_cases h0 : k = 0
  · rw [if_pos h0, rot_zero, h0, rot_zero]
  · rw [if_neg h0]
    unfold rot
    have e : (c.drop k).length = c.length - k := List.length_drop
    rw [← e, List.drop_left, List.take_left, List.take_append_drop]
theorem turns_iff {α : Type} {c d : List α} (h : Turns c d) (e : List α) : Turns c e ↔ Turns d e := ⟨fun x => turns_trans (turns_symm h) x, fun x => turns_trans h x⟩
theorem turns_len {α : Type} {c d : List α} (h : Turns c d) : d.length = c.length := by
  obtain ⟨k, _, rfl⟩ := h
  exact rot_len c k

/-! ### the law's own way: so many steps, and a round from there -/
section
variable {s : List (Option Nat)} {n p : Nat} {way : List Nat} {j : Nat}
/-- the round's places, from the j-th of the walk on; behind t steps one stands at the ((t - j) mod L)-th -/
theorem IsWalk.cyc (W : IsWalk s p way (some j)) : ∀ m, Sg.orb s p (j + m) = (way.drop j)[m % (way.length - j)]? := by
  have hj := W.ok j rfl
  have hL : 0 < way.length - j := by omega
  intro m
  induction m with
  | zero =>
    rw [Nat.zero_mod, List.getElem?_drop, Nat.add_zero, W.orb j hj]
  | succ m ih =>
    show (Sg.orb s p (j + m)).bind (nx s) = _
    rw [ih]
    have hlt : m % (way.length - j) < way.length - j := Nat.mod_lt _ hL
    rw [List.getElem?_drop, List.getElem?_drop]
    generalize hr : m % (way.length - j) = r at hlt
    have e1 := List.getElem?_eq_getElem (show j + r < way.length by omega)
    rw [e1]
    show nx s way[j + r] = _
    by_cases c : r + 1 < way.length - j
    · have e2 : (m + 1) % (way.length - j) = r + 1 := by
        rw [Nat.add_mod, hr, Nat.mod_eq_of_lt (show 1 < way.length - j by omega), Nat.mod_eq_of_lt c]
      rw [e2]
      have e3 := List.getElem?_eq_getElem (show j + (r + 1) < way.length by omega)
      rw [e3]
      exact W.step (j + r) _ _ e1 e3
    · have e2 : (m + 1) % (way.length - j) = 0 := by
        rw [Nat.add_mod, hr]
        by_cases d : way.length - j = 1
        · rw [d]; exact Nat.mod_one _
        · rw [Nat.mod_eq_of_lt (show 1 < way.length - j by omega), show r + 1 = way.length - j by omega, Nat.mod_self]
      rw [e2, Nat.add_zero]
      have e4 : j + r = way.length - 1 := by omega
      rw [W.last _ (by rw [← e4]; exact e1)]
      rfl
end

/-- a round told from its first place on -/
structure IsRing (s : List (Option Nat)) (d : List Nat) : Prop where
  pos : 0 < d.length
  nd : d.Nodup
  step : ∀ i a c, d[i]? = some a → d[i + 1]? = some c → nx s a = some c
  last : ∀ a, d[d.length - 1]? = some a → nx s a = d[0]?
theorem IsWalk.ring {s : List (Option Nat)} {p : Nat} {way : List Nat} {j : Nat} (W : IsWalk s p way (some j)) : IsRing s (way.drop j) where
  pos := by
    have := W.ok j rfl
    rw [List.length_drop]; omega
  nd := List.Sublist.nodup (List.drop_sublist j way) W.nd
  step := fun i a c ha hc => by
    rw [List.getElem?_drop] at ha hc
    exact W.step (j + i) a c ha hc
  last := fun a ha => by
    have hj := W.ok j rfl
    rw [List.getElem?_drop, List.length_drop] at ha
    rw [W.last a (by rw [show way.length - 1 = j + (way.length - j - 1) by omega]; exact ha), List.getElem?_drop]
    rfl
theorem rot_get {α : Type} {c : List α} {k : Nat} (hk : k ≤ c.length) (i : Nat) : (rot c k)[i]? = if i < c.length - k then c[k + i]? else if i < c.length then c[i - (c.length - k)]? else none := by
  unfold rot
  rw [List.getElem?_append, List.length_drop]
  by_cases h : i < c.length - k
  · rw [if_pos h, if_pos h, List.getElem?_drop]
  · rw [if_neg h, if_neg h, List.getElem?_take]
    by_cases h2 : i < c.length
    · rw [if_pos h2, if_pos (by omega)]
    · rw [if_neg h2, if_neg (by omega)]
theorem IsRing.rot {s : List (Option Nat)} {c : List Nat} (R : IsRing s c) {k : Nat} (hk : k < c.length) : IsRing s (Sg.rot c k) where
  pos := by rw [rot_len]; exact R.pos
  nd := by
    unfold Sg.rot
    have h := R.nd
    rw [← List.take_append_drop k c] at h
    exact (List.perm_append_comm (l₁ := c.take k) (l₂ := c.drop k)).nodup_iff.mp h
  step := fun i a d ha hd => by
    have hd' := (List.getElem?_eq_some_iff.mp hd).1
    rw [rot_len] at hd'
    rw [rot_get (by omega)] at ha hd
    by_cases h : i + 1 < c.length - k
    · rw [if_pos h] at hd
      rw [if_pos (by omega)] at ha
      exact R.step (k + i) a d ha (by rw [← hd]; congr 1)
    · rw [if_neg h, if_pos hd'] at hd
      by_cases h2 : i < c.length - k
      · rw [if_pos h2] at ha
        have e : k + i = c.length - 1 := by omega
        rw [e] at ha
        rw [R.last a ha, ← hd]
        congr 1; omega
      · rw [if_neg h2, if_pos (by omega)] at ha
        exact R.step (i - (c.length - k)) a d ha (by rw [← hd]; congr 1; omega)
  last := fun a ha => by
    rw [rot_len] at ha
    have hp := R.pos
    rw [rot_get (by omega)] at ha
    rw [rot_get (by omega), if_pos (by omega), Nat.add_zero]
    by_cases h : c.length - 1 < c.length - k
    · rw [if_pos h] at ha
      have hk0 : k = 0 := by omega
      subst hk0
      rw [Nat.zero_add] at ha
      exact R.last a ha
    · rw [if_neg h, if_pos (by omega)] at ha
      have e : c.length - 1 - (c.length - k) = k - 1 := by omega
      rw [e] at ha
      have e2 := List.getElem?_eq_getElem hk
      rw [e2]
      exact R.step (k - 1) a _ ha (by rw [← e2]; congr 1; omega)
/-- behind t steps, t at least the walk's length, one stands in the round, at its k-th place -/
theorem IsWalk.late {s : List (Option Nat)} {p : Nat} {way : List Nat} {j : Nat} (W : IsWalk s p way (some j)) {t : Nat} (ht : way.length ≤ t) : ∃ k a, k < (way.drop j).length ∧ Sg.orb s p t = some a ∧ (Sg.rot (way.drop j) k)[0]? = some a := by
  have hj := W.ok j rfl
  have hL : 0 < way.length - j := by omega
  have hlt : (t - j) % (way.length - j) < way.length - j := Nat.mod_lt _ hL
  have hlt' : (t - j) % (way.length - j) < (way.drop j).length := by rw [List.length_drop]; exact hlt
  refine ⟨(t - j) % (way.length - j), (way.drop j)[(t - j) % (way.length - j)], hlt', ?_, ?_⟩
  · have q := W.cyc (t - j)
    rw [show j + (t - j) = t by omega] at q
    rw [q]
    exact List.getElem?_eq_getElem hlt'
  · rw [rot_get (by omega), if_pos (by omega), Nat.add_zero]
    exact List.getElem?_eq_getElem hlt'

/-! ### who comes: the program's marks -/
/-- marks set along a way -/
def markAll (known : List (Option Bool)) (v : Option Bool) : List Nat → List (Option Bool)
  | [] => known
  | a :: r => markAll (known.set a v) v r
theorem markAll_len (v : Option Bool) : ∀ (way : List Nat) (known : List (Option Bool)), (markAll known v way).length = known.length
  | [], _ => rfl
  | a :: r, known => by rw [markAll, markAll_len v r, List.length_set]
theorem markAll_snoc (v : Option Bool) : ∀ (way : List Nat) (known : List (Option Bool)) (a : Nat), markAll known v (way ++ [a]) = (markAll known v way).set a v
  | [], known, a => rfl
  | b :: r, known, a => by
    show markAll (known.set b v) v (r ++ [a]) = _
    rw [markAll_snoc v r]
    rfl
theorem markAll_get (v : Option Bool) : ∀ (way : List Nat) (known : List (Option Bool)) (q : Nat), q < known.length → (markAll known v way)[q]? = if q ∈ way then some v else known[q]?
  | [], known, q, _ => by simp [markAll]
  | a :: r, known, q, hq => by
    rw [markAll, markAll_get v r _ q (by rw [List.length_set]; exact hq)]
    by_cases h1 : q ∈ r
    · rw [if_pos h1, if_pos (List.mem_cons_of_mem _ h1)]
    · rw [if_neg h1, List.getElem?_set]
      by_cases h2 : a = q
      · subst h2
        rw [if_pos rfl, if_pos hq, if_pos List.mem_cons_self]
      · rw [if_neg h2, if_neg]
        intro h
        rcases List.mem_cons.mp h with e | e
        · exact h2 e.symm
        · exact h1 e

/-- the marks told so far are right -/
structure Marks (s : List (Option Nat)) (g : Nat) (known : List (Option Bool)) : Prop where
  len : known.length = s.length
  goal : known[g]? = some (some true)
  yes : ∀ q, known[q]? = some (some true) → Reach s g q
  no : ∀ q, known[q]? = some (some false) → ¬ Reach s g q
/-- a way under way: its places had no marks, each shows the next, the last one shows at -/
structure Under (s : List (Option Nat)) (g : Nat) (known : List (Option Bool)) (way : List Nat) (at_ : Option Nat) : Prop where
  unk : ∀ a ∈ way, known[a]? = some none
  nd : way.Nodup
  step : ∀ i a, way[i]? = some a → nx s a = if i + 1 < way.length then way[i + 1]? else at_
  at_lt : ∀ a, at_ = some a → a < s.length
theorem Under.start {s : List (Option Nat)} {g p : Nat} {known : List (Option Bool)} (hp : p < s.length) : Under s g known [] (some p) where
  unk := fun a h => by cases h
  nd := List.nodup_nil
  step := fun i a h => by simp at h
  at_lt := fun a e => by cases e; exact hp
theorem Under.more {n : Nat} {s : List (Option Nat)} {g a : Nat} {known : List (Option Bool)} {way : List Nat} (w : Wf n s) (K : known.length = s.length) (U : Under s g known way (some a)) (h : (markAll known (some false) way)[a]? = some none) :
    Under s g known (way ++ [a]) (nx s a) ∧ markAll known (some false) (way ++ [a]) = (markAll known (some false) way).set a (some false) := by
  have ha := U.at_lt a rfl
  rw [markAll_get _ _ _ _ (by rw [K]; exact ha)] at h
  have hn : a ∉ way := fun m => by rw [if_pos m] at h; cases h
  rw [if_neg hn] at h
  refine ⟨⟨fun x hx => ?_, ?_, fun i x hx => ?_, fun x e => ?_⟩, markAll_snoc _ _ _ _⟩
  · rcases List.mem_append.mp hx with m | m
    · exact U.unk x m
    · rw [List.mem_singleton.mp m]; exact h
  · rw [List.nodup_append]
    refine ⟨U.nd, by simp, fun x hx y hy e => ?_⟩
    rw [List.mem_singleton] at hy
    subst hy; subst e
    exact hn hx
  · rw [List.length_append, List.length_singleton]
    by_cases c : i < way.length
    · rw [List.getElem?_append_left c] at hx
      rw [U.step i x hx, if_pos (show i + 1 < way.length + 1 by omega)]
      by_cases d : i + 1 < way.length
      · rw [if_pos d, List.getElem?_append_left d]
      · rw [if_neg d, List.getElem?_append_right (by omega), show i + 1 - way.length = 0 by omega]
        rfl
    · rw [List.getElem?_append_right (by omega)] at hx
      have hi : i - way.length = 0 := by
        have := (List.getElem?_eq_some_iff.mp hx).1
        simp at this; omega
      rw [hi] at hx
      have e : a = x := by simpa using hx
      rw [if_neg (by omega), e]
  · rw [w.len]; exact w.lt a x e
theorem Under.len_lt {s : List (Option Nat)} {g a : Nat} {known : List (Option Bool)} {way : List Nat} (K : known.length = s.length) (U : Under s g known way (some a)) (h : (markAll known (some false) way)[a]? = some none) : way.length < s.length := by
  have ha := U.at_lt a rfl
  rw [markAll_get _ _ _ _ (by rw [K]; exact ha)] at h
  have hn : a ∉ way := fun m => by rw [if_pos m] at h; cases h
  have : (a :: way).length ≤ s.length := nodup_le (List.nodup_cons.mpr ⟨hn, U.nd⟩) fun x hx => by
    rcases List.mem_cons.mp hx with e | hx
    · rw [e]; exact ha
    · have := U.unk x hx
      rw [← K]
      exact (List.getElem?_eq_some_iff.mp this).1
  exact this
theorem Under.mem_step {s : List (Option Nat)} {g : Nat} {known : List (Option Bool)} {way : List Nat} {o : Option Nat} (U : Under s g known way o) {a : Nat} (h : a ∈ way) : (∃ c, nx s a = some c ∧ c ∈ way) ∨ nx s a = o := by
  obtain ⟨i, hi, e⟩ := List.getElem_of_mem h
  have := U.step i a (by rw [List.getElem?_eq_getElem hi, e])
  by_cases c : i + 1 < way.length
  · rw [if_pos c, List.getElem?_eq_getElem c] at this
    exact .inl ⟨_, this, List.getElem_mem c⟩
  · rw [if_neg c] at this
    exact .inr this
/-- where the way's end comes to the goal, all of it does -/
theorem Under.all_reach {s : List (Option Nat)} {g b : Nat} {known : List (Option Bool)} {way : List Nat} (U : Under s g known way (some b)) (r : Reach s g b) : ∀ a ∈ way, Reach s g a := by
  have key : ∀ d i a, way.length - i = d → way[i]? = some a → Reach s g a := by
    intro d
    induction d with
    | zero =>
      intro i a h1 h2
      have := (List.getElem?_eq_some_iff.mp h2).1
      omega
    | succ d ih =>
      intro i a h1 h2
      have h3 := U.step i a h2
      by_cases c : i + 1 < way.length
      · rw [if_pos c, List.getElem?_eq_getElem c] at h3
        exact reach_next h3 (ih (i + 1) _ (by omega) (List.getElem?_eq_getElem c))
      · rw [if_neg c] at h3
        exact reach_next h3 r
  intro a ha
  obtain ⟨i, hi, e⟩ := List.getElem_of_mem ha
  exact key _ i a rfl (by rw [List.getElem?_eq_getElem hi, e])
/-- where it doesn't, none does -/
theorem Under.none_reach {s : List (Option Nat)} {g : Nat} {known : List (Option Bool)} {way : List Nat} {o : Option Nat} (M : Marks s g known) (U : Under s g known way o) (h : ∀ b, o = some b → b ∈ way ∨ ¬ Reach s g b) : ∀ a ∈ way, ¬ Reach s g a := by
  intro a ha r
  have hg : ∀ x, x ∈ way → x ≠ g := fun x hx e => by
    have := U.unk x hx
    rw [e, M.goal] at this
    cases this
  have key : ∀ k x, x ∈ way → orb s x k ≠ some g := by
    intro k
    induction k with
    | zero => intro x hx e; exact hg x hx (Option.some.inj e)
    | succ k ih =>
      intro x hx e
      rw [orb_succ'] at e
      rcases U.mem_step hx with ⟨c, hc, hm⟩ | hc
      · rw [hc] at e
        exact ih c hm e
      · rw [hc] at e
        cases o with
        | none => cases e
        | some b =>
          rcases h b rfl with hm | hn
          · exact ih b hm e
          · exact hn ⟨k, e⟩
  obtain ⟨k, e⟩ := r
  exact key k a ha e
/-- behind a way -/
theorem Marks.after {s : List (Option Nat)} {g : Nat} {known : List (Option Bool)} {way : List Nat} {v : Bool} (M : Marks s g known) (unk : ∀ a ∈ way, known[a]? = some none) (h : ∀ a ∈ way, (v = true → Reach s g a) ∧ (v = false → ¬ Reach s g a)) : Marks s g (markAll known (some v) way) where
  len := by rw [markAll_len]; exact M.len
  goal := by
    have hl := (List.getElem?_eq_some_iff.mp M.goal).1
    rw [markAll_get _ _ _ _ hl, if_neg]
    · exact M.goal
    · intro m
      have := unk g m
      rw [M.goal] at this; cases this
  yes := fun q hq => by
    have hl := (List.getElem?_eq_some_iff.mp hq).1
    rw [markAll_len] at hl
    rw [markAll_get _ _ _ _ hl] at hq
    by_cases m : q ∈ way
    · rw [if_pos m] at hq
      exact (h q m).1 (Option.some.inj (Option.some.inj hq))
    · rw [if_neg m] at hq
      exact M.yes q hq
  no := fun q hq => by
    have hl := (List.getElem?_eq_some_iff.mp hq).1
    rw [markAll_len] at hl
    rw [markAll_get _ _ _ _ hl] at hq
    by_cases m : q ∈ way
    · rw [if_pos m] at hq
      exact (h q m).2 (Option.some.inj (Option.some.inj hq))
    · rw [if_neg m] at hq
      exact M.no q hq
theorem marks_mark (known : List (Option Bool)) (way : List Nat) (hin : ∀ a ∈ way, a < known.length) (u v : Option Bool) : markAll (markAll known u way) v way = markAll known v way := by
  apply List.ext_getElem?
  intro q
  by_cases hq : q < known.length
  · rw [markAll_get _ _ _ _ (by rw [markAll_len]; exact hq), markAll_get _ _ _ _ hq, markAll_get _ _ _ _ hq]
    split <;> rfl
  · rw [List.getElem?_eq_none (by rw [markAll_len, markAll_len]; omega), List.getElem?_eq_none (by rw [markAll_len]; omega)]
end Sg

/-! Sets packed and signs turned, as plain data: why no fewer signs do. -/
namespace Sg

/-- the steps of a relation, none or more -/
inductive RT (E : Nat → Nat → Prop) : Nat → Nat → Prop
  | refl (p : Nat) : RT E p p
  | step {p q r : Nat} (h : E p q) (t : RT E q r) : RT E p r
section
variable {E F : Nat → Nat → Prop} {p q r s e : Nat}
theorem RT.trans (a : RT E p q) : RT E q r → RT E p r := by
  induction a with
  | refl => exact id
  | step h _ ih => exact fun b => .step h (ih b)
theorem RT.one (h : E p q) : RT E p q := .step h (.refl q)
theorem RT.mono (hm : ∀ a b, E a b → F a b) (a : RT E p q) : RT F p q := by
  induction a with
  | refl => exact .refl _
  | step h _ ih => exact .step (hm _ _ h) ih
theorem RT.stays {S : Nat → Prop} (hc : ∀ a b, E a b → S a → S b) (a : RT E p q) : S p → S q := by
  induction a with
  | refl => exact id
  | step h _ ih => exact fun hp => ih (hc _ _ h hp)
/-- from outside of G into G there is a step into G -/
theorem RT.cross {G : Nat → Prop} [DecidablePred G] (a : RT E p q) : ¬ G p → G q → ∃ x y, E x y ∧ ¬ G x ∧ G y ∧ RT E p x := by
  induction a with
  | refl => exact fun h1 h2 => absurd h2 h1
  | @step p q r h t ih =>
    intro h1 h2
    by_cases c : G q
    · exact ⟨p, q, h, h1, c, .refl p⟩
    · obtain ⟨x, y, b1, b2, b3, b4⟩ := ih c h2
      exact ⟨x, y, b1, b2, b3, .step h b4⟩
theorem RT.add (hF : ∀ a b, F a b ↔ E a b ∨ (a = s ∧ b = e)) : RT F p q ↔ RT E p q ∨ (RT E p s ∧ RT E e q) := by
  constructor
  · intro a
    induction a with
    | refl => exact .inl (.refl _)
    | step h t ih =>
      rcases (hF _ _).mp h with h | ⟨rfl, rfl⟩
      · rcases ih with ih | ⟨i1, i2⟩
        · exact .inl (.step h ih)
        · exact .inr ⟨.step h i1, i2⟩
      · rcases ih with ih | ⟨i1, i2⟩
        · exact .inr ⟨.refl _, ih⟩
        · exact .inr ⟨.refl _, i2⟩
  · have up : ∀ {a b}, RT E a b → RT F a b := fun z => z.mono fun a b h => (hF a b).mpr (.inl h)
    rintro (a | ⟨a, b⟩)
    · exact up a
    · exact (up a).trans (.step ((hF _ _).mpr (.inr ⟨rfl, rfl⟩)) (up b))
end

/-- a way: its key, from where, to where -/
abbrev Way := Nat × Nat × Nat
def Ew (ws : List Way) (b p q : Nat) : Prop := ∃ k, k < b ∧ (k, p, q) ∈ ws
def Ea (ws : List Way) (p q : Nat) : Prop := ∃ k, (k, p, q) ∈ ws
/-- the roads out of a set -/
def outOf (rd : List (Nat × Nat)) (S : List Nat) : List (Nat × Nat) := rd.filter fun r => decide (r.1 ∈ S) && !decide (r.2 ∈ S)
theorem mem_outOf {rd : List (Nat × Nat)} {S : List Nat} {p q : Nat} : (p, q) ∈ outOf rd S ↔ (p, q) ∈ rd ∧ p ∈ S ∧ q ∉ S := by
  unfold outOf
  rw [List.mem_filter]
  simp
/-- a set of places without home -/
structure SetOk (n h : Nat) (S : List Nat) : Prop where
  ne : S ≠ []
  nd : S.Nodup
  lt : ∀ p ∈ S, p < n
  home : h ∉ S
structure Pk (n h : Nat) (rd : List (Nat × Nat)) (s : List (Option Nat)) (sets : List (List Nat)) (ways : List Way) : Prop where
  kind : ∀ k p q, (k, p, q) ∈ ways → (k = 0 ∧ nx s p = some q) ∨ ∃ (i : Nat) (S : List Nat), k = i + 1 ∧ sets[i]? = some S ∧ (p, q) ∈ rd ∧ p ∈ S ∧ q ∉ S
  zero : ∀ p q, nx s p = some q → (0, p, q) ∈ ways
  out : ∀ (i : Nat) (S : List Nat) p q, sets[i]? = some S → (p, q) ∈ rd → p ∈ S → q ∉ S → (i + 1, p, q) ∈ ways
  ok : ∀ (i : Nat) (S : List Nat), sets[i]? = some S → SetOk n h S
  join : ∀ (i : Nat) (S : List Nat) p q, sets[i]? = some S → p ∈ S → q ∈ S → RT (Ew ways (i + 1)) p q
  shut : ∀ (i : Nat) (S : List Nat) k p q, sets[i]? = some S → (k, p, q) ∈ ways → k ≤ i → p ∈ S → q ∈ S
section
variable {n h : Nat} {rd : List (Nat × Nat)} {s : List (Option Nat)} {sets : List (List Nat)} {ways : List Way} {S : List Nat}
theorem Pk.key_le (P : Pk n h rd s sets ways) {k p q : Nat} (hm : (k, p, q) ∈ ways) : k ≤ sets.length := by
  rcases P.kind k p q hm with ⟨rfl, _⟩ | ⟨i, S, rfl, hi, _⟩
  · exact Nat.zero_le _
  · exact (List.getElem?_eq_some_iff.mp hi).1
theorem snoc_get {α : Type} {l : List α} {x y : α} {i : Nat} (h : (l ++ [x])[i]? = some y) : l[i]? = some y ∨ (i = l.length ∧ x = y) := by
  by_cases c : i < l.length
  · rw [List.getElem?_append_left c] at h; exact .inl h
  · rw [List.getElem?_append_right (by omega)] at h
    have h0 : i - l.length = 0 := by
      have := (List.getElem?_eq_some_iff.mp h).1
      simp at this; omega
    rw [h0] at h
    exact .inr ⟨by omega, by simpa using h⟩
theorem Pk.start (ways : List Way) (hw : ∀ k p q, (k, p, q) ∈ ways ↔ k = 0 ∧ nx s p = some q) : Pk n h rd s [] ways where
  kind := fun k p q hm => .inl ((hw k p q).mp hm)
  zero := fun p q e => (hw 0 p q).mpr ⟨rfl, e⟩
  out := fun i S p q e => by simp at e
  ok := fun i S e => by simp at e
  join := fun i S p q e => by simp at e
  shut := fun i S k p q e => by simp at e
/-- one set more, from whose places ways lead to all of it and none out -/
theorem Pk.more (P : Pk n h rd s sets ways) (ok : SetOk n h S) (hj : ∀ p q, p ∈ S → q ∈ S → RT (Ea ways) p q) (hs : ∀ p q, Ea ways p q → p ∈ S → q ∈ S) : Pk n h rd s (sets ++ [S]) (ways ++ (outOf rd S).map fun r => (sets.length + 1, r.1, r.2)) := by
  have mem : ∀ k p q, (k, p, q) ∈ ways ++ (outOf rd S).map (fun r => (sets.length + 1, r.1, r.2)) ↔ (k, p, q) ∈ ways ∨ (k = sets.length + 1 ∧ (p, q) ∈ outOf rd S) := by
    intro k p q
    rw [List.mem_append, List.mem_map]
    constructor
    · rintro (h | ⟨⟨a, b⟩, h1, h2⟩)
      · exact .inl h
      · injection h2 with h2 h3
        injection h3 with h3 h4
        exact .inr ⟨h2.symm, by rw [← h3, ← h4]; exact h1⟩
    · rintro (h | ⟨rfl, h⟩)
      · exact .inl h
      · exact .inr ⟨(p, q), h, rfl⟩
  have at1 : ∀ {i T}, sets[i]? = some T → (sets ++ [S])[i]? = some T := fun {i T} e => by
    rw [List.getElem?_append_left (List.getElem?_eq_some_iff.mp e).1]; exact e
  refine ⟨fun k p q hm => ?_, fun p q e => (mem _ _ _).mpr (.inl (P.zero p q e)), fun i T p q e h1 h2 h3 => ?_, fun i T e => ?_, fun i T p q e h1 h2 => ?_, fun i T k p q e hm hk hp => ?_⟩
  · rcases (mem k p q).mp hm with hm | ⟨ek, hm'⟩
    · rcases P.kind k p q hm with z | ⟨i, T, h1, h2, h3⟩
      · exact .inl z
      · exact .inr ⟨i, T, h1, at1 h2, h3⟩
    · exact .inr ⟨sets.length, S, ek, by simp, mem_outOf.mp hm'⟩
  · rcases snoc_get e with e | ⟨rfl, rfl⟩
    · exact (mem _ _ _).mpr (.inl (P.out i T p q e h1 h2 h3))
    · exact (mem _ _ _).mpr (.inr ⟨rfl, mem_outOf.mpr ⟨h1, h2, h3⟩⟩)
  · rcases snoc_get e with e | ⟨rfl, rfl⟩
    · exact P.ok i T e
    · exact ok
  · rcases snoc_get e with e | ⟨rfl, rfl⟩
    · exact (P.join i T p q e h1 h2).mono fun a b ⟨k, hk, hm⟩ => ⟨k, hk, (mem _ _ _).mpr (.inl hm)⟩
    · exact (hj p q h1 h2).mono fun a b ⟨k, hm⟩ => ⟨k, by have := P.key_le hm; omega, (mem _ _ _).mpr (.inl hm)⟩
  · rcases snoc_get e with e | ⟨rfl, rfl⟩
    · rcases (mem k p q).mp hm with hm | ⟨rfl, hm⟩
      · exact P.shut i T k p q e hm hk hp
      · have := (List.getElem?_eq_some_iff.mp e).1
        omega
    · rcases (mem k p q).mp hm with hm | ⟨rfl, hm⟩
      · exact hs p q ⟨k, hm⟩ hp
      · omega
/-- no road leaves two of the sets -/
theorem Pk.no_two (P : Pk n h rd s sets ways) {i j : Nat} {S T : List Nat} {p q : Nat} (hi : sets[i]? = some S) (hj : sets[j]? = some T) (hr : (p, q) ∈ rd) (h1 : p ∈ S) (h2 : q ∉ S) (h3 : p ∈ T) (h4 : q ∉ T) : i = j := by
  rcases Nat.lt_trichotomy i j with c | c | c
  · exact absurd (P.shut j T (i + 1) p q hj (P.out i S p q hi hr h1 h2) c h3) h4
  · exact c
  · exact absurd (P.shut i S (j + 1) p q hi (P.out j T p q hj hr h3 h4) c h1) h2
/-- no sign leads out of a set -/
theorem Pk.kept (P : Pk n h rd s sets ways) {i : Nat} {S : List Nat} {p q : Nat} (hi : sets[i]? = some S) (hp : p ∈ S) (e : nx s p = some q) : q ∈ S := P.shut i S 0 p q hi (P.zero p q e) (Nat.zero_le _) hp
end

/-! ### homeward -/
def ltN (a b : Way) : Bool := if a.1 = b.1 then (if a.2.1 = b.2.1 then decide (a.2.2 < b.2.2) else decide (a.2.1 < b.2.1)) else decide (a.1 < b.1)
structure Hw (n h : Nat) (ways : List Way) (t : List (Option Nat)) (near picks : List Way) : Prop where
  len : t.length = n
  pk : ∀ p q, nx t p = some q ↔ ∃ k, (k, p, q) ∈ picks
  sub : ∀ w ∈ picks, w ∈ ways
  home : nx t h = none
  come : ∀ p q, nx t p = some q → Reach t h p
  all : ∀ w ∈ ways, (w.2.2 = h ∨ nx t w.2.2 ≠ none) → nx t w.2.1 = none → w ∈ near
  near_ : ∀ w ∈ near, w ∈ ways ∧ (w.2.2 = h ∨ nx t w.2.2 ≠ none)
  nd : (picks.map fun w => w.2.1).Nodup
  keys : ((picks.filter fun w => decide (1 ≤ w.1)).map fun w => w.1).Nodup
section
variable {n h : Nat} {rd : List (Nat × Nat)} {s t : List (Option Nat)} {sets : List (List Nat)} {ways near picks : List Way} {S : List Nat}
theorem nx_rep (n p : Nat) : nx (List.replicate n none) p = none := by
  unfold nx
  rw [List.getElem?_replicate]
  split <;> rfl
theorem Hw.start (hn : ∀ w, w ∈ near ↔ w ∈ ways ∧ w.2.2 = h) : Hw n h ways (List.replicate n none) near [] where
  len := List.length_replicate
  pk := fun p q => by rw [nx_rep]; simp
  sub := fun w hw => by cases hw
  home := nx_rep _ _
  come := fun p q e => by rw [nx_rep] at e; cases e
  all := fun w hw h1 _ => (hn w).mpr ⟨hw, h1.elim id fun z => absurd (nx_rep _ _) z⟩
  near_ := fun w hw => ⟨((hn w).mp hw).1, .inl ((hn w).mp hw).2⟩
  nd := List.nodup_nil
  keys := List.nodup_nil
theorem nx_set (s : List (Option Nat)) (p : Nat) (o : Option Nat) (x : Nat) : nx (s.set p o) x = if p = x ∧ p < s.length then o else nx s x := by
  unfold nx
  rw [List.getElem?_set]
  by_cases c : p = x
  · subst c
    by_cases d : p < s.length
    · simp [d]
    · simp [d]
  · simp [c]
theorem orb_set {s : List (Option Nat)} {p : Nat} {o : Option Nat} (hp : nx s p = none) : ∀ (k a g : Nat), orb s a k = some g → orb (s.set p o) a k = some g
  | 0, a, g, e => e
  | k + 1, a, g, e => by
    rw [orb_succ'] at e ⊢
    cases c : nx s a with
    | none => rw [c] at e; cases e
    | some q =>
      rw [c] at e
      have : nx (s.set p o) a = some q := by
        rw [nx_set, if_neg]
        · exact c
        · rintro ⟨rfl, _⟩
          rw [hp] at c; cases c
      rw [this]
      exact orb_set hp k q g e
theorem Reach.set {s : List (Option Nat)} {p g a : Nat} {o : Option Nat} (hp : nx s p = none) (r : Reach s g a) : Reach (s.set p o) g a := by
  obtain ⟨k, e⟩ := r
  exact ⟨k, orb_set hp k a g e⟩
/-- a way whose start has its sign is dropped -/
theorem Hw.skip (W : Hw n h ways t near picks) {w : Way} {near' : List Way} (hp : near.Perm (w :: near')) (hs : nx t w.2.1 ≠ none) : Hw n h ways t near' picks :=
  { W with
    all := fun v hv h1 h2 => by
      have := hp.mem_iff.mp (W.all v hv h1 h2)
      rcases List.mem_cons.mp this with rfl | m
      · exact absurd h2 hs
      · exact m
    near_ := fun v hv => W.near_ v (hp.mem_iff.mpr (List.mem_cons_of_mem _ hv)) }
/-- the least way gives its start a sign -/
theorem Hw.take (P : Pk n h rd s sets ways) (hh : ∀ k q, (k, h, q) ∉ ways) (W : Hw n h ways t near picks) {w : Way} {near' near2 : List Way} (hp : near.Perm (w :: near')) (hs : nx t w.2.1 = none) (hlt : w.2.1 < n) (hmin : ∀ v ∈ near, ltN v w = false)
    (h2 : ∀ v, v ∈ near2 ↔ v ∈ near' ∨ (v ∈ ways ∧ v.2.2 = w.2.1)) : Hw n h ways (t.set w.2.1 (some w.2.2)) near2 (picks ++ [w]) := by
  obtain ⟨k, p, q⟩ := w
  have hs : nx t p = none := hs
  have hlt : p < n := hlt
  have hin : (k, p, q) ∈ near := hp.mem_iff.mpr List.mem_cons_self
  obtain ⟨hw, hq⟩ := W.near_ _ hin
  have hq : q = h ∨ nx t q ≠ none := hq
  have hph : p ≠ h := fun z => hh k q (by rw [← z]; exact hw)
  have hpl : p < t.length := by rw [W.len]; exact hlt
  have nxs : ∀ x, nx (t.set p (some q)) x = if p = x then some q else nx t x := fun x => by
    rw [nx_set]
    simp [hpl]
  have np : ∀ k' q', (k', p, q') ∉ picks := fun k' q' m => by
    have := (W.pk p q').mpr ⟨k', m⟩
    rw [hs] at this; cases this
  have pqr : Reach t h q := by
    rcases hq with rfl | c
    · exact reach_self t q
    · cases z : nx t q with
      | none => exact absurd z c
      | some y => exact W.come q y z
  refine ⟨by rw [List.length_set]; exact W.len, fun x y => ?_, fun v hv => ?_, ?_, fun x y e => ?_, fun v hv h1 h3 => ?_, fun v hv => ?_, ?_, ?_⟩
  · show nx (t.set p (some q)) x = some y ↔ _
    rw [nxs]
    by_cases c : p = x
    · subst c
      rw [if_pos rfl]
      constructor
      · intro e
        exact ⟨k, List.mem_append_right _ (by rw [← Option.some.inj e]; exact List.mem_singleton.mpr rfl)⟩
      · rintro ⟨k', m⟩
        rcases List.mem_append.mp m with m | m
        · exact absurd m (np k' y)
        · have := List.mem_singleton.mp m
          injection this with _ this
          injection this with _ this
          rw [this]
    · rw [if_neg c, W.pk]
      constructor
      · rintro ⟨k', m⟩; exact ⟨k', List.mem_append_left _ m⟩
      · rintro ⟨k', m⟩
        rcases List.mem_append.mp m with m | m
        · exact ⟨k', m⟩
        · have := List.mem_singleton.mp m
          injection this with _ this
          injection this with this _
          exact absurd this.symm c
  · rcases List.mem_append.mp hv with m | m
    · exact W.sub v m
    · rw [List.mem_singleton.mp m]; exact hw
  · show nx (t.set p (some q)) h = none
    rw [nxs, if_neg hph]; exact W.home
  · show Reach (t.set p (some q)) h x
    have e : nx (t.set p (some q)) x = some y := e
    rw [nxs] at e
    by_cases c : p = x
    · subst c
      exact reach_next (by rw [nxs, if_pos rfl]) (pqr.set hs)
    · rw [if_neg c] at e
      exact (W.come x y e).set hs
  · have h1 : v.2.2 = h ∨ nx (t.set p (some q)) v.2.2 ≠ none := h1
    have h3 : nx (t.set p (some q)) v.2.1 = none := h3
    rw [nxs] at h1 h3
    have c : p ≠ v.2.1 := fun c => by rw [if_pos c] at h3; cases h3
    rw [if_neg c] at h3
    by_cases d : p = v.2.2
    · exact (h2 v).mpr (.inr ⟨hv, d.symm⟩)
    · rw [if_neg d] at h1
      have := hp.mem_iff.mp (W.all v hv h1 h3)
      rcases List.mem_cons.mp this with rfl | m
      · exact absurd rfl c
      · exact (h2 v).mpr (.inl m)
  · show v ∈ ways ∧ (v.2.2 = h ∨ nx (t.set p (some q)) v.2.2 ≠ none)
    rw [nxs]
    rcases (h2 v).mp hv with m | ⟨m, e⟩
    · obtain ⟨z1, z2⟩ := W.near_ v (hp.mem_iff.mpr (List.mem_cons_of_mem _ m))
      refine ⟨z1, ?_⟩
      by_cases d : p = v.2.2
      · rw [if_pos d]; exact .inr (by simp)
      · rw [if_neg d]; exact z2
    · have e : v.2.2 = p := e
      exact ⟨m, .inr (by rw [if_pos e.symm]; simp)⟩
  · rw [List.map_append, List.nodup_append]
    refine ⟨W.nd, by simp, fun x hx y hy e => ?_⟩
    have hy : y = p := by simpa using hy
    obtain ⟨⟨k', x', q'⟩, m, e2⟩ := List.mem_map.mp hx
    have e2 : x' = x := e2
    subst e2
    rw [e, hy] at m
    exact np k' q' m
  · rw [List.filter_append, List.map_append, List.nodup_append]
    refine ⟨W.keys, by by_cases c : 1 ≤ k <;> simp [c], fun x hx y hy e => ?_⟩
    by_cases c : 1 ≤ k
    · have hy : y = k := by simpa [c] using hy
      obtain ⟨⟨k', p', q'⟩, m, e2⟩ := List.mem_map.mp hx
      have m := (List.mem_filter.mp m).1
      have e2 : k' = x := e2
      have ek : k' = k := by omega
      subst ek
      have m2 := W.sub _ m
      rcases P.kind k' p' q' m2 with ⟨z, _⟩ | ⟨i, T, e3, e4, e5, e6, e7⟩
      · omega
      · rcases P.kind k' p q hw with ⟨z, _⟩ | ⟨i', T', f3, f4, f5, f6, f7⟩
        · omega
        · have : i = i' := by omega
          subst this
          rw [e4] at f4
          have eT := Option.some.inj f4
          subst eT
          have path := P.join i T p p' e4 f6 e6
          have sg : nx t p' ≠ none := by
            rw [(W.pk p' q').mpr ⟨k', m⟩]; simp
          obtain ⟨x1, y1, ⟨k1, hk1, hm1⟩, g1, g2, _⟩ := path.cross (G := fun x => nx t x ≠ none) (fun z => z hs) sg
          have g1' : nx t x1 = none := Classical.byContradiction g1
          have inn := W.all (k1, x1, y1) hm1 (.inr g2) g1'
          have := hmin _ inn
          unfold ltN at this
          rw [if_neg (show ¬ k1 = k' by omega)] at this
          simp at this
          omega
    · simp [c] at hy
/-- all the rest: where nothing is near, all have signs by which they come home -/
theorem Hw.done (W : Hw n h ways t [] picks) {p : Nat} (r : RT (Ea ways) p h) (hp : p ≠ h) : nx t p ≠ none := by
  intro z
  obtain ⟨x, y, ⟨k, hm⟩, g1, g2, _⟩ := r.cross (G := fun x => x = h ∨ nx t x ≠ none) (by
    rintro (c | c)
    · exact hp c
    · exact c z) (.inl rfl)
  have h2 : nx t x = none := Classical.byContradiction fun c => g1 (.inr c)
  have := W.all (k, x, y) hm g2 h2
  cases this
end

/-- what is told where all can come home -/
structure TurnedOk (n h : Nat) (rd : List (Nat × Nat)) (s t : List (Option Nat)) (sets : List (List Nat)) : Prop where
  len : t.length = n
  home : nx t h = none
  along : ∀ p q, nx t p = some q → (p, q) ∈ rd
  come : ∀ p, p < n → Reach t h p
  ok : ∀ S ∈ sets, SetOk n h S
  kept : ∀ S ∈ sets, ∀ p q, p ∈ S → nx s p = some q → q ∈ S
  two : ∀ (i j : Nat) (S T : List Nat) (p q : Nat), sets[i]? = some S → sets[j]? = some T → (p, q) ∈ rd → p ∈ S → q ∉ S → p ∈ T → q ∉ T → i = j
  many : ((List.range n).filter fun p => decide (nx t p ≠ nx s p)).length = sets.length
structure ShutOk (n h : Nat) (rd : List (Nat × Nat)) (S : List Nat) : Prop where
  ok : SetOk n h S
  out : ∀ p q, (p, q) ∈ rd → p ∈ S → q ∈ S
theorem nodup_len_le {α : Type} [DecidableEq α] : ∀ {l m : List α}, l.Nodup → (∀ x ∈ l, x ∈ m) → l.length ≤ m.length
  | [], m, _, _ => Nat.zero_le _
  | a :: l, m, hn, h => by
    have hn' := List.nodup_cons.mp hn
    have ha := h a List.mem_cons_self
    have ih := nodup_len_le (m := m.erase a) hn'.2 fun x hx => (List.mem_erase_of_ne (fun z => hn'.1 (by rw [← z]; exact hx))).mpr (h x (List.mem_cons_of_mem _ hx))
    have := List.length_erase_of_mem ha
    have hp : 0 < m.length := List.length_pos_of_mem ha
    rw [List.length_cons]
    omega
section
variable {n h : Nat} {rd : List (Nat × Nat)} {s t : List (Option Nat)} {sets : List (List Nat)} {ways near picks : List Way} {S : List Nat}
theorem reach_leaves {s : List (Option Nat)} {g p : Nat} {S : List Nat} (r : Reach s g p) (hp : p ∈ S) (hg : g ∉ S) : ∃ a b, a ∈ S ∧ nx s a = some b ∧ b ∉ S := by
  obtain ⟨k, e⟩ := r
  induction k generalizing p with
  | zero => exact absurd hp (by rw [Option.some.inj e]; exact hg)
  | succ k ih =>
    rw [orb_succ'] at e
    cases c : nx s p with
    | none => rw [c] at e; cases e
    | some q =>
      rw [c] at e
      by_cases d : q ∈ S
      · exact ih d e
      · exact ⟨p, q, hp, c, d⟩
theorem Hw.turned (P : Pk n h rd s sets ways) (W : Hw n h ways t [] picks) (sl : s.length = n) (sa : ∀ p q, nx s p = some q → (p, q) ∈ rd) (sh : nx s h = none) (hr : ∀ p, p < n → RT (Ea ways) p h) : TurnedOk n h rd s t sets := by
  have sig : ∀ p, p < n → p ≠ h → ∃ q, nx t p = some q := fun p hp hne => by
    cases c : nx t p with
    | none => exact absurd c (W.done (hr p hp) hne)
    | some q => exact ⟨q, rfl⟩
  have come : ∀ p, p < n → Reach t h p := fun p hp => by
    by_cases c : p = h
    · rw [c]; exact reach_self t h
    · obtain ⟨q, e⟩ := sig p hp c
      exact W.come p q e
  have mem_at : ∀ S ∈ sets, ∃ i, sets[i]? = some S := fun S hS => List.getElem?_of_mem hS
  refine ⟨W.len, W.home, fun p q e => ?_, come, fun S hS => ?_, fun S hS p q hp e => ?_, fun i j S T p q h1 h2 h3 h4 h5 h6 h7 => P.no_two h1 h2 h3 h4 h5 h6 h7, ?_⟩
  · obtain ⟨k, m⟩ := (W.pk p q).mp e
    rcases P.kind k p q (W.sub _ m) with ⟨_, z⟩ | ⟨i, S, _, _, z, _⟩
    · exact sa p q z
    · exact z
  · obtain ⟨i, hi⟩ := mem_at S hS
    exact P.ok i S hi
  · obtain ⟨i, hi⟩ := mem_at S hS
    exact P.kept hi hp e
  · -- the picks with a key of a set, by their starts
    have pn : ∀ k p q, (k, p, q) ∈ picks → p < n := fun k p q m => by
      have := (W.pk p q).mpr ⟨k, m⟩
      rw [← W.len]; exact nx_lt this
    have dif : ∀ k p q, (k, p, q) ∈ picks → (nx t p ≠ nx s p ↔ 1 ≤ k) := fun k p q m => by
      rw [(W.pk p q).mpr ⟨k, m⟩]
      rcases P.kind k p q (W.sub _ m) with ⟨rfl, z⟩ | ⟨i, S, rfl, hi, z1, z2, z3⟩
      · rw [z]; simp
      · constructor
        · intro _; omega
        · intro _ e
          exact z3 (P.kept hi z2 e.symm)
    have e1 : ((List.range n).filter fun p => decide (nx t p ≠ nx s p)).length = ((picks.filter fun w => decide (1 ≤ w.1)).map fun w => w.2.1).length := by
      have nd1 : ((List.range n).filter fun p => decide (nx t p ≠ nx s p)).Nodup := List.Sublist.nodup List.filter_sublist List.nodup_range
      have nd2 : ((picks.filter fun w => decide (1 ≤ w.1)).map fun w => w.2.1).Nodup := List.Sublist.nodup (List.Sublist.map _ List.filter_sublist) W.nd
      have hm : ∀ x, x ∈ (List.range n).filter (fun p => decide (nx t p ≠ nx s p)) ↔ x ∈ (picks.filter fun w => decide (1 ≤ w.1)).map fun w => w.2.1 := fun x => by
        rw [List.mem_filter, List.mem_range, List.mem_map, decide_eq_true_iff]
        constructor
        · rintro ⟨h1, h2⟩
          by_cases c : x = h
          · rw [c, W.home, sh] at h2
            exact absurd rfl h2
          · obtain ⟨q, e⟩ := sig x h1 c
            obtain ⟨k, m⟩ := (W.pk x q).mp e
            exact ⟨(k, x, q), List.mem_filter.mpr ⟨m, decide_eq_true ((dif k x q m).mp h2)⟩, rfl⟩
        · rintro ⟨⟨k, p, q⟩, m, rfl⟩
          obtain ⟨m1, m2⟩ := List.mem_filter.mp m
          exact ⟨pn k p q m1, (dif k p q m1).mpr (of_decide_eq_true m2)⟩
      exact Nat.le_antisymm (nodup_len_le nd1 fun x hx => (hm x).mp hx) (nodup_len_le nd2 fun x hx => (hm x).mpr hx)
    rw [e1, List.length_map]
    have e2 : (picks.filter fun w => decide (1 ≤ w.1)).length = ((picks.filter fun w => decide (1 ≤ w.1)).map fun w => w.1).length := by rw [List.length_map]
    rw [e2]
    have hm : ∀ x, x ∈ (picks.filter fun w => decide (1 ≤ w.1)).map (fun w => w.1) ↔ x ∈ (List.range sets.length).map (· + 1) := fun x => by
      rw [List.mem_map, List.mem_map]
      constructor
      · rintro ⟨⟨k, p, q⟩, m, rfl⟩
        obtain ⟨m1, m2⟩ := List.mem_filter.mp m
        have hk := of_decide_eq_true m2
        have hle := P.key_le (W.sub _ m1)
        exact ⟨k - 1, List.mem_range.mpr (by show k - 1 < sets.length; have hk : 1 ≤ k := hk; omega), by show k - 1 + 1 = k; have hk : 1 ≤ k := hk; omega⟩
      · rintro ⟨i, hi, rfl⟩
        rw [List.mem_range] at hi
        have eS := List.getElem?_eq_getElem hi
        generalize sets[i] = S at eS
        have O := P.ok i S eS
        obtain ⟨p0, hp0⟩ : ∃ p, p ∈ S := by
          cases S with
          | nil => exact absurd rfl O.ne
          | cons a l => exact ⟨a, List.mem_cons_self⟩
        obtain ⟨a, b, ha, e, hb⟩ := reach_leaves (come p0 (O.lt p0 hp0)) hp0 O.home
        obtain ⟨k, m⟩ := (W.pk a b).mp e
        rcases P.kind k a b (W.sub _ m) with ⟨_, z⟩ | ⟨j, T, rfl, hj, z1, z2, z3⟩
        · exact absurd (P.kept eS ha z) hb
        · have := P.no_two eS hj z1 ha hb z2 z3
          subst this
          exact ⟨(i + 1, a, b), List.mem_filter.mpr ⟨m, by simp⟩, rfl⟩
    have nd3 : ((List.range sets.length).map (· + 1)).Nodup := by
      rw [List.nodup_iff_pairwise_ne, List.pairwise_map]
      exact List.Pairwise.imp (fun hab => by omega) (List.pairwise_lt_range)
    have l1 := nodup_len_le W.keys fun x hx => (hm x).mp hx
    have l2 := nodup_len_le nd3 fun x hx => (hm x).mpr hx
    simp only [List.length_map, List.length_range] at l1 l2 ⊢
    exact Nat.le_antisymm l1 l2
/-- no signs by which all come home turn fewer -/
theorem TurnedOk.fewest {t' : List (Option Nat)} (T : TurnedOk n h rd s t sets) (along : ∀ p q, nx t' p = some q → (p, q) ∈ rd) (come : ∀ p, p < n → Reach t' h p) : sets.length ≤ ((List.range n).filter fun p => decide (nx t' p ≠ nx s p)).length := by
  -- from each set a place whose sign leads out
  have ex : ∀ i, i < sets.length → ∃ a, ∃ (S : List Nat) (b : Nat), sets[i]? = some S ∧ a ∈ S ∧ nx t' a = some b ∧ b ∉ S := fun i hi => by
    have eS := List.getElem?_eq_getElem hi
    have hm := List.getElem_mem hi
    generalize sets[i] = S at eS hm
    have O := T.ok S hm
    obtain ⟨p0, hp0⟩ : ∃ p, p ∈ S := by
      cases S with
      | nil => exact absurd rfl O.ne
      | cons a l => exact ⟨a, List.mem_cons_self⟩
    obtain ⟨a, b, ha, e, hb⟩ := reach_leaves (come p0 (O.lt p0 hp0)) hp0 O.home
    exact ⟨a, S, b, eS, ha, e, hb⟩
  have fn : ∃ f : Nat → Nat, ∀ i, i < sets.length → ∃ (S : List Nat) (b : Nat), sets[i]? = some S ∧ f i ∈ S ∧ nx t' (f i) = some b ∧ b ∉ S :=
    ⟨fun i => if hi : i < sets.length then Classical.choose (ex i hi) else 0, fun i hi => by simp only [dif_pos hi]; exact Classical.choose_spec (ex i hi)⟩
  obtain ⟨f, hf⟩ := fn
  have nd : ((List.range sets.length).map f).Nodup := by
    rw [List.nodup_iff_pairwise_ne, List.pairwise_map]
    refine List.Pairwise.imp_of_mem ?_ (List.pairwise_lt_range (n := sets.length))
    intro i j hi hj hij e
    rw [List.mem_range] at hi hj
    obtain ⟨S, b, h1, h2, h3, h4⟩ := hf i hi
    obtain ⟨S', b', g1, g2, g3, g4⟩ := hf j hj
    rw [e, g3] at h3
    have eb := Option.some.inj h3
    subst eb
    rw [e] at h2
    have := T.two i j S S' (f j) b' h1 g1 (along _ _ g3) h2 h4 g2 g4
    omega
  have := nodup_len_le (m := (List.range n).filter fun p => decide (nx t' p ≠ nx s p)) nd fun x hx => by
    obtain ⟨i, hi, rfl⟩ := List.mem_map.mp hx
    obtain ⟨S, b, h1, h2, h3, h4⟩ := hf i (List.mem_range.mp hi)
    have hS := List.mem_of_getElem? h1
    rw [List.mem_filter, List.mem_range, decide_eq_true_iff]
    refine ⟨(T.ok S hS).lt _ h2, fun z => h4 (T.kept S hS (f i) b h2 (by rw [← z]; exact h3))⟩
  rwa [List.length_map, List.length_range] at this
/-- who stands in shut places never comes home -/
theorem ShutOk.never (U : ShutOk n h rd S) {p : Nat} (along : ∀ p q, nx t p = some q → (p, q) ∈ rd) (hp : p ∈ S) : ¬ Reach t h p := fun r => by
  obtain ⟨a, b, ha, e, hb⟩ := reach_leaves r hp U.ok.home
  exact hb (U.out a b (along a b e) ha)
end
end Sg

/-! Who comes by a place; a sign lost. -/
namespace Sg
section
variable {s : List (Option Nat)} {g p q x : Nat}
theorem reach_trans {a b c : Nat} (h1 : Reach s b a) (h2 : Reach s c b) : Reach s c a := by
  obtain ⟨k, e⟩ := h1
  obtain ⟨m, e2⟩ := h2
  exact ⟨k + m, by rw [orb_add, e]; exact e2⟩
theorem orb_none (hg : nx s g = none) : ∀ k, 0 < k → orb s g k = none
  | k + 1, _ => by rw [orb_succ', hg]; rfl
/-- who comes to g and to p comes to p first -/
theorem reach_split (hg : nx s g = none) (r : Reach s g q) (r2 : Reach s p q) : Reach s g p := by
  obtain ⟨k, e⟩ := r
  obtain ⟨m, e2⟩ := r2
  by_cases c : m ≤ k
  · have : k = m + (k - m) := by omega
    rw [this, orb_add, e2] at e
    exact ⟨_, e⟩
  · have : m = k + (m - k) := by omega
    rw [this, orb_add, e] at e2
    have e2' : orb s g (m - k) = some p := e2
    rw [orb_none hg _ (by omega)] at e2'
    cases e2'
theorem orb_avoid {o : Option Nat} : ∀ (k x a : Nat), ¬ Reach s p x → orb s x k = some a → orb (s.set p o) x k = some a
  | 0, x, a, _, e => e
  | k + 1, x, a, h, e => by
    rw [orb_succ'] at e ⊢
    cases c : nx s x with
    | none => rw [c] at e; cases e
    | some q =>
      rw [c] at e
      have hx : p ≠ x := fun z => h (by rw [z]; exact reach_self s x)
      have : nx (s.set p o) x = some q := by
        rw [nx_set, if_neg (fun z => hx z.1)]
        exact c
      rw [this]
      exact orb_avoid k q a (fun z => h (reach_next c z)) e
theorem reach_avoid {o : Option Nat} (h : ¬ Reach s p x) (r : Reach s g x) : Reach (s.set p o) g x := by
  obtain ⟨k, e⟩ := r
  exact ⟨k, orb_avoid k x g h e⟩
theorem not_back (hg : nx s g = none) (hpg : p ≠ g) : ¬ Reach s p g := by
  rintro ⟨k, e⟩
  cases k with
  | zero => exact hpg (Option.some.inj e).symm
  | succ k => rw [orb_none hg _ (by omega)] at e; cases e
/-- with the sign at p lost -/
theorem lost_iff (hg : nx s g = none) (hpg : p ≠ g) (hp : p < s.length) (r : Reach s g x) : Reach (s.set p none) g x ↔ ¬ Reach s p x := by
  constructor
  · intro r' h
    refine reach_closed (S := fun y => Reach s p y) (not_back hg hpg) (fun y z hy e => ?_) h r'
    rw [nx_set] at e
    by_cases c : p = y
    · rw [if_pos ⟨c, hp⟩] at e; cases e
    · rw [if_neg (fun z => c z.1)] at e
      obtain ⟨q, e1, e2⟩ := reach_of hy (fun z => c z.symm)
      rw [e] at e1
      cases e1
      exact e2
  · exact fun h => reach_avoid h r
/-- what a walk comes by -/
theorem IsWalk.reach_mem {way : List Nat} {b : Option Nat} (W : IsWalk s q way b) : Reach s p q ↔ p ∈ way := by
  have step : ∀ a ∈ way, ∀ c, nx s a = some c → c ∈ way := by
    intro a ha c hc
    obtain ⟨i, hi, e⟩ := List.getElem_of_mem ha
    have e' : way[i]? = some a := by rw [List.getElem?_eq_getElem hi, e]
    by_cases d : i + 1 < way.length
    · have := W.step i a _ e' (List.getElem?_eq_getElem d)
      rw [hc] at this
      rw [Option.some.inj this]; exact List.getElem_mem d
    · have hi2 : i = way.length - 1 := by omega
      rw [hi2] at e'
      have := W.last a e'
      rw [hc] at this
      cases b with
      | none => cases this
      | some j => exact List.mem_of_getElem? this.symm
  constructor
  · rintro ⟨k, e⟩
    have key : ∀ k x, Sg.orb s q k = some x → x ∈ way := by
      intro k
      induction k with
      | zero => intro x e; rw [← Option.some.inj e]; exact List.mem_of_getElem? W.head
      | succ k ih =>
        intro x e
        have e : (Sg.orb s q k).bind (nx s) = some x := e
        cases c : Sg.orb s q k with
        | none => rw [c] at e; cases e
        | some y => rw [c] at e; exact step y (ih y c) x e
    exact key k p e
  · intro h
    obtain ⟨i, hi, e⟩ := List.getElem_of_mem h
    exact ⟨i, by rw [W.orb i hi, List.getElem?_eq_getElem hi, e]⟩
theorem set_same (h : nx s p = none) : ∀ y, nx (s.set p none) y = nx s y := fun y => by
  rw [nx_set]
  split
  · rename_i c; rw [← c.1, h]
  · rfl
theorem orb_same {t : List (Option Nat)} (h : ∀ y, nx t y = nx s y) : ∀ k x, orb t x k = orb s x k
  | 0, x => rfl
  | k + 1, x => by
    show (orb t x k).bind (nx t) = (orb s x k).bind (nx s)
    rw [orb_same h k x]
    cases orb s x k with
    | none => rfl
    | some y => exact h y
theorem reach_same {t : List (Option Nat)} (h : ∀ y, nx t y = nx s y) : Reach t g x ↔ Reach s g x := by
  unfold Reach
  simp only [orb_same h]
end
/-- one sign turned: one more or less -/
theorem dif_one {n p : Nat} {s s' t : List (Option Nat)} (h : ∀ y, y ≠ p → nx s' y = nx s y) : ((List.range n).filter fun y => decide (nx t y ≠ nx s' y)).length ≤ ((List.range n).filter fun y => decide (nx t y ≠ nx s y)).length + 1 := by
  have nd : ((List.range n).filter fun y => decide (nx t y ≠ nx s' y)).Nodup := List.Sublist.nodup List.filter_sublist List.nodup_range
  have := nodup_len_le (m := p :: (List.range n).filter fun y => decide (nx t y ≠ nx s y)) nd fun y hy => by
    by_cases c : y = p
    · rw [c]; exact List.mem_cons_self
    · refine List.mem_cons_of_mem _ ?_
      rw [List.mem_filter] at hy ⊢
      rw [← h y c]; exact hy
  simpa using this
theorem fewest_near {n h p : Nat} {rd : List (Nat × Nat)} {s s' t t' : List (Option Nat)} {ls ls' : List (List Nat)} (T : TurnedOk n h rd s t ls) (T' : TurnedOk n h rd s' t' ls') (e : ∀ y, y ≠ p → nx s' y = nx s y) : ls'.length ≤ ls.length + 1 := by
  have h1 := T'.fewest T.along T.come
  have h2 := dif_one (n := n) (t := t) e
  have h3 := T.many
  omega
end Sg

/-! Sets of tuples of whole numbers, of up to 300 members: made of a list, asked by in and not in. -/
namespace Big
open PySem PySem.Spec PyProof.Rows L2

/-! ### masks whose step goes round all slots -/
def marks (m : Nat) : Nat → Nat → Nat → Nat
  | 0, _, acc => acc
  | n + 1, x, acc => marks m n ((x * 5 + 1) % (m + 1)) (acc ||| 2 ^ x)
theorem marks_bit (m j : Nat) : ∀ n k acc, (marks m n (lcgN m k) acc).testBit j = true → acc.testBit j = true ∨ ∃ b, k ≤ b ∧ b < k + n ∧ lcgN m b = j
  | 0, k, acc, h => .inl h
  | n + 1, k, acc, h => by
    rcases marks_bit m j n (k + 1) _ h with h1 | ⟨b, h1, h2, h3⟩
    · rw [Nat.testBit_or, Nat.testBit_two_pow, Bool.or_eq_true, decide_eq_true_eq] at h1
      rcases h1 with h1 | h1
      · exact .inl h1
      · exact .inr ⟨k, Nat.le_refl _, by omega, h1⟩
    · exact .inr ⟨b, by omega, by omega, h3⟩
structure Lap (m : Nat) : Prop where
  back : lcgN m (m + 1) = 0
  full : marks m (m + 1) 0 0 = 2 ^ (m + 1) - 1
  odd : m % 2 = 1
  one : m = 7 ∨ m = 31 ∨ m = 127 ∨ m = 511
theorem Lap.le {m : Nat} (R : Lap m) : m ≤ 511 := by
  have := R.one
  omega
theorem masks {m : Nat} (R : Lap m) : m = 7 ∨ m = 31 ∨ m = 127 ∨ m = 511 := R.one
theorem lap7 : Lap 7 := ⟨by decide +kernel, by decide +kernel, rfl, by decide⟩
theorem lap31 : Lap 31 := ⟨by decide +kernel, by decide +kernel, rfl, by decide⟩
theorem lap127 : Lap 127 := ⟨by decide +kernel, by decide +kernel, rfl, by decide⟩
theorem lap511 : Lap 511 := ⟨by decide +kernel, by decide +kernel, rfl, by decide⟩
section
variable {m : Nat}
theorem Lap.all (R : Lap m) {j : Nat} (h : j ≤ m) : ∃ b, b ≤ m ∧ lcgN m b = j := by
  have key : (marks m (m + 1) (lcgN m 0) 0).testBit j = true := by
    show (marks m (m + 1) 0 0).testBit j = true
    rw [R.full, Nat.testBit_two_pow_sub_one]
    exact decide_eq_true (by omega)
  rcases marks_bit m j _ _ _ key with h1 | ⟨b, _, h2, h3⟩
  · rw [Nat.zero_testBit] at h1; cases h1
  · exact ⟨b, by omega, h3⟩
theorem Lap.again (R : Lap m) : ∀ k, lcgN m (m + 1 + k) = lcgN m k := by
  intro k
  induction k with
  | zero => exact R.back
  | succ k ih =>
    have e : lcgN m (m + 1 + (k + 1)) = (lcgN m (m + 1 + k) * 5 + 1) % (m + 1) := rfl
    rw [e, ih]
    rfl
theorem Lap.far (R : Lap m) {i j : Nat} (hi : i ≤ m) (hj : j ≤ m) : ∃ k, k ≤ m ∧ lcgI m i k = j := by
  obtain ⟨a, ha, rfl⟩ := R.all hi
  obtain ⟨b, hb, rfl⟩ := R.all hj
  by_cases c : a ≤ b
  · refine ⟨b - a, by omega, ?_⟩
    have := lcgN_add m a (b - a)
    rw [this]
    congr 1; omega
  · refine ⟨b + (m + 1) - a, by omega, ?_⟩
    have := lcgN_add m a (b + (m + 1) - a)
    rw [this, ← R.again b]
    congr 1; omega
theorem Lap.run (R : Lap m) (h : Int) {j : Nat} (hj : j ≤ m) : ∃ n, n ≤ m + 12 ∧ runI m (SetTable.bits h) n = j := by
  obtain ⟨k, hk, e⟩ := R.far (runI_le m (SetTable.bits h) 12) hj
  refine ⟨12 + k, by omega, ?_⟩
  rw [← e]
  exact runI_tail (bits_lt h) k
theorem Lap.met (R : Lap m) (h : Int) {j : Nat} (hj : j ≤ m) : ∃ k, k < 10 * SetTable.turns m ∧ way m h k = j := by
  obtain ⟨n, hn, e⟩ := R.run h hj
  obtain ⟨k, hk, e2⟩ := run_nth m (SetTable.bits h) n
  have ht : SetTable.turns m = m + 15 := rfl
  refine ⟨k, by omega, ?_⟩
  show (nth m (runAt m (SetTable.bits h % (m + 1)) (SetTable.bits h)) k).j = j
  rw [e2]; exact e
end
theorem wayLe (m : Nat) (h : Int) (k : Nat) : way m h k ≤ m := by
  have small : SetTable.bits h % (m + 1) ≤ m := Nat.le_of_lt_succ (Nat.mod_lt _ (Nat.succ_pos m))
  unfold way
  generalize SetTable.bits h % (m + 1) = i at small
  have r := runEnd_bd small
  have q := nth_in (m := m) k (runAt m i (SetTable.bits h)) (by
    show i + (SetTable.runEnd m i - i) ≤ m
    omega)
  exact Nat.le_trans (Nat.le_add_right _ _) q

/-! ### a table that finds again what it holds -/
structure Tab (t : SetTable) (hs : List Int) : Prop where
  ris : Ris t.place.toList
  bare : t.dummies = #[]
  size : t.place.size = hs.length
  lap : Lap t.mask
  lim : ∀ x ∈ t.place.toList, x ≤ t.mask
  find : ∀ (i : Nat) (h : Int) (j : Nat), hs[i]? = some h → t.place.toList[i]? = some j → ∃ k, way t.mask h k = j ∧ ∀ q, q < k → way t.mask h q ∈ t.place.toList
section
variable {t : SetTable} {hs : List Int}
theorem Tab.hole (T : Tab t hs) (hl : hs.length ≤ t.mask) (h : Int) : ∃ K, K < 10 * SetTable.turns t.mask ∧ way t.mask h K ∉ t.place.toList ∧ ∀ k, k < K → way t.mask h k ∈ t.place.toList := by
  obtain ⟨j, hj, hn⟩ := st_missing t.place.toList (t.mask + 1) (by rw [Array.length_toList, T.size]; omega)
  obtain ⟨k, hk, e⟩ := T.lap.met h (show j ≤ t.mask by omega)
  obtain ⟨K, h1, h2, h3⟩ := st_least (p := fun q => way t.mask h q ∉ t.place.toList) k (by rw [e]; exact hn)
  exact ⟨K, by omega, h2, fun q hq => Classical.byContradiction fun z => h3 q hq z⟩
theorem Tab.ahead (T : Tab t hs) {h : Int} {K i j : Nat} (hK : way t.mask h K ∉ t.place.toList) (hi : hs[i]? = some h) (hj : t.place.toList[i]? = some j) : ∃ k, k < K ∧ way t.mask h k = j := by
  obtain ⟨k, e, hb⟩ := T.find i h j hi hj
  refine ⟨k, Classical.byContradiction fun c => ?_, e⟩
  by_cases d : K = k
  · rw [d, e] at hK
    exact hK (List.mem_of_getElem? hj)
  · exact hK (hb K (by omega))
/-- one more, at the first hole of its way -/
theorem Tab.more (T : Tab t hs) {h : Int} {K : Nat} (hK : way t.mask h K ∉ t.place.toList) (hb : ∀ k, k < K → way t.mask h k ∈ t.place.toList) :
    ∃ p t1, t.put (way t.mask h K) = (t1, p) ∧ p ≤ hs.length ∧ Tab t1 (hs.take p ++ h :: hs.drop p) ∧ t1.mask = t.mask ∧ t1.led = t.led ∧ t1.plain = t.plain ∧ t1.fill = hs.length + 1 := by
  have hw := wayLe t.mask h K
  generalize ej : way t.mask h K = j at hK hw ⊢
  obtain ⟨c1, _, _⟩ := below_cut T.ris j
  have hlen : t.place.toList.length = hs.length := by rw [Array.length_toList]; exact T.size
  have hp1 : SetTable.below t.place j ≤ t.place.toList.length := by rw [Array.length_toList]; exact c1
  have hp2 : SetTable.below t.place j ≤ hs.length := by omega
  have hpl := put_place t j
  have hnew : t.place[SetTable.below t.place j]? ≠ some j := by
    intro e
    apply hK
    exact List.mem_of_getElem? (i := SetTable.below t.place j) (by rw [Array.getElem?_toList]; exact e)
  have hsz : (t.put j).1.place.size = hs.length + 1 := by
    rw [← Array.length_toList, hpl, len_ins _ hp1, hlen]
  have keep : ∀ x, x ∈ t.place.toList → x ∈ (t.put j).1.place.toList := by
    intro x hx
    rw [hpl]
    exact mem_ins.mpr (.inr hx)
  refine ⟨SetTable.below t.place j, (t.put j).1, rfl, hp2, ?_, rfl, rfl, rfl, ?_⟩
  · refine { ris := ris_insert T.ris hnew, bare := put_dm T.bare j, size := ?_, lap := T.lap, lim := ?_, find := ?_ }
    · rw [len_ins _ hp2]; exact hsz
    · intro x hx
      rw [hpl] at hx
      rcases mem_ins.mp hx with e | e
      · subst e; exact hw
      · exact T.lim x e
    · intro i h' j' e1 e2
      rw [tins_get hs hp2] at e1
      rw [hpl, tins_get _ hp1] at e2
      have old : ∀ i' : Nat, hs[i']? = some h' → t.place.toList[i']? = some j' → ∃ k, way t.mask h' k = j' ∧ ∀ q, q < k → way t.mask h' q ∈ (t.put j).1.place.toList := by
        intro i' a b
        obtain ⟨k, e, z⟩ := T.find i' h' j' a b
        exact ⟨k, e, fun q hq => keep _ (z q hq)⟩
      by_cases c : i < SetTable.below t.place j
      · rw [if_pos c] at e1 e2
        exact old i e1 e2
      · rw [if_neg c] at e1 e2
        by_cases d : i = SetTable.below t.place j
        · rw [if_pos d] at e1 e2
          cases e1; cases e2
          exact ⟨K, ej, fun q hq => keep _ (hb q hq)⟩
        · rw [if_neg d] at e1 e2
          exact old (i - 1) e1 e2
  · show (t.put j).1.place.size + (t.put j).1.dummies.size = _
    rw [hsz, put_dm T.bare j]
    rfl
end

/-! ### all laid anew -/
section
variable {m : Nat}
theorem Lap.room (R : Lap m) (owner : Array (Option Nat)) (h : Int) {j : Nat} (hj : j ≤ m) (hf : oAt owner j = none) :
    ∃ K, SetTable.layClean.free m owner (SetTable.turns m) (SetTable.bits h % (m + 1)) (SetTable.bits h) = some (way m h K) ∧ oAt owner (way m h K) = none ∧ ∀ k, k < K → oAt owner (way m h k) ≠ none := by
  obtain ⟨n, hn, e⟩ := R.run h hj
  have ht : SetTable.turns m = m + 15 := rfl
  have at_n : way m h (off m (SetTable.bits h % (m + 1)) (SetTable.bits h) n) = j := by
    unfold way
    rw [nth_off, itL_run]
    exact e
  obtain ⟨K, k1, k2, k3⟩ := st_least (p := fun q => oAt owner (way m h q) = none) _ (by rw [at_n]; exact hf)
  refine ⟨K, free_spec m owner _ n _ _ K (by omega) k1 (fun q hq => ?_) ?_, k2, k3⟩
  · cases z : oAt owner (way m h q) with
    | none => exact absurd z (k3 q hq)
    | some v => rfl
  · show (oAt owner (way m h K)).isNone = true
    rw [k2]
    rfl
theorem Lap.lay1 (R : Lap m) {done : List Int} {owner : Array (Option Nat)} (W : Own m done owner) (hl : done.length ≤ m) (h : Int) :
    ∃ j, SetTable.layClean.free m owner (SetTable.turns m) (SetTable.bits h % (m + 1)) (SetTable.bits h) = some j ∧ Own m (done ++ [h]) (owner.setIfInBounds j (some done.length)) := by
  obtain ⟨ps, hps, hin⟩ := W.ps
  obtain ⟨j0, h0, hn0⟩ := st_missing ps (m + 1) (by omega)
  have hfree : oAt owner j0 = none := Classical.byContradiction fun z => hn0 (hin j0 (by omega) z)
  obtain ⟨K, e1, e2, e3⟩ := R.room owner h (show j0 ≤ m by omega) hfree
  have hw := wayLe m h K
  generalize ej : way m h K = j at e1 e2 hw
  have self := oAt_set_self (owner := owner) (some done.length) (show j < owner.size by rw [W.sz]; omega)
  have grow : ∀ i, oAt owner i ≠ none → oAt (owner.setIfInBounds j (some done.length)) i ≠ none := by
    intro i hi
    by_cases c : i = j
    · subst c; exact absurd e2 hi
    · rw [oAt_set_ne _ c]; exact hi
  refine ⟨j, e1, { sz := ?_, at_ := ?_, all := ?_, ps := ⟨j :: ps, ?_, ?_⟩ }⟩
  · rw [Array.size_setIfInBounds, W.sz]
  · intro i k hi e
    by_cases c : i = j
    · subst c
      rw [self] at e
      cases e
      exact ⟨h, K, by simp, ej, fun q hq => grow _ (e3 q hq)⟩
    · rw [oAt_set_ne _ c] at e
      obtain ⟨h', K', a1, a2, a3⟩ := W.at_ i k hi e
      refine ⟨h', K', ?_, a2, fun q hq => grow _ (a3 q hq)⟩
      rw [List.getElem?_append_left (List.getElem?_eq_some_iff.mp a1).1, a1]
  · intro k hk
    rw [List.length_append, List.length_singleton] at hk
    by_cases c : k = done.length
    · subst c; exact ⟨j, hw, self⟩
    · obtain ⟨i, hi, e⟩ := W.all k (by omega)
      refine ⟨i, hi, ?_⟩
      rw [oAt_set_ne, e]
      intro z
      subst z
      rw [e2] at e; cases e
  · rw [List.length_cons, List.length_append, hps, List.length_singleton]
  · intro i hi e
    by_cases c : i = j
    · subst c; exact List.mem_cons_self
    · rw [oAt_set_ne _ c] at e
      exact List.mem_cons_of_mem _ (hin i hi e)
theorem Lap.lays (R : Lap m) : ∀ (rest done : List Int) (owner : Array (Option Nat)), Own m done owner → done.length + rest.length ≤ m →
    ∃ o2, rest.foldl (stepF m) (some (owner, done.length)) = some (o2, (done ++ rest).length) ∧ Own m (done ++ rest) o2 := by
  intro rest
  induction rest with
  | nil => intro done owner W _; exact ⟨owner, by simp, by simpa using W⟩
  | cons h rest ih =>
    intro done owner W hl
    rw [List.length_cons] at hl
    obtain ⟨j, e, W1⟩ := R.lay1 W (by omega) h
    obtain ⟨o2, f, W2⟩ := ih (done ++ [h]) _ W1 (by rw [List.length_append, List.length_singleton]; omega)
    have ea : done ++ [h] ++ rest = done ++ h :: rest := by simp
    rw [ea] at f W2
    refine ⟨o2, ?_, W2⟩
    rw [List.foldl_cons, stepF_some e, ← f, List.length_append, List.length_singleton]
theorem Lap.laid (R : Lap m) {hs : Array Int} (hn : hs.size ≤ m) : ∃ owner, SetTable.layClean m hs = some owner ∧ Own m hs.toList owner := by
  obtain ⟨owner, f, W⟩ := R.lays hs.toList [] _ (Own.init m) (by simpa using hn)
  refine ⟨owner, ?_, by simpa using W⟩
  rw [layClean_eq, show (some (Array.replicate (m + 1) (none : Option Nat), 0)) = some (Array.replicate (m + 1) (none : Option Nat), ([] : List Int).length) from rfl, f]
  rfl
theorem relaidG (t : SetTable) {hs : Array Int} {wanted M : Nat} (hw : SetTable.sizeAbove wanted - 1 = M) (R : Lap M) (hn : hs.size ≤ M) :
    ∃ t2 order, t.relaid hs wanted = some (t2, order) ∧ order.toList.Perm (List.range hs.size) ∧ Tab t2 (order.toList.map fun i => hs.getD i 0) ∧ t2.mask = M ∧ t2.led = t.led ∧ t2.plain = t.plain := by
  obtain ⟨owner, e, W⟩ := R.laid hn
  have fst_ris : Ris ((liveOf M owner).map (·.1)) := (ris_live (fun j => owner.getD j none) (List.range (M + 1)) (by unfold Ris; exact List.pairwise_lt_range)).1
  have fst_in : ∀ x ∈ (liveOf M owner).map (·.1), x ∈ List.range (M + 1) := (ris_live (fun j => owner.getD j none) (List.range (M + 1)) (by unfold Ris; exact List.pairwise_lt_range)).2
  have fst_nd : ((liveOf M owner).map (·.1)).Nodup := fst_ris.imp fun q => Nat.ne_of_lt q
  have got : ∀ k, k < hs.size → k ∈ (liveOf M owner).map (·.2) := by
    intro k hk
    obtain ⟨j, b1, b2⟩ := W.all k (by simpa using hk)
    exact List.mem_map.mpr ⟨(j, k), (mem_live W.sz).mpr ⟨b1, b2⟩, rfl⟩
  have hlen : (liveOf M owner).length = hs.size := by
    obtain ⟨ps, p1, p2⟩ := W.ps
    have up := nat_nodup_len _ ps fst_nd (by
      intro x hx
      obtain ⟨⟨y, k⟩, hq, rfl⟩ := List.mem_map.mp hx
      obtain ⟨b1, b2⟩ := (mem_live W.sz).mp hq
      exact p2 y b1 (by rw [b2]; simp))
    have dn := nat_nodup_len (List.range hs.size) ((liveOf M owner).map (·.2)) List.nodup_range fun k hk => got k (List.mem_range.mp hk)
    simp only [List.length_map, List.length_range] at up dn
    have : hs.toList.length = hs.size := rfl
    omega
  refine ⟨tabOf t M owner, ((liveOf M owner).map (·.2)).toArray, ?_, perm_range hs.size _ (by simpa using hlen) (by simpa using got), ?_, rfl, rfl, rfl⟩
  · rw [relaid_eq, hw, e]; rfl
  · refine { ris := fst_ris, bare := rfl, size := by simp [tabOf], lap := R, lim := fun x hx => ?_, find := ?_ }
    · have := List.mem_range.mp (fst_in x hx)
      show x ≤ M
      omega
    · intro i h j h1 h2
      have h2' : ((liveOf M owner).map (·.1))[i]? = some j := h2
      rw [List.getElem?_map] at h2'
      obtain ⟨⟨y, k⟩, hq, rfl⟩ := Option.map_eq_some_iff.mp h2'
      have h1' : (((liveOf M owner).map (·.2)).map fun i => hs.getD i 0)[i]? = some h := h1
      rw [List.getElem?_map, List.getElem?_map, hq] at h1'
      have eh : hs.getD k 0 = h := Option.some.inj h1'
      obtain ⟨b1, b2⟩ := (mem_live W.sz).mp (List.mem_of_getElem? hq)
      obtain ⟨h0, K, a1, a2, a3⟩ := W.at_ y k b1 b2
      have e0 : h0 = h := by
        rw [← eh, Array.getD_eq_getD_getElem?, ← Array.getElem?_toList, a1]
        rfl
      subst e0
      refine ⟨K, a2, fun q hq' => ?_⟩
      cases z : oAt owner (way M h0 q) with
      | none => exact absurd z (a3 q hq')
      | some k2 => exact List.mem_map.mpr ⟨(way M h0 q, k2), (mem_live W.sz).mpr ⟨wayLe M h0 q, z⟩, rfl⟩
end

/-! ### the set on the heap -/
section
variable {P : Program} {w : World} {A : Around} {E : Value → Shared → Prop} {s : Shared}
structure SetG (P : Program) (w : World) (h : Heap) (a : Addr) (L : List (Addr × List Int)) (es : Array (Int × Value)) (ep : Nat) (t : SetTable) : Prop where
  obj : ∃ o, h.get? a = some o ∧ o.ExactSet ∧ o.data = .set es ep t
  ents : es.toList = rowsOf P w L
  tab : Tab t (L.map fun p => thash P w p.2)
  uniq : (L.map (·.2)).Nodup
  tups : ∀ p ∈ L, IsT P w h p.2 p.1
  pure_ : t.plain = true
  led : w.params.followText "set-order" = true ∨ t.led = true
  space : L.length * 5 < t.mask * 3
theorem rows_size {es : Array (Int × Value)} {L : List (Addr × List Int)} (h : es.toList = rowsOf P w L) : es.size = L.length := by
  have q := congrArg List.length h
  simpa [rowsOf] using q
theorem rows_at {es : Array (Int × Value)} {L : List (Addr × List Int)} (h : es.toList = rowsOf P w L) {i : Nat} {p : Addr × List Int} (e : L[i]? = some p) : es[i]? = some (thash P w p.2, Value.ref p.1) := by
  rw [← Array.getElem?_toList, h]
  simp [rowsOf, e]
theorem fits_of {t : SetTable} {n : Nat} (h1 : t.place.size = n) (h2 : t.dummies = #[]) (h3 : n ≤ t.mask) : t.fits n = true := by
  unfold SetTable.fits SetTable.fill
  rw [h2, h1]
  simpa using h3
theorem odd_stays {t : SetTable} (h : t.mask % 2 = 1) : ¬ t.gaveWay = true := by
  unfold SetTable.gaveWay
  rw [h]
  decide
variable {a : Addr} {L : List (Addr × List Int)} {es : Array (Int × Value)} {ep : Nat} {t : SetTable}
theorem SetG.cnt (R : SetG P w s.heap a L es ep t) : t.place.size = L.length := by
  have q := R.tab.size
  rwa [List.length_map] at q
theorem SetG.fit (R : SetG P w s.heap a L es ep t) : t.fits es.size = true := by
  have hr := R.space
  exact fits_of (R.cnt.trans (rows_size R.ents).symm) R.tab.bare (by rw [rows_size R.ents]; omega)

/-- the way from its c-th step on; ad: for adding -/
theorem seek (R : SetG P w s.heap a L es ep t) (ad : Bool) {x : Addr} {k : List Int} (hx : IsT P w s.heap k x) (hu : A.units < cLine) {K : Nat} (hKf : K < 10 * SetTable.turns t.mask)
    (hK : way t.mask (thash P w k) K ∉ t.place.toList) (hKb : ∀ c, c < K → way t.mask (thash P w k) c ∈ t.place.toList) {Q : SetFound → Shared → Prop}
    (yes : k ∈ L.map (·.2) → ∀ r : Option Nat, (ad = true → r = none) → (ad = false → r.isSome = true) → Q (.there r) s) (no : k ∉ L.map (·.2) → Q (.free (way t.mask (thash P w k) K) false) s) :
    ∀ (f c : Nat) (stand : Option SetTable.Probe), stand.getD (t.probeStart (thash P w k)) = nth t.mask (runAt t.mask (SetTable.bits (thash P w k) % (t.mask + 1)) (SetTable.bits (thash P w k))) c → c ≤ K → K - c < f →
      (∀ (i : Nat) p, L[i]? = some p → p.2 = k → ∃ c', c ≤ c' ∧ c' < K ∧ t.place.toList[i]? = some (way t.mask (thash P w k) c')) →
      wpAny (model P w) A (setSearchFrom a (.ref x) (thash P w k) ad f stand) Q E s := by
  intro f
  induction f with
  | zero => intro c stand _ _ hf _; exact absurd hf (Nat.not_lt_zero _)
  | succ f ih =>
    intro c stand hst hc hf hre
    obtain ⟨o, ho, hex, hd⟩ := R.obj
    have step0 : (nth t.mask (runAt t.mask (SetTable.bits (thash P w k) % (t.mask + 1)) (SetTable.bits (thash P w k))) c).dummy = none := by
      have go : ∀ (n : Nat) (p : SetTable.Probe), p.dummy = none → (nth t.mask p n).dummy = none := by
        intro n
        induction n with
        | zero => exact fun p h => h
        | succ n ih2 =>
          intro p h
          apply ih2
          unfold adv
          split <;> exact h
      exact go c _ rfl
    have far : ∀ q, (nth t.mask (nth t.mask (runAt t.mask (SetTable.bits (thash P w k) % (t.mask + 1)) (SetTable.bits (thash P w k))) c) q) = nth t.mask (runAt t.mask (SetTable.bits (thash P w k) % (t.mask + 1)) (SetTable.bits (thash P w k))) (c + q) := fun q => (nth_add t.mask c _ q).symm
    have farj : ∀ q, (nth t.mask (nth t.mask (runAt t.mask (SetTable.bits (thash P w k) % (t.mask + 1)) (SetTable.bits (thash P w k))) c) q).j = way t.mask (thash P w k) (c + q) := fun q => by rw [far]
    have look := go_spec t R.tab.ris R.tab.bare (fun i => (es[i]?.map (·.1)).getD 0) (thash P w k) (10 * SetTable.turns t.mask) (K - c) _ step0 (by omega)
      (fun q hq => by rw [farj]; exact hKb _ (by omega)) (by rw [farj, Nat.add_sub_cancel' hc]; exact hK)
    have at_hash : ∀ (i : Nat) p, L[i]? = some p → (fun i => (es[i]?.map (·.1)).getD 0) i = thash P w p.2 := fun i p hp => by
      show (es[i]?.map (·.1)).getD 0 = _
      rw [rows_at R.ents hp]
      rfl
    rw [← hst] at look
    rw [setSearchFrom_succ]
    refine wpAny_bind (wpAny_setState_of ho hd R.fit ?_)
    dsimp only
    refine wp_if_neg (odd_stays R.tab.lap.odd) ?_
    try refine wpAny_bind (wpAny_pure ?_)
    rcases look with ⟨q, i, hq, hi, hh, hno, hpr⟩ | ⟨hno, hpr⟩
    · have hpr2 : t.probe (fun i => (es[i]?.map (·.1)).getD 0) (thash P w k) (stand.getD (t.probeStart (thash P w k))) = some (.candidate (way t.mask (thash P w k) (c + q)) i (nth t.mask (runAt t.mask (SetTable.bits (thash P w k) % (t.mask + 1)) (SetTable.bits (thash P w k))) (c + (q + 1)))) := by
        rw [← farj, ← far, ← hst]
        exact hpr
      rw [hpr2]
      dsimp only
      rw [hst, farj] at hi
      have hil : i < L.length := by
        have := (List.getElem?_eq_some_iff.mp hi).1
        rw [Array.length_toList, R.cnt] at this
        exact this
      obtain ⟨p, hp⟩ : ∃ p, L[i]? = some p := ⟨_, List.getElem?_eq_getElem hil⟩
      have hmem : p ∈ L := List.mem_of_getElem? hp
      have hlive := slot_live R.tab.ris hi
      have behind : wpAny (model P w) A (searchRest a (.ref x) (thash P w k) ad f es t (way t.mask (thash P w k) (c + q)) i (nth t.mask (runAt t.mask (SetTable.bits (thash P w k) % (t.mask + 1)) (SetTable.bits (thash P w k))) (c + (q + 1)))) Q E s := by
        unfold searchRest
        rw [rows_at R.ents hp]
        dsimp only
        refine wpAny_bind (wpAny_holding (wpAny_eqBool_tuple hu (R.tups p hmem) hx ?_))
        refine wpAny_bind (wpAny_setState_of ho hd R.fit ?_)
        dsimp only
        by_cases hkk : p.2 = k
        · have hm : k ∈ L.map (·.2) := List.mem_map.mpr ⟨p, hmem, hkk⟩
          cases ad with
          | true =>
            refine wp_if_pos (by simp [hkk]) ?_
            exact wpAny_pure (yes hm none (fun _ => rfl) (fun z => nomatch z))
          | false =>
            refine wp_if_neg (by simp) ?_
            try refine wpAny_bind (wpAny_pure ?_)
            rw [sameMem]
            dsimp only
            simp only [if_true, hlive, rows_at R.ents hp]
            refine wpAny_bind (wpAny_isSame_ref_self (wpAny_bind (wpAny_pure ?_)))
            simp only [if_true]
            refine wp_if_pos (by simp [hkk]) ?_
            exact wpAny_pure (yes hm (some i) (fun z => nomatch z) (fun _ => rfl))
        · refine wp_if_neg (by simp [hkk]) ?_
          try refine wpAny_bind (wpAny_pure ?_)
          rw [sameMem]
          dsimp only
          simp only [if_true, hlive, rows_at R.ents hp]
          refine wpAny_bind (wpAny_isSame_ref_self (wpAny_bind (wpAny_pure ?_)))
          simp only [if_true]
          refine wp_if_neg (by simp [hkk]) ?_
          refine ih (c + (q + 1)) _ rfl (by omega) (by omega) fun i0 p0 h0 hk0 => ?_
          obtain ⟨c', a1, a2, a3⟩ := hre i0 p0 h0 hk0
          refine ⟨c', Classical.byContradiction fun z => ?_, a2, a3⟩
          by_cases y : c' = c + q
          · subst y
            have s0 := slot_live R.tab.ris a3
            rw [hlive] at s0
            injection s0 with s0
            subst s0
            rw [hp] at h0
            cases h0
            exact hkk hk0
          · refine hno (c' - c) i0 (by omega) ?_ ((at_hash i0 p0 h0).trans (by rw [hk0]))
            rw [hst, farj, Nat.add_sub_cancel' a1]
            exact a3
      by_cases hl : t.led = true
      · refine wp_if_neg (by simp [hl]) ?_
        try refine wpAny_bind (wpAny_pure ?_)
        exact behind
      · refine wp_if_pos (by simp [hl]) ?_
        refine wpAny_bind (seen_tup hx (fun y hy => ?_) ?_)
        · obtain ⟨e, he, rfl⟩ := List.mem_map.mp hy
          have he2 : e ∈ es.toList := by
            have := (show e ∈ es ∧ e.1 = thash P w k by simpa using he).1
            simpa using this
          rw [R.ents] at he2
          obtain ⟨p2, hp2, rfl⟩ := List.mem_map.mp he2
          exact ⟨p2.2, p2.1, rfl, R.tups p2 hp2⟩
        · refine wp_if_neg (by decide) ?_
          try refine wpAny_bind (wpAny_pure ?_)
          exact behind
    · have hpr2 : t.probe (fun i => (es[i]?.map (·.1)).getD 0) (thash P w k) (stand.getD (t.probeStart (thash P w k))) = some (.empty (way t.mask (thash P w k) K) none) := by
        have z := farj (K - c)
        rw [Nat.add_sub_cancel' hc, ← hst] at z
        rw [← z]
        exact hpr
      rw [hpr2]
      dsimp only
      refine wpAny_pure (no fun hm => ?_)
      obtain ⟨p0, h0, hk0⟩ := List.mem_map.mp hm
      obtain ⟨i0, hi0, rfl⟩ := List.getElem_of_mem h0
      obtain ⟨c', a1, a2, a3⟩ := hre i0 _ (List.getElem?_eq_getElem hi0) hk0
      refine hno (c' - c) i0 (by omega) ?_ ((at_hash i0 _ (List.getElem?_eq_getElem hi0)).trans (by rw [hk0]))
      rw [hst, farj, Nat.add_sub_cancel' a1]
      exact a3
/-- a search from the start -/
theorem searchG (R : SetG P w s.heap a L es ep t) (ad : Bool) {x : Addr} {k : List Int} (hx : IsT P w s.heap k x) (hu : A.units < cLine) {Q : SetFound → Shared → Prop}
    (yes : k ∈ L.map (·.2) → ∀ r : Option Nat, (ad = true → r = none) → (ad = false → r.isSome = true) → Q (.there r) s)
    (no : ∀ K, k ∉ L.map (·.2) → way t.mask (thash P w k) K ∉ t.place.toList → (∀ c, c < K → way t.mask (thash P w k) c ∈ t.place.toList) → Q (.free (way t.mask (thash P w k) K) false) s) :
    wpAny (model P w) A (setSearch a (.ref x) (thash P w k) ad) Q E s := by
  have hroom := R.space
  obtain ⟨K, hKf, hK, hKb⟩ := R.tab.hole (by rw [List.length_map]; omega) (thash P w k)
  have hle := R.tab.lap.le
  have ht : SetTable.turns t.mask = t.mask + 15 := rfl
  unfold setSearch
  refine seek R ad hx hu hKf hK hKb yes (fun hn => no K hn hK hKb) 100000 0 none rfl (Nat.zero_le _) (by omega) fun i p hp hk => ?_
  have hi : (L.map fun p => thash P w p.2)[i]? = some (thash P w k) := by rw [List.getElem?_map, hp, ← hk]; rfl
  have hil : i < t.place.toList.length := by
    rw [Array.length_toList, R.cnt]
    exact (List.getElem?_eq_some_iff.mp hp).1
  obtain ⟨c, hc, e⟩ := R.tab.ahead hK hi (List.getElem?_eq_getElem hil)
  exact ⟨c, Nat.zero_le _, hc, by rw [List.getElem?_eq_getElem hil, e]⟩
/-- asked -/
theorem findG (R : SetG P w s.heap a L es ep t) {x : Addr} {k : List Int} (hx : IsT P w s.heap k x) (hu : A.units < cLine) {Q : Option Nat → Shared → Prop}
    (h : ∀ r : Option Nat, r.isSome = decide (k ∈ L.map (·.2)) → Q r s) : wpAny (model P w) A (setFind a (.ref x) (thash P w k)) Q E s := by
  obtain ⟨o, ho, hex, hd⟩ := R.obj
  unfold setFind setFindIn
  refine wpAny_bind (wpAny_setState_of ho hd R.fit ?_)
  dsimp only
  refine wp_if_neg (by simp [byScan, Value.scannable]) ?_
  try refine wpAny_bind (wpAny_pure ?_)
  refine wpAny_bind (searchG R false hx hu (fun hm r _ hr => ?_) fun K hn _ _ => ?_)
  · dsimp only
    exact wpAny_pure (h r ((hr rfl).trans (decide_eq_true hm).symm))
  · dsimp only
    exact wpAny_pure (h none (decide_eq_false hn).symm)
theorem size_306 : SetTable.sizeAbove (SetTable.grown 77) = 512 := by decide +kernel
/-- laid anew, larger -/
theorem relayG {o : Obj} (ho : s.heap.get? a = some o) (hex : o.ExactSet) (hd : o.data = .set es ep t) (hrows : es.toList = rowsOf P w L) (hsz : t.place.size = es.size) (hdm : t.dummies = #[]) (hfl : es.size ≤ t.mask)
    (nd : (L.map (·.2)).Nodup) (tup : ∀ p ∈ L, IsT P w s.heap p.2 p.1) (pl : t.plain = true) (ld : w.params.followText "set-order" = true ∨ t.led = true) {wanted M : Nat}
    (hw : SetTable.sizeAbove wanted - 1 = M) (hM : Lap M) (hw2 : SetTable.sizeAbove wanted ≤ 512) (hn : L.length * 5 < M * 3) {Q : Unit → Shared → Prop}
    (hQ : ∀ h' L' es' ep' t', Heap.SameBut a s.heap h' → SetG P w h' a L' es' ep' t' → L'.Perm L → Q () { s with heap := h' }) : wpAny (model P w) A (setRelay a wanted) Q E s := by
  have hsl := rows_size hrows
  have hle := hM.le
  obtain ⟨t', order, e, hp, T, em, el, ep'⟩ := relaidG t (hs := es.map (·.1)) (wanted := wanted) hw hM (by rw [Array.size_map, hsl]; omega)
  rw [Array.size_map, hsl] at hp
  obtain ⟨L2, r1, r2, r3⟩ := order_rows L es order hrows hp
  rw [← r3] at T
  have hs2 : (order.filterMap (es[·]?)).size = es.size := by rw [rows_size r1, r2.length_eq, hsl]
  have hbig : es.size ≤ sizeLine := by rw [sizeLine_eq]; omega
  rw [setRelay_eq]
  refine wpAny_bind (wpAny_setState_of ho hd (fits_of hsz hdm hfl) ?_)
  dsimp only
  refine wp_if_neg (by rw [sizeLine_eq]; omega) ?_
  try refine wpAny_bind (wpAny_pure ?_)
  rw [e]
  dsimp only
  refine wpAny_bind ?_
  refine wp_if_neg (by rw [hs2]; simp) ?_
  try refine wpAny_bind (wpAny_pure ?_)
  refine wpAny_pure ?_
  dsimp only
  refine wpAny_storeSet_of ho hd ?_ (by rw [hs2]; exact hbig)
  have sb : Heap.SameBut a s.heap (s.heap.update a (Obj.putSet (order.filterMap (es[·]?)) t')) := Heap.SameBut.update ..
  refine hQ _ L2 (order.filterMap (es[·]?)) (ep + 1) t' sb ?_ r2
  refine ⟨⟨_, store_at ho hd, ⟨hex.1, hex.2.1, hex.2.2⟩, rfl⟩, r1, T, ?_, fun q hq => ?_, ?_, ?_, ?_⟩
  · exact (r2.map (·.2)).nodup_iff.mpr nd
  · exact isT_same (tup q (r2.mem_iff.mp hq)) ho hd sb
  · rw [ep']; exact pl
  · rw [el]; exact ld
  · rw [r2.length_eq, em]; exact hn
/-- one more is put in, or it is there -/
theorem addG (R : SetG P w s.heap a L es ep t) {x : Addr} {k : List Int} (hx : IsT P w s.heap k x) (hu : A.units < cLine) (hfew : L.length + 1 ≤ 300) {Q : Bool → Shared → Prop}
    (hQ : ∀ b h' L' es' ep' t', Heap.SameBut a s.heap h' → SetG P w h' a L' es' ep' t' → (k ∈ L.map (·.2) → L' = L) → (k ∉ L.map (·.2) → L'.Perm ((x, k) :: L)) → Q b { s with heap := h' }) :
    wpAny (model P w) A (setAddHashed a (.ref x) (thash P w k)) Q E s := by
  obtain ⟨o, ho, hex, hd⟩ := R.obj
  have hsl := rows_size R.ents
  have hroom := R.space
  unfold setAddHashed
  refine wpAny_holding ?_
  rw [show (100000 : Nat) = 99999 + 1 from rfl, setAddHashedIn_succ]
  refine wpAny_bind (wpAny_setState_of ho hd R.fit ?_)
  dsimp only
  refine wp_if_neg (by simp [byScan, Value.scannable]) ?_
  try refine wpAny_bind (wpAny_pure ?_)
  refine wpAny_bind (searchG R true hx hu (fun hm r hr _ => ?_) fun K hm hK hb => ?_)
  · rw [hr rfl]
    dsimp only
    exact wpAny_pure (hQ false s.heap L es ep t (Heap.SameBut.refl a s.heap) R (fun _ => rfl) fun z => absurd hm z)
  · dsimp only
    refine wpAny_bind (wpAny_setState_of ho hd R.fit ?_)
    dsimp only
    obtain ⟨p, t1, ept, q2, q3, q4, q5, q6, q9⟩ := R.tab.more hK hb
    rw [ept]
    dsimp only
    have hp1 : t1.plain = true := by rw [q6]; exact R.pure_
    rw [List.length_map] at q2 q9
    first
      | (refine wpAny_bind ?_; refine wp_if_pos hp1 ?_; refine hashBy_tup hx ?_)
      | refine wp_if_pos hp1 (wpAny_bind (hashBy_tup hx ?_))
    simp only [if_true]
    have pm := put_perm L p (x, k)
    have hlen : (L.take p ++ (x, k) :: L.drop p).length = L.length + 1 := pm.length_eq
    have hin : (SetTable.insertAt es p (thash P w k, Value.ref x)).toList = rowsOf P w (L.take p ++ (x, k) :: L.drop p) := by
      rw [SetTable.toList_insertAt, rows_put, R.ents]
    have hhs : (L.map fun p => thash P w p.2).take p ++ thash P w k :: (L.map fun p => thash P w p.2).drop p = (L.take p ++ (x, k) :: L.drop p).map (fun p => thash P w p.2) := by
      simp [List.map_take, List.map_drop]
    rw [hhs] at q3
    have nd1 : ((L.take p ++ (x, k) :: L.drop p).map (·.2)).Nodup := by
      rw [(pm.map (·.2)).nodup_iff]
      exact List.nodup_cons.mpr ⟨hm, R.uniq⟩
    have hes := rows_size hin
    rw [hlen] at hes
    generalize SetTable.insertAt es p (thash P w k, Value.ref x) = es1 at hin hes ⊢
    generalize L.take p ++ (x, k) :: L.drop p = L1 at pm hlen q3 nd1 hin
    have hbig : es1.size ≤ sizeLine := by rw [hes, sizeLine_eq]; omega
    refine wpAny_bind (wpAny_storeSet_of ho hd ?_ hbig)
    have sb : Heap.SameBut a s.heap (s.heap.update a (Obj.putSet es1 t1)) := Heap.SameBut.update ..
    have ho1 := store_at (es' := es1) (t' := t1) ho hd
    generalize s.heap.update a (Obj.putSet es1 t1) = h1 at sb ho1 ⊢
    have tup1 : ∀ p ∈ L1, IsT P w h1 p.2 p.1 := by
      intro p hp
      rcases List.mem_cons.mp (pm.mem_iff.mp hp) with rfl | hp
      · exact isT_same hx ho hd sb
      · exact isT_same (R.tups p hp) ho hd sb
    have ld1 : w.params.followText "set-order" = true ∨ t1.led = true := by rw [q5]; exact R.led
    by_cases hf : t1.tooFull = true
    · first
        | (refine wpAny_bind ?_; refine wp_if_pos (by simp [hf]) ?_)
        | (refine wp_if_pos (by simp [hf]) ?_; refine wpAny_bind ?_)
      have hfull : t1.mask * 3 ≤ (L.length + 1) * 5 := by
        have h := hf
        unfold SetTable.tooFull at h
        rw [decide_eq_true_eq, q9] at h
        exact h
      rw [q4] at hfull
      rw [hsl]
      have go : ∀ M, Lap M → SetTable.sizeAbove (SetTable.grown (L.length + 1)) = M + 1 → (L.length + 1) * 5 < M * 3 →
          wpAny (model P w) A (setRelay a (SetTable.grown (L.length + 1))) (fun _ s' => wpAny (model P w) A (pure true) Q E s') E { s with heap := h1 } := by
        intro M hM hsize hroom2
        have hle := hM.le
        have hsz1 : t1.place.size = es1.size := by rw [q3.size, List.length_map, hlen, hes]
        refine relayG (s := { s with heap := h1 }) ho1 ⟨hex.1, hex.2.1, hex.2.2⟩ rfl hin hsz1 q3.bare (by rw [hes, q4]; omega) nd1 tup1 hp1 ld1 (M := M) (by omega) hM (by omega) (by rw [hlen]; exact hroom2) ?_
        intro h2 L2 es2 ep2 t2 sb2 R2 pm2
        exact wpAny_pure (hQ true h2 L2 es2 ep2 t2 (sb.trans sb2) R2 (fun z => absurd z hm) fun _ => pm2.trans pm)
      have le := R.tab.lap
      have hc : (t.mask = 7 ∧ L.length = 4) ∨ (t.mask = 31 ∧ L.length = 18) ∨ (t.mask = 127 ∧ L.length = 76) := by
        have := masks le
        omega
      rcases hc with ⟨_, e2⟩ | ⟨_, e2⟩ | ⟨_, e2⟩
      · exact go 31 lap31 (by rw [e2, size_20]) (by omega)
      · exact go 127 lap127 (by rw [e2, size_76]) (by omega)
      · exact go 511 lap511 (by rw [e2, size_306]) (by omega)
    · first
        | refine wp_if_neg (by simp [hf]) ?_
        | (refine wpAny_bind ?_; refine wp_if_neg (by simp [hf]) ?_; refine wpAny_pure ?_)
      have hroom3 : L1.length * 5 < t1.mask * 3 := by
        have h := hf
        unfold SetTable.tooFull at h
        rw [decide_eq_true_eq, q9] at h
        rw [hlen]
        omega
      exact wpAny_pure (hQ true h1 L1 es1 (ep + 1) t1 sb ⟨⟨_, ho1, ⟨hex.1, hex.2.1, hex.2.2⟩, rfl⟩, hin, q3, nd1, tup1, hp1, ld1, hroom3⟩ (fun z => absurd z hm) fun _ => pm)
theorem SetG.move {h h' : Heap} (R : SetG P w h a L es ep t) (ha : ∀ o, h.get? a = some o → h'.get? a = some o) (ht : ∀ p ∈ L, IsT P w h' p.2 p.1) : SetG P w h' a L es ep t := by
  obtain ⟨⟨o, ho, r⟩, r2, r3, r4, _, r6, r7, r8⟩ := R
  exact ⟨⟨o, ha o ho, r⟩, r2, r3, r4, ht, r6, r7, r8⟩
/-- the object of a set just made -/
def newSet (w : World) : Obj := { cls := .type "set", dict := none, data := .set #[] 0 (.fresh 0 0 (!w.params.followText "set-order")) }
theorem setG_new {h : Heap} {a : Addr} (ho : h.get? a = some (newSet w)) : ∃ t, SetG P w h a [] #[] 0 t := by
  refine ⟨.fresh 0 0 (!w.params.followText "set-order"), ⟨_, ho, ⟨rfl, rfl, rfl⟩, rfl⟩, rfl, ⟨List.Pairwise.nil, rfl, rfl, lap7, ?_, ?_⟩, List.nodup_nil, ?_, rfl, ?_, ?_⟩
  · intro x hx; cases hx
  · intro i h j hi; simp at hi
  · intro p hp; cases hp
  · show _ ∨ (!w.params.followText "set-order") = true
    cases w.params.followText "set-order" <;> simp
  · show 0 * 5 < 7 * 3
    decide

/-- the items are put in, one by one -/
theorem fillG {I : Addr} {fp wr : List Addr} {G : Array GenState → Array GenState → Prop} {n : Nat} {Pv : Nat → Value → Prop} {St : Nat → Shared → Prop} {R : Result → Shared → Prop}
    (W : WalksS P w A.in1 I fp wr G n Pv St) (S : Addr) (hSf : S ∉ fp) (ks : List (Addr × List Int)) (hn : n = ks.length) (hfew : ks.length ≤ 300) (hval : ∀ i v, Pv i v → ∃ p, ks[i]? = some p ∧ v = .ref p.1)
    (h0 : Heap) (hk : ∀ p ∈ ks, IsT P w h0 p.2 p.1) (hS0 : h0.get? S = none) (hw0 : ∀ b ∈ wr, h0.get? b = none) (hu : A.in1.units < cLine)
    (hR : ∀ s' L es ep t, Moved (S :: wr) G s s' → SetG P w s'.heap S L es ep t → Got ks n L → (∀ b o, h0.get? b = some o → s'.heap.get? b = some o) → R (.ok (.ret .none)) s') :
    ∀ (k i : Nat) (s1 : Shared), n - i = k → i ≤ n → St i s1 → (∀ b o, h0.get? b = some o → s1.heap.get? b = some o) → (∃ L es ep t, SetG P w s1.heap S L es ep t ∧ Got ks i L) →
      (∀ s', Moved (S :: wr) G s1 s' → Moved (S :: wr) G s s') → codeAny (model P w) A (.builtin "set.update.loop" ⟨[.ref S, .ref I], []⟩) R s1 := by
  have hSw : S ∉ wr := fun h => hSf (W.sub _ h)
  have up : ∀ b ∈ wr, b ∈ S :: wr := fun b hb => List.mem_cons_of_mem _ hb
  have old : ∀ {s1 s2 : Shared}, Moved wr G s1 s2 → (∀ b o, h0.get? b = some o → s1.heap.get? b = some o) → ∀ b o, h0.get? b = some o → s2.heap.get? b = some o := by
    intro s1 s2 hm hkp b o e
    refine hm.heap b o (fun hb => ?_) (hkp b o e)
    rw [hw0 b hb] at e; cases e
  have tupsIn : ∀ {i : Nat} {L : List (Addr × List Int)} {hh : Heap}, Got ks i L → (∀ b o, h0.get? b = some o → hh.get? b = some o) → ∀ p ∈ L, IsT P w hh p.2 p.1 := by
    intro i L hh g hkp p hp
    exact isT_keep (hk p (List.mem_of_mem_take (g.sub p hp))) hkp
  intro k
  induction k with
  | zero =>
    intro i s1 hk' hi hst hkp ⟨L, es, ep, t, hS, g⟩ mv
    obtain rfl : i = n := by omega
    refine codeAny_builtin F.entry_set_update_loop ?_
    rw [Around.under_plainId F.plain_set_update_loop _]
    show wpAny _ A.in1 (pyNext (.ref I) >>= _) _ _ s1
    refine wpAny_bind (W.done s1 _ _ hst fun s' hm => ?_)
    show wpAny _ A.in1 (ret Value.none) _ _ s'
    exact wpAny_pure (hR s' L es ep t (mv s' (hm.mono up)) (hS.move (fun o e => hm.heap S o hSw e) (tupsIn g (old hm hkp))) g (old hm hkp))
  | succ k ih =>
    intro i s1 hk' hi hst hkp ⟨L, es, ep, t, hS, g⟩ mv
    have hlt : i < n := by omega
    refine codeAny_builtin F.entry_set_update_loop ?_
    rw [Around.under_plainId F.plain_set_update_loop _]
    show wpAny _ A.in1 (pyNext (.ref I) >>= _) _ _ s1
    refine wpAny_bind (W.item i s1 _ _ hlt hst fun v s' hP hst' hm => ?_)
    obtain ⟨p, hp, rfl⟩ := hval i v hP
    have hkp' := old hm hkp
    have hS' : SetG P w s'.heap S L es ep t := hS.move (fun o e => hm.heap S o hSw e) (tupsIn g hkp')
    have hx : IsT P w s'.heap p.2 p.1 := isT_keep (hk p (List.mem_of_getElem? hp)) hkp'
    have hl := g.len
    show wpAny _ A.in1 (holding [Value.ref p.1] (setAdd S (.ref p.1)) >>= _) _ _ s'
    refine wpAny_bind (wpAny_holding ?_)
    unfold setAdd
    refine wpAny_holding ?_
    refine wpAny_bind (wpAny_pyHash_tuple hu hx ?_)
    refine addG (s := { s' with toks := s'.toks + (p.2.length + 1) }) hS' hx hu (by omega) fun b h' L' es' ep' t' hsb hS2 c1 c2 => ?_
    have g' : Got ks (i + 1) L' := by
      by_cases c : p.2 ∈ L.map (·.2)
      · rw [c1 c]; exact g.same hp c
      · exact g.more hp (c2 c)
    have far : ∀ b, b ≠ S → h'.get? b = s'.heap.get? b := fun b hb => hsb.2 b hb
    refine wpAny_pure ⟨plainId_quiet F.plain_set_update_loop _, ih (i + 1) _ (by omega) hlt (W.frame _ s' _ _ hst' (Nat.le_add_right _ _) fun b hb o e => ?_) (fun b o e => ?_) ⟨L', es', ep', t', hS2, g'⟩ fun s'' hm'' => ?_⟩
    · show h'.get? b = some o
      rw [far b fun z => hSf (z ▸ hb)]; exact e
    · show h'.get? b = some o
      rw [far b fun z => by rw [z, hS0] at e; cases e]; exact hkp' b o e
    · refine mv s'' (Moved.trans W.gtrans ((hm.mono up).then_heap (Nat.le_add_right _ _) fun b o hb e => ?_) hm'')
      show h'.get? b = some o
      rw [far b fun z => hb (by rw [z]; exact List.mem_cons_self)]; exact e

/-- set(xs) -/
theorem call_setG {l : Addr} {items : Array Value} (ks : List (Addr × List Int)) {Q : Value → Shared → Prop} (hh : A.handled = none) (hl : s.heap.IsList l items) (hit : items.toList = ks.map fun p => Value.ref p.1)
    (hk : ∀ p ∈ ks, IsT P w s.heap p.2 p.1) (hfew : ks.length ≤ 300) (hu : A.units + 3 < cLine)
    (h : ∀ (h' : Heap) (tk : Nat) L es ep t, SetG P w h' s.heap.objs.size L es ep t → Got ks ks.length L → (∀ b o, s.heap.get? b = some o → h'.get? b = some o) → Q (.ref s.heap.objs.size) { s with heap := h', toks := tk }) :
    wpAny (model P w) A (call (.type "set") [.ref l]) Q E s := by
  have hisz : items.size = ks.length := by simpa using congrArg List.length hit
  obtain ⟨c, tl, hmro⟩ := F.called_set.mro
  have hmade := F.called_set.made
  have hsub := F.called_set.sub
  refine wpAny_call (codeAny_of_tree ?_)
  show wpAny _ _ (callAny (.type "set") _) _ _ _
  refine wpAny_pure ⟨Code.quiet_builtin _ (by decide +kernel), codeAny_builtin F.entry_type_call ?_⟩
  rw [Around.under_plain (weight_type_call_type "set" [.ref l] []) rfl]
  have h1 := F.called_set.notType
  have h2 := F.called_set.canCreate
  have hct := F.typeCall_set_1 (.ref l)
  repeat (any_goals (first | assumption | wp_step))
  refine codeAny_mono (code_set_led1 (.ref l) (E := E) (Q₁ := fun obj s₁ => obj = .ref s.heap.objs.size ∧ s₁ = { s with heap := s.heap.push (newSet w) }) ⟨rfl, rfl⟩) fun r s₁ hr => ?_
  cases r with
  | error e => exact hr
  | ok fl =>
    cases fl with
    | ret obj =>
      obtain ⟨rfl, rfl⟩ := hr
      have hS : (s.heap.push (newSet w)).get? s.heap.objs.size = some (newSet w) := Heap.get?_push_size _ rfl
      have hT : Shared.TypeIs { s with heap := s.heap.push (newSet w) } (.ref s.heap.objs.size) "set" := ⟨_, hS, rfl⟩
      have hli := F.called_set.init.lookup
      have hbi := F.called_set.init.bind (.ref s.heap.objs.size)
      repeat (any_goals (first | assumption | wp_step))
      refine codeAny_mono (codeAny_call_builtin (R := wants (fun r s₂ => r = .none ∧ ∃ h' tk L es ep t, s₂ = { s with heap := h', toks := tk } ∧ SetG P w h' s.heap.objs.size L es ep t ∧ Got ks ks.length L ∧
          (∀ b o, s.heap.get? b = some o → h'.get? b = some o)) E) F.called_set.init.plain F.entry_set_init (check_set_init_1 hT ?_)) fun r₂ s₂ hr₂ => ?_
      · obtain ⟨ol, hol, hcl, nl, hdl⟩ := hl
        obtain ⟨ocls, odict, odata, oslots⟩ := ol
        simp only at hcl hdl
        subst hcl; subst hdl
        have hol' : (s.heap.push (newSet w)).get? l = some { cls := .type "list", dict := odict, data := .seq items nl, slots := oslots } := Heap.get?_push_of_some _ hol
        have hsls := F.sub_list_set
        have hslf := F.sub_list_frozenset
        have hne : (Value.type "list" == Value.type "dict") = false := by decide
        have hl1 : (s.heap.push (newSet w)).IsList l items := ⟨_, hol', rfl, nl, rfl⟩
        unfold Builtin.«set.__init__» noKeywords Builtin.Frozenset.updateFrom
        generalize hPI : pyIter = PI
        wp_walk
        subst hPI
        refine wpAny_pyIter_list hl1 ?_
        refine wpAny_bind (wpAny_runValue ?_)
        have hlS : l < s.heap.objs.size := Heap.lt_size hol
        have hh3 : A.in1.in1.in1.handled = none := by simp [hh]
        have hz1 : (s.heap.push (newSet w)).objs.size = s.heap.objs.size + 1 := Heap.size_push ..
        have hneI : l ≠ (s.heap.push (newSet w)).objs.size := by
          rw [hz1]
          exact Nat.ne_of_lt (Nat.lt_succ_of_lt hlS)
        have hSf : s.heap.objs.size ∉ [(s.heap.push (newSet w)).objs.size, l] := by
          rw [hz1]
          simp only [List.mem_cons, List.not_mem_nil, or_false, not_or]
          exact ⟨Nat.ne_of_lt (Nat.lt_succ_self _), fun z => Nat.lt_irrefl _ (z ▸ hlS)⟩
        have hval : ∀ (i : Nat) (v : Value), items[i]? = some v → ∃ p, ks[i]? = some p ∧ v = .ref p.1 := by
          intro i v hv
          rw [← Array.getElem?_toList, hit, List.getElem?_map] at hv
          obtain ⟨p, hp, e⟩ := Option.map_eq_some_iff.mp hv
          exact ⟨p, hp, e.symm⟩
        have free : ∀ b, s.heap.objs.size ≤ b → s.heap.get? b = none := by
          intro b hb
          cases q : s.heap.get? b with
          | none => rfl
          | some o => exact absurd (Heap.lt_size q) (Nat.not_lt_of_le hb)
        refine fillG ((Walks.list hh3 _ l hneI items).toS) s.heap.objs.size hSf ks hisz hfew hval s.heap hk (free _ (Nat.le_refl _))
          (fun b hb => free b (by rw [List.mem_singleton.mp hb, hz1]; omega)) hu ?hR (items.size - 0) 0 _ (by omega) (Nat.zero_le _)
          ⟨⟨_, Heap.get?_push_size _ rfl, rfl, rfl⟩, (hl1.push _)⟩ (fun b o e => Heap.get?_push_of_some _ (Heap.get?_push_of_some _ e)) ?hS0 (fun _ z => z)
        case hS0 =>
          obtain ⟨t, ht⟩ := setG_new (P := P) (w := w) (h := (s.heap.push (newSet w)).push { cls := .type "list_iterator", data := .fields #[.ref l, .int 0 0] }) (a := s.heap.objs.size) (Heap.get?_push_of_some _ hS)
          exact ⟨[], #[], 0, t, ht, Got.zero ks⟩
        case hR =>
          intro s' L es ep t hm hS' g' hkp
          obtain ⟨h', g2, d', tk', os'⟩ := s'
          have eg : g2 = s.gens := hm.gens
          have ed : d' = s.drawn := hm.drawn
          have eo : os' = s.os := hm.os
          subst eg; subst ed; subst eo
          show wpAny _ _ _ _ _ _
          refine wpAny_pure ?_
          show wpAny _ _ (ret Value.none) _ _ _
          rw [hisz] at g'
          exact wpAny_pure ⟨rfl, h', tk', L, es, ep, t, rfl, hS', g', hkp⟩
      · cases r₂ with
        | error e => exact hr₂
        | ok fl₂ =>
          cases fl₂ with
          | ret r =>
            obtain ⟨rfl, h', tk, L, es, ep, t, rfl, hS', g', hk'⟩ := hr₂
            repeat (any_goals (first | assumption | wp_step))
            exact h _ _ _ _ _ _ hS' g' hk'
          | _ => exact hr₂.elim
    | _ => exact hr.elim
end

/-! ### as rules of the layer -/
/-- the set at a holds just the tuples of L, whose objects are told beside -/
def SetB (P : Program) (w : World) (h : Heap) (a : Addr) (L : List (Addr × List Int)) : Prop :=
  ∃ (es : Array (Int × Value)) (ep : Nat) (t : SetTable), (∃ o, h.get? a = some o ∧ o.ExactSet ∧ o.data = .set es ep t) ∧ es.toList = rowsOf P w L ∧ Tab t (L.map fun p => thash P w p.2) ∧ (L.map (·.2)).Nodup ∧ t.plain = true ∧
    (w.params.followText "set-order" = true ∨ t.led = true) ∧ L.length * 5 < t.mask * 3
def SetBO (P : Program) (w : World) (a : Addr) (L : List (Addr × List Int)) : HO := .ext fun h => SetB P w h a L
theorem SetG.b {P : Program} {w : World} {h : Heap} {a : Addr} {L : List (Addr × List Int)} {es : Array (Int × Value)} {ep : Nat} {t : SetTable} (R : SetG P w h a L es ep t) : SetB P w h a L := by
  obtain ⟨r1, r2, r3, r4, _, r6, r7, r8⟩ := R
  exact ⟨es, ep, t, r1, r2, r3, r4, r6, r7, r8⟩
theorem SetB.g {P : Program} {w : World} {h : Heap} {a : Addr} {L : List (Addr × List Int)} (R : SetB P w h a L) (ht : ∀ p ∈ L, IsT P w h p.2 p.1) : ∃ es ep t, SetG P w h a L es ep t := by
  obtain ⟨es, ep, t, r1, r2, r3, r4, r6, r7, r8⟩ := R
  exact ⟨es, ep, t, r1, r2, r3, r4, ht, r6, r7, r8⟩
theorem setB_new {P : Program} {w : World} {H : Hp} {h : Heap} {a : Addr} {L : List (Addr × List Int)} (R : SetB P w h a L) : ObjOk P w H h a (SetBO P w a L) := by
  obtain ⟨es, ep, t, ⟨o, ho, r⟩, q⟩ := id R
  refine ⟨R, ⟨o, ho⟩, fun h1 h2 p k => ?_⟩
  obtain ⟨es', ep', t', ⟨o', ho', r'⟩, q'⟩ := (show SetB P w h1 a L from p)
  exact ⟨es', ep', t', ⟨o', k o' ho', r'⟩, q'⟩
section
variable {X : Cx}
/-- set(xs), xs a list of tuples of whole numbers -/
def rSetT (K : PySem.W.Frag) (P : Program) (w : World) : List V → Hp → VK → Prop := fun xs H Q => ∃ (l : Addr) (ks : List (Addr × List Int)), xs = [V.ref l] ∧ SqL K H l (ks.map fun p => V.ref p.1) ∧ (∀ p ∈ ks, SqT K H p.1 (p.2.map V.int)) ∧ ks.length ≤ 300 ∧
  ∀ a L, H a = none → (∀ p ∈ L, p ∈ ks) → (∀ p ∈ ks, p.2 ∈ L.map (·.2)) → Q (.ref a) (upd H a (SetBO P w a L))
theorem call_setOfT (hc : X.calm = true) (hu : X.A.units + 65 < cLine) : CallR X (.type "set") (rSetT X.K X.prog X.w) := by
  intro pins s σ H xs us Q I r h
  obtain ⟨l, ks, rfl, hl, hk, hf, q⟩ := h
  rw [Vals.ref1 r]
  obtain ⟨its, rv, pl, hz⟩ := I.list hl
  have hn : H s.heap.objs.size = none := I.hok.fresh (Nat.le_refl _)
  refine call_setG (P := X.prog) (w := X.w) ks (I.ok.hd hc) pl.isList (by simpa using refs_of_vals rv) (fun p hp => I.isT (hk p hp)) hf (by omega) fun h' tk L es ep t R g k => ?_
  refine ⟨.ref s.heap.objs.size, upd H s.heap.objs.size (SetBO X.prog X.w s.heap.objs.size L), I.laid (t' := tk) k (Nat.le_refl _) (setB_new R.b), rfl, q _ L hn (fun p hp => ?_) fun p hp => ?_⟩
  · exact List.mem_of_mem_take (g.sub p hp)
  · exact g.all p (by rw [List.take_length]; exact hp)
/-- x in the set, x not in it -/
def rInT (K : PySem.W.Frag) (P : Program) (w : World) (no : Bool) : R2 := fun x y H Q => ∃ (t a : Addr) (k : List Int) (L : List (Addr × List Int)), x = V.ref t ∧ y = V.ref a ∧ SqT K H t (k.map V.int) ∧ H a = some (SetBO P w a L) ∧ (∀ p ∈ L, SqT K H p.1 (p.2.map V.int)) ∧
  Q (.bl (if no then !decide (k ∈ L.map (·.2)) else decide (k ∈ L.map (·.2)))) H
theorem asksG {pins : List (Addr × Obj)} {σ : L2.St} {H : Hp} {s : Shared} {t a : Addr} {k : List Int} {L : List (Addr × List Int)} {Q : Value → Shared → Prop} (I : Inv X pins σ H s) (hu : X.A.units + 65 < cLine) (hk : SqT X.K H t (k.map V.int)) (ha : H a = some (SetBO X.prog X.w a L)) (hL : ∀ p ∈ L, SqT X.K H p.1 (p.2.map V.int))
    {f : Bool → Value} (hq : ∀ tk, Q (f (decide (k ∈ L.map (·.2)))) { s with toks := tk }) :
    wpAny (model X.prog X.w) X.A (do return f (← contains (.ref a) (.ref t))) Q X.xe s := by
  have RB : SetB X.prog X.w s.heap a L := (I.hok a _ ha).1
  obtain ⟨es, ep, tb, R⟩ := RB.g fun p hp => I.isT (hL p hp)
  have hx := I.isT hk
  obtain ⟨o, ho, hex, hd⟩ := R.obj
  have hT : s.TypeIs (.ref a) "set" := ⟨o, ho, hex.1⟩
  refine wpAny_bind ?_
  unfold contains
  try with_reducible refine wpAny_holding ?_
  refine wpAny_bind (wpAny_specialOf hT PySem.F.slot_set_contains.lookup ?_)
  refine wp_if_neg (by rw [beq_builtin_none]; exact Bool.false_ne_true) ?_
  refine wpAny_bind (wpAny_callSpecialUnlessNone?_slot (name := Str.ofString "__contains__") hT PySem.F.slot_set_contains
    (wpAny_call_entry PySem.F.slot_set_contains hT entry_set_contains ?_ (PySem.F.args_set_contains_2 _ _)))
  unfold Builtin.«frozenset.__contains__» Builtin.Frozenset.oneOther
  simp only [List.isEmpty_nil, bind_assoc]
  unfold Builtin.Frozenset.addrOf Builtin.Frozenset.withSetAsKey setContains
  refine wpAny_bind (wpAny_pure ?_)
  try dsimp only
  refine wpAny_bind (wpAny_pure ?_)
  try dsimp only
  refine wpAny_bind (wpAny_tryCatch ?_)
  refine wpAny_holding ?_
  refine wpAny_bind (wpAny_pyHash_tuple (by show X.A.in1.units < cLine; simp; omega) hx ?_)
  refine wpAny_bind (findG (s := { s with toks := s.toks + (k.length + 1) }) R hx (by show X.A.in1.units < cLine; simp; omega) fun r hr => ?_)
  refine wpAny_pure ?_
  show wpAny _ _ (ret (Value.bool r.isSome)) _ _ _
  rw [hr]
  exact wpAny_pure ⟨_, rfl, wpAny_truthy_bool (wpAny_pure (hq _))⟩
theorem op_inSetT (hu : X.A.units + 65 < cLine) : OpR X (compareOp .In) (rInT X.K X.prog X.w false) := by
  intro pins s σ H x y v u Q I rx ry h
  obtain ⟨t, a, k, L, rfl, rfl, hk, ha, hL, q⟩ := h
  cases rx
  cases ry
  exact asksG I hu hk ha hL (f := fun b => .bool b) fun tk => ⟨.bl _, H, I.tok _, rfl, q⟩
theorem op_notInSetT (hu : X.A.units + 65 < cLine) : OpR X (compareOp .NotIn) (rInT X.K X.prog X.w true) := by
  intro pins s σ H x y v u Q I rx ry h
  obtain ⟨t, a, k, L, rfl, rfl, hk, ha, hL, q⟩ := h
  cases rx
  cases ry
  exact asksG I hu hk ha hL (f := fun b => .bool (!b)) fun tk => ⟨.bl _, H, I.tok _, rfl, q⟩
end
end Big

/-! Data as wide as what may be handed in, and readings that give something with a property. -/
namespace Sg
open PySem L2 Evl
open PyProof.Rows (envOfC)

/-! ### data -/
mutual
inductive Da (K : PySem.W.Frag) (H : Hp) : V → PyData → Prop
  | non : Da K H .non .none
  | bl (b : Bool) : Da K H (.bl b) (.bool b)
  | int (i : Int) : Da K H (.int i) (.int i)
  | str (x : Str) : Da K H (.str x) (.str x)
  | lst {a : Addr} {xs : List V} {ds : List PyData} (h : SqL K H a xs) (hs : DaAll K H xs ds) : Da K H (.ref a) (.list ds)
  | tup {a : Addr} {xs : List V} {ds : List PyData} (h : SqT K H a xs) (hs : DaAll K H xs ds) : Da K H (.ref a) (.tuple ds)
  | dic {a : Addr} {kvs : List (Key × V)} (h : H a = some (.dK kvs)) : Da K H (.ref a) (.dict [])
inductive DaAll (K : PySem.W.Frag) (H : Hp) : List V → List PyData → Prop
  | nil : DaAll K H [] []
  | cons {v : V} {vs : List V} {d : PyData} {ds : List PyData} (h : Da K H v d) (hs : DaAll K H vs ds) : DaAll K H (v :: vs) (d :: ds)
end
variable {K : PySem.W.Frag} {H H' : Hp}
mutual
theorem Da.mono (e : Ex H H') : ∀ {v : V} {d : PyData}, Da K H v d → Da K H' v d
  | _, _, .non => .non
  | _, _, .bl b => .bl b
  | _, _, .int i => .int i
  | _, _, .str x => .str x
  | _, _, .lst h hs => .lst (ex_l e h) (DaAll.mono e hs)
  | _, _, .tup h hs => .tup (ex_t e h) (DaAll.mono e hs)
  | _, _, .dic h => .dic (e _ _ h)
theorem DaAll.mono (e : Ex H H') : ∀ {vs : List V} {ds : List PyData}, DaAll K H vs ds → DaAll K H' vs ds
  | _, _, .nil => .nil
  | _, _, .cons h hs => .cons (Da.mono e h) (DaAll.mono e hs)
end
theorem DaAll.len : ∀ {vs : List V} {ds : List PyData}, DaAll K H vs ds → vs.length = ds.length
  | _, _, .nil => rfl
  | _, _, .cons _ hs => congrArg (· + 1) hs.len
theorem DaAll.at_ : ∀ {vs : List V} {ds : List PyData}, DaAll K H vs ds → ∀ {i : Nat} {v : V}, vs[i]? = some v → ∃ d, ds[i]? = some d ∧ Da K H v d
  | _, _, .nil, i, v, e => by simp at e
  | _, _, .cons (d := d) h hs, 0, v, e => by
    simp only [List.getElem?_cons_zero, Option.some.injEq] at e
    subst e
    exact ⟨d, rfl, h⟩
  | _, _, .cons h hs, i + 1, v, e => hs.at_ (i := i) (by simpa using e)
theorem DaAll.map {α : Type} (f : α → V) (g : α → PyData) : ∀ (l : List α), (∀ x ∈ l, Da K H (f x) (g x)) → DaAll K H (l.map f) (l.map g)
  | [], _ => .nil
  | x :: l, h => .cons (h x List.mem_cons_self) (DaAll.map f g l fun y hy => h y (List.mem_cons_of_mem _ hy))
theorem DaAll.snoc : ∀ {vs : List V} {ds : List PyData} {v : V} {d : PyData}, DaAll K H vs ds → Da K H v d → DaAll K H (vs ++ [v]) (ds ++ [d])
  | _, _, _, _, .nil, h => .cons h .nil
  | _, _, _, _, .cons a as, h => .cons a (as.snoc h)
theorem da_ints (l : List Int) : DaAll K H (l.map V.int) (l.map PyData.int) := DaAll.map _ _ l fun x _ => .int x
theorem dp_ints : ∀ (l : List Int), DpAll K H (l.map V.int) (l.map PyData.int)
  | [] => .nil
  | x :: l => .cons (.int x) (dp_ints l)
/-- a number or None -/
def oV : Option Int → V
  | none => .non
  | some i => .int i
def oD : Option Int → PyData
  | none => .none
  | some i => .int i
theorem da_o (o : Option Int) : Da K H (oV o) (oD o) := by cases o <;> constructor
theorem da_os (l : List (Option Int)) : DaAll K H (l.map oV) (l.map oD) := DaAll.map _ _ l fun x _ => da_o x
theorem dp_os : ∀ (l : List (Option Int)), DpAll K H (l.map oV) (l.map oD)
  | [] => .nil
  | none :: l => .cons .non (dp_os l)
  | some i :: l => .cons (.int i) (dp_os l)

/-! ### the type of data, and isinstance -/
def tyName : PyData → String
  | .none => "NoneType" | .bool _ => "bool" | .int _ => "int" | .str _ => "str" | .list _ => "list" | .tuple _ => "tuple" | .dict _ => "dict"
def isT (T : String) (d : PyData) : Bool := T == tyName d || (T == "int" && tyName d == "bool")
theorem ty_list {a : Addr} {xs : List V} (h : SqL K H a xs) : TyX K H (.ref a) (.type "list") := by
  rcases h with (h | ⟨o, h⟩) | ⟨o, its, n, h1, h2, _⟩
  · exact .base (.lst h)
  · exact .base (.frz h)
  · exact .kList h1 h2
theorem ty_tup {a : Addr} {xs : List V} (h : SqT K H a xs) : TyX K H (.ref a) (.type "tuple") := by
  rcases h with (h | ⟨o, h⟩) | ⟨o, its, n, h1, h2, _⟩
  · exact .base (.tup h)
  · exact .fTuple h
  · exact .kTuple h1 h2
theorem Da.ty {v : V} {d : PyData} (h : Da K H v d) : TyX K H v (.type (tyName d)) := by
  cases h with
  | non => exact .base .non
  | bl b => exact .base (.bl b)
  | int i => exact .base (.int i)
  | str x => exact .base (.str x)
  | lst h _ => exact ty_list h
  | tup h _ => exact ty_tup h
  | dic h => exact .base (.dK h)
theorem kit_int : ∀ d : PyData, kitB (tyName d) "int" = some (isT "int" d)
  | .none => (by decide +kernel : kitB "NoneType" "int" = some false)
  | .bool _ => (by decide +kernel : kitB "bool" "int" = some true)
  | .int _ => (by decide +kernel : kitB "int" "int" = some true)
  | .str _ => (by decide +kernel : kitB "str" "int" = some false)
  | .list _ => (by decide +kernel : kitB "list" "int" = some false)
  | .tuple _ => (by decide +kernel : kitB "tuple" "int" = some false)
  | .dict _ => (by decide +kernel : kitB "dict" "int" = some false)
theorem kit_bool : ∀ d : PyData, kitB (tyName d) "bool" = some (isT "bool" d)
  | .none => (by decide +kernel : kitB "NoneType" "bool" = some false)
  | .bool _ => (by decide +kernel : kitB "bool" "bool" = some true)
  | .int _ => (by decide +kernel : kitB "int" "bool" = some false)
  | .str _ => (by decide +kernel : kitB "str" "bool" = some false)
  | .list _ => (by decide +kernel : kitB "list" "bool" = some false)
  | .tuple _ => (by decide +kernel : kitB "tuple" "bool" = some false)
  | .dict _ => (by decide +kernel : kitB "dict" "bool" = some false)
theorem kit_list : ∀ d : PyData, kitB (tyName d) "list" = some (isT "list" d)
  | .none => (by decide +kernel : kitB "NoneType" "list" = some false)
  | .bool _ => (by decide +kernel : kitB "bool" "list" = some false)
  | .int _ => (by decide +kernel : kitB "int" "list" = some false)
  | .str _ => (by decide +kernel : kitB "str" "list" = some false)
  | .list _ => (by decide +kernel : kitB "list" "list" = some true)
  | .tuple _ => (by decide +kernel : kitB "tuple" "list" = some false)
  | .dict _ => (by decide +kernel : kitB "dict" "list" = some false)
theorem kit_tuple : ∀ d : PyData, kitB (tyName d) "tuple" = some (isT "tuple" d)
  | .none => (by decide +kernel : kitB "NoneType" "tuple" = some false)
  | .bool _ => (by decide +kernel : kitB "bool" "tuple" = some false)
  | .int _ => (by decide +kernel : kitB "int" "tuple" = some false)
  | .str _ => (by decide +kernel : kitB "str" "tuple" = some false)
  | .list _ => (by decide +kernel : kitB "list" "tuple" = some false)
  | .tuple _ => (by decide +kernel : kitB "tuple" "tuple" = some true)
  | .dict _ => (by decide +kernel : kitB "dict" "tuple" = some false)
theorem ev_isi {te : TE} {σ : L2.St} {v : V} {d : PyData} {T : String} {b : Bool} (h : Ev te σ H v) (hd : Da K H v d) (hk : kitB (tyName d) T = some b) : Ev (tCB (rIsi K) (tCons te (tCons (tC (.ty T)) tNil))) σ H (.bl b) := fun H1 e Q q =>
  h H1 e _ fun H2 e2 => ⟨v, .ty T, _, _, b, rfl, .ty T, (hd.mono (e.trans e2)).ty, kit_ty hk, q H2 e2⟩

/-! ### readings that give something with a property -/
def EvP (te : TE) (σ : L2.St) (H : Hp) (Post : V → Hp → Prop) : Prop := ∀ H1, Ex H H1 → ∀ Q : VK, (∀ v H2, Ex H1 H2 → Post v H2 → Q v H2) → te σ H1 Q
def Give (H : Hp) (Post : V → Hp → Prop) (Q : VK) : Prop := ∀ v H2, Ex H H2 → Post v H2 → Q v H2
def SpP (sp : Sp) (vs : List V) (H : Hp) (Post : V → Hp → Prop) : Prop := ∀ H1, Ex H H1 → ∀ Q : VK, (∀ v H2, Ex H1 H2 → Post v H2 → Q v H2) → ∀ E : XK, sp vs H1 Q E
section
variable {σ : L2.St} {te ta tb : TE} {t u : TT} {v x y z : V} {Post Post' : V → Hp → Prop} {D : Ends} {tz tu tw : TS} {r : R2}
theorem EvP.mono (e : Ex H H') (h : EvP te σ H Post) : EvP te σ H' Post := fun H1 a Q q => h H1 (e.trans a) Q q
theorem EvP.weak (h : EvP te σ H Post) (w : ∀ v H1, Ex H H1 → Post v H1 → Post' v H1) : EvP te σ H Post' := fun H1 e Q q => h H1 e Q fun v H2 e2 p => q v H2 e2 (w v H2 (e.trans e2) p)
theorem evp_of (h : Ev te σ H v) (p : ∀ H1, Ex H H1 → Post v H1) : EvP te σ H Post := fun H1 e Q q => h H1 e Q fun H2 e2 => q v H2 e2 (p H2 (e.trans e2))
theorem evp_l {xs : List V} (h : EvL te σ H xs) (p : ∀ a H1, H a = none → Ex H H1 → H1 a = some (.lst xs) → Post (.ref a) H1) : EvP te σ H Post := fun H1 e Q q =>
  h H1 e Q fun a H2 ha e2 h2 => q (.ref a) H2 e2 (p a H2 (fresh_back e ha) (e.trans e2) h2)
theorem evp_u {xs : List V} (h : EvU te σ H xs) (p : ∀ a H1, H a = none → Ex H H1 → H1 a = some (.tup xs) → Post (.ref a) H1) : EvP te σ H Post := fun H1 e Q q =>
  h H1 e Q fun a H2 ha e2 h2 => q (.ref a) H2 e2 (p a H2 (fresh_back e ha) (e.trans e2) h2)
theorem evp_call {sp : Sp} {dvs vs : List V} {E : XK} {ta : TA} (h : EvA ta σ H vs) (hs : SpP sp (vs ++ dvs) H Post) : EvP (tCall sp dvs E ta) σ H Post := fun H1 e Q q =>
  h H1 e _ fun H2 e2 => hs H2 (e.trans e2) Q (fun v H3 e3 p => q v H3 (e2.trans e3) p) E
/-- an operation whose first part gives something -/
theorem ev_opP (ha : EvP ta σ H Post) (hb : ∀ x H1, Ex H H1 → Post x H1 → ∃ y, Ev tb σ H1 y ∧ RV r x y H1 z) : Ev (tOp r ta tb) σ H z := fun H1 e Q q =>
  ha H1 e _ fun x H2 e2 p => by
    obtain ⟨y, h2, h3⟩ := hb x H2 (e.trans e2) p
    exact h2 H2 (Ex.refl _) _ fun H3 e3 => h3 H3 e3 Q fun H4 e4 => q H4 ((e2.trans e3).trans e4)
theorem ea_consP {tr : TA} {P : List V → Hp → Prop} (h : EvP te σ H Post) (hr : ∀ x H1, Ex H H1 → Post x H1 → ∀ Q : List V → Hp → Prop, (∀ vs H2, Ex H1 H2 → P (x :: vs) H2 → Q vs H2) → tr σ H1 Q) :
    ∀ H1, Ex H H1 → ∀ Q : List V → Hp → Prop, (∀ vs H2, Ex H1 H2 → P vs H2 → Q vs H2) → tCons te tr σ H1 Q := fun H1 e Q q =>
  h H1 e _ fun x H2 e2 p => hr x H2 (e.trans e2) p _ fun vs H3 e3 hP => q _ H3 (e2.trans e3) hP
theorem q_asgP {i : Nat} (h : EvP te σ H Post) (k : ∀ v H1, Ex H H1 → Post v H1 → tz D (σ.set i (some v)) H1) : tSeq (tAsg te (gName i)) tz D σ H := h H (Ex.refl H) _ k
theorem s_asgP {i : Nat} (h : EvP te σ H Post) (k : ∀ v H1, Ex H H1 → Post v H1 → D.nx (σ.set i (some v)) H1) : tAsg te (gName i) D σ H := h H (Ex.refl H) _ k
theorem s_retP (h : EvP te σ H Post) (k : ∀ v H1, Ex H H1 → Post v H1 → D.rt v H1) : tRet te D σ H := h H (Ex.refl H) _ k
theorem q_dropP (h : EvP te σ H Post) (k : ∀ v H1, Ex H H1 → Post v H1 → tz D σ H1) : tSeq (tDrop te) tz D σ H := h H (Ex.refl H) _ k
/-- i, j = (two things) -/
theorem q_unp2 {i j : Nat} (h : EvP te σ H Post) (k : ∀ p H1, Ex H H1 → Post p H1 → ∃ a x y, p = .ref a ∧ SqT K H1 a [x, y] ∧ tz D ((σ.set i (some x)).set j (some y)) H1) : tSeq (tAsg te (gTup K 2 (gCons (gName i) (gCons (gName j) gNil)))) tz D σ H :=
  h H (Ex.refl H) _ fun p H1 e q => by
    obtain ⟨a, x, y, rfl, ht, hk⟩ := k p H1 e q
    exact ⟨a, _, rfl, ht, rfl, x, _, rfl, y, _, rfl, rfl, hk⟩
theorem q_unp3 {i j l : Nat} (h : EvP te σ H Post) (k : ∀ p H1, Ex H H1 → Post p H1 → ∃ a x y z, p = .ref a ∧ SqT K H1 a [x, y, z] ∧ tz D (((σ.set i (some x)).set j (some y)).set l (some z)) H1) : tSeq (tAsg te (gTup K 3 (gCons (gName i) (gCons (gName j) (gCons (gName l) gNil))))) tz D σ H :=
  h H (Ex.refl H) _ fun p H1 e q => by
    obtain ⟨a, x, y, z, rfl, ht, hk⟩ := k p H1 e q
    exact ⟨a, _, rfl, ht, rfl, x, _, rfl, y, _, rfl, z, _, rfl, rfl, hk⟩
/-- x < y <= z -/
theorem ev_chain {r' : R2} {tc : TE} {b b2 : Bool} {w : V} (ha : Ev ta σ H x) (hb : Ev tb σ H y) (hr : RV r x y H (.bl b)) (hc : b = true → Ev tc σ H w) (hr' : b = true → RV r' y w H (.bl b2)) : Ev (tChain r r' ta tb tc) σ H (.bl (b && b2)) := fun H1 e Q q =>
  ha H1 e _ fun H2 e2 => hb H2 (e.trans e2) _ fun H3 e3 => hr H3 ((e.trans e2).trans e3) _ fun H4 e4 => ⟨b, rfl, by
    cases b with
    | true => exact iteT (hc rfl H4 (((e.trans e2).trans e3).trans e4) _ fun H5 e5 => hr' rfl H5 ((((e.trans e2).trans e3).trans e4).trans e5) Q fun H6 e6 => q H6 ((((e2.trans e3).trans e4).trans e5).trans e6))
    | false => exact iteF (q H4 ((e2.trans e3).trans e4))⟩
theorem rv_lt {i j : Int} : RV (rI0 fun i j => .bl (decide (i < j))) (.int i) (.int j) H (.bl (decide (i < j))) := rv_I0
theorem rv_isN : RV (fun x y H Q => y = .non ∧ Q (.bl (decide (x = .non))) H) x .non H (.bl (decide (x = .non))) := fun H1 _ _ q => ⟨rfl, q H1 (Ex.refl H1)⟩
theorem rv_notN : RV (fun x y H Q => y = .non ∧ Q (.bl (!decide (x = .non))) H) x .non H (.bl (!decide (x = .non))) := fun H1 _ _ q => ⟨rfl, q H1 (Ex.refl H1)⟩
/-- a value's truth -/
theorem et_tru {b : Bool} (h : Ev te σ H x) (ht : ∀ H1, Ex H H1 → TruV K x H1 b) : EvT (fun σ H Q => te σ H fun x H' => ∃ k, TruV K x H' k ∧ Q k H') σ H b := fun H1 e _ q => h H1 e _ fun H2 e2 => ⟨b, ht H2 (e.trans e2), q H2 e2⟩
/-- all, any of a list of truths that is made for it -/
theorem ev_all {bs : List Bool} (h : EvL te σ H (bs.map V.bl)) : Ev (tCB (rAll K) (tCons te tNil)) σ H (.bl (bs.all id)) := fun H1 e Q q =>
  h H1 e _ fun p H2 _ e2 h2 => ⟨p, bs, rfl, sq_of h2, q H2 e2⟩
theorem ev_any {bs : List Bool} (h : EvL te σ H (bs.map V.bl)) : Ev (tCB (rAny K) (tCons te tNil)) σ H (.bl (bs.any id)) := fun H1 e Q q =>
  h H1 e _ fun p H2 _ e2 h2 => ⟨p, bs, rfl, sq_of h2, q H2 e2⟩
/-- len of what stands -/
theorem ev_lenT {p : Addr} {xs : List V} (ha : Ev ta σ H (.ref p)) (h : SqT K H p xs) : Ev (tCB (rLenS K) (tCons ta tNil)) σ H (.int (xs.length : Int)) := fun H1 e Q q =>
  ha H1 e _ fun H2 e2 => ⟨p, xs, rfl, .inr (ex_t (e.trans e2) h), q H2 e2⟩
theorem ev_cbP {rr : List V → Hp → VK → Prop} (h : EvP te σ H Post) (hr : ∀ x H1, Ex H H1 → Post x H1 → RC rr [x] H1 z) : Ev (tCB rr (tCons te tNil)) σ H z := fun H1 e Q q =>
  h H1 e _ fun x H2 e2 p => hr x H2 (e.trans e2) p H2 (Ex.refl _) Q fun H3 e3 => q H3 (e2.trans e3)
end

/-! ### defs, methods, makers as the top has left them -/
structure DefOk (K : PySem.W.Frag) (mg : Str → Option Value) (x : Str) (st : Stmt) : Prop where
  ex : ∃ (f : Addr) (fd : FuncData), C8.Def K mg x st f fd ∧ fd.defaults = .none
structure MethOk (K : PySem.W.Frag) (C : Addr) (m qual : Str) (st : Stmt) : Prop where
  ex : ∃ (f : Addr) (fd : FuncData), Meth K C m f ∧ C8.Fun K m qual st f fd ∧ fd.defaults = .none
structure MakeOk (K : PySem.W.Frag) (mg : Str → Option Value) (x qual : Str) (C : Addr) (st : Stmt) : Prop where
  ex : ∃ (f : Addr) (fd : FuncData), Mk K C f ∧ mg x = some (.ref C) ∧ C8.Fun K "__init__" qual st f fd ∧ fd.defaults = .none
/-- how the arguments bind -/
def BindOkM (m qual : Str) (st : Stmt) (ps : List Str) : Prop := ∀ (kV doc pm : Value) (an : Option Addr) (cdv ct : Value) (us : List Value), us.length = ps.length → bindArgs (PySem.W.fnOf m qual (C8.fnArgs st) (C8.fnBody st) (C8.fnScope st) .none kV doc pm an cdv ct) ⟨us, []⟩ = pure (ps.zip us)
section
variable {P : Program} {w : World} {mg : Str → Option Value} {base : Heap} {x m qual : Str} {st : Stmt} {C : Addr} {N ps : List Str} {k : Nat} {sp : Sp}
theorem cal_of (D : DefOk K mg x st) (S : FnScope N ps (C8.fnScope st)) (hb : BindOkM x x st ps) (len : ∀ vs H Q E, sp vs H Q E → vs.length = ps.length)
    (hbody : ∀ (f : Addr) (cdv : Value) (A : Around) (outer : List Env) (s : Shared) (H : Hp) (vs : List V) (Q : VK) (E : XK), Room k (A.deeper (envOfC x (C8.fnScope st) s.heap.objs.size f cdv)) → sp vs H Q E →
      ∃ t, PSs (cxOf C8.CX0 P w K mg base N x (C8.fnScope st) f cdv A outer s H E).nox (C8.fnBody st) t ∧ t { nx := fun _ H' => Q .non H', rt := Q } (start N vs) H) : C8.Cal P w K mg base (k + 1) x sp [] := by
  obtain ⟨f, fd, d, e⟩ := D.ex
  exact C8.cal0 d (d.fn.binds e hb) .nil S len (hbody f)
theorem met_of (c : Cls K C) (D : MethOk K C m qual st) (S : FnScope N ps (C8.fnScope st)) (hb : BindOkM m qual st ps) (len : ∀ vs H Q E, sp vs H Q E → vs.length = ps.length)
    (hbody : ∀ (f : Addr) (cdv : Value) (A : Around) (outer : List Env) (s : Shared) (H : Hp) (vs : List V) (Q : VK) (E : XK), Room k (A.deeper (envOfC qual (C8.fnScope st) s.heap.objs.size f cdv)) → sp vs H Q E →
      ∃ t, PSs (cxOf C8.CX0 P w K mg base N qual (C8.fnScope st) f cdv A outer s H E).nox (C8.fnBody st) t ∧ t { nx := fun _ H' => Q .non H', rt := Q } (start N vs) H) : C8.Met P w K mg base (k + 1) C m sp [] := by
  obtain ⟨f, fd, me, d, e⟩ := D.ex
  exact C8.met0 c me d (d.binds e hb) S len (hbody f)
theorem mak_of (D : MakeOk K mg x qual C st) (S : FnScope N ps (C8.fnScope st)) (hb : BindOkM "__init__" qual st ps) (len : ∀ vs H Q E, sp vs H Q E → vs.length = ps.length)
    (hbody : ∀ (f : Addr) (cdv : Value) (A : Around) (outer : List Env) (s : Shared) (H : Hp) (vs : List V) (Q : VK) (E : XK), Room k (A.deeper (envOfC qual (C8.fnScope st) s.heap.objs.size f cdv)) → sp vs H Q E →
      ∃ t, PSs (cxOf C8.CX0 P w K mg base N qual (C8.fnScope st) f cdv A outer s H E).nox (C8.fnBody st) t ∧ t { nx := fun _ H' => Q .non H', rt := Q } (start N vs) H) : C8.Mak P w K mg base (k + 1) x C sp [] := by
  obtain ⟨f, fd, mk, hm, d, e⟩ := D.ex
  exact C8.mak0 mk hm d (d.binds e hb) .nil S len (hbody f)
end

/-! ### from what the top's walk finds -/
structure OwnTy (K : PySem.W.Frag) (C : Addr) : Prop where
  ha : PySem.W.findIn K (.ref C) "__class__" = some (some (.builtin "object.__class__"))
  hn : PySem.W.specialIn K (.builtin "object.__class__") "__get__" = some (some (.builtin "getset_descriptor.__get__"))
  htk : PySem.W.takesIn K (.builtin "object.__class__") = some true
  hm : PySem.W.mroIn K C (.type "object") = some true
section
variable {mg : Str → Option Value} {x m qual : Str} {st : Stmt} {C f : Addr} {oc : Value} {od an : Option Addr} {osl : Array (Option Value)} {kV doc pm cdv ct : Value}
theorem defOk_mk (g : mg x = some (.ref f)) (l : K.lookup f = some ⟨oc, od, .func (PySem.W.fnOf x x (C8.fnArgs st) (C8.fnBody st) (C8.fnScope st) .none kV doc pm an cdv ct), osl⟩)
    (c : PySem.W.codeIn K cdv x = true) (k : PySem.W.keepIn K (.ref f) = true) : DefOk K mg x st := ⟨f, _, ⟨⟨oc, od, .none, kV, doc, pm, an, cdv, ct, osl, rfl, l, c⟩, g, k⟩, rfl⟩
theorem methOk_mk (a : PySem.W.findIn K (.ref C) m = some (some (.ref f))) (i : PySem.W.isFn K (.ref f) = true) (l : K.lookup f = some ⟨oc, od, .func (PySem.W.fnOf m qual (C8.fnArgs st) (C8.fnBody st) (C8.fnScope st) .none kV doc pm an cdv ct), osl⟩)
    (c : PySem.W.codeIn K cdv qual = true) (k : PySem.W.keepIn K (.ref f) = true) : MethOk K C m qual st := ⟨f, _, ⟨a, i, k⟩, ⟨oc, od, .none, kV, doc, pm, an, cdv, ct, osl, rfl, l, c⟩, rfl⟩
theorem makeOk_mk (g : mg x = some (.ref C)) (mk : PySem.W.makesIn K C = true) (a : PySem.W.findIn K (.ref C) "__init__" = some (some (.ref f))) (i : PySem.W.isFn K (.ref f) = true)
    (l : K.lookup f = some ⟨oc, od, .func (PySem.W.fnOf "__init__" qual (C8.fnArgs st) (C8.fnBody st) (C8.fnScope st) .none kV doc pm an cdv ct), osl⟩)
    (c : PySem.W.codeIn K cdv qual = true) (k : PySem.W.keepIn K (.ref C) = true) : MakeOk K mg x qual C st := ⟨f, _, ⟨mk, a, i, k⟩, g, ⟨oc, od, .none, kV, doc, pm, an, cdv, ct, osl, rfl, l, c⟩, rfl⟩
end
end Sg

/-! Comprehensions and loops in the forms that are wanted here. -/
namespace Sg
open PySem L2 Evl Big
variable {K : PySem.W.Frag} {H H' : Hp} {σ : L2.St} {te ta tb : TE} {t u : TT} {v x y z : V} {D : Ends} {tz tu tw : TS} {g : TG}

theorem et_yes : EvT tYes σ H true := fun H1 _ _ q => q H1 (Ex.refl H1)
theorem filter_map_range {α β : Type} (l : List α) (p : α → Bool) (F : α → β) (pi : Nat → Bool) (Fi : Nat → β) (h : ∀ i x, l[i]? = some x → pi i = p x ∧ Fi i = F x) : ((List.range l.length).filter pi).map Fi = (l.filter p).map F := by
  have key : ∀ (l : List α) (k : Nat), (∀ i x, l[i]? = some x → pi (k + i) = p x ∧ Fi (k + i) = F x) → ((List.range' k l.length).filter pi).map Fi = (l.filter p).map F := by
    intro l
    induction l with
    | nil => intro k _; rfl
    | cons x l ih =>
      intro k h
      obtain ⟨h1, h2⟩ := h 0 x rfl
      rw [Nat.add_zero] at h1 h2
      have ih' := ih (k + 1) fun i y e => by
        have q := h (i + 1) y (by simpa using e)
        rw [show k + 1 + i = k + (i + 1) by omega]
        exact q
      rw [List.length_cons, List.range'_succ, List.filter_cons, List.filter_cons, h1]
      cases p x with
      | true => simp only [if_true, List.map_cons, h2, ih']
      | false => simp only [Bool.false_eq_true, if_false, ih']
  rw [List.range_eq_range']
  refine key l 0 fun i x e => ?_
  rw [Nat.zero_add]
  exact h i x e
theorem given_is {α : Type} (l : List α) (p : α → Bool) (F : α → V) (n : Nat) (hn : n = l.length) : given n (fun i => (l[i]?.map p).getD false) (fun i => (l[i]?.map F).getD .non) = (l.filter p).map F := by
  subst hn
  refine filter_map_range l p F _ _ fun i x e => ?_
  rw [e]
  exact ⟨rfl, rfl⟩
theorem wipe1 (σ : L2.St) (j : Nat) (x : Option V) : wipe ((wipe σ [j]).set j x) [j] = wipe σ [j] := by
  show ((σ.set j none).set j x).set j none = σ.set j none
  rw [List.set_set, List.set_set]
theorem wipe2 (σ : L2.St) {i j : Nat} (hij : i ≠ j) (x y : Option V) : wipe (((wipe σ [i, j]).set i x).set j y) [i, j] = wipe σ [i, j] := by
  show (((((σ.set j none).set i none).set i x).set j y).set j none).set i none = (σ.set j none).set i none
  generalize hs : σ.set j none = τ
  have e1 : (τ.set i none).set i x = τ.set i x := List.set_set none
  have e2 : ((τ.set i x).set j y).set j none = (τ.set i x).set j none := List.set_set y
  have e3 : (τ.set i x).set j none = (τ.set j none).set i x := List.set_comm x none hij
  have e4 : τ.set j none = τ := by rw [← hs]; exact List.set_set none
  have e5 : (τ.set i x).set i none = τ.set i none := List.set_set x
  rw [e1, e2, e3, e4, e5]

section
variable {α : Type}
/-- [e for x in xs if c] -/
theorem el_filtL {a : Addr} {tl : TE} {j : Nat} (l : List α) (f : α → V) (p : α → Bool) (F : α → V) (h : Ev tl σ H (.ref a)) (hx : SqL K H a (l.map f)) (hz : l.length ≤ 40000)
    (ht : ∀ x ∈ l, ∀ H1, Ex H H1 → EvT t ((wipe σ [j]).set j (some (f x))) H1 (p x)) (he : ∀ x ∈ l, ∀ H1, Ex H H1 → p x = true → Ev te ((wipe σ [j]).set j (some (f x))) H1 (F x)) :
    EvL (tLc (iList K tl) (gName j) t te [j]) σ H ((l.filter p).map F) := by
  have at_ : ∀ (i : Nat) (x : V), (l.map f)[i]? = some x → ∃ y, l[i]? = some y ∧ y ∈ l ∧ x = f y := by
    intro i x e
    rw [List.getElem?_map] at e
    obtain ⟨y, e1, e2⟩ := Option.map_eq_some_iff.mp e
    exact ⟨y, e1, List.mem_of_getElem? e1, e2.symm⟩
  rw [← given_is l p F (l.map f).length (by simp)]
  refine el_lcL _ _ h hx (by simpa using hz) (fun x => wipe1 σ j _) (fun i x H1 e1 hi => ?_) (fun i x H1 e1 hi hf => ?_)
  · obtain ⟨y, e2, hm, rfl⟩ := at_ i x hi
    rw [e2]
    exact ht y hm H1 e1
  · obtain ⟨y, e2, hm, rfl⟩ := at_ i x hi
    rw [e2] at hf ⊢
    exact he y hm H1 e1 hf
theorem filter_yes (l : List α) : l.filter (fun _ => true) = l := by simp
theorem el_mapL {a : Addr} {tl : TE} {j : Nat} (l : List α) (f : α → V) (F : α → V) (h : Ev tl σ H (.ref a)) (hx : SqL K H a (l.map f)) (hz : l.length ≤ 40000)
    (he : ∀ x ∈ l, ∀ H1, Ex H H1 → Ev te ((wipe σ [j]).set j (some (f x))) H1 (F x)) : EvL (tLc (iList K tl) (gName j) tYes te [j]) σ H (l.map F) := by
  have q := el_filtL (t := tYes) (te := te) (j := j) l f (fun _ => true) F h hx hz (fun _ _ _ _ => et_yes) fun x hm H1 e _ => he x hm H1 e
  rwa [filter_yes] at q
/-- .. over a new list -/
theorem el_filtN {tl : TE} {j : Nat} (l : List α) (f : α → V) (p : α → Bool) (F : α → V) (h : EvL tl σ H (l.map f)) (hz : l.length ≤ 40000)
    (ht : ∀ x ∈ l, ∀ H1, Ex H H1 → EvT t ((wipe σ [j]).set j (some (f x))) H1 (p x)) (he : ∀ x ∈ l, ∀ H1, Ex H H1 → p x = true → Ev te ((wipe σ [j]).set j (some (f x))) H1 (F x)) :
    EvL (tLc (iList K tl) (gName j) t te [j]) σ H ((l.filter p).map F) := by
  have at_ : ∀ (i : Nat) (x : V), (l.map f)[i]? = some x → ∃ y, l[i]? = some y ∧ y ∈ l ∧ x = f y := by
    intro i x e
    rw [List.getElem?_map] at e
    obtain ⟨y, e1, e2⟩ := Option.map_eq_some_iff.mp e
    exact ⟨y, e1, List.mem_of_getElem? e1, e2.symm⟩
  rw [← given_is l p F (l.map f).length (by simp)]
  refine el_lcNL _ _ h (by simpa using hz) (fun x => wipe1 σ j _) (fun i x H1 e1 hi => ?_) (fun i x H1 e1 hi hf => ?_)
  · obtain ⟨y, e2, hm, rfl⟩ := at_ i x hi
    rw [e2]
    exact ht y hm H1 e1
  · obtain ⟨y, e2, hm, rfl⟩ := at_ i x hi
    rw [e2] at hf ⊢
    exact he y hm H1 e1 hf
end
/-- [e for i in range(n) if c], n of any sign -/
theorem el_filtR {ta : TA} {j : Nat} {n : Int} (p : Nat → Bool) (F : Nat → V) (h : EvA ta σ H [.int n]) (hn : -40000 ≤ n ∧ n ≤ 40000)
    (ht : ∀ (i : Nat) H1, Ex H H1 → (i : Int) < n → EvT t ((wipe σ [j]).set j (some (.int (i : Int)))) H1 (p i)) (he : ∀ (i : Nat) H1, Ex H H1 → (i : Int) < n → p i = true → Ev te ((wipe σ [j]).set j (some (.int (i : Int)))) H1 (F i)) :
    EvL (tLc (iRng1 ta) (gName j) t te [j]) σ H (((List.range n.toNat).filter p).map F) := fun H0 e Q q => h H0 e _ fun H1 e1 => ⟨n, rfl, by omega, by omega, fun Dl hD =>
  lc_range (lo := 0) (n := n.toNat) (Cw H1 p F Dl) ⟨hD, Ex.new hD, upd_same⟩ (fun i H' hi pv => by
    have e0 : (0 : Int) + (i : Int) = (i : Int) := Int.zero_add _
    show wipe ((wipe σ [j]).set j (some (.int ((0 : Int) + (i : Int))))) [j] = wipe σ [j] ∧ t ((wipe σ [j]).set j (some (.int ((0 : Int) + (i : Int))))) H' fun b H3 => if b = true then te ((wipe σ [j]).set j (some (.int ((0 : Int) + (i : Int))))) H3 fun y H4 => ∃ acc, H4 Dl = some (.lst acc) ∧ acc.length < sizeLine ∧ Cw H1 p F Dl (i + 1) (upd H4 Dl (.lst (acc ++ [y]))) else Cw H1 p F Dl (i + 1) H3
    rw [e0]
    exact ⟨wipe1 σ j _, cw_turn pv (by omega) (ht i H1 (e.trans e1) (by omega)) (fun hf => he i H1 (e.trans e1) (by omega) hf)⟩) (fun H' pv => q Dl H' (fresh_back e1 pv.1) (e1.trans pv.2.1) pv.2.2)⟩
theorem el_mapR {ta : TA} {j : Nat} {n : Int} (F : Nat → V) (h : EvA ta σ H [.int n]) (hn : -40000 ≤ n ∧ n ≤ 40000) (he : ∀ (i : Nat) H1, Ex H H1 → (i : Int) < n → Ev te ((wipe σ [j]).set j (some (.int (i : Int)))) H1 (F i)) :
    EvL (tLc (iRng1 ta) (gName j) tYes te [j]) σ H ((List.range n.toNat).map F) := by
  have q := el_filtR (t := tYes) (te := te) (j := j) (fun _ => true) F h hn (fun _ _ _ _ => et_yes) fun i H1 e hi _ => he i H1 e hi
  rwa [filter_yes] at q

/-- what a comprehension gives at a turn: a value, or a new list -/
def Item (H0 : Hp) (Dl : Addr) : V ⊕ List V → V → Hp → Prop
  | .inl w, y, _ => y = w
  | .inr xs, y, H => ∃ p, y = .ref p ∧ p ≠ Dl ∧ H0 p = none ∧ H p = some (.lst xs)
theorem Item.keep {H0 H1 H2 : Hp} {Dl : Addr} {E : V ⊕ List V} {y : V} (h : Item H0 Dl E y H1) (k : ∀ b o, b ≠ Dl → H1 b = some o → H2 b = some o) : Item H0 Dl E y H2 := by
  cases E with
  | inl w => exact h
  | inr xs =>
    obtain ⟨p, e1, e2, e3, e4⟩ := h
    exact ⟨p, e1, e2, e3, k p _ e2 e4⟩
/-- the items told so far -/
structure Items (H0 : Hp) (Dl : Addr) (E : Nat → V ⊕ List V) (n : Nat) (ys : List V) (H : Hp) : Prop where
  len : ys.length = n
  at_ : ∀ i y, ys[i]? = some y → Item H0 Dl (E i) y H
  inj : ∀ (i j : Nat) p, ys[i]? = some (.ref p) → ys[j]? = some (.ref p) → (∃ xs, E i = .inr xs) → (∃ xs, E j = .inr xs) → i = j
def EvI (te : TE) (σ : L2.St) (H : Hp) : V ⊕ List V → Prop
  | .inl w => Ev te σ H w
  | .inr xs => EvL te σ H xs
def Mw (H : Hp) (E : Nat → V ⊕ List V) (Dl : Addr) (i : Nat) (H' : Hp) : Prop := H Dl = none ∧ Ex H H' ∧ ∃ ys, H' Dl = some (.lst ys) ∧ Items H Dl E i ys H'
theorem mw_turn {H H' : Hp} {E : Nat → V ⊕ List V} {Dl : Addr} {i : Nat} {σ2 : L2.St} (p : Mw H E Dl i H') (hi : i < 50000) (he : EvI te σ2 H (E i)) :
    te σ2 H' fun y H4 => ∃ acc, H4 Dl = some (.lst acc) ∧ acc.length < sizeLine ∧ Mw H E Dl (i + 1) (upd H4 Dl (.lst (acc ++ [y]))) := by
  obtain ⟨p1, p2, ys, p3, p4⟩ := p
  have fin : ∀ y H4, Ex H' H4 → Item H Dl (E i) y H4 → (∀ p (k : Nat), y = .ref p → ys[k]? = some (.ref p) → (∃ xs, E k = .inr xs) → (∃ xs, E i = .inr xs) → False) → ∃ acc, H4 Dl = some (.lst acc) ∧ acc.length < sizeLine ∧ Mw H E Dl (i + 1) (upd H4 Dl (.lst (acc ++ [y]))) := by
    intro y H4 e4 it hnew
    have snoc : ∀ (k : Nat) z, (ys ++ [y])[k]? = some z → ys[k]? = some z ∨ (k = i ∧ y = z) := by
      intro k z hz
      by_cases c : k < ys.length
      · rw [List.getElem?_append_left c] at hz; exact .inl hz
      · rw [List.getElem?_append_right (by omega)] at hz
        have h0 : k - ys.length = 0 := by
          have := (List.getElem?_eq_some_iff.mp hz).1
          simp at this; omega
        rw [h0] at hz
        exact .inr ⟨by have := p4.len; omega, by simpa using hz⟩
    refine ⟨ys, e4 Dl _ p3, sz_lt (by rw [p4.len]; omega), p1, Ex.mut (p2.trans e4) p1, ys ++ [y], upd_same, ⟨by rw [List.length_append, p4.len]; rfl, fun k z hz => ?_, fun a b p ha hb ra rb => by
      rcases snoc a _ ha with ha | ⟨rfl, ha⟩
      · rcases snoc b _ hb with hb | ⟨rfl, hb⟩
        · exact p4.inj a b p ha hb ra rb
        · exact (hnew p a hb ha ra rb).elim
      · rcases snoc b _ hb with hb | ⟨rfl, hb⟩
        · exact (hnew p b ha hb rb ra).elim
        · rfl⟩⟩
    have kp : ∀ b o, b ≠ Dl → H4 b = some o → (upd H4 Dl (.lst (ys ++ [y]))) b = some o := fun b o hb e => by rw [upd_ne hb]; exact e
    by_cases c : k < ys.length
    · rw [List.getElem?_append_left c] at hz
      exact ((p4.at_ k z hz).keep fun b o _ e => e4 b o e).keep kp
    · rw [List.getElem?_append_right (by omega)] at hz
      have h0 : k - ys.length = 0 := by
        have := (List.getElem?_eq_some_iff.mp hz).1
        simp at this; omega
      rw [h0] at hz
      have hk : k = i := by have := p4.len; omega
      have ez : y = z := by simpa using hz
      subst ez; subst hk
      exact it.keep kp
  cases hE : E i with
  | inl w =>
    rw [hE] at he fin
    exact he H' p2 _ fun H4 e4 => fin w H4 e4 rfl fun p k _ _ _ ⟨xs, z⟩ => by cases z
  | inr xs =>
    rw [hE] at he fin
    refine he H' p2 _ fun q H4 hq e4 h4 => fin (.ref q) H4 e4 ⟨q, rfl, fun z => ?_, fresh_back p2 hq, h4⟩ fun p k ep hk ⟨ys', rk⟩ _ => ?_
    · rw [z, p3] at hq
      cases hq
    · have it := p4.at_ k _ hk
      rw [rk] at it
      obtain ⟨r, z1, _, _, z4⟩ := it
      have e1 : q = r := by
        have := ep.trans z1
        injection this
      rw [e1, z4] at hq
      cases hq
/-- [e for x in xs], e a value or a new list -/
theorem el_mixLd {α : Type} {a : Addr} {tl : TE} {j : Nat} (l : List α) (f : α → V) (F : α → V ⊕ List V) (h : Ev tl σ H (.ref a)) (hx : SqL K H a (l.map f)) (hz : l.length ≤ 40000)
    (he : ∀ x ∈ l, ∀ H1, Ex H H1 → EvI te ((wipe σ [j]).set j (some (f x))) H1 (F x)) :
    EvP (tLc (iList K tl) (gName j) tYes te [j]) σ H (fun v H2 => ∃ Dl ys, v = .ref Dl ∧ H Dl = none ∧ H2 Dl = some (.lst ys) ∧ ys.length = l.length ∧ (∀ (i : Nat) x y, l[i]? = some x → ys[i]? = some y → Item H Dl (F x) y H2) ∧ ∀ (i j : Nat) p, ys[i]? = some (.ref p) → ys[j]? = some (.ref p) → (∃ x xs, l[i]? = some x ∧ F x = .inr xs) → (∃ x xs, l[j]? = some x ∧ F x = .inr xs) → i = j) := by
  intro H0 e Q q
  refine h H0 e _ fun H1 e1 => ⟨a, rfl, ⟨_, ex_l (e.trans e1) hx⟩, fun Dl hD => ?_⟩
  have at_ : ∀ (i : Nat) (x : V), (l.map f)[i]? = some x → ∃ y, l[i]? = some y ∧ y ∈ l ∧ x = f y := by
    intro i x e
    rw [List.getElem?_map] at e
    obtain ⟨y, e1, e2⟩ := Option.map_eq_some_iff.mp e
    exact ⟨y, e1, List.mem_of_getElem? e1, e2.symm⟩
  refine lc_list (xs := l.map f) (Mw H1 (fun i => (l[i]?.map F).getD (.inl .non)) Dl) ⟨hD, Ex.new hD, [], upd_same, rfl, fun i y e => by simp at e, fun i j p e => by simp at e⟩ (fun i H' _ p => ex_l ((e.trans e1).trans p.2.1) hx) (fun i x H' hi p => ⟨wipe1 σ j _, ?_⟩) (fun H' p => ?_)
  · obtain ⟨y, e2, hm, rfl⟩ := at_ i x hi
    have hi' := (List.getElem?_eq_some_iff.mp hi).1
    rw [List.length_map] at hi'
    refine iteT (B := Mw H1 (fun i => (l[i]?.map F).getD (.inl .non)) Dl (i + 1) H') (mw_turn p (by omega) ?_)
    rw [e2]
    exact he y hm H1 (e.trans e1)
  · obtain ⟨p1, p2, ys, p3, p4⟩ := p
    refine q _ H' (e1.trans p2) ⟨Dl, ys, rfl, fresh_back (e.trans e1) p1, p3, by rw [p4.len, List.length_map], fun i x y hx' hy => ?_, fun i j p hi hj ⟨x, xs, e1, e2⟩ ⟨y, ys', f1, f2⟩ => p4.inj i j p hi hj ⟨xs, by rw [e1]; exact e2⟩ ⟨ys', by rw [f1]; exact f2⟩⟩
    have it := p4.at_ i y hy
    rw [hx'] at it
    show Item H Dl (F x) y H'
    have it' : Item H1 Dl (F x) y H' := it
    cases hF : F x with
    | inl w => rw [hF] at it'; exact it'
    | inr xs =>
      rw [hF] at it'
      obtain ⟨p, z1, z2, z3, z4⟩ := it'
      exact ⟨p, z1, z2, fresh_back (e.trans e1) z3, z4⟩
theorem el_mixL {α : Type} {a : Addr} {tl : TE} {j : Nat} (l : List α) (f : α → V) (F : α → V ⊕ List V) (h : Ev tl σ H (.ref a)) (hx : SqL K H a (l.map f)) (hz : l.length ≤ 40000)
    (he : ∀ x ∈ l, ∀ H1, Ex H H1 → EvI te ((wipe σ [j]).set j (some (f x))) H1 (F x)) :
    EvP (tLc (iList K tl) (gName j) tYes te [j]) σ H (fun v H2 => ∃ Dl ys, v = .ref Dl ∧ H Dl = none ∧ H2 Dl = some (.lst ys) ∧ ys.length = l.length ∧ ∀ (i : Nat) x y, l[i]? = some x → ys[i]? = some y → Item H Dl (F x) y H2) :=
  (el_mixLd l f F h hx hz he).weak fun v H1 _ ⟨Dl, ys, h1, h2, h3, h4, h5, _⟩ => ⟨Dl, ys, h1, h2, h3, h4, h5⟩
/-- [e for i in range(n)], e a new list -/
theorem el_mixR {ta : TA} {j : Nat} {n : Int} (F : Nat → V ⊕ List V) (h : EvA ta σ H [.int n]) (hn : -40000 ≤ n ∧ n ≤ 40000) (he : ∀ (i : Nat) H1, Ex H H1 → (i : Int) < n → EvI te ((wipe σ [j]).set j (some (.int (i : Int)))) H1 (F i)) :
    EvP (tLc (iRng1 ta) (gName j) tYes te [j]) σ H (fun v H2 => ∃ Dl ys, v = .ref Dl ∧ H Dl = none ∧ H2 Dl = some (.lst ys) ∧ ys.length = n.toNat ∧ ∀ (i : Nat) y, ys[i]? = some y → Item H Dl (F i) y H2) := by
  intro H0 e Q q
  refine h H0 e _ fun H1 e1 => ⟨n, rfl, by omega, by omega, fun Dl hD => ?_⟩
  refine lc_range (lo := 0) (n := n.toNat) (Mw H1 F Dl) ⟨hD, Ex.new hD, [], upd_same, rfl, fun i y e => by simp at e, fun i j p e => by simp at e⟩ (fun i H' hi p => ?_) (fun H' p => ?_)
  · have e0 : (0 : Int) + (i : Int) = (i : Int) := Int.zero_add _
    show wipe ((wipe σ [j]).set j (some (.int ((0 : Int) + (i : Int))))) [j] = wipe σ [j] ∧ (if true = true then te ((wipe σ [j]).set j (some (.int ((0 : Int) + (i : Int))))) H' (fun y H4 => ∃ acc, H4 Dl = some (.lst acc) ∧ acc.length < sizeLine ∧ Mw H1 F Dl (i + 1) (upd H4 Dl (.lst (acc ++ [y])))) else Mw H1 F Dl (i + 1) H')
    rw [e0]
    exact ⟨wipe1 σ j _, iteT (mw_turn p (by omega) (he i H1 (e.trans e1) (by omega)))⟩
  · obtain ⟨p1, p2, ys, p3, p4⟩ := p
    refine q _ H' (e1.trans p2) ⟨Dl, ys, rfl, fresh_back (e.trans e1) p1, p3, p4.len, fun i y hy => ?_⟩
    have it := p4.at_ i y hy
    cases hF : F i with
    | inl w => rw [hF] at it; exact it
    | inr xs =>
      rw [hF] at it
      obtain ⟨p, z1, z2, z3, z4⟩ := it
      exact ⟨p, z1, z2, fresh_back (e.trans e1) z3, z4⟩
/-- [e for i, x in enumerate(xs) if c]; xs new or not: who is at a stands -/
theorem el_enum {α : Type} {ta : TA} {i1 i2 : Nat} (h12 : i1 ≠ i2) (l : List α) (f : α → V) (p : Nat → α → Bool) (F : Nat → α → V) {Post : V → Hp → Prop} (h : ∀ H1, Ex H H1 → ∀ Q : List V → Hp → Prop, (∀ a H2, Ex H1 H2 → SqL K H2 a (l.map f) → Q [.ref a] H2) → ta σ H1 Q) (hz : l.length ≤ 40000)
    (ht : ∀ (k : Nat) x, l[k]? = some x → ∀ H1, Ex H H1 → EvT t (((wipe σ [i1, i2]).set i1 (some (.int (k : Int)))).set i2 (some (f x))) H1 (p k x))
    (he : ∀ (k : Nat) x, l[k]? = some x → ∀ H1, Ex H H1 → p k x = true → Ev te (((wipe σ [i1, i2]).set i1 (some (.int (k : Int)))).set i2 (some (f x))) H1 (F k x)) :
    EvL (tLc (iEnum K ta) (gTup K 2 (gCons (gName i1) (gCons (gName i2) gNil))) t te [i1, i2]) σ H (given l.length (fun k => (l[k]?.map (p k)).getD false) (fun k => (l[k]?.map (F k)).getD .non)) := by
  intro H0 e Q q
  refine h H0 e _ fun a H1 e1 hx => ⟨a, _, rfl, hx, fun Dl hD => ?_⟩
  have hw : Walk (Ite K a) l.length (fun H => SqL K H a (l.map f)) (YPair (fun i => some (.int (i : Nat))) (fun i => (l.map f)[i]?)) := by
    have := walk_enum (K := K) (a := a) (xs := l.map f)
    rwa [List.length_map] at this
  refine lc_it hw (Cw H1 (fun k => (l[k]?.map (p k)).getD false) (fun k => (l[k]?.map (F k)).getD .non) Dl) ⟨hD, Ex.new hD, upd_same⟩ (fun i H' _ pv => ex_l pv.2.1 hx) (fun i x H2 H3 hi pv y => ?_) (fun H' pv => q Dl H' (fresh_back e1 pv.1) (e1.trans pv.2.1) pv.2.2)
  obtain ⟨T, x1, x2, rfl, hT, rfl, hx1, hx2⟩ := y
  have hx1' : V.int (i : Nat) = x1 := Option.some.inj hx1
  subst hx1'
  have hx2' : (l.map f)[i]? = some x2 := hx2
  rw [List.getElem?_map] at hx2'
  obtain ⟨z, e2, rfl⟩ := Option.map_eq_some_iff.mp hx2'
  have pT : Cw H1 (fun k => (l[k]?.map (p k)).getD false) (fun k => (l[k]?.map (F k)).getD .non) Dl i (upd H2 T (.tup [.int (i : Nat), f z])) :=
    ⟨pv.1, pv.2.1.trans (Ex.new hT), Ex.new hT _ _ pv.2.2⟩
  refine ⟨T, _, rfl, .inl (.inl upd_same), rfl, _, _, rfl, _, _, rfl, rfl, ?_⟩
  refine ⟨wipe2 σ h12 _ _, cw_turn pT (by omega) ?_ (fun hf => ?_)⟩
  · rw [e2]
    exact ht i z e2 H1 (e.trans e1)
  · rw [e2] at hf ⊢
    exact he i z e2 H1 (e.trans e1) hf

/-! ### loops -/
/-- for i in range(n), n of any sign -/
theorem q_forR {ta : TA} {j : Nat} {n : Int} (h : EvA ta σ H [.int n]) (hn : -100000 ≤ n ∧ n ≤ 100000) (Pv : Nat → L2.St → Hp → Prop) (h0 : ∀ H1, Ex H H1 → Pv 0 σ H1)
    (hs : ∀ (i : Nat) σ' H', (i : Int) < n → Pv i σ' H' → tu { D with nx := Pv (i + 1), ct := Pv (i + 1), bk := tz D } (σ'.set j (some (.int (i : Int)))) H') (hd : ∀ σ' H', Pv n.toNat σ' H' → tz D σ' H') : tSeq (tFor (iRng1 ta) (gName j) tu) tz D σ H :=
  h H (Ex.refl H) _ fun H1 e => ⟨n, rfl, by omega, by omega, for_range (lo := 0) (n := n.toNat) Pv (h0 H1 e) (fun i σ' H' hi p => by
    have e0 : (0 : Int) + (i : Int) = (i : Int) := Int.zero_add _
    show tu { D with nx := Pv (i + 1), ct := Pv (i + 1), bk := tz D } (σ'.set j (some (.int ((0 : Int) + (i : Int))))) H'
    rw [e0]
    exact hs i σ' H' (by omega) p) hd⟩
/-- for i in range(a, b, c), c > 0 -/
theorem q_forC {ta : TA} {j : Nat} {lo hi c : Int} {n : Nat} (h : EvA ta σ H [.int lo, .int hi, .int c]) (hr : RgC lo hi c n) (Pv : Nat → L2.St → Hp → Prop) (h0 : ∀ H1, Ex H H1 → Pv 0 σ H1)
    (hs : ∀ (i : Nat) σ' H', i < n → Pv i σ' H' → tu { D with nx := Pv (i + 1), ct := Pv (i + 1), bk := tz D } (σ'.set j (some (.int (lo + (i : Nat) * c)))) H') (hd : ∀ σ' H', Pv n σ' H' → tz D σ' H') : tSeq (tFor (iRng3 ta) (gName j) tu) tz D σ H :=
  h H (Ex.refl H) _ fun H1 e => ⟨lo, hi, c, n, rfl, hr, for_rangeC (lo := lo) (c := c) (n := n) Pv (h0 H1 e) (fun i σ' H' hi p => hs i σ' H' hi p) hd⟩
/-- for i, x in enumerate(xs) -/
theorem q_forE {α : Type} {a : Addr} {ta : TA} {i1 i2 : Nat} (l : List α) (f : α → V) (h : EvA ta σ H [.ref a]) (hx : SqL K H a (l.map f)) (Pv : Nat → L2.St → Hp → Prop) (h0 : ∀ H1, Ex H H1 → Pv 0 σ H1) (hk : ∀ i σ' H', i ≤ l.length → Pv i σ' H' → SqL K H' a (l.map f)) (hP : ∀ i σ' H' H2, Ex H' H2 → Pv i σ' H' → Pv i σ' H2)
    (hs : ∀ (i : Nat) x σ' H', l[i]? = some x → Pv i σ' H' → tu { D with nx := Pv (i + 1), ct := Pv (i + 1), bk := tz D } ((σ'.set i1 (some (.int (i : Int)))).set i2 (some (f x))) H') (hd : ∀ σ' H', Pv l.length σ' H' → tz D σ' H') :
    tSeq (tFor (iEnum K ta) (gTup K 2 (gCons (gName i1) (gCons (gName i2) gNil))) tu) tz D σ H :=
  h H (Ex.refl H) _ fun H1 e => by
    have hw : Walk (Ite K a) l.length (fun H => SqL K H a (l.map f)) (YPair (fun i => some (.int (i : Nat))) (fun i => (l.map f)[i]?)) := by
      have := walk_enum (K := K) (a := a) (xs := l.map f)
      rwa [List.length_map] at this
    refine ⟨a, _, rfl, ex_l e hx, for_it hw Pv (h0 H1 e) hk (fun i x σ' H2 H3 hi p y => ?_) hd⟩
    obtain ⟨T, x1, x2, rfl, hT, rfl, hx1, hx2⟩ := y
    have hx1' : V.int (i : Nat) = x1 := Option.some.inj hx1
    subst hx1'
    have hx2' : (l.map f)[i]? = some x2 := hx2
    rw [List.getElem?_map] at hx2'
    obtain ⟨z, e2, rfl⟩ := Option.map_eq_some_iff.mp hx2'
    exact ⟨T, _, rfl, .inl (.inl upd_same), rfl, _, _, rfl, _, _, rfl, rfl, hs i z σ' _ e2 (hP i σ' H2 _ (Ex.new hT) p)⟩
/-- lists by pairs -/
theorem DaAll.zip : ∀ {vs : List V} {ds : List PyData}, DaAll K H vs ds → ∃ l : List (V × PyData), vs = l.map (·.1) ∧ ds = l.map (·.2) ∧ ∀ p ∈ l, Da K H p.1 p.2
  | _, _, .nil => ⟨[], rfl, rfl, fun p h => by cases h⟩
  | _, _, .cons (v := v) (d := d) h hs => by
    obtain ⟨l, e1, e2, e3⟩ := hs.zip
    refine ⟨(v, d) :: l, by rw [List.map_cons, e1], by rw [List.map_cons, e2], fun p hp => ?_⟩
    rcases List.mem_cons.mp hp with rfl | hp
    · exact h
    · exact e3 p hp

/-! ### the layer's rules with the written part named outright (within a comprehension it can't be read off) -/
section
variable {X : Cx}
theorem k_list (K : PySem.W.Frag) (h : X.K = K := by rfl) : IxR X (rIxL K) := h ▸ ix_list
theorem k_tup (K : PySem.W.Frag) (h : X.K = K := by rfl) : IxR X (rIxT K) := h ▸ ix_tup
theorem k_sl (K : PySem.W.Frag) (h : X.K = K := by rfl) : SlR X (rSlL K) := h ▸ sl_list
theorem k_ltT (K : PySem.W.Frag) (hu : X.A.units < cLine) (h : X.K = K := by rfl) : OpR X (compareOp .Lt) (rLtT K) := h ▸ op_ltT hu
theorem k_eqD (K : PySem.W.Frag) (hu : X.A.units + 64 < cLine) (h : X.K = K := by rfl) : OpR X (compareOp .Eq) (rEqD K) := h ▸ op_eqD hu
theorem k_neD (K : PySem.W.Frag) (hu : X.A.units + 64 < cLine) (h : X.K = K := by rfl) : OpR X (compareOp .NotEq) (rNeD K) := h ▸ op_neD hu
theorem k_inD (K : PySem.W.Frag) (hu : X.A.units + 65 < cLine) (h : X.K = K := by rfl) : OpR X (compareOp .In) (rInD K) := h ▸ op_inD hu
theorem k_niD (K : PySem.W.Frag) (hu : X.A.units + 65 < cLine) (h : X.K = K := by rfl) : OpR X (compareOp .NotIn) (rNotInD K) := h ▸ op_notInD hu
theorem k_inS (K : PySem.W.Frag) (h : X.K = K := by rfl) : OpR X (compareOp .In) (rIn K false) := h ▸ op_in_seq
theorem k_niS (K : PySem.W.Frag) (h : X.K = K := by rfl) : OpR X (compareOp .NotIn) (rIn K true) := h ▸ op_notIn_seq
theorem k_inT (K : PySem.W.Frag) (P : Program) (w : World) (hu : X.A.units + 65 < cLine) (h : X.K = K := by rfl) (hp : X.prog = P := by rfl) (hw : X.w = w := by rfl) : OpR X (compareOp .In) (rInT K P w false) := by
  subst h hp hw
  exact op_inSetT hu
theorem k_isi (K : PySem.W.Frag) (h : X.K = K := by rfl) : CallR X (.builtin "isinstance") (rIsi K) := h ▸ call_isi
theorem k_len (K : PySem.W.Frag) (h : X.K = K := by rfl) : CallR X (.builtin "len") (rLenS K) := h ▸ call_len_seq
theorem k_lst (K : PySem.W.Frag) (h : X.K = K := by rfl) : CallR X (.type "list") (rListS K) := h ▸ call_list_of
theorem k_sum (K : PySem.W.Frag) (hc : X.calm = true) (h : X.K = K := by rfl) : CallR X (.builtin "sum") (rSum K) := h ▸ cr_sum hc
theorem k_all (K : PySem.W.Frag) (hc : X.calm = true) (h : X.K = K := by rfl) : CallR X (.builtin "all") (rAll K) := h ▸ cr_all hc
theorem k_any (K : PySem.W.Frag) (hc : X.calm = true) (h : X.K = K := by rfl) : CallR X (.builtin "any") (rAny K) := h ▸ cr_any hc
theorem k_set (K : PySem.W.Frag) (P : Program) (w : World) (hc : X.calm = true) (hu : X.A.units + 65 < cLine) (h : X.K = K := by rfl) (hp : X.prog = P := by rfl) (hw : X.w = w := by rfl) : CallR X (.type "set") (rSetT K P w) := by
  subst h hp hw
  exact call_setOfT hc hu
theorem k_fld (K : PySem.W.Frag) {e : Expr} {f : Str} {pos : Pos} {ta : TE} (he : PE X e ta) (h : X.K = K := by rfl) (hb : attributeBase e f X.env (eval e X.env) = eval e X.env := by rfl) : PE X (.Attribute e f pos) (tFld K ta f) := h ▸ pe_fld he hb
/-- a value's truth, as a test -/
def tTr (K : PySem.W.Frag) (ta : TE) : TT := fun σ H Q => ta σ H fun x H' => ∃ k, TruV K x H' k ∧ Q k H'
theorem k_tru (K : PySem.W.Frag) {a : Expr} {ta : TE} (ha : PE X a ta) (he : ∀ whole, isTrue a X.env whole = (do let v ← whole; standAt a.pos; holding [v] (truthy v)) := by intro _; rfl) (h : X.K = K := by rfl) : PT X a (tTr K ta) := h ▸ pt_truth ha he
theorem k_gt (K : PySem.W.Frag) {es : List Expr} {k : Nat} {pos : Pos} {t : TGs} {n : Nat} (hc : X.calm = true) (hp : PGs X es t) (hn : (assignEach es X.env).length = n := by rfl) (hst : (assignEach es X.env).findIdx? (·.1) = none := by rfl) (h : X.K = K := by rfl) : PG X (.Tuple es k pos) (gTup K n t) := h ▸ pg_tup hc hp hn hst
theorem k_il (K : PySem.W.Frag) {tg l : Expr} {tl : TE} (hl : PE X l tl) (h : X.K = K := by rfl) : PI X tg l (iList K tl) := h ▸ pi_list hl
theorem k_it (K : PySem.W.Frag) {tg l : Expr} {tl : TE} (hl : PE X l tl) (h : X.K = K := by rfl) : PI X tg l (iTup K tl) := h ▸ pi_tup hl
theorem k_rev (K : PySem.W.Frag) {e : Expr} {te : TE} {k : Nat} {p1 p2 p3 pos : Pos} (he : PE X e te) (h : X.K = K := by rfl) : PE X (.Subscript e (.Slice none none (some (.UnaryOp .USub (.Constant (.int 1) k p1) p2)) p3) pos) (tRevL K te) := h ▸ pe_revL he
end
theorem et_tr {b : Bool} (h : Ev te σ H x) (ht : ∀ H1, Ex H H1 → TruV K x H1 b) : EvT (tTr K te) σ H b := fun H1 e _ q => h H1 e _ fun H2 e2 => ⟨b, ht H2 (e.trans e2), q H2 e2⟩
theorem hu65_of {A : Around} {k : Nat} (hr : Room (k + 1) A) : A.units + 65 < cLine := by
  have q := hr.in1.units
  have e : A.in1.units = A.units + 1 := by simp
  omega
/-- an operation whose first part is a new tuple -/
theorem ev_opU1 {r : R2} {xs : List V} (ha : EvU ta σ H xs) (hb : ∀ H1, Ex H H1 → Ev tb σ H1 y) (hr : ∀ p H1, H1 p = some (.tup xs) → Ex H H1 → RV r (.ref p) y H1 z) : Ev (tOp r ta tb) σ H z := fun H1 e Q q =>
  ha H1 e _ fun p H2 _ e2 hp => hb H2 (e.trans e2) H2 (Ex.refl H2) _ fun H3 e3 => hr p H3 (e3 p _ hp) ((e.trans e2).trans e3) H3 (Ex.refl H3) Q fun H4 e4 => q H4 ((e2.trans e3).trans e4)
/-- set(xs) -/
theorem evp_set {P : Program} {w : World} {r : Addr} (ks : List (Addr × List Int)) (h : Ev te σ H (.ref r)) (h1 : SqL K H r (ks.map fun p => V.ref p.1)) (h2 : ∀ p ∈ ks, SqT K H p.1 (p.2.map V.int)) (h3 : ks.length ≤ 300) :
    EvP (tCB (rSetT K P w) (tCons te tNil)) σ H (fun v H' => ∃ a L, v = .ref a ∧ H a = none ∧ H' a = some (SetBO P w a L) ∧ (∀ p ∈ L, p ∈ ks) ∧ (∀ p ∈ ks, p.2 ∈ L.map (·.2))) := fun H1 e Q q =>
  h H1 e _ fun H2 e2 => ⟨r, ks, rfl, ex_l (e.trans e2) h1, fun p hp => ex_t (e.trans e2) (h2 p hp), h3, fun a L ha g1 g2 => q _ _ (e2.trans (Ex.new ha)) ⟨a, L, rfl, fresh_back (e.trans e2) ha, upd_same, g1, g2⟩⟩
/-- [x] * n -/
theorem el_rep {n : Nat} (h : Ev tb σ H (.int (n : Int))) (hn : n ≤ 100000) : EvL (tOp rRep (tLst (tCons (tC v) tNil)) tb) σ H (List.replicate n v) := fun H1 e Q q => by
  refine ⟨by show 1 ≤ sizeLine; decide, fun p hp => ?_⟩
  have e1 : Ex H1 (upd H1 p (.lst [v])) := Ex.new hp
  refine h _ (e.trans e1) _ fun H2 e2 => ⟨p, (n : Int), [v], rfl, rfl, e2 _ _ upd_same, by omega, by omega, ?_, fun r hr => ?_⟩
  · rw [Int.toNat_natCast, List.length_singleton, Nat.one_mul]
    exact sz_of hn
  · refine q r _ (fresh_back (e1.trans e2) hr) ((e1.trans e2).trans (Ex.new hr)) ?_
    rw [upd_same, Int.toNat_natCast, List.flatten_replicate_singleton]
/-- a loop over a list, the last of a block -/
theorem s_forLn' {α : Type} {a : Addr} {tl : TE} {j : Nat} (l : List α) (f : α → V) (h : Ev tl σ H (.ref a)) (hx : SqL K H a (l.map f)) (Pv : Nat → L2.St → Hp → Prop) (h0 : ∀ H1, Ex H H1 → Pv 0 σ H1) (hl : ∀ i σ' H', i ≤ l.length → Pv i σ' H' → SqL K H' a (l.map f))
    (hs : ∀ (i : Nat) x σ' H', l[i]? = some x → Pv i σ' H' → tu { D with nx := Pv (i + 1), ct := Pv (i + 1), bk := D.nx } (σ'.set j (some (f x))) H') (hd : ∀ σ' H', Pv l.length σ' H' → D.nx σ' H') : tFor (iList K tl) (gName j) tu D σ H := by
  refine s_forLn h hx Pv h0 (fun i σ' H' hi => hl i σ' H' (by rwa [List.length_map] at hi)) (fun i x σ' H' hx' p => ?_) (by rwa [List.length_map])
  rw [List.getElem?_map] at hx'
  obtain ⟨y, e, rfl⟩ := Option.map_eq_some_iff.mp hx'
  exact hs i y σ' H' e p
theorem q_forLn' {α : Type} {a : Addr} {tl : TE} {j : Nat} (l : List α) (f : α → V) (h : Ev tl σ H (.ref a)) (hx : SqL K H a (l.map f)) (Pv : Nat → L2.St → Hp → Prop) (h0 : ∀ H1, Ex H H1 → Pv 0 σ H1) (hl : ∀ i σ' H', i ≤ l.length → Pv i σ' H' → SqL K H' a (l.map f))
    (hs : ∀ (i : Nat) x σ' H', l[i]? = some x → Pv i σ' H' → tu { D with nx := Pv (i + 1), ct := Pv (i + 1), bk := tz D } (σ'.set j (some (f x))) H') (hd : ∀ σ' H', Pv l.length σ' H' → tz D σ' H') : tSeq (tFor (iList K tl) (gName j) tu) tz D σ H :=
  s_forLn' (D := { D with nx := tz D }) l f h hx Pv h0 hl hs hd
end Sg

/-! Data compared. -/
namespace Sg
open PySem L2 Evl
variable {K : PySem.W.Frag} {H H' : Hp} {σ : L2.St} {te ta tb : TE} {v x y z : V}
mutual
theorem dp_up (e : Ex H H') : ∀ {v : V} {d : PyData}, Dp K H v d → Dp K H' v d
  | _, _, .non => .non
  | _, _, .bl b => .bl b
  | _, _, .int i => .int i
  | _, _, .str x => .str x
  | _, _, .lst h hs => .lst (ex_l e h) (dps_up e hs)
  | _, _, .tup h hs => .tup (ex_t e h) (dps_up e hs)
theorem dps_up (e : Ex H H') : ∀ {vs : List V} {ds : List PyData}, DpAll K H vs ds → DpAll K H' vs ds
  | _, _, .nil => .nil
  | _, _, .cons h hs => .cons (dp_up e h) (dps_up e hs)
end
theorem dps_map {α : Type} (f : α → V) (g : α → PyData) : ∀ (l : List α), (∀ x ∈ l, Dp K H (f x) (g x)) → DpAll K H (l.map f) (l.map g)
  | [], _ => .nil
  | x :: l, h => .cons (h x List.mem_cons_self) (dps_map f g l fun y hy => h y (List.mem_cons_of_mem _ hy))
/-- data of Nones, numbers, lists, tuples, so deep at most -/
inductive Pd : Nat → PyData → Prop
  | non (n : Nat) : Pd n .none
  | int (n : Nat) (i : Int) : Pd n (.int i)
  | lst {n : Nat} {ds : List PyData} (h : ∀ d ∈ ds, Pd n d) : Pd (n + 1) (.list ds)
  | tup {n : Nat} {ds : List PyData} (h : ∀ d ∈ ds, Pd n d) : Pd (n + 1) (.tuple ds)
theorem lay_all : ∀ (ds : List PyData), (∀ d ∈ ds, d.canLay0 = true) → PyData.canLayAll0 ds = true
  | [], _ => by rw [PyData.canLayAll0]
  | d :: ds, h => by rw [PyData.canLayAll0, h d List.mem_cons_self, lay_all ds fun e he => h e (List.mem_cons_of_mem _ he)]; rfl
theorem depth_all {n : Nat} : ∀ (ds : List PyData), (∀ d ∈ ds, d.depth ≤ n) → PyData.depthAll ds ≤ n
  | [], _ => by rw [PyData.depthAll]; exact Nat.zero_le _
  | d :: ds, h => by
    rw [PyData.depthAll]
    exact Nat.max_le.mpr ⟨h d List.mem_cons_self, depth_all ds fun e he => h e (List.mem_cons_of_mem _ he)⟩
theorem Pd.lay : ∀ {n : Nat} {d : PyData}, Pd n d → d.canLay0 = true
  | _, _, .non _ => by rw [PyData.canLay0]
  | _, _, .int _ _ => by rw [PyData.canLay0]
  | _, _, .lst h => by rw [PyData.canLay0]; exact lay_all _ fun d hd => (h d hd).lay
  | _, _, .tup h => by rw [PyData.canLay0]; exact lay_all _ fun d hd => (h d hd).lay
theorem Pd.deep : ∀ {n : Nat} {d : PyData}, Pd n d → d.depth ≤ n
  | _, _, .non _ => by rw [PyData.depth]; exact Nat.zero_le _
  | _, _, .int _ _ => by rw [PyData.depth]; exact Nat.zero_le _
  | _, _, .lst h => by rw [PyData.depth]; exact Nat.succ_le_succ (depth_all _ fun d hd => (h d hd).deep)
  | _, _, .tup h => by rw [PyData.depth]; exact Nat.succ_le_succ (depth_all _ fun d hd => (h d hd).deep)
theorem Pd.shaped {n : Nat} {d : PyData} (h : Pd n d) (hn : n ≤ 64 := by decide) : SeqAt.shaped d = true := by
  unfold SeqAt.shaped
  rw [h.lay, Bool.true_and, decide_eq_true_eq]
  exact Nat.le_trans h.deep hn
theorem eqvAll_iff {n : Nat} (ih : ∀ {d e : PyData} {m : Nat}, Pd n d → Pd m e → (PyData.eqv d e = true ↔ d = e)) : ∀ {m : Nat} (ds es : List PyData), (∀ d ∈ ds, Pd n d) → (∀ e ∈ es, Pd m e) → (PyData.eqvAll ds es = true ↔ ds = es)
  | m, [], [], _, _ => by simp [PyData.eqvAll]
  | m, [], _ :: _, _, _ => by simp [PyData.eqvAll]
  | m, _ :: _, [], _, _ => by simp [PyData.eqvAll]
  | m, d :: ds, e :: es, h1, h2 => by
    rw [PyData.eqvAll, Bool.and_eq_true, ih (h1 d List.mem_cons_self) (h2 e List.mem_cons_self), eqvAll_iff ih ds es (fun x hx => h1 x (List.mem_cons_of_mem _ hx)) (fun x hx => h2 x (List.mem_cons_of_mem _ hx)), List.cons.injEq]
theorem eqv_iff : ∀ {n : Nat} {d e : PyData} {m : Nat}, Pd n d → Pd m e → (PyData.eqv d e = true ↔ d = e) := by
  intro n
  induction n with
  | zero =>
    intro d e m h1 h2
    cases h1 <;> cases h2 <;> simp [PyData.eqv]
  | succ n ih =>
    intro d e m h1 h2
    cases h1 with
    | non => cases h2 <;> simp [PyData.eqv]
    | int => cases h2 <;> simp [PyData.eqv]
    | lst h =>
      cases h2 with
      | lst h' => rw [PyData.eqv, eqvAll_iff ih _ _ h h', PyData.list.injEq]
      | _ => simp [PyData.eqv]
    | tup h =>
      cases h2 with
      | tup h' => rw [PyData.eqv, eqvAll_iff ih _ _ h h', PyData.tuple.injEq]
      | _ => simp [PyData.eqv]
theorem eqv_is {n m : Nat} {d e : PyData} (h1 : Pd n d) (h2 : Pd m e) {p : Prop} [Decidable p] (hp : d = e ↔ p) : PyData.eqv d e = decide p := by
  rw [Bool.eq_iff_iff, eqv_iff h1 h2, hp, decide_eq_true_iff]
theorem rv_eqD {d e : PyData} {n m : Nat} {p : Prop} [Decidable p] (hx : Dp K H x d) (hy : Dp K H y e) (h1 : Pd n d) (h2 : Pd m e) (hp : d = e ↔ p) (hn : n ≤ 64 := by decide) (hm : m ≤ 64 := by decide) : RV (rEqD K) x y H (.bl (decide p)) := fun H1 a Q q =>
  ⟨d, e, dp_up a hx, dp_up a hy, h1.shaped hn, h2.shaped hm, by rw [eqv_is h1 h2 hp]; exact q H1 (Ex.refl _)⟩
theorem rv_neD {d e : PyData} {n m : Nat} {p : Prop} [Decidable p] (hx : Dp K H x d) (hy : Dp K H y e) (h1 : Pd n d) (h2 : Pd m e) (hp : d = e ↔ p) (hn : n ≤ 64 := by decide) (hm : m ≤ 64 := by decide) : RV (rNeD K) x y H (.bl (!decide p)) := fun H1 a Q q =>
  ⟨d, e, dp_up a hx, dp_up a hy, h1.shaped hn, h2.shaped hm, by rw [eqv_is h1 h2 hp]; exact q H1 (Ex.refl _)⟩
/-- x in xs -/
theorem any_iff {n m : Nat} {d : PyData} {es : List PyData} (h1 : Pd n d) (h2 : ∀ e ∈ es, Pd m e) : (es.any fun z => PyData.eqv z d) = true ↔ d ∈ es := by
  rw [List.any_eq_true]
  constructor
  · rintro ⟨z, hz, e⟩
    rw [eqv_iff (h2 z hz) h1] at e
    rw [← e]; exact hz
  · intro hd
    exact ⟨d, hd, (eqv_iff h1 h1).mpr rfl⟩
theorem rv_inD {d : PyData} {es : List PyData} {n m : Nat} {p : Prop} [Decidable p] (hx : Dp K H x d) (hy : Dp K H y (.list es)) (h1 : Pd n d) (h2 : Pd (m + 1) (.list es)) (hp : d ∈ es ↔ p) (hn : n ≤ 64 := by decide) (hm : m + 1 ≤ 64 := by decide) : RV (rInD K) x y H (.bl (decide p)) := fun H1 a Q q => by
  refine ⟨d, es, dp_up a hx, dp_up a hy, h1.shaped hn, h2.shaped hm, ?_⟩
  have h2' : ∀ e ∈ es, Pd m e := by cases h2 with | lst h => exact h
  have e : (es.any fun z => PyData.eqv z d) = decide p := by rw [Bool.eq_iff_iff, any_iff h1 h2', hp, decide_eq_true_iff]
  rw [e]
  exact q H1 (Ex.refl _)
theorem rv_niD {d : PyData} {es : List PyData} {n m : Nat} {p : Prop} [Decidable p] (hx : Dp K H x d) (hy : Dp K H y (.list es)) (h1 : Pd n d) (h2 : Pd (m + 1) (.list es)) (hp : d ∈ es ↔ p) (hn : n ≤ 64 := by decide) (hm : m + 1 ≤ 64 := by decide) : RV (rNotInD K) x y H (.bl (!decide p)) := fun H1 a Q q => by
  refine ⟨d, es, dp_up a hx, dp_up a hy, h1.shaped hn, h2.shaped hm, ?_⟩
  have h2' : ∀ e ∈ es, Pd m e := by cases h2 with | lst h => exact h
  have e : (es.any fun z => PyData.eqv z d) = decide p := by rw [Bool.eq_iff_iff, any_iff h1 h2', hp, decide_eq_true_iff]
  rw [e]
  exact q H1 (Ex.refl _)
/-- lists of numbers -/
def natV (a : Nat) : V := .int (a : Int)
def natD (a : Nat) : PyData := .int (a : Int)
theorem dp_nats (l : List Nat) : DpAll K H (l.map natV) (l.map natD) := dps_map _ _ l fun x _ => .int _
theorem da_nats (l : List Nat) : DaAll K H (l.map natV) (l.map natD) := DaAll.map _ _ l fun x _ => .int _
theorem pd_nats (l : List Nat) : Pd 1 (.list (l.map natD)) := .lst fun d hd => by
  obtain ⟨a, _, rfl⟩ := List.mem_map.mp hd
  exact .int _ _
theorem pd_ints (l : List Int) : Pd 1 (.list (l.map PyData.int)) := .lst fun d hd => by
  obtain ⟨a, _, rfl⟩ := List.mem_map.mp hd
  exact .int _ _
theorem pd_os (l : List (Option Int)) : Pd 1 (.list (l.map oD)) := .lst fun d hd => by
  obtain ⟨a, _, rfl⟩ := List.mem_map.mp hd
  cases a <;> constructor
theorem map_inj {α β : Type} {f : α → β} (hf : ∀ a b, f a = f b → a = b) : ∀ {l m : List α}, l.map f = m.map f ↔ l = m
  | [], [] => by simp
  | [], _ :: _ => by simp
  | _ :: _, [] => by simp
  | a :: l, b :: m => by
    rw [List.map_cons, List.map_cons, List.cons.injEq, List.cons.injEq, map_inj hf]
    exact ⟨fun h => ⟨hf _ _ h.1, h.2⟩, fun h => ⟨by rw [h.1], h.2⟩⟩
theorem int_inj (a b : Int) (h : PyData.int a = PyData.int b) : a = b := by injection h
theorem natD_inj (a b : Nat) (h : natD a = natD b) : a = b := by
  unfold natD at h
  injection h with h
  omega
theorem oD_inj (a b : Option Int) (h : oD a = oD b) : a = b := by
  cases a <;> cases b <;> simp [oD] at h ⊢
  exact h
theorem lst_inj {ds es : List PyData} : PyData.list ds = PyData.list es ↔ ds = es := by rw [PyData.list.injEq]
/-! ### arguments some of which are made for the call -/
def EvAP (ta : TA) (σ : L2.St) (H : Hp) (Post : List V → Hp → Prop) : Prop := ∀ H1, Ex H H1 → ∀ Q : List V → Hp → Prop, (∀ vs H2, Ex H1 H2 → Post vs H2 → Q vs H2) → ta σ H1 Q
section
variable {tr tl : TA} {P R : List V → Hp → Prop} {Post : V → Hp → Prop}
theorem eap_nil : EvAP tNil σ H (fun vs _ => vs = []) := fun H1 _ _ q => q [] H1 (Ex.refl _) rfl
theorem eap_v (h : Ev te σ H v) (hr : EvAP tr σ H P) : EvAP (tCons te tr) σ H (fun vs H' => ∃ r, vs = v :: r ∧ P r H') := fun H1 e Q q =>
  h H1 e _ fun H2 e2 => hr H2 (e.trans e2) _ fun vs H3 e3 p => q _ H3 (e2.trans e3) ⟨vs, rfl, p⟩
theorem eap_l {xs : List V} (h : EvL te σ H xs) (hr : EvAP tr σ H P) : EvAP (tCons te tr) σ H (fun vs H' => ∃ p r, vs = .ref p :: r ∧ H p = none ∧ H' p = some (.lst xs) ∧ P r H') := fun H1 e Q q =>
  h H1 e _ fun p H2 hp e2 h2 => hr H2 (e.trans e2) _ fun vs H3 e3 pr => q _ H3 (e2.trans e3) ⟨p, vs, rfl, fresh_back e hp, e3 _ _ h2, pr⟩
theorem eap_p (h : EvP te σ H Post) (hm : ∀ v H1 H2, Ex H1 H2 → Post v H1 → Post v H2) (hr : EvAP tr σ H P) : EvAP (tCons te tr) σ H (fun vs H' => ∃ x r, vs = x :: r ∧ Post x H' ∧ P r H') := fun H1 e Q q =>
  h H1 e _ fun x H2 e2 px => hr H2 (e.trans e2) _ fun vs H3 e3 pr => q _ H3 (e2.trans e3) ⟨x, vs, rfl, hm _ _ _ e3 px, pr⟩
theorem evp_callA {sp : Sp} {dvs : List V} {E : XK} (h : EvAP tl σ H P) (hs : ∀ vs H1, Ex H H1 → P vs H1 → ∀ Q : VK, (∀ v H2, Ex H1 H2 → Post v H2 → Q v H2) → ∀ E : XK, sp (vs ++ dvs) H1 Q E) : EvP (tCall sp dvs E tl) σ H Post := fun H1 e Q q =>
  h H1 e _ fun vs H2 e2 p => hs vs H2 (e.trans e2) p Q (fun v H3 e3 pv => q v H3 (e2.trans e3) pv) E
theorem ev_callA {sp : Sp} {dvs : List V} {E : XK} (h : EvAP tl σ H P) (hs : ∀ vs H1, Ex H H1 → P vs H1 → ∀ Q : VK, (∀ H2, Ex H1 H2 → Q v H2) → ∀ E : XK, sp (vs ++ dvs) H1 Q E) : Ev (tCall sp dvs E tl) σ H v := fun H1 e Q q =>
  h H1 e _ fun vs H2 e2 p => hs vs H2 (e.trans e2) p Q (fun H3 e3 => q H3 (e2.trans e3)) E
end
section
variable {D : Ends} {tz : TS} {Post Post' : V → Hp → Prop} {P : List V → Hp → Prop} {tl : TA}
theorem q_par2 {i j : Nat} (h : EvAP tl σ H P) (k : ∀ vs H1, Ex H H1 → P vs H1 → ∃ v w, vs = [v, w] ∧ tz D ((σ.set i (some v)).set j (some w)) H1) : tSeq (tPar i j tl) tz D σ H := h H (Ex.refl H) _ k
theorem q_par3 {i j l : Nat} (h : EvAP tl σ H P) (k : ∀ vs H1, Ex H H1 → P vs H1 → ∃ u v w, vs = [u, v, w] ∧ tz D (((σ.set i (some u)).set j (some v)).set l (some w)) H1) : tSeq (tPar3 i j l tl) tz D σ H := h H (Ex.refl H) _ k
theorem s_par2 {i j : Nat} (h : EvAP tl σ H P) (k : ∀ vs H1, Ex H H1 → P vs H1 → ∃ v w, vs = [v, w] ∧ D.nx ((σ.set i (some v)).set j (some w)) H1) : tPar i j tl D σ H := h H (Ex.refl H) _ k
/-- a built-in of one thing, an operation with one thing ahead, that give something -/
theorem evp_cb1 {rr : List V → Hp → VK → Prop} (h : EvP te σ H Post) (hr : ∀ x H1, Ex H H1 → Post x H1 → ∃ z, RC rr [x] H1 z ∧ ∀ H2, Ex H1 H2 → Post' z H2) : EvP (tCB rr (tCons te tNil)) σ H Post' := fun H1 e Q q =>
  h H1 e _ fun x H2 e2 p => by
    obtain ⟨z, h1, h2⟩ := hr x H2 (e.trans e2) p
    exact h1 H2 (Ex.refl _) Q fun H3 e3 => q z H3 (e2.trans e3) (h2 H3 e3)
theorem evp_op1 {r : R2} (ha : EvP ta σ H Post) (hb : ∀ x H1, Ex H H1 → Post x H1 → ∃ y z, Ev tb σ H1 y ∧ RV r x y H1 z ∧ ∀ H2, Ex H1 H2 → Post' z H2) : EvP (tOp r ta tb) σ H Post' := fun H1 e Q q =>
  ha H1 e _ fun x H2 e2 p => by
    obtain ⟨y, z, h1, h2, h3⟩ := hb x H2 (e.trans e2) p
    exact h1 H2 (Ex.refl _) _ fun H3 e3 => h2 H3 e3 Q fun H4 e4 => q z H4 ((e2.trans e3).trans e4) (h3 H4 (e3.trans e4))
theorem rc_abs {i : Int} : RC (fun xs H Q => ∃ i, xs = [.int i] ∧ Q (.int (if i < 0 then -i else i)) H) [.int i] H (.int (if i < 0 then -i else i)) := fun H1 _ _ q => ⟨i, rfl, q H1 (Ex.refl _)⟩
theorem ev_sum {a : Addr} {ns : List Int} (h : Ev te σ H (.ref a)) (hS : SqL K H a (ns.map V.int)) : Ev (tCB (rSum K) (tCons te tNil)) σ H (.int ns.sum) := fun H1 e Q q =>
  h H1 e _ fun H2 e2 => ⟨a, ns, rfl, ex_l (e.trans e2) hS, q H2 e2⟩
theorem el_if {t : TT} {b : Bool} {xs : List V} (h : EvT t σ H b) (h1 : b = true → EvL ta σ H xs) (h2 : b = false → EvL tb σ H xs) : EvL (tIf t ta tb) σ H xs := fun H1 e Q q => h H1 e _ fun H2 e2 => by
  cases b with
  | true => exact iteT (h1 rfl H2 (e.trans e2) Q fun p H3 hp e3 h3 => q p H3 (fresh_back e2 hp) (e2.trans e3) h3)
  | false => exact iteF (h2 rfl H2 (e.trans e2) Q fun p H3 hp e3 h3 => q p H3 (fresh_back e2 hp) (e2.trans e3) h3)
end
theorem cut_from {xs : List V} {k : Nat} : cutV xs (some (k : Int)) none = xs.drop k := by
  unfold cutV
  rw [HT.sIx_nat, HT.sIx_none]
  by_cases h : k ≤ xs.length
  · rw [Nat.min_eq_left h]
    exact List.take_of_length_le (by rw [List.length_drop]; exact Nat.le_refl _)
  · rw [Nat.min_eq_right (by omega), List.drop_length, List.take_nil, List.drop_eq_nil_of_le (by omega)]
theorem cut_to {xs : List V} {k : Nat} : cutV xs none (some (k : Int)) = xs.take k := by
  unfold cutV
  rw [HT.sIx_nat, HT.sIx_none, List.drop_zero, Nat.sub_zero]
  by_cases h : k ≤ xs.length
  · rw [Nat.min_eq_left h]
  · rw [Nat.min_eq_right (by omega), List.take_length, List.take_of_length_le (by omega)]
section
variable {X : Cx}
theorem k_orT (K : PySem.W.Frag) {a b : Expr} {rest : List Expr} {pos : Pos} {ta tb : TE} (ha : PE X a ta) (hb : PE X (.BoolOp .Or (b :: rest) pos) tb) (h : X.K = K := by rfl) : PE X (.BoolOp .Or (a :: b :: rest) pos) (tOrT K ta tb) := h ▸ pe_orT ha hb
theorem k_andT (K : PySem.W.Frag) {a b : Expr} {rest : List Expr} {pos : Pos} {ta tb : TE} (ha : PE X a ta) (hb : PE X (.BoolOp .And (b :: rest) pos) tb) (h : X.K = K := by rfl) : PE X (.BoolOp .And (a :: b :: rest) pos) (tAndT K ta tb) := h ▸ pe_andT ha hb
theorem k_notT (K : PySem.W.Frag) {a : Expr} {pos : Pos} {ta : TE} (ha : PE X a ta) (h : X.K = K := by rfl) : PE X (.UnaryOp .Not a pos) (tNotT K ta) := h ▸ pe_notT ha
theorem ev_orT {σ : L2.St} {H : Hp} {ta tb : TE} {v y : V} {b : Bool} (h1 : Ev ta σ H v) (ht : ∀ H1, Ex H H1 → TruV K v H1 b) (hy : b = true → y = v) (h2 : b = false → Ev tb σ H y) : Ev (tOrT K ta tb) σ H y := fun H1 e Q q =>
  h1 H1 e _ fun H2 e2 => ⟨b, ht H2 (e.trans e2), by
    cases b with
    | true => rw [if_pos rfl]; have := hy rfl; subst this; exact q H2 e2
    | false => rw [if_neg (by decide)]; exact h2 rfl H2 (e.trans e2) Q fun H3 e3 => q H3 (e2.trans e3)⟩
theorem ev_andT {σ : L2.St} {H : Hp} {ta tb : TE} {v y : V} {b : Bool} (h1 : Ev ta σ H v) (ht : ∀ H1, Ex H H1 → TruV K v H1 b) (hy : b = false → y = v) (h2 : b = true → Ev tb σ H y) : Ev (tAndT K ta tb) σ H y := fun H1 e Q q =>
  h1 H1 e _ fun H2 e2 => ⟨b, ht H2 (e.trans e2), by
    cases b with
    | false => rw [if_neg (by decide)]; have := hy rfl; subst this; exact q H2 e2
    | true => rw [if_pos rfl]; exact h2 rfl H2 (e.trans e2) Q fun H3 e3 => q H3 (e2.trans e3)⟩
theorem ev_notT {σ : L2.St} {H : Hp} {ta : TE} {v : V} {b : Bool} (h1 : Ev ta σ H v) (ht : ∀ H1, Ex H H1 → TruV K v H1 b) : Ev (tNotT K ta) σ H (.bl (!b)) := fun H1 e Q q =>
  h1 H1 e _ fun H2 e2 => ⟨b, ht H2 (e.trans e2), q H2 e2⟩
end
end Sg

/-! Defs that let exceptions out. -/
namespace Sg
open PySem L2 Evl
open PyProof.Rows (envOfC)
section
variable {P : Program} {w : World} {K : PySem.W.Frag} {mg : Str → Option Value} {base : Heap} {x m qual : Str} {st : Stmt} {C : Addr} {N ps : List Str} {k : Nat} {sp : Sp}
/-- a def, a method that may let exceptions out -/
structure CalX (P : Program) (w : World) (K : PySem.W.Frag) (mg : Str → Option Value) (base : Heap) (k : Nat) (x : Str) (sp : Sp) : Prop where
  ex : ∃ (f : Addr) (fd : FuncData) (ps : List Str), FnOk P w K mg base (L2.CX P w) k f fd ps sp ∧ mg x = some (.ref f) ∧ PySem.W.keepIn K (.ref f) = true ∧ Binds K fd ps []
structure MetX (P : Program) (w : World) (K : PySem.W.Frag) (mg : Str → Option Value) (base : Heap) (k : Nat) (C : Addr) (m : Str) (sp : Sp) : Prop where
  ex : ∃ (f : Addr) (fd : FuncData) (ps : List Str), Cls K C ∧ Meth K C m f ∧ FnOk P w K mg base (L2.CX P w) k f fd ps sp ∧ Binds K fd ps []
theorem fnX {f : Addr} {fd : FuncData} (F : C8.Fun K x qual st f fd) (S : FnScope N ps (C8.fnScope st)) (len : ∀ vs H Q E, sp vs H Q E → vs.length = ps.length)
    (hbody : ∀ (cdv : Value) (A : Around) (outer : List Env) (s : Shared) (H : Hp) (vs : List V) (Q : VK) (E : XK), Room k (A.deeper (envOfC qual (C8.fnScope st) s.heap.objs.size f cdv)) → sp vs H Q E →
      ∃ t, PSs (cxOf (L2.CX P w) P w K mg base N qual (C8.fnScope st) f cdv A outer s H E) (C8.fnBody st) t ∧ t { nx := fun _ H' => Q .non H', rt := Q } (start N vs) H) : FnOk P w K mg base (L2.CX P w) (k + 1) f fd ps sp := by
  obtain ⟨oc, od, dV, kV, doc, pm, an, cdv, ct, osl, rfl, lk, hcd⟩ := F.ex
  exact fn_of lk hcd S len fun A outer s H vs Q E hr hsp => hbody cdv A outer s H vs Q E hr hsp
theorem cal_ofX (D : DefOk K mg x st) (S : FnScope N ps (C8.fnScope st)) (hb : BindOkM x x st ps) (len : ∀ vs H Q E, sp vs H Q E → vs.length = ps.length)
    (hbody : ∀ (f : Addr) (cdv : Value) (A : Around) (outer : List Env) (s : Shared) (H : Hp) (vs : List V) (Q : VK) (E : XK), Room k (A.deeper (envOfC x (C8.fnScope st) s.heap.objs.size f cdv)) → sp vs H Q E →
      ∃ t, PSs (cxOf (L2.CX P w) P w K mg base N x (C8.fnScope st) f cdv A outer s H E) (C8.fnBody st) t ∧ t { nx := fun _ H' => Q .non H', rt := Q } (start N vs) H) : CalX P w K mg base (k + 1) x sp := by
  obtain ⟨f, fd, d, e⟩ := D.ex
  exact ⟨f, fd, ps, fnX d.fn S len (hbody f), d.mgf, d.kp, d.fn.binds e hb⟩
theorem met_ofX (c : Cls K C) (D : MethOk K C m qual st) (S : FnScope N ps (C8.fnScope st)) (hb : BindOkM m qual st ps) (len : ∀ vs H Q E, sp vs H Q E → vs.length = ps.length)
    (hbody : ∀ (f : Addr) (cdv : Value) (A : Around) (outer : List Env) (s : Shared) (H : Hp) (vs : List V) (Q : VK) (E : XK), Room k (A.deeper (envOfC qual (C8.fnScope st) s.heap.objs.size f cdv)) → sp vs H Q E →
      ∃ t, PSs (cxOf (L2.CX P w) P w K mg base N qual (C8.fnScope st) f cdv A outer s H E) (C8.fnBody st) t ∧ t { nx := fun _ H' => Q .non H', rt := Q } (start N vs) H) : MetX P w K mg base (k + 1) C m sp := by
  obtain ⟨f, fd, me, d, e⟩ := D.ex
  exact ⟨f, fd, ps, c, me, fnX d S len (hbody f), d.binds e hb⟩
theorem pass_out {qual : Str} {sc : Scope} {f : Addr} {cdv : Value} {A : Around} {outer : List Env} {s : Shared} {H : Hp} {E : XK} : Passes (L2.CX P w) (cxOf (L2.CX P w) P w K mg base N qual sc f cdv A outer s H E) E :=
  passes_call (X := cxOf (L2.CX P w) P w K mg base N qual sc f cdv A outer s H E) (W := fun cls d _ H => E cls d H) (takes_of rfl rfl rfl rfl) fun _ _ _ _ h => h
end
section
variable {X : Cx} {k j : Nat} {C : Addr} {x m : Str} {sp : Sp} {E : XK} {W : WX} {p pos apos : Pos} {e o : Expr} {es : List Expr} {ta : TE} {t : TA}
theorem pe_cX (c : CalX X.prog X.w X.K X.mg X.base k x sp) (hr : Room j X.A) (hk : k ≤ j) (hg : Gl X x) (hx : Passes (L2.CX X.prog X.w) X E) (ha : PA X (e :: es) t)
    (hdb : (x == ("__debug__" : Str)) = false := by decide) (he : starEach (e :: es) X.env = (false, eval e X.env) :: starEach es X.env := by rfl) (hpl : (backTo pos (starEach es X.env)).any (·.1) = false := by rfl) :
    PE X (.Call (.Name x p) (e :: es) [] pos) (tCall sp [] E t) := by
  obtain ⟨f, fd, ps, F, hm, kp, b⟩ := c.ex
  exact pe_call F (hr.mono hk) hg hm kp b .nil hx ha hdb he hpl
theorem pe_mX {pl : Sem Bool} (c : MetX X.prog X.w X.K X.mg X.base k C m sp) (hr : Room j X.A) (hk : k ≤ j) (hx : Passes (L2.CX X.prog X.w) X E) (he : PE X o ta) (ha : PA X (e :: es) t)
    (hst : starEach (e :: es) X.env = (false, eval e X.env) :: starEach es X.env := by rfl) (hpl : (backTo pos (starEach es X.env)).any (·.1) = false := by rfl)
    (ht : eval (.Call (.Attribute o m apos) (e :: es) [] pos) X.env = (do
      let ov ← eval o X.env
      standAt apos.atName
      let (f, first) ← holding [ov] (getMethod ov m pl)
      callWith pos f first (backTo pos (starEach (e :: es) X.env)) (backToKw pos (keywordEach [] X.env))) := by rfl) :
    PE X (.Call (.Attribute o m apos) (e :: es) [] pos) (tMeth C m sp [] E ta t) := by
  obtain ⟨f, fd, ps, hc, hm, F, b⟩ := c.ex
  exact pe_meth (pl := pl) he hc hm F (hr.mono hk) b .nil hx ha hst hpl ht
/-- o.m(..) in a try's body: what it lets out is looked at there -/
def tMethS (C : Addr) (m : Str) (sp : Sp) (W : WX) (ta : TE) (t : TA) : TE := fun σ H Q => ta σ H fun x H1 => ∃ a dx fs, x = .ref a ∧ H1 a = some (.ins C dx fs) ∧ fs.lookup m = none ∧
  t σ H1 fun vs H2 => sp (x :: vs) H2 Q (WE W σ)
theorem pe_mS {pl : Sem Bool} (c : MetX X.prog X.w X.K X.mg X.base k C m sp) (hr : Room j X.A) (hk : k ≤ j) (tk : Takes X W) (he : PE X o ta) (ha : PA X (e :: es) t)
    (hst : starEach (e :: es) X.env = (false, eval e X.env) :: starEach es X.env := by rfl) (hpl : (backTo pos (starEach es X.env)).any (·.1) = false := by rfl)
    (ht : eval (.Call (.Attribute o m apos) (e :: es) [] pos) X.env = (do
      let ov ← eval o X.env
      standAt apos.atName
      let (f, first) ← holding [ov] (getMethod ov m pl)
      callWith pos f first (backTo pos (starEach (e :: es) X.env)) (backToKw pos (keywordEach [] X.env))) := by rfl) :
    PE X (.Call (.Attribute o m apos) (e :: es) [] pos) (tMethS C m sp W ta t) := by
  obtain ⟨f, fd, ps, hc, hm, F, b⟩ := c.ex
  refine ⟨fun pins s σ H Q I h => ?_⟩
  refine PySem.W.methodCall_KW (pl := pl) (thn (he.run pins s σ H _ I h) fun u s1 ⟨x, H1, I1, rx, a, dx, fs, ex, ea, l, q⟩ => ?_) ht
  subst ex
  obtain rfl : u = Value.ref a := rx
  refine getmeth_ok I1 ea hc hm l ?_
  refine PySem.W.callWith_K (first := [.ref a]) (h₀ := X.base) I.ok.mod.kin hm.kp (thn (ha.run pos pins s1 σ H1 _ I1 q) fun us s2 ⟨vs, H2, I2, r, q2⟩ => ⟨I2.kIn, ?_⟩) hst hpl
  exact run_fnS (E := fun σ => WE W σ) (us := .ref a :: us) (vs := .ref a :: vs) F (hr.mono hk) b (passAt tk σ) I2 (.cons rfl r) q2
theorem takes00 {X : Cx} : Takes X (fun _ _ _ _ => False) := fun _ _ x => by
  obtain ⟨_, _, _, _, _, _, _, _, _, _, _, _, _, _, _, _, z⟩ := x
  exact z.elim
/-- a wish may ask for slots as many as names -/
theorem Takes.len (t : Takes X W) : Takes X (fun cls d σ H => σ.length = X.N.length → W cls d σ H) := fun u s' ⟨a, B, sI, pins, σ, H, cls, d, e, I, nb, up, sky, na, os, ag, w⟩ =>
  t u s' ⟨a, B, sI, pins, σ, H, cls, d, e, I, nb, up, sky, na, os, ag, w I.len⟩
end
/-- what is asked of an own exception class -/
structure XCls (K : PySem.W.Frag) (mg : Str → Option Value) (x : Str) (C : Addr) : Prop where
  g : mg x = some (.ref C)
  x : PySem.W.excIn K C [.type "ValueError", .type "Exception", .type "BaseException", .type "object"] "ValueError.__new__" = true
  k : PySem.W.keepIn K (.ref C) = true
  b : PySem.W.subIn K (.ref C) (.type "BaseException") = some true
  t : PySem.W.typeIn K (.ref C) = some (.type "type")
  e : ExcC K C
/-- an exception is let out -/
def RaiseV (C : Addr) (H : Hp) (E : XK) : Prop := ∀ H', Ex H H' → E (.ref C) none H'
theorem RaiseV.mono {C : Addr} {H H' : Hp} {E : XK} (e : Ex H H') (r : RaiseV C H E) : RaiseV C H' E := fun H2 e2 => r H2 (e.trans e2)
end Sg

/-! Lambdas handed to a def; what a def that calls them needs. -/
namespace Sg
open PySem L2 Evl
open PyProof.Rows
section
variable {X : Cx}
/-- list.count, flat items -/
def rCountL (K : PySem.W.Frag) : V → List V → Hp → VK → Prop := fun x xs H Q => ∃ (a : Addr) (ys : List V) (y : V), x = V.ref a ∧ xs = [y] ∧ SqL K H a ys ∧ flatV y = true ∧ ys.all flatV = true ∧ Q (.int (ys.countP fun z => eqV z y : Nat)) H
theorem countP_eqU {y : V} : ∀ {ys : List V} {us : List Value}, Vals ys us → ys.all flatV = true → us.countP (eqU y) = ys.countP fun z => eqV z y
  | _, _, .nil, _ => rfl
  | z :: ys, u :: us, .cons r t, f => by
    rw [List.all_cons, Bool.and_eq_true] at f
    rw [List.countP_cons, List.countP_cons, countP_eqU t f.2, eqU_of r f.1]
theorem mt_countL : MtR X "list.count" (rCountL X.K) := by
  intro pins s σ H x xs v us Q I rx rxs h
  obtain ⟨a, ys, y, rfl, rfl, hs, fy, fys, q⟩ := h
  cases rx
  cases rxs with
  | cons ry rt =>
    rename_i uy ut
    cases rt
    obtain ⟨its, rv, ⟨⟨cls, dd, data, sl⟩, n, ho, hc, hdn, hd⟩, hlen⟩ := I.list hs
    simp only at hc hd
    subst hc hd
    refine call_meets PySem.F.slot_list_count ⟨_, ho, rfl⟩ PySem.F.entry_list_count (PySem.F.args_list_count_2 _ _) (SeqAt.list_countAt a its.toArray n dd sl uy (eqU y)) ⟨ho, fun u' hu' => mem_eqAt ry fy rv fys u' (by simpa using hu'), ?_⟩
    have e : its.toArray.toList.countP (eqU y) = ys.countP fun z => eqV z y := countP_eqU rv fys
    exact ⟨.int (ys.countP fun z => eqV z y : Nat), H, I.kept (t' := s.toks + 1) fun _ _ z => z, ⟨s.toks, by rw [← e]⟩, q⟩
/-- isinstance of what the suite caught, whatever it is: its class must be one of today's -/
def rIsX (K : PySem.W.Frag) (cls : Value) (d : Option Addr) (a : Addr) : List V → Hp → VK → Prop := fun xs H Q => ∃ D, cls = .ref D ∧ d = none ∧ ExcC K D ∧ rIsE K D a xs H Q
theorem cr_isX {a : Addr} {cls : Value} {d : Option Addr} {oe : Obj} {pn : List (Addr × Obj)} (hz : Zc cls d oe) (hf : ∃ vs, oe.data = .fields vs) : CallR (X.suite a ((a, oe) :: pn)) (.builtin "isinstance") (rIsX X.K cls d a) := by
  intro pins s σ H xs us Q I r h
  obtain ⟨D, rfl, rfl, C, h⟩ := h
  exact call_isE C hz hf pins s σ H xs us Q I r h
theorem k_countL (K : PySem.W.Frag) (hK : X.K = K := by rfl) : MtR X "list.count" (rCountL K) := by subst hK; exact mt_countL
theorem k_indexL (K : PySem.W.Frag) (hK : X.K = K := by rfl) : MtR X "list.index" (rIndex K) := by subst hK; exact mt_index
theorem k_bm (K : PySem.W.Frag) {o e : Expr} {es : List Expr} {to : TE} {t : TA} {name : Str} {apos cpos : Pos} {T id : String} {r : V → List V → Hp → VK → Prop} (pa : PlainAttrs T) (slot : Slot T name id) (hty : typeOf (.builtin id) = pure (.type "method_descriptor")) (hm : MtR X id r) (ho : PE X o to) (ha : PA X (e :: es) t) (hK : X.K = K := by rfl)
    (hbase : attributeBase o name X.env (eval o X.env) = eval o X.env := by rfl)
    (hfew : ((backTo cpos (starEach (e :: es) X.env)).all (fun x => !x.1) && (backToKw cpos (keywordEach [] X.env)).all (fun x => x.1.isSome)
      && decide ((e :: es).length + ([] : List Keyword).length + (if ([] : List Keyword).isEmpty then 0 else 1) < 30)) = true := by rfl)
    (hline : (apos.endLine == cpos.line) = true := by rfl) (hs : starEach (e :: es) X.env = (false, eval e X.env) :: starEach es X.env := by rfl) (hplain : (backTo cpos (starEach es X.env)).any (·.1) = false := by rfl) :
    PE X (.Call (.Attribute o name apos) (e :: es) [] cpos) (tBM K T r to t) := by subst hK; exact pe_bm pa slot hty hm ho ha hbase hfew hline hs hplain
/-- some wish, of those that are fit -/
theorem pss_ex {body : List Stmt} {ok : XK → Prop} {tb : XK → TS} (h : ∀ E, ok E → PSs X body (tb E)) : PSs X body (fun D σ H => ∃ E, ok E ∧ tb E D σ H) := ⟨fun pins s σ H D I z => by
  obtain ⟨E, o, z⟩ := z
  exact (h E o).run pins s σ H D I z⟩
end
/-- a def that makes lambdas: its code object stands at c -/
structure DefL (K : PySem.W.Frag) (mg : Str → Option Value) (x : Str) (st : Stmt) (c : Addr) : Prop where
  ex : ∃ (f : Addr) (oc : Value) (od : Option Addr) (kV doc pm : Value) (an : Option Addr) (ct : Value) (osl : Array (Option Value)),
    K.lookup f = some ⟨oc, od, .func (PySem.W.fnOf x x (C8.fnArgs st) (C8.fnBody st) (C8.fnScope st) .none kV doc pm an (.ref c) ct), osl⟩ ∧ PySem.W.codeIn K (.ref c) x = true ∧ mg x = some (.ref f) ∧ PySem.W.keepIn K (.ref f) = true
section
variable {P : Program} {w : World} {K : PySem.W.Frag} {mg : Str → Option Value} {base : Heap} {x : Str} {st : Stmt} {c f : Addr} {N ps : List Str} {k : Nat} {sp : Sp} {oc kV doc pm ct : Value} {od an : Option Addr} {osl : Array (Option Value)}
theorem defL_mk (g : mg x = some (.ref f)) (l : K.lookup f = some ⟨oc, od, .func (PySem.W.fnOf x x (C8.fnArgs st) (C8.fnBody st) (C8.fnScope st) .none kV doc pm an (.ref c) ct), osl⟩)
    (h : PySem.W.codeIn K (.ref c) x = true) (k : PySem.W.keepIn K (.ref f) = true) : DefL K mg x st c := ⟨f, oc, od, kV, doc, pm, an, ct, osl, l, h, g, k⟩
theorem defL_in {hp : Heap} (_ : K.In hp) (g : mg x = some (.ref f)) (l : K.lookup f = some ⟨oc, od, .func (PySem.W.fnOf x x (C8.fnArgs st) (C8.fnBody st) (C8.fnScope st) .none kV doc pm an (.ref c) ct), osl⟩)
    (h : PySem.W.codeIn K (.ref c) x = true) (k : PySem.W.keepIn K (.ref f) = true) : DefL K mg x st c := defL_mk g l h k
theorem cal_ofL (D : DefL K mg x st c) (S : FnScope N ps (C8.fnScope st)) (hb : BindOkM x x st ps) (len : ∀ vs H Q E, sp vs H Q E → vs.length = ps.length)
    (hbody : ∀ (f : Addr) (A : Around) (outer : List Env) (s : Shared) (H : Hp) (vs : List V) (Q : VK) (E : XK), Room k (A.deeper (envOfC x (C8.fnScope st) s.heap.objs.size f (.ref c))) → sp vs H Q E →
      ∃ t, PSs (cxOf C8.CX0 P w K mg base N x (C8.fnScope st) f (.ref c) A outer s H E).nox (C8.fnBody st) t ∧ t { nx := fun _ H' => Q .non H', rt := Q } (start N vs) H) : C8.Cal P w K mg base (k + 1) x sp [] := by
  obtain ⟨f, oc, od, kV, doc, pm, an, ct, osl, l, h, g, kp⟩ := D.ex
  have F : C8.Fun K x x st f (PySem.W.fnOf x x (C8.fnArgs st) (C8.fnBody st) (C8.fnScope st) .none kV doc pm an (.ref c) ct) := ⟨oc, od, .none, kV, doc, pm, an, .ref c, ct, osl, rfl, l, h⟩
  refine ⟨f, _, ps, [], fn_of l h S len fun A outer s H vs Q E hr hsp => ?_, g, kp, F.binds rfl hb, .nil⟩
  obtain ⟨t, p, q⟩ := hbody f A outer s H vs Q E hr hsp
  exact ⟨t, p.nox, q⟩
end
section
variable {X : Cx}
theorem lam_out {Y : Cx} {A : Around} {outer : List Env} {s : Shared} {H : Hp} {E : XK} {scope : Scope} {f c' : Addr} : Passes (L2.CX Y.prog Y.w) (LamX.lamCx Y A outer s H E scope f c') E :=
  passes_call (X := LamX.lamCx Y A outer s H E scope f c') (W := fun cls d _ H => E cls d H) (takes_of rfl rfl rfl rfl) fun _ _ _ _ h => h
/-- x(lambda: body), x a def of the text -/
theorem pe_lam1 {T : List (Addr × Str)} {TT : (XK → Hp → VK → Prop) → Hp → VK → Prop} {x a : Str} {st : Stmt} {c P : Addr} {k : Nat} {Ng : List Str}
    {params : Arguments} {body : Expr} {scope : Scope} {t : XK → TE} {p lpos pos : Pos} (D : DefOk X.K X.mg x st) (hb : BindOkM x x st [a]) (S : FnScope Ng [a] (C8.fnScope st))
    (hG : ∀ g cdg, LamX.GivesTo X Ng x (C8.fnScope st) g cdg (C8.fnBody st) a (X.env.qual ++ "<lambda>") TT) (hg : Gl X x)
    (TB : LamX.TabB X.base X.mg c P) (hcode : X.env.code = .ref c) (hmT : (P, X.env.qual ++ "<lambda>") ∈ T) (hu : ∀ p ∈ T, p.1 = P → p.2 = X.env.qual ++ "<lambda>") (hr : Room (k + 2) X.A)
    (hNg : Ng[0]? = some a) (hva : Vis (C8.fnScope st) a) (L : LamX.LamS X.env.scope scope) (hdef : defaultsOf params X.env = ([], []))
    (hbind : ∀ (q : Str) (cl : List (Str × Addr)) (pm cv ctv : Value), bindArgs (PySem.W.kla_fn "<lambda>" q params body scope cl pm cv ctv) ⟨[], []⟩ = pure [])
    (hbody : ∀ (A : Around) (outer : List Env) (s : Shared) (H : Hp) (E : XK) (f c' : Addr), Room k (A.deeper (LamX.lamEnv X scope s.heap.objs.size f c')) → Passes (L2.CX X.prog X.w) (LamX.lamCx X A outer s H E scope f c') E → PE (LamX.lamCx X A outer s H E scope f c') body (t E))
    (hdb : (x == ("__debug__" : Str)) = false := by decide) (hd : (a == ("__debug__" : Str)) = false := by decide) (hcd : (a == ("__classdict__" : Str)) = false := by decide) :
    PE X (.Call (.Name x p) [.Lambda params body scope lpos] [] pos) (LamX.tLam T TT t) := by
  obtain ⟨f, fd, d, df⟩ := D.ex
  have hB := d.fn.binds df hb
  obtain ⟨oc, od, dV, kV, doc, pm, an, cdv, ct, osl, rfl, lk, hcg⟩ := d.fn.ex
  exact LamX.pe_lamcall hg d.mgf d.kp lk hcg hB S hNg hva (hG f cdv) TB hcode hmT hu hr L hdef hbind (fun A outer s H E f c' h => hbody A outer s H E f c' h lam_out) hdb hd hcd
end
theorem pe_c0 {X : Cx} {k j : Nat} {x : Str} {sp : Sp} {dvs : List V} {p pos : Pos} (c : C8.Cal X.prog X.w X.K X.mg X.base k x sp dvs) (hr : Room j X.A) (hk : k ≤ j) (hg : Gl X x)
    (hdb : (x == ("__debug__" : Str)) = false := by decide) : PE X (.Call (.Name x p) [] [] pos) (tCall sp dvs C8.E0 tNil) := by
  obtain ⟨f, fd, ps, ds, F, hm, kp, b, d⟩ := c.ex
  exact pe_call0 F (hr.mono hk) hg hm kp b d C8.pass0 hdb
/-- all but the tables is kept -/
theorem LamX.ExtN.ex {H H' : Hp} (e : Ex H H') : LamX.ExtN H H' := .of e
theorem ext_l {K : PySem.W.Frag} {H H' : Hp} {a : Addr} {xs : List V} (e : LamX.ExtN H H') (h : SqL K H a xs) : SqL K H' a xs := by
  rcases h with (h | ⟨o, h⟩) | h
  · exact .inl (.inl (e _ _ h fun ps z => nomatch z))
  · exact .inl (.inr ⟨o, e _ _ h fun ps z => nomatch z⟩)
  · exact .inr h
theorem ext_t {K : PySem.W.Frag} {H H' : Hp} {a : Addr} {xs : List V} (e : LamX.ExtN H H') (h : SqT K H a xs) : SqT K H' a xs := by
  rcases h with (h | ⟨o, h⟩) | h
  · exact .inl (.inl (e _ _ h fun ps z => nomatch z))
  · exact .inl (.inr ⟨o, e _ _ h fun ps z => nomatch z⟩)
  · exact .inr h
end Sg

/-! The three that keep a heap in a list: of tuples of three numbers. -/
namespace Hq
open PySem L2
/-! ### plain: two places change places, one goes down, one goes up -/
section
variable {α : Type}
/-- the smaller one below -/
def Child (lt : α → α → Bool) (xs : List α) (pos child : Nat) : Prop :=
  (2 * pos + 1 + 1 < xs.length → ∃ l r, xs[2 * pos + 1]? = some l ∧ xs[2 * pos + 1 + 1]? = some r ∧ child = if lt l r = true then 2 * pos + 1 else 2 * pos + 1 + 1) ∧ (¬ 2 * pos + 1 + 1 < xs.length → child = 2 * pos + 1)
inductive Run (lt : α → α → Bool) (top : Nat) : Bool → Nat → List α → List α → Prop
  | down {pos child : Nat} {xs ys : List α} {x y : α} (h : pos < xs.length / 2) (c : Child lt xs pos child) (hx : xs[child]? = some x) (hy : xs[pos]? = some y) (r : Run lt top true child ((xs.set child y).set pos x) ys) : Run lt top true pos xs ys
  | leaf {pos : Nat} {xs ys : List α} (h : ¬ pos < xs.length / 2) (r : Run lt top false pos xs ys) : Run lt top true pos xs ys
  | up {pos : Nat} {xs ys : List α} {x p : α} (h : pos > top) (hx : xs[pos]? = some x) (hp : xs[(pos - 1) / 2]? = some p) (l : lt x p = true) (r : Run lt top false ((pos - 1) / 2) ((xs.set ((pos - 1) / 2) x).set pos p) ys) : Run lt top false pos xs ys
  | stay {pos : Nat} {xs : List α} {x p : α} (h : pos > top) (hx : xs[pos]? = some x) (hp : xs[(pos - 1) / 2]? = some p) (l : lt x p = false) : Run lt top false pos xs xs
  | top {pos : Nat} {xs : List α} (h : ¬ pos > top) : Run lt top false pos xs xs
end
/-! ### the machine's own -/
theorem entry_sift : entryFor table "_heapq.heapify.sift" = some Builtin.«_heapq.heapify.sift» := entryFor_of_fast (by kernel_rfl)
theorem plain_sift : plainId "_heapq.heapify.sift" = true := by decide +kernel
section
variable {prog : Program} {w : World} {A : Around} {R : Result → Shared → Prop} {s : Shared}
abbrev PA (prog : Program) (w : World) (A : Around) (R : Result → Shared → Prop) : Fin → Shared → Prop := fun fin s' => match fin with
  | .done f => R (.ok f) s'
  | .again c' => c'.quiet = true ∧ codeAny (model prog w) A c' R s'
theorem go_on {args : Args} (h : wpAny (model prog w) A.in1 (Builtin.«_heapq.heapify.sift» args) (PA prog w A R) (fun e s' => R (.error e) s') s) :
    wpAny (model prog w) A.in1 (again (.builtin "_heapq.heapify.sift" args)) (PA prog w A R) (fun e s' => R (.error e) s') s :=
  wpAny_pure ⟨plainId_quiet plain_sift _, codeAny_builtin entry_sift (by rw [Around.under_plainId plain_sift args]; exact h)⟩
abbrev Sift (prog : Program) (w : World) (A : Around) (R : Result → Shared → Prop) (s : Shared) (a : Addr) (down : Bool) (pos top : Nat) (res : Value) (after : Int) : Prop :=
  wpAny (model prog w) A.in1 (Builtin.«_heapq.heapify.sift» ⟨[.ref a, .bool false, .bool down, rawInt (pos : Int), rawInt (top : Int), res, rawInt after], []⟩) (PA prog w A R) (fun e s' => R (.error e) s') s
theorem wp_yes {α : Type} {M : Model} {A : Around} {c : Prop} [Decidable c] {x y : Sem α} {Q : α → Shared → Prop} {E : Value → Shared → Prop} (h : c) (q : wpAny M A x Q E s) : wpAny M A (if c then x else y) Q E s := by rw [if_pos h]; exact q
theorem wp_no {α : Type} {M : Model} {A : Around} {c : Prop} [Decidable c] {x y : Sem α} {Q : α → Shared → Prop} {E : Value → Shared → Prop} (h : ¬ c) (q : wpAny M A y Q E s) : wpAny M A (if c then x else y) Q E s := by rw [if_neg h]; exact q
theorem wp_eq {α : Type} {M : Model} {A : Around} {x y : Sem α} {Q : α → Shared → Prop} {E : Value → Shared → Prop} (h : x = y) (q : wpAny M A y Q E s) : wpAny M A x Q E s := by rw [h]; exact q
abbrev lob (its : Array Value) (k : Nat) : Obj := { cls := .type "list", data := .seq its k }
theorem sift_leaf {a : Addr} {its : Array Value} {k : Nat} {pos top : Nat} {res : Value} {after : Int} (ho : s.heap.get? a = some (lob its k)) (h : ¬ pos < its.size / 2)
    (q : Sift prog w A R s a false pos top res after) : Sift prog w A R s a true pos top res after := by
  refine wpAny_bind (wpAny_bind (wpAny_seqItems ho rfl (wpAny_pure ?_)))
  refine wp_yes rfl ?_
  refine wp_no h ?_
  exact go_on q
/-- what stands behind one place -/
def Then (prog : Program) (w : World) (A : Around) (R : Result → Shared → Prop) (s : Shared) (a : Addr) (res : Value) (after : Int) : Prop :=
  (after < 0 → R (.ok (.ret res)) s) ∧ (¬ after < 0 → Sift prog w A R s a true after.toNat after.toNat res (after - 1))
theorem sift_top {a : Addr} {its : Array Value} {k : Nat} {pos top : Nat} {res : Value} {after : Int} (ho : s.heap.get? a = some (lob its k)) (h : ¬ pos > top)
    (q : Then prog w A R s a res after) : Sift prog w A R s a false pos top res after := by
  refine wpAny_bind (wpAny_bind (wpAny_seqItems ho rfl (wpAny_pure ?_)))
  refine wp_no (by decide) ?_
  refine wp_no h ?_
  by_cases c : after < 0
  · refine wp_yes c ?_
    exact wpAny_pure (q.1 c)
  · refine wp_no c ?_
    exact go_on (q.2 c)
theorem sift_cmp {a : Addr} {its : Array Value} {k : Nat} {pos top : Nat} {res : Value} {after : Int} {x p : Value} {b : Bool} (ho : s.heap.get? a = some (lob its k)) (h : pos > top) (hx : its[pos]? = some x) (hp : its[(pos - 1) / 2]? = some p) (hz : its.size ≤ sizeLine)
    (hc : Ob.RcOp .Lt A.in1 s x p b) (h0 : b = false → Then prog w A R s a res after)
    (h1 : b = true → Sift prog w A R { s with heap := s.heap.update a (Obj.mapSeq fun xs => (xs.setIfInBounds ((pos - 1) / 2) x).setIfInBounds pos p) } a false ((pos - 1) / 2) top res after) : Sift prog w A R s a false pos top res after := by
  refine wpAny_bind (wpAny_bind (wpAny_seqItems ho rfl (wpAny_pure ?_)))
  refine wp_no (by decide) ?_
  refine wp_yes h ?_
  refine wpAny_bind (wp_eq (y := pure x) (by show (match its[pos]? with | some v => pure v | none => _) = _; rw [hx]) (wpAny_pure ?_))
  refine wpAny_bind (wp_eq (y := pure p) (by show (match its[(pos - 1) / 2]? with | some v => pure v | none => _) = _; rw [hp]) (wpAny_pure ?_))
  refine wp_no (by decide) ?_
  refine wpAny_bind (wpAny_bind (wpAny_holding (wpAny_bind (hc _ _ _ _ (wpAny_truthy_bool ?_)))))
  refine wpAny_bind (wpAny_bind (wpAny_seqItems ho rfl (wpAny_pure ?_)))
  refine wp_no (by simp) ?_
  refine wpAny_pure ?_
  cases b with
  | false =>
    refine wp_no (by decide) ?_
    have q := h0 rfl
    by_cases c : after < 0
    · refine wp_yes c ?_
      exact wpAny_pure (q.1 c)
    · refine wp_no c ?_
      exact go_on (q.2 c)
  | true =>
    refine wp_yes rfl ?_
    refine wpAny_bind (wpAny_bind (wpAny_bind (wpAny_seqItems ho rfl (wpAny_pure ?_))))
    refine wpAny_bind (wp_eq (y := pure p) (by show (match its[(pos - 1) / 2]? with | some v => pure v | none => _) = _; rw [hp]) (wpAny_pure ?_))
    refine wpAny_bind (wp_eq (y := pure x) (by show (match its[pos]? with | some v => pure v | none => _) = _; rw [hx]) (wpAny_pure ?_))
    refine wpAny_updateSeq ho rfl ?_ hz (by simp; omega)
    exact go_on (h1 rfl)
theorem sift_one {a : Addr} {its : Array Value} {k : Nat} {pos top child : Nat} {res : Value} {after : Int} {x y : Value} (ho : s.heap.get? a = some (lob its k)) (hz : its.size ≤ sizeLine) (h : pos < its.size / 2)
    (hc : (2 * pos + 1 + 1 < its.size → ∃ l r b, its[2 * pos + 1]? = some l ∧ its[2 * pos + 1 + 1]? = some r ∧ Ob.RcOp .Lt A.in1 s l r b ∧ child = if b = true then 2 * pos + 1 else 2 * pos + 1 + 1) ∧ (¬ 2 * pos + 1 + 1 < its.size → child = 2 * pos + 1))
    (hx : its[child]? = some x) (hy : its[pos]? = some y)
    (q : Sift prog w A R { s with heap := s.heap.update a (Obj.mapSeq fun xs => (xs.setIfInBounds child y).setIfInBounds pos x) } a true child top res after) : Sift prog w A R s a true pos top res after := by
  refine wpAny_bind (wpAny_bind (wpAny_seqItems ho rfl (wpAny_pure ?_)))
  refine wp_yes rfl ?_
  refine wp_yes h ?_
  by_cases c : 2 * pos + 1 + 1 < its.size
  · obtain ⟨l, r, b, hl, hr, rc, ec⟩ := hc.1 c
    refine wp_yes c ?_
    refine wpAny_bind (wp_eq (y := pure l) (by show (match its[2 * pos + 1]? with | some v => pure v | none => _) = _; rw [hl]) (wpAny_pure ?_))
    refine wpAny_bind (wp_eq (y := pure r) (by show (match its[2 * pos + 1 + 1]? with | some v => pure v | none => _) = _; rw [hr]) (wpAny_pure ?_))
    refine wp_no (by decide) ?_
    refine wpAny_bind (wpAny_bind (wpAny_holding (wpAny_bind (rc _ _ _ _ (wpAny_truthy_bool ?_)))))
    refine wpAny_bind (wpAny_bind (wpAny_seqItems ho rfl (wpAny_pure ?_)))
    refine wp_no (by simp) ?_
    refine wpAny_pure ?_
    cases b with
    | true =>
      rw [if_pos rfl] at ec
      subst ec
      refine wp_no (by decide) ?_
      refine wpAny_bind (wpAny_bind (wpAny_bind (wpAny_seqItems ho rfl (wpAny_pure ?_))))
      refine wpAny_bind (wp_eq (y := pure x) (by show (match its[2 * pos + 1]? with | some v => pure v | none => _) = _; rw [hx]) (wpAny_pure ?_))
      refine wpAny_bind (wp_eq (y := pure y) (by show (match its[pos]? with | some v => pure v | none => _) = _; rw [hy]) (wpAny_pure ?_))
      refine wpAny_updateSeq ho rfl ?_ hz (by simp; omega)
      exact go_on q
    | false =>
      rw [if_neg (by decide)] at ec
      subst ec
      refine wp_yes rfl ?_
      refine wpAny_bind (wpAny_bind (wpAny_bind (wpAny_seqItems ho rfl (wpAny_pure ?_))))
      refine wpAny_bind (wp_eq (y := pure x) (by show (match its[2 * pos + 1 + 1]? with | some v => pure v | none => _) = _; rw [hx]) (wpAny_pure ?_))
      refine wpAny_bind (wp_eq (y := pure y) (by show (match its[pos]? with | some v => pure v | none => _) = _; rw [hy]) (wpAny_pure ?_))
      refine wpAny_updateSeq ho rfl ?_ hz (by simp; omega)
      exact go_on q
  · have ec := hc.2 c
    subst ec
    refine wp_no c ?_
    refine wpAny_bind (wpAny_bind (wpAny_bind (wpAny_seqItems ho rfl (wpAny_pure ?_))))
    refine wpAny_bind (wp_eq (y := pure x) (by show (match its[2 * pos + 1]? with | some v => pure v | none => _) = _; rw [hx]) (wpAny_pure ?_))
    refine wpAny_bind (wp_eq (y := pure y) (by show (match its[pos]? with | some v => pure v | none => _) = _; rw [hy]) (wpAny_pure ?_))
    refine wpAny_updateSeq ho rfl ?_ hz (by simp; omega)
    exact go_on q
end
/-! ### over what is tracked -/
section
variable {X : Cx} {pins : List (Addr × Obj)} {σ : L2.St} {H : Hp} {a : Addr}
theorem two_set {its : List Value} {i j : Nat} {x y : Value} : ((its.toArray.setIfInBounds i x).setIfInBounds j y) = ((its.set i x).set j y).toArray := by simp
theorem inv_swap {xs : List V} {s : Shared} {its : List Value} {n : Nat} {i j : Nat} {x y : V} {u v : Value} (I : Inv X pins σ (upd H a (.lst xs)) s) (e : s.heap.get? a = some (lob its.toArray n)) (r : Vals xs its) (hz : xs.length ≤ sizeLine) (hx : RelV x u) (hy : RelV y v) :
    Inv X pins σ (upd H a (.lst ((xs.set i x).set j y))) { s with heap := s.heap.update a (Obj.mapSeq fun zs => (zs.setIfInBounds i u).setIfInBounds j v) } := by
  have q := I.lset (l := a) (f := fun zs => (zs.setIfInBounds i u).setIfInBounds j v) (ys := (xs.set i x).set j y) (its' := (its.set i u).set j v) (t' := s.toks) upd_same e two_set ((r.set hx i).set hy j) (by rw [List.length_set, List.length_set]; exact hz)
  rw [upd_upd] at q
  exact q
theorem sift_run {prog : Program} {w : World} {R : Result → Shared → Prop} {lt : V → V → Bool} {U : V → Prop} {top : Nat} {res : Value} {after : Int}
    (HC : ∀ (zs : List V) (s : Shared), Inv X pins σ (upd H a (.lst zs)) s → ∀ x y u v, U x → U y → RelV x u → RelV y v → Ob.RcOp .Lt X.A.in1 s u v (lt x y))
    {down : Bool} {pos : Nat} {xs ys : List V} (r : Run lt top down pos xs ys) : (∀ x ∈ xs, U x) → xs.length ≤ sizeLine → ∀ s, Inv X pins σ (upd H a (.lst xs)) s → (∀ s', Inv X pins σ (upd H a (.lst ys)) s' → Then prog w X.A R s' a res after) → Sift prog w X.A R s a down pos top res after := by
  induction r with
  | @leaf pos xs ys h r ih =>
    intro hU hz s I k
    obtain ⟨z, its, n, rv, hl, e⟩ := I.lstM (l := a) upd_same
    exact sift_leaf e (by rw [List.size_toArray, ← hl]; exact h) (ih hU hz s I k)
  | @top pos xs h =>
    intro hU hz s I k
    obtain ⟨z, its, n, rv, hl, e⟩ := I.lstM (l := a) upd_same
    exact sift_top e h (k s I)
  | @stay pos xs x p h hx hp l =>
    intro hU hz s I k
    obtain ⟨z, its, n, rv, hl, e⟩ := I.lstM (l := a) upd_same
    obtain ⟨u, hu, ru⟩ := rv.get hx
    obtain ⟨v, hv, rv'⟩ := rv.get hp
    have rc := HC xs s I x p u v (hU x (List.mem_of_getElem? hx)) (hU p (List.mem_of_getElem? hp)) ru rv'
    exact sift_cmp e h (by simpa using hu) (by simpa using hv) (by rw [List.size_toArray, ← hl]; exact hz) rc (fun _ => k s I) (fun z => by rw [l] at z; cases z)
  | @up pos xs ys x p h hx hp l r ih =>
    intro hU hz s I k
    obtain ⟨z, its, n, rv, hl, e⟩ := I.lstM (l := a) upd_same
    obtain ⟨u, hu, ru⟩ := rv.get hx
    obtain ⟨v, hv, rv'⟩ := rv.get hp
    have rc := HC xs s I x p u v (hU x (List.mem_of_getElem? hx)) (hU p (List.mem_of_getElem? hp)) ru rv'
    refine sift_cmp e h (by simpa using hu) (by simpa using hv) (by rw [List.size_toArray, ← hl]; exact hz) rc (fun z => by rw [l] at z; cases z) fun _ => ih (fun y hy => ?_) (by rw [List.length_set, List.length_set]; exact hz) _ (inv_swap I e rv hz ru rv') k
    rcases List.mem_or_eq_of_mem_set hy with hy | rfl
    · rcases List.mem_or_eq_of_mem_set hy with hy | rfl
      · exact hU y hy
      · exact hU _ (List.mem_of_getElem? hx)
    · exact hU _ (List.mem_of_getElem? hp)
  | @down pos child xs ys x y h c hx hy r ih =>
    intro hU hz s I k
    obtain ⟨z, its, n, rv, hl, e⟩ := I.lstM (l := a) upd_same
    obtain ⟨u, hu, ru⟩ := rv.get hx
    obtain ⟨v, hv, rv'⟩ := rv.get hy
    have hs : its.toArray.size = xs.length := by rw [List.size_toArray, hl]
    refine sift_one e (by rw [hs]; exact hz) (by rw [hs]; exact h) ⟨fun c2 => ?_, fun c2 => ?_⟩ (by simpa using hu) (by simpa using hv) (ih (fun q hq => ?_) (by rw [List.length_set, List.length_set]; exact hz) _ (inv_swap I e rv hz rv' ru) k)
    · rw [hs] at c2
      obtain ⟨l, r0, h1, h2, h3⟩ := c.1 c2
      obtain ⟨ul, hul, rl⟩ := rv.get h1
      obtain ⟨ur, hur, rr⟩ := rv.get h2
      exact ⟨ul, ur, _, by simpa using hul, by simpa using hur, HC xs s I l r0 ul ur (hU l (List.mem_of_getElem? h1)) (hU r0 (List.mem_of_getElem? h2)) rl rr, h3⟩
    · rw [hs] at c2
      exact c.2 c2
    · rcases List.mem_or_eq_of_mem_set hq with hq | rfl
      · rcases List.mem_or_eq_of_mem_set hq with hq | rfl
        · exact hU _ hq
        · exact hU _ (List.mem_of_getElem? hy)
      · exact hU _ (List.mem_of_getElem? hx)
end
/-! ### that it ends -/
section
variable {α : Type} {lt : α → α → Bool} {top : Nat}
theorem run_up : ∀ (pos : Nat) (xs : List α), pos < xs.length → ∃ ys, Run lt top false pos xs ys := by
  intro pos
  induction pos using Nat.strongRecOn with
  | ind pos ih =>
    intro xs hp
    by_cases c : pos > top
    · have h1 := List.getElem?_eq_getElem hp
      have h2 := List.getElem?_eq_getElem (show (pos - 1) / 2 < xs.length by omega)
      cases l : lt xs[pos] (xs[(pos - 1) / 2]'(by omega)) with
      | true =>
        obtain ⟨ys, r⟩ := ih ((pos - 1) / 2) (by omega) ((xs.set ((pos - 1) / 2) xs[pos]).set pos (xs[(pos - 1) / 2]'(by omega))) (by rw [List.length_set, List.length_set]; omega)
        exact ⟨ys, .up c h1 h2 l r⟩
      | false => exact ⟨xs, .stay c h1 h2 l⟩
    · exact ⟨xs, .top c⟩
theorem child_at (xs : List α) {pos : Nat} (h : pos < xs.length / 2) : ∃ child, Child lt xs pos child ∧ pos < child ∧ child < xs.length ∧ (child - 1) / 2 = pos := by
  by_cases c : 2 * pos + 1 + 1 < xs.length
  · have h1 := List.getElem?_eq_getElem (show 2 * pos + 1 < xs.length by omega)
    have h2 := List.getElem?_eq_getElem c
    cases l : lt (xs[2 * pos + 1]'(by omega)) xs[2 * pos + 1 + 1] with
    | true => exact ⟨2 * pos + 1, ⟨fun _ => ⟨_, _, h1, h2, by rw [l, if_pos rfl]⟩, fun z => absurd c z⟩, by omega, by omega, by omega⟩
    | false => exact ⟨2 * pos + 1 + 1, ⟨fun _ => ⟨_, _, h1, h2, by rw [l, if_neg (by decide)]⟩, fun z => absurd c z⟩, by omega, by omega, by omega⟩
  · exact ⟨2 * pos + 1, ⟨fun z => absurd z c, fun _ => rfl⟩, by omega, by omega, by omega⟩
theorem run_down : ∀ (k pos : Nat) (xs : List α), xs.length - pos = k → pos < xs.length → ∃ ys, Run lt top true pos xs ys := by
  intro k
  induction k using Nat.strongRecOn with
  | ind k ih =>
    intro pos xs hk hp
    by_cases c : pos < xs.length / 2
    · obtain ⟨child, hc, h1, h2, _⟩ := child_at (lt := lt) xs c
      have e1 := List.getElem?_eq_getElem h2
      have e2 := List.getElem?_eq_getElem hp
      obtain ⟨ys, r⟩ := ih (xs.length - child) (by omega) child ((xs.set child xs[pos]).set pos xs[child]) (by rw [List.length_set, List.length_set]) (by rw [List.length_set, List.length_set]; exact h2)
      exact ⟨ys, .down c hc e1 e2 r⟩
    · obtain ⟨ys, r⟩ := run_up (lt := lt) (top := top) pos xs hp
      exact ⟨ys, .leaf c r⟩
theorem swap_perm {xs : List α} {i j : Nat} {x y : α} (hi : xs[i]? = some x) (hj : xs[j]? = some y) : ((xs.set i y).set j x).Perm xs := by
  obtain ⟨h1, e1⟩ := List.getElem?_eq_some_iff.mp hi
  obtain ⟨h2, e2⟩ := List.getElem?_eq_some_iff.mp hj
  subst e1 e2
  exact List.set_set_perm h1 h2
theorem Run.perm {down : Bool} {pos : Nat} {xs ys : List α} (r : Run lt top down pos xs ys) : ys.Perm xs := by
  induction r with
  | down h c hx hy r ih => exact ih.trans (swap_perm hx hy)
  | leaf h r ih => exact ih
  | up h hx hp l r ih => exact ih.trans (swap_perm hp hx)
  | stay => exact List.Perm.refl _
  | top => exact List.Perm.refl _
end
/-! ### tuples of three numbers -/
section
variable {X : Cx} {pins : List (Addr × Obj)} {σ : L2.St} {H : Hp} {a : Addr}
def lt3 (p q : Int × Int × Int) : Bool := if p.1 = q.1 then (if p.2.1 = q.2.1 then decide (p.2.2 < q.2.2) else decide (p.2.1 < q.2.1)) else decide (p.1 < q.1)
def k3 (H : Hp) : V → Int × Int × Int
  | .ref t => match H t with
    | some (.tup [.int a, .int b, .int c]) => (a, b, c)
    | _ => (0, 0, 0)
  | _ => (0, 0, 0)
def T3 (H : Hp) (v : V) : Prop := ∃ t p q r, v = .ref t ∧ H t = some (.tup [.int p, .int q, .int r])
theorem k3_of {t : Addr} {p q r : Int} (h : H t = some (.tup [.int p, .int q, .int r])) : k3 H (.ref t) = (p, q, r) := by simp only [k3, h]
theorem cmp3 {xs : List V} (ha : H a = some (.lst xs)) (hu : X.A.units + 1 < cLine) (zs : List V) (s : Shared) (I : Inv X pins σ (upd H a (.lst zs)) s) (x y : V) (u v : Value) (hx : T3 H x) (hy : T3 H y) (rx : RelV x u) (ry : RelV y v) :
    Ob.RcOp .Lt X.A.in1 s u v (lt3 (k3 H x) (k3 H y)) := by
  obtain ⟨t, p, q, r, rfl, ht⟩ := hx
  obtain ⟨t', p', q', r', rfl, ht'⟩ := hy
  cases rx
  cases ry
  rw [k3_of ht, k3_of ht']
  have n1 : t ≠ a := fun z => by rw [z, ha] at ht; cases ht
  have n2 : t' ≠ a := fun z => by rw [z, ha] at ht'; cases ht'
  have s1 : SqT X.K (upd H a (.lst zs)) t ([p, q, r].map V.int) := Or.inl (Or.inl (by rw [upd_ne n1]; exact ht))
  have s2 : SqT X.K (upd H a (.lst zs)) t' ([p', q', r'].map V.int) := Or.inl (Or.inl (by rw [upd_ne n2]; exact ht'))
  obtain ⟨its, r1, p1, _⟩ := I.tuple s1
  obtain ⟨its2, r2, p2, _⟩ := I.tuple s2
  have i1 : PyProof.Rows.IntsAre its [p, q, r] := Vals.ints r1
  have i2 : PyProof.Rows.IntsAre its2 [p', q', r'] := Vals.ints r2
  have e1 : its.toArray.size = 3 := by rw [List.size_toArray]; exact i1.length
  have e2 : its2.toArray.size = 3 := by rw [List.size_toArray]; exact i2.length
  have at1 : ∀ j (h1 : j < its.toArray.size), ∃ t, its.toArray[j] = .int ([p, q, r].getD j 0) t := fun j h1 => PyProof.Rows.IntsAre.int_at i1 _ _ (by simp at h1; simp [h1])
  have at2 : ∀ j (h1 : j < its2.toArray.size), ∃ t, its2.toArray[j] = .int ([p', q', r'].getD j 0) t := fun j h1 => PyProof.Rows.IntsAre.int_at i2 _ _ (by simp at h1; simp [h1])
  have R := Ob.RcOp.tuples_lt (A := X.A.in1) (s := s) (e := fun j => decide ([p, q, r].getD j 0 = [p', q', r'].getD j 0)) (r := fun j => decide ([p, q, r].getD j 0 < [p', q', r'].getD j 0)) p1 p2 hu (fun j h1 h2 => by
    obtain ⟨t, et⟩ := at1 j h1
    obtain ⟨t', et'⟩ := at2 j h2
    rw [et, et']
    have z : ([p, q, r].getD j 0 == [p', q', r'].getD j 0) = decide ([p, q, r].getD j 0 = [p', q', r'].getD j 0) := by
      by_cases c : [p, q, r].getD j 0 = [p', q', r'].getD j 0
      · rw [decide_eq_true c]; exact beq_iff_eq.mpr c
      · rw [decide_eq_false c]; exact beq_eq_false_iff_ne.mpr c
    show SeqAt.EqAt _ _ _ _ (decide ([p, q, r].getD j 0 = [p', q', r'].getD j 0))
    rw [← z]
    exact SeqAt.EqAt.int_int _ _ _ _) (fun j h1 h2 _ => by
    obtain ⟨t, et⟩ := at1 j h1
    obtain ⟨t', et'⟩ := at2 j h2
    rw [et, et']
    exact Ob.RcOp.lt_int _ _ _ _)
  rw [e1, e2] at R
  have z : Ob.lexAt (fun j => decide ([p, q, r].getD j 0 = [p', q', r'].getD j 0)) (fun j => decide ([p, q, r].getD j 0 < [p', q', r'].getD j 0)) (decide (3 < 3)) 0 (min 3 3) = lt3 (p, q, r) (p', q', r') := by
    show (if decide (p = p') = true then (if decide (q = q') = true then (if decide (r = r') = true then false else decide (r < r')) else decide (q < q')) else decide (p < p')) = _
    unfold lt3
    simp only [decide_eq_true_eq]
    split
    · split
      · split
        · rename_i c
          have c : r = r' := c
          subst c
          exact (decide_eq_false (Int.lt_irrefl _)).symm
        · rfl
      · rfl
    · rfl
  rw [z] at R
  exact R
end
/-! ### the three -/
theorem entry_push : entryFor table "_heapq.heappush" = some Builtin.«_heapq.heappush» := entryFor_of_fast (by kernel_rfl)
theorem plain_push : plainId "_heapq.heappush" = true := by decide +kernel
theorem kind_push : builtinKind "_heapq.heappush" = none := by decide +kernel
theorem args_push (a b : Value) : argsOk "_heapq.heappush" ⟨[a, b], []⟩ := by unfold argsOk; kernel_rfl
theorem entry_pop : entryFor table "_heapq.heappop" = some Builtin.«_heapq.heappop» := entryFor_of_fast (by kernel_rfl)
theorem plain_pop : plainId "_heapq.heappop" = true := by decide +kernel
theorem kind_pop : builtinKind "_heapq.heappop" = none := by decide +kernel
theorem args_pop (a : Value) : argsOk "_heapq.heappop" ⟨[a], []⟩ := by unfold argsOk; kernel_rfl
theorem entry_heapify : entryFor table "_heapq.heapify" = some Builtin.«_heapq.heapify» := entryFor_of_fast (by kernel_rfl)
theorem plain_heapify : plainId "_heapq.heapify" = true := by decide +kernel
theorem kind_heapify : builtinKind "_heapq.heapify" = none := by decide +kernel
theorem args_heapify (a : Value) : argsOk "_heapq.heapify" ⟨[a], []⟩ := by unfold argsOk; kernel_rfl
section
variable {prog : Program} {w : World} {A : Around} {R : Result → Shared → Prop} {s : Shared} {a : Addr} {its : Array Value} {k : Nat}
theorem push_at {u : Value} (ho : s.heap.get? a = some (lob its k)) (hz : its.size < sizeLine) (q : Sift prog w A R { s with heap := s.heap.update a (Obj.mapSeq (·.push u)) } a false its.size 0 .none (-1)) :
    wpAny (model prog w) A.in1 (Builtin.«_heapq.heappush» ⟨[.ref a, u], []⟩) (PA prog w A R) (fun e s' => R (.error e) s') s := by
  refine wpAny_bind (wpAny_bind (wpAny_pure ?_))
  refine wpAny_bind (wpAny_pure ?_)
  refine wpAny_bind (wpAny_bind (wpAny_isInstance (T := "list") ⟨_, ho, rfl⟩ F.isi_self_list ?_))
  refine wp_yes rfl ?_
  refine wpAny_pure ?_
  refine wpAny_pure ?_
  refine wpAny_bind (wpAny_updateSeq ho rfl ?_ (Nat.le_of_lt hz) (by simp; omega))
  have ho' : (s.heap.update a (Obj.mapSeq fun x => x.push u)).get? a = some (lob (its.push u) (k + 1)) := by
    have z := PyProof.Rows.get?_update_seq (c := "list") ho (fun x => x.push u)
    rw [Array.size_push, if_neg (by simp)] at z
    exact z
  refine wpAny_bind (wpAny_bind (wpAny_seqItems ho' rfl (wpAny_pure ?_)))
  have e : (its.push u).size - 1 = its.size := by rw [Array.size_push]; omega
  have q' : Sift prog w A R { s with heap := s.heap.update a (Obj.mapSeq fun x => x.push u) } a false ((its.push u).size - 1) 0 .none (-1) := by rw [e]; exact q
  exact go_on q'
theorem pop_at {v : Value} (ho : s.heap.get? a = some (lob its k)) (hz : its.size ≤ sizeLine) (hb : its.back? = some v) (q1 : its.size = 1 → R (.ok (.ret v)) { s with heap := s.heap.update a (Obj.mapSeq (·.pop)) })
    (q2 : ∀ u, ¬ its.size = 1 → its[0]? = some u → Sift prog w A R { s with heap := (s.heap.update a (Obj.mapSeq (·.pop))).update a (Obj.mapSeq fun x => x.setIfInBounds 0 v) } a true 0 0 u (-1)) :
    wpAny (model prog w) A.in1 (Builtin.«_heapq.heappop» ⟨[.ref a], []⟩) (PA prog w A R) (fun e s' => R (.error e) s') s := by
  refine wpAny_bind (wpAny_bind (wpAny_bind (wpAny_pure (wpAny_pure ?_))))
  refine wpAny_bind (wpAny_bind (wpAny_isInstance (T := "list") ⟨_, ho, rfl⟩ F.isi_self_list ?_))
  refine wp_yes rfl ?_
  refine wpAny_pure ?_
  refine wpAny_pure ?_
  refine wpAny_bind (wpAny_bind (wpAny_seqItems ho rfl (wpAny_pure ?_)))
  rw [hb]
  refine wpAny_bind (wpAny_updateSeq ho rfl ?_ hz (by simp; omega))
  by_cases c : its.size = 1
  · refine wp_yes (beq_iff_eq.mpr c) ?_
    refine wpAny_bind (wpAny_pure ?_)
    exact wpAny_pure (q1 c)
  · refine wp_no (fun z => c (beq_iff_eq.mp z)) ?_
    have h0 : 0 < its.size := by
      cases e : its.size with
      | zero =>
        rw [Array.back?_eq_getElem?, e] at hb
        rw [Array.getElem?_eq_none (by omega)] at hb
        cases hb
      | succ n => omega
    have hu := Array.getElem?_eq_getElem h0
    generalize its[0] = u at hu
    refine wpAny_bind (wp_eq (y := pure u) (by show (match its[0]? with | some v => pure v | none => _) = _; rw [hu]) (wpAny_pure ?_))
    have ho' := PyProof.Rows.get?_update_seq (c := "list") ho (fun x => x.pop)
    refine wpAny_bind (wpAny_updateSeq ho' rfl ?_ (by simp; omega) (by simp; omega))
    exact go_on (q2 u c hu)
theorem heapify_at (ho : s.heap.get? a = some (lob its k)) (hz : its.size ≤ 2500) (q1 : its.size < 2 → R (.ok (.ret .none)) s)
    (q2 : ¬ its.size < 2 → Sift prog w A R s a true (its.size / 2 - 1) (its.size / 2 - 1) .none (((its.size / 2 : Nat) : Int) - 2)) :
    wpAny (model prog w) A.in1 (Builtin.«_heapq.heapify» ⟨[.ref a], []⟩) (PA prog w A R) (fun e s' => R (.error e) s') s := by
  refine wpAny_bind (wpAny_bind (wpAny_bind (wpAny_pure (wpAny_pure ?_))))
  refine wpAny_bind (wpAny_bind (wpAny_isInstance (T := "list") ⟨_, ho, rfl⟩ F.isi_self_list ?_))
  refine wp_yes rfl ?_
  refine wpAny_pure ?_
  refine wpAny_pure ?_
  refine wpAny_bind (wpAny_bind (wpAny_seqItems ho rfl (wpAny_pure ?_)))
  refine wp_no (show ¬ its.size > 2500 by omega) ?_
  by_cases c : its.size < 2
  · refine wp_yes c ?_
    refine wpAny_bind (wpAny_pure ?_)
    exact wpAny_pure (q1 c)
  · refine wp_no c ?_
    exact go_on (q2 c)
end
/-! ### as rules -/
abbrev ltH (H : Hp) (x y : V) : Bool := lt3 (k3 H x) (k3 H y)
/-- so many places are sifted down, the last one first -/
inductive Hfy {α : Type} (lt : α → α → Bool) : Nat → List α → List α → Prop
  | zero {xs : List α} : Hfy lt 0 xs xs
  | succ {k : Nat} {xs ys zs : List α} (r : Run lt k true k xs ys) (h : Hfy lt k ys zs) : Hfy lt (k + 1) xs zs
theorem Hfy.perm {α : Type} {lt : α → α → Bool} {k : Nat} {xs ys : List α} (h : Hfy lt k xs ys) : ys.Perm xs := by
  induction h with
  | zero => exact List.Perm.refl _
  | succ r h ih => exact ih.trans r.perm
def rPush : List V → Hp → VK → Prop := fun vs H Q => ∃ (a : Addr) (xs : List V) (v : V), vs = [.ref a, v] ∧ H a = some (.lst xs) ∧ (∀ x ∈ xs, T3 H x) ∧ T3 H v ∧ xs.length < 100000 ∧
  ∀ ys, Run (ltH H) 0 false xs.length (xs ++ [v]) ys → Q .non (upd H a (.lst ys))
def rPop : List V → Hp → VK → Prop := fun vs H Q => ∃ (a : Addr) (xs : List V) (v : V), vs = [.ref a] ∧ H a = some (.lst (xs ++ [v])) ∧ (∀ x ∈ xs ++ [v], T3 H x) ∧ (xs = [] → Q v (upd H a (.lst []))) ∧
  ∀ x ys, xs[0]? = some x → Run (ltH H) 0 true 0 (xs.set 0 v) ys → Q x (upd H a (.lst ys))
def rHeapify : List V → Hp → VK → Prop := fun vs H Q => ∃ (a : Addr) (xs : List V), vs = [.ref a] ∧ H a = some (.lst xs) ∧ (∀ x ∈ xs, T3 H x) ∧ xs.length ≤ 2500 ∧
  ∀ ys, Hfy (ltH H) (xs.length / 2) xs ys → Q .non (upd H a (.lst ys))
section
variable {X : Cx}
theorem c100k {n : Nat} (h : n < 100000) : n < sizeLine := Nat.lt_of_lt_of_le h (by decide)
theorem cr_push (hu : X.A.units + 64 < cLine) : CallR X (.builtin "_heapq.heappush") rPush := by
  intro pins s σ H vs us Q I r h
  obtain ⟨a, xs, v, rfl, ha, hx, hv, hz, q⟩ := h
  obtain ⟨u1, u, rfl, r1, ru⟩ := vals2 r
  cases (show u1 = Value.ref a from r1)
  obtain ⟨z, its, n, rv, hl, e⟩ := I.lstM ha
  refine PySem.call_function_meets (S := fun A R s' => A = X.A ∧ s' = s ∧ ∀ ys s2, Run (ltH H) 0 false xs.length (xs ++ [v]) ys → Inv X pins σ (upd H a (.lst ys)) s2 → R (.ok (.ret .none)) s2) kind_push plain_push entry_push (args_push _ _) ?_ ⟨rfl, rfl, fun ys s2 hr I2 => ⟨.non, _, I2, rfl, q ys hr⟩⟩
  rintro prog w A R s' ⟨rfl, rfl, k⟩
  have hs : its.toArray.size = xs.length := by rw [List.size_toArray, hl]
  have hz2 : (xs ++ [v]).length ≤ sizeLine := by rw [List.length_append, List.length_singleton]; exact c100k hz
  obtain ⟨ys, hr⟩ := run_up (lt := ltH H) (top := 0) xs.length (xs ++ [v]) (by rw [List.length_append, List.length_singleton]; omega)
  have I1 := I.lset (f := fun x => x.push u) (its' := its ++ [u]) (t' := s'.toks) ha e (by simp) (rv.append (.cons ru .nil)) hz2
  refine push_at e (by rw [hs]; exact c100k hz) ?_
  rw [hs]
  exact sift_run (U := T3 H) (cmp3 ha (by omega)) hr (fun x hm => by
    rcases List.mem_append.mp hm with hm | hm
    · exact hx x hm
    · rw [List.mem_singleton] at hm; rw [hm]; exact hv) hz2 _ I1 fun s2 I2 => ⟨fun _ => k ys s2 hr I2, fun z => absurd (by decide) z⟩
theorem cr_pop (hu : X.A.units + 64 < cLine) : CallR X (.builtin "_heapq.heappop") rPop := by
  intro pins s σ H vs us Q I r h
  obtain ⟨a, xs, v, rfl, ha, hx, q1, q2⟩ := h
  cases (Vals.ref1 r)
  obtain ⟨z, its, n, rv, hl, e⟩ := I.lstM ha
  obtain ⟨u, hu', ru⟩ := rv.get (i := xs.length) (x := v) (by simp)
  have hs : its.toArray.size = xs.length + 1 := by rw [List.size_toArray, ← hl, List.length_append]; rfl
  have hb : its.toArray.back? = some u := by
    rw [Array.back?_eq_getElem?, hs]
    simpa using hu'
  have hd : xs = (xs ++ [v]).dropLast := by simp
  have rd : Vals xs its.dropLast := by
    have := rv.dropLast
    rwa [← hd] at this
  have hpop : its.toArray.pop = its.dropLast.toArray := by simp
  refine PySem.call_function_meets (S := fun A R s' => A = X.A ∧ s' = s ∧ (xs = [] → ∀ s2, Inv X pins σ (upd H a (.lst [])) s2 → R (.ok (.ret u)) s2) ∧ ∀ x ux ys s2, xs[0]? = some x → RelV x ux → Run (ltH H) 0 true 0 (xs.set 0 v) ys → Inv X pins σ (upd H a (.lst ys)) s2 → R (.ok (.ret ux)) s2) kind_pop plain_pop entry_pop (args_pop _) ?_
    ⟨rfl, rfl, fun e s2 I2 => ⟨v, _, I2, ru, q1 e⟩, fun x ux ys s2 h0 rx hr I2 => ⟨x, _, I2, rx, q2 x ys h0 hr⟩⟩
  rintro prog w A R s' ⟨rfl, rfl, k1, k2⟩
  have I1 := I.lset (f := fun x => x.pop) (its' := its.dropLast) (t' := s'.toks) (ys := xs) ha e hpop rd (by rw [List.length_append, List.length_singleton] at z; omega)
  refine pop_at e (by rw [hs]; rw [List.length_append, List.length_singleton] at z; exact z) hb (fun c => ?_) fun u0 c h0 => ?_
  · have : xs = [] := List.length_eq_zero_iff.mp (by omega)
    subst this
    exact k1 rfl _ I1
  · have hne : 0 < xs.length := by omega
    have hx0 := List.getElem?_eq_getElem hne
    obtain ⟨u1, hu1, ru1⟩ := rv.get (i := 0) (x := xs[0]) (by rw [List.getElem?_append_left hne]; exact hx0)
    have eu : u1 = u0 := by
      have z2 : its[0]? = some u0 := by simpa using h0
      rw [hu1] at z2
      exact Option.some.inj z2
    subst eu
    obtain ⟨z1, its1, n1, rv1, hl1, e1⟩ := I1.lstM upd_same
    have I2 := I1.lset (f := fun x => x.setIfInBounds 0 u) (its' := its1.set 0 u) (t' := s'.toks) (ys := xs.set 0 v) upd_same e1 (by simp) (rv1.set ru 0) (by rw [List.length_set]; exact z1)
    rw [upd_upd] at I2
    obtain ⟨ys, hr⟩ := run_down (lt := ltH H) (top := 0) _ 0 (xs.set 0 v) rfl (by rw [List.length_set]; exact hne)
    exact sift_run (U := T3 H) (cmp3 ha (by omega)) hr (fun x hm => by
      rcases List.mem_or_eq_of_mem_set hm with hm | rfl
      · exact hx x (List.mem_append_left _ hm)
      · exact hx _ (by simp)) (by rw [List.length_set]; exact z1) _ I2 fun s2 I3 => ⟨fun _ => k2 _ _ ys s2 hx0 ru1 hr I3, fun z => absurd (by decide) z⟩
theorem hfy_run {pins : List (Addr × Obj)} {σ : L2.St} {H : Hp} {a : Addr} {xs0 : List V} {prog : Program} {w : World} {R : Result → Shared → Prop} (ha : H a = some (.lst xs0)) (hu : X.A.units + 64 < cLine) :
    ∀ (m : Nat) (xs : List V) (s : Shared), m < xs.length → (∀ x ∈ xs, T3 H x) → xs.length ≤ sizeLine → Inv X pins σ (upd H a (.lst xs)) s → (∀ ys s', Hfy (ltH H) (m + 1) xs ys → Inv X pins σ (upd H a (.lst ys)) s' → R (.ok (.ret .none)) s') → Sift prog w X.A R s a true m m .none ((m : Int) - 1) := by
  intro m
  induction m with
  | zero =>
    intro xs s hm hx hz I k
    obtain ⟨ys, hr⟩ := run_down (lt := ltH H) (top := 0) _ 0 xs rfl hm
    exact sift_run (U := T3 H) (cmp3 ha (by omega)) hr hx hz s I fun s2 I2 => ⟨fun _ => k ys s2 (.succ hr .zero) I2, fun z => absurd (by decide) z⟩
  | succ m ih =>
    intro xs s hm hx hz I k
    obtain ⟨ys, hr⟩ := run_down (lt := ltH H) (top := m + 1) _ (m + 1) xs rfl hm
    have hp := hr.perm
    refine sift_run (U := T3 H) (cmp3 ha (by omega)) hr hx hz s I fun s2 I2 => ⟨fun z => absurd z (by omega), fun _ => ?_⟩
    have e1 : (((m + 1 : Nat) : Int) - 1).toNat = m := by omega
    have e2 : ((m + 1 : Nat) : Int) - 1 - 1 = (m : Int) - 1 := by omega
    rw [e1, e2]
    exact ih ys s2 (by rw [hp.length_eq]; omega) (fun x h => hx x (hp.mem_iff.mp h)) (by rw [hp.length_eq]; exact hz) I2 fun zs s3 h3 I3 => k zs s3 (.succ hr h3) I3
theorem cr_heapify (hu : X.A.units + 64 < cLine) : CallR X (.builtin "_heapq.heapify") rHeapify := by
  intro pins s σ H vs us Q I r h
  obtain ⟨a, xs, rfl, ha, hx, hz, q⟩ := h
  cases (Vals.ref1 r)
  obtain ⟨z, its, n, rv, hl, e⟩ := I.lstM ha
  have hs : its.toArray.size = xs.length := by rw [List.size_toArray, hl]
  have same : upd H a (.lst xs) = H := by
    funext b
    unfold upd
    split
    · rename_i c; rw [c, ha]
    · rfl
  refine PySem.call_function_meets (S := fun A R s' => A = X.A ∧ s' = s ∧ ∀ ys s2, Hfy (ltH H) (xs.length / 2) xs ys → Inv X pins σ (upd H a (.lst ys)) s2 → R (.ok (.ret .none)) s2) kind_heapify plain_heapify entry_heapify (args_heapify _) ?_ ⟨rfl, rfl, fun ys s2 hr I2 => ⟨.non, _, I2, rfl, q ys hr⟩⟩
  rintro prog w A R s' ⟨rfl, rfl, k⟩
  have I1 : Inv X pins σ (upd H a (.lst xs)) s' := by rw [same]; exact I
  refine heapify_at e (by rw [hs]; exact hz) (fun c => ?_) fun c => ?_
  · rw [hs] at c
    exact k xs s' (by rw [show xs.length / 2 = 0 by omega]; exact .zero) I1
  · rw [hs] at c ⊢
    have e2 : (((xs.length / 2 : Nat) : Int) - 2) = ((xs.length / 2 - 1 : Nat) : Int) - 1 := by omega
    rw [e2]
    exact hfy_run ha hu (xs.length / 2 - 1) xs s' (by omega) hx z I1 fun ys s2 h2 I2 => k ys s2 (by rw [show xs.length / 2 = xs.length / 2 - 1 + 1 by omega]; exact h2) I2
end
end Hq

/-! What the sifts leave: the least one first. -/
namespace Hq
section
variable {α : Type} {lt : α → α → Bool}
/-- x before y or not: asymmetric, and what is not before is passed on -/
structure Ord3 (lt : α → α → Bool) : Prop where
  as : ∀ x y, lt x y = true → lt y x = false
  tr : ∀ x y z, lt y x = false → lt z y = false → lt z x = false
def Edge (lt : α → α → Bool) (xs : List α) (i : Nat) : Prop := ∀ x p, xs[i]? = some x → xs[(i - 1) / 2]? = some p → lt x p = false
def HeapFrom (lt : α → α → Bool) (top : Nat) (xs : List α) : Prop := ∀ i, 1 ≤ i → top ≤ (i - 1) / 2 → Edge lt xs i
inductive Sub (top : Nat) : Nat → Prop
  | self : Sub top top
  | step {pos : Nat} (h : pos > top) (s : Sub top ((pos - 1) / 2)) : Sub top pos
theorem Sub.le {top pos : Nat} (s : Sub top pos) : top ≤ pos := by
  cases s with
  | self => exact Nat.le_refl _
  | step h s => omega
theorem Sub.par {top pos : Nat} (s : Sub top pos) (h : pos > top) : Sub top ((pos - 1) / 2) := by
  cases s with
  | self => omega
  | step _ s => exact s
theorem sub_zero : ∀ pos, Sub 0 pos := by
  intro pos
  induction pos using Nat.strongRecOn with
  | ind pos ih =>
    by_cases c : pos = 0
    · subst c; exact .self
    · exact .step (by omega) (ih _ (by omega))
theorem swap_get {xs : List α} {i j : Nat} {x y : α} (hi : i < xs.length) (hj : j < xs.length) (k : Nat) : ((xs.set i y).set j x)[k]? = if k = j then some x else if k = i then some y else xs[k]? := by
  rw [List.getElem?_set]
  by_cases c : j = k
  · rw [if_pos c, if_pos (by rw [List.length_set]; exact hj), if_pos c.symm]
  · rw [if_neg c, if_neg (fun z => c z.symm), List.getElem?_set]
    by_cases d : i = k
    · rw [if_pos d, if_pos hi, if_pos d.symm]
    · rw [if_neg d, if_neg (fun z => d z.symm)]
structure UpInv (lt : α → α → Bool) (top pos : Nat) (xs : List α) : Prop where
  a : ∀ i, 1 ≤ i → top ≤ (i - 1) / 2 → i ≠ pos → Edge lt xs i
  b : pos > top → ∀ i, 1 ≤ i → (i - 1) / 2 = pos → ∀ x g, xs[i]? = some x → xs[(pos - 1) / 2]? = some g → lt x g = false
  c : Sub top pos
structure DownInv (lt : α → α → Bool) (top pos : Nat) (xs : List α) : Prop where
  a : ∀ i, 1 ≤ i → top ≤ (i - 1) / 2 → i ≠ pos → (i - 1) / 2 ≠ pos → Edge lt xs i
  b : pos > top → ∀ i, 1 ≤ i → (i - 1) / 2 = pos → ∀ x g, xs[i]? = some x → xs[(pos - 1) / 2]? = some g → lt x g = false
  c : Sub top pos
theorem run_heap (O : Ord3 lt) {top : Nat} {down : Bool} {pos : Nat} {xs ys : List α} (r : Run lt top down pos xs ys) : (down = false → UpInv lt top pos xs → HeapFrom lt top ys) ∧ (down = true → DownInv lt top pos xs → HeapFrom lt top ys) := by
  induction r with
  | @top pos xs h =>
    refine ⟨fun _ U => fun i h1 h2 => ?_, fun z => by cases z⟩
    refine U.a i h1 h2 fun z => ?_
    have := U.c.le
    omega
  | @stay pos xs x p h hx hp l =>
    refine ⟨fun _ U => fun i h1 h2 => ?_, fun z => by cases z⟩
    by_cases c : i = pos
    · subst c
      intro x' p' e1 e2
      rw [hx] at e1; rw [hp] at e2
      cases e1; cases e2
      exact l
    · exact U.a i h1 h2 c
  | @leaf pos xs ys h r ih =>
    refine ⟨fun z => (by cases z), fun _ D => ih.1 rfl ⟨fun i h1 h2 h3 => ?_, D.b, D.c⟩⟩
    by_cases c : (i - 1) / 2 = pos
    · intro x p e1 e2
      have := (List.getElem?_eq_some_iff.mp e1).1
      omega
    · exact D.a i h1 h2 h3 c
  | @up pos xs ys x p h hx hp l r ih =>
    refine ⟨fun _ U => ih.1 rfl ?_, fun z => (by cases z)⟩
    have hpl := (List.getElem?_eq_some_iff.mp hx).1
    have hql := (List.getElem?_eq_some_iff.mp hp).1
    have G := fun k => swap_get (x := p) (y := x) hql hpl k
    have sp := U.c.par h
    have spl := sp.le
    have hxp := O.as _ _ l
    refine ⟨fun i h1 h2 h3 => ?_, fun h4 i h1 h2 y g e1 e2 => ?_, sp⟩
    · intro y q e1 e2
      rw [G] at e1 e2
      by_cases c1 : i = pos
      · subst c1
        rw [if_pos rfl] at e1
        rw [if_neg (by omega), if_pos rfl] at e2
        cases e1; cases e2
        exact hxp
      · rw [if_neg c1, if_neg h3] at e1
        by_cases c2 : (i - 1) / 2 = pos
        · rw [if_pos c2] at e2
          cases e2
          exact U.b h i h1 c2 y p e1 hp
        · rw [if_neg c2] at e2
          by_cases c3 : (i - 1) / 2 = (pos - 1) / 2
          · rw [if_pos c3] at e2
            cases e2
            have z := U.a i h1 h2 c1 y p e1 (by rw [c3]; exact hp)
            exact O.tr _ _ _ hxp z
          · rw [if_neg c3] at e2
            exact U.a i h1 h2 c1 y q e1 e2
    · rw [G] at e1 e2
      rw [if_neg (by omega), if_neg (by omega)] at e2
      have z := U.a ((pos - 1) / 2) (by omega) (by have := (sp.par h4).le; omega) (by omega) p g hp e2
      by_cases c1 : i = pos
      · subst c1
        rw [if_pos rfl] at e1
        cases e1
        exact z
      · rw [if_neg c1, if_neg (by omega)] at e1
        have z2 := U.a i h1 (by rw [h2]; exact spl) c1 y p e1 (by rw [h2]; exact hp)
        exact O.tr _ _ _ z z2
  | @down pos child xs ys x y h c hx hy r ih =>
    refine ⟨fun z => (by cases z), fun _ D => ih.2 rfl ?_⟩
    have hcl := (List.getElem?_eq_some_iff.mp hx).1
    have hpl := (List.getElem?_eq_some_iff.mp hy).1
    have G := fun k => swap_get (x := x) (y := y) hcl hpl k
    have hcp : child = 2 * pos + 1 ∨ child = 2 * pos + 1 + 1 := by
      by_cases c2 : 2 * pos + 1 + 1 < xs.length
      · obtain ⟨l, r, _, _, e⟩ := c.1 c2
        rw [e]; split
        · exact .inl rfl
        · exact .inr rfl
      · exact .inl (c.2 c2)
    have dcl := D.c.le
    have sib : ∀ i z, 1 ≤ i → (i - 1) / 2 = pos → i ≠ child → xs[i]? = some z → lt z x = false := by
      intro i z h1 h2 h3 e
      have hil := (List.getElem?_eq_some_iff.mp e).1
      by_cases c2 : 2 * pos + 1 + 1 < xs.length
      · obtain ⟨l, r, e1, e2, e3⟩ := c.1 c2
        by_cases c3 : lt l r = true
        · rw [if_pos c3] at e3
          have hi : i = 2 * pos + 1 + 1 := by omega
          subst hi e3
          rw [e2] at e; rw [e1] at hx
          cases e; cases hx
          exact O.as _ _ c3
        · rw [if_neg c3] at e3
          have hi : i = 2 * pos + 1 := by omega
          subst hi e3
          rw [e1] at e; rw [e2] at hx
          cases e; cases hx
          simpa using c3
      · have := c.2 c2
        omega
    refine ⟨fun i h1 h2 h3 h4 => ?_, fun h4 i h1 h2 z g e1 e2 => ?_, .step (by omega) (by rw [show (child - 1) / 2 = pos by omega]; exact D.c)⟩
    · intro z q e1 e2
      rw [G] at e1 e2
      by_cases c1 : i = pos
      · subst c1
        rw [if_pos rfl] at e1
        rw [if_neg (by omega), if_neg (by omega)] at e2
        cases e1
        exact D.b (by omega) child (by omega) (by omega) x q hx e2
      · rw [if_neg c1, if_neg h3] at e1
        by_cases c2 : (i - 1) / 2 = pos
        · rw [if_pos c2] at e2
          cases e2
          exact sib i z h1 c2 h3 e1
        · rw [if_neg c2, if_neg h4] at e2
          exact D.a i h1 h2 c1 c2 z q e1 e2
    · rw [G] at e1 e2
      rw [if_neg (by omega), if_neg (by omega)] at e1
      rw [if_pos (by omega)] at e2
      cases e2
      exact D.a i h1 (by omega) (by omega) (by omega) z x e1 (by rw [h2]; exact hx)
theorem head_min (O : Ord3 lt) {xs : List α} (h : HeapFrom lt 0 xs) {x : α} (hx : xs[0]? = some x) : ∀ (i : Nat) y, xs[i]? = some y → lt y x = false := by
  intro i
  induction i using Nat.strongRecOn with
  | ind i ih =>
    intro y hy
    by_cases c : i = 0
    · subst c
      rw [hx] at hy
      cases hy
      cases e : lt x x with
      | false => rfl
      | true => have := O.as _ _ e; rw [e] at this; cases this
    · have hil := (List.getElem?_eq_some_iff.mp hy).1
      have hp := List.getElem?_eq_getElem (show (i - 1) / 2 < xs.length by omega)
      exact O.tr _ _ _ (ih _ (by omega) _ hp) (h i (by omega) (Nat.zero_le _) y _ hy hp)
theorem push_heap (O : Ord3 lt) {xs ys : List α} {v : α} (h : HeapFrom lt 0 xs) (r : Run lt 0 false xs.length (xs ++ [v]) ys) : HeapFrom lt 0 ys := by
  refine (run_heap O r).1 rfl ⟨fun i h1 h2 h3 => ?_, fun _ i h1 h2 x g e1 e2 => ?_, sub_zero _⟩
  · intro x p e1 e2
    have hil := (List.getElem?_eq_some_iff.mp e1).1
    rw [List.length_append, List.length_singleton] at hil
    rw [List.getElem?_append_left (by omega)] at e1 e2
    exact h i h1 h2 x p e1 e2
  · have hil := (List.getElem?_eq_some_iff.mp e1).1
    rw [List.length_append, List.length_singleton] at hil
    omega
theorem pop_heap (O : Ord3 lt) {xs ys : List α} {v : α} (h : HeapFrom lt 0 (xs ++ [v])) (r : Run lt 0 true 0 (xs.set 0 v) ys) : HeapFrom lt 0 ys := by
  refine (run_heap O r).2 rfl ⟨fun i h1 h2 h3 h4 => ?_, fun z => absurd z (by omega), .self⟩
  intro x p e1 e2
  rw [List.getElem?_set, if_neg (by omega)] at e1
  rw [List.getElem?_set, if_neg (by omega)] at e2
  have hil := (List.getElem?_eq_some_iff.mp e1).1
  exact h i h1 h2 x p (by rw [List.getElem?_append_left hil]; exact e1) (by rw [List.getElem?_append_left (by omega)]; exact e2)
theorem heapify_heap (O : Ord3 lt) {k : Nat} {xs ys : List α} (h : Hfy lt k xs ys) : HeapFrom lt k xs → HeapFrom lt 0 ys := by
  induction h with
  | zero => exact id
  | @succ k xs ys zs r h ih =>
    intro hf
    refine ih ((run_heap O r).2 rfl ⟨fun i h1 h2 h3 h4 => hf i h1 (by omega), fun z => absurd z (by omega), .self⟩)
theorem half_heap (xs : List α) : HeapFrom lt (xs.length / 2) xs := by
  intro i h1 h2 x p e1 e2
  have hil := (List.getElem?_eq_some_iff.mp e1).1
  omega
theorem ord3 {β : Type} (k : β → Int × Int × Int) : Ord3 fun x y => lt3 (k x) (k y) where
  as := fun x y h => by
    simp only [lt3] at h ⊢
    split at h
    · split at h
      · simp only [decide_eq_true_eq] at h
        rw [if_pos (by omega), if_pos (by omega)]
        exact decide_eq_false (by omega)
      · simp only [decide_eq_true_eq] at h
        rw [if_pos (by omega), if_neg (by omega)]
        exact decide_eq_false (by omega)
    · simp only [decide_eq_true_eq] at h
      rw [if_neg (by omega)]
      exact decide_eq_false (by omega)
  tr := fun x y z h1 h2 => by
    have key : ∀ p q : Int × Int × Int, lt3 p q = false ↔ ¬ (p.1 < q.1 ∨ (p.1 = q.1 ∧ (p.2.1 < q.2.1 ∨ (p.2.1 = q.2.1 ∧ p.2.2 < q.2.2)))) := by
      intro p q
      unfold lt3
      split
      · split
        · rw [decide_eq_false_iff_not]; omega
        · rw [decide_eq_false_iff_not]; omega
      · rw [decide_eq_false_iff_not]; omega
    have h1 := (key _ _).mp h1
    have h2 := (key _ _).mp h2
    exact (key _ _).mpr (by omega)
end
end Hq

/-! The three as steps of a reading: ways kept in a heap. -/
namespace Hq
open PySem L2 Evl Sg
section
variable {α β : Type} {lt : α → α → Bool} {lt' : β → β → Bool} {f : β → α}
theorem get_map {ks : List β} {i : Nat} {x : α} (h : (ks.map f)[i]? = some x) : ∃ a, ks[i]? = some a ∧ a ∈ ks ∧ x = f a := by
  rw [List.getElem?_map] at h
  obtain ⟨a, h1, h2⟩ := Option.map_eq_some_iff.mp h
  exact ⟨a, h1, List.mem_of_getElem? h1, h2.symm⟩
theorem mem_swap {ks : List β} {i j : Nat} {a b q : β} (ha : a ∈ ks) (hb : b ∈ ks) (h : q ∈ (ks.set i a).set j b) : q ∈ ks := by
  rcases List.mem_or_eq_of_mem_set h with h | rfl
  · rcases List.mem_or_eq_of_mem_set h with h | rfl
    · exact h
    · exact ha
  · exact hb
theorem run_map {top : Nat} {down : Bool} {pos : Nat} {xs ys : List α} (r : Run lt top down pos xs ys) : ∀ ks : List β, xs = ks.map f → (∀ a ∈ ks, ∀ b ∈ ks, lt (f a) (f b) = lt' a b) → ∃ ks', ys = ks'.map f ∧ Run lt' top down pos ks ks' := by
  induction r with
  | top h => intro ks e _; exact ⟨ks, e, .top h⟩
  | stay h hx hp l =>
    intro ks e hl
    subst e
    obtain ⟨a, h1, h2, rfl⟩ := get_map hx
    obtain ⟨b, h3, h4, rfl⟩ := get_map hp
    exact ⟨ks, rfl, .stay h h1 h3 (by rw [← hl a h2 b h4]; exact l)⟩
  | leaf h r ih =>
    intro ks e hl
    obtain ⟨ks', e1, r1⟩ := ih ks e hl
    subst e
    exact ⟨ks', e1, .leaf (by rwa [List.length_map] at h) r1⟩
  | up h hx hp l r ih =>
    intro ks e hl
    subst e
    obtain ⟨a, h1, h2, rfl⟩ := get_map hx
    obtain ⟨b, h3, h4, rfl⟩ := get_map hp
    obtain ⟨ks', e1, r1⟩ := ih ((ks.set _ a).set _ b) (by rw [List.map_set, List.map_set]) (fun p hp q hq => hl p (mem_swap h2 h4 hp) q (mem_swap h2 h4 hq))
    exact ⟨ks', e1, .up h h1 h3 (by rw [← hl a h2 b h4]; exact l) r1⟩
  | @down pos child xs ys x y h c hx hy r ih =>
    intro ks e hl
    subst e
    obtain ⟨a, h1, h2, rfl⟩ := get_map hx
    obtain ⟨b, h3, h4, rfl⟩ := get_map hy
    obtain ⟨ks', e1, r1⟩ := ih ((ks.set child b).set pos a) (by rw [List.map_set, List.map_set]) (fun p hp q hq => hl p (mem_swap h4 h2 hp) q (mem_swap h4 h2 hq))
    refine ⟨ks', e1, .down (by rwa [List.length_map] at h) ⟨fun c2 => ?_, fun c2 => c.2 (by rw [List.length_map]; exact c2)⟩ h1 h3 r1⟩
    obtain ⟨l, r0, g1, g2, g3⟩ := c.1 (by rw [List.length_map]; exact c2)
    obtain ⟨la, k1, k2, rfl⟩ := get_map g1
    obtain ⟨ra, k3, k4, rfl⟩ := get_map g2
    exact ⟨la, ra, k1, k3, by rw [g3, hl la k2 ra k4]⟩
theorem hfy_map {k : Nat} {xs ys : List α} (h : Hfy lt k xs ys) : ∀ ks : List β, xs = ks.map f → (∀ a ∈ ks, ∀ b ∈ ks, lt (f a) (f b) = lt' a b) → ∃ ks', ys = ks'.map f ∧ Hfy lt' k ks ks' := by
  induction h with
  | zero => intro ks e _; exact ⟨ks, e, .zero⟩
  | succ r h ih =>
    intro ks e hl
    obtain ⟨ks1, e1, r1⟩ := run_map r ks e hl
    have p := r1.perm
    obtain ⟨ks2, e2, r2⟩ := ih ks1 e1 fun a ha b hb => hl a (p.mem_iff.mp ha) b (p.mem_iff.mp hb)
    exact ⟨ks2, e2, .succ r1 r2⟩
end
/-- a way: where its tuple stands, and its three numbers -/
abbrev Wy := Addr × (Int × Int × Int)
def wyV (q : Wy) : V := .ref q.1
def WyAt (H : Hp) (q : Wy) : Prop := H q.1 = some (.tup [.int q.2.1, .int q.2.2.1, .int q.2.2.2])
theorem WyAt.mono {H H' : Hp} {q : Wy} (e : Ex H H') (h : WyAt H q) : WyAt H' q := e _ _ h
abbrev ltW (a b : Wy) : Bool := lt3 a.2 b.2
theorem ordW : Ord3 ltW := ord3 fun q : Wy => q.2
theorem key_wy {H : Hp} {q : Wy} (h : WyAt H q) : k3 H (wyV q) = q.2 := k3_of h
theorem wy_t3 {H : Hp} {q : Wy} (h : WyAt H q) : T3 H (wyV q) := ⟨_, _, _, _, rfl, h⟩
theorem wy_lt {H : Hp} {ks : List Wy} (h : ∀ q ∈ ks, WyAt H q) : ∀ a ∈ ks, ∀ b ∈ ks, ltH H (wyV a) (wyV b) = ltW a b := fun a ha b hb => by
  show lt3 _ _ = lt3 _ _
  rw [key_wy (h a ha), key_wy (h b hb)]
section
variable {K : PySem.W.Frag} {σ : L2.St} {H : Hp} {D : Ends} {tz : TS} {ta tb : TE} {a : Addr} {ks : List Wy}
/-- heapify(near) -/
theorem q_heapify (h : Ev ta σ H (.ref a)) (ha : H a = some (.lst (ks.map wyV))) (hk : ∀ q ∈ ks, WyAt H q) (hz : ks.length ≤ 2500) (k : ∀ H1 ks', Ex H H1 → ks'.Perm ks → HeapFrom ltW 0 ks' → tz D σ (upd H1 a (.lst (ks'.map wyV)))) :
    tSeq (tDrop (tCB rHeapify (tCons ta tNil))) tz D σ H := h H (Ex.refl H) _ fun H1 e => ⟨a, ks.map wyV, rfl, e _ _ ha, fun x hx => by
    obtain ⟨q, hq, rfl⟩ := List.mem_map.mp hx
    exact wy_t3 ((hk q hq).mono e), by rw [List.length_map]; exact hz, fun ys hf => by
    obtain ⟨ks', e1, r⟩ := hfy_map (lt' := ltW) hf ks rfl (wy_lt fun q hq => (hk q hq).mono e)
    subst e1
    rw [List.length_map] at r
    exact k H1 ks' e r.perm (heapify_heap ordW r (half_heap ks))⟩
/-- heappush(near, way) -/
theorem s_push {v : Wy} (h : Ev ta σ H (.ref a)) (hv : Ev tb σ H (wyV v)) (ha : H a = some (.lst (ks.map wyV))) (hk : ∀ q ∈ ks, WyAt H q) (hkv : WyAt H v) (hz : ks.length < 100000) (hh : HeapFrom ltW 0 ks) (k : ∀ H1 ks', Ex H H1 → ks'.Perm (ks ++ [v]) → HeapFrom ltW 0 ks' → D.nx σ (upd H1 a (.lst (ks'.map wyV)))) :
    tDrop (tCB rPush (tCons ta (tCons tb tNil))) D σ H := h H (Ex.refl H) _ fun H1 e1 => hv H1 e1 _ fun H2 e2 => ⟨a, ks.map wyV, wyV v, rfl, (e1.trans e2) _ _ ha, fun x hx => by
    obtain ⟨q, hq, rfl⟩ := List.mem_map.mp hx
    exact wy_t3 ((hk q hq).mono (e1.trans e2)), wy_t3 (hkv.mono (e1.trans e2)), by rw [List.length_map]; exact hz, fun ys hf => by
    obtain ⟨ks', e3, r⟩ := run_map (f := wyV) (lt' := ltW) hf (ks ++ [v]) (by rw [List.map_append]; rfl) (wy_lt fun q hq => by
      rcases List.mem_append.mp hq with hq | hq
      · exact (hk q hq).mono (e1.trans e2)
      · rw [List.mem_singleton] at hq; rw [hq]; exact hkv.mono (e1.trans e2))
    subst e3
    rw [List.length_map] at r
    exact k H2 ks' (e1.trans e2) r.perm (push_heap ordW hh r)⟩
/-- _, x, y = heappop(near) -/
theorem q_pop3 {i j l : Nat} (h : Ev ta σ H (.ref a)) (ha : H a = some (.lst (ks.map wyV))) (hk : ∀ q ∈ ks, WyAt H q) (hne : ks ≠ []) (hh : HeapFrom ltW 0 ks)
    (k : ∀ H1 m ks', Ex H H1 → ks.Perm (m :: ks') → HeapFrom ltW 0 ks' → (∀ q ∈ ks, ltW q m = false) → tz D (((σ.set i (some (.int m.2.1))).set j (some (.int m.2.2.1))).set l (some (.int m.2.2.2))) (upd H1 a (.lst (ks'.map wyV)))) :
    tSeq (tAsg (tCB rPop (tCons ta tNil)) (gTup K 3 (gCons (gName i) (gCons (gName j) (gCons (gName l) gNil))))) tz D σ H := h H (Ex.refl H) _ fun H1 e1 => by
  obtain ⟨fr, v, rfl⟩ : ∃ fr v, ks = fr ++ [v] := ⟨ks.dropLast, ks.getLast hne, (List.dropLast_concat_getLast hne).symm⟩
  have ha1 := e1 _ _ ha
  have hk1 : ∀ q ∈ fr ++ [v], WyAt H1 q := fun q hq => (hk q hq).mono e1
  have fin : ∀ (m : Wy) (ks' : List Wy), m ∈ fr ++ [v] → (fr ++ [v]).Perm (m :: ks') → HeapFrom ltW 0 ks' → (∀ q ∈ fr ++ [v], ltW q m = false) → (gTup K 3 (gCons (gName i) (gCons (gName j) (gCons (gName l) gNil)))) (wyV m) σ (upd H1 a (.lst (ks'.map wyV))) (fun σ' H' => tz D σ' H') := by
    intro m ks' hm hp hh' hmin
    have hma := hk1 m hm
    have na : m.1 ≠ a := fun z => by
      have hma' : H1 m.1 = some (.tup [.int m.2.1, .int m.2.2.1, .int m.2.2.2]) := hma
      rw [z, ha1] at hma'
      cases hma'
    have ht : SqT K (upd H1 a (.lst (ks'.map wyV))) m.1 [.int m.2.1, .int m.2.2.1, .int m.2.2.2] := st_of (by rw [upd_ne na]; exact hma)
    exact ⟨m.1, _, rfl, ht, rfl, _, _, rfl, _, _, rfl, _, _, rfl, rfl, k H1 m ks' e1 hp hh' hmin⟩
  refine ⟨a, fr.map wyV, wyV v, rfl, by rw [ha1, List.map_append]; rfl, fun x hx => ?_, fun hfr => ?_, fun x ys h0 hf => ?_⟩
  · have hx' : x ∈ (fr ++ [v]).map wyV := by rw [List.map_append]; exact hx
    obtain ⟨q, hq, rfl⟩ := List.mem_map.mp hx'
    exact wy_t3 (hk1 q hq)
  · have e2 : fr = [] := by simpa using hfr
    subst e2
    refine fin v [] (by simp) (List.Perm.refl _) (fun i _ _ x p e => by simp at e) fun q hq => ?_
    have : q = v := by simpa using hq
    subst this
    exact head_min ordW hh (x := q) rfl 0 q rfl
  · obtain ⟨m, h1, h2, rfl⟩ := get_map (f := wyV) h0
    obtain ⟨ks', e3, r⟩ := run_map (f := wyV) (lt' := ltW) hf (fr.set 0 v) (by rw [List.map_set]) (wy_lt fun q hq => by
      rcases List.mem_or_eq_of_mem_set hq with hq | rfl
      · exact hk1 q (List.mem_append_left _ hq)
      · exact hk1 _ (by simp))
    subst e3
    have hm0 : (fr ++ [v])[0]? = some m := by
      rw [List.getElem?_append_left (List.getElem?_eq_some_iff.mp h1).1]; exact h1
    refine fin m ks' (List.mem_append_left _ h2) ?_ (pop_heap ordW hh r) fun q hq => ?_
    · cases fr with
      | nil => cases h2
      | cons m' fr =>
        cases h1
        have p := r.perm
        have p' : ks'.Perm (v :: fr) := p
        show (m :: (fr ++ [v])).Perm (m :: ks')
        refine List.Perm.cons _ ?_
        exact (List.perm_append_comm.trans (List.Perm.refl _)).trans p'.symm
    · obtain ⟨i, hi⟩ := List.getElem?_of_mem hq
      exact head_min ordW hh hm0 i q hi
end
end Hq

namespace Sg
set_option autoImplicit false
open PySem L2 Evl Big
open PyProof.Rows (envOfC)
def top (i : Nat) : Stmt := PySem.Challenge.pw_signposts_k06_whole_posts.main.body.getD i (.Pass ⟨0, 0, 0, 0⟩)
abbrev st_is_number : Stmt := (top 12)
abbrev N_is_number : List Str := ["given"]
abbrev P_is_number : List Str := ["given"]
theorem sc_is_number : FnScope N_is_number P_is_number (C8.fnScope st_is_number) := C8.fnScope_by (by decide +kernel)
abbrev st_is_place : Stmt := (top 13)
abbrev N_is_place : List Str := ["many", "given"]
abbrev P_is_place : List Str := ["many", "given"]
theorem sc_is_place : FnScope N_is_place P_is_place (C8.fnScope st_is_place) := C8.fnScope_by (by decide +kernel)
abbrev st_is_road : Stmt := (top 14)
abbrev N_is_road : List Str := ["many", "given", "start", "end"]
abbrev P_is_road : List Str := ["many", "given"]
theorem sc_is_road : FnScope N_is_road P_is_road (C8.fnScope st_is_road) := C8.fnScope_by (by decide +kernel)
abbrev st_are_roads : Stmt := (top 15)
abbrev N_are_roads : List Str := ["many", "given", "road", "k"]
abbrev P_are_roads : List Str := ["many", "given"]
theorem sc_are_roads : FnScope N_are_roads P_are_roads (C8.fnScope st_are_roads) := C8.fnScope_by (by decide +kernel)
abbrev st_is_land : Stmt := (top 16)
abbrev N_is_land : List Str := ["given", "many", "home", "roads"]
abbrev P_is_land : List Str := ["given"]
theorem sc_is_land : FnScope N_is_land P_is_land (C8.fnScope st_is_land) := C8.fnScope_by (by decide +kernel)
abbrev st_are_signs : Stmt := (top 17)
abbrev N_are_signs : List Str := ["land", "given", "many", "home", "roads", "known", "place", "sign"]
abbrev P_are_signs : List Str := ["land", "given"]
theorem sc_are_signs : FnScope N_are_signs P_are_signs (C8.fnScope st_are_signs) := C8.fnScope_by (by decide +kernel)
abbrev st_need_land : Stmt := (top 18)
abbrev N_need_land : List Str := ["land"]
abbrev P_need_land : List Str := ["land"]
theorem sc_need_land : FnScope N_need_land P_need_land (C8.fnScope st_need_land) := C8.fnScope_by (by decide +kernel)
abbrev st_need_signs : Stmt := (top 19)
abbrev N_need_signs : List Str := ["land", "signs"]
abbrev P_need_signs : List Str := ["land", "signs"]
theorem sc_need_signs : FnScope N_need_signs P_need_signs (C8.fnScope st_need_signs) := C8.fnScope_by (by decide +kernel)
abbrev st_need_place : Stmt := (top 20)
abbrev N_need_place : List Str := ["land", "place"]
abbrev P_need_place : List Str := ["land", "place"]
theorem sc_need_place : FnScope N_need_place P_need_place (C8.fnScope st_need_place) := C8.fnScope_by (by decide +kernel)
abbrev st_need_away : Stmt := (top 21)
abbrev N_need_away : List Str := ["land", "place"]
abbrev P_need_away : List Str := ["land", "place"]
theorem sc_need_away : FnScope N_need_away P_need_away (C8.fnScope st_need_away) := C8.fnScope_by (by decide +kernel)
abbrev st_need_road : Stmt := (top 22)
abbrev N_need_road : List Str := ["land", "place", "end", "many", "_", "roads"]
abbrev P_need_road : List Str := ["land", "place", "end"]
theorem sc_need_road : FnScope N_need_road P_need_road (C8.fnScope st_need_road) := C8.fnScope_by (by decide +kernel)
abbrev st_walked : Stmt := (top 24)
abbrev N_walked : List Str := ["signs", "place", "met", "at"]
abbrev P_walked : List Str := ["signs", "place"]
theorem sc_walked : FnScope N_walked P_walked (C8.fnScope st_walked) := C8.fnScope_by (by decide +kernel)
abbrev st_coming : Stmt := (top 25)
abbrev N_coming : List Str := ["signs", "goal", "known", "place", "way", "at", "gone"]
abbrev P_coming : List Str := ["signs", "goal"]
theorem sc_coming : FnScope N_coming P_coming (C8.fnScope st_coming) := C8.fnScope_by (by decide +kernel)
abbrev st_places_coming : Stmt := (top 26)
abbrev N_places_coming : List Str := ["signs", "goal", "place", "comes"]
abbrev P_places_coming : List Str := ["signs", "goal"]
theorem sc_places_coming : FnScope N_places_coming P_places_coming (C8.fnScope st_places_coming) := C8.fnScope_by (by decide +kernel)
abbrev st_Posts_init : Stmt := inClass (top 28) 0
abbrev N_Posts_init : List Str := ["self", "land", "many", "home", "roads"]
abbrev P_Posts_init : List Str := ["self", "land"]
theorem sc_Posts_init : FnScope N_Posts_init P_Posts_init (C8.fnScope st_Posts_init) := C8.fnScope_by (by decide +kernel)
abbrev st_Posts_turn : Stmt := inClass (top 28) 1
abbrev N_Posts_turn : List Str := ["self", "place", "sign"]
abbrev P_Posts_turn : List Str := ["self", "place", "sign"]
theorem sc_Posts_turn : FnScope N_Posts_turn P_Posts_turn (C8.fnScope st_Posts_turn) := C8.fnScope_by (by decide +kernel)
abbrev st_Posts_lose : Stmt := inClass (top 28) 2
abbrev N_Posts_lose : List Str := ["self", "place", "shown"]
abbrev P_Posts_lose : List Str := ["self", "place"]
theorem sc_Posts_lose : FnScope N_Posts_lose P_Posts_lose (C8.fnScope st_Posts_lose) := C8.fnScope_by (by decide +kernel)
abbrev st_Posts_all_signs : Stmt := inClass (top 28) 3
abbrev N_Posts_all_signs : List Str := ["self"]
abbrev P_Posts_all_signs : List Str := ["self"]
theorem sc_Posts_all_signs : FnScope N_Posts_all_signs P_Posts_all_signs (C8.fnScope st_Posts_all_signs) := C8.fnScope_by (by decide +kernel)
abbrev st_Posts_turned : Stmt := inClass (top 28) 4
abbrev N_Posts_turned : List Str := ["self"]
abbrev P_Posts_turned : List Str := ["self"]
theorem sc_Posts_turned : FnScope N_Posts_turned P_Posts_turned (C8.fnScope st_Posts_turned) := C8.fnScope_by (by decide +kernel)
abbrev st_Home_init : Stmt := inClass (top 31) 0
abbrev N_Home_init : List Str := ["self", "steps"]
abbrev P_Home_init : List Str := ["self", "steps"]
theorem sc_Home_init : FnScope N_Home_init P_Home_init (C8.fnScope st_Home_init) := C8.fnScope_by (by decide +kernel)
abbrev st_Home_shows : Stmt := inClass (top 31) 1
abbrev N_Home_shows : List Str := ["self", "land", "signs", "place", "way", "_"]
abbrev P_Home_shows : List Str := ["self", "land", "signs", "place"]
theorem sc_Home_shows : FnScope N_Home_shows P_Home_shows (C8.fnScope st_Home_shows) := C8.fnScope_by (by decide +kernel)
abbrev st_Round_init : Stmt := inClass (top 32) 0
abbrev N_Round_init : List Str := ["self", "places"]
abbrev P_Round_init : List Str := ["self", "places"]
theorem sc_Round_init : FnScope N_Round_init P_Round_init (C8.fnScope st_Round_init) := C8.fnScope_by (by decide +kernel)
abbrev st_Round_shows : Stmt := inClass (top 32) 1
abbrev N_Round_shows : List Str := ["self", "land", "signs", "place", "way", "begin"]
abbrev P_Round_shows : List Str := ["self", "land", "signs", "place"]
theorem sc_Round_shows : FnScope N_Round_shows P_Round_shows (C8.fnScope st_Round_shows) := C8.fnScope_by (by decide +kernel)
abbrev st_Stands_init : Stmt := inClass (top 33) 0
abbrev N_Stands_init : List Str := ["self", "place"]
abbrev P_Stands_init : List Str := ["self", "place"]
theorem sc_Stands_init : FnScope N_Stands_init P_Stands_init (C8.fnScope st_Stands_init) := C8.fnScope_by (by decide +kernel)
abbrev st_Stands_shows : Stmt := inClass (top 33) 1
abbrev N_Stands_shows : List Str := ["self", "land", "signs", "place", "way", "begin"]
abbrev P_Stands_shows : List Str := ["self", "land", "signs", "place"]
theorem sc_Stands_shows : FnScope N_Stands_shows P_Stands_shows (C8.fnScope st_Stands_shows) := C8.fnScope_by (by decide +kernel)
abbrev st_Turned_init : Stmt := inClass (top 34) 0
abbrev N_Turned_init : List Str := ["self", "signs", "sets"]
abbrev P_Turned_init : List Str := ["self", "signs", "sets"]
theorem sc_Turned_init : FnScope N_Turned_init P_Turned_init (C8.fnScope st_Turned_init) := C8.fnScope_by (by decide +kernel)
abbrev st_Turned_shows : Stmt := inClass (top 34) 1
abbrev N_Turned_shows : List Str := ["self", "land", "signs", "others", "place", "sign", "places"]
abbrev P_Turned_shows : List Str := ["self", "land", "signs"]
theorem sc_Turned_shows : FnScope N_Turned_shows P_Turned_shows (C8.fnScope st_Turned_shows) := C8.fnScope_by (by decide +kernel)
abbrev st_Shut_init : Stmt := inClass (top 35) 0
abbrev N_Shut_init : List Str := ["self", "places"]
abbrev P_Shut_init : List Str := ["self", "places"]
theorem sc_Shut_init : FnScope N_Shut_init P_Shut_init (C8.fnScope st_Shut_init) := C8.fnScope_by (by decide +kernel)
abbrev st_Shut_shows : Stmt := inClass (top 35) 1
abbrev N_Shut_shows : List Str := ["self", "land", "signs", "many", "home", "roads", "within", "place", "start", "end"]
abbrev P_Shut_shows : List Str := ["self", "land", "signs"]
theorem sc_Shut_shows : FnScope N_Shut_shows P_Shut_shows (C8.fnScope st_Shut_shows) := C8.fnScope_by (by decide +kernel)
abbrev st_copied : Stmt := (top 36)
abbrev N_copied : List Str := ["field", "part"]
abbrev P_copied : List Str := ["field"]
theorem sc_copied : FnScope N_copied P_copied (C8.fnScope st_copied) := C8.fnScope_by (by decide +kernel)
abbrev st_is_same_round : Stmt := (top 37)
abbrev N_is_same_round : List Str := ["places", "gone", "place", "k"]
abbrev P_is_same_round : List Str := ["places", "gone"]
theorem sc_is_same_round : FnScope N_is_same_round P_is_same_round (C8.fnScope st_is_same_round) := C8.fnScope_by (by decide +kernel)
abbrev st_is_kept_set : Stmt := (top 38)
abbrev N_is_kept_set : List Str := ["land", "signs", "places", "many", "home", "_", "within", "place"]
abbrev P_is_kept_set : List Str := ["land", "signs", "places"]
theorem sc_is_kept_set : FnScope N_is_kept_set P_is_kept_set (C8.fnScope st_is_kept_set) := C8.fnScope_by (by decide +kernel)
abbrev st_no_road_leaves_two : Stmt := (top 39)
abbrev N_no_road_leaves_two : List Str := ["land", "sets", "many", "_", "roads", "bits", "k", "places", "place", "start", "end", "left"]
abbrev P_no_road_leaves_two : List Str := ["land", "sets"]
theorem sc_no_road_leaves_two : FnScope N_no_road_leaves_two P_no_road_leaves_two (C8.fnScope st_no_road_leaves_two) := C8.fnScope_by (by decide +kernel)
abbrev st_packed : Stmt := (top 41)
abbrev N_packed : List Str := ["land", "signs", "many", "home", "roads", "ways", "reach", "_", "start", "end", "sets", "kept", "least", "places", "out", "place", "sign", "bits"]
abbrev P_packed : List Str := ["land", "signs"]
theorem sc_packed : FnScope N_packed P_packed (C8.fnScope st_packed) := C8.fnScope_by (by decide +kernel)
abbrev st_joined : Stmt := (top 42)
abbrev N_joined : List Str := ["reach", "start", "end", "gained", "bits"]
abbrev P_joined : List Str := ["reach", "start", "end"]
theorem sc_joined : FnScope N_joined P_joined (C8.fnScope st_joined) := C8.fnScope_by (by decide +kernel)
abbrev st_homeward : Stmt := (top 43)
abbrev N_homeward : List Str := ["land", "ways", "many", "home", "_", "before", "way", "signs", "near", "start", "end"]
abbrev P_homeward : List Str := ["land", "ways"]
theorem sc_homeward : FnScope N_homeward P_homeward (C8.fnScope st_homeward) := C8.fnScope_by (by decide +kernel)
abbrev st_followed : Stmt := (top 45)
abbrev N_followed : List Str := ["land", "signs", "place", "way", "begin"]
abbrev P_followed : List Str := ["land", "signs", "place"]
theorem sc_followed : FnScope N_followed P_followed (C8.fnScope st_followed) := C8.fnScope_by (by decide +kernel)
abbrev st_fewest : Stmt := (top 46)
abbrev N_fewest : List Str := ["land", "signs", "sets", "ways", "shut"]
abbrev P_fewest : List Str := ["land", "signs"]
theorem sc_fewest : FnScope N_fewest P_fewest (C8.fnScope st_fewest) := C8.fnScope_by (by decide +kernel)
abbrev st_home_from : Stmt := (top 47)
abbrev N_home_from : List Str := ["land", "signs"]
abbrev P_home_from : List Str := ["land", "signs"]
theorem sc_home_from : FnScope N_home_from P_home_from (C8.fnScope st_home_from) := C8.fnScope_by (by decide +kernel)
abbrev st_worth : Stmt := (top 48)
abbrev N_worth : List Str := ["land", "signs", "place"]
abbrev P_worth : List Str := ["land", "signs", "place"]
theorem sc_worth : FnScope N_worth P_worth (C8.fnScope st_worth) := C8.fnScope_by (by decide +kernel)
abbrev st_astray : Stmt := (top 49)
abbrev N_astray : List Str := ["land", "signs", "place", "sign", "anew", "still", "start"]
abbrev P_astray : List Str := ["land", "signs", "place", "sign"]
theorem sc_astray : FnScope N_astray P_astray (C8.fnScope st_astray) := C8.fnScope_by (by decide +kernel)
abbrev st_need_walk : Stmt := (top 50)
abbrev N_need_walk : List Str := ["land", "signs", "place"]
abbrev P_need_walk : List Str := ["land", "signs", "place"]
theorem sc_need_walk : FnScope N_need_walk P_need_walk (C8.fnScope st_need_walk) := C8.fnScope_by (by decide +kernel)
abbrev st__law_number : Stmt := (top 52)
abbrev N__law_number : List Str := ["_law_cell", "_law_at", "_law_whole", "_law_small", "_law_blend", "_law_more"]
abbrev P__law_number : List Str := ["_law_cell", "_law_at", "_law_whole"]
theorem sc__law_number : FnScope N__law_number P__law_number (C8.fnScope st__law_number) := C8.fnScope_by (by decide +kernel)
abbrev st__law_land : Stmt := (top 53)
abbrev N__law_land : List Str := ["_law_script", "_law_by", "_law_most", "_law_cells", "_law_whole", "_law_found", "_law_signs", "_law_many", "_law_home_here", "_law_kind", "_law_place", "_law_number_here", "_law_mine", "_law_turn", "_law_far", "_law_other", "_law_sign"]
abbrev P__law_land : List Str := ["_law_script", "_law_by", "_law_most"]
theorem sc__law_land : FnScope N__law_land P__law_land (C8.fnScope st__law_land) := C8.fnScope_by (by decide +kernel)
abbrev st__law_land_right : Stmt := (top 54)
abbrev N__law_land_right : List Str := ["_law_land_here", "_law_signs", "_law_place", "_law_sign"]
abbrev P__law_land_right : List Str := ["_law_land_here", "_law_signs"]
theorem sc__law_land_right : FnScope N__law_land_right P__law_land_right (C8.fnScope st__law_land_right) := C8.fnScope_by (by decide +kernel)
abbrev st__law_end : Stmt := (top 55)
abbrev N__law_end : List Str := ["_law_land_here", "_law_signs", "_law_place", "_law_steps", "_law_ring", "_law_here"]
abbrev P__law_end : List Str := ["_law_land_here", "_law_signs", "_law_place"]
theorem sc__law_end : FnScope N__law_end P__law_end (C8.fnScope st__law_end) := C8.fnScope_by (by decide +kernel)
abbrev st__law_home : Stmt := (top 56)
abbrev N__law_home : List Str := ["_law_land_here", "_law_signs", "_law_place"]
abbrev P__law_home : List Str := ["_law_land_here", "_law_signs"]
theorem sc__law_home : FnScope N__law_home P__law_home (C8.fnScope st__law_home) := C8.fnScope_by (by decide +kernel)
abbrev st__law_deed : Stmt := (top 57)
abbrev N__law_deed : List Str := ["_law_number_here", "_law_land_here", "_law_place", "_law_more", "_law_nexts", "_law_road"]
abbrev P__law_deed : List Str := ["_law_number_here", "_law_land_here"]
theorem sc__law_deed : FnScope N__law_deed P__law_deed (C8.fnScope st__law_deed) := C8.fnScope_by (by decide +kernel)
abbrev st__law_ask : Stmt := (top 58)
abbrev N__law_ask : List Str := ["_law_posts", "_law_deed_here"]
abbrev P__law_ask : List Str := ["_law_posts", "_law_deed_here"]
theorem sc__law_ask : FnScope N__law_ask P__law_ask (C8.fnScope st__law_ask) := C8.fnScope_by (by decide +kernel)
abbrev st__law_due : Stmt := (top 59)
abbrev N__law_due : List Str := ["_law_land_here", "_law_signs", "_law_deed_here", "_law_place", "_law_before"]
abbrev P__law_due : List Str := ["_law_land_here", "_law_signs", "_law_deed_here"]
theorem sc__law_due : FnScope N__law_due P__law_due (C8.fnScope st__law_due) := C8.fnScope_by (by decide +kernel)
abbrev st__law_no_of : Stmt := (top 60)
abbrev N__law_no_of : List Str := ["_law_ask_here", "error", "_law_sorts"]
abbrev P__law_no_of : List Str := ["_law_ask_here"]
theorem sc__law_no_of : FnScope N__law_no_of P__law_no_of (C8.fnScope st__law_no_of) := C8.fnScope_by (by decide +kernel)
abbrev st__law_turned_right : Stmt := (top 61)
abbrev N__law_turned_right : List Str := ["_law_land_here", "_law_round_ones", "_law_home_here", "_law_told", "_law_cases", "_law_sets", "_law_due_here", "_law_shut", "_law_places"]
abbrev P__law_turned_right : List Str := ["_law_land_here"]
theorem sc__law_turned_right : FnScope N__law_turned_right P__law_turned_right (C8.fnScope st__law_turned_right) := C8.fnScope_by (by decide +kernel)
abbrev st__law_posts_promises : Stmt := (top 62)
abbrev N__law_posts_promises : List Str := ["_law_land_here", "_law_posts"]
abbrev P__law_posts_promises : List Str := ["_law_land_here"]
theorem sc__law_posts_promises : FnScope N__law_posts_promises P__law_posts_promises (C8.fnScope st__law_posts_promises) := C8.fnScope_by (by decide +kernel)
abbrev st__law_promises_right : Stmt := (top 63)
abbrev N__law_promises_right : List Str := ["_law_land_here", "_law_home_here", "_law_some", "_law_bare", "_law_cases", "_law_places", "_law_due_here", "_law_place"]
abbrev P__law_promises_right : List Str := []
theorem sc__law_promises_right : FnScope N__law_promises_right P__law_promises_right (C8.fnScope st__law_promises_right) := C8.fnScope_by (by decide +kernel)
abbrev st_law : Stmt := (top 64)
abbrev N_law : List Str := ["_law_script", "_law_cells", "_law_whole", "_law_land_here", "_law_roads", "_law_posts", "_law_other", "_law_signs", "_law_times", "_law_beside", "_law_turns", "_law_at", "_law_number_here", "_law_deed_here", "_law_due_here", "_law_more", "_law_told", "_law_found", "_law_shown"]
abbrev P_law : List Str := ["_law_script"]
theorem sc_law : FnScope N_law P_law (C8.fnScope st_law) := C8.fnScope_by (by decide +kernel)
/-- where the classes stand -/
structure Ads where
  Posts : Addr
  Answer : Addr
  Home : Addr
  Round : Addr
  Stands : Addr
  Turned : Addr
  Shut : Addr
  SignError : Addr
  BadLand : Addr
  BadSigns : Addr
  BadPlace : Addr
  BadRoad : Addr
  AtHome : Addr
  NoSign : Addr
  c__law_posts_promises : Addr
  p__law_posts_promises : Addr
  c__law_promises_right : Addr
  p__law_promises_right : Addr
/-- what is asked of the top -/
structure Txt (K : PySem.W.Frag) (mg : Str → Option Value) (ad : Ads) : Prop where
  n_abs : mg "abs" = none
  n_all : mg "all" = none
  n_any : mg "any" = none
  n_bool : mg "bool" = none
  n_enumerate : mg "enumerate" = none
  b_heapify : mg "heapify" = some (.builtin "_heapq.heapify")
  b_heappop : mg "heappop" = some (.builtin "_heapq.heappop")
  b_heappush : mg "heappush" = some (.builtin "_heapq.heappush")
  n_int : mg "int" = none
  n_isinstance : mg "isinstance" = none
  n_len : mg "len" = none
  n_list : mg "list" = none
  n_min : mg "min" = none
  n_range : mg "range" = none
  n_set : mg "set" = none
  n_sorted : mg "sorted" = none
  n_sum : mg "sum" = none
  n_tuple : mg "tuple" = none
  c_MOST_PLACES : ∃ u, mg "MOST_PLACES" = some u ∧ RelV (.int 40) u
  c_MOST_ROADS : ∃ u, mg "MOST_ROADS" = some u ∧ RelV (.int 120) u
  g_Posts : mg "Posts" = some (.ref ad.Posts)
  g_Answer : mg "Answer" = some (.ref ad.Answer)
  g_Home : mg "Home" = some (.ref ad.Home)
  g_Round : mg "Round" = some (.ref ad.Round)
  g_Stands : mg "Stands" = some (.ref ad.Stands)
  g_Turned : mg "Turned" = some (.ref ad.Turned)
  g_Shut : mg "Shut" = some (.ref ad.Shut)
  cl_Posts : Cls K ad.Posts
  no_Posts__land : NoAttr K ad.Posts "_land"
  no_Posts__signs : NoAttr K ad.Posts "_signs"
  no_Posts__turns : NoAttr K ad.Posts "_turns"
  mk_Posts : MakeOk K mg "Posts" "Posts.__init__" ad.Posts st_Posts_init
  mt_Posts_turn : MethOk K ad.Posts "turn" "Posts.turn" st_Posts_turn
  mt_Posts_lose : MethOk K ad.Posts "lose" "Posts.lose" st_Posts_lose
  mt_Posts_all_signs : MethOk K ad.Posts "all_signs" "Posts.all_signs" st_Posts_all_signs
  mt_Posts_turned : MethOk K ad.Posts "turned" "Posts.turned" st_Posts_turned
  oc_Posts : OwnTy K ad.Posts
  ki_Posts_Shut : PySem.W.kitOne K (.ref ad.Posts) (.ref ad.Shut) = some false
  ki_Posts_Turned : PySem.W.kitOne K (.ref ad.Posts) (.ref ad.Turned) = some false
  cl_Home : Cls K ad.Home
  no_Home_steps : NoAttr K ad.Home "steps"
  mk_Home : MakeOk K mg "Home" "Home.__init__" ad.Home st_Home_init
  mt_Home_shows : MethOk K ad.Home "shows" "Home.shows" st_Home_shows
  oc_Home : OwnTy K ad.Home
  ki_Home_Shut : PySem.W.kitOne K (.ref ad.Home) (.ref ad.Shut) = some false
  ki_Home_Turned : PySem.W.kitOne K (.ref ad.Home) (.ref ad.Turned) = some false
  cl_Round : Cls K ad.Round
  no_Round_places : NoAttr K ad.Round "places"
  mk_Round : MakeOk K mg "Round" "Round.__init__" ad.Round st_Round_init
  mt_Round_shows : MethOk K ad.Round "shows" "Round.shows" st_Round_shows
  oc_Round : OwnTy K ad.Round
  ki_Round_Shut : PySem.W.kitOne K (.ref ad.Round) (.ref ad.Shut) = some false
  ki_Round_Turned : PySem.W.kitOne K (.ref ad.Round) (.ref ad.Turned) = some false
  cl_Stands : Cls K ad.Stands
  no_Stands_place : NoAttr K ad.Stands "place"
  mk_Stands : MakeOk K mg "Stands" "Stands.__init__" ad.Stands st_Stands_init
  mt_Stands_shows : MethOk K ad.Stands "shows" "Stands.shows" st_Stands_shows
  oc_Stands : OwnTy K ad.Stands
  ki_Stands_Shut : PySem.W.kitOne K (.ref ad.Stands) (.ref ad.Shut) = some false
  ki_Stands_Turned : PySem.W.kitOne K (.ref ad.Stands) (.ref ad.Turned) = some false
  cl_Turned : Cls K ad.Turned
  no_Turned_sets : NoAttr K ad.Turned "sets"
  no_Turned_signs : NoAttr K ad.Turned "signs"
  mk_Turned : MakeOk K mg "Turned" "Turned.__init__" ad.Turned st_Turned_init
  mt_Turned_shows : MethOk K ad.Turned "shows" "Turned.shows" st_Turned_shows
  oc_Turned : OwnTy K ad.Turned
  ki_Turned_Shut : PySem.W.kitOne K (.ref ad.Turned) (.ref ad.Shut) = some false
  ki_Turned_Turned : PySem.W.kitOne K (.ref ad.Turned) (.ref ad.Turned) = some true
  cl_Shut : Cls K ad.Shut
  no_Shut_places : NoAttr K ad.Shut "places"
  mk_Shut : MakeOk K mg "Shut" "Shut.__init__" ad.Shut st_Shut_init
  mt_Shut_shows : MethOk K ad.Shut "shows" "Shut.shows" st_Shut_shows
  oc_Shut : OwnTy K ad.Shut
  ki_Shut_Shut : PySem.W.kitOne K (.ref ad.Shut) (.ref ad.Shut) = some true
  ki_Shut_Turned : PySem.W.kitOne K (.ref ad.Shut) (.ref ad.Turned) = some false
  x_SignError : XCls K mg "SignError" ad.SignError
  ki_SignError_AtHome : PySem.W.kitOne K (.ref ad.SignError) (.ref ad.AtHome) = some false
  ki_SignError_BadRoad : PySem.W.kitOne K (.ref ad.SignError) (.ref ad.BadRoad) = some false
  ki_SignError_NoSign : PySem.W.kitOne K (.ref ad.SignError) (.ref ad.NoSign) = some false
  x_BadLand : XCls K mg "BadLand" ad.BadLand
  em_BadLand : PySem.W.exmOne K (.ref ad.BadLand) (.ref ad.SignError) = some true
  ki_BadLand_AtHome : PySem.W.kitOne K (.ref ad.BadLand) (.ref ad.AtHome) = some false
  ki_BadLand_BadRoad : PySem.W.kitOne K (.ref ad.BadLand) (.ref ad.BadRoad) = some false
  ki_BadLand_NoSign : PySem.W.kitOne K (.ref ad.BadLand) (.ref ad.NoSign) = some false
  x_BadSigns : XCls K mg "BadSigns" ad.BadSigns
  em_BadSigns : PySem.W.exmOne K (.ref ad.BadSigns) (.ref ad.SignError) = some true
  ki_BadSigns_AtHome : PySem.W.kitOne K (.ref ad.BadSigns) (.ref ad.AtHome) = some false
  ki_BadSigns_BadRoad : PySem.W.kitOne K (.ref ad.BadSigns) (.ref ad.BadRoad) = some false
  ki_BadSigns_NoSign : PySem.W.kitOne K (.ref ad.BadSigns) (.ref ad.NoSign) = some false
  x_BadPlace : XCls K mg "BadPlace" ad.BadPlace
  em_BadPlace : PySem.W.exmOne K (.ref ad.BadPlace) (.ref ad.SignError) = some true
  ki_BadPlace_AtHome : PySem.W.kitOne K (.ref ad.BadPlace) (.ref ad.AtHome) = some false
  ki_BadPlace_BadRoad : PySem.W.kitOne K (.ref ad.BadPlace) (.ref ad.BadRoad) = some false
  ki_BadPlace_NoSign : PySem.W.kitOne K (.ref ad.BadPlace) (.ref ad.NoSign) = some false
  x_BadRoad : XCls K mg "BadRoad" ad.BadRoad
  em_BadRoad : PySem.W.exmOne K (.ref ad.BadRoad) (.ref ad.SignError) = some true
  ki_BadRoad_AtHome : PySem.W.kitOne K (.ref ad.BadRoad) (.ref ad.AtHome) = some false
  ki_BadRoad_BadRoad : PySem.W.kitOne K (.ref ad.BadRoad) (.ref ad.BadRoad) = some true
  ki_BadRoad_NoSign : PySem.W.kitOne K (.ref ad.BadRoad) (.ref ad.NoSign) = some false
  x_AtHome : XCls K mg "AtHome" ad.AtHome
  em_AtHome : PySem.W.exmOne K (.ref ad.AtHome) (.ref ad.SignError) = some true
  ki_AtHome_AtHome : PySem.W.kitOne K (.ref ad.AtHome) (.ref ad.AtHome) = some true
  ki_AtHome_BadRoad : PySem.W.kitOne K (.ref ad.AtHome) (.ref ad.BadRoad) = some false
  ki_AtHome_NoSign : PySem.W.kitOne K (.ref ad.AtHome) (.ref ad.NoSign) = some false
  x_NoSign : XCls K mg "NoSign" ad.NoSign
  em_NoSign : PySem.W.exmOne K (.ref ad.NoSign) (.ref ad.SignError) = some true
  ki_NoSign_AtHome : PySem.W.kitOne K (.ref ad.NoSign) (.ref ad.AtHome) = some false
  ki_NoSign_BadRoad : PySem.W.kitOne K (.ref ad.NoSign) (.ref ad.BadRoad) = some false
  ki_NoSign_NoSign : PySem.W.kitOne K (.ref ad.NoSign) (.ref ad.NoSign) = some true
  d_is_number : DefOk K mg "is_number" st_is_number
  d_is_place : DefOk K mg "is_place" st_is_place
  d_is_road : DefOk K mg "is_road" st_is_road
  d_are_roads : DefOk K mg "are_roads" st_are_roads
  d_is_land : DefOk K mg "is_land" st_is_land
  d_are_signs : DefOk K mg "are_signs" st_are_signs
  d_need_land : DefOk K mg "need_land" st_need_land
  d_need_signs : DefOk K mg "need_signs" st_need_signs
  d_need_place : DefOk K mg "need_place" st_need_place
  d_need_away : DefOk K mg "need_away" st_need_away
  d_need_road : DefOk K mg "need_road" st_need_road
  d_walked : DefOk K mg "walked" st_walked
  d_coming : DefOk K mg "coming" st_coming
  d_places_coming : DefOk K mg "places_coming" st_places_coming
  d_copied : DefOk K mg "copied" st_copied
  d_is_same_round : DefOk K mg "is_same_round" st_is_same_round
  d_is_kept_set : DefOk K mg "is_kept_set" st_is_kept_set
  d_no_road_leaves_two : DefOk K mg "no_road_leaves_two" st_no_road_leaves_two
  d_packed : DefOk K mg "packed" st_packed
  d_joined : DefOk K mg "joined" st_joined
  d_homeward : DefOk K mg "homeward" st_homeward
  d_followed : DefOk K mg "followed" st_followed
  d_fewest : DefOk K mg "fewest" st_fewest
  d_home_from : DefOk K mg "home_from" st_home_from
  d_worth : DefOk K mg "worth" st_worth
  d_astray : DefOk K mg "astray" st_astray
  d_need_walk : DefOk K mg "need_walk" st_need_walk
  d__law_number : DefOk K mg "_law_number" st__law_number
  d__law_land : DefOk K mg "_law_land" st__law_land
  d__law_end : DefOk K mg "_law_end" st__law_end
  d__law_home : DefOk K mg "_law_home" st__law_home
  d__law_deed : DefOk K mg "_law_deed" st__law_deed
  d__law_ask : DefOk K mg "_law_ask" st__law_ask
  d__law_due : DefOk K mg "_law_due" st__law_due
  d__law_no_of : DefOk K mg "_law_no_of" st__law_no_of
  d__law_turned_right : DefOk K mg "_law_turned_right" st__law_turned_right
  d__law_posts_promises : DefOk K mg "_law_posts_promises" st__law_posts_promises
  d__law_promises_right : DefOk K mg "_law_promises_right" st__law_promises_right
  d_law : DefOk K mg "law" st_law
  dl__law_posts_promises : DefL K mg "_law_posts_promises" st__law_posts_promises ad.c__law_posts_promises
  dl__law_promises_right : DefL K mg "_law_promises_right" st__law_promises_right ad.c__law_promises_right
  ne_tabs : ad.p__law_posts_promises ≠ ad.p__law_promises_right
end Sg
namespace Sg
set_option autoImplicit false
open PySem L2 Evl Big
open PyProof.Rows (envOfC)
section
variable {P : Program} {w : World} {K : PySem.W.Frag} {mg : Str → Option Value} {base : Heap} {ad : Ads}
def numD : PyData → Bool
  | .int _ => true
  | _ => false
def sp_is_number (K : PySem.W.Frag) : Sp := fun vs H Q _ => ∃ v d, vs = [v] ∧ Da K H v d ∧ RetV (.bl (numD d)) H Q
theorem ok_is_number (T : Txt K mg ad) : C8.Cal P w K mg base 1 "is_number" (sp_is_number K) [] := by
  refine cal_of T.d_is_number sc_is_number (fun _ _ _ _ _ _ us hl => match us, hl with | [_], _ => rfl) (fun vs H Q E h => ?_) (fun f cdv A outer s H vs Q E hr h => ?_)
  · obtain ⟨v, d, rfl, _⟩ := h; rfl
  · obtain ⟨v, d, rfl, hd, k⟩ := h
    refine ⟨_, (pss_one (ps_ret (pe_and (pe_callB (k_isi K) (by rfl) T.n_isinstance (by decide +kernel) (pa_cons (pv 0) (pa_cons (pe_bltn (v := .ty "int") (by rfl) T.n_int (by decide +kernel) rfl) pa_nil))) (pe_one (pe_not (pe_callB (k_isi K) (by rfl) T.n_isinstance (by decide +kernel) (pa_cons (pv 0) (pa_cons (pe_bltn (v := .ty "bool") (by rfl) T.n_bool (by decide +kernel) rfl) pa_nil)))))))), ?_⟩
    have e1 := ev_isi (σ := start N_is_number [v]) (te := tVar 0) (ev_var rfl) hd (kit_int d)
    have e2 := ev_isi (σ := start N_is_number [v]) (te := tVar 0) (ev_var rfl) hd (kit_bool d)
    refine s_ret (ev_is (ev_andV e1 fun _ => ev_notV e2) (show V.bl _ = .bl (numD d) from ?_)) fun H1 e => k H1 e
    cases d <;> rfl

end
end Sg
namespace Sg
set_option autoImplicit false
open PySem L2 Evl Big
open PyProof.Rows (envOfC)
section
variable {P : Program} {w : World} {K : PySem.W.Frag} {mg : Str → Option Value} {base : Heap} {ad : Ads}
def placeD (n : Int) : PyData → Bool
  | .int i => decide (0 ≤ i) && decide (i < n)
  | _ => false
def sp_is_place (K : PySem.W.Frag) : Sp := fun vs H Q _ => ∃ n v d, vs = [.int n, v] ∧ Da K H v d ∧ RetV (.bl (placeD n d)) H Q
theorem ok_is_place (T : Txt K mg ad) : C8.Cal P w K mg base 2 "is_place" (sp_is_place K) [] := by
  have c_is_number : C8.Cal P w K mg base 1 "is_number" (sp_is_number K) [] := ok_is_number T
  refine cal_of T.d_is_place sc_is_place (fun _ _ _ _ _ _ us hl => match us, hl with | [_, _], _ => rfl) (fun vs H Q E h => ?_) (fun f cdv A outer s H vs Q E hr h => ?_)
  · obtain ⟨n, v, d, rfl, _⟩ := h; rfl
  · obtain ⟨n, v, d, rfl, hd, k⟩ := h
    refine ⟨_, (pss_one (ps_ret (pe_and (C8.pe_c c_is_number hr (by decide) rfl (pa_cons (pv 1) pa_nil)) (pe_one (pe_chain op_le op_lt pe_int (pv 1) (pv 0)))))), ?_⟩
    have e1 : Ev (tCall (sp_is_number K) [] C8.E0 (tCons (tVar 1) tNil)) (start N_is_place [.int n, v]) H (.bl (numD d)) :=
      ev_call (ea_cons (ev_var rfl) ea_nil) fun H1 a Q q E => ⟨v, d, rfl, hd.mono a, q⟩
    cases d with
    | int i =>
      cases hd
      refine s_ret (ev_andV e1 fun _ => ev_chain ev_c (ev_var rfl) rv_I0 (fun _ => ev_var rfl) (fun _ => rv_I0)) fun H1 e => ?_
      exact k H1 e
    | _ => 
      refine s_ret (ev_andV (b := false) e1 fun z => absurd z (by simp [numD])) fun H1 e => ?_
      exact k H1 e

end
end Sg
namespace Sg
set_option autoImplicit false
open PySem L2 Evl Big
open PyProof.Rows (envOfC)
section
variable {P : Program} {w : World} {K : PySem.W.Frag} {mg : Str → Option Value} {base : Heap} {ad : Ads}
def neD : PyData → PyData → Bool
  | .int i, .int j => !decide (i = j)
  | _, _ => false
def roadD (n : Int) : PyData → Bool
  | .tuple [a, b] => placeD n a && (placeD n b && neD a b)
  | _ => false
theorem placeD_int {n : Int} {d : PyData} (h : placeD n d = true) : ∃ i, d = .int i ∧ 0 ≤ i ∧ i < n := by
  cases d with
  | int i =>
    simp only [placeD, Bool.and_eq_true, decide_eq_true_eq] at h
    exact ⟨i, rfl, h.1, h.2⟩
  | _ => simp [placeD] at h
def sp_is_road (K : PySem.W.Frag) : Sp := fun vs H Q _ => ∃ n v d, vs = [.int n, v] ∧ Da K H v d ∧ RetV (.bl (roadD n d)) H Q
theorem ok_is_road (T : Txt K mg ad) : C8.Cal P w K mg base 3 "is_road" (sp_is_road K) [] := by
  have c_is_place : C8.Cal P w K mg base 2 "is_place" (sp_is_place K) [] := ok_is_place T
  refine cal_of T.d_is_road sc_is_road (fun _ _ _ _ _ _ us hl => match us, hl with | [_, _], _ => rfl) (fun vs H Q E h => ?_) (fun f cdv A outer s H vs Q E hr h => ?_)
  · obtain ⟨n, v, d, rfl, _⟩ := h; rfl
  · obtain ⟨n, v, d, rfl, hd, k⟩ := h
    refine ⟨_, (pss_cons (ps_if (PW.pt (pw_or (pt_not (pt_val (pe_callB (k_isi K) (by rfl) T.n_isinstance (by decide +kernel) (pa_cons (pv 1) (pa_cons (pe_bltn (v := .ty "tuple") (by rfl) T.n_tuple (by decide +kernel) rfl) pa_nil))))) (pw_or1 (pt_cmpR op_ne (pe_callB (k_len K) (by rfl) T.n_len PySem.boot_len (pa_cons (pv 1) pa_nil)) pe_int (nomark _))))) (pss_one (ps_ret pe_bl)) pss_nil)
  (pss_cons (ps_asg (pv 1) (k_gt K (n := 2) (by rfl) (pgs_cons (pg_name (i := 2) sc_is_road.nd rfl (Or.inl rfl)) (pgs_cons (pg_name (i := 3) sc_is_road.nd rfl (Or.inl rfl)) pgs_nil))))
  (pss_one (ps_ret (pe_and (C8.pe_c c_is_place hr (by decide) rfl (pa_cons (pv 0) (pa_cons (pv 2) pa_nil))) (pe_and (C8.pe_c c_is_place hr (by decide) rfl (pa_cons (pv 0) (pa_cons (pv 3) pa_nil))) (pe_one (pe_cmpR op_ne (pv 2) (pv 3) (nomark _))))))))), ?_⟩
    have e1 := ev_isi (σ := start N_is_road [.int n, v]) (te := tVar 1) (ev_var rfl) hd (kit_tuple d)
    have pl : ∀ {σ : L2.St} {H1 : Hp} {i : Nat} {x : V} {dx : PyData}, σ[0]? = some (some (V.int n)) → σ[i]? = some (some x) → Da K H1 x dx → Ev (tCall (sp_is_place K) [] C8.E0 (tCons (tVar 0) (tCons (tVar i) tNil))) σ H1 (.bl (placeD n dx)) :=
      fun h0 hi hx => ev_call (ea_cons (ev_var h0) (ea_cons (ev_var hi) ea_nil)) fun H2 a Q q E => ⟨n, _, _, rfl, hx.mono a, q⟩
    by_cases c : ∃ a b, d = .tuple [a, b]
    · obtain ⟨da, db, rfl⟩ := c
      cases hd with
      | tup h hs =>
        cases hs with
        | cons ha hs =>
          cases hs with
          | cons hb hs =>
            cases hs
            refine q_when (b := false) (et_is (et_or (et_not (et_B e1)) fun _ => et_test (ev_op (ev_lenT (ev_var rfl) h) ev_c (rv_ne rfl))) rfl) (fun z => nomatch z) fun _ H1 a1 => ?_
            refine q_unp2 (Post := fun p H2 => p = .ref _) (evp_of (ev_var rfl) fun _ _ => rfl) fun p H2 a2 hp => ⟨_, _, _, hp, ex_t (a1.trans a2) h, ?_⟩
            refine s_ret (ev_is (ev_andV (pl rfl rfl (ha.mono (a1.trans a2))) fun h1 => ev_andV (pl rfl rfl (hb.mono (a1.trans a2))) fun h2 => ?e3) rfl) fun H3 a3 => k H3 ((a1.trans a2).trans a3)
            obtain ⟨i, rfl, _⟩ := placeD_int h1
            obtain ⟨j, rfl, _⟩ := placeD_int h2
            cases ha
            cases hb
            refine ev_is (ev_op (ev_var rfl) (ev_var rfl) (rv_ne rfl)) ?_
            simp [neD]
    · have no : roadD n d = false := by
        unfold roadD
        split
        · exact absurd ⟨_, _, rfl⟩ c
        · rfl
      rw [no] at k
      refine q_when (b := true) ?_ (fun _ H1 a1 => s_ret ev_c fun H2 a2 => k H2 (a1.trans a2)) (fun z => nomatch z)
      cases hd with
      | tup h hs =>
        refine et_is (et_or (et_not (et_B e1)) fun _ => et_test (ev_op (ev_lenT (ev_var rfl) h) ev_c (rv_ne rfl))) ?_
        show (false || !decide (V.int _ = V.int 2)) = true
        have hl := hs.len
        rw [Bool.false_or, Bool.not_eq_true', decide_eq_false_iff_not]
        intro z
        injection z with z
        apply c
        rename_i xs ds
        match ds, hs with
        | [_, _], _ => exact ⟨_, _, rfl⟩
        | [], _ => have hl' : xs.length = 0 := hl; omega
        | [_], _ => have hl' : xs.length = 1 := hl; omega
        | _ :: _ :: _ :: r, _ => have hl' : xs.length = r.length + 1 + 1 + 1 := hl; omega
      | _ => exact et_is (et_or (b := false) (et_not (et_B e1)) fun z => nomatch z) rfl

end
end Sg
namespace Sg
set_option autoImplicit false
open PySem L2 Evl Big
open PyProof.Rows (envOfC)
section
variable {P : Program} {w : World} {K : PySem.W.Frag} {mg : Str → Option Value} {base : Heap} {ad : Ads}
/-- the two of a road -/
def prD2 : PyData → Int × Int
  | .tuple [.int a, .int b] => (a, b)
  | _ => (0, 0)
def lexP (p q : Int × Int) : Bool := HT.lexLt [p.1, p.2] [q.1, q.2]
def risD (ds : List PyData) : Bool := (List.range (ds.length - 1)).all fun k => lexP (prD2 (ds.getD k .none)) (prD2 (ds.getD (k + 1) .none))
def roadsD (n : Int) : PyData → Bool
  | .list ds => decide (ds.length ≤ 120) && (ds.all (roadD n) && risD ds)
  | _ => false
theorem roadD_pr {n : Int} {d : PyData} (h : roadD n d = true) : ∃ a b, d = .tuple [.int a, .int b] ∧ 0 ≤ a ∧ a < n ∧ 0 ≤ b ∧ b < n ∧ a ≠ b := by
  unfold roadD at h
  split at h
  · rename_i x y
    simp only [Bool.and_eq_true] at h
    obtain ⟨h1, h2, h3⟩ := h
    obtain ⟨i, rfl, a1, a2⟩ := placeD_int h1
    obtain ⟨j, rfl, b1, b2⟩ := placeD_int h2
    refine ⟨i, j, rfl, a1, a2, b1, b2, ?_⟩
    simpa [neD] using h3
  · cases h
def sp_are_roads (K : PySem.W.Frag) : Sp := fun vs H Q _ => ∃ n v d, vs = [.int n, v] ∧ Da K H v d ∧ RetV (.bl (roadsD n d)) H Q
theorem ok_are_roads (T : Txt K mg ad) : C8.Cal P w K mg base 4 "are_roads" (sp_are_roads K) [] := by
  have c_is_road : C8.Cal P w K mg base 3 "is_road" (sp_is_road K) [] := ok_is_road T
  refine cal_of T.d_are_roads sc_are_roads (fun _ _ _ _ _ _ us hl => match us, hl with | [_, _], _ => rfl) (fun vs H Q E h => ?_) (fun f cdv A outer s H vs Q E hr h => ?_)
  · obtain ⟨n, v, d, rfl, _⟩ := h; rfl
  · obtain ⟨n, v, d, rfl, hd, k⟩ := h
    refine ⟨_, (pss_cons (ps_if (PW.pt (pw_or (pt_not (pt_val (pe_callB (k_isi K) (by rfl) T.n_isinstance (by decide +kernel) (pa_cons (pv 1) (pa_cons (pe_bltn (v := .ty "list") (by rfl) T.n_list (by decide +kernel) rfl) pa_nil))))) (pw_or1 (pt_cmpR op_gt (pe_callB (k_len K) (by rfl) T.n_len PySem.boot_len (pa_cons (pv 1) pa_nil)) (C8.pe_gc rfl T.c_MOST_ROADS) (nomark _))))) (pss_one (ps_ret pe_bl)) pss_nil)
  (pss_cons (ps_if (pt_not (pt_val (pe_callB (k_all K rfl) (by rfl) T.n_all (by decide +kernel) (pa_cons (pe_lc (own := [("road", 2)]) (g := _) (tt := tYes) rfl sc_are_roads.nd (k_il K (pv 1)) (blkOk_by (N := N_are_roads) (sc := C8.fnScope st_are_roads) (by decide +kernel)) (fun _ _ _ _ _ => (pg_name (i := 2) sc_are_roads.nd rfl (Or.inl rfl))) (fun _ _ _ _ _ => pts_nil) (fun _ _ _ _ _ => (C8.pe_c c_is_road hr (by decide) rfl (pa_cons (pv 0) (pa_cons (pv 2) pa_nil))))) pa_nil)))) (pss_one (ps_ret pe_bl)) pss_nil)
  (pss_one (ps_ret (pe_callB (k_all K rfl) (by rfl) T.n_all (by decide +kernel) (pa_cons (pe_lc (own := [("k", 3)]) (g := _) (tt := tYes) rfl sc_are_roads.nd (pi_range1 rfl T.n_range (pa_cons (pe_op op_sub (pe_callB (k_len K) (by rfl) T.n_len PySem.boot_len (pa_cons (pv 1) pa_nil)) pe_int) pa_nil)) (blkOk_by (N := N_are_roads) (sc := C8.fnScope st_are_roads) (by decide +kernel)) (fun _ _ _ _ _ => (pg_name (i := 3) sc_are_roads.nd rfl (Or.inl rfl))) (fun _ _ _ _ _ => pts_nil) (fun _ _ _ _ _ => (pe_cmpR (k_ltT K hr.units0) (pe_ix (k_list K) (pv 1) (pv 3) (fun _ _ => rfl)) (pe_ix (k_list K) (pv 1) (pe_op op_add (pv 3) pe_int) (fun _ _ => rfl)) (nomark _)))) pa_nil)))))), ?_⟩
    have e1 := ev_isi (σ := start N_are_roads [.int n, v]) (te := tVar 1) (ev_var rfl) hd (kit_list d)
    cases hd with
    | @lst a xs ds h hs =>
      obtain ⟨l, rfl, rfl, hl⟩ := hs.zip
      by_cases c : l.length ≤ 120
      · skip
        refine q_when (b := false) (et_is (et_or (et_not (et_B e1)) fun _ => et_test (ev_op (ev_len (ev_var rfl) h) ev_c rv_I0)) ?_) (fun z => nomatch z) fun _ H1 a1 => ?_
        · show (false || decide ((120 : Int) < ((l.map (·.1)).length : Int))) = false
          simp only [List.length_map, Bool.false_or, decide_eq_false_iff_not]
          omega
        refine q_when (et_not (et_B (ev_all (K := K) (bs := l.map fun p => roadD n p.2) (by
          rw [List.map_map]
          exact el_mapL (j := 2) l (·.1) (fun p => V.bl (roadD n p.2)) (ev_var rfl) (ex_l a1 h) (by omega) fun p hp H2 a2 =>
            ev_call (ea_cons (ev_var rfl) (ea_cons (ev_var rfl) ea_nil)) fun H3 a3 Q q E => ⟨n, _, _, rfl, ((hl p hp).mono (a1.trans a2)).mono a3, q⟩)))) (fun hb H2 a2 => ?no) fun hb H2 a2 => ?yes
        case yes =>
          have c2 : (l.all fun p => roadD n p.2) = true := by
            have q : ((l.map fun p => roadD n p.2).all id) = true := by simpa using hb
            rwa [List.all_map] at q
          have hr2 : ∀ p ∈ l, roadD n p.2 = true := fun p hp => List.all_eq_true.mp c2 p hp
          have a12 := a1.trans a2
          have hlen : (l.map (·.1)).length = l.length := List.length_map ..
          have nth : ∀ (i : Nat), i < l.length → ∃ t x y, (l.map (·.1))[i]? = some (V.ref t) ∧ SqT K H t [.int x, .int y] ∧ prD2 ((l.map (·.2)).getD i .none) = (x, y) := by
            intro i hi
            have hp := List.getElem_mem hi
            have e := List.getElem?_eq_getElem hi
            generalize l[i] = p at hp e
            obtain ⟨x, y, e2, _⟩ := roadD_pr (hr2 p hp)
            have hda := hl p hp
            obtain ⟨pv, pd⟩ := p
            have e2' : pd = .tuple [.int x, .int y] := e2
            subst e2'
            cases hda with
            | @tup t xs _ ht hts =>
              cases hts with
              | cons q1 hts =>
                cases hts with
                | cons q2 hts =>
                  cases hts
                  cases q1
                  cases q2
                  refine ⟨t, x, y, by rw [List.getElem?_map, e]; rfl, ht, ?_⟩
                  rw [List.getD_eq_getElem?_getD, List.getElem?_map, e]
                  rfl
          refine s_ret (ev_all (K := K) (bs := (List.range (l.length - 1)).map fun k => lexP (prD2 ((l.map (·.2)).getD k .none)) (prD2 ((l.map (·.2)).getD (k + 1) .none))) ?_) fun H3 a3 => ?_
          · rw [List.map_map]
            have er : l.length - 1 = (((l.map (·.1)).length : Int) - 1).toNat := by rw [hlen]; omega
            rw [er]
            refine el_mapR (j := 3) _ (ea_cons (ev_op (ev_len (ev_var rfl) (ex_l a12 h)) ev_c rv_I0) ea_nil) (by rw [hlen]; omega) fun i H4 a4 hi => ?_
            rw [hlen] at hi
            obtain ⟨t1, x1, y1, g1, g2, g3⟩ := nth i (by omega)
            obtain ⟨t2, x2, y2, f1, f2, f3⟩ := nth (i + 1) (by omega)
            have a14 := a12.trans a4
            refine ev_is (ev_op (ev_op (ev_var rfl) (ev_var rfl) (rv_ixL (ex_l a14 h) (atI_nat g1))) (ev_op (ev_var rfl) (ev_op (ev_var rfl) ev_c rv_I0) (rv_ixL (ex_l a14 h) (at_of (j := i + 1) rfl f1))) (fun H5 a5 Q q => ⟨t1, t2, [x1, y1], [x2, y2], rfl, rfl, ex_t (a14.trans a5) g2, ex_t (a14.trans a5) f2, q H5 (Ex.refl _)⟩)) ?_
            show V.bl (HT.lexLt [x1, y1] [x2, y2]) = V.bl (lexP (prD2 ((l.map (·.2)).getD i .none)) (prD2 ((l.map (·.2)).getD (i + 1) .none)))
            rw [g3, f3]
            rfl
          · refine RetV.go ?_ (a12.trans a3)
            have ev : roadsD n (.list (l.map (·.2))) = ((List.range (l.length - 1)).map fun k => lexP (prD2 ((l.map (·.2)).getD k .none)) (prD2 ((l.map (·.2)).getD (k + 1) .none))).all id := by
              show (decide ((l.map (·.2)).length ≤ 120) && ((l.map (·.2)).all (roadD n) && risD (l.map (·.2)))) = _
              rw [List.length_map, decide_eq_true c, List.all_map, Bool.true_and]
              have : l.all (roadD n ∘ fun x => x.2) = true := c2
              rw [this, Bool.true_and]
              unfold risD
              rw [List.length_map, List.all_map]
              rfl
            rw [← ev]
            exact k
        case no =>
          have c2' : (l.all fun p => roadD n p.2) = false := by
            have q : ((l.map fun p => roadD n p.2).all id) = false := by
              cases z : ((l.map fun p => roadD n p.2).all id) with
              | true => rw [z] at hb; cases hb
              | false => rfl
            rwa [List.all_map] at q
          refine s_ret ev_c fun H3 a3 => ?_
          refine RetV.go ?_ ((a1.trans a2).trans a3)
          have ev : roadsD n (.list (l.map (·.2))) = false := by
            show (decide ((l.map (·.2)).length ≤ 120) && ((l.map (·.2)).all (roadD n) && risD (l.map (·.2)))) = _
            rw [List.all_map, show l.all (roadD n ∘ fun x => x.2) = false from c2', Bool.false_and, Bool.and_false]
          rw [← ev]
          exact k
      · refine q_when (b := true) (et_is (et_or (et_not (et_B e1)) fun _ => et_test (ev_op (ev_len (ev_var rfl) h) ev_c rv_I0)) ?_) (fun _ H1 a1 => s_ret ev_c fun H2 a2 => ?_) (fun z => nomatch z)
        · show (false || decide ((120 : Int) < ((l.map (·.1)).length : Int))) = true
          simp only [List.length_map, Bool.false_or, decide_eq_true_eq]
          omega
        · refine RetV.go ?_ (a1.trans a2)
          have ev : roadsD n (.list (l.map (·.2))) = false := by
            show (decide ((l.map (·.2)).length ≤ 120) && _) = _
            rw [List.length_map, decide_eq_false c, Bool.false_and]
          rw [← ev]
          exact k
    | _ => exact q_when (b := true) (et_is (et_or (b := false) (et_not (et_B e1)) fun z => nomatch z) rfl) (fun _ H1 a1 => s_ret ev_c fun H2 a2 => k H2 (a1.trans a2)) (fun z => nomatch z)

end
end Sg
namespace Sg
set_option autoImplicit false
open PySem L2 Evl Big
open PyProof.Rows (envOfC)
section
variable {P : Program} {w : World} {K : PySem.W.Frag} {mg : Str → Option Value} {base : Heap} {ad : Ads}
def landD : PyData → Bool
  | .tuple [.int n, h, r] => (decide (1 ≤ n) && decide (n ≤ 40)) && (placeD n h && roadsD n r)
  | _ => false
def sp_is_land (K : PySem.W.Frag) : Sp := fun vs H Q _ => ∃ v d, vs = [v] ∧ Da K H v d ∧ RetV (.bl (landD d)) H Q
theorem ok_is_land (T : Txt K mg ad) : C8.Cal P w K mg base 5 "is_land" (sp_is_land K) [] := by
  have c_is_place : C8.Cal P w K mg base 2 "is_place" (sp_is_place K) [] := ok_is_place T
  have c_is_number : C8.Cal P w K mg base 1 "is_number" (sp_is_number K) [] := ok_is_number T
  have c_are_roads : C8.Cal P w K mg base 4 "are_roads" (sp_are_roads K) [] := ok_are_roads T
  obtain ⟨u40, hm40, r40⟩ := T.c_MOST_PLACES
  refine cal_of T.d_is_land sc_is_land (fun _ _ _ _ _ _ us hl => match us, hl with | [_], _ => rfl) (fun vs H Q E h => ?_) (fun f cdv A outer s H vs Q E hr h => ?_)
  · obtain ⟨v, d, rfl, _⟩ := h; rfl
  · obtain ⟨v, d, rfl, hd, k⟩ := h
    refine ⟨_, (pss_cons (ps_if (PW.pt (pw_or (pt_not (pt_val (pe_callB (k_isi K) (by rfl) T.n_isinstance (by decide +kernel) (pa_cons (pv 0) (pa_cons (pe_bltn (v := .ty "tuple") (by rfl) T.n_tuple (by decide +kernel) rfl) pa_nil))))) (pw_or1 (pt_cmpR op_ne (pe_callB (k_len K) (by rfl) T.n_len PySem.boot_len (pa_cons (pv 0) pa_nil)) pe_int (nomark _))))) (pss_one (ps_ret pe_bl)) pss_nil)
  (pss_cons (ps_asg (pv 0) (k_gt K (n := 3) (by rfl) (pgs_cons (pg_name (i := 1) sc_is_land.nd rfl (Or.inl rfl)) (pgs_cons (pg_name (i := 2) sc_is_land.nd rfl (Or.inl rfl)) (pgs_cons (pg_name (i := 3) sc_is_land.nd rfl (Or.inl rfl)) pgs_nil)))))
  (pss_cons (ps_if (PW.pt (pw_or (pt_not (pt_val (C8.pe_c c_is_number hr (by decide) rfl (pa_cons (pv 1) pa_nil)))) (pw_or1 (pt_not (pt_chain op_le op_le pe_int (pv 1) (C8.pe_gc rfl T.c_MOST_PLACES)))))) (pss_one (ps_ret pe_bl)) pss_nil)
  (pss_one (ps_ret (pe_and (C8.pe_c c_is_place hr (by decide) rfl (pa_cons (pv 1) (pa_cons (pv 2) pa_nil))) (pe_one (C8.pe_c c_are_roads hr (by decide) rfl (pa_cons (pv 1) (pa_cons (pv 3) pa_nil)))))))))), ?_⟩
    have e1 := ev_isi (σ := start N_is_land [v]) (te := tVar 0) (ev_var rfl) hd (kit_tuple d)
    by_cases c : ∃ x y z, d = .tuple [x, y, z]
    · obtain ⟨dx, dy, dz, rfl⟩ := c
      cases hd with
      | tup h hs =>
        cases hs with
        | cons hx hs =>
          cases hs with
          | cons hy hs =>
            cases hs with
            | cons hz hs =>
              cases hs
              refine q_when (b := false) (et_is (et_or (et_not (et_B e1)) fun _ => et_test (ev_op (ev_lenT (ev_var rfl) h) ev_c (rv_ne rfl))) rfl) (fun z => nomatch z) fun _ H1 a1 => ?_
              refine q_unp3 (Post := fun p H2 => p = .ref _) (evp_of (ev_var rfl) fun _ _ => rfl) fun p H2 a2 hp => ⟨_, _, _, _, hp, ex_t (a1.trans a2) h, ?_⟩
              have a12 := a1.trans a2
              have en : ∀ {σ : L2.St} {H3 : Hp} {x : V} {dx : PyData}, σ[1]? = some (some x) → Da K H3 x dx → Ev (tCall (sp_is_number K) [] C8.E0 (tCons (tVar 1) tNil)) σ H3 (.bl (numD dx)) :=
                fun hi hx => ev_call (ea_cons (ev_var hi) ea_nil) fun H4 a Q q E => ⟨_, _, rfl, hx.mono a, q⟩
              cases dx with
              | int n =>
                cases hx
                refine q_when (et_or (et_not (et_B (en rfl (.int n)))) fun _ => et_not (et_test (ev_chain ev_c (ev_var rfl) rv_I0 (fun _ => ev_c) fun _ => rv_I0))) (fun hb H3 a3 => s_ret ev_c fun H4 a4 => ?_) (fun hb H3 a3 => ?_)
                · have hn : (decide ((1 : Int) ≤ n) && decide (n ≤ 40)) = false := by
                    cases z : (decide ((1 : Int) ≤ n) && decide (n ≤ 40)) with
                    | false => rfl
                    | true => rw [z] at hb; cases hb
                  have ev : landD (.tuple [.int n, dy, dz]) = false := by
                    show ((decide ((1 : Int) ≤ n) && decide (n ≤ 40)) && _) = false
                    rw [hn, Bool.false_and]
                  rw [← ev]
                  exact RetV.go k ((a12.trans a3).trans a4)
                · have hn : (decide ((1 : Int) ≤ n) && decide (n ≤ 40)) = true := by
                    cases z : (decide ((1 : Int) ≤ n) && decide (n ≤ 40)) with
                    | true => rfl
                    | false => rw [z] at hb; cases hb
                  have a13 := a12.trans a3
                  refine s_ret (ev_andV (ev_call (ea_cons (ev_var rfl) (ea_cons (ev_var rfl) ea_nil)) fun H4 a Q q E => ⟨n, _, dy, rfl, hy.mono (a13.trans a), q⟩)
                    fun _ => ev_call (ea_cons (ev_var rfl) (ea_cons (ev_var rfl) ea_nil)) fun H4 a Q q E => ⟨n, _, dz, rfl, hz.mono (a13.trans a), q⟩) fun H4 a4 => ?_
                  have ev : landD (.tuple [.int n, dy, dz]) = (placeD n dy && roadsD n dz) := by
                    show ((decide ((1 : Int) ≤ n) && decide (n ≤ 40)) && _) = _
                    rw [hn, Bool.true_and]
                  rw [← ev]
                  exact RetV.go k (a13.trans a4)
              | _ =>
                refine q_when (b := true) (et_is (et_or (b := false) (et_not (et_B (en rfl (hx.mono a12)))) fun z => nomatch z) rfl) (fun _ H3 a3 => s_ret ev_c fun H4 a4 => RetV.go k ((a12.trans a3).trans a4)) (fun z => nomatch z)
    · have no : landD d = false := by
        unfold landD
        split
        · exact absurd ⟨_, _, _, rfl⟩ c
        · rfl
      rw [no] at k
      refine q_when (b := true) ?_ (fun _ H1 a1 => s_ret ev_c fun H2 a2 => k H2 (a1.trans a2)) (fun z => nomatch z)
      cases hd with
      | tup h hs =>
        refine et_is (et_or (et_not (et_B e1)) fun _ => et_test (ev_op (ev_lenT (ev_var rfl) h) ev_c (rv_ne rfl))) ?_
        show (false || !decide (V.int _ = V.int 3)) = true
        have hl := hs.len
        rw [Bool.false_or, Bool.not_eq_true', decide_eq_false_iff_not]
        intro z
        injection z with z
        apply c
        rename_i xs ds
        match ds, hs with
        | [_, _, _], _ => exact ⟨_, _, _, rfl⟩
        | [], _ => have hl' : xs.length = 0 := hl; omega
        | [_], _ => have hl' : xs.length = 1 := hl; omega
        | [_, _], _ => have hl' : xs.length = 2 := hl; omega
        | _ :: _ :: _ :: _ :: r, _ => have hl' : xs.length = r.length + 1 + 1 + 1 + 1 := hl; omega
      | _ => exact et_is (et_or (b := false) (et_not (et_B e1)) fun z => nomatch z) rfl

end
end Sg
namespace Sg
set_option autoImplicit false
open PySem L2 Evl Big
open PyProof.Rows (envOfC)
section
variable {P : Program} {w : World} {K : PySem.W.Frag} {mg : Str → Option Value} {base : Heap} {ad : Ads}
/-- the roads of a land, as pairs -/
def rdD (p : Int × Int) : PyData := .tuple [.int p.1, .int p.2]
/-- one sign: none, or along a road -/
def signD (n : Int) (rs : List (Int × Int)) (p : Nat) (d : PyData) : Bool :=
  match d with
  | .none => true
  | .int i => (decide (0 ≤ i) && decide (i < n)) && decide (((p : Int), i) ∈ rs)
  | _ => false
def iOf : PyData → Int
  | .int i => i
  | _ => 0
def isNoneD : PyData → Bool
  | .none => true
  | _ => false
def signsD (n h : Int) (rs : List (Int × Int)) : PyData → Bool
  | .list ds => decide ((ds.length : Int) = n) && (((ds[h.toNat]?).map isNoneD).getD false && (List.range ds.length).all fun p => signD n rs p (ds.getD p .none))
  | _ => false
/-- roads at an address -/
def RoadsAt (K : PySem.W.Frag) (H : Hp) (r : Addr) (rs : List (Int × Int)) : Prop := ∃ ks : List (Addr × List Int), SqL K H r (ks.map fun p => V.ref p.1) ∧ (∀ p ∈ ks, SqT K H p.1 (p.2.map V.int)) ∧ ks.map (·.2) = rs.map fun q => [q.1, q.2]
theorem RoadsAt.mono {H H' : Hp} {r : Addr} {rs : List (Int × Int)} (e : Ex H H') (h : RoadsAt K H r rs) : RoadsAt K H' r rs := by
  obtain ⟨ks, h1, h2, h3⟩ := h
  exact ⟨ks, ex_l e h1, fun p hp => ex_t e (h2 p hp), h3⟩
/-- a land as its three parts -/
structure LandAt (K : PySem.W.Frag) (H : Hp) (v : V) (n h : Int) (rs : List (Int × Int)) : Prop where
  ex : ∃ a r, v = .ref a ∧ SqT K H a [.int n, .int h, .ref r] ∧ RoadsAt K H r rs
theorem LandAt.mono {H H' : Hp} {v : V} {n h : Int} {rs : List (Int × Int)} (e : Ex H H') (x : LandAt K H v n h rs) : LandAt K H' v n h rs := by
  obtain ⟨a, r, h1, h2, h3⟩ := x.ex
  exact ⟨a, r, h1, ex_t e h2, h3.mono e⟩
def sp_are_signs (K : PySem.W.Frag) : Sp := fun vs H Q _ => ∃ lv n h rs v d, vs = [lv, v] ∧ LandAt K H lv n h rs ∧ 0 ≤ h ∧ h < n ∧ rs.length ≤ 300 ∧ Da K H v d ∧ RetV (.bl (signsD n h rs d)) H Q
theorem pair_mem {ks : List (Addr × List Int)} {rs : List (Int × Int)} (e : ks.map (·.2) = rs.map fun q => [q.1, q.2]) (x y : Int) : [x, y] ∈ ks.map (·.2) ↔ (x, y) ∈ rs := by
  rw [e, List.mem_map]
  constructor
  · rintro ⟨⟨a, b⟩, hm, hq⟩
    have : a = x ∧ b = y := by simpa using hq
    rw [← this.1, ← this.2]; exact hm
  · intro hm; exact ⟨(x, y), hm, rfl⟩
theorem ok_are_signs (T : Txt K mg ad) : C8.Cal P w K mg base 3 "are_signs" (sp_are_signs K) [] := by
  have c_is_place : C8.Cal P w K mg base 2 "is_place" (sp_is_place K) [] := ok_is_place T
  refine cal_of T.d_are_signs sc_are_signs (fun _ _ _ _ _ _ us hl => match us, hl with | [_, _], _ => rfl) (fun vs H Q E h => ?_) (fun f cdv A outer s H vs Q E hr h => ?_)
  · obtain ⟨lv, n, h, rs, v, d, rfl, _⟩ := h; rfl
  · obtain ⟨lv, n, h, rs, v, d, rfl, hL, h0, hn, hrs, hd, k⟩ := h
    have hu65 := hu65_of hr
    refine ⟨_, (pss_cons (ps_asg (pv 0) (k_gt K (n := 3) (by rfl) (pgs_cons (pg_name (i := 2) sc_are_signs.nd rfl (Or.inl rfl)) (pgs_cons (pg_name (i := 3) sc_are_signs.nd rfl (Or.inl rfl)) (pgs_cons (pg_name (i := 4) sc_are_signs.nd rfl (Or.inl rfl)) pgs_nil)))))
  (pss_cons (ps_if (PW.pt (pw_or (pt_not (pt_val (pe_callB (k_isi K) (by rfl) T.n_isinstance (by decide +kernel) (pa_cons (pv 1) (pa_cons (pe_bltn (v := .ty "list") (by rfl) T.n_list (by decide +kernel) rfl) pa_nil))))) (pw_or (pt_cmpR op_ne (pe_callB (k_len K) (by rfl) T.n_len PySem.boot_len (pa_cons (pv 1) pa_nil)) (pv 2) (nomark _)) (pw_or1 (pt_cmpR op_notN (pe_ix (k_list K) (pv 1) (pv 3) (fun _ _ => rfl)) pe_non (nomark _)))))) (pss_one (ps_ret pe_bl)) pss_nil)
  (pss_cons (ps_set (i := 5) sc_are_signs.nd rfl (Or.inl rfl) (pe_callTy (k_set K P w rfl hu65) (by rfl) T.n_set (by decide +kernel) (pa_cons (pv 4) pa_nil)))
  (pss_cons (ps_for PassesOwn.never rfl (pi_enum rfl T.n_enumerate (pa_cons (pv 1) pa_nil)) (k_gt K (n := 2) (by rfl) (pgs_cons (pg_name (i := 6) sc_are_signs.nd rfl (Or.inl rfl)) (pgs_cons (pg_name (i := 7) sc_are_signs.nd rfl (Or.inl rfl)) pgs_nil)))
    (pss_one (ps_if (PW.pt (pw_and (pt_cmpR op_notN (pv 7) pe_non (nomark _)) (pw_and1 (pt_not (PW.pt (pw_and (pt_val (C8.pe_c c_is_place hr (by decide) rfl (pa_cons (pv 2) (pa_cons (pv 7) pa_nil)))) (pw_and1 (pt_cmpR (k_inT K P w hu65) (pe_tup (pa_cons (pv 6) (pa_cons (pv 7) pa_nil))) (pv 5) (by rfl))))))))) (pss_one (ps_ret pe_bl)) pss_nil)))
  (pss_one (ps_ret pe_bl)))))), ?_⟩
    obtain ⟨la, r, rfl, hT, hR⟩ := hL.ex
    refine q_unp3 (Post := fun p H2 => p = .ref la) (evp_of (ev_var rfl) fun _ _ => rfl) fun p H1 a1 hp => ⟨_, _, _, _, hp, ex_t a1 hT, ?_⟩
    have a1L : LandAt K H1 (.ref la) n h rs := ⟨la, r, rfl, ex_t a1 hT, hR.mono a1⟩
    have e1 : ∀ {σ : L2.St} {H2 : Hp}, σ[1]? = some (some v) → Ex H H2 → Ev (tCB (rIsi K) (tCons (tVar 1) (tCons (tC (.ty "list")) tNil))) σ H2 (.bl (isT "list" d)) := fun hi a => ev_isi (ev_var hi) (hd.mono a) (kit_list d)
    by_cases c : ∃ ds, d = .list ds ∧ ((ds.length : Int) = n ∧ ((ds[h.toNat]?).map isNoneD).getD false = true)
    · obtain ⟨ds, rfl, hlen, hhome⟩ := c
      cases hd with
      | @lst a xs _ hS hs =>
        obtain ⟨l, rfl, rfl, hl⟩ := hs.zip
        have hl2 : (l.map (·.1)).length = l.length := List.length_map ..
        have hl3 : (l.length : Int) = n := by simpa using hlen
        have hat : (l.map (·.1))[h.toNat]? = some .non := by
          have hi : h.toNat < l.length := by omega
          have e := List.getElem?_eq_getElem hi
          have hm := List.getElem_mem hi
          generalize l[h.toNat] = p at e hm
          rw [List.getElem?_map, e] at hhome
          have hda := hl p hm
          obtain ⟨pv, pd⟩ := p
          have hhome' : isNoneD pd = true := hhome
          cases pd with
          | none =>
            cases hda
            rw [List.getElem?_map, e]; rfl
          | _ => cases hhome'
        refine q_when (b := false) (et_is (et_or (et_not (et_B (e1 rfl a1))) fun _ => et_or (et_test (ev_op (ev_len (ev_var rfl) (ex_l a1 hS)) (ev_var rfl) (rv_ne rfl))) fun _ => et_test (ev_op (ev_op (ev_var rfl) (ev_var rfl) (rv_ixL (ex_l a1 hS) (at_of (j := h.toNat) (by omega) hat))) ev_c rv_notN)) ?_) (fun z => nomatch z) fun _ H2 a2 => ?_
        · rw [hl2, hl3]
          simp [isT, tyName]
        obtain ⟨ks, k1, k2, k3⟩ := hR
        have klen : ks.length ≤ 300 := by
          have := congrArg List.length k3
          simp only [List.length_map] at this
          omega
        have a12 := a1.trans a2
        refine q_asgP (evp_set ks (ev_var rfl) (ex_l a12 k1) (fun p hp => ex_t a12 (k2 p hp)) klen) fun _ H3 a3 ⟨sa, L, e2, hf, hs3, g1, g2⟩ => ?_
        subst e2
        have a13 := a12.trans a3
        have mem : ∀ (p i : Int), (decide ([p, i] ∈ L.map (·.2)) = decide ((p, i) ∈ rs)) := by
          intro p i
          have e : [p, i] ∈ L.map (·.2) ↔ (p, i) ∈ rs := by
            rw [← pair_mem k3]
            constructor
            · intro m
              obtain ⟨q, hq, e⟩ := List.mem_map.mp m
              exact List.mem_map.mpr ⟨q, g1 q hq, e⟩
            · intro m
              obtain ⟨q, hq, e⟩ := List.mem_map.mp m
              rw [← e]
              exact g2 q hq
          exact decide_eq_decide.mpr e
        have full : signsD n h rs (.list (l.map (·.2))) = (List.range l.length).all fun p => signD n rs p ((l.map (·.2)).getD p .none) := by
          show (decide (((l.map (·.2)).length : Int) = n) && ((((l.map (·.2))[h.toNat]?).map isNoneD).getD false && _)) = _
          rw [hhome, decide_eq_true hlen, List.length_map]
          rfl
        refine q_forE l (·.1) (ea_cons (ev_var rfl) ea_nil) (ex_l a13 hS)
          (fun i σ' H' => Ex H3 H' ∧ (∃ x y, σ' = [some (.ref la), some (.ref a), some (.int n), some (.int h), some (.ref r), some (.ref sa), x, y]) ∧ ∀ j, j < i → signD n rs j ((l.map (·.2)).getD j .none) = true)
          (fun H4 a4 => ⟨a4, ⟨_, _, rfl⟩, fun j hj => absurd hj (Nat.not_lt_zero _)⟩) (fun i σ' H' _ pv => ex_l (a13.trans pv.1) hS) (fun i σ' H' H2 e pv => ⟨pv.1.trans e, pv.2⟩) ?_ ?_
        · rintro i p σ' H' hp ⟨b1, ⟨x, y, rfl⟩, hall⟩
          have hda := (hl p (List.mem_of_getElem? hp)).mono (a13.trans b1)
          have hget : (l.map (·.2)).getD i .none = p.2 := by
            rw [List.getD_eq_getElem?_getD, List.getElem?_map, hp]; rfl
          refine s_when (b := !signD n rs i p.2) (et_is (et_and (et_test (ev_op (ev_var (i := 7) rfl) ev_c rv_notN)) fun _ => et_not (et_and (et_B (ev_call (sp := sp_is_place K) (dvs := []) (E := C8.E0) (ea_cons (ev_var (i := 2) rfl) (ea_cons (ev_var (i := 7) rfl) ea_nil)) fun H4 a Q q E => ⟨n, _, _, rfl, hda.mono a, q⟩)) fun hpl =>
              et_test (b := decide ([(i : Int), iOf p.2] ∈ L.map (·.2))) (ev_opU1 (r := rInT K P w false) (eu_tup (ea_cons (ev_var (i := 6) rfl) (ea_cons (ev_var (i := 7) rfl) ea_nil)) (by show 2 ≤ 100000; decide)) (fun _ _ => ev_var (i := 5) rfl) fun t H4 ht e4 => ?inn))) ?val) (fun hb H4 a4 => ?bad) (fun hb H4 a4 => ?good)
          case inn =>
            obtain ⟨q, eq, _⟩ := placeD_int hpl
            intro H5 a5 Q qq
            have hp1 : p.1 = .int q := by
              rw [eq] at hda
              generalize p.1 = pv at hda
              cases hda
              rfl
            refine ⟨t, sa, [(i : Int), iOf p.2], L, rfl, rfl, ?_, a5 _ _ (e4 _ _ (b1 _ _ hs3)), fun q2 hq2 => ex_t (((a13.trans b1).trans e4).trans a5) (k2 q2 (g1 q2 hq2)), qq H5 (Ex.refl _)⟩
            have z := a5 _ _ ht
            rw [hp1] at z
            rw [eq]
            exact st_of z
          case val =>
            rw [mem]
            cases hd2 : p.2 with
            | none =>
              rw [hd2] at hda
              generalize p.1 = pv at hda
              cases hda
              rfl
            | int q =>
              rw [hd2] at hda
              generalize p.1 = pv at hda
              cases hda
              rfl
            | _ =>
              rw [hd2] at hda
              generalize p.1 = pv at hda
              cases hda <;> rfl
          case bad =>
            refine s_ret ev_c fun H5 a5 => ?_
            have ev : signsD n h rs (.list (l.map (·.2))) = false := by
              rw [full, List.all_eq_false]
              refine ⟨i, List.mem_range.mpr (List.getElem?_eq_some_iff.mp hp).1, ?_⟩
              rw [hget]
              simpa using hb
            rw [← ev]
            exact RetV.go k (((a13.trans b1).trans a4).trans a5)
          case good =>
            refine ⟨b1.trans a4, ⟨_, _, rfl⟩, fun j hj => ?_⟩
            by_cases z : j < i
            · exact hall j z
            · have : j = i := by omega
              subst this
              rw [hget]
              simpa using hb
        · rintro σ' H' ⟨b1, ⟨x, y, rfl⟩, hall⟩
          refine s_ret ev_c fun H4 a4 => ?_
          have ev : signsD n h rs (.list (l.map (·.2))) = true := by
            rw [full, List.all_eq_true]
            intro j hj
            exact hall j (List.mem_range.mp hj)
          rw [← ev]
          exact RetV.go k ((a13.trans b1).trans a4)
    · have no : signsD n h rs d = false := by
        unfold signsD
        split
        · rename_i ds
          by_cases c1 : (ds.length : Int) = n
          · have c2 : ((ds[h.toNat]?).map isNoneD).getD false = false := by
              cases z : ((ds[h.toNat]?).map isNoneD).getD false with
              | false => rfl
              | true => exact absurd ⟨ds, rfl, c1, z⟩ c
            rw [c2, Bool.false_and, Bool.and_false]
          · rw [decide_eq_false c1, Bool.false_and]
        · rfl
      rw [no] at k
      refine q_when (b := true) ?_ (fun _ H2 a2 => s_ret ev_c fun H3 a3 => RetV.go k ((a1.trans a2).trans a3)) (fun z => nomatch z)
      cases hd with
      | @lst a xs ds hS hs =>
        have hl := hs.len
        by_cases c1 : (ds.length : Int) = n
        · obtain ⟨x, hx⟩ : ∃ x, xs[h.toNat]? = some x := ⟨_, List.getElem?_eq_getElem (by omega)⟩
          obtain ⟨dx, hdx, hda⟩ := hs.at_ hx
          refine et_is (et_or (et_not (et_B (e1 rfl a1))) fun _ => et_or (et_test (ev_op (ev_len (ev_var rfl) (ex_l a1 hS)) (ev_var rfl) (rv_ne rfl))) fun _ => et_test (ev_op (ev_op (ev_var rfl) (ev_var rfl) (rv_ixL (ex_l a1 hS) (at_of (j := h.toNat) (by omega) hx))) ev_c rv_notN)) ?_
          have hn : isNoneD dx = false := by
            cases z : isNoneD dx with
            | false => rfl
            | true => exact absurd ⟨ds, rfl, c1, by rw [hdx]; exact z⟩ c
          have hne : decide (x = V.non) = false := by
            refine decide_eq_false fun z => ?_
            subst z
            cases hda
            cases hn
          rw [hne]
          simp
        · have hne : (!decide (V.int (xs.length : Int) = V.int n)) = true := by
            have : ¬ (V.int (xs.length : Int) = V.int n) := by
              intro z
              injection z with z
              omega
            rw [decide_eq_false this]
            rfl
          exact et_is (et_or (b := true) (et_not (et_B (e1 rfl a1))) fun _ => et_or (a := true) (b := false) (et_is (et_test (ev_op (ev_len (ev_var rfl) (ex_l a1 hS)) (ev_var rfl) (rv_ne rfl))) hne) fun z => nomatch z) rfl
      | _ => exact et_is (et_or (b := false) (et_not (et_B (e1 rfl a1))) fun z => nomatch z) rfl

end
end Sg
namespace Sg
set_option autoImplicit false
open PySem L2 Evl Big
open PyProof.Rows (envOfC)
section
variable {P : Program} {w : World} {K : PySem.W.Frag} {mg : Str → Option Value} {base : Heap} {ad : Ads}
/-- a land and signs, as data -/
def landDat (n h : Int) (rs : List (Int × Int)) : PyData := .tuple [.int n, .int h, .list (rs.map rdD)]
def LandOk (n h : Int) (rs : List (Int × Int)) : Prop := landD (landDat n h rs) = true
def nV : Option Nat → V
  | none => .non
  | some q => .int (q : Int)
def nD : Option Nat → PyData
  | none => .none
  | some q => .int (q : Int)
theorem da_n {H : Hp} (o : Option Nat) : Da K H (nV o) (nD o) := by cases o <;> constructor
theorem da_signs {H : Hp} {a : Addr} {s : List (Option Nat)} (h : SqL K H a (s.map nV)) : Da K H (.ref a) (.list (s.map nD)) := .lst h (DaAll.map _ _ s fun x _ => da_n x)
theorem dp_n {H : Hp} : ∀ (s : List (Option Nat)), DpAll K H (s.map nV) (s.map nD)
  | [] => .nil
  | none :: l => .cons .non (dp_n l)
  | some i :: l => .cons (.int i) (dp_n l)
theorem LandAt.da {H : Hp} {v : V} {n h : Int} {rs : List (Int × Int)} (x : LandAt K H v n h rs) : Da K H v (landDat n h rs) := by
  obtain ⟨a, r, rfl, hT, ks, k1, k2, k3⟩ := x.ex
  refine .tup hT (.cons (.int n) (.cons (.int h) (.cons (.lst k1 ?_) .nil)))
  have e : rs.map rdD = ks.map fun p => .tuple (p.2.map .int) := by
    have : (ks.map (·.2)).map (fun l => PyData.tuple (l.map .int)) = (rs.map fun q => [q.1, q.2]).map (fun l => PyData.tuple (l.map .int)) := by rw [k3]
    rw [List.map_map, List.map_map] at this
    exact this.symm
  rw [e]
  exact DaAll.map _ _ ks fun p hp => .tup (k2 p hp) (da_ints p.2)
structure LandOk' (n h : Int) (rs : List (Int × Int)) : Prop where
  n1 : 1 ≤ n
  n40 : n ≤ 40
  h0 : 0 ≤ h
  hn : h < n
  few : rs.length ≤ 120
  rd : ∀ p ∈ rs, 0 ≤ p.1 ∧ p.1 < n ∧ 0 ≤ p.2 ∧ p.2 < n ∧ p.1 ≠ p.2
theorem LandOk.all {n h : Int} {rs : List (Int × Int)} (x : LandOk n h rs) : LandOk' n h rs := by
  have x' : ((decide (1 ≤ n) && decide (n ≤ 40)) && (placeD n (.int h) && roadsD n (.list (rs.map rdD)))) = true := x
  simp only [placeD, roadsD, Bool.and_eq_true, decide_eq_true_eq, List.length_map, List.all_map, List.all_eq_true] at x'
  obtain ⟨⟨a1, a2⟩, ⟨a3, a4⟩, a5, a6, a7⟩ := x'
  refine ⟨a1, a2, a3, a4, a5, fun p hp => ?_⟩
  have q := a6 p hp
  have q' : roadD n (rdD p) = true := q
  obtain ⟨i, j, e, b1, b2, b3, b4, b5⟩ := roadD_pr q'
  have e' : PyData.tuple [.int p.1, .int p.2] = .tuple [.int i, .int j] := e
  injection e' with e'
  injection e' with e1 e'
  injection e1 with e1
  injection e' with e2 e'
  injection e2 with e2
  rw [e1, e2]
  exact ⟨b1, b2, b3, b4, b5⟩
def SignsOk (n h : Int) (rs : List (Int × Int)) (s : List (Option Nat)) : Prop := signsD n h rs (.list (s.map nD)) = true
structure SignsOk' (n h : Int) (rs : List (Int × Int)) (s : List (Option Nat)) : Prop where
  wf : Wf n.toNat s
  len : (s.length : Int) = n
  home : nx s h.toNat = none
  along : ∀ p q : Nat, nx s p = some q → ((p : Int), (q : Int)) ∈ rs
theorem nD_get (s : List (Option Nat)) (p : Nat) : (s.map nD).getD p .none = nD (nx s p) := by
  rw [List.getD_eq_getElem?_getD, List.getElem?_map]
  unfold nx
  cases s[p]? with
  | none => rfl
  | some o => rfl
theorem SignsOk.all {n h : Int} {rs : List (Int × Int)} {s : List (Option Nat)} (x : SignsOk n h rs s) : SignsOk' n h rs s := by
  have x' : (decide (((s.map nD).length : Int) = n) && ((((s.map nD)[h.toNat]?).map isNoneD).getD false && (List.range (s.map nD).length).all fun p => signD n rs p ((s.map nD).getD p .none))) = true := x
  simp only [Bool.and_eq_true, decide_eq_true_eq, List.length_map, List.all_eq_true, List.mem_range] at x'
  obtain ⟨a1, a2, a3⟩ := x'
  have al : ∀ p q : Nat, nx s p = some q → (q : Int) < n ∧ ((p : Int), (q : Int)) ∈ rs := by
    intro p q e
    have z := a3 p (nx_lt e)
    rw [nD_get, e] at z
    simp only [nD, signD, Bool.and_eq_true, decide_eq_true_eq] at z
    exact ⟨z.1.2, z.2⟩
  refine ⟨⟨by omega, fun p q e => by have := (al p q e).1; omega⟩, a1, ?_, fun p q e => (al p q e).2⟩
  rw [List.getElem?_map] at a2
  unfold nx
  cases z : s[h.toNat]? with
  | none => rfl
  | some o =>
    rw [z] at a2
    cases o with
    | none => rfl
    | some q => simp [nD, isNoneD] at a2
theorem signsOk_mk {n h : Int} {rs : List (Int × Int)} {s : List (Option Nat)} (hl : (s.length : Int) = n) (h0 : 0 ≤ h) (hn : h < n) (hh : nx s h.toNat = none) (al : ∀ p q : Nat, nx s p = some q → (q : Int) < n ∧ ((p : Int), (q : Int)) ∈ rs) : SignsOk n h rs s := by
  show (decide (((s.map nD).length : Int) = n) && ((((s.map nD)[h.toNat]?).map isNoneD).getD false && (List.range (s.map nD).length).all fun p => signD n rs p ((s.map nD).getD p .none))) = true
  simp only [Bool.and_eq_true, decide_eq_true_eq, List.length_map, List.all_eq_true, List.mem_range]
  refine ⟨hl, ?_, fun p hp => ?_⟩
  · rw [List.getElem?_map, nx_get (show h.toNat < s.length by omega), hh]
    rfl
  · rw [nD_get]
    cases e : nx s p with
    | none => rfl
    | some q =>
      obtain ⟨b1, b2⟩ := al p q e
      simp only [nD, signD, Bool.and_eq_true, decide_eq_true_eq]
      exact ⟨⟨by omega, b1⟩, b2⟩
/-- a land stands, and signs of it -/
structure Given (K : PySem.W.Frag) (H : Hp) (lv sv : V) (n h : Int) (rs : List (Int × Int)) (s : List (Option Nat)) : Prop where
  land : LandAt K H lv n h rs
  ok : LandOk n h rs
  signs : ∃ a, sv = .ref a ∧ SqL K H a (s.map nV)
  sok : SignsOk n h rs s
theorem Given.mono {H H' : Hp} {lv sv : V} {n h : Int} {rs : List (Int × Int)} {s : List (Option Nat)} (e : Ex H H') (g : Given K H lv sv n h rs s) : Given K H' lv sv n h rs s := by
  obtain ⟨a, ea, ha⟩ := g.signs
  exact ⟨g.land.mono e, g.ok, ⟨a, ea, ex_l e ha⟩, g.sok⟩
theorem pd_n (s : List (Option Nat)) : Pd 1 (.list (s.map nD)) := .lst fun d hd => by
  obtain ⟨a, _, rfl⟩ := List.mem_map.mp hd
  cases a <;> constructor

end
end Sg
namespace Sg
set_option autoImplicit false
open PySem L2 Evl Big
open PyProof.Rows (envOfC)
section
variable {P : Program} {w : World} {K : PySem.W.Frag} {mg : Str → Option Value} {base : Heap} {ad : Ads}
/-- a list's item: no list, or a list of what is told -/
abbrev It2 := (V × PyData) ⊕ (Addr × List V)
def itV : It2 → V
  | .inl p => p.1
  | .inr p => .ref p.1
def itE : It2 → V ⊕ List V
  | .inl p => .inl p.1
  | .inr p => .inr p.2
def ItOk (K : PySem.W.Frag) (H : Hp) : It2 → Prop
  | .inl p => Da K H p.1 p.2 ∧ isT "list" p.2 = false
  | .inr p => SqL K H p.1 p.2 ∧ p.2.length ≤ 100000
theorem ItOk.mono {H H' : Hp} (e : Ex H H') {x : It2} (h : ItOk K H x) : ItOk K H' x := by
  cases x with
  | inl p => exact ⟨h.1.mono e, h.2⟩
  | inr p => exact ⟨ex_l e h.1, h.2⟩
/-- lists made anew stand at unlike places -/
def CInj (l : List It2) (ys : List V) : Prop := ∀ (i j : Nat) p, ys[i]? = some (.ref p) → ys[j]? = some (.ref p) → (∃ q, l[i]? = some (.inr q)) → (∃ q, l[j]? = some (.inr q)) → i = j
def CopyAt (H : Hp) (l : List It2) (v : V) (H' : Hp) : Prop := ∃ D ys, v = .ref D ∧ H D = none ∧ H' D = some (.lst ys) ∧ ys.length = l.length ∧ (∀ (i : Nat) x y, l[i]? = some x → ys[i]? = some y → Item H D (itE x) y H') ∧ CInj l ys
def sp_copied (K : PySem.W.Frag) : Sp := fun vs H Q _ => ∃ v, vs = [v] ∧
  ((∃ d, Da K H v d ∧ isT "list" d = false ∧ RetV v H Q) ∨ ∃ a l, v = .ref a ∧ SqL K H a (l.map itV) ∧ l.length ≤ 40000 ∧ (∀ x ∈ l, ItOk K H x) ∧ Give H (CopyAt H l) Q)
theorem isi_listT {σ : L2.St} {H : Hp} {te : TE} {v : V} {b : Bool} {t : String} (h : Ev te σ H v) (ht : ∀ H1, Ex H H1 → TyX K H1 v (.type t)) (hk : kitB t "list" = some b) : Ev (tCB (rIsi K) (tCons te (tCons (tC (.ty "list")) tNil))) σ H (.bl b) := fun H1 e Q q =>
  h H1 e _ fun H2 e2 => ⟨v, .ty "list", _, _, b, rfl, .ty "list", ht H2 (e.trans e2), kit_ty hk, q H2 e2⟩
theorem evp_ifF {σ : L2.St} {H : Hp} {t : TT} {ta tb : TE} {v : V} (h : EvT t σ H false) (h2 : Ev tb σ H v) : Ev (tIf t ta tb) σ H v := ev_if h (fun z => nomatch z) fun _ => h2
theorem el_ifT {σ : L2.St} {H : Hp} {t : TT} {ta tb : TE} {xs : List V} (h : EvT t σ H true) (h2 : EvL ta σ H xs) : EvL (tIf t ta tb) σ H xs := fun H1 e Q q => h H1 e _ fun H2 e2 => iteT (h2 H2 (e.trans e2) Q fun p H3 hp e3 h3 => q p H3 (fresh_back e2 hp) (e2.trans e3) h3)
theorem ok_copied (T : Txt K mg ad) : C8.Cal P w K mg base 1 "copied" (sp_copied K) [] := by
  refine cal_of T.d_copied sc_copied (fun _ _ _ _ _ _ us hl => match us, hl with | [_], _ => rfl) (fun vs H Q E h => ?_) (fun f cdv A outer st H vs Q E hr h => ?_)
  · obtain ⟨v, rfl, _⟩ := h; rfl
  · obtain ⟨v, rfl, h⟩ := h
    refine ⟨_, (pss_cons (ps_if (pt_not (pt_val (pe_callB (k_isi K) (by rfl) T.n_isinstance (by decide +kernel) (pa_cons (pv 0) (pa_cons (pe_bltn (v := .ty "list") (by rfl) T.n_list (by decide +kernel) rfl) pa_nil))))) (pss_one (ps_ret (pv 0))) pss_nil)
  (pss_one (ps_ret (pe_lc (own := [("part", 1)]) (g := _) (tt := tYes) rfl sc_copied.nd (k_il K (pv 0)) (blkOk_by (N := N_copied) (sc := C8.fnScope st_copied) (by decide +kernel)) (fun _ _ _ _ _ => (pg_name (i := 1) sc_copied.nd rfl (Or.inl rfl))) (fun _ _ _ _ _ => pts_nil) (fun _ _ _ _ _ => (pe_ifExp (pt_val (pe_callB (k_isi K) (by rfl) T.n_isinstance (by decide +kernel) (pa_cons (pv 1) (pa_cons (pe_bltn (v := .ty "list") (by rfl) T.n_list (by decide +kernel) rfl) pa_nil)))) (pe_callTy (k_lst K) (by rfl) T.n_list (by decide +kernel) (pa_cons (pv 1) pa_nil)) (pv 1))))))), ?_⟩
    rcases h with ⟨d, hd, hf, k⟩ | ⟨a, l, rfl, hS, hl, hit, k⟩
    · exact q_when (b := true) (et_is (et_not (et_B (ev_isi (ev_var rfl) hd (kit_list d)))) (by rw [hf]; rfl)) (fun _ H1 a1 => s_ret (ev_var rfl) fun H2 a2 => k H2 (a1.trans a2)) (fun z => nomatch z)
    · refine q_when (b := false) (et_is (et_not (et_B (isi_listT (ev_var rfl) (fun H1 e => ty_list (ex_l e hS)) (show kitB "list" "list" = some true by decide +kernel)))) rfl) (fun z => nomatch z) fun _ H1 a1 => ?_
      refine s_retP (el_mixLd (K := K) (j := 1) l itV itE (ev_var rfl) (ex_l a1 hS) hl fun x hx H2 a2 => ?_) fun v H2 a2 p => ?_
      · have ok := (hit x hx).mono (a1.trans a2)
        cases x with
        | inl p =>
          show Ev _ _ H2 p.1
          refine ev_if (b := false) (et_B (ev_isi (ev_var rfl) ok.1 ?_)) (fun z => nomatch z) fun _ => ev_var rfl
          rw [kit_list, ok.2]
        | inr p =>
          show EvL _ _ H2 p.2
          exact el_ifT (et_B (isi_listT (ev_var rfl) (fun H3 e => ty_list (ex_l e ok.1)) (show kitB "list" "list" = some true by decide +kernel))) (el_list (ev_var rfl) ok.1)
      · obtain ⟨D, ys, h1, h2, h3, h4, h5, h6⟩ := p
        refine k v H2 (a1.trans a2) ⟨D, ys, h1, fresh_back a1 h2, h3, h4, fun i x y e1 e2 => ?_, fun i j p e1 e2 ⟨q1, z1⟩ ⟨q2, z2⟩ => h6 i j p e1 e2 ⟨_, _, z1, rfl⟩ ⟨_, _, z2, rfl⟩⟩
        have it := h5 i x y e1 e2
        cases x with
        | inl p => exact it
        | inr p =>
          obtain ⟨q, z1, z2, z3, z4⟩ := it
          exact ⟨q, z1, z2, fresh_back a1 z3, z4⟩
/-- a list of no lists is copied as it stands -/
theorem copy_flat {H H' : Hp} {l : List (V × PyData)} {v : V} (h : CopyAt H (l.map .inl) v H') : ∃ D, v = .ref D ∧ H D = none ∧ H' D = some (.lst (l.map (·.1))) := by
  obtain ⟨D, ys, h1, h2, h3, h4, h5, _⟩ := h
  refine ⟨D, h1, h2, ?_⟩
  rw [h3]
  have : ys = l.map (·.1) := by
    apply List.ext_getElem?
    intro i
    by_cases hi : i < l.length
    · have hy : i < ys.length := by rw [h4, List.length_map]; exact hi
      have e1 := List.getElem?_eq_getElem hi
      have e2 := List.getElem?_eq_getElem hy
      have q := h5 i (.inl l[i]) ys[i] (by rw [List.getElem?_map, e1]; rfl) e2
      rw [e2, List.getElem?_map, e1]
      exact congrArg some q
    · rw [List.getElem?_eq_none (by rw [h4, List.length_map]; omega), List.getElem?_eq_none (by rw [List.length_map]; omega)]
  rw [this]

end
end Sg
namespace Sg
set_option autoImplicit false
open PySem L2 Evl Big
open PyProof.Rows (envOfC)
section
variable {P : Program} {w : World} {K : PySem.W.Frag} {mg : Str → Option Value} {base : Heap} {ad : Ads}
/-- the dict of what has been met -/
def metK : Nat → List Nat → List (Key × V)
  | _, [] => []
  | i, a :: r => (Sum.inl (a : Int), V.int (i : Int)) :: metK (i + 1) r
theorem metK_snoc : ∀ (i : Nat) (met : List Nat) (a : Nat), metK i (met ++ [a]) = metK i met ++ [(Sum.inl (a : Int), V.int ((i + met.length : Nat) : Int))]
  | i, [], a => rfl
  | i, b :: r, a => by
    rw [List.cons_append, metK, metK_snoc, metK, List.cons_append, List.length_cons, show i + 1 + r.length = i + (r.length + 1) by omega]
theorem metK_len : ∀ (i : Nat) (met : List Nat), (metK i met).length = met.length
  | i, [] => rfl
  | i, b :: r => by rw [metK, List.length_cons, metK_len, List.length_cons]
theorem metK_keys : ∀ (i : Nat) (met : List Nat), ((metK i met).map fun kv => kV kv.1) = met.map natV
  | i, [] => rfl
  | i, b :: r => by rw [metK, List.map_cons, metK_keys, List.map_cons]; rfl
theorem metK_none : ∀ (i : Nat) (met : List Nat) (a : Nat), a ∉ met → valV (metK i met) (Sum.inl (a : Int)) = none
  | i, [], a, _ => rfl
  | i, b :: r, a, h => by
    rw [metK, valV_neg, metK_none (i + 1) r a fun z => h (List.mem_cons_of_mem _ z)]
    intro z
    injection z with z
    exact h (by rw [show a = b by omega]; exact List.mem_cons_self)
theorem metK_some : ∀ (i : Nat) (met : List Nat) (a : Nat), a ∈ met → valV (metK i met) (Sum.inl (a : Int)) = some (V.int ((i + met.idxOf a : Nat) : Int))
  | i, b :: r, a, h => by
    by_cases c : b = a
    · subst c
      rw [metK, valV_pos rfl, List.idxOf_cons_self]
      rfl
    · have hr : a ∈ r := by
        rcases List.mem_cons.mp h with z | z
        · exact absurd z.symm c
        · exact z
      have e : (b :: r).idxOf a = r.idxOf a + 1 := by
        rw [List.idxOf_cons, show (b == a) = false by simpa using c]
        rfl
      rw [metK, valV_neg, metK_some (i + 1) r a hr, e, show i + 1 + r.idxOf a = i + (r.idxOf a + 1) by omega]
      intro z
      injection z with z
      exact c (by omega)
/-- the places gone through, and the place of the way that the last sign shows -/
def WalkedAt (H : Hp) (s : List (Option Nat)) (p : Nat) (v : V) (H' : Hp) : Prop := ∃ t l, v = .ref t ∧ H t = none ∧ H l = none ∧ H' t = some (.tup [.ref l, nV (walkd s p).2]) ∧ H' l = some (.lst ((walkd s p).1.map natV))
def sp_walked (K : PySem.W.Frag) : Sp := fun vs H Q _ => ∃ a s n p, vs = [.ref a, natV p] ∧ SqL K H a (s.map nV) ∧ Wf n s ∧ p < n ∧ n ≤ 1000 ∧ Give H (WalkedAt H s p) Q
theorem sign_at {s : List (Option Nat)} {p : Nat} (h : p < s.length) : (s.map nV)[p]? = some (nV (nx s p)) := by
  rw [List.getElem?_map, nx_get h]; rfl
theorem ok_walked (T : Txt K mg ad) : C8.Cal P w K mg base 1 "walked" (sp_walked K) [] := by
  refine cal_of T.d_walked sc_walked (fun _ _ _ _ _ _ us hl => match us, hl with | [_, _], _ => rfl) (fun vs H Q E h => ?_) (fun f cdv A outer st H vs Q E hr h => ?_)
  · obtain ⟨a, s, n, p, rfl, _⟩ := h; rfl
  · obtain ⟨a, s, n, p, rfl, hS, w0, hp, hn, k⟩ := h
    have hu := hu_of hr
    refine ⟨_, (pss_cons (ps_set (i := 2) sc_walked.nd rfl (Or.inl rfl) pe_dnewK)
  (pss_cons (ps_set (i := 3) sc_walked.nd rfl (Or.inl rfl) (pv 1))
  (pss_cons (ps_while PassesOwn.never (PW.pt (pw_and (pt_cmpR op_notN (pv 3) pe_non (nomark _)) (pw_and1 (pt_cmp (pc_dnotin hu (pv 3) (pv 2))))))
    (pss_cons (ps_dput hu (pv 2) (pv 3) (pe_callB call_lenD (by rfl) T.n_len PySem.boot_len (pa_cons (pv 2) pa_nil)) rfl)
  (pss_one (ps_set (i := 3) sc_walked.nd rfl (Or.inl rfl) (pe_ix (k_list K) (pv 0) (pv 3) (fun _ _ => rfl))))))
  (pss_cons (ps_if (pt_cmpR op_isN (pv 3) pe_non (nomark _)) (pss_one (ps_ret (pe_tup (pa_cons (pe_callTy (call_list_dK rfl) (by rfl) T.n_list (by decide +kernel) (pa_cons (pv 2) pa_nil)) (pa_cons pe_non pa_nil))))) pss_nil)
  (pss_one (ps_ret (pe_tup (pa_cons (pe_callTy (call_list_dK rfl) (by rfl) T.n_list (by decide +kernel) (pa_cons (pv 2) pa_nil)) (pa_cons (pe_dget hu (pv 2) (pv 3) (fun _ _ => rfl)) pa_nil))))))))), ?_⟩
    have sl : s.length = n := w0.len
    refine q_asgP (Post := fun v H1 => ∃ d, v = .ref d ∧ H d = none ∧ H1 d = some (.dK [])) (fun H1 e Q q d hd => q _ _ (Ex.new hd) ⟨d, rfl, fresh_back e hd, upd_same⟩) fun _ H1 a1 ⟨d, e1, hd, hd1⟩ => ?_
    subst e1
    refine q_asg (ev_var rfl) fun H2 a2 => ?_
    refine q_while (fun m σ' H' => ∃ met at_, Met s p met at_ ∧ walkF s (s.length + 1 - met.length) met at_ = walkd s p ∧ m = s.length + 1 - met.length ∧ σ' = [some (.ref a), some (natV p), some (.ref d), some (nV at_)] ∧ Ex H H' ∧ H' d = some (.dK (metK 0 met)))
      (s.length + 1) ⟨[], some p, Met.start (by omega), rfl, rfl, rfl, a1.trans a2, a2 _ _ hd1⟩ ?_
    rintro m σ' H' ⟨met, at_, M, hw, rfl, rfl, b1, b2⟩
    have hml := M.len
    have hS' := ex_l b1 hS
    cases at_ with
    | none =>
      refine ⟨false, et_is (et_and (b := false) (et_test (ev_op (ev_var rfl) ev_c rv_notN)) fun z => nomatch z) rfl, (fun z => nomatch z), fun _ H3 a3 => ?_⟩
      refine q_when (b := true) (et_test (ev_op (ev_var rfl) ev_c rv_isN)) (fun _ H4 a4 => ?_) (fun z => nomatch z)
      have hd4 := a4 _ _ (a3 _ _ b2)
      refine ⟨.ref d, rfl, d, _, rfl, hd4, fun l hl => ⟨by show 2 ≤ sizeLine; decide, fun t ht => ?_⟩⟩
      rw [metK_keys] at ht ⊢
      have tl : t ≠ l := fun z => by rw [z, upd_same] at ht; cases ht
      have b4 := (b1.trans a3).trans a4
      have hl0 := fresh_back b4 hl
      have ht0 : H t = none := fresh_back b4 (by rw [upd_ne tl] at ht; exact ht)
      have e : walkd s p = (met, none) := by
        rw [← hw, show s.length + 1 - met.length = (s.length - met.length) + 1 by omega]
        rfl
      refine k _ _ ((b4.trans (Ex.new hl)).trans (Ex.new ht)) ⟨t, l, rfl, ht0, hl0, ?_, ?_⟩
      · rw [e]; exact upd_same
      · rw [e, upd_ne tl.symm]; exact upd_same
    | some x =>
      have hx : x < s.length := M.at_lt x rfl
      have tst : ∀ o, o = valV (metK 0 met) (Sum.inl (x : Int)) → EvT (tAnd (tTest (tOp (fun x y H Q => y = .non ∧ Q (.bl (!decide (x = .non))) H) (tVar 3) (tC .non))) (tB (tDNotIn (tVar 3) (tVar 2)))) [some (.ref a), some (natV p), some (.ref d), some (nV (some x))] H' (!o.isSome) := by
        rintro o rfl
        refine et_is (et_and (et_test (ev_op (ev_var rfl) ev_c rv_notN)) fun _ => et_B (fun H3 a3 Q q => ⟨_, rfl, _, rfl, d, _, rfl, DGet.k (k := Sum.inl (x : Int)) (a3 _ _ b2), q H3 (Ex.refl _)⟩)) ?_
        rfl
      by_cases c : x ∈ met
      · refine ⟨false, et_is (tst _ rfl) (by rw [metK_some 0 met x c]; rfl), (fun z => nomatch z), fun _ H3 a3 => ?_⟩
        refine q_when (b := false) (et_test (ev_op (ev_var rfl) ev_c rv_isN)) (fun z => nomatch z) fun _ H4 a4 => ?_
        have hd4 := a4 _ _ (a3 _ _ b2)
        refine ⟨.ref d, rfl, d, _, rfl, hd4, fun l hl => ?_⟩
        have hd5 : (upd H4 l (.lst ((metK 0 met).map fun kv => kV kv.1))) d = some (.dK (metK 0 met)) := Ex.new hl _ _ hd4
        have hg : DGet (upd H4 l (.lst ((metK 0 met).map fun kv => kV kv.1))) d (kV (Sum.inl (x : Int))) (some (natV (met.idxOf x))) := by
          have z := DGet.k (k := Sum.inl (x : Int)) hd5
          rw [metK_some 0 met x c, Nat.zero_add] at z
          exact z
        refine ⟨.ref d, rfl, .int x, rfl, d, _, rfl, hg, by show 2 ≤ sizeLine; decide, fun t ht => ?_⟩
        rw [metK_keys] at ht ⊢
        have tl : t ≠ l := fun z => by rw [z, upd_same] at ht; cases ht
        have b4 := (b1.trans a3).trans a4
        have hl0 := fresh_back b4 hl
        have ht0 : H t = none := fresh_back b4 (by rw [upd_ne tl] at ht; exact ht)
        have e : walkd s p = (met, some (met.idxOf x)) := by
          rw [← hw, show s.length + 1 - met.length = (s.length - met.length) + 1 by omega]
          unfold walkF
          rw [if_pos c]
        refine k _ _ ((b4.trans (Ex.new hl)).trans (Ex.new ht)) ⟨t, l, rfl, ht0, hl0, ?_, ?_⟩
        · rw [e]; exact upd_same
        · rw [e, upd_ne tl.symm]; exact upd_same
      · have hm2 := M.len_lt c
        refine ⟨true, et_is (tst _ rfl) (by rw [metK_none 0 met x c]; rfl), fun _ H3 a3 => ⟨fun σ2 H2 => ∃ met' at_, Met s p met' at_ ∧ walkF s (s.length + 1 - met'.length) met' at_ = walkd s p ∧ met'.length = met.length + 1 ∧ σ2 = [some (.ref a), some (natV p), some (.ref d), some (nV at_)] ∧ Ex H H2 ∧ H2 d = some (.dK (metK 0 met')), ?_, ?_⟩, (fun z => nomatch z)⟩
        · rintro σ2 H2 ⟨met', at_, c1, c2, c3, c4, c5, c6⟩
          exact ⟨_, by omega, met', at_, c1, c2, rfl, c4, c5, c6⟩
        · have hd3 := a3 _ _ b2
          refine ⟨.ref d, rfl, d, _, rfl, hd3, .ref d, rfl, .int x, rfl, d, _, rfl, DPut.k (k := Sum.inl (x : Int)) hd3 (by rw [metK_len]; exact sz_lt (by omega)), ?_⟩
          have b4 := Ex.mut (o := .dK (putK (metK 0 met) (Sum.inl (x : Int)) (.int ((metK 0 met).length : Int)))) (b1.trans a3) hd
          have keys : putK (metK 0 met) (Sum.inl (x : Int)) (.int ((metK 0 met).length : Int)) = metK 0 (met ++ [x]) := by
            rw [putK_new _ (metK_none 0 met x c), metK_snoc, metK_len, Nat.zero_add]
          rw [keys] at b4 ⊢
          refine s_asg (ev_op (ev_var rfl) (ev_var rfl) (rv_ixL (ex_l b4 hS) (at_of (j := x) rfl (sign_at hx)))) fun H5 a5 => ?_
          refine ⟨met ++ [x], nx s x, M.more w0 c, ?_, by rw [List.length_append]; rfl, rfl, b4.trans a5, a5 _ _ upd_same⟩
          rw [← hw, List.length_append, List.length_singleton, show s.length + 1 - met.length = (s.length + 1 - (met.length + 1)) + 1 by omega]
          conv => rhs; unfold walkF
          rw [if_neg c]

end
end Sg
namespace Sg
set_option autoImplicit false
open PySem L2 Evl Big
open PyProof.Rows (envOfC)
section
variable {P : Program} {w : World} {K : PySem.W.Frag} {mg : Str → Option Value} {base : Heap} {ad : Ads}
theorem ev_fld {σ : L2.St} {H : Hp} {te : TE} {x dx C : Addr} {fs : List (Str × V)} {f : Str} {v : V} (h : Ev te σ H (.ref x)) (ho : H x = some (.ins C dx fs)) (hc : Cls K C) (hn : NoAttr K C f) (hl : fs.lookup f = some v) : Ev (tFld K te f) σ H v := fun H1 e Q q =>
  h H1 e _ fun H2 e2 => ⟨x, C, dx, fs, v, rfl, e2 _ _ (e _ _ ho), hc, hn, hl, q H2 e2⟩
theorem look1 (f : Str) (v : V) : (putF f v []).lookup f = some v := by rw [lookup_putF, if_pos rfl]
theorem no1 {f m : Str} (v : V) (h : ¬ m = f) : (putF f v []).lookup m = none := by
  rw [lookup_putF, if_neg h]
  rfl
theorem at_end {xs : List V} {v : V} (h : xs[xs.length - 1]? = some v) : atI xs (-1) = some v := by
  have hp : 0 < xs.length := by
    have := (List.getElem?_eq_some_iff.mp h).1
    omega
  unfold atI ixN
  rw [if_neg (by decide), if_pos (by omega)]
  show xs[(-1 + (xs.length : Int)).toNat]? = some v
  rw [show (-1 + (xs.length : Int)).toNat = xs.length - 1 by omega]
  exact h
/-- the place where a walk comes to its end -/
def lastP (way : List Nat) : Nat := way.getD (way.length - 1) 0
theorem lastP_get {way : List Nat} (h : 0 < way.length) : way[way.length - 1]? = some (lastP way) := by
  unfold lastP
  rw [List.getD_eq_getElem?_getD, List.getElem?_eq_getElem (show way.length - 1 < way.length by omega)]
  rfl
theorem at_lastP {way : List Nat} (h : 0 < way.length) : atI (way.map natV) (-1) = some (natV (lastP way)) := by
  refine at_end ?_
  rw [List.length_map, List.getElem?_map, lastP_get h]
  rfl
/-- a made object: what stood stands, its one field as told -/
theorem made_ex {H H1 H3 : Hp} {x dx : Addr} {o : HO} (e : Ex H H1) (hx : H1 x = none) (hdx : H1 dx = none) (k : ∀ b o', b ≠ x → (upd (upd H1 dx (.own x)) x o) b = some o' → H3 b = some o') : Ex H1 H3 := fun b o' hb => by
  have n1 : b ≠ x := ne_of_none hb hx
  have n2 : b ≠ dx := ne_of_none hb hdx
  exact k b o' n1 (by rw [upd_ne n1, upd_ne n2]; exact hb)
/-- an __init__ that lays one field -/
def SpInit1 (sp : Sp) (C : Addr) (f : Str) (vs : List V) (H : Hp) (Post : V → Hp → Prop) : Prop := ∀ H1, Ex H H1 → ∀ (x dx : Addr) (Q : VK) (E : XK), H x = none → H1 x = some (.ins C dx []) →
  (∀ H3 fv, (∀ b o, b ≠ x → H1 b = some o → H3 b = some o) → H3 x = some (.ins C dx (putF f fv [])) → Post fv H3 → Q .non H3) → sp (.ref x :: vs) H1 Q E
theorem evp_make {σ : L2.St} {H : Hp} {C : Addr} {f : Str} {sp : Sp} {vs : List V} {E : XK} {ta : TA} {Post : V → Hp → Prop} (h : EvA ta σ H vs) (hs : SpInit1 sp C f vs H Post) :
    EvP (tMake C sp [] E ta) σ H (fun v H' => ∃ x dx fv, v = .ref x ∧ H x = none ∧ H' x = some (.ins C dx (putF f fv [])) ∧ Post fv H') := fun H0 e Q q =>
  h H0 e _ fun H1 e1 x dx hx hdx hne => by
    rw [List.append_nil]
    have hx0 : H x = none := fresh_back (e.trans e1) hx
    refine hs _ ((e.trans e1).trans ?_) x dx _ _ hx0 upd_same fun H3 fv k h3 p => ⟨rfl, ?_⟩
    · exact made_ex (o := .ins C dx []) (Ex.refl _) hx hdx fun b o' _ hb => hb
    · exact q _ H3 (e1.trans (made_ex (e.trans e1) hx hdx k)) ⟨x, dx, fv, rfl, hx0, h3, p⟩
/-- self.f = e, the first field -/
theorem s_fld1 {σ : L2.St} {H : Hp} {D : Ends} {te : TE} {x dx C : Addr} {f : Str} {i : Nat} {Post : V → Hp → Prop} (hi : σ[i]? = some (some (.ref x))) (hx : H x = some (.ins C dx [])) (hc : Cls K C) (hn : NoAttr K C f)
    (h : EvP te σ H Post) (k : ∀ v H1, Ex H H1 → Post v H1 → D.nx σ (upd H1 x (.ins C dx (putF f v [])))) : sFld K (tVar i) te f D σ H :=
  h H (Ex.refl H) _ fun v H1 e p => ⟨.ref x, hi, x, C, dx, [], rfl, e _ _ hx, hc, hn, by show 0 < 1000; decide, k v H1 e p⟩

end
end Sg
namespace Sg
set_option autoImplicit false
open PySem L2 Evl Big
open PyProof.Rows (envOfC)
section
variable {P : Program} {w : World} {K : PySem.W.Frag} {mg : Str → Option Value} {base : Heap} {ad : Ads}
/-- an if, and one going-on for both -/
theorem q_whenK {t : TT} {tu tz : TS} {D : Ends} {σ : L2.St} {H : Hp} {b : Bool} (M : L2.St → Hp → Prop) (h : EvT t σ H b) (h1 : (∀ σ' H', M σ' H' → tz D σ' H') → b = true → ∀ H1, Ex H H1 → tu { D with nx := tz D } σ H1) (h2 : b = false → ∀ H1, Ex H H1 → M σ H1) (k : ∀ σ' H', M σ' H' → tz D σ' H') : tSeq (tIfS t tu tNext) tz D σ H :=
  q_when h (h1 k) fun hb H1 e => k _ _ (h2 hb H1 e)

end
end Sg
namespace Sg
set_option autoImplicit false
open PySem L2 Evl Big
open PyProof.Rows (envOfC)
section
variable {P : Program} {w : World} {K : PySem.W.Frag} {mg : Str → Option Value} {base : Heap} {ad : Ads}
/-- the tuples told so far -/
def Tw {α : Type} (H : Hp) (Dl : Addr) (l : List α) (p : α → Bool) (F : α → List V) (i : Nat) (H' : Hp) : Prop := H Dl = none ∧ Ex H H' ∧ ∃ ks : List (Addr × α), H' Dl = some (.lst (ks.map fun q => V.ref q.1)) ∧ ks.map (·.2) = (l.take i).filter p ∧ ∀ q ∈ ks, q.1 ≠ Dl ∧ H q.1 = none ∧ H' q.1 = some (.tup (F q.2))
/-- [a tuple for x in xs if ..] -/
theorem evp_tups {α : Type} {σ : L2.St} {H : Hp} {a : Addr} {tl te : TE} {t : TT} {g : TG} {vs : List Nat} (l : List α) (f : α → V) (p : α → Bool) (F : α → List V) (env : α → L2.St) (h : Ev tl σ H (.ref a)) (hx : SqL K H a (l.map f)) (hz : l.length ≤ 40000)
    (hg : ∀ x ∈ l, ∀ H1, Ex H H1 → ∀ k : L2.St → Hp → Prop, k (env x) H1 → g (f x) (wipe σ vs) H1 k) (hw : ∀ x, wipe (env x) vs = wipe σ vs)
    (ht : ∀ x ∈ l, ∀ H1, Ex H H1 → EvT t (env x) H1 (p x)) (he : ∀ x ∈ l, ∀ H1, Ex H H1 → p x = true → EvU te (env x) H1 (F x)) :
    EvP (tLc (iList K tl) g t te vs) σ H (fun v H2 => ∃ Dl, ∃ ks : List (Addr × α), v = .ref Dl ∧ H Dl = none ∧ H2 Dl = some (.lst (ks.map fun q => V.ref q.1)) ∧ ks.map (·.2) = l.filter p ∧ ∀ q ∈ ks, q.1 ≠ Dl ∧ H q.1 = none ∧ H2 q.1 = some (.tup (F q.2))) := by
  intro H0 e Q q
  refine h H0 e _ fun H1 e1 => ⟨a, rfl, ⟨_, ex_l (e.trans e1) hx⟩, fun Dl hD => ?_⟩
  have e01 := e.trans e1
  refine lc_list (xs := l.map f) (Tw H1 Dl l p F) ⟨hD, Ex.new hD, [], upd_same, by simp, fun q hq => by cases hq⟩ (fun i H' _ w => ex_l (e01.trans w.2.1) hx) (fun i x H' hi w => ?_) (fun H' w => ?_)
  · rw [List.getElem?_map] at hi
    obtain ⟨y, hy, rfl⟩ := Option.map_eq_some_iff.mp hi
    have hm := List.mem_of_getElem? hy
    have hil := (List.getElem?_eq_some_iff.mp hy).1
    obtain ⟨w1, w2, ks, w3, w4, w5⟩ := w
    refine hg y hm H' (e01.trans w2) _ ⟨hw y, ?_⟩
    refine ht y hm H' (e01.trans w2) H' (Ex.refl _) _ fun H3 e3 => ?_
    have tk : (l.take (i + 1)).filter p = (l.take i).filter p ++ (if p y = true then [y] else []) := by
      rw [List.take_succ, hy, List.filter_append]
      congr 1
      show [y].filter p = _
      cases c : p y <;> simp [List.filter, c]
    have hlen : ks.length ≤ l.length := by
      have := congrArg List.length w4
      rw [List.length_map] at this
      rw [this]
      exact Nat.le_trans (List.length_filter_le _ _) (by rw [List.length_take]; omega)
    cases hp : p y with
    | false =>
      rw [if_neg (by decide)]
      rw [hp, if_neg (by decide), List.append_nil] at tk
      exact ⟨w1, w2.trans e3, ks, e3 _ _ w3, by rw [tk]; exact w4, fun q hq => ⟨(w5 q hq).1, (w5 q hq).2.1, e3 _ _ (w5 q hq).2.2⟩⟩
    | true =>
      rw [if_pos rfl]
      rw [hp, if_pos rfl] at tk
      refine he y hm H3 (e01.trans (w2.trans e3)) hp H3 (Ex.refl _) _ fun r H4 hr e4 h4 => ⟨ks.map fun q => V.ref q.1, e4 _ _ (e3 _ _ w3), sz_lt (by rw [List.length_map]; omega), w1, Ex.mut ((w2.trans e3).trans e4) w1, ks ++ [(r, y)], by rw [upd_same, List.map_append]; rfl, by rw [List.map_append, w4, tk]; rfl, fun q hq => ?_⟩
      have rD : r ≠ Dl := (ne_of_none (e3 _ _ w3) hr).symm
      rcases List.mem_append.mp hq with hq | hq
      · obtain ⟨z1, z2, z3⟩ := w5 q hq
        exact ⟨z1, z2, by rw [upd_ne z1]; exact e4 _ _ (e3 _ _ z3)⟩
      · rw [List.mem_singleton] at hq
        subst hq
        exact ⟨rD, fresh_back (w2.trans e3) hr, by rw [upd_ne rD]; exact h4⟩
  · obtain ⟨w1, w2, ks, w3, w4, w5⟩ := w
    rw [List.length_map, List.take_length] at w4
    exact q _ H' (e1.trans w2) ⟨Dl, ks, rfl, fresh_back e01 w1, w3, w4, fun q hq => ⟨(w5 q hq).1, fresh_back e01 (w5 q hq).2.1, (w5 q hq).2.2⟩⟩

end
end Sg
namespace Sg
set_option autoImplicit false
open PySem L2 Evl Big
open PyProof.Rows (envOfC)
section
variable {P : Program} {w : World} {K : PySem.W.Frag} {mg : Str → Option Value} {base : Heap} {ad : Ads}
theorem Tw.ex {α : Type} {H : Hp} {Dl : Addr} {l : List α} {p : α → Bool} {F : α → List V} {i : Nat} {H1 H2 : Hp} (e : Ex H1 H2) (w : Tw H Dl l p F i H1) : Tw H Dl l p F i H2 := by
  obtain ⟨w1, w2, ks, w3, w4, w5⟩ := w
  exact ⟨w1, w2.trans e, ks, e _ _ w3, w4, fun q hq => ⟨(w5 q hq).1, (w5 q hq).2.1, e _ _ (w5 q hq).2.2⟩⟩
theorem tw_turn {α : Type} {H H' : Hp} {Dl : Addr} {l : List α} {p : α → Bool} {F : α → List V} {i : Nat} {y : α} {te : TE} {t : TT} {σ2 : L2.St} (w : Tw H Dl l p F i H') (hy : l[i]? = some y) (hz : l.length ≤ 40000) (ht : EvT t σ2 H (p y)) (he : p y = true → EvU te σ2 H (F y)) :
    t σ2 H' fun b H3 => if b = true then te σ2 H3 fun y H4 => ∃ acc, H4 Dl = some (.lst acc) ∧ acc.length < sizeLine ∧ Tw H Dl l p F (i + 1) (upd H4 Dl (.lst (acc ++ [y]))) else Tw H Dl l p F (i + 1) H3 := by
  obtain ⟨w1, w2, ks, w3, w4, w5⟩ := w
  have hil := (List.getElem?_eq_some_iff.mp hy).1
  refine ht H' w2 _ fun H3 e3 => ?_
  have tk : (l.take (i + 1)).filter p = (l.take i).filter p ++ (if p y = true then [y] else []) := by
    rw [List.take_succ, hy, List.filter_append]
    congr 1
    show [y].filter p = _
    cases c : p y <;> simp [List.filter, c]
  have hlen : ks.length ≤ l.length := by
    have := congrArg List.length w4
    rw [List.length_map] at this
    rw [this]
    exact Nat.le_trans (List.length_filter_le _ _) (by rw [List.length_take]; omega)
  cases hp : p y with
  | false =>
    rw [if_neg (by decide)]
    rw [hp, if_neg (by decide), List.append_nil] at tk
    exact ⟨w1, w2.trans e3, ks, e3 _ _ w3, by rw [tk]; exact w4, fun q hq => ⟨(w5 q hq).1, (w5 q hq).2.1, e3 _ _ (w5 q hq).2.2⟩⟩
  | true =>
    rw [if_pos rfl]
    rw [hp, if_pos rfl] at tk
    refine he hp H3 (w2.trans e3) _ fun r H4 hr e4 h4 => ⟨ks.map fun q => V.ref q.1, e4 _ _ (e3 _ _ w3), sz_lt (by rw [List.length_map]; omega), w1, Ex.mut ((w2.trans e3).trans e4) w1, ks ++ [(r, y)], by rw [upd_same, List.map_append]; rfl, by rw [List.map_append, w4, tk]; rfl, fun q hq => ?_⟩
    have rD : r ≠ Dl := (ne_of_none (e3 _ _ w3) hr).symm
    rcases List.mem_append.mp hq with hq | hq
    · obtain ⟨z1, z2, z3⟩ := w5 q hq
      exact ⟨z1, z2, by rw [upd_ne z1]; exact e4 _ _ (e3 _ _ z3)⟩
    · rw [List.mem_singleton] at hq
      subst hq
      exact ⟨rD, fresh_back (w2.trans e3) hr, by rw [upd_ne rD]; exact h4⟩
/-- [a tuple for i, x in enumerate(xs) if ..]; L: the pairs -/
theorem evp_tupsE {β : Type} {σ : L2.St} {H : Hp} {a : Addr} {ta : TA} {te : TE} {t : TT} {i1 i2 : Nat} (h12 : i1 ≠ i2) (l : List β) (L : List (Nat × β)) (hL : ∀ k : Nat, L[k]? = l[k]?.map fun x => (k, x)) (hLl : L.length = l.length) (f : β → V) (p : Nat × β → Bool) (F : Nat × β → List V) (h : EvA ta σ H [.ref a]) (hx : SqL K H a (l.map f)) (hz : l.length ≤ 40000)
    (ht : ∀ (k : Nat) x, l[k]? = some x → ∀ H1, Ex H H1 → EvT t (((wipe σ [i1, i2]).set i1 (some (.int (k : Int)))).set i2 (some (f x))) H1 (p (k, x)))
    (he : ∀ (k : Nat) x, l[k]? = some x → ∀ H1, Ex H H1 → p (k, x) = true → EvU te (((wipe σ [i1, i2]).set i1 (some (.int (k : Int)))).set i2 (some (f x))) H1 (F (k, x))) :
    EvP (tLc (iEnum K ta) (gTup K 2 (gCons (gName i1) (gCons (gName i2) gNil))) t te [i1, i2]) σ H (fun v H2 => ∃ Dl, ∃ ks : List (Addr × (Nat × β)), v = .ref Dl ∧ H Dl = none ∧ H2 Dl = some (.lst (ks.map fun q => V.ref q.1)) ∧ ks.map (·.2) = L.filter p ∧ ∀ q ∈ ks, q.1 ≠ Dl ∧ H q.1 = none ∧ H2 q.1 = some (.tup (F q.2))) := by
  intro H0 e Q q
  refine h H0 e _ fun H1 e1 => ⟨a, _, rfl, ex_l (e.trans e1) hx, fun Dl hD => ?_⟩
  have e01 := e.trans e1
  have hw : Walk (Ite K a) l.length (fun H => SqL K H a (l.map f)) (YPair (fun i => some (.int (i : Nat))) (fun i => (l.map f)[i]?)) := by
    have := walk_enum (K := K) (a := a) (xs := l.map f)
    rwa [List.length_map] at this
  refine lc_it hw (Tw H1 Dl L p F) ⟨hD, Ex.new hD, [], upd_same, by simp, fun q hq => by cases hq⟩ (fun i H' _ w => ex_l (e01.trans w.2.1) hx) (fun i x H2 H3 hi w y => ?_) (fun H' w => ?_)
  · obtain ⟨T, x1, x2, rfl, hT, rfl, hx1, hx2⟩ := y
    have hx1' : V.int (i : Nat) = x1 := Option.some.inj hx1
    subst hx1'
    have hx2' : (l.map f)[i]? = some x2 := hx2
    rw [List.getElem?_map] at hx2'
    obtain ⟨z, e2, rfl⟩ := Option.map_eq_some_iff.mp hx2'
    refine ⟨T, _, rfl, .inl (.inl upd_same), rfl, _, _, rfl, _, _, rfl, rfl, ?_⟩
    exact ⟨wipe2 σ h12 _ _, tw_turn (y := (i, z)) (w.ex (Ex.new hT)) (by rw [hL, e2]; rfl) (by rw [hLl]; exact hz) (ht i z e2 H1 e01) (he i z e2 H1 e01)⟩
  · obtain ⟨w1, w2, ks, w3, w4, w5⟩ := w
    rw [← hLl, List.take_length] at w4
    exact q _ H' (e1.trans w2) ⟨Dl, ks, rfl, fresh_back e01 w1, w3, w4, fun q hq => ⟨(w5 q hq).1, fresh_back e01 (w5 q hq).2.1, (w5 q hq).2.2⟩⟩

end
end Sg
namespace Sg
set_option autoImplicit false
open PySem L2 Evl Big
open PyProof.Rows (envOfC)
section
variable {P : Program} {w : World} {K : PySem.W.Frag} {mg : Str → Option Value} {base : Heap} {ad : Ads}
def bV : Option Bool → V
  | none => .non
  | some b => .bl b
/-- from q one comes to g -/
noncomputable def reachB (s : List (Option Nat)) (g q : Nat) : Bool := @decide (Reach s g q) (Classical.propDecidable _)
theorem reachB_iff {s : List (Option Nat)} {g q : Nat} : reachB s g q = true ↔ Reach s g q := by
  unfold reachB
  exact @decide_eq_true_iff _ (Classical.propDecidable _)
def ComingAt (H : Hp) (s : List (Option Nat)) (g : Nat) (v : V) (H' : Hp) : Prop := ∃ l, v = .ref l ∧ H l = none ∧ H' l = some (.lst ((List.range s.length).map fun q => V.bl (reachB s g q)))
def sp_coming (K : PySem.W.Frag) : Sp := fun vs H Q _ => ∃ a s n g, vs = [.ref a, natV g] ∧ SqL K H a (s.map nV) ∧ Wf n s ∧ g < n ∧ n ≤ 1000 ∧ Give H (ComingAt H s g) Q
theorem marks_start {s : List (Option Nat)} {g : Nat} (hg : g < s.length) : Marks s g ((List.replicate s.length none).set g (some true)) where
  len := by simp
  goal := List.getElem?_set_self (by simpa using hg)
  yes := fun q e => by
    by_cases c : g = q
    · subst c; exact reach_self s g
    · rw [List.getElem?_set_ne c, List.getElem?_replicate] at e
      split at e <;> cases e
  no := fun q e => by
    by_cases c : g = q
    · subst c
      rw [List.getElem?_set_self (by simpa using hg)] at e
      cases e
    · rw [List.getElem?_set_ne c, List.getElem?_replicate] at e
      split at e <;> cases e
theorem bV_get {kn : List (Option Bool)} {q : Nat} {o : Option Bool} (h : kn[q]? = some o) : (kn.map bV)[q]? = some (bV o) := by
  rw [List.getElem?_map, h]; rfl
/-- all marked -/
theorem marks_done {s : List (Option Nat)} {g : Nat} {kn : List (Option Bool)} (M : Marks s g kn) (h : ∀ q, q < s.length → kn[q]? ≠ some none) : kn.map bV = (List.range s.length).map fun q => V.bl (reachB s g q) := by
  apply List.ext_getElem?
  intro q
  by_cases hq : q < s.length
  · have hq' : q < kn.length := by rw [M.len]; exact hq
    have e := List.getElem?_eq_getElem hq'
    generalize kn[q] = o at e
    rw [bV_get e, List.getElem?_map, List.getElem?_range hq]
    show some (bV o) = some (V.bl (reachB s g q))
    cases o with
    | none => exact absurd e (h q hq)
    | some b =>
      cases b with
      | true => rw [reachB_iff.mpr (M.yes q e)]; rfl
      | false =>
        have : reachB s g q = false := by
          cases z : reachB s g q with
          | false => rfl
          | true => exact absurd (reachB_iff.mp z) (M.no q e)
        rw [this]; rfl
  · rw [List.getElem?_eq_none (by rw [List.length_map, M.len]; omega), List.getElem?_eq_none (by simp; omega)]
theorem ok_coming (T : Txt K mg ad) : C8.Cal P w K mg base 1 "coming" (sp_coming K) [] := by
  refine cal_of T.d_coming sc_coming (fun _ _ _ _ _ _ us hl => match us, hl with | [_, _], _ => rfl) (fun vs H Q E h => ?_) (fun f cdv A outer st H vs Q E hr h => ?_)
  · obtain ⟨a, s, n, g, rfl, _⟩ := h; rfl
  · obtain ⟨a, s, n, g, rfl, hS, w0, hg, hn, k⟩ := h
    refine ⟨_, (pss_cons (ps_set (i := 2) sc_coming.nd rfl (Or.inl rfl) (pe_op op_rep (pe_lst (pa_cons pe_non pa_nil)) (pe_callB (k_len K) (by rfl) T.n_len PySem.boot_len (pa_cons (pv 0) pa_nil))))
  (pss_cons (ps_asg pe_bl (pg_sub (pv 2) (pv 1) set_list))
  (pss_cons (ps_for PassesOwn.never rfl (pi_range1 rfl T.n_range (pa_cons (pe_callB (k_len K) (by rfl) T.n_len PySem.boot_len (pa_cons (pv 0) pa_nil)) pa_nil)) (pg_name (i := 3) sc_coming.nd rfl (Or.inl rfl))
    (pss_cons (ps_set (i := 4) sc_coming.nd rfl (Or.inl rfl) (pe_lst pa_nil))
  (pss_cons (ps_set (i := 5) sc_coming.nd rfl (Or.inl rfl) (pv 3))
  (pss_cons (ps_while PassesOwn.never (PW.pt (pw_and (pt_cmpR op_notN (pv 5) pe_non (nomark _)) (pw_and1 (pt_cmpR op_isN (pe_ix (k_list K) (pv 2) (pv 5) (fun _ _ => rfl)) pe_non (nomark _)))))
    (pss_cons (ps_asg pe_bl (pg_sub (pv 2) (pv 5) set_list))
  (pss_cons (ps_expr (pe_bm PySem.F.plainAttrs_list PySem.F.slot_list_append PySem.F.type_list_append mt_append (pv 4) (pa_cons (pv 5) pa_nil)))
  (pss_one (ps_set (i := 5) sc_coming.nd rfl (Or.inl rfl) (pe_ix (k_list K) (pv 0) (pv 5) (fun _ _ => rfl)))))))
  (pss_one (ps_if (PW.pt (pw_and (pt_cmpR op_notN (pv 5) pe_non (nomark _)) (pw_and1 (k_tru K (pe_ix (k_list K) (pv 2) (pv 5) (fun _ _ => rfl)))))) (pss_one (ps_for PassesOwn.never rfl (k_il K (pv 4)) (pg_name (i := 6) sc_coming.nd rfl (Or.inl rfl))
    (pss_one (ps_asg pe_bl (pg_sub (pv 2) (pv 6) set_list))))) pss_nil))))))
  (pss_one (ps_ret (pv 2)))))), ?_⟩
    have sl : s.length = n := w0.len
    have lenE : ∀ {σ : L2.St} {H1 : Hp}, σ[0]? = some (some (.ref a)) → Ex H H1 → Ev (tCB (rLenS K) (tCons (tVar 0) tNil)) σ H1 (.int (s.length : Int)) := fun h0 e => by
      have q := ev_len (K := K) (ta := tVar 0) (ev_var h0) (ex_l e hS)
      rwa [List.length_map] at q
    refine q_asgL (el_rep (lenE rfl (Ex.refl H)) (by omega)) fun l H1 hl a1 hl1 => ?_
    refine q_setL (j := g) (v := .bl true) hl1 ev_c (ev_var rfl) (ev_var rfl) (by simp; omega) fun H2 a2 => ?_
    have b2 := Ex.mut (o := .lst ((List.replicate s.length V.non).set g (.bl true))) (a1.trans a2) hl
    have e0 : (List.replicate s.length V.non).set g (V.bl true) = (((List.replicate s.length none).set g (some true)).map bV) := by
      rw [List.map_set, List.map_replicate]; rfl
    rw [e0] at b2 ⊢
    refine q_forR (ea_cons (lenE rfl b2) ea_nil) (by omega)
      (fun i σ' H' => ∃ kn x y z u, Marks s g kn ∧ (∀ q, q < i → kn[q]? ≠ some none) ∧ Ex H H' ∧ H' l = some (.lst (kn.map bV)) ∧ σ' = [some (.ref a), some (natV g), some (.ref l), x, y, z, u])
      (fun H3 a3 => ⟨_, _, _, _, _, marks_start (by omega), fun q hq => absurd hq (Nat.not_lt_zero _), b2.trans a3, a3 _ _ upd_same, rfl⟩) ?_ ?_
    · rintro i σ' H' hi ⟨kn, x, y, z, u, M, hm, c1, c2, rfl⟩
      have hi' : i < s.length := by omega
      refine q_asgL (el_lst ea_nil (by decide)) fun wl H3 hwl a3 hwl3 => ?_
      have wl0 : H wl = none := fresh_back c1 hwl
      have wll : wl ≠ l := fun z => by rw [z, c2] at hwl; cases hwl
      refine q_asg (ev_var (v := natV i) rfl) fun H4 a4 => ?_
      refine q_while (fun m σ2 H5 => ∃ way at_, Under s g kn way at_ ∧ (i ∈ way ∨ (way = [] ∧ at_ = some i)) ∧ m = s.length - way.length ∧ σ2 = [some (.ref a), some (natV g), some (.ref l), some (natV i), some (.ref wl), some (nV at_), u] ∧ Ex H H5 ∧ H5 l = some (.lst ((markAll kn (some false) way).map bV)) ∧ H5 wl = some (.lst (way.map natV)))
        s.length ⟨[], some i, Under.start hi', .inr ⟨rfl, rfl⟩, rfl, rfl, (c1.trans a3).trans a4, a4 _ _ (a3 _ _ c2), a4 _ _ hwl3⟩ ?_
      rintro m σ2 H5 ⟨way, at_, U, hway, rfl, rfl, d1, d2, d3⟩
      have mk := markAll_len (some false) way kn
      -- behind the loop: all of the way has its right marks
      have last : ∀ (v : Bool) σ2 H6, (∀ a ∈ way, (v = true → Reach s g a) ∧ (v = false → ¬ Reach s g a)) → (markAll kn (some v) way)[i]? ≠ some none → Ex H H6 → H6 l = some (.lst ((markAll kn (some v) way).map bV)) → (∃ x y z u, σ2 = [some (.ref a), some (natV g), some (.ref l), x, y, z, u]) →
          ∃ kn x y z u, Marks s g kn ∧ (∀ q, q < i + 1 → kn[q]? ≠ some none) ∧ Ex H H6 ∧ H6 l = some (.lst (kn.map bV)) ∧ σ2 = [some (.ref a), some (natV g), some (.ref l), x, y, z, u] := by
        rintro v σ2 H6 h1 h2 h3 h4 ⟨x, y, z, u, rfl⟩
        refine ⟨_, x, y, z, u, M.after U.unk h1, fun q hq => ?_, h3, h4, rfl⟩
        by_cases e : q = i
        · subst e; exact h2
        · have hql : q < kn.length := by rw [M.len]; omega
          rw [markAll_get _ _ _ _ hql]
          split
          · intro z; cases z
          · exact hm q (by omega)
      have imark : ∀ v : Bool, i ∈ way → (markAll kn (some v) way)[i]? ≠ some none := by
        intro v h
        rw [markAll_get _ _ _ _ (by rw [M.len]; exact hi'), if_pos h]
        intro z; cases z
      cases at_ with
      | none =>
        refine ⟨false, et_is (et_and (b := false) (et_test (ev_op (ev_var rfl) ev_c rv_notN)) fun z => nomatch z) rfl, (fun z => nomatch z), fun _ H6 a6 => ?_⟩
        refine s_when (b := false) (et_is (et_and (b := false) (et_test (ev_op (ev_var rfl) ev_c rv_notN)) fun z => nomatch z) rfl) (fun z => nomatch z) fun _ H7 a7 => ?_
        have hiw : i ∈ way := by
          rcases hway with h | ⟨_, h⟩
          · exact h
          · cases h
        exact last false _ _ (fun q hq => ⟨(fun z => nomatch z), fun _ => U.none_reach M (fun b e => nomatch e) q hq⟩) (imark false hiw) ((d1.trans a6).trans a7) (a7 _ _ (a6 _ _ d2)) ⟨_, _, _, _, rfl⟩
      | some x =>
        have hx : x < s.length := U.at_lt x rfl
        have hxk : x < (markAll kn (some false) way).length := by rw [mk, M.len]; exact hx
        obtain ⟨o, ho⟩ : ∃ o, (markAll kn (some false) way)[x]? = some o := ⟨_, List.getElem?_eq_getElem hxk⟩
        have ixE : ∀ {H6 : Hp}, Ex H5 H6 → Ev (tOp (rIxL K) (tVar 2) (tVar 5)) [some (.ref a), some (natV g), some (.ref l), some (natV i), some (.ref wl), some (nV (some x)), u] H6 (bV o) := fun a6 =>
          ev_op (ev_var rfl) (ev_var rfl) (rv_ixL (sq_of (a6 _ _ d2)) (at_of (j := x) rfl (bV_get ho)))
        cases o with
        | none =>
          have hlt := U.len_lt M.len ho
          obtain ⟨U2, emk⟩ := U.more w0 M.len ho
          refine ⟨true, et_is (et_and (et_test (ev_op (ev_var rfl) ev_c rv_notN)) fun _ => et_test (ev_op (ixE (Ex.refl _)) ev_c rv_isN)) rfl, fun _ H6 a6 => ⟨fun σ2 H5 => ∃ way' at_, Under s g kn way' at_ ∧ (i ∈ way' ∨ (way' = [] ∧ at_ = some i)) ∧ way'.length = way.length + 1 ∧ σ2 = [some (.ref a), some (natV g), some (.ref l), some (natV i), some (.ref wl), some (nV at_), u] ∧ Ex H H5 ∧ H5 l = some (.lst ((markAll kn (some false) way').map bV)) ∧ H5 wl = some (.lst (way'.map natV)), ?_, ?_⟩, (fun z => nomatch z)⟩
          · rintro σ3 H7 ⟨way', at_, e1, e2, e3, e4, e5⟩
            exact ⟨_, by omega, way', at_, e1, e2, rfl, e4, e5⟩
          · refine q_setL (j := x) (v := .bl false) (a6 _ _ d2) ev_c (ev_var rfl) (ev_var rfl) (by rw [List.length_map]; exact hxk) fun H7 a7 => ?_
            have e2 : ((markAll kn (some false) way).map bV).set x (V.bl false) = (markAll kn (some false) (way ++ [x])).map bV := by rw [emk, List.map_set]; rfl
            rw [e2]
            have f7 := Ex.mut (o := .lst ((markAll kn (some false) (way ++ [x])).map bV)) ((d1.trans a6).trans a7) hl
            have hw7 : (upd H7 l (.lst ((markAll kn (some false) (way ++ [x])).map bV))) wl = some (.lst (way.map natV)) := by
              rw [upd_ne wll]; exact a7 _ _ (a6 _ _ d3)
            refine q_app (K := K) (v := natV x) hw7 (ev_var rfl) (ev_var rfl) (by rw [List.length_map]; omega) fun H8 a8 => ?_
            have f8 := Ex.mut (o := .lst (way.map natV ++ [natV x])) (f7.trans a8) wl0
            refine s_asg (ev_op (ev_var rfl) (ev_var rfl) (rv_ixL (ex_l f8 hS) (at_of (j := x) rfl (sign_at hx)))) fun H9 a9 => ?_
            refine ⟨way ++ [x], nx s x, U2, .inl ?_, by rw [List.length_append]; rfl, rfl, f8.trans a9, a9 _ _ ?_, a9 _ _ ?_⟩
            · rcases hway with h | ⟨h, h2⟩
              · exact List.mem_append_left _ h
              · rw [Option.some.inj h2]; exact List.mem_append_right _ (List.mem_singleton.mpr rfl)
            · rw [upd_ne wll.symm]
              exact a8 _ _ upd_same
            · rw [upd_same, List.map_append]; rfl
        | some v =>
          have fin : v = true → x ∉ way ∧ kn[x]? = some (some true) := by
            intro hv
            rw [markAll_get _ _ _ _ (by rw [M.len]; exact hx)] at ho
            by_cases c : x ∈ way
            · rw [if_pos c, hv] at ho; cases ho
            · rw [if_neg c] at ho
              exact ⟨c, by rw [ho, hv]⟩
          have fin2 : v = false → x ∈ way ∨ ¬ Reach s g x := by
            intro hv
            rw [markAll_get _ _ _ _ (by rw [M.len]; exact hx)] at ho
            by_cases c : x ∈ way
            · exact .inl c
            · rw [if_neg c, hv] at ho
              exact .inr (M.no x ho)
          have imark2 : ∀ v2 : Bool, (markAll kn (some v2) way)[i]? ≠ some none := by
            intro v2
            rcases hway with h | ⟨h, h2⟩
            · exact imark v2 h
            · subst h
              rw [← Option.some.inj h2]
              have ho' : kn[x]? = some (some v) := ho
              show kn[x]? ≠ some none
              rw [ho']
              intro z; cases z
          refine ⟨false, et_is (et_and (et_test (ev_op (ev_var rfl) ev_c rv_notN)) fun _ => et_test (ev_op (ixE (Ex.refl _)) ev_c rv_isN)) rfl, (fun z => nomatch z), fun _ H6 a6 => ?_⟩
          refine s_when (b := v) (et_is (et_and (b := v) (et_test (ev_op (ev_var rfl) ev_c rv_notN)) fun _ => et_tr (ixE a6) fun H7 _ => rfl) rfl) (fun hv H7 a7 => ?_) fun hv H7 a7 => ?_
          · obtain ⟨hxw, hxk2⟩ := fin hv
            refine s_forLn' (K := K) way natV (ev_var rfl) (sq_of (a7 _ _ (a6 _ _ d3)))
              (fun j σ3 H8 => Ex H H8 ∧ H8 l = some (.lst ((markAll (markAll kn (some false) way) (some true) (way.take j)).map bV)) ∧ H8 wl = some (.lst (way.map natV)) ∧ ∃ u, σ3 = [some (.ref a), some (natV g), some (.ref l), some (natV i), some (.ref wl), some (natV x), u])
              (fun H8 a8 => ⟨((d1.trans a6).trans a7).trans a8, a8 _ _ (a7 _ _ (a6 _ _ d2)), a8 _ _ (a7 _ _ (a6 _ _ d3)), _, rfl⟩) (fun j σ3 H8 _ p => sq_of p.2.2.1) ?_ ?_
            · rintro j q σ3 H8 hq ⟨g1, g2, g3, u', rfl⟩
              have hqm : q ∈ way := List.mem_of_getElem? hq
              have hql : q < kn.length := (List.getElem?_eq_some_iff.mp (U.unk q hqm)).1
              refine s_setL (j := q) (v := .bl true) g2 ev_c (ev_var rfl) (ev_var rfl) (by rw [List.length_map, markAll_len, mk]; exact hql) fun H9 a9 => ?_
              have e2 : ((markAll (markAll kn (some false) way) (some true) (way.take j)).map bV).set q (V.bl true) = (markAll (markAll kn (some false) way) (some true) (way.take (j + 1))).map bV := by
                rw [List.take_succ, hq]
                show _ = (markAll (markAll kn (some false) way) (some true) (way.take j ++ [q])).map bV
                rw [markAll_snoc, List.map_set]; rfl
              rw [e2]
              exact ⟨Ex.mut (g1.trans a9) hl, upd_same, by rw [upd_ne wll]; exact a9 _ _ g3, _, rfl⟩
            · rintro σ3 H8 ⟨g1, g2, g3, u', rfl⟩
              rw [List.take_length, marks_mark kn way (fun q hq => (List.getElem?_eq_some_iff.mp (U.unk q hq)).1)] at g2
              exact last true _ _ (fun q hq => ⟨fun _ => U.all_reach (M.yes x hxk2) q hq, fun z => nomatch z⟩) (imark2 true) g1 g2 ⟨_, _, _, _, rfl⟩
          · exact last false _ _ (fun q hq => ⟨(fun z => nomatch z), fun _ => U.none_reach M (fun b e => by cases e; exact fin2 hv) q hq⟩) (imark2 false) ((d1.trans a6).trans a7) (a7 _ _ (a6 _ _ d2)) ⟨_, _, _, _, rfl⟩
    · rintro σ' H' ⟨kn, x, y, z, u, M, hm, c1, c2, rfl⟩
      refine s_ret (ev_var rfl) fun H3 a3 => k _ _ (c1.trans a3) ⟨l, rfl, hl, ?_⟩
      rw [a3 _ _ c2, marks_done M fun q hq => hm q (by omega)]

end
end Sg
namespace Sg
set_option autoImplicit false
open PySem L2 Evl Big
open PyProof.Rows (envOfC)
section
variable {P : Program} {w : World} {K : PySem.W.Frag} {mg : Str → Option Value} {base : Heap} {ad : Ads}
theorem bit_tru (n e : Nat) : (Builtin.bitAnd ((n : Int) / 2 ^ ((e : Nat) : Int).toNat) 1 != 0) = n.testBit e := by
  have e1 : ((e : Nat) : Int).toNat = e := rfl
  have e2 : Builtin.bitAnd ((n : Int) / 2 ^ e) 1 = ((n : Int) / 2 ^ e) % 2 := by
    have z := Bits.bitAnd_mask (x := (n : Int) / 2 ^ e) 1 (Int.ediv_nonneg (by omega) (Int.le_of_lt (Int.pow_pos (by decide))))
    simpa using z
  rw [e1, e2, Nat.testBit_eq_decide_div_mod_eq]
  have e3 : ((n : Int) / 2 ^ e) % 2 = ((n / 2 ^ e % 2 : Nat) : Int) := by
    simp
  rw [e3]
  have h2 := Nat.mod_lt (n / 2 ^ e) (show 0 < 2 by decide)
  generalize n / 2 ^ e % 2 = m at h2
  match m, h2 with
  | 0, _ => rfl
  | 1, _ => rfl
theorem et_bit {σ : L2.St} {H : Hp} {ta tb : TE} {n e : Nat} (h1 : Ev ta σ H (natV n)) (h2 : Ev tb σ H (natV e)) : EvT (tTr K (tOp (rI0 fun i j => .int (Builtin.bitAnd i j)) (tOp (rI (fun _ j => 0 ≤ j) fun i j => .int (i / 2 ^ j.toNat)) ta tb) (tC (.int 1)))) σ H (n.testBit e) :=
  et_tr (ev_op (ev_op h1 h2 (rv_I (C := fun _ j => 0 ≤ j) (by omega))) ev_c rv_I0) fun H1 _ => (bit_tru n e).symm
def joinedF (l : List Nat) (s e : Nat) : List Nat := if (l.getD s 0).testBit e then l else l.map fun b => if b.testBit s then b ||| l.getD e 0 else b
theorem joined_len (l : List Nat) (s e : Nat) : (joinedF l s e).length = l.length := by
  unfold joinedF
  split
  · rfl
  · rw [List.length_map]
theorem nat_at {l : List Nat} {s : Nat} (h : s < l.length) : (l.map natV)[s]? = some (natV (l.getD s 0)) := by
  rw [List.getElem?_map, List.getD_eq_getElem?_getD, List.getElem?_eq_getElem h]
  rfl
def JoinAt (H : Hp) (a : Addr) (l : List Nat) (s e : Nat) (v : V) (H' : Hp) : Prop := ∃ r, v = .ref r ∧ ((r = a ∧ joinedF l s e = l) ∨ (H r = none ∧ H' r = some (.lst ((joinedF l s e).map natV))))
theorem JoinAt.back {H H1 H2 : Hp} {a : Addr} {l : List Nat} {s e : Nat} {v : V} (x : Ex H H1) (h : JoinAt H1 a l s e v H2) : JoinAt H a l s e v H2 := by
  obtain ⟨r, h1, h2⟩ := h
  exact ⟨r, h1, h2.elim .inl fun z => .inr ⟨fresh_back x z.1, z.2⟩⟩
def sp_joined (K : PySem.W.Frag) : Sp := fun vs H Q _ => ∃ a l s e, vs = [.ref a, natV s, natV e] ∧ SqL K H a (l.map natV) ∧ s < l.length ∧ e < l.length ∧ l.length ≤ 1000 ∧ Give H (JoinAt H a l s e) Q
theorem ok_joined (T : Txt K mg ad) : C8.Cal P w K mg base 1 "joined" (sp_joined K) [] := by
  refine cal_of T.d_joined sc_joined (fun _ _ _ _ _ _ us hl => match us, hl with | [_, _, _], _ => rfl) (fun vs H Q E h => ?_) (fun f cdv A outer st H vs Q E hr h => ?_)
  · obtain ⟨a, l, s, e, rfl, _⟩ := h; rfl
  · obtain ⟨a, l, s, e, rfl, hS, hs, he, hl, k⟩ := h
    refine ⟨_, (pss_cons (ps_if (k_tru K (pe_op op_and (pe_op op_shr (pe_ix (k_list K) (pv 0) (pv 1) (fun _ _ => rfl)) (pv 2)) pe_int)) (pss_one (ps_ret (pv 0))) pss_nil)
  (pss_cons (ps_set (i := 3) sc_joined.nd rfl (Or.inr rfl) (pe_ix (k_list K) (pv 0) (pv 2) (fun _ _ => rfl)))
  (pss_one (ps_ret (pe_lc (own := [("bits", 4)]) (g := _) (tt := tYes) rfl sc_joined.nd (k_il K (pv 0)) (blkOk_by (N := N_joined) (sc := C8.fnScope st_joined) (by decide +kernel)) (fun _ _ _ _ _ => (pg_name (i := 4) sc_joined.nd rfl (Or.inl rfl))) (fun _ _ _ _ _ => pts_nil) (fun _ _ _ _ _ => (pe_ifExp (k_tru K (pe_op op_and (pe_op op_shr (pv 4) (pv 1)) pe_int)) (pe_op op_or (pv 4) (pv 3)) (pv 4)))))))), ?_⟩
    refine q_when (et_bit (n := l.getD s 0) (ev_op (ev_var rfl) (ev_var rfl) (rv_ixL hS (at_of (j := s) rfl (nat_at hs)))) (ev_var rfl)) (fun hb H1 a1 => s_ret (ev_var rfl) fun H2 a2 => k _ _ (a1.trans a2) ⟨a, rfl, .inl ⟨rfl, if_pos hb⟩⟩) fun hb H1 a1 => ?_
    · refine q_asg (ev_op (ev_var rfl) (ev_var rfl) (rv_ixL (ex_l a1 hS) (at_of (j := e) rfl (nat_at he)))) fun H2 a2 => ?_
      have a12 := a1.trans a2
      refine s_retL (xs := (joinedF l s e).map natV) ?_ fun p H3 hp a3 h3 => k _ _ (a12.trans a3) ⟨p, rfl, .inr ⟨fresh_back a12 hp, h3⟩⟩
      rw [show joinedF l s e = l.map fun b => if b.testBit s then b ||| l.getD e 0 else b from if_neg (by rw [hb]; decide), List.map_map]
      refine el_mapL (j := 4) l natV _ (ev_var rfl) (ex_l a12 hS) (by omega) fun b hm H3 a3 => ?_
      refine ev_if (et_bit (n := b) (ev_var rfl) (ev_var rfl)) (fun hb => ?_) fun hb => ?_
      · refine ev_is (ev_op (ev_var rfl) (ev_var rfl) rv_I0) ?_
        show V.int (Builtin.bitOr (b : Int) (l.getD e 0 : Nat)) = natV (if b.testBit s then b ||| l.getD e 0 else b)
        rw [Bits.bitOr_pp (by omega) (by omega), if_pos hb]
        rfl
      · refine ev_is (ev_var rfl) ?_
        show natV b = natV (if b.testBit s then b ||| l.getD e 0 else b)
        rw [if_neg (by rw [hb]; decide)]

end
end Sg
namespace Sg
set_option autoImplicit false
open PySem L2 Evl Big
open PyProof.Rows (envOfC)
section
variable {P : Program} {w : World} {K : PySem.W.Frag} {mg : Str → Option Value} {base : Heap} {ad : Ads}
/-- p reaches q, as the bits tell -/
def Rch (l : List Nat) (p q : Nat) : Prop := (l.getD p 0).testBit q = true
structure Closed (n : Nat) (l : List Nat) : Prop where
  len : l.length = n
  self : ∀ p, p < n → Rch l p p
  tr : ∀ p q r, Rch l p q → Rch l q r → Rch l p r
  lt : ∀ p q, Rch l p q → q < n
theorem rch_lt {l : List Nat} {p q : Nat} (h : Rch l p q) : p < l.length := by
  by_cases c : p < l.length
  · exact c
  · unfold Rch at h
    rw [List.getD_eq_getElem?_getD, List.getElem?_eq_none (by omega)] at h
    simp at h
theorem joined_iff {l : List Nat} {s e : Nat} (h : ¬ Rch l s e) (p q : Nat) : Rch (joinedF l s e) p q ↔ Rch l p q ∨ (Rch l p s ∧ Rch l e q) := by
  have h' : ¬ (l.getD s 0).testBit e = true := h
  unfold joinedF
  rw [if_neg h']
  unfold Rch
  by_cases c : p < l.length
  · have g := List.getElem?_eq_getElem c
    have e1 : (l.map fun b => if b.testBit s = true then b ||| l.getD e 0 else b).getD p 0 = if (l.getD p 0).testBit s = true then l.getD p 0 ||| l.getD e 0 else l.getD p 0 := by
      simp [List.getD_eq_getElem?_getD, g]
    rw [e1]
    by_cases d : (l.getD p 0).testBit s = true
    · rw [if_pos d, Nat.testBit_or, Bool.or_eq_true]
      exact ⟨fun z => z.elim .inl fun z => .inr ⟨d, z⟩, fun z => z.elim .inl fun z => .inr z.2⟩
    · rw [if_neg d]
      exact ⟨.inl, fun z => z.elim id fun z => absurd z.1 d⟩
  · have g := List.getElem?_eq_none (show l.length ≤ p by omega)
    simp [List.getD_eq_getElem?_getD, g]
theorem joined_closed {n : Nat} {l : List Nat} {s e : Nat} (C : Closed n l) (he : e < n) : Closed n (joinedF l s e) := by
  by_cases h : Rch l s e
  · have : joinedF l s e = l := if_pos h
    rw [this]; exact C
  · have J := joined_iff h
    refine ⟨by rw [joined_len]; exact C.len, fun p hp => (J p p).mpr (.inl (C.self p hp)), fun p q r h1 h2 => ?_, fun p q h1 => ?_⟩
    · rw [J] at h1 h2 ⊢
      rcases h1 with h1 | ⟨h1, h1'⟩
      · rcases h2 with h2 | ⟨h2, h2'⟩
        · exact .inl (C.tr _ _ _ h1 h2)
        · exact .inr ⟨C.tr _ _ _ h1 h2, h2'⟩
      · rcases h2 with h2 | ⟨h2, h2'⟩
        · exact .inr ⟨h1, C.tr _ _ _ h1' h2⟩
        · exact .inr ⟨h1, h2'⟩
    · rcases (J p q).mp h1 with h1 | ⟨_, h1⟩
      · exact C.lt _ _ h1
      · exact C.lt _ _ h1
theorem joined_grows {l : List Nat} {s e p q : Nat} (h : Rch l p q) : Rch (joinedF l s e) p q := by
  by_cases c : Rch l s e
  · have : joinedF l s e = l := if_pos c
    rw [this]; exact h
  · exact (joined_iff c p q).mpr (.inl h)
theorem joined_has {n : Nat} {l : List Nat} {s e : Nat} (C : Closed n l) (hs : s < n) (he : e < n) : Rch (joinedF l s e) s e := by
  by_cases c : Rch l s e
  · have : joinedF l s e = l := if_pos c
    rw [this]; exact c
  · exact (joined_iff c s e).mpr (.inr ⟨C.self s hs, C.self e he⟩)
/-- each place by itself -/
theorem closed_start (n : Nat) : Closed n ((List.range n).map fun p => 1 <<< p) := by
  have get : ∀ p q, Rch ((List.range n).map fun p => 1 <<< p) p q ↔ p < n ∧ p = q := by
    intro p q
    unfold Rch
    by_cases c : p < n
    · rw [List.getD_eq_getElem?_getD, List.getElem?_map, List.getElem?_range c]
      show (1 <<< p).testBit q = true ↔ _
      rw [Nat.one_shiftLeft, Nat.testBit_two_pow]
      simp [c]
    · rw [List.getD_eq_getElem?_getD, List.getElem?_map, List.getElem?_eq_none (by rw [List.length_range]; omega)]
      simp [c]
  refine ⟨by simp, fun p hp => (get p p).mpr ⟨hp, rfl⟩, fun p q r h1 h2 => ?_, fun p q h1 => ?_⟩
  · obtain ⟨a, rfl⟩ := (get _ _).mp h1
    exact h2
  · obtain ⟨a, rfl⟩ := (get _ _).mp h1
    exact a

end
end Sg
namespace Sg
set_option autoImplicit false
open PySem L2 Evl Big
open PyProof.Rows (envOfC)
section
variable {P : Program} {w : World} {K : PySem.W.Frag} {mg : Str → Option Value} {base : Heap} {ad : Ads}
theorem tru_list {H : Hp} {a : Addr} {xs : List V} (h : SqL K H a xs) : TruV K (.ref a) H (!xs.isEmpty) := .inl ⟨xs, h, rfl⟩
/-- empty lists made so far -/
def Nw (H : Hp) (Dl : Addr) (i : Nat) (H' : Hp) : Prop := H Dl = none ∧ Ex H H' ∧ ∃ as : List Addr, H' Dl = some (.lst (as.map V.ref)) ∧ as.length = i ∧ as.Nodup ∧ ∀ a ∈ as, a ≠ Dl ∧ H a = none ∧ H' a = some (.lst [])
/-- [[] for _ in range(n)] -/
theorem evp_news {σ : L2.St} {H : Hp} {ta : TA} {j : Nat} {n : Int} (h : EvA ta σ H [.int n]) (hn : -40000 ≤ n ∧ n ≤ 40000) :
    EvP (tLc (iRng1 ta) (gName j) tYes (tLst tNil) [j]) σ H (fun v H2 => ∃ Dl, ∃ as : List Addr, v = .ref Dl ∧ H Dl = none ∧ H2 Dl = some (.lst (as.map V.ref)) ∧ as.length = n.toNat ∧ as.Nodup ∧ ∀ a ∈ as, a ≠ Dl ∧ H a = none ∧ H2 a = some (.lst [])) := by
  intro H0 e Q q
  refine h H0 e _ fun H1 e1 => ⟨n, rfl, by omega, by omega, fun Dl hD => ?_⟩
  refine lc_range (lo := 0) (n := n.toNat) (Nw H1 Dl) ⟨hD, Ex.new hD, [], upd_same, rfl, List.nodup_nil, fun a ha => by cases ha⟩ (fun i H' hi p => ?_) (fun H' p => ?_)
  · refine ⟨wipe1 σ j _, ?_⟩
    refine et_yes H' (Ex.refl _) _ fun H3 e3 => ?_
    rw [if_pos rfl]
    have p' : Nw H1 Dl i H3 := by
      obtain ⟨p1, p2, as, p3, p4, p5, p6⟩ := p
      exact ⟨p1, p2.trans e3, as, e3 _ _ p3, p4, p5, fun a ha => ⟨(p6 a ha).1, (p6 a ha).2.1, e3 _ _ (p6 a ha).2.2⟩⟩
    clear p
    obtain ⟨p1, p2, as, p3, p4, p5, p6⟩ := p'
    refine el_lst (vs := []) ea_nil (by decide) H3 (Ex.refl _) _ fun r H4 hr e4 h4 => ⟨as.map V.ref, e4 _ _ p3, sz_lt (by rw [List.length_map]; omega), p1, Ex.mut (p2.trans e4) p1, as ++ [r], by rw [upd_same, List.map_append]; rfl, by rw [List.length_append, p4]; rfl, ?_, fun a ha => ?_⟩
    · rw [List.nodup_append]
      refine ⟨p5, by simp, fun x hx y hy z => ?_⟩
      rw [List.mem_singleton] at hy
      subst hy; subst z
      rw [(p6 x hx).2.2] at hr
      cases hr
    · have rD : r ≠ Dl := (ne_of_none p3 hr).symm
      rcases List.mem_append.mp ha with ha | ha
      · obtain ⟨z1, z2, z3⟩ := p6 a ha
        exact ⟨z1, z2, by rw [upd_ne z1]; exact e4 _ _ z3⟩
      · rw [List.mem_singleton] at ha
        subst ha
        exact ⟨rD, fresh_back p2 hr, by rw [upd_ne rD]; exact h4⟩
  · obtain ⟨p1, p2, as, p3, p4, p5, p6⟩ := p
    exact q _ H' (e1.trans p2) ⟨Dl, as, rfl, fresh_back (e.trans e1) p1, p3, p4, p5, fun a ha => ⟨(p6 a ha).1, fresh_back (e.trans e1) (p6 a ha).2.1, (p6 a ha).2.2⟩⟩
/-- a way at its place -/
abbrev Wn := Addr × Way
def wnV (q : Wn) : V := .ref q.1
def WnAt (H : Hp) (q : Wn) : Prop := H q.1 = some (.tup [natV q.2.1, natV q.2.2.1, natV q.2.2.2])
def wUp (q : Wn) : Hq.Wy := (q.1, ((q.2.1 : Nat) : Int), ((q.2.2.1 : Nat) : Int), ((q.2.2.2 : Nat) : Int))
def wDn (q : Hq.Wy) : Way := (q.2.1.toNat, q.2.2.1.toNat, q.2.2.2.toNat)
theorem wDn_up (q : Wn) : wDn (wUp q) = q.2 := rfl
theorem wUp_at {H : Hp} {q : Wn} (h : WnAt H q) : Hq.WyAt H (wUp q) := h
theorem wUp_lt {a b : Wn} (h : Hq.ltW (wUp a) (wUp b) = false) : ltN a.2 b.2 = false := by
  obtain ⟨x, k, p, q⟩ := a
  obtain ⟨y, k', p', q'⟩ := b
  unfold Hq.ltW Hq.lt3 at h
  unfold ltN
  simp only [wUp] at h
  simp only [Int.natCast_inj, Int.ofNat_lt] at h
  exact h
theorem filter_split {α : Type} {p q r : α → Bool} : ∀ (l : List α), (∀ x ∈ l, p x = (q x || r x)) → (∀ x ∈ l, ¬ (q x = true ∧ r x = true)) → (l.filter p).length = (l.filter q).length + (l.filter r).length
  | [], _, _ => rfl
  | a :: l, h, hd => by
    have ih := filter_split l (fun x hx => h x (List.mem_cons_of_mem _ hx)) (fun x hx => hd x (List.mem_cons_of_mem _ hx))
    have h0 := h a List.mem_cons_self
    have d0 := hd a List.mem_cons_self
    rw [List.filter_cons, List.filter_cons, List.filter_cons, h0]
    cases c1 : q a with
    | true =>
      cases c2 : r a with
      | true => exact absurd ⟨c1, c2⟩ d0
      | false => simp only [Bool.true_or, if_true, List.length_cons, Bool.false_eq_true, if_false, ih]; omega
    | false =>
      cases c2 : r a with
      | true => simp only [Bool.false_or, if_true, List.length_cons, Bool.false_eq_true, if_false, ih]; omega
      | false => simp only [Bool.or_false, Bool.false_eq_true, if_false, ih]

end
end Sg
namespace Sg
set_option autoImplicit false
open PySem L2 Evl Big
open PyProof.Rows (envOfC)
section
variable {P : Program} {w : World} {K : PySem.W.Frag} {mg : Str → Option Value} {base : Heap} {ad : Ads}
section
variable {α : Type} {σ : L2.St} {H : Hp} {a : Addr} {tl te : TE} {t : TT} {tu tz : TS} {D : Ends} {i j m : Nat}
/-- [a tuple for x, y in xs if ..] -/
theorem evp_tups2 (hij : i ≠ j) (l : List α) (f g1 g2 : α → V) (p : α → Bool) (F : α → List V) (h : Ev tl σ H (.ref a)) (hx : SqL K H a (l.map f)) (hz : l.length ≤ 40000) (hf : ∀ x ∈ l, ∃ t, f x = .ref t ∧ SqT K H t [g1 x, g2 x])
    (ht : ∀ x ∈ l, ∀ H1, Ex H H1 → EvT t (((wipe σ [i, j]).set i (some (g1 x))).set j (some (g2 x))) H1 (p x)) (he : ∀ x ∈ l, ∀ H1, Ex H H1 → p x = true → EvU te (((wipe σ [i, j]).set i (some (g1 x))).set j (some (g2 x))) H1 (F x)) :
    EvP (tLc (iList K tl) (gTup K 2 (gCons (gName i) (gCons (gName j) gNil))) t te [i, j]) σ H (fun v H2 => ∃ Dl, ∃ ks : List (Addr × α), v = .ref Dl ∧ H Dl = none ∧ H2 Dl = some (.lst (ks.map fun q => V.ref q.1)) ∧ ks.map (·.2) = l.filter p ∧ ∀ q ∈ ks, q.1 ≠ Dl ∧ H q.1 = none ∧ H2 q.1 = some (.tup (F q.2))) :=
  evp_tups l f p F (fun x => ((wipe σ [i, j]).set i (some (g1 x))).set j (some (g2 x))) h hx hz (fun x hm H1 e k kk => by
    obtain ⟨t, e1, e2⟩ := hf x hm
    exact ⟨t, _, e1, ex_t e e2, rfl, _, _, rfl, _, _, rfl, rfl, kk⟩) (fun x => wipe2 σ hij _ _) ht he
/-- [e for x, y in xs if ..] -/
theorem el_filt2 (hij : i ≠ j) (l : List α) (f g1 g2 : α → V) (p : α → Bool) (F : α → V) (h : Ev tl σ H (.ref a)) (hx : SqL K H a (l.map f)) (hz : l.length ≤ 40000) (hf : ∀ x ∈ l, ∃ t, f x = .ref t ∧ SqT K H t [g1 x, g2 x])
    (ht : ∀ x ∈ l, ∀ H1, Ex H H1 → EvT t (((wipe σ [i, j]).set i (some (g1 x))).set j (some (g2 x))) H1 (p x)) (he : ∀ x ∈ l, ∀ H1, Ex H H1 → p x = true → Ev te (((wipe σ [i, j]).set i (some (g1 x))).set j (some (g2 x))) H1 (F x)) :
    EvL (tLc (iList K tl) (gTup K 2 (gCons (gName i) (gCons (gName j) gNil))) t te [i, j]) σ H ((l.filter p).map F) := by
  rw [← given_is l p F l.length rfl]
  intro H0 e Q q
  refine h H0 e _ fun H1 e1 => ⟨a, rfl, ⟨_, ex_l (e.trans e1) hx⟩, fun Dl hD => ?_⟩
  refine lc_list (xs := l.map f) (Cw H1 (fun k => (l[k]?.map p).getD false) (fun k => (l[k]?.map F).getD .non) Dl) ⟨hD, Ex.new hD, upd_same⟩ (fun k H' _ pv => ex_l ((e.trans e1).trans pv.2.1) hx) (fun k x H2 hk pv => ?_) (fun H' pv => ?_)
  · rw [List.getElem?_map] at hk
    obtain ⟨z, e2, rfl⟩ := Option.map_eq_some_iff.mp hk
    have hm := List.mem_of_getElem? e2
    obtain ⟨t, e3, e4⟩ := hf z hm
    have hkl := (List.getElem?_eq_some_iff.mp e2).1
    refine ⟨t, _, e3, ex_t ((e.trans e1).trans pv.2.1) e4, rfl, _, _, rfl, _, _, rfl, rfl, ?_⟩
    refine ⟨wipe2 σ hij _ _, cw_turn pv (by omega) ?_ (fun hf => ?_)⟩
    · rw [e2]
      exact ht z hm H1 (e.trans e1)
    · rw [e2] at hf ⊢
      exact he z hm H1 (e.trans e1) hf
  · rw [List.length_map] at pv
    exact q Dl H' (fresh_back e1 pv.1) (e1.trans pv.2.1) pv.2.2
theorem el_map2 (hij : i ≠ j) (l : List α) (f g1 g2 : α → V) (F : α → V) (h : Ev tl σ H (.ref a)) (hx : SqL K H a (l.map f)) (hz : l.length ≤ 40000) (hf : ∀ x ∈ l, ∃ t, f x = .ref t ∧ SqT K H t [g1 x, g2 x])
    (he : ∀ x ∈ l, ∀ H1, Ex H H1 → Ev te (((wipe σ [i, j]).set i (some (g1 x))).set j (some (g2 x))) H1 (F x)) :
    EvL (tLc (iList K tl) (gTup K 2 (gCons (gName i) (gCons (gName j) gNil))) tYes te [i, j]) σ H (l.map F) := by
  have q := el_filt2 (t := tYes) (te := te) hij l f g1 g2 (fun _ => true) F h hx hz hf (fun _ _ _ _ => et_yes) fun x hm H1 e _ => he x hm H1 e
  rwa [filter_yes] at q
/-- for x, y in xs -/
theorem s_for2 (l : List α) (f g1 g2 : α → V) (h : Ev tl σ H (.ref a)) (hx : SqL K H a (l.map f)) (Pv : Nat → L2.St → Hp → Prop) (h0 : ∀ H1, Ex H H1 → Pv 0 σ H1) (hl : ∀ k σ' H', k ≤ l.length → Pv k σ' H' → SqL K H' a (l.map f))
    (ht : ∀ (k : Nat) x σ' H', l[k]? = some x → Pv k σ' H' → ∃ t, f x = .ref t ∧ SqT K H' t [g1 x, g2 x])
    (hs : ∀ (k : Nat) x σ' H', l[k]? = some x → Pv k σ' H' → tu { D with nx := Pv (k + 1), ct := Pv (k + 1), bk := D.nx } ((σ'.set i (some (g1 x))).set j (some (g2 x))) H') (hd : ∀ σ' H', Pv l.length σ' H' → D.nx σ' H') :
    tFor (iList K tl) (gTup K 2 (gCons (gName i) (gCons (gName j) gNil))) tu D σ H := by
  refine s_forL h hx Pv h0 (fun k σ' H' hk => hl k σ' H' (by rwa [List.length_map] at hk)) (fun k x σ' H' hk p => ?_) (by rwa [List.length_map])
  rw [List.getElem?_map] at hk
  obtain ⟨z, e2, rfl⟩ := Option.map_eq_some_iff.mp hk
  obtain ⟨t, e3, e4⟩ := ht k z σ' H' e2 p
  exact ⟨t, _, e3, e4, rfl, _, _, rfl, _, _, rfl, rfl, hs k z σ' H' e2 p⟩
theorem q_for2 (l : List α) (f g1 g2 : α → V) (h : Ev tl σ H (.ref a)) (hx : SqL K H a (l.map f)) (Pv : Nat → L2.St → Hp → Prop) (h0 : ∀ H1, Ex H H1 → Pv 0 σ H1) (hl : ∀ k σ' H', k ≤ l.length → Pv k σ' H' → SqL K H' a (l.map f))
    (ht : ∀ (k : Nat) x σ' H', l[k]? = some x → Pv k σ' H' → ∃ t, f x = .ref t ∧ SqT K H' t [g1 x, g2 x])
    (hs : ∀ (k : Nat) x σ' H', l[k]? = some x → Pv k σ' H' → tu { D with nx := Pv (k + 1), ct := Pv (k + 1), bk := tz D } ((σ'.set i (some (g1 x))).set j (some (g2 x))) H') (hd : ∀ σ' H', Pv l.length σ' H' → tz D σ' H') :
    tSeq (tFor (iList K tl) (gTup K 2 (gCons (gName i) (gCons (gName j) gNil))) tu) tz D σ H :=
  s_for2 (D := { D with nx := tz D }) l f g1 g2 h hx Pv h0 hl ht hs hd
/-- for x, y, z in xs -/
theorem q_for3 (l : List α) (f g1 g2 g3 : α → V) (h : Ev tl σ H (.ref a)) (hx : SqL K H a (l.map f)) (Pv : Nat → L2.St → Hp → Prop) (h0 : ∀ H1, Ex H H1 → Pv 0 σ H1) (hl : ∀ k σ' H', k ≤ l.length → Pv k σ' H' → SqL K H' a (l.map f))
    (ht : ∀ (k : Nat) x σ' H', l[k]? = some x → Pv k σ' H' → ∃ t, f x = .ref t ∧ SqT K H' t [g1 x, g2 x, g3 x])
    (hs : ∀ (k : Nat) x σ' H', l[k]? = some x → Pv k σ' H' → tu { D with nx := Pv (k + 1), ct := Pv (k + 1), bk := tz D } (((σ'.set i (some (g1 x))).set j (some (g2 x))).set m (some (g3 x))) H') (hd : ∀ σ' H', Pv l.length σ' H' → tz D σ' H') :
    tSeq (tFor (iList K tl) (gTup K 3 (gCons (gName i) (gCons (gName j) (gCons (gName m) gNil)))) tu) tz D σ H := by
  refine q_forL h hx Pv h0 (fun k σ' H' hk => hl k σ' H' (by rwa [List.length_map] at hk)) (fun k x σ' H' hk p => ?_) (by rwa [List.length_map])
  rw [List.getElem?_map] at hk
  obtain ⟨z, e2, rfl⟩ := Option.map_eq_some_iff.mp hk
  obtain ⟨t, e3, e4⟩ := ht k z σ' H' e2 p
  exact ⟨t, _, e3, e4, rfl, _, _, rfl, _, _, rfl, _, _, rfl, rfl, hs k z σ' H' e2 p⟩
/-- return (a, b, ..), some of it made for it -/
theorem s_retTup {ta : TA} {P : List V → Hp → Prop} (h : EvAP ta σ H P) (hl : ∀ vs H1, P vs H1 → vs.length ≤ 100) (k : ∀ vs H1 p, Ex H H1 → P vs H1 → H1 p = none → D.rt (.ref p) (upd H1 p (.tup vs))) : tRet (tTup ta) D σ H := h H (Ex.refl H) _ fun vs H1 e hp =>
  ⟨sz_of (by have := hl vs H1 hp; omega), fun p hn => k vs H1 p e hp hn⟩
end
/-- a heap without two of its objects -/
def hid (H : Hp) (a b : Addr) : Hp := fun x => if x = a ∨ x = b then none else H x
theorem hid_ex {H : Hp} {a b : Addr} : Ex (hid H a b) H := fun x o h => by
  unfold hid at h
  split at h
  · cases h
  · exact h
theorem hid_a {H : Hp} {a b : Addr} : hid H a b a = none := if_pos (.inl rfl)
theorem hid_b {H : Hp} {a b : Addr} : hid H a b b = none := if_pos (.inr rfl)
theorem hid_of {G H : Hp} {a b : Addr} (e : Ex G H) (ga : G a = none) (gb : G b = none) : Ex G (hid H a b) := fun x o h => by
  unfold hid
  rw [if_neg]
  · exact e x o h
  · rintro (z | z)
    · rw [z, ga] at h; cases h
    · rw [z, gb] at h; cases h
theorem hid_get {H : Hp} {a b x : Addr} {o : HO} (h : H x = some o) (ha : x ≠ a) (hb : x ≠ b) : hid H a b x = some o := by
  unfold hid
  rw [if_neg]
  · exact h
  · rintro (z | z)
    · exact ha z
    · exact hb z
/-- roads at their places, as pairs of places -/
def rdN (rs : List (Int × Int)) : List (Nat × Nat) := rs.map fun p => (p.1.toNat, p.2.toNat)
abbrev Rn := Addr × (Nat × Nat)
def rnV (q : Rn) : V := .ref q.1
theorem roadsN {H : Hp} {r : Addr} {n h : Int} {rs : List (Int × Int)} (hR : RoadsAt K H r rs) (L : LandOk' n h rs) : ∃ ks : List Rn, SqL K H r (ks.map rnV) ∧ (∀ q ∈ ks, SqT K H q.1 [natV q.2.1, natV q.2.2]) ∧ ks.map (·.2) = rdN rs := by
  obtain ⟨ks, k1, k2, k3⟩ := hR
  refine ⟨ks.map fun q => (q.1, ((q.2.getD 0 0).toNat, (q.2.getD 1 0).toNat)), by rw [List.map_map]; exact k1, fun q hq => ?_, ?_⟩
  · obtain ⟨x, hx, rfl⟩ := List.mem_map.mp hq
    have m : x.2 ∈ rs.map fun q => [q.1, q.2] := by rw [← k3]; exact List.mem_map.mpr ⟨x, hx, rfl⟩
    obtain ⟨p, hp, e⟩ := List.mem_map.mp m
    have h2 := k2 x hx
    obtain ⟨b1, b2, b3, b4, _⟩ := L.rd p hp
    rw [← e] at h2
    show SqT K H x.1 [natV (x.2.getD 0 0).toNat, natV (x.2.getD 1 0).toNat]
    rw [← e]
    have e1 : natV p.1.toNat = V.int p.1 := by unfold natV; congr 1; omega
    have e2 : natV p.2.toNat = V.int p.2 := by unfold natV; congr 1; omega
    show SqT K H x.1 [natV p.1.toNat, natV p.2.toNat]
    rw [e1, e2]
    exact h2
  · have : (ks.map (·.2)).map (fun q => ((q.getD 0 0).toNat, (q.getD 1 0).toNat)) = (rs.map fun q => [q.1, q.2]).map (fun q => ((q.getD 0 0).toNat, (q.getD 1 0).toNat)) := by rw [k3]
    rw [List.map_map, List.map_map] at this
    rw [List.map_map]
    exact this
theorem mem_rdN {n h : Int} {rs : List (Int × Int)} (L : LandOk' n h rs) {p q : Nat} : (p, q) ∈ rdN rs ↔ ((p : Int), (q : Int)) ∈ rs := by
  unfold rdN
  rw [List.mem_map]
  constructor
  · rintro ⟨x, hx, e⟩
    obtain ⟨b1, b2, b3, b4, _⟩ := L.rd x hx
    injection e with e1 e2
    have : x = ((p : Int), (q : Int)) := by
      obtain ⟨x1, x2⟩ := x
      simp only at e1 e2 b1 b3
      rw [← e1, ← e2, Int.toNat_of_nonneg b1, Int.toNat_of_nonneg b3]
    rw [← this]; exact hx
  · intro hx
    exact ⟨_, hx, rfl⟩
theorem rdN_lt {n h : Int} {rs : List (Int × Int)} (L : LandOk' n h rs) {p q : Nat} (m : (p, q) ∈ rdN rs) : p < n.toNat ∧ q < n.toNat := by
  obtain ⟨b1, b2, b3, b4, _⟩ := L.rd _ ((mem_rdN L).mp m)
  simp only at b1 b2 b3 b4
  omega

end
end Sg
namespace Sg
set_option autoImplicit false
open PySem L2 Evl Big
open PyProof.Rows (envOfC)
section
variable {P : Program} {w : World} {K : PySem.W.Frag} {mg : Str → Option Value} {base : Heap} {ad : Ads}
def sp_law_truths (K : PySem.W.Frag) : Sp := fun vs H Q _ => ∃ (a : Addr) (bs : List Bool), vs = [.ref a] ∧ SqL K H a (bs.map V.bl) ∧ bs.length ≤ 40000 ∧ RetV (.bl true) H Q
end
end Sg
namespace Sg
set_option autoImplicit false
open PySem L2 Evl Big
open PyProof.Rows (envOfC)
section
variable {P : Program} {w : World} {K : PySem.W.Frag} {mg : Str → Option Value} {base : Heap} {ad : Ads}
/-- a number, None, or a list of things that are asked for one step further down -/
def sp_plain1 (K : PySem.W.Frag) (sp' : Sp) : Sp := fun vs H Q _ => ∃ v, vs = [v] ∧ ((v = .non ∨ ∃ i, v = .int i) ∨ ∃ a xs, v = .ref a ∧ SqL K H a xs ∧ xs.length ≤ 40000 ∧ ∀ x ∈ xs, ∀ H1, Ex H H1 → ∀ Q E, RetV (.bl true) H1 Q → sp' [x] H1 Q E) ∧ RetV (.bl true) H Q
def spPlain (K : PySem.W.Frag) : Nat → Sp
  | 0 => fun _ _ _ _ => False
  | d + 1 => sp_plain1 K (spPlain K d)
end
end Sg
namespace Sg
set_option autoImplicit false
open PySem L2 Evl Big
open PyProof.Rows (envOfC)
section
variable {P : Program} {w : World} {K : PySem.W.Frag} {mg : Str → Option Value} {base : Heap} {ad : Ads}
theorem ev_isC {σ : L2.St} {H : Hp} {te : TE} {x dx C D : Addr} {fs : List (Str × V)} {b : Bool} (h : Ev te σ H (.ref x)) (hx : H x = some (.ins C dx fs)) (c : Cls K C) (o : OwnTy K C) (ki : PySem.W.kitOne K (.ref C) (.ref D) = some b) :
    Ev (tCB (rIsi K) (tCons te (tCons (tC (.ref D)) tNil))) σ H (.bl b) := fun H1 e Q q =>
  h H1 e _ fun H2 e2 => ⟨.ref x, .ref D, _, _, b, rfl, .own D, .base (.ins (e2 _ _ (e _ _ hx)) c o.ha o.hn o.htk o.hm), ki, q H2 e2⟩
/-- of several readings one -/
def tAlt (t u : TE) : TE := fun σ H Q => t σ H Q ∨ u σ H Q
theorem pe_alt {X : Cx} {e : Expr} {t u : TE} (h1 : PE X e t) (h2 : PE X e u) : PE X e (tAlt t u) := ⟨fun pins s σ H Q I h => h.elim (h1.run pins s σ H Q I) (h2.run pins s σ H Q I)⟩
theorem ev_alt1 {σ : L2.St} {H : Hp} {t u : TE} {v : V} (h : Ev t σ H v) : Ev (tAlt t u) σ H v := fun H1 e Q q => .inl (h H1 e Q q)
theorem ev_alt2 {σ : L2.St} {H : Hp} {t u : TE} {v : V} (h : Ev u σ H v) : Ev (tAlt t u) σ H v := fun H1 e Q q => .inr (h H1 e Q q)
/-- an if with an else, and one going-on for both -/
theorem q_ifK {t : TT} {tu tw tz : TS} {D : Ends} {σ : L2.St} {H : Hp} {b : Bool} (M : L2.St → Hp → Prop) (h : EvT t σ H b) (h1 : (∀ σ' H', M σ' H' → tz D σ' H') → b = true → ∀ H1, Ex H H1 → tu { D with nx := tz D } σ H1) (h2 : (∀ σ' H', M σ' H' → tz D σ' H') → b = false → ∀ H1, Ex H H1 → tw { D with nx := tz D } σ H1) (k : ∀ σ' H', M σ' H' → tz D σ' H') : tSeq (tIfS t tu tw) tz D σ H :=
  q_if h (h1 k) (h2 k)
/-- o.m(..), o new or not -/
theorem ev_methP {σ : L2.St} {H : Hp} {C : Addr} {m : Str} {sp : Sp} {E : XK} {te : TE} {ta : TA} {vs : List V} {z : V} {Post : V → Hp → Prop} (h : EvP te σ H Post) (hp : ∀ v H1, Ex H H1 → Post v H1 → ∃ x dx fs, v = .ref x ∧ H1 x = some (.ins C dx fs) ∧ fs.lookup m = none ∧ EvA ta σ H1 vs ∧ SpV sp (.ref x :: vs) H1 z) : Ev (tMeth C m sp [] E te ta) σ H z := fun H1 e Q q =>
  h H1 e _ fun v H2 e2 pv => by
    obtain ⟨x, dx, fs, rfl, hx, hl, ha, hs⟩ := hp v H2 (e.trans e2) pv
    refine ⟨x, dx, fs, rfl, hx, hl, ha H2 (Ex.refl _) _ fun H3 e3 => ?_⟩
    rw [List.append_nil]
    exact hs H3 e3 Q (fun H4 e4 => q H4 ((e2.trans e3).trans e4)) E
theorem ev_methV {σ : L2.St} {H : Hp} {C x dx : Addr} {fs : List (Str × V)} {m : Str} {sp : Sp} {E : XK} {te : TE} {ta : TA} {vs : List V} {z : V} (h : Ev te σ H (.ref x)) (hx : H x = some (.ins C dx fs)) (hl : fs.lookup m = none) (ha : EvA ta σ H vs) (hs : SpV sp (.ref x :: vs) H z) : Ev (tMeth C m sp [] E te ta) σ H z :=
  ev_methP (Post := fun v _ => v = .ref x) (evp_of h fun _ _ => rfl) fun v H1 e ev => ⟨x, dx, fs, ev, e _ _ hx, hl, ha.mono e, fun H2 e2 => hs H2 (e.trans e2)⟩
/-- xs + (a list made for it) -/
theorem el_plus {σ : L2.St} {H : Hp} {ta tb : TE} {l : Addr} {xs ys : List V} (ha : Ev ta σ H (.ref l)) (hl : H l = some (.lst xs)) (hb : EvL tb σ H ys) (hz : xs.length + ys.length ≤ 100000) : EvL (tOp rCat ta tb) σ H (xs ++ ys) := fun H1 e Q q =>
  ha H1 e _ fun H2 e2 => hb H2 (e.trans e2) _ fun p H3 _ e3 hp => ⟨l, p, xs, ys, rfl, rfl, (e.trans (e2.trans e3)) _ _ hl, hp, sz_of hz, fun r hr => q r _ (fresh_back (e2.trans e3) hr) ((e2.trans e3).trans (Ex.new hr)) upd_same⟩
/-- a list some of whose things are made for it -/
theorem evp_lstA {σ : L2.St} {H : Hp} {ta : TA} {P : List V → Hp → Prop} (h : EvAP ta σ H P) (hm : ∀ vs H1 H2, Ex H1 H2 → P vs H1 → P vs H2) (hl : ∀ vs H1, P vs H1 → vs.length ≤ 100000) : EvP (tLst ta) σ H (fun v H2 => ∃ r vs, v = .ref r ∧ H r = none ∧ H2 r = some (.lst vs) ∧ P vs H2) := fun H1 e Q q =>
  h H1 e _ fun vs H2 e2 p => ⟨sz_of (hl _ _ p), fun r hr => q _ _ (e2.trans (Ex.new hr)) ⟨r, vs, rfl, fresh_back (e.trans e2) hr, upd_same, hm _ _ _ (Ex.new hr) p⟩⟩
/-- numbers, None, lists of such, so deep -/
def PlainV (K : PySem.W.Frag) (H : Hp) : Nat → V → Prop
  | 0, v => v = .non ∨ ∃ i, v = .int i
  | d + 1, v => (v = .non ∨ ∃ i, v = .int i) ∨ ∃ a xs, v = .ref a ∧ SqL K H a xs ∧ xs.length ≤ 40000 ∧ ∀ x ∈ xs, PlainV K H d x
theorem PlainV.mono {H H' : Hp} (e : Ex H H') : ∀ {d : Nat} {v : V}, PlainV K H d v → PlainV K H' d v
  | 0, _, h => h
  | d + 1, _, .inl h => .inl h
  | d + 1, _, .inr ⟨a, xs, h1, h2, h3, h4⟩ => .inr ⟨a, xs, h1, ex_l e h2, h3, fun x hx => (h4 x hx).mono e⟩
theorem PlainV.flat {H : Hp} {v : V} (h : PlainV K H 0 v) : ∀ d, PlainV K H d v
  | 0 => h
  | d + 1 => .inl h
theorem PlainV.up {H : Hp} : ∀ {d : Nat} {v : V}, PlainV K H d v → PlainV K H (d + 1) v
  | 0, _, h => .inl h
  | d + 1, _, .inl h => .inl h
  | d + 1, _, .inr ⟨a, xs, h1, h2, h3, h4⟩ => .inr ⟨a, xs, h1, h2, h3, fun x hx => (h4 x hx).up⟩
theorem plain_nats {H : Hp} {a : Addr} {l : List Nat} (h : SqL K H a (l.map natV)) (hl : l.length ≤ 40000) : PlainV K H 1 (.ref a) := .inr ⟨a, _, rfl, h, by rw [List.length_map]; exact hl, fun x hx => by
  obtain ⟨i, _, rfl⟩ := List.mem_map.mp hx
  exact .inr ⟨_, rfl⟩⟩
theorem plain_signs {H : Hp} {a : Addr} {s : List (Option Nat)} (h : SqL K H a (s.map nV)) (hl : s.length ≤ 40000) : PlainV K H 1 (.ref a) := .inr ⟨a, _, rfl, h, by rw [List.length_map]; exact hl, fun x hx => by
  obtain ⟨o, _, rfl⟩ := List.mem_map.mp hx
  cases o
  · exact .inl rfl
  · exact .inr ⟨_, rfl⟩⟩
theorem spPlain_of : ∀ {d : Nat} {v : V} {H : Hp} {Q : VK} {E : XK}, PlainV K H d v → RetV (.bl true) H Q → spPlain K (d + 1) [v] H Q E
  | 0, v, H, Q, E, h, k => ⟨v, rfl, .inl h, k⟩
  | d + 1, v, H, Q, E, .inl h, k => ⟨v, rfl, .inl h, k⟩
  | d + 1, v, H, Q, E, .inr ⟨a, xs, h1, h2, h3, h4⟩, k => ⟨v, rfl, .inr ⟨a, xs, h1, h2, h3, fun x hx H1 e Q2 E2 k2 => spPlain_of ((h4 x hx).mono e) k2⟩, k⟩
/-- what has been found so far, a list that grows -/
structure Fnd (K : PySem.W.Frag) (H0 : Hp) (fa : Addr) (xs : List V) (G H' : Hp) : Prop where
  ex0 : Ex H0 G
  gf : G fa = none
  ex : Ex G H'
  at_ : H' fa = some (.lst xs)
  pl : ∀ v ∈ xs, PlainV K G 2 v
theorem Fnd.mono {H0 G H' H2 : Hp} {fa : Addr} {xs : List V} (e : Ex H' H2) (f : Fnd K H0 fa xs G H') : Fnd K H0 fa xs G H2 := { f with ex := f.ex.trans e, at_ := e _ _ f.at_ }
theorem Fnd.grow {H0 G H' : Hp} {fa : Addr} {xs : List V} (f : Fnd K H0 fa xs G H') : Fnd K H0 fa xs (hid H' fa fa) H' ∧ Ex G (hid H' fa fa) := by
  have e := hid_of f.ex f.gf f.gf
  exact ⟨{ f with ex0 := f.ex0.trans e, gf := hid_a, ex := hid_ex, pl := fun v hv => (f.pl v hv).mono e }, e⟩
theorem Fnd.push {H0 G H' : Hp} {fa : Addr} {xs : List V} {v : V} (f : Fnd K H0 fa xs G H') (hv : PlainV K G 2 v) : Fnd K H0 fa (xs ++ [v]) G (upd H' fa (.lst (xs ++ [v]))) :=
  { f with ex := Ex.mut f.ex f.gf, at_ := upd_same, pl := fun u hu => (List.mem_append.mp hu).elim (f.pl u) fun hu => by rw [List.mem_singleton.mp hu]; exact hv }
/-- a new list -/
theorem Fnd.new {H0 H' : Hp} {fa : Addr} {xs : List V} (e : Ex H0 H') (h0 : H0 fa = none) (h : H' fa = some (.lst xs)) (hp : ∀ v ∈ xs, PlainV K (hid H' fa fa) 2 v) : Fnd K H0 fa xs (hid H' fa fa) H' := ⟨hid_of e h0 h0, hid_a, hid_ex, h, hp⟩
theorem eap_pp {σ : L2.St} {H : Hp} {t1 t2 : TE} {P1 : V → Hp → Prop} {P2 : Hp → V → Hp → Prop} (h1 : EvP t1 σ H P1) (h2 : ∀ H1, Ex H H1 → EvP t2 σ H1 (P2 H1)) : EvAP (tCons t1 (tCons t2 tNil)) σ H (fun vs H' => ∃ v w Hm, vs = [v, w] ∧ Ex H Hm ∧ P1 v Hm ∧ Ex Hm H' ∧ P2 Hm w H') := fun H1 e Q q =>
  h1 H1 e _ fun v H2 e2 p1 => h2 H2 (e.trans e2) H2 (Ex.refl _) _ fun w H3 e3 p2 => q _ _ (e2.trans e3) ⟨v, w, H2, rfl, e.trans e2, p1, e3, p2⟩
theorem eap_ll {σ : L2.St} {H : Hp} {t1 t2 : TE} {xs ys : List V} (h1 : EvL t1 σ H xs) (h2 : EvL t2 σ H ys) : EvAP (tCons t1 (tCons t2 tNil)) σ H (fun vs H' => ∃ p q, vs = [.ref p, .ref q] ∧ H p = none ∧ H q = none ∧ p ≠ q ∧ H' p = some (.lst xs) ∧ H' q = some (.lst ys)) := fun H1 e Q k =>
  h1 H1 e _ fun p H2 hp e2 hp2 => h2 H2 (e.trans e2) _ fun q H3 hq e3 hq3 => k _ _ (e2.trans e3) ⟨p, q, rfl, fresh_back e hp, fresh_back (e.trans e2) hq, ne_of_none hp2 hq, e3 _ _ hp2, hq3⟩

end
end Sg
namespace Sg
set_option autoImplicit false
open PySem L2 Evl Big
open PyProof.Rows (envOfC)
section
variable {P : Program} {w : World} {K : PySem.W.Frag} {mg : Str → Option Value} {base : Heap} {ad : Ads}
def sp_need_land (K : PySem.W.Frag) : Sp := fun vs H Q _ => ∃ v d, vs = [v] ∧ Da K H v d ∧ landD d = true ∧ RetV .non H Q
theorem ok_need_land (T : Txt K mg ad) : C8.Cal P w K mg base 6 "need_land" (sp_need_land K) [] := by
  have c_is_land : C8.Cal P w K mg base 5 "is_land" (sp_is_land K) [] := ok_is_land T
  refine cal_of T.d_need_land sc_need_land (fun _ _ _ _ _ _ us hl => match us, hl with | [_], _ => rfl) (fun vs H Q E h => ?_) (fun f cdv A outer s H vs Q E hr h => ?_)
  · obtain ⟨v, d, rfl, _⟩ := h; rfl
  · obtain ⟨v, d, rfl, hd, hb, k⟩ := h
    refine ⟨_, (pss_one (ps_if (pt_not (pt_val (C8.pe_c c_is_land hr (by decide) rfl (pa_cons (pv 0) pa_nil)))) (pss_one ps_never) pss_nil)), ?_⟩
    exact s_when (b := false) (et_is (et_not (et_B (ev_call (ea_cons (ev_var rfl) ea_nil) fun H1 a Q q E => ⟨v, d, rfl, hd.mono a, q⟩))) (by rw [hb]; rfl)) (fun z => nomatch z) fun _ H1 a1 => k H1 a1
def sp_need_signs (K : PySem.W.Frag) : Sp := fun vs H Q _ => ∃ lv n h rs v d, vs = [lv, v] ∧ LandAt K H lv n h rs ∧ 0 ≤ h ∧ h < n ∧ rs.length ≤ 300 ∧ Da K H v d ∧ signsD n h rs d = true ∧ RetV .non H Q
theorem ok_need_signs (T : Txt K mg ad) : C8.Cal P w K mg base 4 "need_signs" (sp_need_signs K) [] := by
  have c_are_signs : C8.Cal P w K mg base 3 "are_signs" (sp_are_signs K) [] := ok_are_signs T
  refine cal_of T.d_need_signs sc_need_signs (fun _ _ _ _ _ _ us hl => match us, hl with | [_, _], _ => rfl) (fun vs H Q E h => ?_) (fun f cdv A outer s H vs Q E hr h => ?_)
  · obtain ⟨lv, n, h, rs, v, d, rfl, _⟩ := h; rfl
  · obtain ⟨lv, n, h, rs, v, d, rfl, hL, h0, hn, hrs, hd, hb, k⟩ := h
    refine ⟨_, (pss_one (ps_if (pt_not (pt_val (C8.pe_c c_are_signs hr (by decide) rfl (pa_cons (pv 0) (pa_cons (pv 1) pa_nil))))) (pss_one ps_never) pss_nil)), ?_⟩
    exact s_when (b := false) (et_is (et_not (et_B (ev_call (ea_cons (ev_var rfl) (ea_cons (ev_var rfl) ea_nil)) fun H1 a Q q E => ⟨lv, n, h, rs, v, d, rfl, hL.mono a, h0, hn, hrs, hd.mono a, q⟩))) (by rw [hb]; rfl)) (fun z => nomatch z) fun _ H1 a1 => k H1 a1
def sp_need_place (K : PySem.W.Frag) : Sp := fun vs H Q _ => ∃ lv n h rs v d, vs = [lv, v] ∧ LandAt K H lv n h rs ∧ Da K H v d ∧ placeD n d = true ∧ RetV .non H Q
theorem ok_need_place (T : Txt K mg ad) : C8.Cal P w K mg base 3 "need_place" (sp_need_place K) [] := by
  have c_is_place : C8.Cal P w K mg base 2 "is_place" (sp_is_place K) [] := ok_is_place T
  refine cal_of T.d_need_place sc_need_place (fun _ _ _ _ _ _ us hl => match us, hl with | [_, _], _ => rfl) (fun vs H Q E h => ?_) (fun f cdv A outer s H vs Q E hr h => ?_)
  · obtain ⟨lv, n, h, rs, v, d, rfl, _⟩ := h; rfl
  · obtain ⟨lv, n, h, rs, v, d, rfl, hL, hd, hb, k⟩ := h
    obtain ⟨la, r, rfl, hT, hR⟩ := hL.ex
    refine ⟨_, (pss_one (ps_if (pt_not (pt_val (C8.pe_c c_is_place hr (by decide) rfl (pa_cons (pe_ix (k_tup K) (pv 0) pe_int (fun _ _ => rfl)) (pa_cons (pv 1) pa_nil))))) (pss_one ps_never) pss_nil)), ?_⟩
    exact s_when (b := false) (et_is (et_not (et_B (ev_call (ea_cons (ev_op (ev_var rfl) ev_c (rv_ixT hT (atI_nat (j := 0) rfl))) (ea_cons (ev_var rfl) ea_nil)) fun H1 a Q q E => ⟨n, v, d, rfl, hd.mono a, q⟩))) (by rw [hb]; rfl)) (fun z => nomatch z) fun _ H1 a1 => k H1 a1
def sp_need_walk (K : PySem.W.Frag) : Sp := fun vs H Q _ => ∃ lv sv n h rs s p, vs = [lv, sv, .int p] ∧ Given K H lv sv n h rs s ∧ 0 ≤ p ∧ p < n ∧ RetV .non H Q
theorem ok_need_walk (T : Txt K mg ad) : C8.Cal P w K mg base 7 "need_walk" (sp_need_walk K) [] := by
  have c_need_land : C8.Cal P w K mg base 6 "need_land" (sp_need_land K) [] := ok_need_land T
  have c_need_signs : C8.Cal P w K mg base 4 "need_signs" (sp_need_signs K) [] := ok_need_signs T
  have c_need_place : C8.Cal P w K mg base 3 "need_place" (sp_need_place K) [] := ok_need_place T
  refine cal_of T.d_need_walk sc_need_walk (fun _ _ _ _ _ _ us hl => match us, hl with | [_, _, _], _ => rfl) (fun vs H Q E h => ?_) (fun f cdv A outer s H vs Q E hr h => ?_)
  · obtain ⟨lv, sv, n, h, rs, s, p, rfl, _⟩ := h; rfl
  · obtain ⟨lv, sv, n, h, rs, s, p, rfl, g, p0, pn, k⟩ := h
    obtain ⟨sa, rfl, hS⟩ := g.signs
    have L := g.ok.all
    refine ⟨_, (pss_cons (ps_expr (C8.pe_c c_need_land hr (by decide) rfl (pa_cons (pv 0) pa_nil)))
  (pss_cons (ps_expr (C8.pe_c c_need_signs hr (by decide) rfl (pa_cons (pv 0) (pa_cons (pv 1) pa_nil))))
  (pss_one (ps_expr (C8.pe_c c_need_place hr (by decide) rfl (pa_cons (pv 0) (pa_cons (pv 2) pa_nil))))))), ?_⟩
    refine q_drop (ev_call (ea_cons (ev_var rfl) ea_nil) fun H1 a Q q E => ⟨_, _, rfl, g.land.da.mono a, g.ok, q⟩) fun H1 a1 => ?_
    refine q_drop (ev_call (ea_cons (ev_var rfl) (ea_cons (ev_var rfl) ea_nil)) fun H2 a Q q E => ⟨_, n, h, rs, _, _, rfl, g.land.mono (a1.trans a), L.h0, L.hn, by have := L.few; omega, (da_signs hS).mono (a1.trans a), g.sok, q⟩) fun H2 a2 => ?_
    refine s_drop (ev_call (ea_cons (ev_var rfl) (ea_cons (ev_var rfl) ea_nil)) fun H3 a Q q E => ⟨_, n, h, rs, _, _, rfl, g.land.mono ((a1.trans a2).trans a), .int p, ?_, q⟩) fun H3 a3 => k H3 ((a1.trans a2).trans a3)
    simp only [placeD, Bool.and_eq_true, decide_eq_true_eq]
    exact ⟨p0, pn⟩

end
end Sg
namespace Sg
set_option autoImplicit false
open PySem L2 Evl Big
open PyProof.Rows (envOfC)
section
variable {P : Program} {w : World} {K : PySem.W.Frag} {mg : Str → Option Value} {base : Heap} {ad : Ads}
noncomputable def comers (s : List (Option Nat)) (g : Nat) : List Nat := (List.range s.length).filter (reachB s g)
theorem given_comers (s : List (Option Nat)) (g : Nat) : given ((List.range s.length).map (reachB s g)).length (fun k => (((List.range s.length).map (reachB s g))[k]?.map fun b => b).getD false) (fun k => (((List.range s.length).map (reachB s g))[k]?.map fun _ => natV k).getD .non) = (comers s g).map natV := by
  rw [List.length_map, List.length_range]
  have z := filter_map_range (List.range s.length) (reachB s g) natV (fun k => (((List.range s.length).map (reachB s g))[k]?.map fun b => b).getD false) (fun k => (((List.range s.length).map (reachB s g))[k]?.map fun _ => natV k).getD .non) fun i x e => by
    have hi : i < s.length := by
      have := (List.getElem?_eq_some_iff.mp e).1
      simpa using this
    have ex : i = x := by
      rw [List.getElem?_range hi] at e
      exact Option.some.inj e
    subst ex
    rw [List.getElem?_map, e]
    exact ⟨rfl, rfl⟩
  rw [List.length_range] at z
  exact z
def sp_places_coming (K : PySem.W.Frag) : Sp := fun vs H Q _ => ∃ a s n g, vs = [.ref a, natV g] ∧ SqL K H a (s.map nV) ∧ Wf n s ∧ g < n ∧ n ≤ 1000 ∧ RetL ((comers s g).map natV) H Q
theorem ok_places_coming (T : Txt K mg ad) : C8.Cal P w K mg base 2 "places_coming" (sp_places_coming K) [] := by
  have c_coming : C8.Cal P w K mg base 1 "coming" (sp_coming K) [] := ok_coming T
  refine cal_of T.d_places_coming sc_places_coming (fun _ _ _ _ _ _ us hl => match us, hl with | [_, _], _ => rfl) (fun vs H Q E h => ?_) (fun f cdv A outer st H vs Q E hr h => ?_)
  · obtain ⟨a, s, n, g, rfl, _⟩ := h; rfl
  · obtain ⟨a, s, n, g, rfl, hS, w0, hg, hn, k⟩ := h
    refine ⟨_, (pss_one (ps_ret (pe_lc (own := [("place", 2), ("comes", 3)]) (g := _) (tt := _) rfl sc_places_coming.nd (pi_enum rfl T.n_enumerate (pa_cons (C8.pe_c c_coming hr (by decide) rfl (pa_cons (pv 0) (pa_cons (pv 1) pa_nil))) pa_nil)) (blkOk_by (N := N_places_coming) (sc := C8.fnScope st_places_coming) (by decide +kernel)) (fun _ _ _ _ _ => (k_gt K (n := 2) (by rfl) (pgs_cons (pg_name (i := 2) sc_places_coming.nd rfl (Or.inl rfl)) (pgs_cons (pg_name (i := 3) sc_places_coming.nd rfl (Or.inl rfl)) pgs_nil)))) (fun _ _ _ _ _ => (pts_one (k_tru K (pv 3)))) (fun _ _ _ _ _ => (pv 2))))), ?_⟩
    have q := el_enum (K := K) (σ := start N_places_coming [.ref a, natV g]) (H := H) (i1 := 2) (i2 := 3) (by decide) ((List.range s.length).map (reachB s g)) V.bl (fun _ b => b) (fun k _ => natV k) (Post := fun _ _ => True)
      (ta := tCons (tCall (sp_coming K) [] C8.E0 (tCons (tVar 0) (tCons (tVar 1) tNil))) tNil) (t := tTr K (tVar 3)) (te := tVar 2)
      (fun H1 e1 Q q => evp_call (Post := ComingAt H s g) (ea_cons (ev_var rfl) (ea_cons (ev_var rfl) ea_nil)) (fun H2 e2 Q2 q2 E => ⟨a, s, n, g, rfl, ex_l e2 hS, w0, hg, hn, fun v H3 e3 p => q2 v H3 e3 (by
        obtain ⟨l, h1, h2, h3⟩ := p
        exact ⟨l, h1, fresh_back e2 h2, h3⟩)⟩) H1 e1 _ fun v H2 e2 ⟨l, h1, h2, h3⟩ => by
          subst h1
          refine q l H2 e2 (sq_of ?_)
          rw [h3, List.map_map]
          rfl)
      (by simp; have := w0.len; omega) (fun k x _ H1 e1 => et_tr (ev_var rfl) fun H2 _ => rfl) (fun k x _ H1 e1 _ => ev_var rfl)
    rw [given_comers] at q
    exact s_retL q fun p H1 hp e h1 => k p H1 hp e h1

end
end Sg
namespace Sg
set_option autoImplicit false
open PySem L2 Evl Big
open PyProof.Rows (envOfC)
section
variable {P : Program} {w : World} {K : PySem.W.Frag} {mg : Str → Option Value} {base : Heap} {ad : Ads}
def sp_home_from (K : PySem.W.Frag) : Sp := fun vs H Q _ => ∃ lv sv n h rs s, vs = [lv, sv] ∧ Given K H lv sv n h rs s ∧ RetL ((comers s h.toNat).map natV) H Q
theorem ok_home_from (T : Txt K mg ad) : C8.Cal P w K mg base 7 "home_from" (sp_home_from K) [] := by
  have c_need_land : C8.Cal P w K mg base 6 "need_land" (sp_need_land K) [] := ok_need_land T
  have c_need_signs : C8.Cal P w K mg base 4 "need_signs" (sp_need_signs K) [] := ok_need_signs T
  have c_places_coming : C8.Cal P w K mg base 2 "places_coming" (sp_places_coming K) [] := ok_places_coming T
  refine cal_of T.d_home_from sc_home_from (fun _ _ _ _ _ _ us hl => match us, hl with | [_, _], _ => rfl) (fun vs H Q E h => ?_) (fun f cdv A outer st H vs Q E hr h => ?_)
  · obtain ⟨lv, sv, n, h, rs, s, rfl, _⟩ := h; rfl
  · obtain ⟨lv, sv, n, h, rs, s, rfl, g, k⟩ := h
    refine ⟨_, (pss_cons (ps_expr (C8.pe_c c_need_land hr (by decide) rfl (pa_cons (pv 0) pa_nil)))
  (pss_cons (ps_expr (C8.pe_c c_need_signs hr (by decide) rfl (pa_cons (pv 0) (pa_cons (pv 1) pa_nil))))
  (pss_one (ps_ret (C8.pe_c c_places_coming hr (by decide) rfl (pa_cons (pv 1) (pa_cons (pe_ix (k_tup K) (pv 0) pe_int (fun _ _ => rfl)) pa_nil))))))), ?_⟩
    have L := g.ok.all
    have S := g.sok.all
    have l1 := L.h0
    have l2 := L.hn
    have l3 := L.n40
    obtain ⟨sa, rfl, hS⟩ := g.signs
    refine q_drop (ev_call (ea_cons (ev_var rfl) ea_nil) fun H1 a Q q E => ⟨_, _, rfl, g.land.da.mono a, g.ok, q⟩) fun H1 a1 => ?_
    refine q_drop (ev_call (ea_cons (ev_var rfl) (ea_cons (ev_var rfl) ea_nil)) fun H2 a Q q E => ⟨_, n, h, rs, _, _, rfl, g.land.mono (a1.trans a), L.h0, L.hn, by have := L.few; omega, (da_signs hS).mono (a1.trans a), g.sok, q⟩) fun H2 a2 => ?_
    have a12 := a1.trans a2
    obtain ⟨la, r, rfl, hT, hR⟩ := g.land.ex
    have hh : V.int h = natV h.toNat := by unfold natV; congr 1; omega
    refine s_retL (el_call (ea_cons (ev_var rfl) (ea_cons (ev_is (ev_op (ev_var rfl) ev_c (rv_ixT (ex_t a12 hT) (atI_nat (j := 1) rfl))) hh) ea_nil)) fun H3 a Q q E => ⟨sa, s, n.toNat, h.toNat, rfl, ex_l (a12.trans a) hS, S.wf, by omega, by omega, q⟩) fun p H3 hp a3 h3 => k p H3 (fresh_back a12 hp) (a12.trans a3) h3

end
end Sg
namespace Sg
set_option autoImplicit false
open PySem L2 Evl Big
open PyProof.Rows (envOfC)
section
variable {P : Program} {w : World} {K : PySem.W.Frag} {mg : Str → Option Value} {base : Heap} {ad : Ads}
def sp_Home_init (K : PySem.W.Frag) (C : Addr) (f : Str) : Sp := fun vs H Q _ => ∃ x dx v d, vs = [.ref x, v] ∧ H x = some (.ins C dx []) ∧ Da K H v d ∧ isT "list" d = false ∧
  ∀ H3, (∀ b o, b ≠ x → H b = some o → H3 b = some o) → H3 x = some (.ins C dx (putF f v [])) → Q .non H3
theorem init1_of {H : Hp} {C : Addr} {f : Str} {v : V} {d : PyData} (hd : Da K H v d) (hf : isT "list" d = false) : SpInit1 (sp_Home_init K C f) C f [v] H (fun fv _ => fv = v) := fun H1 e x dx Q E _ hx k =>
  ⟨x, dx, v, d, rfl, hx, hd.mono e, hf, fun H3 a b => k H3 v a b rfl⟩
theorem ok_Home_init (T : Txt K mg ad) : C8.Mak P w K mg base 2 "Home" ad.Home (sp_Home_init K ad.Home "steps") [] := by
  have c_copied : C8.Cal P w K mg base 1 "copied" (sp_copied K) [] := ok_copied T
  refine mak_of T.mk_Home sc_Home_init (fun _ _ _ _ _ _ us hl => match us, hl with | [_, _], _ => rfl) (fun vs H Q E h => ?_) (fun f cdv A outer st H vs Q E hr h => ?_)
  · obtain ⟨x, dx, v, d, rfl, _⟩ := h; rfl
  · obtain ⟨x, dx, v, d, rfl, hx, hd, hf, k⟩ := h
    refine ⟨_, (pss_one (ps_fld (pv 0) (C8.pe_c c_copied hr (by decide) rfl (pa_cons (pv 1) pa_nil)) rfl)), ?_⟩
    refine s_fld1 rfl hx T.cl_Home T.no_Home_steps (evp_of (ev_call (ea_cons (ev_var rfl) ea_nil) fun H1 a Q q E => ⟨v, rfl, .inl ⟨d, hd.mono a, hf, q⟩⟩) (Post := fun u _ => u = v) fun _ _ => rfl) fun u H1 e hu => ?_
    subst hu
    exact k _ (fun b o hb q => by rw [upd_ne hb]; exact e _ _ q) upd_same
def isIntD (j : Int) : PyData → Bool
  | .int i => decide (i = j)
  | _ => false
def homeB (s : List (Option Nat)) (p : Nat) (h : Int) (d : PyData) : Bool :=
  decide ((lastP (walkd s p).1 : Int) = h) && isIntD (((walkd s p).1.length : Int) - 1) d
/-- asked: an answer of one field, a land, signs, a place -/
structure Asked (K : PySem.W.Frag) (H : Hp) (C : Addr) (f : Str) (vs : List V) (x : Addr) (d : PyData) (n h : Int) (rs : List (Int × Int)) (s : List (Option Nat)) (p : Nat) : Prop where
  ex : ∃ lv a dx fv, vs = [.ref x, lv, .ref a, natV p] ∧ H x = some (.ins C dx (putF f fv [])) ∧ Da K H fv d ∧ LandAt K H lv n h rs ∧ SqL K H a (s.map nV)
  wf : Wf s.length s
  lt : p < s.length
  few : s.length ≤ 1000
theorem Asked.mono {H H' : Hp} {C : Addr} {f : Str} {vs : List V} {x : Addr} {d : PyData} {n h : Int} {rs : List (Int × Int)} {s : List (Option Nat)} {p : Nat} (e : Ex H H') (q : Asked K H C f vs x d n h rs s p) : Asked K H' C f vs x d n h rs s p := by
  obtain ⟨⟨lv, a, dx, fv, h1, h2, h3, h4, h5⟩, w1, w2, w3⟩ := q
  exact ⟨⟨lv, a, dx, fv, h1, e _ _ h2, h3.mono e, h4.mono e, ex_l e h5⟩, w1, w2, w3⟩
def sp_shows1 (K : PySem.W.Frag) (C : Addr) (f : Str) (g : List (Option Nat) → Nat → Int → PyData → Bool) : Sp := fun vs H Q _ => ∃ x d n h rs s p, Asked K H C f vs x d n h rs s p ∧ RetV (.bl (g s p h d)) H Q
theorem evp_walked {σ : L2.St} {H : Hp} {i j : Nat} {a : Addr} {s : List (Option Nat)} {p : Nat} (h1 : σ[i]? = some (some (.ref a))) (h2 : σ[j]? = some (some (natV p))) (hS : SqL K H a (s.map nV)) (w : Wf s.length s) (hp : p < s.length) (hn : s.length ≤ 1000) :
    EvP (tCall (sp_walked K) [] C8.E0 (tCons (tVar i) (tCons (tVar j) tNil))) σ H (WalkedAt H s p) :=
  evp_call (ea_cons (ev_var h1) (ea_cons (ev_var h2) ea_nil)) fun H1 e Q q E => ⟨a, s, _, p, rfl, ex_l e hS, w, hp, hn, fun v H2 e2 ⟨t, l, z1, z2, z3, z4, z5⟩ => q v H2 e2 ⟨t, l, z1, fresh_back e z2, fresh_back e z3, z4, z5⟩⟩
theorem ok_Home_shows (T : Txt K mg ad) : C8.Met P w K mg base 2 ad.Home "shows" (sp_shows1 K ad.Home "steps" homeB) [] := by
  have c_walked : C8.Cal P w K mg base 1 "walked" (sp_walked K) [] := ok_walked T
  have c_is_number : C8.Cal P w K mg base 1 "is_number" (sp_is_number K) [] := ok_is_number T
  refine met_of T.cl_Home T.mt_Home_shows sc_Home_shows (fun _ _ _ _ _ _ us hl => match us, hl with | [_, _, _, _], _ => rfl) (fun vs H Q E h => ?_) (fun f cdv A outer st H vs Q E hr h => ?_)
  · obtain ⟨x, d, n, h, rs, s, p, ⟨⟨lv, a, dx, fv, rfl, _⟩, _⟩, _⟩ := h; rfl
  · obtain ⟨x, d, n, h, rs, s, p, ⟨⟨lv, a, dx, fv, rfl, hx, hd, hL, hS⟩, w0, hp, hn⟩, k⟩ := h
    obtain ⟨la, r, rfl, hT, hR⟩ := hL.ex
    refine ⟨_, (pss_cons (ps_asg (C8.pe_c c_walked hr (by decide) rfl (pa_cons (pv 2) (pa_cons (pv 3) pa_nil))) (k_gt K (n := 2) (by rfl) (pgs_cons (pg_name (i := 4) sc_Home_shows.nd rfl (Or.inl rfl)) (pgs_cons (pg_name (i := 5) sc_Home_shows.nd rfl (Or.inl rfl)) pgs_nil))))
  (pss_cons (ps_if (pt_cmpR op_ne (pe_ix (k_list K) (pv 4) (pe_un un_neg pe_int) (fun _ _ => rfl)) (pe_ix (k_tup K) (pv 1) pe_int (fun _ _ => rfl)) (nomark _)) (pss_one (ps_ret pe_bl)) pss_nil)
  (pss_one (ps_ret (pe_and (C8.pe_c c_is_number hr (by decide) rfl (pa_cons (k_fld K (pv 0)) pa_nil)) (pe_one (pe_cmpR op_eq (k_fld K (pv 0)) (pe_op op_sub (pe_callB (k_len K) (by rfl) T.n_len PySem.boot_len (pa_cons (pv 4) pa_nil)) pe_int) (nomark _)))))))), ?_⟩
    have W := walkd_spec w0 hp
    refine q_unp2 (evp_walked rfl rfl hS w0 hp hn) fun v H1 a1 ⟨t, l, z1, _, _, z4, z5⟩ => ⟨t, _, _, z1, st_of z4, ?_⟩
    have lE : ∀ {σ : L2.St} {H2 : Hp}, σ[4]? = some (some (.ref l)) → Ex H1 H2 → Ev (tOp (rIxL K) (tVar 4) (tUn (rU fun i => .int (-i)) (tC (.int 1)))) σ H2 (natV (lastP (walkd s p).1)) := fun h4 e =>
      ev_op (ev_var h4) (ev_un ev_c ru_neg) (rv_ixL (sq_of (e _ _ z5)) (at_lastP W.pos))
    refine q_when (et_test (ev_op (lE rfl (Ex.refl _)) (ev_op (ev_var rfl) ev_c (rv_ixT (ex_t a1 hT) (atI_nat (j := 1) rfl))) (rv_ne rfl))) (fun hb H2 a2 => s_ret ev_c fun H3 a3 => ?_) fun hb H2 a2 => ?_
    · have ev : homeB s p h d = false := by
        have hne : ¬ ((lastP (walkd s p).1 : Int) = h) := by
          intro z
          have hb' : (!decide (V.int (lastP (walkd s p).1 : Int) = V.int h)) = true := hb
          rw [z] at hb'
          simp at hb'
        unfold homeB
        rw [decide_eq_false hne, Bool.false_and]
      rw [← ev]
      exact RetV.go k ((a1.trans a2).trans a3)
    · have heq : (lastP (walkd s p).1 : Int) = h := by
        have hb' : (!decide (V.int (lastP (walkd s p).1 : Int) = V.int h)) = false := hb
        simp only [Bool.not_eq_false', decide_eq_true_eq] at hb'
        injection hb'
      have a12 := a1.trans a2
      have fE : ∀ {σ : L2.St} {H3 : Hp}, σ[0]? = some (some (.ref x)) → Ex H2 H3 → Ev (tFld K (tVar 0) "steps") σ H3 fv := fun h0 e => ev_fld (ev_var h0) (e _ _ (a12 _ _ hx)) T.cl_Home T.no_Home_steps (look1 _ _)
      refine s_ret (v := .bl (homeB s p h d)) ?_ fun H3 a3 => RetV.go k (a12.trans a3)
      refine ev_is (ev_andV (b := isIntD (((walkd s p).1.length : Int) - 1) d) (ev_call (ea_cons (fE rfl (Ex.refl _)) ea_nil) fun H3 e Q q E => ⟨fv, d, rfl, hd.mono (a12.trans e), q⟩) fun hnum => ?_) ?_
      · cases d with
        | int i =>
          cases hd
          refine ev_is (ev_op (fE rfl (Ex.refl _)) (ev_op (ev_len (K := K) (ev_var rfl) (sq_of (a2 _ _ z5))) ev_c rv_I0) (rv_eq rfl)) ?_
          rw [List.length_map]
          simp [isIntD]
        | _ => cases hnum
      · unfold homeB
        rw [decide_eq_true heq, Bool.true_and]
        cases d <;> rfl

end
end Sg
namespace Sg
set_option autoImplicit false
open PySem L2 Evl Big
open PyProof.Rows (envOfC)
section
variable {P : Program} {w : World} {K : PySem.W.Frag} {mg : Str → Option Value} {base : Heap} {ad : Ads}
theorem ok_Stands_init (T : Txt K mg ad) : C8.Mak P w K mg base 2 "Stands" ad.Stands (sp_Home_init K ad.Stands "place") [] := by
  have c_copied : C8.Cal P w K mg base 1 "copied" (sp_copied K) [] := ok_copied T
  refine mak_of T.mk_Stands sc_Stands_init (fun _ _ _ _ _ _ us hl => match us, hl with | [_, _], _ => rfl) (fun vs H Q E h => ?_) (fun f cdv A outer st H vs Q E hr h => ?_)
  · obtain ⟨x, dx, v, d, rfl, _⟩ := h; rfl
  · obtain ⟨x, dx, v, d, rfl, hx, hd, hf, k⟩ := h
    refine ⟨_, (pss_one (ps_fld (pv 0) (C8.pe_c c_copied hr (by decide) rfl (pa_cons (pv 1) pa_nil)) rfl)), ?_⟩
    refine s_fld1 rfl hx T.cl_Stands T.no_Stands_place (evp_of (ev_call (ea_cons (ev_var rfl) ea_nil) fun H1 a Q q E => ⟨v, rfl, .inl ⟨d, hd.mono a, hf, q⟩⟩) (Post := fun u _ => u = v) fun _ _ => rfl) fun u H1 e hu => ?_
    subst hu
    exact k _ (fun b o hb q => by rw [upd_ne hb]; exact e _ _ q) upd_same
def standsB (s : List (Option Nat)) (p : Nat) (h : Int) (d : PyData) : Bool :=
  !((walkd s p).2.isSome || decide ((lastP (walkd s p).1 : Int) = h)) && isIntD (lastP (walkd s p).1 : Int) d
theorem nV_some (o : Option Nat) : (!decide (nV o = V.non)) = o.isSome := by
  cases o <;> rfl
theorem ok_Stands_shows (T : Txt K mg ad) : C8.Met P w K mg base 2 ad.Stands "shows" (sp_shows1 K ad.Stands "place" standsB) [] := by
  have c_walked : C8.Cal P w K mg base 1 "walked" (sp_walked K) [] := ok_walked T
  have c_is_number : C8.Cal P w K mg base 1 "is_number" (sp_is_number K) [] := ok_is_number T
  refine met_of T.cl_Stands T.mt_Stands_shows sc_Stands_shows (fun _ _ _ _ _ _ us hl => match us, hl with | [_, _, _, _], _ => rfl) (fun vs H Q E h => ?_) (fun f cdv A outer st H vs Q E hr h => ?_)
  · obtain ⟨x, d, n, h, rs, s, p, ⟨⟨lv, a, dx, fv, rfl, _⟩, _⟩, _⟩ := h; rfl
  · obtain ⟨x, d, n, h, rs, s, p, ⟨⟨lv, a, dx, fv, rfl, hx, hd, hL, hS⟩, w0, hp, hn⟩, k⟩ := h
    obtain ⟨la, r, rfl, hT, hR⟩ := hL.ex
    refine ⟨_, (pss_cons (ps_asg (C8.pe_c c_walked hr (by decide) rfl (pa_cons (pv 2) (pa_cons (pv 3) pa_nil))) (k_gt K (n := 2) (by rfl) (pgs_cons (pg_name (i := 4) sc_Stands_shows.nd rfl (Or.inl rfl)) (pgs_cons (pg_name (i := 5) sc_Stands_shows.nd rfl (Or.inl rfl)) pgs_nil))))
  (pss_cons (ps_if (PW.pt (pw_or (pt_cmpR op_notN (pv 5) pe_non (nomark _)) (pw_or1 (pt_cmpR op_eq (pe_ix (k_list K) (pv 4) (pe_un un_neg pe_int) (fun _ _ => rfl)) (pe_ix (k_tup K) (pv 1) pe_int (fun _ _ => rfl)) (nomark _))))) (pss_one (ps_ret pe_bl)) pss_nil)
  (pss_one (ps_ret (pe_and (C8.pe_c c_is_number hr (by decide) rfl (pa_cons (k_fld K (pv 0)) pa_nil)) (pe_one (pe_cmpR op_eq (k_fld K (pv 0)) (pe_ix (k_list K) (pv 4) (pe_un un_neg pe_int) (fun _ _ => rfl)) (nomark _)))))))), ?_⟩
    have W := walkd_spec w0 hp
    refine q_unp2 (evp_walked rfl rfl hS w0 hp hn) fun v H1 a1 ⟨t, l, z1, _, _, z4, z5⟩ => ⟨t, _, _, z1, st_of z4, ?_⟩
    have lE : ∀ {σ : L2.St} {H2 : Hp}, σ[4]? = some (some (.ref l)) → Ex H1 H2 → Ev (tOp (rIxL K) (tVar 4) (tUn (rU fun i => .int (-i)) (tC (.int 1)))) σ H2 (natV (lastP (walkd s p).1)) := fun h4 e =>
      ev_op (ev_var h4) (ev_un ev_c ru_neg) (rv_ixL (sq_of (e _ _ z5)) (at_lastP W.pos))
    have eqI : decide (natV (lastP (walkd s p).1) = V.int h) = decide ((lastP (walkd s p).1 : Int) = h) := by
      refine decide_eq_decide.mpr ⟨fun z => ?_, fun z => by unfold natV; rw [z]⟩
      unfold natV at z
      injection z
    refine q_when (et_or (et_test (ev_op (ev_var rfl) ev_c rv_notN)) fun _ => et_test (ev_op (lE rfl (Ex.refl _)) (ev_op (ev_var rfl) ev_c (rv_ixT (ex_t a1 hT) (atI_nat (j := 1) rfl))) (rv_eq rfl))) (fun hb H2 a2 => s_ret ev_c fun H3 a3 => ?_) fun hb H2 a2 => ?_
    · rw [nV_some, eqI] at hb
      have ev : standsB s p h d = false := by
        unfold standsB
        rw [hb]
        rfl
      rw [← ev]
      exact RetV.go k ((a1.trans a2).trans a3)
    · rw [nV_some, eqI] at hb
      have a12 := a1.trans a2
      have fE : ∀ {σ : L2.St} {H3 : Hp}, σ[0]? = some (some (.ref x)) → Ex H2 H3 → Ev (tFld K (tVar 0) "place") σ H3 fv := fun h0 e => ev_fld (ev_var h0) (e _ _ (a12 _ _ hx)) T.cl_Stands T.no_Stands_place (look1 _ _)
      refine s_ret (v := .bl (standsB s p h d)) ?_ fun H3 a3 => RetV.go k (a12.trans a3)
      refine ev_is (ev_andV (b := isIntD (lastP (walkd s p).1 : Int) d) (ev_call (ea_cons (fE rfl (Ex.refl _)) ea_nil) fun H3 e Q q E => ⟨fv, d, rfl, hd.mono (a12.trans e), q⟩) fun hnum => ?_) ?_
      · cases d with
        | int i =>
          cases hd
          refine ev_is (ev_op (fE rfl (Ex.refl _)) (lE rfl a2) (rv_eq rfl)) ?_
          simp [natV, isIntD]
        | _ => cases hnum
      · unfold standsB
        rw [hb]
        cases d <;> rfl

end
end Sg
namespace Sg
set_option autoImplicit false
open PySem L2 Evl Big
open PyProof.Rows (envOfC)
section
variable {P : Program} {w : World} {K : PySem.W.Frag} {mg : Str → Option Value} {base : Heap} {ad : Ads}
/-- the places are the round's, begun somewhere -/
noncomputable def roundB (c : List Nat) (d : PyData) : Bool := @decide (∃ e, d = .list (e.map natD) ∧ Turns c e) (Classical.propDecidable _)
theorem roundB_iff {c : List Nat} {d : PyData} : roundB c d = true ↔ ∃ e, d = .list (e.map natD) ∧ Turns c e := by
  unfold roundB
  exact @decide_eq_true_iff _ (Classical.propDecidable _)
def sp_is_same_round (K : PySem.W.Frag) : Sp := fun vs H Q _ => ∃ v d b c, vs = [v, .ref b] ∧ Da K H v d ∧ SqL K H b (c.map natV) ∧ c.length ≤ 1000 ∧ RetV (.bl (roundB c d)) H Q
theorem round_no {H : Hp} {Q : VK} {c : List Nat} {d : PyData} (h : isT "list" d = false) (k : RetV (.bl (roundB c d)) H Q) : RetV (.bl false) H Q := by
  have ev : roundB c d = false := by
    cases z : roundB c d with
    | false => rfl
    | true =>
      obtain ⟨e, he, ht⟩ := roundB_iff.mp z
      rw [he] at h
      cases h
  rwa [ev] at k
/-- gone[k:] + gone[:k] -/
theorem el_rot {σ : L2.St} {H : Hp} {b : Addr} {c : List Nat} {i j k : Nat} (h1 : σ[i]? = some (some (.ref b))) (h2 : σ[j]? = some (some (natV k))) (hS : SqL K H b (c.map natV)) (hc : c.length ≤ 1000) :
    EvL (tOp rCat (tSl (rSlL K) (tVar i) (tPart (tVar j)) tNoPart) (tSl (rSlL K) (tVar i) tNoPart (tPart (tVar j)))) σ H ((rot c k).map natV) := fun H1 e Q q => by
  refine el_sl (ev_var h1) (eo_some (ev_var h2)) eo_none hS H1 e _ fun p H2 hp e2 g2 => ?_
  refine el_sl (ev_var h1) eo_none (eo_some (ev_var h2)) hS H2 (e.trans e2) _ fun r H3 hr' e3 g3 => ?_
  rw [cut_from] at g2
  rw [cut_to] at g3
  refine ⟨p, r, _, _, rfl, rfl, e3 _ _ g2, g3, ?_, fun t ht => ?_⟩
  · refine sz_of ?_
    rw [List.length_drop, List.length_take, List.length_map]
    omega
  · refine q t _ (fresh_back (e2.trans e3) ht) ((e2.trans e3).trans (Ex.new ht)) ?_
    rw [upd_same]
    congr 2
    unfold rot
    rw [List.map_append, List.map_drop, List.map_take]
theorem ok_is_same_round (T : Txt K mg ad) : C8.Cal P w K mg base 2 "is_same_round" (sp_is_same_round K) [] := by
  have c_is_number : C8.Cal P w K mg base 1 "is_number" (sp_is_number K) [] := ok_is_number T
  refine cal_of T.d_is_same_round sc_is_same_round (fun _ _ _ _ _ _ us hl => match us, hl with | [_, _], _ => rfl) (fun vs H Q E h => ?_) (fun f cdv A outer st H vs Q E hr h => ?_)
  · obtain ⟨v, d, b, c, rfl, _⟩ := h; rfl
  · obtain ⟨v, d, b, c, rfl, hd, hS, hc, k⟩ := h
    refine ⟨_, (pss_cons (ps_if (PW.pt (pw_or (pt_not (pt_val (pe_callB (k_isi K) (by rfl) T.n_isinstance (by decide +kernel) (pa_cons (pv 0) (pa_cons (pe_bltn (v := .ty "list") (by rfl) T.n_list (by decide +kernel) rfl) pa_nil))))) (pw_or1 (pt_cmpR op_ne (pe_callB (k_len K) (by rfl) T.n_len PySem.boot_len (pa_cons (pv 0) pa_nil)) (pe_callB (k_len K) (by rfl) T.n_len PySem.boot_len (pa_cons (pv 1) pa_nil)) (nomark _))))) (pss_one (ps_ret pe_bl)) pss_nil)
  (pss_cons (ps_if (pt_not (pt_val (pe_callB (k_all K rfl) (by rfl) T.n_all (by decide +kernel) (pa_cons (pe_lc (own := [("place", 2)]) (g := _) (tt := tYes) rfl sc_is_same_round.nd (k_il K (pv 0)) (blkOk_by (N := N_is_same_round) (sc := C8.fnScope st_is_same_round) (by decide +kernel)) (fun _ _ _ _ _ => (pg_name (i := 2) sc_is_same_round.nd rfl (Or.inl rfl))) (fun _ _ _ _ _ => pts_nil) (fun _ _ _ _ _ => (C8.pe_c c_is_number hr (by decide) rfl (pa_cons (pv 2) pa_nil)))) pa_nil)))) (pss_one (ps_ret pe_bl)) pss_nil)
  (pss_one (ps_ret (pe_callB (k_any K rfl) (by rfl) T.n_any (by decide +kernel) (pa_cons (pe_lc (own := [("k", 3)]) (g := _) (tt := tYes) rfl sc_is_same_round.nd (pi_range1 rfl T.n_range (pa_cons (pe_callB (k_len K) (by rfl) T.n_len PySem.boot_len (pa_cons (pv 1) pa_nil)) pa_nil)) (blkOk_by (N := N_is_same_round) (sc := C8.fnScope st_is_same_round) (by decide +kernel)) (fun _ _ _ _ _ => (pg_name (i := 3) sc_is_same_round.nd rfl (Or.inl rfl))) (fun _ _ _ _ _ => pts_nil) (fun _ _ _ _ _ => (pe_cmpR (k_eqD K hr.units) (pv 0) (pe_op op_cat (pe_slice (k_sl K) (pv 1) (po_some (pv 3)) po_none) (pe_slice (k_sl K) (pv 1) po_none (po_some (pv 3)))) (nomark _)))) pa_nil)))))), ?_⟩
    have e1 : ∀ {H1 : Hp}, Ex H H1 → Ev (tCB (rIsi K) (tCons (tVar 0) (tCons (tC (.ty "list")) tNil))) (start N_is_same_round [v, .ref b]) H1 (.bl (isT "list" d)) := fun a => ev_isi (ev_var rfl) (hd.mono a) (kit_list d)
    have lenB : ∀ {H1 : Hp}, Ex H H1 → Ev (tCB (rLenS K) (tCons (tVar 1) tNil)) (start N_is_same_round [v, .ref b]) H1 (.int (c.length : Int)) := fun e => by
      have q := ev_len (K := K) (ta := tVar 1) (σ := start N_is_same_round [v, .ref b]) (ev_var rfl) (ex_l e hS)
      rwa [List.length_map] at q
    cases hd with
    | @lst a xs ds h hs =>
      obtain ⟨l, rfl, rfl, hl⟩ := hs.zip
      have lenA : ∀ {H1 : Hp}, Ex H H1 → Ev (tCB (rLenS K) (tCons (tVar 0) tNil)) (start N_is_same_round [.ref a, .ref b]) H1 (.int (l.length : Int)) := fun e => by
        have q := ev_len (K := K) (ta := tVar 0) (σ := start N_is_same_round [.ref a, .ref b]) (ev_var rfl) (ex_l e h)
        rwa [List.length_map] at q
      refine q_when (et_or (et_not (et_B (e1 (Ex.refl H)))) fun _ => et_test (ev_op (lenA (Ex.refl H)) (lenB (Ex.refl H)) (rv_ne rfl))) (fun hb H1 a1 => s_ret ev_c fun H2 a2 => ?_) fun hb H1 a1 => ?_
      · have ev : roundB c (.list (l.map (·.2))) = false := by
          cases z : roundB c (.list (l.map (·.2))) with
          | false => rfl
          | true =>
            obtain ⟨e, he, ht⟩ := roundB_iff.mp z
            have q := congrArg List.length (lst_inj.mp he)
            rw [List.length_map, List.length_map, turns_len ht] at q
            exfalso
            have hb' : (false || !decide (V.int (l.length : Int) = V.int (c.length : Int))) = true := hb
            rw [q] at hb'
            simp at hb'
        rw [← ev]
        exact RetV.go k (a1.trans a2)
      have hlen : l.length = c.length := by
        have hb' : (false || !decide (V.int (l.length : Int) = V.int (c.length : Int))) = false := hb
        simp only [Bool.false_or, Bool.not_eq_false', decide_eq_true_eq] at hb'
        injection hb' with hb'
        omega
      refine q_when (et_not (et_B (ev_all (K := K) (bs := l.map fun p => numD p.2) (by
          rw [List.map_map]
          exact el_mapL (j := 2) l (·.1) (fun p => V.bl (numD p.2)) (ev_var rfl) (ex_l a1 h) (by omega) fun p hp H2 a2 =>
            ev_call (ea_cons (ev_var rfl) ea_nil) fun H3 a3 Q q E => ⟨_, _, rfl, ((hl p hp).mono (a1.trans a2)).mono a3, q⟩)))) (fun hb2 H2 a2 => s_ret ev_c fun H3 a3 => ?_) fun hb2 H2 a2 => ?_
      · have hno : ((l.map fun p => numD p.2).all id) = false := by
          cases z : ((l.map fun p => numD p.2).all id) with
          | true => rw [z] at hb2; cases hb2
          | false => rfl
        have ev : roundB c (.list (l.map (·.2))) = false := by
          cases z : roundB c (.list (l.map (·.2))) with
          | false => rfl
          | true =>
            obtain ⟨e, he, ht⟩ := roundB_iff.mp z
            have he' := lst_inj.mp he
            exfalso
            rw [List.all_map, show (id ∘ fun p : V × PyData => numD p.2) = (numD ∘ fun p : V × PyData => p.2) from rfl, ← List.all_map, he', List.all_map] at hno
            have : e.all (numD ∘ natD) = true := List.all_eq_true.mpr fun x _ => rfl
            rw [this] at hno; cases hno
        rw [← ev]
        exact RetV.go k ((a1.trans a2).trans a3)
      have hnum : ∀ p ∈ l, ∃ i, p.2 = .int i := by
        have z : ((l.map fun p => numD p.2).all id) = true := by simpa using hb2
        rw [List.all_map, List.all_eq_true] at z
        intro p hp
        have q := z p hp
        have q' : numD p.2 = true := q
        cases h2 : p.2 with
        | int i => exact ⟨i, rfl⟩
        | _ => rw [h2] at q'; cases q'
      obtain ⟨is, his⟩ : ∃ is : List Int, l.map (·.2) = is.map .int := by
        clear hlen hb hb2 hl h hs lenA e1 k
        induction l with
        | nil => exact ⟨[], rfl⟩
        | cons p l ih =>
          obtain ⟨i, hi⟩ := hnum p List.mem_cons_self
          obtain ⟨is, his⟩ := ih fun q hq => hnum q (List.mem_cons_of_mem _ hq)
          exact ⟨i :: is, by rw [List.map_cons, List.map_cons, hi, his]⟩
      have a12 := a1.trans a2
      have hdp : Dp K H (.ref a) (.list (is.map .int)) := by
        refine .lst h ?_
        rw [← his]
        refine dps_map _ _ l fun p hp => ?_
        have q := hl p hp
        obtain ⟨i, hi⟩ := hnum p hp
        rw [hi] at q ⊢
        generalize p.1 = pv at q ⊢
        cases q
        exact .int i
      refine s_ret (ev_any (K := K) (bs := (List.range c.length).map fun k => decide (is = (rot c k).map Int.ofNat)) ?_) fun H3 a3 => ?_
      · rw [List.map_map]
        have ht : c.length = (c.length : Int).toNat := by omega
        rw [ht]
        refine el_mapR (j := 3) _ (ea_cons (lenB a12) ea_nil) (by omega) fun i H4 a4 hi => ?_
        have a14 := a12.trans a4
        exact ev_opL (ev_var rfl) (el_rot rfl rfl (ex_l a14 hS) hc) fun p H5 hp e5 => rv_eqD (dp_up (a14.trans e5) hdp) (.lst (sq_of hp) (dp_nats _)) (pd_ints is) (pd_nats _) (by
          rw [lst_inj]
          have : (rot c i).map natD = ((rot c i).map Int.ofNat).map PyData.int := by rw [List.map_map]; rfl
          rw [this, map_inj int_inj])
      · refine RetV.go ?_ (a12.trans a3)
        have ev : roundB c (.list (l.map (·.2))) = (((List.range c.length).map fun k => decide (is = (rot c k).map Int.ofNat)).any id) := by
          rw [Bool.eq_iff_iff, roundB_iff, List.any_map, List.any_eq_true, his]
          constructor
          · rintro ⟨e, he, k, hk, rfl⟩
            refine ⟨k, List.mem_range.mpr hk, ?_⟩
            show decide (is = (rot c k).map Int.ofNat) = true
            rw [decide_eq_true_eq]
            have he' := lst_inj.mp he
            have : (rot c k).map natD = ((rot c k).map Int.ofNat).map PyData.int := by rw [List.map_map]; rfl
            rw [this, map_inj int_inj] at he'
            exact he'
          · rintro ⟨k, hk, e⟩
            have e' : is = (rot c k).map Int.ofNat := by simpa using e
            refine ⟨rot c k, ?_, k, List.mem_range.mp hk, rfl⟩
            rw [e', List.map_map]
            rfl
        rw [← ev]
        exact k
    | _ =>
      refine q_when (b := true) (et_is (et_or (b := false) (et_not (et_B (e1 (Ex.refl H)))) fun z => nomatch z) rfl) (fun _ H1 a1 => s_ret ev_c fun H2 a2 => ?_) (fun z => nomatch z)
      exact RetV.go (round_no (by rfl) k) (a1.trans a2)

end
end Sg
namespace Sg
set_option autoImplicit false
open PySem L2 Evl Big
open PyProof.Rows (envOfC)
section
variable {P : Program} {w : World} {K : PySem.W.Frag} {mg : Str → Option Value} {base : Heap} {ad : Ads}
def sp_Round_init (K : PySem.W.Frag) (C : Addr) (f : Str) : Sp := fun vs H Q _ => ∃ x dx a l, vs = [.ref x, .ref a] ∧ H x = some (.ins C dx []) ∧ SqL K H a (l.map itV) ∧ l.length ≤ 40000 ∧ (∀ y ∈ l, ItOk K H y) ∧
  ∀ H3 fv, (∀ b o, b ≠ x → H b = some o → H3 b = some o) → H3 x = some (.ins C dx (putF f fv [])) → CopyAt H l fv H3 → Q .non H3
theorem CopyAt.put {H H1 : Hp} {l : List It2} {v : V} {x : Addr} {o : HO} (h : CopyAt H l v H1) (hx : H x ≠ none) : CopyAt H l v (upd H1 x o) := by
  obtain ⟨D, ys, h1, h2, h3, h4, h5, h6⟩ := h
  have nD : D ≠ x := fun z => hx (z ▸ h2)
  refine ⟨D, ys, h1, h2, by rw [upd_ne nD]; exact h3, h4, fun i it y e1 e2 => ?_, h6⟩
  have q := h5 i it y e1 e2
  cases it with
  | inl p => exact q
  | inr p =>
    obtain ⟨r, z1, z2, z3, z4⟩ := q
    have nr : r ≠ x := fun z => hx (z ▸ z3)
    exact ⟨r, z1, z2, z3, by rw [upd_ne nr]; exact z4⟩
theorem ok_Round_init (T : Txt K mg ad) : C8.Mak P w K mg base 2 "Round" ad.Round (sp_Round_init K ad.Round "places") [] := by
  have c_copied : C8.Cal P w K mg base 1 "copied" (sp_copied K) [] := ok_copied T
  refine mak_of T.mk_Round sc_Round_init (fun _ _ _ _ _ _ us hl => match us, hl with | [_, _], _ => rfl) (fun vs H Q E h => ?_) (fun f cdv A outer st H vs Q E hr h => ?_)
  · obtain ⟨x, dx, a, l, rfl, _⟩ := h; rfl
  · obtain ⟨x, dx, a, l, rfl, hx, hS, hl, hit, k⟩ := h
    refine ⟨_, (pss_one (ps_fld (pv 0) (C8.pe_c c_copied hr (by decide) rfl (pa_cons (pv 1) pa_nil)) rfl)), ?_⟩
    refine s_fld1 rfl hx T.cl_Round T.no_Round_places (evp_call (Post := CopyAt H l) (ea_cons (ev_var rfl) ea_nil) fun H1 e Q q E => ⟨_, rfl, .inr ⟨a, l, rfl, ex_l e hS, hl, fun y hy => (hit y hy).mono e, fun v H2 e2 p => q v H2 e2 ?_⟩⟩) fun u H1 e hu => ?_
    · obtain ⟨D, ys, h1, h2, h3, h4, h5, h6⟩ := p
      refine ⟨D, ys, h1, fresh_back e h2, h3, h4, fun i it y e1 e2 => ?_, h6⟩
      have q := h5 i it y e1 e2
      cases it with
      | inl p => exact q
      | inr p =>
        obtain ⟨r, z1, z2, z3, z4⟩ := q
        exact ⟨r, z1, z2, fresh_back e z3, z4⟩
    · exact k _ u (fun b o hb q => by rw [upd_ne hb]; exact e _ _ q) upd_same (hu.put (by rw [hx]; simp))
noncomputable def roundS (s : List (Option Nat)) (p : Nat) (h : Int) (d : PyData) : Bool := match (walkd s p).2 with
  | none => false
  | some j => roundB ((walkd s p).1.drop j) d
theorem ok_Round_shows (T : Txt K mg ad) : C8.Met P w K mg base 3 ad.Round "shows" (sp_shows1 K ad.Round "places" roundS) [] := by
  have c_walked : C8.Cal P w K mg base 1 "walked" (sp_walked K) [] := ok_walked T
  have c_is_same_round : C8.Cal P w K mg base 2 "is_same_round" (sp_is_same_round K) [] := ok_is_same_round T
  refine met_of T.cl_Round T.mt_Round_shows sc_Round_shows (fun _ _ _ _ _ _ us hl => match us, hl with | [_, _, _, _], _ => rfl) (fun vs H Q E h => ?_) (fun f cdv A outer st H vs Q E hr h => ?_)
  · obtain ⟨x, d, n, h, rs, s, p, ⟨⟨lv, a, dx, fv, rfl, _⟩, _⟩, _⟩ := h; rfl
  · obtain ⟨x, d, n, h, rs, s, p, ⟨⟨lv, a, dx, fv, rfl, hx, hd, hL, hS⟩, w0, hp, hn⟩, k⟩ := h
    refine ⟨_, (pss_cons (ps_asg (C8.pe_c c_walked hr (by decide) rfl (pa_cons (pv 2) (pa_cons (pv 3) pa_nil))) (k_gt K (n := 2) (by rfl) (pgs_cons (pg_name (i := 4) sc_Round_shows.nd rfl (Or.inl rfl)) (pgs_cons (pg_name (i := 5) sc_Round_shows.nd rfl (Or.inl rfl)) pgs_nil))))
  (pss_cons (ps_if (pt_cmpR op_isN (pv 5) pe_non (nomark _)) (pss_one (ps_ret pe_bl)) pss_nil)
  (pss_one (ps_ret (C8.pe_c c_is_same_round hr (by decide) rfl (pa_cons (k_fld K (pv 0)) (pa_cons (pe_slice (k_sl K) (pv 4) (po_some (pv 5)) po_none) pa_nil))))))), ?_⟩
    have W := walkd_spec w0 hp
    have hlen := W.len_le w0 hp
    refine q_unp2 (evp_walked rfl rfl hS w0 hp hn) fun v H1 a1 ⟨t, l, z1, _, _, z4, z5⟩ => ⟨t, _, _, z1, st_of z4, ?_⟩
    cases hb : (walkd s p).2 with
    | none =>
      refine q_when (b := true) (et_test (ev_op (ev_var rfl) ev_c rv_isN)) (fun _ H2 a2 => s_ret ev_c fun H3 a3 => ?_) (fun z => nomatch z)
      have ev : roundS s p h d = false := by
        unfold roundS
        rw [hb]
      rw [← ev]
      exact RetV.go k ((a1.trans a2).trans a3)
    | some j =>
      refine q_when (b := false) (et_test (ev_op (ev_var rfl) ev_c rv_isN)) (fun z => nomatch z) fun _ H2 a2 => ?_
      have a12 := a1.trans a2
      have hj : ∀ {σ : L2.St}, σ[4]? = some (some (.ref l)) → σ[5]? = some (some (nV (some j))) → EvL (tSl (rSlL K) (tVar 4) (tPart (tVar 5)) tNoPart) σ H2 (((walkd s p).1.drop j).map natV) := fun h4 h5 => by
        have q := el_sl (K := K) (ev_var h4) (eo_some (ev_var h5)) eo_none (sq_of (a2 _ _ z5))
        rw [cut_from, ← List.map_drop] at q
        exact q
      have ev : roundS s p h d = roundB ((walkd s p).1.drop j) d := by
        unfold roundS
        rw [hb]
      rw [ev] at k
      refine s_ret (ev_callA (eap_v (ev_fld (f := "places") (ev_var (i := 0) rfl) (a12 _ _ hx) T.cl_Round T.no_Round_places (look1 _ _)) (eap_l (hj rfl rfl) eap_nil)) fun vs H4 a4 ⟨r0, e0, r, r1, e1, _, g4, e2⟩ Q q E => ?_) fun H3 a3 => RetV.go k (a12.trans a3)
      subst e0 e1 e2
      exact ⟨fv, d, r, _, rfl, hd.mono (a12.trans a4), sq_of g4, by rw [List.length_drop]; omega, q⟩

end
end Sg
namespace Sg
set_option autoImplicit false
open PySem L2 Evl Big
open PyProof.Rows (envOfC)
section
variable {P : Program} {w : World} {K : PySem.W.Frag} {mg : Str → Option Value} {base : Heap} {ad : Ads}
inductive End
  | home (m : Nat)
  | stands (q : Nat)
  | round (c : List Nat)
def endOf (s : List (Option Nat)) (p : Nat) (h : Int) : End := match (walkd s p).2 with
  | some j => .round ((walkd s p).1.drop j)
  | none => if (lastP (walkd s p).1 : Int) = h then .home ((walkd s p).1.length - 1) else .stands (lastP (walkd s p).1)
/-- the answer at x; H0: a heap that knew nothing of it -/
def AnsAt (ad : Ads) (H0 H : Hp) (x : Addr) : End → Prop
  | .home m => ∃ dx, H x = some (.ins ad.Home dx (putF "steps" (natV m) []))
  | .stands q => ∃ dx, H x = some (.ins ad.Stands dx (putF "place" (natV q) []))
  | .round c => ∃ dx D, H x = some (.ins ad.Round dx (putF "places" (.ref D) [])) ∧ H0 D = none ∧ D ≠ x ∧ H D = some (.lst (c.map natV))
theorem AnsAt.mono {H0 H H' : Hp} {x : Addr} {e : End} (a : Ex H H') (h : AnsAt ad H0 H x e) : AnsAt ad H0 H' x e := by
  cases e with
  | home m => obtain ⟨dx, h⟩ := h; exact ⟨dx, a _ _ h⟩
  | stands q => obtain ⟨dx, h⟩ := h; exact ⟨dx, a _ _ h⟩
  | round c => obtain ⟨dx, D, h1, h2, h3, h4⟩ := h; exact ⟨dx, D, a _ _ h1, h2, h3, a _ _ h4⟩
def FollowAt (ad : Ads) (H : Hp) (s : List (Option Nat)) (p : Nat) (h : Int) (v : V) (H' : Hp) : Prop := ∃ x, v = .ref x ∧ H x = none ∧ AnsAt ad H H' x (endOf s p h)
def sp_followed (K : PySem.W.Frag) (ad : Ads) : Sp := fun vs H Q _ => ∃ lv sv n h rs s p, vs = [lv, sv, natV p] ∧ Given K H lv sv n h rs s ∧ (p : Int) < n ∧ Give H (FollowAt ad H s p h) Q
theorem evp_makeA {σ : L2.St} {H : Hp} {C : Addr} {f : Str} {sp : Sp} {E : XK} {ta : TA} {P : List V → Hp → Prop} {Post : V → Hp → Prop} (h : EvAP ta σ H P) (hs : ∀ vs H1, Ex H H1 → P vs H1 → SpInit1 sp C f vs H1 Post) :
    EvP (tMake C sp [] E ta) σ H (fun v H' => ∃ x dx fv, v = .ref x ∧ H x = none ∧ H' x = some (.ins C dx (putF f fv [])) ∧ Post fv H') := fun H0 e Q q =>
  h H0 e _ fun vs H1 e1 pv x dx hx hdx hne => by
    rw [List.append_nil]
    have hx0 : H x = none := fresh_back (e.trans e1) hx
    refine hs vs H1 (e.trans e1) pv _ ?_ x dx _ _ hx upd_same fun H3 fv k h3 p => ⟨rfl, ?_⟩
    · exact made_ex (o := .ins C dx []) (Ex.refl _) hx hdx fun b o' _ hb => hb
    · exact q _ H3 (e1.trans (made_ex (Ex.refl _) hx hdx k)) ⟨x, dx, fv, rfl, hx0, h3, p⟩
def flatN (c : List Nat) : List It2 := (c.map fun a => (natV a, natD a)).map .inl
theorem flatN_vals (c : List Nat) : (flatN c).map itV = c.map natV := by
  unfold flatN
  rw [List.map_map, List.map_map]
  rfl
theorem flatN_ok {H : Hp} (c : List Nat) : ∀ y ∈ flatN c, ItOk K H y := by
  intro y hy
  unfold flatN at hy
  rw [List.map_map] at hy
  obtain ⟨a, _, rfl⟩ := List.mem_map.mp hy
  exact ⟨.int _, rfl⟩
theorem flatN_copy {H H' : Hp} {c : List Nat} {v : V} (h : CopyAt H (flatN c) v H') : ∃ D, v = .ref D ∧ H D = none ∧ H' D = some (.lst (c.map natV)) := by
  obtain ⟨D, h1, h2, h3⟩ := copy_flat h
  rw [List.map_map] at h3
  exact ⟨D, h1, h2, h3⟩
/-- Round of a list of numbers -/
theorem init_round {H H1 : Hp} {C : Addr} {f : Str} {a : Addr} {c : List Nat} (e : Ex H H1) (hS : SqL K H1 a (c.map natV)) (hc : c.length ≤ 40000) : SpInit1 (sp_Round_init K C f) C f [.ref a] H1 (fun fv H3 => ∃ D, fv = .ref D ∧ H D = none ∧ H3 D = some (.lst (c.map natV))) :=
  fun H2 e2 x dx Q E hx0 hx k => ⟨x, dx, a, flatN c, rfl, hx, by rw [flatN_vals]; exact ex_l e2 hS, by unfold flatN; rw [List.length_map, List.length_map]; exact hc, flatN_ok c, fun H3 fv g1 g2 g3 => by
    obtain ⟨D, z1, z2, z3⟩ := flatN_copy g3
    exact k H3 fv g1 g2 ⟨D, z1, fresh_back (e.trans e2) z2, z3⟩⟩
theorem ok_followed (T : Txt K mg ad) : C8.Cal P w K mg base 8 "followed" (sp_followed K ad) [] := by
  have c_need_walk : C8.Cal P w K mg base 7 "need_walk" (sp_need_walk K) [] := ok_need_walk T
  have c_walked : C8.Cal P w K mg base 1 "walked" (sp_walked K) [] := ok_walked T
  have m_Round : C8.Mak P w K mg base 2 "Round" ad.Round (sp_Round_init K ad.Round "places") [] := ok_Round_init T
  have m_Home : C8.Mak P w K mg base 2 "Home" ad.Home (sp_Home_init K ad.Home "steps") [] := ok_Home_init T
  have m_Stands : C8.Mak P w K mg base 2 "Stands" ad.Stands (sp_Home_init K ad.Stands "place") [] := ok_Stands_init T
  refine cal_of T.d_followed sc_followed (fun _ _ _ _ _ _ us hl => match us, hl with | [_, _, _], _ => rfl) (fun vs H Q E h => ?_) (fun f cdv A outer st H vs Q E hr h => ?_)
  · obtain ⟨lv, sv, n, h, rs, s, p, rfl, _⟩ := h; rfl
  · obtain ⟨lv, sv, n, h, rs, s, p, rfl, g, hp, k⟩ := h
    refine ⟨_, (pss_cons (ps_expr (C8.pe_c c_need_walk hr (by decide) rfl (pa_cons (pv 0) (pa_cons (pv 1) (pa_cons (pv 2) pa_nil)))))
  (pss_cons (ps_asg (C8.pe_c c_walked hr (by decide) rfl (pa_cons (pv 1) (pa_cons (pv 2) pa_nil))) (k_gt K (n := 2) (by rfl) (pgs_cons (pg_name (i := 3) sc_followed.nd rfl (Or.inl rfl)) (pgs_cons (pg_name (i := 4) sc_followed.nd rfl (Or.inl rfl)) pgs_nil))))
  (pss_cons (ps_if (pt_cmpR op_notN (pv 4) pe_non (nomark _)) (pss_one (ps_ret (C8.pe_mk m_Round hr (by decide) rfl (pa_cons (pe_slice (k_sl K) (pv 3) (po_some (pv 4)) po_none) pa_nil)))) pss_nil)
  (pss_cons (ps_if (pt_cmpR op_eq (pe_ix (k_list K) (pv 3) (pe_un un_neg pe_int) (fun _ _ => rfl)) (pe_ix (k_tup K) (pv 0) pe_int (fun _ _ => rfl)) (nomark _)) (pss_one (ps_ret (C8.pe_mk m_Home hr (by decide) rfl (pa_cons (pe_op op_sub (pe_callB (k_len K) (by rfl) T.n_len PySem.boot_len (pa_cons (pv 3) pa_nil)) pe_int) pa_nil)))) pss_nil)
  (pss_one (ps_ret (C8.pe_mk m_Stands hr (by decide) rfl (pa_cons (pe_ix (k_list K) (pv 3) (pe_un un_neg pe_int) (fun _ _ => rfl)) pa_nil)))))))), ?_⟩
    have L := g.ok.all
    have S := g.sok.all
    have sl : s.length = n.toNat := S.wf.len
    have ln1 := L.n1
    have ln40 := L.n40
    have hps : p < s.length := by omega
    have w0 : Wf s.length s := ⟨rfl, fun a b e => by rw [sl]; exact S.wf.lt a b e⟩
    obtain ⟨sa, rfl, hS⟩ := g.signs
    obtain ⟨la, r, rfl, hT, hR⟩ := g.land.ex
    refine q_drop (ev_call (ea_cons (ev_var rfl) (ea_cons (ev_var rfl) (ea_cons (ev_var rfl) ea_nil))) fun H1 a Q q E => ⟨_, _, n, h, rs, s, (p : Int), rfl, g.mono a, by omega, hp, q⟩) fun H1 a1 => ?_
    have W := walkd_spec w0 hps
    have hlen := W.len_le w0 hps
    have hpos := W.pos
    refine q_unp2 (evp_walked rfl rfl (ex_l a1 hS) w0 hps (by omega)) fun v H2 a2 ⟨t, l, z1, _, _, z4, z5⟩ => ⟨t, _, _, z1, st_of z4, ?_⟩
    have a12 := a1.trans a2
    have lE : ∀ {σ : L2.St} {H3 : Hp}, σ[3]? = some (some (.ref l)) → Ex H2 H3 → Ev (tOp (rIxL K) (tVar 3) (tUn (rU fun i => .int (-i)) (tC (.int 1)))) σ H3 (natV (lastP (walkd s p).1)) := fun h4 e =>
      ev_op (ev_var h4) (ev_un ev_c ru_neg) (rv_ixL (sq_of (e _ _ z5)) (at_lastP W.pos))
    cases hb : (walkd s p).2 with
    | some j =>
      have eo : endOf s p h = .round ((walkd s p).1.drop j) := by unfold endOf; rw [hb]
      refine q_when (b := true) (et_test (ev_op (ev_var rfl) ev_c rv_notN)) (fun _ H3 a3 => ?_) (fun z => nomatch z)
      have hj : ∀ {σ : L2.St}, σ[3]? = some (some (.ref l)) → σ[4]? = some (some (nV (some j))) → EvL (tSl (rSlL K) (tVar 3) (tPart (tVar 4)) tNoPart) σ H3 (((walkd s p).1.drop j).map natV) := fun h4 h5 => by
        have q := el_sl (K := K) (ev_var h4) (eo_some (ev_var h5)) eo_none (sq_of (a3 _ _ z5))
        rw [cut_from, ← List.map_drop] at q
        exact q
      have b3 := a12.trans a3
      refine s_retP (evp_makeA (f := "places") (Post := fun fv H' => ∃ D, fv = .ref D ∧ H3 D = none ∧ H' D = some (.lst (((walkd s p).1.drop j).map natV))) (eap_l (hj rfl rfl) eap_nil) fun vs H4 a4 ⟨r0, r1, e1, _, g4, e2⟩ => ?_) fun v H4 a4 ⟨x, dx, fv, e1, hx0, hx, D, e2, hD0, hD⟩ => ?_
      · subst e1 e2
        exact init_round a4 (sq_of g4) (by rw [List.length_drop]; omega)
      · subst e1 e2
        refine k _ _ (b3.trans a4) ⟨x, rfl, fresh_back b3 hx0, ?_⟩
        rw [eo]
        have nD : D ≠ x := fun z => by rw [z, hx] at hD; cases hD
        exact ⟨dx, D, hx, fresh_back b3 hD0, nD, hD⟩
    | none =>
      refine q_when (b := false) (et_test (ev_op (ev_var rfl) ev_c rv_notN)) (fun z => nomatch z) fun _ H3 a3 => ?_
      have b3 := a12.trans a3
      refine q_when (et_test (ev_op (lE rfl a3) (ev_op (ev_var rfl) ev_c (rv_ixT (ex_t b3 hT) (atI_nat (j := 1) rfl))) (rv_eq rfl))) (fun he H4 a4 => ?_) fun he H4 a4 => ?_
      · have heq : (lastP (walkd s p).1 : Int) = h := by
          have z := of_decide_eq_true he
          unfold natV at z
          injection z
        have eo : endOf s p h = .home ((walkd s p).1.length - 1) := by unfold endOf; rw [hb]; exact if_pos heq
        have b4 := b3.trans a4
        refine s_retP (evp_make (f := "steps") (ea_cons (ev_is (ev_op (ev_len (K := K) (ev_var rfl) (sq_of (a4 _ _ (a3 _ _ z5)))) ev_c rv_I0) (w := natV ((walkd s p).1.length - 1)) ?_) ea_nil) (init1_of (d := natD _) (.int _) rfl)) fun v H5 a5 ⟨x, dx, fv, e1, hx0, hx, e2⟩ => ?_
        · rw [List.length_map]
          unfold natV
          congr 1
          omega
        · subst e1 e2
          refine k _ _ (b4.trans a5) ⟨x, rfl, fresh_back b4 hx0, ?_⟩
          rw [eo]
          exact ⟨dx, hx⟩
      · have heq : ¬ (lastP (walkd s p).1 : Int) = h := by
          intro z
          have := of_decide_eq_false he
          apply this
          unfold natV
          rw [z]
        have eo : endOf s p h = .stands (lastP (walkd s p).1) := by unfold endOf; rw [hb]; exact if_neg heq
        have b4 := b3.trans a4
        refine s_retP (evp_make (f := "place") (ea_cons (lE rfl (a3.trans a4)) ea_nil) (init1_of (d := natD _) (.int _) rfl)) fun v H5 a5 ⟨x, dx, fv, e1, hx0, hx, e2⟩ => ?_
        subst e1 e2
        refine k _ _ (b4.trans a5) ⟨x, rfl, fresh_back b4 hx0, ?_⟩
        rw [eo]
        exact ⟨dx, hx⟩

end
end Sg
namespace Sg
set_option autoImplicit false
open PySem L2 Evl Big
open PyProof.Rows (envOfC)
section
variable {P : Program} {w : World} {K : PySem.W.Frag} {mg : Str → Option Value} {base : Heap} {ad : Ads}
/-- signs whose roads are not among these are taken down -/
def keepS (rs : List (Int × Int)) (p : Nat) : Option Nat → Option Nat
  | none => none
  | some q => if ((p : Int), (q : Int)) ∈ rs then some q else none
theorem keepS_in {rs : List (Int × Int)} {p q : Nat} (h : ((p : Int), (q : Int)) ∈ rs) : keepS rs p (some q) = some q := if_pos h
theorem keepS_out {rs : List (Int × Int)} {p q : Nat} (h : ¬ ((p : Int), (q : Int)) ∈ rs) : keepS rs p (some q) = none := if_neg h
def rightS (rs : List (Int × Int)) (s : List (Option Nat)) : List (Option Nat) := (List.range s.length).map fun p => keepS rs p (nx s p)
def sp_law_land_right (K : PySem.W.Frag) : Sp := fun vs H Q _ => ∃ lv n h rs a s, vs = [lv, .ref a] ∧ LandAt K H lv n h rs ∧ rs.length ≤ 300 ∧ SqL K H a (s.map nV) ∧ s.length ≤ 1000 ∧ RetL ((rightS rs s).map nV) H Q
theorem LandAt.dpR {H : Hp} {r : Addr} {rs : List (Int × Int)} (h : RoadsAt K H r rs) : Dp K H (.ref r) (.list (rs.map rdD)) := by
  obtain ⟨ks, k1, k2, k3⟩ := h
  have e : rs.map rdD = ks.map fun p => .tuple (p.2.map .int) := by
    have : (ks.map (·.2)).map (fun l => PyData.tuple (l.map .int)) = (rs.map fun q => [q.1, q.2]).map (fun l => PyData.tuple (l.map .int)) := by rw [k3]
    rw [List.map_map, List.map_map] at this
    exact this.symm
  refine .lst k1 ?_
  rw [e]
  exact dps_map _ _ ks fun p hp => .tup (k2 p hp) (dp_ints p.2)
theorem pd_rd (p : Int × Int) : Pd 1 (rdD p) := .tup fun d hd => by
  rcases List.mem_cons.mp hd with rfl | hd
  · exact .int _ _
  · rw [List.mem_singleton.mp hd]; exact .int _ _
theorem pd_rds (rs : List (Int × Int)) : Pd 2 (.list (rs.map rdD)) := .lst fun d hd => by
  obtain ⟨p, _, rfl⟩ := List.mem_map.mp hd
  exact pd_rd p
theorem rd_mem {p : Int × Int} {rs : List (Int × Int)} : rdD p ∈ rs.map rdD ↔ p ∈ rs := by
  rw [List.mem_map]
  constructor
  · rintro ⟨⟨a, b⟩, hm, e⟩
    unfold rdD at e
    injection e with e
    injection e with e1 e
    injection e1 with e1
    injection e with e2 _
    injection e2 with e2
    have : p = (a, b) := by cases p; simp_all
    rw [this]; exact hm
  · intro h; exact ⟨p, h, rfl⟩
/-- (i, j) in a land's roads -/
theorem ev_road {σ : L2.St} {H : Hp} {ta tb tc : TE} {x y : Int} {r : Addr} {rs : List (Int × Int)} (h1 : Ev ta σ H (.int x)) (h2 : Ev tb σ H (.int y)) (h3 : ∀ H1, Ex H H1 → Ev tc σ H1 (.ref r)) (hR : RoadsAt K H r rs) : Ev (tOp (rInD K) (tTup (tCons ta (tCons tb tNil))) tc) σ H (.bl (decide ((x, y) ∈ rs))) :=
  ev_opU1 (eu_tup (ea_cons h1 (ea_cons h2 ea_nil)) (by show 2 ≤ 100000; decide)) h3 fun p H1 hp e => rv_inD (.tup (st_of hp) (.cons (.int x) (.cons (.int y) .nil))) (LandAt.dpR (hR.mono e)) (pd_rd (x, y)) (pd_rds rs) (rd_mem (p := (x, y)))
end
end Sg
namespace Sg
set_option autoImplicit false
open PySem L2 Evl Big
open PyProof.Rows (envOfC)
section
variable {P : Program} {w : World} {K : PySem.W.Frag} {mg : Str → Option Value} {base : Heap} {ad : Ads}
/-- what the law asks of a land and its signs -/
structure Laid (K : PySem.W.Frag) (H : Hp) (lv sv : V) (n h : Int) (rs : List (Int × Int)) (s : List (Option Nat)) : Prop where
  land : LandAt K H lv n h rs
  signs : ∃ a, sv = .ref a ∧ SqL K H a (s.map nV)
  wf : Wf s.length s
  len : (s.length : Int) = n
  few : s.length ≤ 40
  home : 0 ≤ h ∧ h < n
  none_ : nx s h.toNat = none
theorem Laid.mono {H H' : Hp} {lv sv : V} {n h : Int} {rs : List (Int × Int)} {s : List (Option Nat)} (e : Ex H H') (g : Laid K H lv sv n h rs s) : Laid K H' lv sv n h rs s := by
  obtain ⟨h1, ⟨a, h2, h3⟩, h4, h5, h6, h7, h8⟩ := g
  exact ⟨h1.mono e, ⟨a, h2, ex_l e h3⟩, h4, h5, h6, h7, h8⟩

end
end Sg
namespace Sg
set_option autoImplicit false
open PySem L2 Evl Big
open PyProof.Rows (envOfC)
section
variable {P : Program} {w : World} {K : PySem.W.Frag} {mg : Str → Option Value} {base : Heap} {ad : Ads}
theorem orb_below {s : List (Option Nat)} {p k m a : Nat} (h : orb s p (k + m) = some a) : ∃ b, orb s p k = some b := by
  rw [orb_add] at h
  cases e : orb s p k with
  | none => rw [e] at h; cases h
  | some b => exact ⟨b, rfl⟩
theorem ends_at {s : List (Option Nat)} {p g k a : Nat} (w : Wf s.length s) (hp : p < s.length) (hg : nx s g = none) (hk : k ≤ s.length + 1) (ho : orb s p k = some a) (ht : ¬ (a ≠ g ∧ nx s a ≠ none ∧ k ≤ s.length)) :
    (a = g → endOf s p g = .home k) ∧ (a ≠ g → nx s a = none → endOf s p g = .stands a) ∧ (a ≠ g → nx s a ≠ none → ∃ c i, endOf s p g = .round c ∧ i < c.length ∧ c.length ≤ s.length ∧ IsRing s c ∧ (rot c i)[0]? = some a) := by
  have W := walkd_spec w hp
  have hlen := W.len_le w hp
  unfold endOf
  generalize (walkd s p).1 = way at W hlen
  generalize (walkd s p).2 = b at W
  cases b with
  | none =>
    have pos := W.pos
    have hq := lastP_get pos
    have hq2 : nx s (lastP way) = none := W.last _ hq
    have klt : k < way.length := by
      by_cases c : k < way.length
      · exact c
      · exfalso
        have e : k = way.length + (k - way.length) := by omega
        rw [e] at ho
        obtain ⟨b, hb⟩ := orb_below ho
        have e2 : orb s p way.length = (orb s p (way.length - 1)).bind (nx s) := by
          conv => lhs; rw [show way.length = (way.length - 1) + 1 by omega]
          rfl
        rw [e2, W.orb _ (by omega), hq] at hb
        have hb' : nx s (lastP way) = some b := hb
        rw [hq2] at hb'
        cases hb'
    have ha := (W.orb k klt).symm.trans ho
    have kl : k = way.length - 1 := by
      by_cases c : k = way.length - 1
      · exact c
      · exfalso
        have e := W.step k a _ ha (List.getElem?_eq_getElem (show k + 1 < way.length by omega))
        apply ht
        refine ⟨fun z => ?_, fun z => ?_, by omega⟩
        · rw [z, hg] at e; cases e
        · rw [z] at e; cases e
    have hl : a = lastP way := by
      rw [kl, hq] at ha
      exact (Option.some.inj ha).symm
    subst hl
    refine ⟨fun z => ?_, fun z _ => ?_, fun z z2 => absurd hq2 z2⟩
    · show (if ((lastP way : Nat) : Int) = (g : Int) then End.home (way.length - 1) else _) = _
      rw [if_pos (by rw [z]), ← kl]
    · show (if ((lastP way : Nat) : Int) = (g : Int) then End.home (way.length - 1) else _) = _
      rw [if_neg (by omega)]
  | some j =>
    have hj := W.ok j rfl
    have hna : nx s a ≠ none := by
      obtain ⟨i, x, _, hx, _⟩ := W.late (t := k + 1 + way.length) (by omega)
      obtain ⟨y, hy⟩ := orb_below hx
      have hy' : (orb s p k).bind (nx s) = some y := hy
      rw [ho] at hy'
      intro z
      have hy'' : nx s a = some y := hy'
      rw [z] at hy''
      cases hy''
    refine ⟨fun z => absurd hg (z ▸ hna), fun _ z => absurd z hna, fun z _ => ?_⟩
    have kn : way.length ≤ k := by
      by_cases c : way.length ≤ k
      · exact c
      · exact absurd ⟨z, hna, by omega⟩ ht
    obtain ⟨i, x, h1, h2, h3⟩ := W.late kn
    rw [ho] at h2
    cases h2
    exact ⟨_, i, rfl, h1, by rw [List.length_drop]; omega, W.ring, h3⟩
def kindS : End → Str
  | .home _ => "home"
  | .stands _ => "stands"
  | .round _ => "round"
def WhatAt (H H' : Hp) (x : V) : End → Prop
  | .home m => x = natV m
  | .stands q => x = natV q
  | .round c => ∃ l d, x = .ref l ∧ H l = none ∧ H' l = some (.lst (d.map natV)) ∧ Turns c d
theorem WhatAt.mono {H H1 H2 : Hp} {x : V} {e : End} (a : Ex H1 H2) (h : WhatAt H H1 x e) : WhatAt H H2 x e := by
  cases e with
  | home m => exact h
  | stands q => exact h
  | round c => obtain ⟨l, d, h1, h2, h3, h4⟩ := h; exact ⟨l, d, h1, h2, a _ _ h3, h4⟩
theorem WhatAt.back {H0 H H1 : Hp} {x : V} {e : End} (a : Ex H0 H) (h : WhatAt H H1 x e) : WhatAt H0 H1 x e := by
  cases e with
  | home m => exact h
  | stands q => exact h
  | round c => obtain ⟨l, d, h1, h2, h3, h4⟩ := h; exact ⟨l, d, h1, fresh_back a h2, h3, h4⟩
def EndAt (H : Hp) (s : List (Option Nat)) (p : Nat) (h : Int) (v : V) (H' : Hp) : Prop := ∃ t x, v = .ref t ∧ H t = none ∧ H' t = some (.tup [.str (kindS (endOf s p h)), x]) ∧ WhatAt H H' x (endOf s p h)
theorem EndAt.back {H0 H H1 : Hp} {s : List (Option Nat)} {p : Nat} {h : Int} {v : V} (a : Ex H0 H) (q : EndAt H s p h v H1) : EndAt H0 s p h v H1 := by
  obtain ⟨t, x, h1, h2, h3, h4⟩ := q
  exact ⟨t, x, h1, fresh_back a h2, h3, h4.back a⟩
def sp_law_end (K : PySem.W.Frag) : Sp := fun vs H Q _ => ∃ lv sv n h rs s p, vs = [lv, sv, natV p] ∧ Laid K H lv sv n h rs s ∧ p < s.length ∧ Give H (EndAt H s p h) Q
theorem ok_law_end (T : Txt K mg ad) : C8.Cal P w K mg base 1 "_law_end" (sp_law_end K) [] := by
  refine cal_of T.d__law_end sc__law_end (fun _ _ _ _ _ _ us hl => match us, hl with | [_, _, _], _ => rfl) (fun vs H Q E h => ?_) (fun f cdv A outer st H vs Q E hr h => ?_)
  · obtain ⟨lv, sv, n, h, rs, s, p, rfl, _⟩ := h; rfl
  · obtain ⟨lv, sv, n, h, rs, s, p, rfl, ⟨hL, ⟨a, rfl, hS⟩, w0, hn, h40, ⟨h0, h1⟩, hno⟩, hp, k⟩ := h
    obtain ⟨la, r, rfl, hT, hR⟩ := hL.ex
    refine ⟨_, (pss_cons (ps_set (i := 3) sc__law_end.nd rfl (Or.inl rfl) pe_int)
  (pss_cons (ps_while PassesOwn.never (PW.pt (pw_and (pt_cmpR op_ne (pv 2) (pe_ix (k_tup K) (pv 0) pe_int (fun _ _ => rfl)) (nomark _)) (pw_and (pt_cmpR op_notN (pe_ix (k_list K) (pv 1) (pv 2) (fun _ _ => rfl)) pe_non (nomark _)) (pw_and1 (pt_cmpR op_le (pv 3) (pe_ix (k_tup K) (pv 0) pe_int (fun _ _ => rfl)) (nomark _))))))
    (pss_one (ps_par (i := 2) (j := 3) (by rfl) sc__law_end.nd rfl rfl (by decide) rfl rfl (pa_cons (pe_ix (k_list K) (pv 1) (pv 2) (fun _ _ => rfl)) (pa_cons (pe_op op_add (pv 3) pe_int) pa_nil)) (by rfl))))
  (pss_cons (ps_if (pt_cmpR op_eq (pv 2) (pe_ix (k_tup K) (pv 0) pe_int (fun _ _ => rfl)) (nomark _)) (pss_one (ps_ret (pe_tup (pa_cons pe_str (pa_cons (pv 3) pa_nil))))) pss_nil)
  (pss_cons (ps_if (pt_cmpR op_isN (pe_ix (k_list K) (pv 1) (pv 2) (fun _ _ => rfl)) pe_non (nomark _)) (pss_one (ps_ret (pe_tup (pa_cons pe_str (pa_cons (pv 2) pa_nil))))) pss_nil)
  (pss_cons (ps_par (i := 4) (j := 5) (by rfl) sc__law_end.nd rfl rfl (by decide) rfl rfl (pa_cons (pe_lst (pa_cons (pv 2) pa_nil)) (pa_cons (pe_ix (k_list K) (pv 1) (pv 2) (fun _ _ => rfl)) pa_nil)) (by rfl))
  (pss_cons (ps_while PassesOwn.never (pt_cmpR op_ne (pv 5) (pv 2) (nomark _))
    (pss_cons (ps_expr (pe_bm PySem.F.plainAttrs_list PySem.F.slot_list_append PySem.F.type_list_append mt_append (pv 4) (pa_cons (pv 5) pa_nil)))
  (pss_one (ps_set (i := 5) sc__law_end.nd rfl (Or.inl rfl) (pe_ix (k_list K) (pv 1) (pv 5) (fun _ _ => rfl))))))
  (pss_one (ps_ret (pe_tup (pa_cons pe_str (pa_cons (pv 4) pa_nil))))))))))), ?_⟩
    obtain ⟨g, hg⟩ : ∃ g : Nat, h = (g : Int) := ⟨h.toNat, by omega⟩
    subst hg
    have hno : nx s g = none := hno
    have hg : g < s.length := by omega
    refine q_asg ev_c fun H1 a1 => ?_
    have homeE : ∀ {σ : L2.St} {H2 : Hp}, σ[0]? = some (some (.ref la)) → Ex H H2 → Ev (tOp (rIxT K) (tVar 0) (tC (.int 1))) σ H2 (.int (g : Int)) := fun h0 e => ev_op (ev_var h0) ev_c (rv_ixT (ex_t e hT) (atI_nat (j := 1) rfl))
    have manyE : ∀ {σ : L2.St} {H2 : Hp}, σ[0]? = some (some (.ref la)) → Ex H H2 → Ev (tOp (rIxT K) (tVar 0) (tC (.int 0))) σ H2 (.int n) := fun h0 e => ev_op (ev_var h0) ev_c (rv_ixT (ex_t e hT) (atI_nat (j := 0) rfl))
    have signE : ∀ {σ : L2.St} {H2 : Hp} {i x : Nat}, σ[1]? = some (some (.ref a)) → σ[i]? = some (some (natV x)) → x < s.length → Ex H H2 → Ev (tOp (rIxL K) (tVar 1) (tVar i)) σ H2 (nV (nx s x)) := fun h1 h2 hx e => ev_op (ev_var h1) (ev_var h2) (rv_ixL (ex_l e hS) (at_of (j := _) rfl (sign_at hx)))
    refine q_while (fun m σ' H' => ∃ k x, k ≤ s.length + 1 ∧ m = s.length + 1 - k ∧ orb s p k = some x ∧ x < s.length ∧ Ex H H' ∧ σ' = [some (.ref la), some (.ref a), some (natV x), some (natV k), none, none]) (s.length + 1) ⟨0, p, by omega, by omega, rfl, hp, a1, rfl⟩ ?_
    rintro m σ' H' ⟨i, x, b1, b2, b3, b4, b5, rfl⟩
    refine ⟨!decide (V.int (x : Int) = V.int (g : Int)) && (!decide (nV (nx s x) = .non) && decide ((i : Int) ≤ n)), et_and (et_test (ev_op (ev_var rfl) (homeE rfl b5) (rv_ne rfl))) fun _ => et_and (et_test (ev_op (signE rfl rfl b4 b5) ev_c rv_notN)) fun _ => et_test (ev_op (ev_var rfl) (manyE rfl b5) rv_I0), fun hb H2 a2 => ⟨fun σ2 H2 => ∃ x', orb s p (i + 1) = some x' ∧ x' < s.length ∧ i + 1 ≤ s.length + 1 ∧ Ex H H2 ∧ σ2 = [some (.ref la), some (.ref a), some (natV x'), some (natV (i + 1)), none, none], ?_, ?_⟩, fun hb H2 a2 => ?_⟩
    · rintro σ2 H3 ⟨x', c1, c2, c3, c4, c5⟩
      exact ⟨_, by omega, i + 1, x', c3, rfl, c1, c2, c4, c5⟩
    · simp only [Bool.and_eq_true, Bool.not_eq_true', decide_eq_false_iff_not, decide_eq_true_eq] at hb
      obtain ⟨_, hb2, hb3⟩ := hb
      obtain ⟨y, hy⟩ : ∃ y, nx s x = some y := by
        cases e : nx s x with
        | none => rw [e] at hb2; exact absurd rfl hb2
        | some y => exact ⟨y, rfl⟩
      have hy2 := w0.lt _ _ hy
      refine s_par2 (eap_v (signE rfl rfl b4 (b5.trans a2)) (eap_v (ev_op (ev_var rfl) ev_c rv_I0) eap_nil)) fun vs H3 a3 ⟨r1, e1, r2, e2, e3⟩ => ?_
      subst e3 e2 e1
      refine ⟨_, _, rfl, y, ?_, hy2, by omega, (b5.trans a2).trans a3, ?_⟩
      · show (orb s p i).bind (nx s) = some y
        rw [b3]; exact hy
      · rw [hy]; rfl
    · have ht : ¬ (x ≠ g ∧ nx s x ≠ none ∧ i ≤ s.length) := by
        rintro ⟨z1, z2, z3⟩
        obtain ⟨y, hy⟩ : ∃ y, nx s x = some y := by
          cases e : nx s x with
          | none => exact absurd e z2
          | some y => exact ⟨y, rfl⟩
        rw [hy] at hb
        have h1 : ¬ (V.int (x : Int) = V.int (g : Int)) := fun z => by injection z with z; exact z1 (by omega)
        have h2 : ¬ (nV (some y) = .non) := fun z => by cases z
        rw [decide_eq_false h1, decide_eq_false h2, decide_eq_true (by omega)] at hb
        cases hb
      obtain ⟨E1, E2, E3⟩ := ends_at w0 hp hno b1 b3 ht
      have b52 := b5.trans a2
      refine q_when (et_test (ev_op (ev_var rfl) (homeE rfl b52) (rv_eq rfl))) (fun hb H3 a3 => ?_) fun hb H3 a3 => ?_
      · have e : x = g := by
          have z := of_decide_eq_true hb
          injection z with z
          omega
        have ee := E1 e
        refine s_retU (eu_tup (ea_cons ev_c (ea_cons (ev_var rfl) ea_nil)) (by show 2 ≤ 100000; decide)) fun t H4 ht0 a4 h4 => k _ _ (b52.trans a3 |>.trans a4) ⟨t, natV i, rfl, fresh_back (b52.trans a3) ht0, ?_, ?_⟩
        · rw [ee]; exact h4
        · rw [ee]; rfl
      · have e : x ≠ g := fun z => by
          have z2 := of_decide_eq_false hb
          exact z2 (by rw [z]; rfl)
        have b53 := b52.trans a3
        refine q_when (et_test (ev_op (signE rfl rfl b4 b53) ev_c rv_isN)) (fun hb H4 a4 => ?_) fun hb H4 a4 => ?_
        · have hx : nx s x = none := by
            have z := of_decide_eq_true hb
            cases e : nx s x with
            | none => rfl
            | some y => rw [e] at z; cases z
          have ee := E2 e hx
          refine s_retU (eu_tup (ea_cons ev_c (ea_cons (ev_var rfl) ea_nil)) (by show 2 ≤ 100000; decide)) fun t H5 ht0 a5 h5 => k _ _ (b53.trans a4 |>.trans a5) ⟨t, natV x, rfl, fresh_back (b53.trans a4) ht0, ?_, ?_⟩
          · rw [ee]; exact h5
          · rw [ee]; rfl
        · obtain ⟨y, hy⟩ : ∃ y, nx s x = some y := by
            have z := of_decide_eq_false hb
            cases e : nx s x with
            | none => rw [e] at z; exact absurd rfl z
            | some y => exact ⟨y, rfl⟩
          obtain ⟨c, i0, ee, hi0, hcl, R0, hd0⟩ := E3 e (by rw [hy]; simp)
          have R := R0.rot hi0
          have hdl : (rot c i0).length ≤ 40 := by rw [rot_len]; omega
          have tc : Turns c (rot c i0) := ⟨i0, hi0, rfl⟩
          generalize rot c i0 = d at R hdl tc hd0
          have hdp := R.pos
          have b54 := b53.trans a4
          refine q_par2 (eap_l (el_lst (ea_cons (ev_var rfl) ea_nil) (by show 1 ≤ 100000; decide)) (eap_v (signE rfl rfl b4 b54) eap_nil)) fun vs H5 a5 ⟨l, r1, e1, hl0, hl, v, e2, e3⟩ => ?_
          subst e3 e2 e1
          refine ⟨_, _, rfl, ?_⟩
          have hl0 := fresh_back b54 hl0
          have b55 := b54.trans a5
          refine q_while (fun m σ' H' => ∃ k y, 1 ≤ k ∧ k ≤ d.length ∧ m = d.length - k ∧ y < s.length ∧ (k < d.length → d[k]? = some y) ∧ (k = d.length → y = x) ∧ Ex H H' ∧ H' l = some (.lst ((d.take k).map natV)) ∧ σ' = [some (.ref la), some (.ref a), some (natV x), some (natV i), some (.ref l), some (natV y)]) (d.length - 1) ⟨1, y, Nat.le_refl _, hdp, rfl, w0.lt _ _ hy, fun h1 => ?_, fun h1 => ?_, b55, ?_, ?_⟩ ?_
          · rw [← hy]
            have z := R.step 0 x _ hd0 (List.getElem?_eq_getElem h1)
            rw [z]; exact List.getElem?_eq_getElem h1
          · have z := R.last x (by rw [← h1]; exact hd0)
            rw [hy, hd0] at z
            exact Option.some.inj z
          · rw [hl]
            have : d.take 1 = [x] := by
              cases d with
              | nil => cases hd0
              | cons u v => cases hd0; rfl
            rw [this]; rfl
          · rw [hy]; rfl
          · rintro m σ' H' ⟨kk, z, c1, c2, c3, c4, c5, c6, c7, c8, rfl⟩
            refine ⟨_, et_test (ev_op (ev_var rfl) (ev_var rfl) (rv_ne rfl)), fun hb H6 a6 => ⟨fun σ2 H2 => ∃ z', z' < s.length ∧ kk < d.length ∧ (kk + 1 < d.length → d[kk + 1]? = some z') ∧ (kk + 1 = d.length → z' = x) ∧ Ex H H2 ∧ H2 l = some (.lst ((d.take (kk + 1)).map natV)) ∧ σ2 = [some (.ref la), some (.ref a), some (natV x), some (natV i), some (.ref l), some (natV z')], ?_, ?_⟩, fun hb H6 a6 => ?_⟩
            · rintro σ2 H7 ⟨z', d1, d2, d3, d4, d5, d6, d7⟩
              exact ⟨_, by omega, kk + 1, z', by omega, by omega, rfl, d1, d3, d4, d5, d6, d7⟩
            · have hzx : z ≠ x := fun q => by
                have hb' : (!decide (natV z = natV x)) = true := hb
                rw [q] at hb'
                simp at hb'
              have klt : kk < d.length := by
                by_cases q : kk < d.length
                · exact q
                · exact absurd (c6 (by omega)) hzx
              have hz := c5 klt
              have hl6 := a6 _ _ c8
              refine q_app (K := K) (v := natV z) hl6 (ev_var rfl) (ev_var rfl) (by rw [List.length_map, List.length_take]; omega) fun H7 a7 => ?_
              have e7 := Ex.mut (o := .lst ((d.take kk).map natV ++ [natV z])) ((c7.trans a6).trans a7) hl0
              refine s_asg (signE rfl rfl c4 e7) fun H8 a8 => ?_
              have hnz : ∃ z', nx s z = some z' ∧ (kk + 1 < d.length → d[kk + 1]? = some z') ∧ (kk + 1 = d.length → z' = x) := by
                by_cases q : kk + 1 < d.length
                · have g1 := List.getElem?_eq_getElem q
                  exact ⟨_, R.step kk z _ hz g1, fun _ => g1, fun q2 => by omega⟩
                · have q2 := R.last z (by rw [show d.length - 1 = kk by omega]; exact hz)
                  rw [hd0] at q2
                  exact ⟨x, q2, fun q3 => absurd q3 q, fun _ => rfl⟩
              obtain ⟨z', q1, q2, q3⟩ := hnz
              refine ⟨z', w0.lt _ _ q1, klt, q2, q3, e7.trans a8, ?_, ?_⟩
              · refine a8 _ _ ?_
                rw [upd_same, List.take_succ, hz, List.map_append]
                rfl
              · rw [q1]; rfl
            · have hzx : z = x := by
                have hb' : (!decide (natV z = natV x)) = false := hb
                simp only [Bool.not_eq_false', decide_eq_true_eq] at hb'
                injection hb' with hb'
                omega
              have kl : kk = d.length := by
                by_cases q : kk = d.length
                · exact q
                · exfalso
                  have q1 := c5 (by omega)
                  rw [hzx, ← hd0] at q1
                  have q2 := (List.getElem?_inj (show kk < d.length by omega) R.nd).mp q1
                  omega
              subst kl
              rw [List.take_length] at c8
              refine s_retU (eu_tup (ea_cons ev_c (ea_cons (ev_var rfl) ea_nil)) (by show 2 ≤ 100000; decide)) fun t H7 ht0 a7 h7 => k _ _ (c7.trans a6 |>.trans a7) ⟨t, .ref l, rfl, fresh_back (c7.trans a6) ht0, ?_, ?_⟩
              · rw [ee]; exact h7
              · rw [ee]; exact ⟨l, d, rfl, hl0, a7 _ _ (a6 _ _ c8), tc⟩

end
end Sg
namespace Sg
set_option autoImplicit false
open PySem L2 Evl Big
open PyProof.Rows (envOfC)
section
variable {P : Program} {w : World} {K : PySem.W.Frag} {mg : Str → Option Value} {base : Heap} {ad : Ads}
theorem end_home {s : List (Option Nat)} {p g : Nat} (w : Wf s.length s) (hp : p < s.length) (hg : nx s g = none) : decide (V.str (kindS (endOf s p g)) = V.str "home") = reachB s g p := by
  have W := walkd_spec w hp
  unfold endOf reachB
  generalize (walkd s p).1 = way at W
  generalize (walkd s p).2 = b at W
  rw [decide_eq_decide]
  cases b with
  | none =>
    have hq := lastP_get W.pos
    rw [W.reach_none hg hq]
    show V.str (kindS (if ((lastP way : Nat) : Int) = (g : Int) then .home (way.length - 1) else .stands (lastP way))) = _ ↔ _
    by_cases c : lastP way = g
    · rw [if_pos (by rw [c])]
      exact ⟨fun _ => c, fun _ => rfl⟩
    · rw [if_neg (by omega)]
      exact ⟨(fun z => nomatch z), fun z => absurd z c⟩
  | some j => exact ⟨(fun z => nomatch z), fun z => absurd z (W.reach_round hg)⟩
def sp_law_home (K : PySem.W.Frag) : Sp := fun vs H Q _ => ∃ lv sv n h rs s, vs = [lv, sv] ∧ Laid K H lv sv n h rs s ∧ RetL ((comers s h.toNat).map natV) H Q
theorem ok_law_home (T : Txt K mg ad) : C8.Cal P w K mg base 2 "_law_home" (sp_law_home K) [] := by
  have c__law_end : C8.Cal P w K mg base 1 "_law_end" (sp_law_end K) [] := ok_law_end T
  refine cal_of T.d__law_home sc__law_home (fun _ _ _ _ _ _ us hl => match us, hl with | [_, _], _ => rfl) (fun vs H Q E h => ?_) (fun f cdv A outer st H vs Q E hr h => ?_)
  · obtain ⟨lv, sv, n, h, rs, s, rfl, _⟩ := h; rfl
  · obtain ⟨lv, sv, n, h, rs, s, rfl, g, k⟩ := h
    have g0 := g
    obtain ⟨hL, ⟨a, rfl, hS⟩, w0, hn, h40, ⟨h0, h1⟩, hno⟩ := g0
    obtain ⟨la, r, rfl, hT, hR⟩ := hL.ex
    refine ⟨_, (pss_one (ps_ret (pe_lc (own := [("_law_place", 2)]) (g := _) (tt := _) rfl sc__law_home.nd (pi_range1 rfl T.n_range (pa_cons (pe_ix (k_tup K) (pv 0) pe_int (fun _ _ => rfl)) pa_nil)) (blkOk_by (N := N__law_home) (sc := C8.fnScope st__law_home) (by decide +kernel)) (fun _ _ _ _ _ => (pg_name (i := 2) sc__law_home.nd rfl (Or.inl rfl))) (fun _ _ _ _ _ => (pts_one (pt_cmpR op_eq (pe_ix (k_tup K) (C8.pe_c c__law_end hr (by decide) rfl (pa_cons (pv 0) (pa_cons (pv 1) (pa_cons (pv 2) pa_nil)))) pe_int (fun _ _ => rfl)) pe_str (nomark _)))) (fun _ _ _ _ _ => (pv 2))))), ?_⟩
    refine s_retL (xs := (comers s h.toNat).map natV) ?_ fun p H1 hp e h1 => k p H1 hp e h1
    have q := el_filtR (n := n) (σ := start N__law_home [.ref la, .ref a]) (H := H) (j := 2) (reachB s h.toNat) natV (ea_cons (ev_op (ev_var (i := 0) rfl) ev_c (rv_ixT hT (atI_nat (j := 0) rfl))) ea_nil) (by omega) (t := tTest (tOp rEq (tOp (rIxT K) (tCall (sp_law_end K) [] C8.E0 (tCons (tVar 0) (tCons (tVar 1) (tCons (tVar 2) tNil)))) (tC (.int 0))) (tC (.str "home")))) (te := tVar 2) (fun i H1 e hi => ?_) (fun i H1 e hi _ => ev_var rfl)
    · rw [show n.toNat = s.length by omega] at q
      exact q
    · refine et_is (et_test (ev_op (ev_opP (evp_call (Post := EndAt H1 s i h) (ea_cons (ev_var rfl) (ea_cons (ev_var rfl) (ea_cons (ev_var rfl) ea_nil))) fun H2 e2 Q q E => ⟨_, _, n, h, rs, s, i, rfl, (g.mono e).mono e2, by omega, fun v H3 e3 z => q v H3 e3 (z.back e2)⟩) fun x H2 e2 ⟨t, x0, z1, z2, z3, z4⟩ => ?_) ev_c (rv_eq (x := .str (kindS (endOf s i h))) rfl))) ?_
      · subst z1
        exact ⟨_, ev_c, rv_ixT (st_of z3) (atI_nat (j := 0) rfl)⟩
      · have z := end_home (p := i) w0 (by omega) hno
        rw [show ((h.toNat : Nat) : Int) = h by omega] at z
        exact z

end
end Sg
namespace Sg
set_option autoImplicit false
open PySem L2 Evl Big
open PyProof.Rows (envOfC)
section
variable {P : Program} {w : World} {K : PySem.W.Frag} {mg : Str → Option Value} {base : Heap} {ad : Ads}
def sp_law_number (K : PySem.W.Frag) : Sp := fun vs H Q _ => ∃ c w : Int, ∃ t : Int, vs = [.int c, .int t, .int w] ∧ 0 ≤ t ∧ t ≤ 1000 ∧ Give H (fun v _ => ∃ z : Int, v = .int z) Q
theorem nab {i : Int} {a : Nat} (h0 : 0 ≤ i) (h : i < (2 : Int) ^ a) : i.natAbs < 2 ^ a := by
  have e : ((i.natAbs : Nat) : Int) = i := Int.natAbs_of_nonneg h0
  have h2 : ((i.natAbs : Nat) : Int) < ((2 ^ a : Nat) : Int) := by
    rw [e]
    simpa using h
  exact Int.ofNat_lt.mp h2
theorem ok_law_number (T : Txt K mg ad) : C8.Cal P w K mg base 1 "_law_number" (sp_law_number K) [] := by
  refine cal_of T.d__law_number sc__law_number (fun _ _ _ _ _ _ us hl => match us, hl with | [_, _, _], _ => rfl) (fun vs H Q E h => ?_) (fun f cdv A outer st H vs Q E hr h => ?_)
  · obtain ⟨c, w, t, rfl, _⟩ := h; rfl
  · obtain ⟨c, w, t, rfl, t0, t1, k⟩ := h
    refine ⟨_, (pss_cons (ps_if (pt_cmpR op_ge (pv 0) (pe_op op_pow pe_int pe_int) (nomark _)) (pss_one (ps_ret (pe_op op_fdiv (pv 0) (pe_op op_add pe_int (pe_op op_mod (pv 1) pe_int))))) pss_nil)
  (pss_cons (ps_set (i := 3) sc__law_number.nd rfl (Or.inl rfl) (pe_op op_mod (pv 0) (pe_op op_pow pe_int pe_int)))
  (pss_cons (ps_set (i := 4) sc__law_number.nd rfl (Or.inl rfl) (pe_op op_mod (pe_op op_add (pe_op op_mulW (pe_op op_add (pv 3) (pe_op op_mulW pe_int (pv 1))) pe_int) (pv 2)) pe_int))
  (pss_cons (ps_set (i := 5) sc__law_number.nd rfl (Or.inl rfl) (pe_op op_mulW (pv 4) (pe_op op_add (pe_op op_add (pv 3) (pe_op op_mulW pe_int (pv 1))) pe_int)))
  (pss_one (ps_ret (pe_op op_fdiv (pe_op op_mulW (pe_op op_mulW (pv 5) (pe_op op_add (pe_op op_add (pv 4) (pv 3)) pe_int)) (pe_op op_add (pe_op op_mulW (pv 4) (pv 4)) pe_int)) (pe_op op_add pe_int (pv 1))))))))), ?_⟩
    have p18 : ∀ {σ : L2.St} {H1 : Hp}, Ev (tOp (rI CPow fun i j => .int (i ^ j.toNat)) (tC (.int 10)) (tC (.int 18))) σ H1 (.int 1000000000000000000) := fun {σ H1} => ev_op ev_c ev_c (rv_I (C := CPow) (g := fun i j => .int (i ^ j.toNat)) ⟨by decide, by decide, by decide⟩)
    refine q_when (et_test (ev_op (ev_var rfl) p18 rv_I0)) (fun hb H1 a1 => ?_) fun hb H1 a1 => ?_
    · refine s_ret (ev_op (ev_var rfl) (ev_op ev_c (ev_op (ev_var rfl) ev_c (rv_I (C := fun _ j => 0 < j) (by decide))) rv_I0) (rv_I (C := CDiv) ⟨?_, ?_⟩)) fun H2 a2 => k _ _ (a1.trans a2) ⟨_, rfl⟩
      · omega
      · omega
    · have s0 : 0 ≤ c % 1000000000000000000 := Int.emod_nonneg _ (by decide)
      have s1 : c % 1000000000000000000 < 1000000000000000000 := Int.emod_lt_of_pos _ (by decide)
      refine q_asg (ev_op (ev_var rfl) p18 (rv_I (C := fun _ j => 0 < j) (by decide))) fun H2 a2 => ?_
      generalize c % 1000000000000000000 = s at s0 s1
      have b0 : 0 ≤ ((s + 977 * t) * 48271 + w) % 2147483647 := Int.emod_nonneg _ (by decide)
      have b1 : ((s + 977 * t) * 48271 + w) % 2147483647 < 2147483647 := Int.emod_lt_of_pos _ (by decide)
      refine q_asg (ev_op (ev_op (ev_op (ev_op (ev_var rfl) (ev_op ev_c (ev_var rfl) (rv_I (C := CMulW) (wide_mul (a := 10) (b := 10) (by decide) (nab t0 (by omega)) (by decide) (by decide) (by decide)))) rv_I0) ev_c
        (rv_I (C := CMulW) (wide_mul (a := 61) (b := 16) (nab (by omega) (by omega)) (by decide) (by decide) (by decide) (by decide)))) (ev_var rfl) rv_I0) ev_c (rv_I (C := fun _ j => 0 < j) (by decide))) fun H3 a3 => ?_
      generalize ((s + 977 * t) * 48271 + w) % 2147483647 = b at b0 b1
      have hb31 : b.natAbs < 2 ^ 31 := nab b0 (by omega)
      have h31 : (s + 31 * t + 7).natAbs < 2 ^ 61 := nab (by omega) (by omega)
      refine q_asg (ev_op (ev_var rfl) (ev_op (ev_op (ev_var rfl) (ev_op ev_c (ev_var rfl) (rv_I (C := CMulW) (wide_mul (a := 5) (b := 10) (by decide) (nab t0 (by omega)) (by decide) (by decide) (by decide)))) rv_I0) ev_c rv_I0)
        (rv_I (C := CMulW) (wide_mul hb31 h31 (by decide) (by decide) (by decide)))) fun H4 a4 => ?_
      have hm : (b * (s + 31 * t + 7)).natAbs < 2 ^ 92 := wide_lt hb31 h31
      generalize b * (s + 31 * t + 7) = m at hm
      have h5 : (b + s + 5).natAbs < 2 ^ 61 := nab (by omega) (by omega)
      have hbb : (b * b).natAbs < 2 ^ 62 := wide_lt hb31 hb31
      have hbb2 : (b * b + 11).natAbs < 2 ^ 63 := by
        have z := Int.natAbs_add_le (b * b) 11
        have z2 : (11 : Int).natAbs = 11 := rfl
        omega
      refine s_ret (ev_op (ev_op (ev_op (ev_var rfl) (ev_op (ev_op (ev_var rfl) (ev_var rfl) rv_I0) ev_c rv_I0) (rv_I (C := CMulW) (wide_mul hm h5 (by decide) (by decide) (by decide))))
        (ev_op (ev_op (ev_var rfl) (ev_var rfl) (rv_I (C := CMulW) (wide_mul hb31 hb31 (by decide) (by decide) (by decide)))) ev_c rv_I0) (rv_I (C := CMulW) (wide_mul (wide_lt hm h5) hbb2 (by decide) (by decide) (by decide))))
        (ev_op ev_c (ev_var rfl) rv_I0) (rv_I (C := CDiv) ⟨by omega, by omega⟩)) fun H5 a5 => k _ _ ((((a1.trans a2).trans a3).trans a4).trans a5) ⟨_, rfl⟩

end
end Sg
namespace Sg
set_option autoImplicit false
open PySem L2 Evl Big
open PyProof.Rows (envOfC)
section
variable {P : Program} {w : World} {K : PySem.W.Frag} {mg : Str → Option Value} {base : Heap} {ad : Ads}
/-- the roads found so far, as the dict's pairs -/
def fKey (p : Int × Int) : List Key := [Sum.inl p.1, Sum.inl p.2]
def fndK (F : List (Int × Int)) : List (List Key × V) := F.map fun p => (fKey p, V.bl true)
theorem fKey_inj {p q : Int × Int} (h : fKey p = fKey q) : p = q := by
  unfold fKey at h
  injection h with h1 h
  injection h1 with h1
  injection h with h2 _
  injection h2 with h2
  cases p; cases q; simp_all
def addR (F : List (Int × Int)) (p : Int × Int) : List (Int × Int) := if p ∈ F then F else F ++ [p]
theorem fndK_put (F : List (Int × Int)) (p : Int × Int) : putK (fndK F) (fKey p) (.bl true) = fndK (addR F p) := by
  unfold putK addR
  have ha : ((fndK F).any fun kv => decide (kv.1 = fKey p)) = decide (p ∈ F) := by
    rw [Bool.eq_iff_iff, List.any_eq_true, decide_eq_true_eq]
    constructor
    · rintro ⟨kv, hm, e⟩
      obtain ⟨q, hq, rfl⟩ := List.mem_map.mp hm
      rw [decide_eq_true_eq] at e
      rw [← fKey_inj e]; exact hq
    · intro hm
      exact ⟨(fKey p, .bl true), List.mem_map.mpr ⟨p, hm, rfl⟩, decide_eq_true rfl⟩
  rw [ha]
  by_cases c : p ∈ F
  · rw [if_pos (decide_eq_true c), if_pos c]
    unfold fndK
    rw [List.map_map]
    refine List.map_congr_left fun q _ => ?_
    show (if fKey q = fKey p then (fKey q, V.bl true) else (fKey q, V.bl true)) = _
    rw [ite_self]
  · rw [if_neg (by rw [decide_eq_false c]; simp), if_neg c]
    unfold fndK
    rw [List.map_append]
    rfl
theorem addR_nodup {F : List (Int × Int)} {p : Int × Int} (h : F.Nodup) : (addR F p).Nodup := by
  unfold addR
  split
  · exact h
  · rename_i c
    rw [List.nodup_append]
    refine ⟨h, by simp, fun a ha b hb e => ?_⟩
    rw [List.mem_singleton] at hb
    subst hb; subst e
    exact c ha
theorem addR_mem {F : List (Int × Int)} {p q : Int × Int} : q ∈ addR F p ↔ q ∈ F ∨ q = p := by
  unfold addR
  split
  · rename_i c
    constructor
    · exact .inl
    · rintro (h | rfl)
      · exact h
      · exact c
  · rw [List.mem_append, List.mem_singleton]
theorem addR_len {F : List (Int × Int)} {p : Int × Int} : (addR F p).length ≤ F.length + 1 := by
  unfold addR
  split
  · exact Nat.le_succ _
  · rw [List.length_append]; exact Nat.le_refl _
/-- a pair's two numbers, read off the heap -/
def prH (H : Hp) : V → Int × Int
  | .ref t => match H t with
    | some (.tup [.int a, .int b]) => (a, b)
    | _ => (0, 0)
  | _ => (0, 0)
def adV : V → Addr
  | .ref t => t
  | _ => 0
theorem prH_of {H : Hp} {t : Addr} {a b : Int} (h : H t = some (.tup [.int a, .int b])) : prH H (.ref t) = (a, b) := by
  simp only [prH, h]
/-- the keys' tuples -/
theorem keys_at {H : Hp} : ∀ (F : List (Int × Int)) (bs : List Addr), IsKeys H (fndK F) bs → ∃ ks : List (Addr × (Int × Int)), ks.map (·.1) = bs ∧ ks.map (·.2) = F ∧ ∀ p ∈ ks, H p.1 = some (.tup [.int p.2.1, .int p.2.2])
  | [], _, .nil => ⟨[], rfl, rfl, fun p h => by cases h⟩
  | f :: F, _, .cons (b := b) h t => by
    obtain ⟨ks, e1, e2, e3⟩ := keys_at F _ t
    refine ⟨(b, f) :: ks, by rw [List.map_cons, e1], by rw [List.map_cons, e2], fun p hp => ?_⟩
    rcases List.mem_cons.mp hp with rfl | hp
    · exact h
    · exact e3 p hp
theorem ris_of {ds : List (Int × Int)} (h : ds.Pairwise fun p q => p.1 < q.1 ∨ (p.1 = q.1 ∧ p.2 < q.2)) : risD (ds.map rdD) = true := by
  unfold risD
  rw [List.all_eq_true]
  intro k hk
  have hk' := List.mem_range.mp hk
  rw [List.length_map] at hk'
  have e1 := List.getElem?_eq_getElem (show k < ds.length by omega)
  have e2 := List.getElem?_eq_getElem (show k + 1 < ds.length by omega)
  have q := (List.pairwise_iff_getElem.mp h) k (k + 1) (by omega) (by omega) (by omega)
  generalize ds[k] = a at e1 q
  generalize ds[k + 1] = b at e2 q
  rw [List.getD_eq_getElem?_getD, List.getD_eq_getElem?_getD, List.getElem?_map, List.getElem?_map, e1, e2]
  show HT.lexLt [a.1, a.2] [b.1, b.2] = true
  simp only [HT.lexLt]
  by_cases c : a.1 = b.1
  · rw [if_pos c]
    have : a.2 < b.2 := by omega
    rw [if_neg (by omega), decide_eq_true_eq]
    exact this
  · rw [if_neg c, decide_eq_true_eq]
    omega
theorem landOk_mk {n h : Int} {rs : List (Int × Int)} (n1 : 1 ≤ n) (n40 : n ≤ 40) (h0 : 0 ≤ h) (hn : h < n) (few : rs.length ≤ 120) (rd : ∀ p ∈ rs, 0 ≤ p.1 ∧ p.1 < n ∧ 0 ≤ p.2 ∧ p.2 < n ∧ p.1 ≠ p.2) (rise : rs.Pairwise fun p q => p.1 < q.1 ∨ (p.1 = q.1 ∧ p.2 < q.2)) : LandOk n h rs := by
  show ((decide (1 ≤ n) && decide (n ≤ 40)) && (placeD n (.int h) && roadsD n (.list (rs.map rdD)))) = true
  simp only [placeD, roadsD, Bool.and_eq_true, decide_eq_true_eq, List.length_map, List.all_map, List.all_eq_true]
  refine ⟨⟨n1, n40⟩, ⟨h0, hn⟩, few, fun p hp => ?_, ris_of rise⟩
  obtain ⟨a1, a2, a3, a4, a5⟩ := rd p hp
  show (placeD n (.int p.1) && (placeD n (.int p.2) && neD (.int p.1) (.int p.2))) = true
  simp only [placeD, neD, Bool.and_eq_true, decide_eq_true_eq, Bool.not_eq_true', decide_eq_false_iff_not]
  exact ⟨⟨a1, a2⟩, ⟨a3, a4⟩, a5⟩
/-- what the law's maker of lands tells: a new land, new signs along its roads (those that are not cut off) -/
structure Made (H H' : Hp) (v : V) (most n h : Int) (all : List (Int × Int)) (s : List (Option Nat)) : Prop where
  at_ : ∃ t lt r sg, ∃ ks : List (Addr × List Int), v = .ref t ∧ H' t = some (.tup [.ref lt, .ref sg]) ∧ H' lt = some (.tup [.int n, .int h, .ref r]) ∧ H' r = some (.lst (ks.map fun p => V.ref p.1)) ∧ (∀ p ∈ ks, H' p.1 = some (.tup (p.2.map V.int))) ∧
    ks.map (·.2) = (all.take 120).map (fun q => [q.1, q.2]) ∧ H' sg = some (.lst (s.map nV)) ∧ H t = none ∧ H lt = none ∧ H r = none ∧ H sg = none
  ok : LandOk n h (all.take 120)
  most : n ≤ most
  len : (s.length : Int) = n
  home : nx s h.toNat = none
  along : ∀ p q : Nat, nx s p = some q → (q : Int) < n ∧ ((p : Int), (q : Int)) ∈ all
  few : (all.length : Int) ≤ 4 * n
def sp_law_land (K : PySem.W.Frag) : Sp := fun vs H Q _ => ∃ (sa : Addr) (ns : List Int) (by_ most : Int), vs = [.ref sa, .int by_, .int most] ∧ SqL K H sa (ns.map V.int) ∧ ns.length ≤ 63 ∧ 0 ≤ by_ ∧ by_ ≤ 100 ∧ 1 ≤ most ∧ most ≤ 40 ∧ Give H (fun v H' => ∃ n h all s, Made H H' v most n h all s) Q
def cells (ns : List Int) : List Int := if ns = [] then [5] else ns.take 63
theorem cells_len (ns : List Int) : 0 < (cells ns).length ∧ (cells ns).length ≤ 63 := by
  unfold cells
  split
  · exact ⟨by decide, by decide⟩
  · rename_i c
    have : ns.length ≠ 0 := fun z => c (List.length_eq_zero_iff.mp z)
    rw [List.length_take]
    omega
theorem four_ix (L : List Int) (hl : L.length = 4) {k : Nat} (hk : k < 4) : atI (L.map V.int) (k : Int) = some (V.int (L.getD k 0)) := by
  refine atI_nat ?_
  rw [List.getElem?_map, List.getD_eq_getElem?_getD, List.getElem?_eq_getElem (show k < L.length by omega)]
  rfl
theorem ev_four {σ : L2.St} {H : Hp} {tb : TE} {a b c d : Int} {k : Nat} (h : ∀ H1, Ex H H1 → Ev tb σ H1 (.int (k : Int))) (hk : k < 4) : Ev (tOp (rIxT K) (tTup (tCons (tC (.int a)) (tCons (tC (.int b)) (tCons (tC (.int c)) (tCons (tC (.int d)) tNil))))) tb) σ H (.int ([a, b, c, d].getD k 0)) :=
  ev_opU1 (eu_tup (ea_cons ev_c (ea_cons ev_c (ea_cons ev_c (ea_cons ev_c ea_nil)))) (by show 4 ≤ 100000; decide)) h fun p H1 hp e => rv_ixT (st_of hp) (four_ix [a, b, c, d] rfl hk)
theorem nx_left {s t : List (Option Nat)} {p : Nat} (h : p < s.length) : nx (s ++ t) p = nx s p := by
  unfold nx
  rw [List.getElem?_append_left h]
theorem nx_right {s : List (Option Nat)} {x : Option Nat} {p : Nat} (h : s.length ≤ p) : nx (s ++ [x]) p = if p = s.length then x else none := by
  unfold nx
  rw [List.getElem?_append_right h]
  by_cases c : p = s.length
  · rw [if_pos c, c, Nat.sub_self]; rfl
  · rw [if_neg c, List.getElem?_eq_none (by simp; omega)]; rfl
theorem ok_law_land (T : Txt K mg ad) : C8.Cal P w K mg base 2 "_law_land" (sp_law_land K) [] := by
  have c__law_number : C8.Cal P w K mg base 1 "_law_number" (sp_law_number K) [] := ok_law_number T
  refine cal_of T.d__law_land sc__law_land (fun _ _ _ _ _ _ us hl => match us, hl with | [_, _, _], _ => rfl) (fun vs H Q E h => ?_) (fun f cdv A outer st H vs Q E hr h => ?_)
  · obtain ⟨sa, ns, by_, most, rfl, _⟩ := h; rfl
  · obtain ⟨sa, ns, by_, most, rfl, hS, hns, y0, y1, m1, m40, k⟩ := h
    have hu := hu_of hr
    refine ⟨_, (pss_cons (ps_set (i := 3) sc__law_land.nd rfl (Or.inl rfl) (pe_ifExp (pt_cmpR (k_neD K hr.units) (pv 0) (pe_lst pa_nil) (nomark _)) (pe_slice (k_sl K) (pv 0) po_none (po_some pe_int)) (pe_lst (pa_cons pe_int pa_nil))))
  (pss_cons (ps_par3 (i := 4) (j := 5) (l := 6) (by rfl) sc__law_land.nd rfl rfl rfl (by decide) (by decide) (by decide) rfl rfl rfl (pa_cons (pe_op op_add (pe_callB call_abs (by rfl) T.n_abs (by decide +kernel) (pa_cons (pe_callB (k_sum K rfl) (by rfl) T.n_sum (by decide +kernel) (pa_cons (pv 3) pa_nil)) pa_nil)) (pe_op op_mulW pe_int (pv 1))) (pa_cons pe_dnewT (pa_cons (pe_lst pa_nil) pa_nil))) (by rfl))
  (pss_cons (ps_set (i := 7) sc__law_land.nd rfl (Or.inl rfl) (pe_op op_add pe_int (pe_op op_mod (pv 4) (pv 2))))
  (pss_cons (ps_par (i := 8) (j := 9) (by rfl) sc__law_land.nd rfl rfl (by decide) rfl rfl (pa_cons (pe_op op_mod (pe_op op_fdiv (pv 4) pe_int) (pv 7)) (pa_cons (pe_op op_mod (pe_op op_fdiv (pv 4) pe_int) pe_int) pa_nil)) (by rfl))
  (pss_cons (ps_for PassesOwn.never rfl (pi_range1 rfl T.n_range (pa_cons (pv 7) pa_nil)) (pg_name (i := 10) sc__law_land.nd rfl (Or.inl rfl))
    (pss_cons (ps_set (i := 11) sc__law_land.nd rfl (Or.inl rfl) (pe_op op_fdiv (pe_callB call_abs (by rfl) T.n_abs (by decide +kernel) (pa_cons (C8.pe_c c__law_number hr (by decide) rfl (pa_cons (pe_op op_add (pe_ix (k_list K) (pv 3) (pe_op op_mod (pe_op op_add (pv 10) (pv 1)) (pe_callB (k_len K) (by rfl) T.n_len PySem.boot_len (pa_cons (pv 3) pa_nil))) (fun _ _ => rfl)) (pv 10)) (pa_cons (pe_op op_add (pv 10) (pv 1)) (pa_cons (pv 4) pa_nil)))) pa_nil)) pe_int))
  (pss_cons (ps_set (i := 12) sc__law_land.nd rfl (Or.inl rfl) (pe_lst pa_nil))
  (pss_cons (ps_for PassesOwn.never rfl (pi_range1 rfl T.n_range (pa_cons (pe_op op_add (pe_op op_mod (pv 11) (pe_ix (k_tup K) (pe_tup (pa_cons pe_int (pa_cons pe_int (pa_cons pe_int (pa_cons pe_int pa_nil))))) (pv 9) (fun _ _ => rfl))) (pe_ifExp (pt_cmpR op_gt (pv 9) pe_int (nomark _)) pe_int pe_int)) pa_nil)) (pg_name (i := 13) sc__law_land.nd rfl (Or.inl rfl))
    (pss_cons (ps_set (i := 14) sc__law_land.nd rfl (Or.inl rfl) (pe_op op_fdiv (pv 11) (pe_ix (k_tup K) (pe_tup (pa_cons pe_int (pa_cons pe_int (pa_cons pe_int (pa_cons pe_int pa_nil))))) (pv 13) (fun _ _ => rfl))))
  (pss_cons (ps_set (i := 15) sc__law_land.nd rfl (Or.inl rfl) (pe_ifExp (PW.pt (pw_or (pt_cmpR op_gt (pe_op op_mod (pe_op op_fdiv (pv 14) (pv 7)) pe_int) pe_int (nomark _)) (pw_or1 (pt_cmpR op_eq (pv 9) pe_int (nomark _))))) (pe_op op_mod (pv 14) (pv 7)) (pe_op op_mod (pe_op op_add (pe_op op_add (pv 10) pe_int) (pe_op op_mod (pe_op op_fdiv (pv 14) (pe_op op_mulW pe_int (pv 7))) pe_int)) (pv 7))))
  (pss_one (ps_if (pt_cmpR op_ne (pv 15) (pv 10) (nomark _)) (pss_cons (ps_expr (pe_bm PySem.F.plainAttrs_list PySem.F.slot_list_append PySem.F.type_list_append mt_append (pv 12) (pa_cons (pv 15) pa_nil)))
  (pss_one (ps_dput hu (pv 5) (pe_tup (pa_cons (pv 10) (pa_cons (pv 15) pa_nil))) pe_bl rfl))) pss_nil)))))
  (pss_cons (ps_set (i := 16) sc__law_land.nd rfl (Or.inl rfl) pe_non)
  (pss_cons (ps_if (PW.pt (pw_and (pt_cmpR (k_neD K hr.units) (pv 12) (pe_lst pa_nil) (nomark _)) (pw_and (pt_cmpR op_ne (pv 10) (pv 8) (nomark _)) (pw_and1 (pt_cmpR op_gt (pe_op op_mod (pe_op op_fdiv (pv 11) pe_int) pe_int) pe_int (nomark _)))))) (pss_one (ps_set (i := 16) sc__law_land.nd rfl (Or.inl rfl) (pe_ix (k_list K) (pv 12) (pe_op op_mod (pe_op op_fdiv (pv 11) pe_int) (pe_callB (k_len K) (by rfl) T.n_len PySem.boot_len (pa_cons (pv 12) pa_nil))) (fun _ _ => rfl)))) pss_nil)
  (pss_one (ps_expr (pe_bm PySem.F.plainAttrs_list PySem.F.slot_list_append PySem.F.type_list_append mt_append (pv 6) (pa_cons (pv 16) pa_nil))))))))))
  (pss_one (ps_ret (pe_tup (pa_cons (pe_tup (pa_cons (pv 7) (pa_cons (pv 8) (pa_cons (pe_slice (k_sl K) (pe_callB cr_sortedPO (by rfl) T.n_sorted (by decide +kernel) (pa_cons (pe_callTy (call_list_dT rfl) (by rfl) T.n_list (by decide +kernel) (pa_cons (pv 5) pa_nil)) pa_nil)) po_none (po_some pe_int)) pa_nil)))) (pa_cons (pv 6) pa_nil)))))))))), ?_⟩
    have hcl := cells_len ns
    -- the cells
    refine q_asgL (xs := (cells ns).map V.int) (el_if (b := !decide (ns = [])) (et_test (ev_opL (ev_var rfl) (el_lst ea_nil (by decide)) fun p H1 hp e => rv_neD (.lst (ex_l e hS) (dp_ints ns)) (.lst (sq_of hp) .nil) (pd_ints ns) (pd_ints []) (by
        rw [lst_inj]
        exact map_inj (m := []) int_inj))) (fun hb => ?_) fun hb => ?_) fun cl H1 hcl0 a1 hcl1 => ?_
    · have hne : ¬ ns = [] := by simpa using hb
      have q := el_sl (K := K) (σ := start N__law_land [.ref sa, .int by_, .int most]) (te := tVar 0) (tl := tNoPart) (th := tPart (tC (.int 63))) (ev_var rfl) eo_none (eo_some ev_c) hS
      have e : cutV (ns.map V.int) none (some 63) = (cells ns).map V.int := by
        have z := cut_to (xs := ns.map V.int) (k := 63)
        unfold cells
        rw [if_neg hne, List.map_take]
        exact z
      rw [e] at q
      exact q
    · have he : ns = [] := by simpa using hb
      have e : (cells ns).map V.int = [V.int 5] := by
        unfold cells
        rw [if_pos he]
        rfl
      rw [e]
      exact el_lst (ea_cons ev_c ea_nil) (by show 1 ≤ 100000; decide)
    -- whole, found, signs
    refine q_par3 (eap_v (ev_op (ev_cb (ea_cons (ev_sum (ev_var rfl) (sq_of hcl1)) ea_nil) rc_abs) (ev_op ev_c (ev_var rfl) (rv_I (C := CMulW) (wide_mul (a := 3) (b := 10) (by decide) (nab y0 (by omega)) (by decide) (by decide) (by decide)))) rv_I0)
      (eap_p (Post := fun v H2 => ∃ d, v = .ref d ∧ H1 d = none ∧ H2 d = some (.dT [])) (fun H2 e Q q d hd => q _ _ (Ex.new hd) ⟨d, rfl, fresh_back e hd, upd_same⟩) (fun v Ha Hb e ⟨d, h1, h2, h3⟩ => ⟨d, h1, h2, e _ _ h3⟩)
      (eap_l (el_lst ea_nil (by decide)) eap_nil))) fun vs H2 a2 ⟨r1, e1, x, r2, e2, ⟨fd, e3, hfd0, hfd⟩, sl, r3, e4, hsl0, hsl, e5⟩ => ?_
    subst e5 e4 e3 e2 e1
    refine ⟨_, _, _, rfl, ?_⟩
    have w0 : 0 ≤ (if (cells ns).sum < 0 then -(cells ns).sum else (cells ns).sum) + 7 * by_ := by split <;> omega
    generalize (if (cells ns).sum < 0 then -(cells ns).sum else (cells ns).sum) + 7 * by_ = whole at w0
    -- many
    have n1 : 1 ≤ 1 + whole % most := by have := Int.emod_nonneg whole (show most ≠ 0 by omega); omega
    have nm : 1 + whole % most ≤ most := by have := Int.emod_lt_of_pos whole (show 0 < most by omega); omega
    refine q_asg (ev_op ev_c (ev_op (ev_var rfl) (ev_var rfl) (rv_I (C := fun _ j => 0 < j) (by omega))) rv_I0) fun H3 a3 => ?_
    generalize 1 + whole % most = n at n1 nm
    -- home, kind
    have h0 : 0 ≤ whole / 40 % n := Int.emod_nonneg _ (by omega)
    have hn : whole / 40 % n < n := Int.emod_lt_of_pos _ (by omega)
    have k0 : 0 ≤ whole / 1600 % 4 := Int.emod_nonneg _ (by decide)
    have k4 : whole / 1600 % 4 < 4 := Int.emod_lt_of_pos _ (by decide)
    refine q_par2 (eap_v (ev_op (ev_op (ev_var rfl) ev_c (rv_I (C := CDiv) ⟨by decide, by decide⟩)) (ev_var rfl) (rv_I (C := fun _ j => 0 < j) (by omega))) (eap_v (ev_op (ev_op (ev_var rfl) ev_c (rv_I (C := CDiv) ⟨by decide, by decide⟩)) ev_c (rv_I (C := fun _ j => 0 < j) (by decide))) eap_nil)) fun vs H4 a4 ⟨r1, e1, r2, e2, e3⟩ => ?_
    subst e3 e2 e1
    refine ⟨_, _, rfl, ?_⟩
    generalize whole / 40 % n = h at h0 hn
    obtain ⟨kk, hkk⟩ : ∃ kk : Nat, whole / 1600 % 4 = (kk : Int) := ⟨(whole / 1600 % 4).toNat, by omega⟩
    rw [hkk] at k4 ⊢
    have hkk4 : kk < 4 := by omega
    have a14 := ((a1.trans a2).trans a3).trans a4
    have fd0 : H fd = none := fresh_back a1 hfd0
    have sl0 : H sl = none := fresh_back a1 hsl0
    have fsl : fd ≠ sl := fun z => by rw [z, hsl] at hfd; cases hfd
    have hfd4 := a4 _ _ (a3 _ _ hfd)
    have hsl4 := a4 _ _ (a3 _ _ hsl)
    have cl4 := a4 _ _ (a3 _ _ (a2 _ _ hcl1))
    have clfd : cl ≠ fd := ne_of_none hcl1 hfd0
    have clsl : cl ≠ sl := ne_of_none hcl1 hsl0
    have ec : cells ns ≠ [] := fun z => by rw [z] at hcl; exact absurd hcl.1 (by decide)
    refine q_forR (ea_cons (ev_var rfl) ea_nil) (by omega)
      (fun i σ' H' => ∃ (F : List (Int × Int)) (s : List (Option Nat)) (x10 x11 x12 x13 x14 x15 x16 : Option V), Ex H H' ∧ H' fd = some (.dT (fndK F)) ∧ H' sl = some (.lst (s.map nV)) ∧ H' cl = some (.lst ((cells ns).map V.int)) ∧ s.length = i ∧ F.Nodup ∧ F.length ≤ 4 * i ∧
        (∀ p ∈ F, 0 ≤ p.1 ∧ p.1 < n ∧ 0 ≤ p.2 ∧ p.2 < n ∧ p.1 ≠ p.2) ∧ (∀ p q : Nat, nx s p = some q → (q : Int) < n ∧ ((p : Int), (q : Int)) ∈ F) ∧ nx s h.toNat = none ∧
        σ' = [some (.ref sa), some (.int by_), some (.int most), some (.ref cl), some (.int whole), some (.ref fd), some (.ref sl), some (.int n), some (.int h), some (.int (kk : Int)), x10, x11, x12, x13, x14, x15, x16])
      (fun H5 a5 => ⟨[], [], _, _, _, _, _, _, _, a14.trans a5, a5 _ _ hfd4, a5 _ _ hsl4, a5 _ _ cl4, rfl, List.nodup_nil, Nat.zero_le _, (fun p hp => by cases hp), (fun p q e => by simp [nx] at e), (by simp [nx]), rfl⟩) ?_ ?_
    · rintro i σ' H' hi ⟨F, s, x10, x11, x12, x13, x14, x15, x16, b1, b2, b3, b4, b5, b6, b7, b8, b9, b10, rfl⟩
      -- the number
      have hix : ((i : Int) + by_) % ((cells ns).length : Int) < ((cells ns).length : Int) := Int.emod_lt_of_pos _ (by omega)
      have hix0 : 0 ≤ ((i : Int) + by_) % ((cells ns).length : Int) := Int.emod_nonneg _ (by omega)
      obtain ⟨jx, hjx⟩ : ∃ jx : Nat, ((i : Int) + by_) % ((cells ns).length : Int) = (jx : Int) := ⟨(((i : Int) + by_) % ((cells ns).length : Int)).toNat, by omega⟩
      have hget := List.getElem?_eq_getElem (show jx < (cells ns).length by omega)
      generalize (cells ns)[jx] = cv at hget
      have lenE : Ev (tCB (rLenS K) (tCons (tVar 3) tNil)) ([some (.ref sa), some (.int by_), some (.int most), some (.ref cl), some (.int whole), some (.ref fd), some (.ref sl), some (.int n), some (.int h), some (.int (kk : Int)), some (.int (i : Int)), x11, x12, x13, x14, x15, x16]) H' (.int ((cells ns).length : Int)) := by
        have q := ev_len (K := K) (ta := tVar 3) (σ := [some (.ref sa), some (.int by_), some (.int most), some (.ref cl), some (.int whole), some (.ref fd), some (.ref sl), some (.int n), some (.int h), some (.int (kk : Int)), some (.int (i : Int)), x11, x12, x13, x14, x15, x16]) (ev_var rfl) (sq_of b4)
        rwa [List.length_map] at q
      refine q_asgP (Post := fun v _ => ∃ N : Int, 0 ≤ N ∧ v = .int N) (evp_op1 (Post := fun v _ => ∃ N : Int, 0 ≤ N ∧ v = .int N) (evp_cb1 (Post := fun v _ => ∃ z : Int, v = .int z) (evp_call (ea_cons (ev_op (ev_op (ev_var rfl) (ev_op (ev_op (ev_var rfl) (ev_var rfl) rv_I0) lenE (rv_I (C := fun _ j => 0 < j) (by omega))) (rv_ixL (sq_of b4) (at_of (j := jx) hjx (by rw [List.getElem?_map, hget]; rfl)))) (ev_var rfl) rv_I0) (ea_cons (ev_op (ev_var rfl) (ev_var rfl) rv_I0) (ea_cons (ev_var rfl) ea_nil)))
        fun H5 e Q q E => ⟨_, _, _, rfl, by omega, by omega, q⟩) fun x H5 e ⟨z, hz⟩ => ⟨.int (if z < 0 then -z else z), by subst hz; exact rc_abs, fun H6 _ => ⟨_, by split <;> omega, rfl⟩⟩)
        fun x H5 e ⟨N, hN, hx⟩ => ⟨.int 3, .int (N / 3), ev_c, by subst hx; exact rv_I (C := CDiv) ⟨by decide, by decide⟩, fun H6 _ => ⟨_, by omega, rfl⟩⟩) fun v H5 c1 ⟨N, hN, hv⟩ => ?_
      subst hv
      -- mine
      refine q_asgL (el_lst ea_nil (by decide)) fun ml H6 hml0 c2 hml => ?_
      have b16 := (b1.trans c1).trans c2
      have ml0 : H ml = none := fresh_back (b1.trans c1) hml0
      have mlfd : ml ≠ fd := fun z => by rw [z, c1 _ _ b2] at hml0; cases hml0
      have mlsl : ml ≠ sl := fun z => by rw [z, c1 _ _ b3] at hml0; cases hml0
      have mlcl : ml ≠ cl := fun z => by rw [z, c1 _ _ b4] at hml0; cases hml0
      have hc4 : 0 < [2, 3, 4, 3].getD kk (0 : Int) ∧ ∀ M : Int, 0 ≤ M % [2, 3, 4, 3].getD kk (0 : Int) + (if (0 : Int) < (kk : Int) then 1 else 0) ∧ M % [2, 3, 4, 3].getD kk (0 : Int) + (if (0 : Int) < (kk : Int) then 1 else 0) ≤ 4 := by
        match kk, hkk4 with
        | 0, _ => exact ⟨by decide, fun M => by show 0 ≤ M % 2 + 0 ∧ M % 2 + 0 ≤ 4; omega⟩
        | 1, _ => exact ⟨by decide, fun M => by show 0 ≤ M % 3 + 1 ∧ M % 3 + 1 ≤ 4; omega⟩
        | 2, _ => exact ⟨by decide, fun M => by show 0 ≤ M % 4 + 1 ∧ M % 4 + 1 ≤ 4; omega⟩
        | 3, _ => exact ⟨by decide, fun M => by show 0 ≤ M % 3 + 1 ∧ M % 3 + 1 ≤ 4; omega⟩
      obtain ⟨hc40, hc41⟩ := hc4
      obtain ⟨hc42, hc43⟩ := hc41 N
      have hN7 : Ev (tOp (rI0 fun i j => V.int (i + j)) (tOp (rI (fun _ j => 0 < j) fun i j => V.int (i % j)) (tVar 11) (tOp (rIxT K) (tTup (tCons (tC (.int 2)) (tCons (tC (.int 3)) (tCons (tC (.int 4)) (tCons (tC (.int 3)) tNil))))) (tVar 9)))
          (tIf (tTest (tOp (rI0 fun i j => V.bl (decide (j < i))) (tVar 9) (tC (.int 0)))) (tC (.int 1)) (tC (.int 0))))
          [some (.ref sa), some (.int by_), some (.int most), some (.ref cl), some (.int whole), some (.ref fd), some (.ref sl), some (.int n), some (.int h), some (.int (kk : Int)), some (.int (i : Int)), some (.int N), some (.ref ml), x13, x14, x15, x16] H6 (.int (N % [2, 3, 4, 3].getD kk (0 : Int) + (if (0 : Int) < (kk : Int) then 1 else 0))) :=
        ev_op (ev_op (ev_var rfl) (ev_four (fun _ _ => ev_var rfl) hkk4) (rv_I (C := fun _ j => 0 < j) hc40)) (ev_if (b := decide ((0 : Int) < (kk : Int))) (et_test (ev_op (ev_var rfl) ev_c rv_I0)) (fun hb => ev_is ev_c (by rw [if_pos (of_decide_eq_true hb)])) (fun hb => ev_is ev_c (by rw [if_neg (of_decide_eq_false hb)]))) rv_I0
      refine q_forR (ea_cons hN7 ea_nil) (by omega)
        (fun j σ2 H7 => ∃ (F2 : List (Int × Int)) (m : List Int) (x13 x14 x15 x16 : Option V), Ex H H7 ∧ H7 fd = some (.dT (fndK F2)) ∧ H7 sl = some (.lst (s.map nV)) ∧ H7 cl = some (.lst ((cells ns).map V.int)) ∧ H7 ml = some (.lst (m.map V.int)) ∧ F2.Nodup ∧ F2.length ≤ 4 * i + j ∧
          (∀ p ∈ F2, 0 ≤ p.1 ∧ p.1 < n ∧ 0 ≤ p.2 ∧ p.2 < n ∧ p.1 ≠ p.2) ∧ (∀ p ∈ F, p ∈ F2) ∧ (∀ o ∈ m, ((i : Int), o) ∈ F2 ∧ 0 ≤ o ∧ o < n) ∧ m.length ≤ j ∧
          σ2 = [some (.ref sa), some (.int by_), some (.int most), some (.ref cl), some (.int whole), some (.ref fd), some (.ref sl), some (.int n), some (.int h), some (.int (kk : Int)), some (.int (i : Int)), some (.int N), some (.ref ml), x13, x14, x15, x16])
        (fun H7 c7 => ⟨F, [], _, _, _, _, b16.trans c7, c7 _ _ (c2 _ _ (c1 _ _ b2)), c7 _ _ (c2 _ _ (c1 _ _ b3)), c7 _ _ (c2 _ _ (c1 _ _ b4)), c7 _ _ hml, b6, by omega, b8, (fun p hp => hp), (fun o ho => by cases ho), Nat.le_refl _, rfl⟩) ?_ ?_
      · rintro j σ2 H7 hj ⟨F2, m, x13, x14, x15, x16, d1, d2, d3, d4, d5, d6, d7, d8, d9, d10, d11, rfl⟩
        have hj4 : j < 4 := by omega
        have hdv : 0 < [5, 1009, 99991, 10000019].getD j (0 : Int) ∧ [5, 1009, 99991, 10000019].getD j (0 : Int) < 1073741824 := by
          match j, hj4 with
          | 0, _ => exact ⟨by decide, by decide⟩
          | 1, _ => exact ⟨by decide, by decide⟩
          | 2, _ => exact ⟨by decide, by decide⟩
          | 3, _ => exact ⟨by decide, by decide⟩
        refine q_asg (ev_op (ev_var rfl) (ev_four (fun _ _ => ev_var rfl) hj4) (rv_I (C := CDiv) hdv)) fun H8 c8 => ?_
        generalize N / [5, 1009, 99991, 10000019].getD j (0 : Int) = far
        have m1 : 0 ≤ far % n := Int.emod_nonneg _ (by omega)
        have m2 : far % n < n := Int.emod_lt_of_pos _ (by omega)
        have m3 : 0 ≤ ((i : Int) + 1 + far / (3 * n) % 3) % n := Int.emod_nonneg _ (by omega)
        have m4 : ((i : Int) + 1 + far / (3 * n) % 3) % n < n := Int.emod_lt_of_pos _ (by omega)
        obtain ⟨o, ho0, hon, hoe⟩ : ∃ o : Int, 0 ≤ o ∧ o < n ∧ o = if (decide (0 < far / n % 3) || decide (V.int (kk : Int) = V.int 3)) = true then far % n else ((i : Int) + 1 + far / (3 * n) % 3) % n := by
          refine ⟨_, ?_, ?_, rfl⟩
          · split <;> omega
          · split <;> omega
        refine q_asg (v := .int o) (ev_if (b := decide (0 < far / n % 3) || decide (V.int (kk : Int) = V.int 3)) (et_or (et_test (ev_op (ev_op (ev_op (ev_var rfl) (ev_var rfl) (rv_I (C := CDiv) ⟨by omega, by omega⟩)) ev_c (rv_I (C := fun _ j => 0 < j) (by decide))) ev_c rv_I0)) fun _ => et_test (ev_op (ev_var rfl) ev_c (rv_eq rfl)))
          (fun hb => ev_is (ev_op (ev_var rfl) (ev_var rfl) (rv_I (C := fun _ j => 0 < j) (by omega))) (by rw [hoe, if_pos hb]))
          (fun hb => ev_is (ev_op (ev_op (ev_op (ev_var rfl) ev_c rv_I0) (ev_op (ev_op (ev_var rfl) (ev_op ev_c (ev_var rfl) (rv_I (C := CMulW) (wide_mul (a := 2) (b := 6) (by decide) (nab (by omega) (by omega)) (by decide) (by decide) (by decide)))) (rv_I (C := CDiv) ⟨by omega, by omega⟩)) ev_c (rv_I (C := fun _ j => 0 < j) (by decide))) rv_I0) (ev_var rfl) (rv_I (C := fun _ j => 0 < j) (by omega))) (by rw [hoe, if_neg (by rw [hb]; simp)]))) fun H9 c9 => ?_
        clear hoe
        have e9 := (d1.trans c8).trans c9
        have f9 := c9 _ _ (c8 _ _ d2)
        have s9 := c9 _ _ (c8 _ _ d3)
        have cl9 := c9 _ _ (c8 _ _ d4)
        have ml9 := c9 _ _ (c8 _ _ d5)
        refine s_when (et_test (ev_op (ev_var rfl) (ev_var rfl) (rv_ne rfl))) (fun hb H10 c10 => ?_) fun hb H10 c10 => ?_
        · have hne : o ≠ (i : Int) := by
            intro z
            rw [z] at hb
            simp at hb
          refine q_app (K := K) (v := .int o) (c10 _ _ ml9) (ev_var rfl) (ev_var rfl) (by rw [List.length_map]; omega) fun H11 c11 => ?_
          have e11 := Ex.mut (o := .lst (m.map V.int ++ [.int o])) ((e9.trans c10).trans c11) ml0
          have f11 : (upd H11 ml (.lst (m.map V.int ++ [.int o]))) fd = some (.dT (fndK F2)) := by rw [upd_ne mlfd.symm]; exact c11 _ _ (c10 _ _ f9)
          have s11 : (upd H11 ml (.lst (m.map V.int ++ [.int o]))) sl = some (.lst (s.map nV)) := by rw [upd_ne mlsl.symm]; exact c11 _ _ (c10 _ _ s9)
          have cl11 : (upd H11 ml (.lst (m.map V.int ++ [.int o]))) cl = some (.lst ((cells ns).map V.int)) := by rw [upd_ne mlcl.symm]; exact c11 _ _ (c10 _ _ cl9)
          have ml11 : (upd H11 ml (.lst (m.map V.int ++ [.int o]))) ml = some (.lst ((m ++ [o]).map V.int)) := by rw [upd_same, List.map_append]; rfl
          generalize upd H11 ml (.lst (m.map V.int ++ [.int o])) = G at e11 f11 s11 cl11 ml11
          refine ⟨.ref fd, rfl, .int (i : Int), rfl, .int o, rfl, by show 2 ≤ sizeLine; decide, fun t ht => ⟨fd, _, rfl, DPut.t (k := fKey ((i : Int), o)) (Ex.new ht _ _ f11) upd_same (by show (fndK F2).length < sizeLine; unfold fndK; rw [List.length_map]; exact sz_lt (by omega)), ?_⟩⟩
          rw [fndK_put]
          have n1 := Ex.new (o := .tup [.int (i : Int), .int o]) ht
          have e12 := Ex.mut (o := .dT (fndK (addR F2 ((i : Int), o)))) (e11.trans n1) fd0
          refine ⟨addR F2 ((i : Int), o), m ++ [o], _, _, _, _, e12, upd_same, ?_, ?_, ?_, addR_nodup d6, ?_, ?_, (fun p hp => addR_mem.mpr (.inl (d9 p hp))), ?_, ?_, rfl⟩
          · rw [upd_ne fsl.symm]; exact n1 _ _ s11
          · rw [upd_ne clfd]; exact n1 _ _ cl11
          · rw [upd_ne mlfd]; exact n1 _ _ ml11
          · have := addR_len (F := F2) (p := ((i : Int), o)); omega
          · intro p hp
            rcases addR_mem.mp hp with hp | rfl
            · exact d8 p hp
            · exact ⟨by omega, by omega, ho0, hon, fun z => hne z.symm⟩
          · intro o' ho'
            rcases List.mem_append.mp ho' with ho' | ho'
            · exact ⟨addR_mem.mpr (.inl (d10 o' ho').1), (d10 o' ho').2⟩
            · rw [List.mem_singleton.mp ho']
              exact ⟨addR_mem.mpr (.inr rfl), ho0, hon⟩
          · rw [List.length_append, List.length_singleton]; omega
        · exact ⟨F2, m, _, _, _, _, e9.trans c10, c10 _ _ f9, c10 _ _ s9, c10 _ _ cl9, c10 _ _ ml9, d6, by omega, d8, d9, d10, by omega, rfl⟩
      · rintro σ2 H7 ⟨F2, m, x13, x14, x15, x16, d1, d2, d3, d4, d5, d6, d7, d8, d9, d10, d11, rfl⟩
        have hF4 : F2.length ≤ 4 * (i + 1) := by omega
        refine q_asg (v := nV none) ev_c fun H8 c8 => ?_
        have e8 := d1.trans c8
        have fin : ∀ (sg : Option Nat) H9, Ex H8 H9 → (∀ q, sg = some q → (q : Int) < n ∧ ((i : Int), (q : Int)) ∈ F2 ∧ (i : Int) ≠ h) →
            tDrop (tBM K "list" rAppend (tVar 6) (tCons (tVar 16) tNil)) { nx := fun σ' H' => ∃ (F : List (Int × Int)) (s : List (Option Nat)) (x10 x11 x12 x13 x14 x15 x16 : Option V), Ex H H' ∧ H' fd = some (.dT (fndK F)) ∧ H' sl = some (.lst (s.map nV)) ∧ H' cl = some (.lst ((cells ns).map V.int)) ∧ s.length = i + 1 ∧ F.Nodup ∧ F.length ≤ 4 * (i + 1) ∧
              (∀ p ∈ F, 0 ≤ p.1 ∧ p.1 < n ∧ 0 ≤ p.2 ∧ p.2 < n ∧ p.1 ≠ p.2) ∧ (∀ p q : Nat, nx s p = some q → (q : Int) < n ∧ ((p : Int), (q : Int)) ∈ F) ∧ nx s h.toNat = none ∧
              σ' = [some (.ref sa), some (.int by_), some (.int most), some (.ref cl), some (.int whole), some (.ref fd), some (.ref sl), some (.int n), some (.int h), some (.int (kk : Int)), x10, x11, x12, x13, x14, x15, x16], rt := Q }
              [some (.ref sa), some (.int by_), some (.int most), some (.ref cl), some (.int whole), some (.ref fd), some (.ref sl), some (.int n), some (.int h), some (.int (kk : Int)), some (.int (i : Int)), some (.int N), some (.ref ml), x13, x14, x15, some (nV sg)] H9 := by
          intro sg H9 c9 hsg
          refine s_app (K := K) (v := nV sg) (c9 _ _ (c8 _ _ d3)) (ev_var rfl) (ev_var rfl) (by rw [List.length_map]; omega) fun H10 c10 => ?_
          have e10 := Ex.mut (o := .lst (s.map nV ++ [nV sg])) ((e8.trans c9).trans c10) sl0
          refine ⟨F2, s ++ [sg], _, _, _, _, _, _, _, e10, ?_, ?_, ?_, ?_, d6, hF4, d8, ?_, ?_, rfl⟩
          · rw [upd_ne fsl]; exact c10 _ _ (c9 _ _ (c8 _ _ d2))
          · rw [upd_same, List.map_append]; rfl
          · rw [upd_ne clsl]; exact c10 _ _ (c9 _ _ (c8 _ _ d4))
          · rw [List.length_append, b5]; rfl
          · intro p q e
            by_cases c : p < s.length
            · rw [nx_left c] at e
              obtain ⟨z1, z2⟩ := b9 p q e
              exact ⟨z1, d9 _ z2⟩
            · rw [nx_right (by omega)] at e
              by_cases c2 : p = s.length
              · rw [if_pos c2] at e
                obtain ⟨z1, z2, z3⟩ := hsg q e
                rw [c2, b5]
                exact ⟨z1, z2⟩
              · rw [if_neg c2] at e
                cases e
          · by_cases c : h.toNat < s.length
            · rw [nx_left c]; exact b10
            · rw [nx_right (by omega)]
              split
              · rename_i c2
                cases sg with
                | none => rfl
                | some q =>
                  obtain ⟨_, _, z3⟩ := hsg q rfl
                  exfalso
                  apply z3
                  omega
              · rfl
        refine q_when (b := !decide (m = []) && (!decide (V.int (i : Int) = V.int h) && decide (0 < N / 7 % 6))) (et_and (et_test (ev_opL (ev_var rfl) (el_lst ea_nil (by decide)) fun p H9 hp e => rv_neD (.lst (sq_of (e _ _ (c8 _ _ d5))) (dp_ints m)) (.lst (sq_of hp) .nil) (pd_ints m) (pd_ints []) (by
            rw [lst_inj]
            exact map_inj (m := []) int_inj))) fun _ => et_and (et_test (ev_op (ev_var rfl) (ev_var rfl) (rv_ne rfl))) fun _ => et_test (ev_op (ev_op (ev_op (ev_var rfl) ev_c (rv_I (C := CDiv) ⟨by decide, by decide⟩)) ev_c (rv_I (C := fun _ j => 0 < j) (by decide))) ev_c rv_I0)) (fun hb H9 c9 => ?_) fun hb H9 c9 => ?_
        · simp only [Bool.and_eq_true, Bool.not_eq_true', decide_eq_false_iff_not, decide_eq_true_eq] at hb
          obtain ⟨hm, hih, _⟩ := hb
          have hml2 : 0 < m.length := List.length_pos_iff.mpr hm
          have z0 : 0 ≤ N / 42 % (m.length : Int) := Int.emod_nonneg _ (by omega)
          have z1 : N / 42 % (m.length : Int) < (m.length : Int) := Int.emod_lt_of_pos _ (by omega)
          obtain ⟨jm, hjm⟩ : ∃ jm : Nat, N / 42 % (m.length : Int) = (jm : Int) := ⟨(N / 42 % (m.length : Int)).toNat, by omega⟩
          have hgm := List.getElem?_eq_getElem (show jm < m.length by omega)
          have hgm2 := List.getElem_mem (show jm < m.length by omega)
          generalize m[jm] = o at hgm hgm2
          obtain ⟨y1, y2, y3⟩ := d10 o hgm2
          obtain ⟨q, hq⟩ : ∃ q : Nat, o = (q : Int) := ⟨o.toNat, by omega⟩
          subst hq
          have ml9 := c9 _ _ (c8 _ _ d5)
          have lenM : Ev (tCB (rLenS K) (tCons (tVar 12) tNil)) [some (.ref sa), some (.int by_), some (.int most), some (.ref cl), some (.int whole), some (.ref fd), some (.ref sl), some (.int n), some (.int h), some (.int (kk : Int)), some (.int (i : Int)), some (.int N), some (.ref ml), x13, x14, x15, some (nV none)] H9 (.int (m.length : Int)) := by
            have z := ev_len (K := K) (ta := tVar 12) (σ := [some (.ref sa), some (.int by_), some (.int most), some (.ref cl), some (.int whole), some (.ref fd), some (.ref sl), some (.int n), some (.int h), some (.int (kk : Int)), some (.int (i : Int)), some (.int N), some (.ref ml), x13, x14, x15, some (nV none)]) (ev_var rfl) (sq_of ml9)
            rwa [List.length_map] at z
          refine s_asg (v := nV (some q)) (ev_op (ev_var rfl) (ev_op (ev_op (ev_var rfl) ev_c (rv_I (C := CDiv) ⟨by decide, by decide⟩)) lenM (rv_I (C := fun _ j => 0 < j) (by omega))) (rv_ixL (sq_of ml9) (at_of (j := jm) hjm (by rw [List.getElem?_map, hgm]; rfl)))) fun H10 c10 => ?_
          refine fin (some q) H10 (c9.trans c10) fun q' hq' => ?_
          cases hq'
          exact ⟨y3, y1, fun z => hih (by rw [z])⟩
        · exact fin none H9 c9 fun q hq => by cases hq
    · rintro σ' H' ⟨F, s, x10, x11, x12, x13, x14, x15, x16, b1, b2, b3, b4, b5, b6, b7, b8, b9, b10, rfl⟩
      have em : ((n.toNat : Nat) : Int) = n := by omega
      have hfd' := b2
      refine s_retP (Post := fun v H2 => ∃ n h all s, Made H H2 v most n h all s) (fun H1 e Q q => ?_) (fun v H2 e2 p => k v H2 (b1.trans e2) p)
      have f1 := e _ _ b2
      refine ⟨_, rfl, _, rfl, .ref fd, rfl, fd, fndK F, rfl, .inl f1, fun p bs hp hk => ?_⟩
      obtain ⟨ks, e1, e2, e3⟩ := keys_at F bs hk
      have hx : Ex H1 (upd H1 p (.lst (bs.map V.ref))) := Ex.new hp
      have g3 : ∀ q ∈ ks, (upd H1 p (.lst (bs.map V.ref))) q.1 = some (.tup [.int q.2.1, .int q.2.2]) := fun q hq => hx _ _ (e3 q hq)
      generalize hH2 : upd H1 p (.lst (bs.map V.ref)) = H2 at hx g3
      have hpl : H2 p = some (.lst (bs.map V.ref)) := by rw [← hH2]; exact upd_same
      refine ⟨p, bs.map V.ref, prH H2, rfl, sq_of hpl, fun x hx' => ?_, fun ys r srt stb hr => ?_⟩
      · rw [← e1, List.map_map] at hx'
        obtain ⟨q, hq, rfl⟩ := List.mem_map.mp hx'
        refine ⟨q.1, rfl, ?_⟩
        show H2 q.1 = some (.tup [.int (prH H2 (.ref q.1)).1, .int (prH H2 (.ref q.1)).2])
        rw [prH_of (g3 q hq)]
        exact g3 q hq
      · have hx3 : Ex H2 (upd H2 r (.lst ys)) := Ex.new hr
        have hrl : (upd H2 r (.lst ys)) r = some (.lst ys) := upd_same
        generalize upd H2 r (.lst ys) = H3 at hx3 hrl
        refine ⟨120, rfl, r, ys, rfl, sq_of hrl, fun r2 hr2 => ?_⟩
        refine ⟨by show 3 ≤ sizeLine; decide, fun lt hlt => ?_⟩
        refine ⟨_, rfl, by show 2 ≤ sizeLine; decide, fun t ht => ?_⟩
        have hys : ys.Perm (bs.map V.ref) := stb.perm
        have hF : (ys.map (prH H2)).Perm F := by
          refine (hys.map _).trans (List.Perm.of_eq ?_)
          rw [← e1, List.map_map, List.map_map, ← e2]
          exact List.map_congr_left fun q hq => prH_of (g3 q hq)
        have hyr : ∀ y ∈ ys, ∃ a, y = V.ref a ∧ H2 a = some (.tup [.int (prH H2 y).1, .int (prH H2 y).2]) := fun y hy => by
          have := hys.mem_iff.mp hy
          rw [← e1, List.map_map] at this
          obtain ⟨q, hq, rfl⟩ := List.mem_map.mp this
          refine ⟨q.1, rfl, ?_⟩
          show H2 q.1 = some (.tup [.int (prH H2 (.ref q.1)).1, .int (prH H2 (.ref q.1)).2])
          rw [prH_of (g3 q hq)]
          exact g3 q hq
        obtain ⟨all, hall⟩ : ∃ all, all = ys.map (prH H2) := ⟨_, rfl⟩
        rw [← hall] at hF
        have hnd : all.Nodup := hF.nodup_iff.mpr b6
        have hri : all.Pairwise fun p q => p.1 < q.1 ∨ (p.1 = q.1 ∧ p.2 < q.2) := by
          have z : all.Pairwise fun p q => SrtO.lexB q p = false := by rw [hall, List.pairwise_map]; exact srt
          refine (z.and hnd).imp fun {p q} ⟨h1, h2⟩ => ?_
          have h1 := SrtO.lexB_no.mp h1
          have h3 : ¬ (p.1 = q.1 ∧ p.2 = q.2) := fun z => h2 (Prod.ext z.1 z.2)
          omega
        have ee : Ex H1 H3 := hx.trans hx3
        have et : ((Ex H3 (upd H3 r2 (.lst (cutV ys none (some 120)))))) := Ex.new hr2
        have c120 : cutV ys none (some ((120 : Nat) : Int)) = ys.take 120 := cut_to
        have a1' : (upd H3 r2 (HO.lst (cutV ys none (some 120)))) r2 = some (.lst (ys.take 120)) := by rw [← c120]; exact upd_same
        generalize upd H3 r2 (HO.lst (cutV ys none (some 120))) = H4 at et a1' hlt ht
        have et2 := Ex.new (o := HO.tup [.int n, .int h, .ref r2]) hlt
        have a2' : (upd H4 lt (HO.tup [.int n, .int h, .ref r2])) lt = some (.tup [.int n, .int h, .ref r2]) := upd_same
        generalize upd H4 lt (HO.tup [.int n, .int h, .ref r2]) = H5 at et2 a2' ht
        have et3 := Ex.new (o := HO.tup [.ref lt, .ref sl]) ht
        have a3' : (upd H5 t (HO.tup [.ref lt, .ref sl])) t = some (.tup [.ref lt, .ref sl]) := upd_same
        generalize upd H5 t (HO.tup [.ref lt, .ref sl]) = H6 at et3 a3'
        have e14 := ((ee.trans et).trans et2).trans et3
        have e0 := (b1.trans e)
        refine q _ _ e14 ⟨n, h, all, s, ⟨t, lt, r2, sl, (ys.take 120).map (fun v => (adV v, [(prH H2 v).1, (prH H2 v).2])), rfl, a3', et3 _ _ a2', et3 _ _ (et2 _ _ ?_), fun pp hpp => ?_, ?_, e14 _ _ (e _ _ b3), ?_, ?_, ?_, sl0⟩, ?_, nm, ?_, b10, fun p q' hq => ?_, ?_⟩
        · rw [a1', List.map_map]
          congr 2
          refine ((List.map_congr_left fun y hy => ?_).trans (List.map_id _)).symm
          obtain ⟨a, rfl, _⟩ := hyr y (List.mem_of_mem_take hy)
          rfl
        · obtain ⟨y, hy, rfl⟩ := List.mem_map.mp hpp
          obtain ⟨a, rfl, ha⟩ := hyr y (List.mem_of_mem_take hy)
          exact et3 _ _ (et2 _ _ (et _ _ (hx3 _ _ ha)))
        · rw [hall, List.map_map, ← List.map_take, List.map_map]
          rfl
        · exact fresh_back (((b1.trans e).trans ee |>.trans et |>.trans et2)) ht
        · exact fresh_back (((b1.trans e).trans ee |>.trans et)) hlt
        · exact fresh_back (((b1.trans e).trans ee)) hr2
        · exact landOk_mk n1 (by omega) h0 hn (by rw [List.length_take]; omega) (fun p hp => b8 p (hF.mem_iff.mp (List.mem_of_mem_take hp))) (hri.sublist (List.take_sublist _ _))
        · rw [b5]; omega
        · obtain ⟨z1, z2⟩ := b9 p q' hq
          exact ⟨z1, hF.mem_iff.mpr z2⟩
        · rw [hF.length_eq]; omega

end
end Sg
namespace Sg
set_option autoImplicit false
open PySem L2 Evl Big
open PyProof.Rows (envOfC)
section
variable {P : Program} {w : World} {K : PySem.W.Frag} {mg : Str → Option Value} {base : Heap} {ad : Ads}
def spLaw (K : PySem.W.Frag) : Sp := fun vs H Q _ => ∃ (a : Addr) (ns : List Int), vs = [.ref a] ∧ SqL K H a (ns.map V.int) ∧ ns.length ≤ 63 ∧ ∀ H', Q (.bl true) H'
theorem laid_mk {H : Hp} {lv : V} {a : Addr} {n h : Int} {rs : List (Int × Int)} {s : List (Option Nat)} (hL : LandAt K H lv n h rs) (ok : LandOk n h rs) (hS : SqL K H a (s.map nV)) (hl : (s.length : Int) = n) (hh : nx s h.toNat = none)
    (al : ∀ p q : Nat, nx s p = some q → (q : Int) < n ∧ ((p : Int), (q : Int)) ∈ rs) : Laid K H lv (.ref a) n h rs s ∧ Given K H lv (.ref a) n h rs s := by
  have q := ok.all
  refine ⟨⟨hL, ⟨a, rfl, hS⟩, ⟨rfl, fun p x e => ?_⟩, hl, ?_, ⟨q.h0, q.hn⟩, hh⟩, hL, ok, ⟨a, rfl, hS⟩, signsOk_mk hl q.h0 q.hn hh al⟩
  · have := (al p x e).1
    omega
  · have := q.n40
    omega
theorem right_len (rs : List (Int × Int)) (s : List (Option Nat)) : (rightS rs s).length = s.length := by
  unfold rightS
  rw [List.length_map, List.length_range]
theorem right_nx {rs : List (Int × Int)} {s : List (Option Nat)} {p : Nat} (hp : p < s.length) : nx (rightS rs s) p = keepS rs p (nx s p) := by
  have e : (rightS rs s)[p]? = some (keepS rs p (nx s p)) := by
    unfold rightS
    rw [List.getElem?_map, List.getElem?_range hp]
    rfl
  rw [nx_get (by rw [right_len]; exact hp)] at e
  exact Option.some.inj e
theorem right_some {rs : List (Int × Int)} {s : List (Option Nat)} {p q : Nat} (h : nx (rightS rs s) p = some q) : nx s p = some q ∧ ((p : Int), (q : Int)) ∈ rs := by
  have hp := nx_lt h
  rw [right_len] at hp
  rw [right_nx hp] at h
  cases e : nx s p with
  | none => rw [e] at h; cases h
  | some x =>
    rw [e] at h
    by_cases c : ((p : Int), (x : Int)) ∈ rs
    · rw [keepS_in c] at h
      cases h
      exact ⟨rfl, c⟩
    · rw [keepS_out c] at h
      cases h
theorem right_none {rs : List (Int × Int)} {s : List (Option Nat)} {p : Nat} (h : nx s p = none) : nx (rightS rs s) p = none := by
  cases e : nx (rightS rs s) p with
  | none => rfl
  | some q => rw [(right_some e).1] at h; cases h
theorem set_some {s : List (Option Nat)} {j p q : Nat} (h : nx (s.set j none) p = some q) : nx s p = some q := by
  unfold nx at h ⊢
  rw [List.getElem?_set] at h
  by_cases c : j = p
  · rw [if_pos c] at h
    split at h <;> cases h
  · rw [if_neg c] at h
    exact h
theorem set_none {s : List (Option Nat)} {j p : Nat} (h : nx s p = none) : nx (s.set j none) p = none := by
  cases e : nx (s.set j none) p with
  | none => rfl
  | some q => rw [set_some e] at h; cases h
theorem ev_fldP {σ : L2.St} {H : Hp} {te : TE} {f : Str} {v : V} {Post : V → Hp → Prop} (h : EvP te σ H Post) (hp : ∀ x H1, Ex H H1 → Post x H1 → ∃ a C dx fs, x = .ref a ∧ H1 a = some (.ins C dx fs) ∧ Cls K C ∧ NoAttr K C f ∧ fs.lookup f = some v) : Ev (tFld K te f) σ H v := fun H1 e Q q =>
  h H1 e _ fun x H2 e2 p => by
    obtain ⟨a, C, dx, fs, h1, h2, h3, h4, h5⟩ := hp x H2 (e.trans e2) p
    exact ⟨a, C, dx, fs, v, h1, h2, h3, h4, h5, q H2 e2⟩
theorem s_forC {σ : L2.St} {H : Hp} {D : Ends} {tu : TS} {ta : TA} {j : Nat} {lo hi c : Int} {n : Nat} (h : EvA ta σ H [.int lo, .int hi, .int c]) (hr : RgC lo hi c n) (Pv : Nat → L2.St → Hp → Prop) (h0 : ∀ H1, Ex H H1 → Pv 0 σ H1)
    (hs : ∀ (i : Nat) σ' H', i < n → Pv i σ' H' → tu { D with nx := Pv (i + 1), ct := Pv (i + 1), bk := D.nx } (σ'.set j (some (.int (lo + (i : Nat) * c)))) H') (hd : ∀ σ' H', Pv n σ' H' → D.nx σ' H') : tFor (iRng3 ta) (gName j) tu D σ H :=
  h H (Ex.refl H) _ fun H1 e => ⟨lo, hi, c, n, rfl, hr, for_rangeC (lo := lo) (c := c) (n := n) Pv (h0 H1 e) (fun i σ' H' hi p => hs i σ' H' hi p) hd⟩
theorem el_home_from {σ : L2.St} {H : Hp} {ta tb : TE} {lv sv : V} {n h : Int} {rs : List (Int × Int)} {s : List (Option Nat)} (h1 : Ev ta σ H lv) (h2 : Ev tb σ H sv) (g : Given K H lv sv n h rs s) : EvL (tCall (sp_home_from K) [] C8.E0 (tCons ta (tCons tb tNil))) σ H ((comers s h.toNat).map natV) := fun H6 e6 Q q =>
  (ea_cons h1 (ea_cons h2 ea_nil)) H6 e6 _ fun H7 e7 => ⟨_, _, n, h, rs, s, rfl, g.mono (e6.trans e7), fun p H8 hp e8 h8 => q p H8 (fresh_back e7 hp) (e7.trans e8) h8⟩
theorem ne_nats {H : Hp} {a b : Addr} {l : List Nat} (h1 : H a = some (.lst (l.map natV))) (h2 : H b = some (.lst (l.map natV))) : RV (rNeD K) (.ref a) (.ref b) H (.bl false) := by
  have q := rv_neD (K := K) (p := True) (.lst (sq_of h1) (dp_nats l)) (.lst (sq_of h2) (dp_nats l)) (pd_nats l) (pd_nats l) (by simp)
  exact q
theorem EvAP.weak {σ : L2.St} {H : Hp} {ta : TA} {P P' : List V → Hp → Prop} (h : EvAP ta σ H P) (w : ∀ vs H1, Ex H H1 → P vs H1 → P' vs H1) : EvAP ta σ H P' := fun H1 e Q q => h H1 e Q fun vs H2 e2 p => q vs H2 e2 (w vs H2 (e.trans e2) p)
theorem evp_tup {σ : L2.St} {H : Hp} {ta : TA} {P : List V → Hp → Prop} (h : EvAP ta σ H P) (hm : ∀ vs H1 H2, Ex H1 H2 → P vs H1 → P vs H2) (hl : ∀ vs H1, P vs H1 → vs.length ≤ 100000) : EvP (tTup ta) σ H (fun v H' => ∃ r vs, v = .ref r ∧ H' r = some (.tup vs) ∧ P vs H') := fun H1 e Q q =>
  h H1 e _ fun vs H2 e2 p => ⟨sz_of (hl vs H2 p), fun r hr => q _ _ (e2.trans (Ex.new hr)) ⟨r, vs, rfl, upd_same, hm _ _ _ (Ex.new hr) p⟩⟩
/-- roads, written out -/
def Rds (L : List (Int × Int)) (vs : List V) (H : Hp) : Prop := ∃ ks : List (Addr × List Int), vs = ks.map (fun p => V.ref p.1) ∧ (∀ p ∈ ks, H p.1 = some (.tup (p.2.map V.int))) ∧ ks.map (·.2) = L.map fun q => [q.1, q.2]
theorem Rds.mono {L : List (Int × Int)} {vs : List V} {H H' : Hp} (e : Ex H H') (h : Rds L vs H) : Rds L vs H' := by
  obtain ⟨ks, h1, h2, h3⟩ := h
  exact ⟨ks, h1, fun p hp => e _ _ (h2 p hp), h3⟩
theorem erd_nil {σ : L2.St} {H : Hp} : EvAP tNil σ H (Rds []) := fun H1 _ _ q => q [] H1 (Ex.refl _) ⟨[], rfl, (fun _ h => by cases h), rfl⟩
theorem erd_cons {σ : L2.St} {H : Hp} {tr : TA} {a b : Int} {L : List (Int × Int)} (hr : EvAP tr σ H (Rds L)) : EvAP (tCons (tTup (tCons (tC (.int a)) (tCons (tC (.int b)) tNil))) tr) σ H (Rds ((a, b) :: L)) := fun H1 e Q q =>
  eu_tup (ea_cons ev_c (ea_cons ev_c ea_nil)) (by show 2 ≤ 100000; decide) H1 e _ fun p H2 hp e2 h2 => hr H2 (e.trans e2) _ fun vs H3 e3 ⟨ks, p1, p2, p3⟩ => q _ H3 (e2.trans e3) ⟨(p, [a, b]) :: ks, by rw [p1]; rfl, (fun q hq => by
    rcases List.mem_cons.mp hq with rfl | hq
    · exact e3 _ _ h2
    · exact p2 q hq), by rw [List.map_cons, p3]; rfl⟩
theorem Made.back {H H1 H' : Hp} {v : V} {most n h : Int} {all : List (Int × Int)} {s : List (Option Nat)} (e : Ex H H1) (M : Made H1 H' v most n h all s) : Made H H' v most n h all s := by
  obtain ⟨⟨t, lt, r, sg, ks, m1, m2, m3, m4, m5, m6, m7, m8, m9, m10, m11⟩, m12, m13, m14, m15, m16, m17⟩ := M
  exact ⟨⟨t, lt, r, sg, ks, m1, m2, m3, m4, m5, m6, m7, fresh_back e m8, fresh_back e m9, fresh_back e m10, fresh_back e m11⟩, m12, m13, m14, m15, m16, m17⟩
theorem el_law_home {σ : L2.St} {H : Hp} {ta tb : TE} {lv sv : V} {n h : Int} {rs : List (Int × Int)} {s : List (Option Nat)} (h1 : Ev ta σ H lv) (h2 : Ev tb σ H sv) (g : Laid K H lv sv n h rs s) : EvL (tCall (sp_law_home K) [] C8.E0 (tCons ta (tCons tb tNil))) σ H ((comers s h.toNat).map natV) := fun H6 e6 Q q =>
  (ea_cons h1 (ea_cons h2 ea_nil)) H6 e6 _ fun H7 e7 => ⟨_, _, n, h, rs, s, rfl, g.mono (e6.trans e7), fun p H8 hp e8 h8 => q p H8 (fresh_back e7 hp) (e7.trans e8) h8⟩
theorem ne_signs {H : Hp} {a b : Addr} {s : List (Option Nat)} (h1 : SqL K H a (s.map nV)) (h2 : SqL K H b (s.map nV)) : RV (rNeD K) (.ref a) (.ref b) H (.bl false) := by
  have q := rv_neD (K := K) (p := True) (.lst h1 (dp_n s)) (.lst h2 (dp_n s)) (pd_n s) (pd_n s) (by simp)
  exact q
/-- two lists of places -/
theorem ne_nats2 {H : Hp} {a b : Addr} {l m : List Nat} (h1 : SqL K H a (l.map natV)) (h2 : SqL K H b (m.map natV)) : RV (rNeD K) (.ref a) (.ref b) H (.bl (!decide (l = m))) :=
  rv_neD (.lst h1 (dp_nats l)) (.lst h2 (dp_nats m)) (pd_nats l) (pd_nats m) (by rw [lst_inj]; exact map_inj natD_inj)
/-- abs(sum(script[:63])) -/
theorem evp_whole {σ : L2.St} {H : Hp} {sa : Addr} {ns : List Int} (h0 : σ[0]? = some (some (.ref sa))) (hS : SqL K H sa (ns.map V.int)) (hns : ns.length ≤ 63) : EvP (tCB (fun xs H Q => ∃ i : Int, xs = [.int i] ∧ Q (.int (if i < 0 then -i else i)) H) (tCons (tCB (rSum K) (tCons (tSl (rSlL K) (tVar 0) tNoPart (tPart (tC (.int 63)))) tNil)) tNil)) σ H (fun v _ => ∃ W : Int, 0 ≤ W ∧ v = .int W) := by
  have hcut : cutV (ns.map V.int) none (some ((63 : Nat) : Int)) = ns.map V.int := by
    rw [cut_to, List.take_of_length_le (by rw [List.length_map]; exact hns)]
  have sumE : EvP (tSl (rSlL K) (tVar 0) tNoPart (tPart (tC (.int 63)))) σ H (fun v H2 => ∃ r, v = .ref r ∧ SqL K H2 r (ns.map V.int)) := fun H2 e2 Q q =>
    el_sl (K := K) (ev_var h0) eo_none (eo_some ev_c) hS H2 e2 _ fun p H3 hp e3 h3 => q _ _ e3 ⟨p, rfl, sq_of (by rw [h3]; exact congrArg (fun z => some (HO.lst z)) hcut)⟩
  exact evp_cb1 (Post := fun v _ => v = .int ns.sum) (evp_cb1 (Post := fun v H2 => ∃ r, v = .ref r ∧ SqL K H2 r (ns.map V.int)) sumE fun x H1 e ⟨r, e1, h1⟩ => ⟨.int ns.sum, by subst e1; exact fun H2 e2 Q q => ⟨r, ns, rfl, ex_l e2 h1, q H2 (Ex.refl _)⟩, fun _ _ => rfl⟩)
      fun x H1 e hx => ⟨.int (if ns.sum < 0 then -ns.sum else ns.sum), by subst hx; exact rc_abs, fun _ _ => ⟨_, by split <;> omega, rfl⟩⟩
theorem el_callA {σ : L2.St} {H : Hp} {sp : Sp} {dvs xs : List V} {E : XK} {tl : TA} {P : List V → Hp → Prop} (h : EvAP tl σ H P) (hs : ∀ vs H1, Ex H H1 → P vs H1 → SpL sp (vs ++ dvs) H1 xs) : EvL (tCall sp dvs E tl) σ H xs := fun H1 e Q q =>
  h H1 e _ fun vs H2 e2 p => hs vs H2 (e.trans e2) p H2 (Ex.refl _) Q (fun r H3 hr e3 h3 => q r H3 (fresh_back e2 hr) (e2.trans e3) h3) E
theorem eq_nats {H : Hp} {a b : Addr} {l m : List Nat} (h1 : SqL K H a (l.map natV)) (h2 : SqL K H b (m.map natV)) : RV (rEqD K) (.ref a) (.ref b) H (.bl (decide (l = m))) :=
  rv_eqD (.lst h1 (dp_nats l)) (.lst h2 (dp_nats m)) (pd_nats l) (pd_nats m) (by rw [lst_inj]; exact map_inj natD_inj)
/-- a land, written out -/
theorem evp_land {σ : L2.St} {H : Hp} {n h : Int} {L : List (Int × Int)} {tl : TA} (hl : EvAP tl σ H (Rds L)) (hz : L.length ≤ 1000) : EvP (tTup (tCons (tC (.int n)) (tCons (tC (.int h)) (tCons (tLst tl) tNil)))) σ H (fun v H' => LandAt K H' v n h L) :=
  (evp_tup (P := fun vs H' => ∃ lr vs0, vs = [.int n, .int h, .ref lr] ∧ H' lr = some (.lst vs0) ∧ Rds L vs0 H') ((eap_v ev_c (eap_v ev_c (eap_p (Post := fun v H' => ∃ lr vs0, v = .ref lr ∧ H' lr = some (.lst vs0) ∧ Rds L vs0 H') ((evp_lstA hl (fun vs H1 H2 e q => q.mono e) (fun vs H1 ⟨ks, q1, q2, q3⟩ => by
          have z := congrArg List.length q3
          rw [q1, List.length_map]
          rw [List.length_map, List.length_map] at z
          omega)).weak fun v H2 _ ⟨r, vs, y1, y2, y3, y4⟩ => ⟨r, vs, y1, y3, y4⟩) (fun v H1 H2 e ⟨r, vs, y1, y2, y3⟩ => ⟨r, vs, y1, e _ _ y2, y3.mono e⟩) eap_nil))).weak fun vs H2 _ ⟨r1, e1, r2, e2, x, r3, e3, ⟨lr, vs0, y1, y2, y3⟩, e4⟩ => ⟨lr, vs0, by rw [e1, e2, e3, e4, y1], y2, y3⟩) (fun vs H1 H2 e ⟨r, vs0, y1, y2, y3⟩ => ⟨r, vs0, y1, e _ _ y2, y3.mono e⟩) (fun vs H1 ⟨r, vs0, y1, _⟩ => by rw [y1]; show 3 ≤ 100000; decide)).weak fun v H2 _ ⟨r, vs, y1, y2, lr, vs0, z1, z2, z3⟩ => by
          subst z1
          obtain ⟨ks, q1, q2, q3⟩ := z3
          exact ⟨r, lr, y1, st_of y2, ks, by rw [← q1]; exact sq_of z2, fun p hp => st_of (q2 p hp), q3⟩

end
end Sg
namespace Sg
set_option autoImplicit false
open PySem L2 Evl Big
open PyProof.Rows (envOfC)
section
variable {P : Program} {w : World} {K : PySem.W.Frag} {mg : Str → Option Value} {base : Heap} {ad : Ads}
/-- a list's place and its things, each so -/
def LstV (b : Nat) (Pe : Hp → V → Prop) (H : Hp) (v : V) : Prop := ∃ a xs, v = .ref a ∧ H a = some (.lst xs) ∧ xs.length ≤ b ∧ ∀ x ∈ xs, Pe H x
def Mn (Pe : Hp → V → Prop) : Prop := ∀ H H' v, Ex H H' → Pe H v → Pe H' v
theorem LstV.mn {b : Nat} {Pe : Hp → V → Prop} (m : Mn Pe) : Mn (LstV b Pe) := fun H H' v e ⟨a, xs, h1, h2, h3, h4⟩ => ⟨a, xs, h1, e _ _ h2, h3, fun x hx => m _ _ _ e (h4 x hx)⟩
theorem LstV.up {b c : Nat} {Pe : Hp → V → Prop} {H : Hp} {v : V} (hb : b ≤ c) (h : LstV b Pe H v) : LstV c Pe H v := by
  obtain ⟨a, xs, h1, h2, h3, h4⟩ := h
  exact ⟨a, xs, h1, h2, by omega, h4⟩
def IntE (_ : Hp) (v : V) : Prop := ∃ i, v = .int i
def SignE (_ : Hp) (v : V) : Prop := v = .non ∨ ∃ i, v = .int i
theorem mn_int : Mn IntE := fun _ _ _ _ h => h
theorem mn_sign : Mn SignE := fun _ _ _ _ h => h
abbrev IntsV (b : Nat) := LstV b IntE
abbrev SignsV (b : Nat) := LstV b SignE
abbrev SetsV (b c : Nat) := LstV b (IntsV c)
/-- two things in a tuple -/
def PairV (P1 P2 : Hp → V → Prop) (H : Hp) (v : V) : Prop := ∃ r x y, v = .ref r ∧ H r = some (.tup [x, y]) ∧ P1 H x ∧ P2 H y
theorem PairV.mn {P1 P2 : Hp → V → Prop} (m1 : Mn P1) (m2 : Mn P2) : Mn (PairV P1 P2) := fun H H' v e ⟨r, x, y, h1, h2, h3, h4⟩ => ⟨r, x, y, h1, e _ _ h2, m1 _ _ _ e h3, m2 _ _ _ e h4⟩
def EL (Pe : Hp → V → Prop) (t : TE) (σ : L2.St) (H : Hp) : Prop := EvP t σ H (fun v H' => Pe H' v)
theorem EL.var {Pe : Hp → V → Prop} {σ : L2.St} {H : Hp} {i : Nat} {v : V} (m : Mn Pe) (h : σ[i]? = some (some v)) (p : Pe H v) : EL Pe (tVar i) σ H := evp_of (ev_var h) fun H1 e => m _ _ _ e p
theorem EL.of {Pe : Hp → V → Prop} {σ : L2.St} {H : Hp} {t : TE} {v : V} (m : Mn Pe) (h : Ev t σ H v) (p : Pe H v) : EL Pe t σ H := evp_of h fun H1 e => m _ _ _ e p
theorem EL.weak {Pe Pf : Hp → V → Prop} {σ : L2.St} {H : Hp} {t : TE} (h : EL Pe t σ H) (w : ∀ H' v, Pe H' v → Pf H' v) : EL Pf t σ H := EvP.weak h fun v H1 _ p => w _ _ p
theorem EL.mono {Pe : Hp → V → Prop} {σ : L2.St} {H H' : Hp} {t : TE} (e : Ex H H') (h : EL Pe t σ H) : EL Pe t σ H' := EvP.mono e h
theorem cutV_mem {xs : List V} {lo hi : Option Int} {x : V} (h : x ∈ cutV xs lo hi) : x ∈ xs := by
  unfold cutV at h
  exact List.mem_of_mem_drop (List.mem_of_mem_take h)
theorem EL.sl {b : Nat} {Pe : Hp → V → Prop} {σ : L2.St} {H : Hp} {te : TE} {tl th : TO} {lo hi : Option Int} (m : Mn Pe) (h : EL (LstV b Pe) te σ H) (h1 : EvO tl σ H lo) (h2 : EvO th σ H hi) : EL (LstV b Pe) (tSl (rSlL K) te tl th) σ H := fun H1 e Q q =>
  h H1 e _ fun v H2 e2 ⟨a, xs, ev, hx, hb, hp⟩ => h1 H2 (e.trans e2) _ fun H3 e3 => h2 H3 ((e.trans e2).trans e3) _ fun H4 e4 => by
    subst ev
    exact ⟨a, xs, rfl, ex_l (e3.trans e4) (sq_of hx), fun p hn => q _ _ (((e2.trans e3).trans e4).trans (Ex.new hn)) ⟨p, _, rfl, upd_same, Nat.le_trans (cutV_length xs lo hi) hb, fun x hx => m _ _ _ ((e3.trans e4).trans (Ex.new hn)) (hp x (cutV_mem hx))⟩⟩
theorem EL.rev {b : Nat} {Pe : Hp → V → Prop} {σ : L2.St} {H : Hp} {te : TE} (m : Mn Pe) (h : EL (LstV b Pe) te σ H) : EL (LstV b Pe) (tRevL K te) σ H := fun H1 e Q q =>
  h H1 e _ fun v H2 e2 ⟨a, xs, ev, hx, hb, hp⟩ => ⟨a, xs, ev, sq_of hx, fun p hn => q _ _ (e2.trans (Ex.new hn)) ⟨p, _, rfl, upd_same, by rw [List.length_reverse]; exact hb, fun x hx => m _ _ _ (Ex.new hn) (hp x (List.mem_reverse.mp hx))⟩⟩
theorem EL.plus {b c d : Nat} {Pe : Hp → V → Prop} {σ : L2.St} {H : Hp} {ta tb : TE} (m : Mn Pe) (h1 : EL (LstV b Pe) ta σ H) (h2 : EL (LstV c Pe) tb σ H) (hd : b + c ≤ d) (hz : d ≤ 100000) : EL (LstV d Pe) (tOp rCat ta tb) σ H := fun H1 e Q q =>
  h1 H1 e _ fun v H2 e2 ⟨a, xs, ev, hx, hb, hp⟩ => h2 H2 (e.trans e2) _ fun w H3 e3 ⟨a', ys, ew, hy, hc, hq⟩ => ⟨a, a', xs, ys, ev, ew, e3 _ _ hx, hy, sz_of (by omega), fun p hn => q _ _ ((e2.trans e3).trans (Ex.new hn)) ⟨p, _, rfl, upd_same, by rw [List.length_append]; omega, fun x hx => (List.mem_append.mp hx).elim (fun h => m _ _ _ (e3.trans (Ex.new hn)) (hp x h)) fun h => m _ _ _ (Ex.new hn) (hq x h)⟩⟩
/-- things of a list that is written out -/
def EAll (b : Nat) (Pe : Hp → V → Prop) (t : TA) (σ : L2.St) (H : Hp) : Prop := EvAP t σ H (fun vs H' => vs.length ≤ b ∧ ∀ x ∈ vs, Pe H' x)
theorem EAll.nil {Pe : Hp → V → Prop} {σ : L2.St} {H : Hp} : EAll 0 Pe tNil σ H := fun H1 _ _ q => q [] H1 (Ex.refl _) ⟨Nat.le_refl _, fun _ h => nomatch h⟩
theorem EAll.cons {b : Nat} {Pe : Hp → V → Prop} {σ : L2.St} {H : Hp} {te : TE} {tr : TA} (m : Mn Pe) (h : EL Pe te σ H) (hr : EAll b Pe tr σ H) : EAll (b + 1) Pe (tCons te tr) σ H := fun H1 e Q q =>
  h H1 e _ fun v H2 e2 p => hr H2 (e.trans e2) _ fun vs H3 e3 ⟨hl, hp⟩ => q _ _ (e2.trans e3) ⟨by rw [List.length_cons]; omega, fun x hx => (List.mem_cons.mp hx).elim (fun z => by rw [z]; exact m _ _ _ e3 p) (hp x)⟩
theorem EL.lst {b : Nat} {Pe : Hp → V → Prop} {σ : L2.St} {H : Hp} {ta : TA} (m : Mn Pe) (h : EAll b Pe ta σ H) (hz : b ≤ 100000) : EL (LstV b Pe) (tLst ta) σ H := fun H1 e Q q =>
  h H1 e _ fun vs H2 e2 ⟨hl, hp⟩ => ⟨sz_of (by omega), fun p hn => q _ _ (e2.trans (Ex.new hn)) ⟨p, _, rfl, upd_same, hl, fun x hx => m _ _ _ (Ex.new hn) (hp x hx)⟩⟩
theorem EL.pair {P1 P2 : Hp → V → Prop} {σ : L2.St} {H : Hp} {t1 t2 : TE} (m1 : Mn P1) (m2 : Mn P2) (h1 : EL P1 t1 σ H) (h2 : EL P2 t2 σ H) : EL (PairV P1 P2) (tTup (tCons t1 (tCons t2 tNil))) σ H := fun H1 e Q q =>
  h1 H1 e _ fun v H2 e2 p => h2 H2 (e.trans e2) _ fun w H3 e3 p2 => ⟨sz_of (by show 2 ≤ 100000; decide), fun r hn => q _ _ ((e2.trans e3).trans (Ex.new hn)) ⟨r, v, w, rfl, upd_same, m1 _ _ _ (e3.trans (Ex.new hn)) p, m2 _ _ _ (Ex.new hn) p2⟩⟩
theorem EL.evl {b : Nat} {Pe : Hp → V → Prop} {σ : L2.St} {H : Hp} {t : TE} {xs : List V} (m : Mn Pe) (h : EvL t σ H xs) (hb : xs.length ≤ b) (hp : ∀ x ∈ xs, Pe H x) : EL (LstV b Pe) t σ H := evp_l h fun a H1 _ e ha => ⟨a, xs, rfl, ha, hb, fun x hx => m _ _ _ e (hp x hx)⟩
/-- what is told of the numbers themselves -/
theorem intsE_of : ∀ {xs : List V}, (∀ x ∈ xs, ∃ i, x = V.int i) → ∃ S : List Int, xs = S.map V.int
  | [], _ => ⟨[], rfl⟩
  | x :: xs, h => by
    obtain ⟨i, rfl⟩ := h x (List.mem_cons_self ..)
    obtain ⟨S, rfl⟩ := intsE_of (xs := xs) fun y hy => h y (List.mem_cons_of_mem _ hy)
    exact ⟨i :: S, rfl⟩
theorem signsE_of : ∀ {xs : List V}, (∀ x ∈ xs, x = .non ∨ ∃ i, x = V.int i) → ∃ t : List (Option Int), xs = t.map oV
  | [], _ => ⟨[], rfl⟩
  | x :: xs, h => by
    obtain ⟨t, rfl⟩ := signsE_of (xs := xs) fun y hy => h y (List.mem_cons_of_mem _ hy)
    rcases h x (List.mem_cons_self ..) with rfl | ⟨i, rfl⟩
    · exact ⟨none :: t, rfl⟩
    · exact ⟨some i :: t, rfl⟩
theorem IntsV.get {b : Nat} {H : Hp} {v : V} (h : IntsV b H v) : ∃ (a : Addr) (S : List Int), v = .ref a ∧ H a = some (.lst (S.map V.int)) ∧ S.length ≤ b := by
  obtain ⟨a, xs, h1, h2, h3, h4⟩ := h
  obtain ⟨S, rfl⟩ := intsE_of h4
  exact ⟨a, S, h1, h2, by rwa [List.length_map] at h3⟩
theorem SignsV.get {b : Nat} {H : Hp} {v : V} (h : SignsV b H v) : ∃ (a : Addr) (t : List (Option Int)), v = .ref a ∧ H a = some (.lst (t.map oV)) ∧ t.length ≤ b := by
  obtain ⟨a, xs, h1, h2, h3, h4⟩ := h
  obtain ⟨t, rfl⟩ := signsE_of h4
  exact ⟨a, t, h1, h2, by rwa [List.length_map] at h3⟩
theorem setsE_of {H : Hp} {c : Nat} : ∀ {xs : List V}, (∀ x ∈ xs, IntsV c H x) → ∃ ks : List (Addr × List Int), xs = ks.map (fun q => V.ref q.1) ∧ ∀ q ∈ ks, H q.1 = some (.lst (q.2.map V.int)) ∧ q.2.length ≤ c
  | [], _ => ⟨[], rfl, fun _ h => nomatch h⟩
  | x :: xs, h => by
    obtain ⟨a, S, rfl, h2, h3⟩ := IntsV.get (h x (List.mem_cons_self ..))
    obtain ⟨ks, rfl, hk⟩ := setsE_of (xs := xs) fun y hy => h y (List.mem_cons_of_mem _ hy)
    exact ⟨(a, S) :: ks, rfl, fun q hq => (List.mem_cons.mp hq).elim (fun z => by rw [z]; exact ⟨h2, h3⟩) (hk q)⟩
theorem SetsV.get {b c : Nat} {H : Hp} {v : V} (h : SetsV b c H v) : ∃ (a : Addr) (ks : List (Addr × List Int)), v = .ref a ∧ H a = some (.lst (ks.map fun q : Addr × List Int => V.ref q.1)) ∧ (∀ q ∈ ks, H q.1 = some (.lst (q.2.map V.int)) ∧ q.2.length ≤ c) ∧ ks.length ≤ b := by
  obtain ⟨a, xs, h1, h2, h3, h4⟩ := h
  obtain ⟨ks, rfl, hk⟩ := setsE_of h4
  exact ⟨a, ks, h1, h2, hk, by rwa [List.length_map] at h3⟩
theorem pairsE_of {H : Hp} {P1 P2 : Hp → V → Prop} : ∀ {xs : List V}, (∀ x ∈ xs, PairV P1 P2 H x) → ∃ l : List (V × V × V), xs = l.map (fun q => q.1) ∧ ∀ q ∈ l, (∃ r, q.1 = .ref r ∧ H r = some (.tup [q.2.1, q.2.2])) ∧ P1 H q.2.1 ∧ P2 H q.2.2
  | [], _ => ⟨[], rfl, fun _ h => nomatch h⟩
  | x :: xs, h => by
    obtain ⟨r, y, z, rfl, h2, h3, h4⟩ := h x (List.mem_cons_self ..)
    obtain ⟨l, rfl, hk⟩ := pairsE_of (xs := xs) fun y hy => h y (List.mem_cons_of_mem _ hy)
    exact ⟨(.ref r, y, z) :: l, rfl, fun q hq => (List.mem_cons.mp hq).elim (fun z => by rw [z]; exact ⟨⟨r, rfl, h2⟩, h3, h4⟩) (hk q)⟩
/-- for .. in (a list not yet told) -/
theorem q_forP {σ : L2.St} {H : Hp} {D : Ends} {tl : TE} {g : TG} {tu tz : TS} {P : V → Hp → Prop} (h : EvP tl σ H P) (k : ∀ v H1, Ex H H1 → P v H1 → tSeq (tFor (iList K (tC v)) g tu) tz D σ H1) : tSeq (tFor (iList K tl) g tu) tz D σ H := h H (Ex.refl H) _ fun v H1 e p => k v H1 e p
theorem s_forP {σ : L2.St} {H : Hp} {D : Ends} {tl : TE} {g : TG} {tu : TS} {P : V → Hp → Prop} (h : EvP tl σ H P) (k : ∀ v H1, Ex H H1 → P v H1 → tFor (iList K (tC v)) g tu D σ H1) : tFor (iList K tl) g tu D σ H := h H (Ex.refl H) _ fun v H1 e p => k v H1 e p
/-- a list that grows, of things that lie elsewhere -/
structure Gw (Pe : Hp → V → Prop) (H0 : Hp) (fa : Addr) (xs : List V) (G H' : Hp) : Prop where
  ex0 : Ex H0 G
  gf : G fa = none
  ex : Ex G H'
  at_ : H' fa = some (.lst xs)
  pl : ∀ v ∈ xs, Pe G v
theorem Gw.mono {Pe : Hp → V → Prop} {H0 G H' H2 : Hp} {fa : Addr} {xs : List V} (e : Ex H' H2) (f : Gw Pe H0 fa xs G H') : Gw Pe H0 fa xs G H2 := { f with ex := f.ex.trans e, at_ := e _ _ f.at_ }
theorem Gw.put {Pe : Hp → V → Prop} {H0 G H' : Hp} {fa : Addr} {xs ys : List V} (m : Mn Pe) (f : Gw Pe H0 fa xs G H') (hv : ∀ v ∈ ys, Pe (hid H' fa fa) v) : Gw Pe H0 fa (xs ++ ys) (hid H' fa fa) (upd H' fa (.lst (xs ++ ys))) := by
  have e := hid_of f.ex f.gf f.gf
  exact ⟨f.ex0.trans e, hid_a, Ex.mut hid_ex hid_a, upd_same, fun v hm => (List.mem_append.mp hm).elim (fun h => m _ _ _ e (f.pl v h)) (hv v)⟩
theorem Gw.new {Pe : Hp → V → Prop} {H0 H' : Hp} {fa : Addr} {xs : List V} (e : Ex H0 H') (h0 : H0 fa = none) (h : H' fa = some (.lst xs)) (hp : ∀ v ∈ xs, Pe (hid H' fa fa) v) : Gw Pe H0 fa xs (hid H' fa fa) H' := ⟨hid_of e h0 h0, hid_a, hid_ex, h, hp⟩
theorem Gw.all {Pe : Hp → V → Prop} {H0 G H' : Hp} {fa : Addr} {xs : List V} (m : Mn Pe) (f : Gw Pe H0 fa xs G H') : ∀ v ∈ xs, Pe H' v := fun v hv => m _ _ _ f.ex (f.pl v hv)
/-- a list whose first thing is at a place that holds no list is no list of numbers, nor of lists of numbers -/
theorem hid_ints {H : Hp} {b : Nat} {fa : Addr} {r : Addr} {ys : List V} {v : V} (hf : H fa = some (.lst (.ref r :: ys))) (h : IntsV b H v) : IntsV b (hid H fa fa) v := by
  obtain ⟨a, xs, h1, h2, h3, h4⟩ := h
  refine ⟨a, xs, h1, hid_get h2 ?_ ?_, h3, h4⟩ <;>
  · intro z
    rw [z, hf] at h2
    injection h2 with h2
    injection h2 with h2
    obtain ⟨i, e⟩ := h4 (.ref r) (by rw [← h2]; exact List.mem_cons_self ..)
    cases e
theorem hid_signs {H : Hp} {b : Nat} {fa : Addr} {r : Addr} {ys : List V} {v : V} (hf : H fa = some (.lst (.ref r :: ys))) (h : SignsV b H v) : SignsV b (hid H fa fa) v := by
  obtain ⟨a, xs, h1, h2, h3, h4⟩ := h
  refine ⟨a, xs, h1, hid_get h2 ?_ ?_, h3, h4⟩ <;>
  · intro z
    rw [z, hf] at h2
    injection h2 with h2
    injection h2 with h2
    rcases h4 (.ref r) (by rw [← h2]; exact List.mem_cons_self ..) with e | ⟨i, e⟩ <;> cases e
theorem hid_sets {H : Hp} {b c : Nat} {fa : Addr} {r : Addr} {ts ys : List V} {v : V} (hf : H fa = some (.lst (.ref r :: ys))) (hr : H r = some (.tup ts)) (h : SetsV b c H v) : SetsV b c (hid H fa fa) v := by
  obtain ⟨a, xs, h1, h2, h3, h4⟩ := h
  refine ⟨a, xs, h1, hid_get h2 ?_ ?_, h3, fun x hx => hid_ints hf (h4 x hx)⟩ <;>
  · intro z
    rw [z, hf] at h2
    injection h2 with h2
    injection h2 with h2
    obtain ⟨p, zs, e, hp, _⟩ := h4 (.ref r) (by rw [← h2]; exact List.mem_cons_self ..)
    cases e
    rw [hr] at hp
    cases hp
theorem hid_row {H : Hp} {b c d : Nat} {fa : Addr} {r : Addr} {ts ys : List V} {v : V} (hf : H fa = some (.lst (.ref r :: ys))) (hr : H r = some (.tup ts)) (h : PairV (SignsV b) (SetsV c d) H v) : PairV (SignsV b) (SetsV c d) (hid H fa fa) v := by
  obtain ⟨t, x, y, h1, h2, h3, h4⟩ := h
  have n : t ≠ fa := fun z => by rw [z, hf] at h2; cases h2
  exact ⟨t, x, y, h1, hid_get h2 n n, hid_signs hf h3, hid_sets hf hr h4⟩

end
end Sg
namespace Sg
set_option autoImplicit false
open PySem L2 Evl Big
open PyProof.Rows (envOfC)
section
variable {P : Program} {w : World} {K : PySem.W.Frag} {mg : Str → Option Value} {base : Heap} {ad : Ads}
theorem CopyAt.back {H H1 H2 : Hp} {l : List It2} {v : V} (e : Ex H H1) (h : CopyAt H1 l v H2) : CopyAt H l v H2 := by
  obtain ⟨D, ys, h1, h2, h3, h4, h5, h6⟩ := h
  refine ⟨D, ys, h1, fresh_back e h2, h3, h4, fun i it y e1 e2 => ?_, h6⟩
  have q := h5 i it y e1 e2
  cases it with
  | inl p => exact q
  | inr p =>
    obtain ⟨r, z1, z2, z3, z4⟩ := q
    exact ⟨r, z1, z2, fresh_back e z3, z4⟩
theorem CopyAt.keep {H H1 H2 : Hp} {l : List It2} {v : V} (e : Ex H1 H2) (h : CopyAt H l v H1) : CopyAt H l v H2 := by
  obtain ⟨D, ys, h1, h2, h3, h4, h5, h6⟩ := h
  refine ⟨D, ys, h1, h2, e _ _ h3, h4, fun i it y e1 e2 => ?_, h6⟩
  have q := h5 i it y e1 e2
  cases it with
  | inl p => exact q
  | inr p =>
    obtain ⟨r, z1, z2, z3, z4⟩ := q
    exact ⟨r, z1, z2, z3, e _ _ z4⟩
theorem ok_Shut_init (T : Txt K mg ad) : C8.Mak P w K mg base 2 "Shut" ad.Shut (sp_Round_init K ad.Shut "places") [] := by
  have c_copied : C8.Cal P w K mg base 1 "copied" (sp_copied K) [] := ok_copied T
  refine mak_of T.mk_Shut sc_Shut_init (fun _ _ _ _ _ _ us hl => match us, hl with | [_, _], _ => rfl) (fun vs H Q E h => ?_) (fun f cdv A outer st H vs Q E hr h => ?_)
  · obtain ⟨x, dx, a, l, rfl, _⟩ := h; rfl
  · obtain ⟨x, dx, a, l, rfl, hx, hS, hl, hit, k⟩ := h
    refine ⟨_, (pss_one (ps_fld (pv 0) (C8.pe_c c_copied hr (by decide) rfl (pa_cons (pv 1) pa_nil)) rfl)), ?_⟩
    refine s_fld1 rfl hx T.cl_Shut T.no_Shut_places (evp_call (Post := CopyAt H l) (ea_cons (ev_var rfl) ea_nil) fun H1 e Q q E => ⟨_, rfl, .inr ⟨a, l, rfl, ex_l e hS, hl, fun y hy => (hit y hy).mono e, fun v H2 e2 p => q v H2 e2 (p.back e)⟩⟩) fun u H1 e hu => ?_
    exact k _ u (fun b o hb q => by rw [upd_ne hb]; exact e _ _ q) upd_same (hu.put (by rw [hx]; simp))

end
end Sg
namespace Sg
set_option autoImplicit false
open PySem L2 Evl Big
open PyProof.Rows (envOfC)
section
variable {P : Program} {w : World} {K : PySem.W.Frag} {mg : Str → Option Value} {base : Heap} {ad : Ads}
theorem s_fldG {σ : L2.St} {H : Hp} {D : Ends} {te : TE} {x dx C : Addr} {f : Str} {i : Nat} {fs : List (Str × V)} {Post : V → Hp → Prop} (hi : σ[i]? = some (some (.ref x))) (hx : H x = some (.ins C dx fs)) (hc : Cls K C) (hn : NoAttr K C f) (hl : fs.length < 1000)
    (h : EvP te σ H Post) (k : ∀ v H1, Ex H H1 → Post v H1 → D.nx σ (upd H1 x (.ins C dx (putF f v fs)))) : sFld K (tVar i) te f D σ H :=
  h H (Ex.refl H) _ fun v H1 e p => ⟨.ref x, hi, x, C, dx, fs, rfl, e _ _ hx, hc, hn, hl, k v H1 e p⟩
/-- lists of places, each at its own list -/
structure SetsAt (H : Hp) (b : Addr) (ks : List (Addr × List Nat)) : Prop where
  lst : H b = some (.lst (ks.map fun q => V.ref q.1))
  at_ : ∀ q ∈ ks, H q.1 = some (.lst (q.2.map natV))
theorem SetsAt.mono {H H' : Hp} {b : Addr} {ks : List (Addr × List Nat)} (e : Ex H H') (h : SetsAt H b ks) : SetsAt H' b ks := ⟨e _ _ h.lst, fun q hq => e _ _ (h.at_ q hq)⟩
def sItems (ks : List (Addr × List Nat)) : List It2 := ks.map fun q => .inr (q.1, q.2.map natV)
def nItems (s : List (Option Nat)) : List It2 := (s.map fun o => (nV o, nD o)).map .inl
/-- what an __init__ of two fields leaves -/
structure TurnedNew (H : Hp) (C x dx : Addr) (s : List (Option Nat)) (ls : List (List Nat)) (fa ga : Addr) (ks : List (Addr × List Nat)) (H3 : Hp) : Prop where
  frame : ∀ b o, b ≠ x → H b = some o → H3 b = some o
  ob : H3 x = some (.ins C dx (putF "sets" (.ref ga) (putF "signs" (.ref fa) [])))
  fn : H fa = none
  fl : H3 fa = some (.lst (s.map nV))
  gn : H ga = none
  gl : SetsAt H3 ga ks
  same : ks.map (·.2) = ls
  kn : ∀ q ∈ ks, H q.1 = none
  nd : (fa :: ga :: ks.map (·.1)).Nodup
def sp_Turned_init (K : PySem.W.Frag) (C : Addr) : Sp := fun vs H Q _ => ∃ (x dx a b : Addr) (s : List (Option Nat)) (ks : List (Addr × List Nat)), vs = [.ref x, .ref a, .ref b] ∧ H x = some (.ins C dx []) ∧ SqL K H a (s.map nV) ∧ SqL K H b (ks.map fun q => V.ref q.1) ∧ (∀ q ∈ ks, SqL K H q.1 (q.2.map natV)) ∧ s.length ≤ 40000 ∧ ks.length ≤ 40000 ∧ (∀ q ∈ ks, q.2.length ≤ 100000) ∧
  ∀ H3 fa ga ks', TurnedNew H C x dx s (ks.map (·.2)) fa ga ks' H3 → Q .non H3
def aOf : V → Addr
  | .ref p => p
  | _ => 0
/-- lists of places made anew -/
theorem sets_copy {H H' : Hp} {ks : List (Addr × List Nat)} {g : V} (h : CopyAt H (sItems ks) g H') : ∃ D ks', g = .ref D ∧ H D = none ∧ SetsAt H' D ks' ∧ ks'.map (·.2) = ks.map (·.2) ∧ (∀ q ∈ ks', q.1 ≠ D ∧ H q.1 = none) ∧ (ks'.map (·.1)).Nodup := by
  obtain ⟨D, ys, h1, h2, h3, h4, h5, h6⟩ := h
  have it : ∀ (i : Nat) q, ks[i]? = some q → (sItems ks)[i]? = some (.inr (q.1, q.2.map natV)) := fun i q e => by
    unfold sItems; rw [List.getElem?_map, e]; rfl
  have l1 : ys.length = ks.length := by rw [h4]; unfold sItems; rw [List.length_map]
  have hk : ∀ (i : Nat) q, ks[i]? = some q → ∃ p, ys[i]? = some (.ref p) ∧ p ≠ D ∧ H p = none ∧ H' p = some (.lst (q.2.map natV)) := fun i q e => by
    have hi := (List.getElem?_eq_some_iff.mp e).1
    have ey := List.getElem?_eq_getElem (show i < ys.length by omega)
    obtain ⟨p, z1, z2, z3, z4⟩ := h5 i _ _ (it i q e) ey
    exact ⟨p, by rw [ey, z1], z2, z3, z4⟩
  have kz : ∀ i : Nat, (List.zipWith (fun y (q : Addr × List Nat) => (aOf y, q.2)) ys ks)[i]? = ks[i]?.bind fun q => ys[i]?.map fun y => (aOf y, q.2) := fun i => by
    rw [List.getElem?_zipWith]
    cases ys[i]? <;> cases ks[i]? <;> rfl
  have kl : (List.zipWith (fun y (q : Addr × List Nat) => (aOf y, q.2)) ys ks).length = ks.length := by rw [List.length_zipWith]; omega
  have km : ∀ q' ∈ List.zipWith (fun y (q : Addr × List Nat) => (aOf y, q.2)) ys ks, ∃ (i : Nat) (q : Addr × List Nat), ks[i]? = some q ∧ ys[i]? = some (.ref q'.1) ∧ q'.2 = q.2 := fun q' hq' => by
    obtain ⟨i, hi⟩ := List.getElem?_of_mem hq'
    rw [kz] at hi
    cases e : ks[i]? with
    | none => rw [e] at hi; cases hi
    | some q =>
      obtain ⟨p, z1, _⟩ := hk i q e
      rw [e, z1] at hi
      cases hi
      exact ⟨i, q, e, z1, rfl⟩
  refine ⟨D, List.zipWith (fun y q => (aOf y, q.2)) ys ks, h1, h2, ⟨?_, fun q' hq' => ?_⟩, ?_, fun q' hq' => ?_, ?_⟩
  · rw [h3]
    congr 2
    apply List.ext_getElem?
    intro i
    rw [List.getElem?_map, kz]
    cases e : ks[i]? with
    | none =>
      have := List.getElem?_eq_none_iff.mp e
      rw [List.getElem?_eq_none (by omega)]; rfl
    | some q =>
      obtain ⟨p, z1, _⟩ := hk i q e
      rw [z1]; rfl
  · obtain ⟨i, q, e, z1, z2⟩ := km q' hq'
    obtain ⟨p, y1, y2, y3, y4⟩ := hk i q e
    rw [z1] at y1
    injection y1 with y1
    injection y1 with y1
    rw [z2, y1]; exact y4
  · apply List.ext_getElem?
    intro i
    rw [List.getElem?_map, List.getElem?_map, kz]
    cases e : ks[i]? with
    | none => rfl
    | some q =>
      obtain ⟨p, z1, _⟩ := hk i q e
      rw [z1]; rfl
  · obtain ⟨i, q, e, z1, z2⟩ := km q' hq'
    obtain ⟨p, y1, y2, y3, y4⟩ := hk i q e
    rw [z1] at y1
    injection y1 with y1
    injection y1 with y1
    rw [y1]; exact ⟨y2, y3⟩
  · rw [List.nodup_iff_pairwise_ne, List.pairwise_iff_getElem]
    intro i j hi hj hij e
    rw [List.length_map, kl] at hi hj
    have ei := List.getElem?_eq_getElem hi
    have ej := List.getElem?_eq_getElem hj
    obtain ⟨p, z1, _⟩ := hk i _ ei
    obtain ⟨q, y1, _⟩ := hk j _ ej
    have e1 : (List.zipWith (fun y (q : Addr × List Nat) => (aOf y, q.2)) ys ks)[i]? = some (p, ks[i].2) := by rw [kz, ei, z1]; rfl
    have e2 : (List.zipWith (fun y (q : Addr × List Nat) => (aOf y, q.2)) ys ks)[j]? = some (q, ks[j].2) := by rw [kz, ej, y1]; rfl
    have f1 := (List.getElem?_eq_some_iff.mp e1).2
    have f2 := (List.getElem?_eq_some_iff.mp e2).2
    rw [List.getElem_map, List.getElem_map, f1, f2] at e
    have e : p = q := e
    subst e
    have := h6 i j p z1 y1 ⟨_, it i _ ei⟩ ⟨_, it j _ ej⟩
    omega
theorem signs_copy {H H' : Hp} {s : List (Option Nat)} {v : V} (h : CopyAt H (nItems s) v H') : ∃ D, v = .ref D ∧ H D = none ∧ H' D = some (.lst (s.map nV)) := by
  obtain ⟨D, h1, h2, h3⟩ := copy_flat h
  refine ⟨D, h1, h2, ?_⟩
  rw [h3, List.map_map]
  rfl
theorem sItems_v (ks : List (Addr × List Nat)) : (sItems ks).map itV = ks.map fun q => V.ref q.1 := by
  unfold sItems; rw [List.map_map]; rfl
theorem nItems_v (s : List (Option Nat)) : (nItems s).map itV = s.map nV := by
  unfold nItems; rw [List.map_map, List.map_map]; rfl
theorem ok_Turned_init (T : Txt K mg ad) : C8.Mak P w K mg base 2 "Turned" ad.Turned (sp_Turned_init K ad.Turned) [] := by
  have c_copied : C8.Cal P w K mg base 1 "copied" (sp_copied K) [] := ok_copied T
  refine mak_of T.mk_Turned sc_Turned_init (fun _ _ _ _ _ _ us hl => match us, hl with | [_, _, _], _ => rfl) (fun vs H Q E h => ?_) (fun f cdv A outer st H vs Q E hr h => ?_)
  · obtain ⟨x, dx, a, b, s, ks, rfl, _⟩ := h; rfl
  · obtain ⟨x, dx, a, b, s, ks, rfl, hx, ha, hb, hbs, hs, hks, hq, k⟩ := h
    refine ⟨_, (pss_cons (ps_fld (pv 0) (C8.pe_c c_copied hr (by decide) rfl (pa_cons (pv 1) pa_nil)) rfl)
  (pss_one (ps_fld (pv 0) (C8.pe_c c_copied hr (by decide) rfl (pa_cons (pv 2) pa_nil)) rfl))), ?_⟩
    have hxn : H x ≠ none := by rw [hx]; simp
    refine s_fldG (D := { nx := _, rt := _, .. }) rfl hx T.cl_Turned T.no_Turned_signs (by decide) (evp_call (Post := CopyAt H (nItems s)) (ea_cons (ev_var rfl) ea_nil) fun H1 e Q q E => ⟨_, rfl, .inr ⟨a, nItems s, rfl, by rw [nItems_v]; exact ex_l e ha, by unfold nItems; rw [List.length_map, List.length_map]; exact hs, fun y hy => ?_, fun v H2 e2 p => q v H2 e2 (p.back e)⟩⟩) fun u H1 e hu => ?_
    · unfold nItems at hy
      rw [List.map_map] at hy
      obtain ⟨o, _, rfl⟩ := List.mem_map.mp hy
      exact ⟨da_n o, by cases o <;> rfl⟩
    · have keep : ∀ c o, c ≠ x → H c = some o → (upd H1 x (.ins ad.Turned dx (putF "signs" u []))) c = some o := fun c o n q => by rw [upd_ne n]; exact e _ _ q
      have keepL : ∀ c xs, SqL K H c xs → SqL K (upd H1 x (.ins ad.Turned dx (putF "signs" u []))) c xs := fun c xs q => by
        rcases q with (q | ⟨o, q⟩) | q
        · exact .inl (.inl (keep _ _ (fun z => by rw [z, hx] at q; cases q) q))
        · exact .inl (.inr ⟨o, keep _ _ (fun z => by rw [z, hx] at q; cases q) q⟩)
        · exact .inr q
      have hb1 := keepL _ _ hb
      have hbs1 : ∀ q ∈ ks, SqL K (upd H1 x (.ins ad.Turned dx (putF "signs" u []))) q.1 (q.2.map natV) := fun q hm => keepL _ _ (hbs q hm)
      have hu1 := hu.put (o := .ins ad.Turned dx (putF "signs" u [])) hxn
      have hx1 : (upd H1 x (.ins ad.Turned dx (putF "signs" u []))) x = some (.ins ad.Turned dx (putF "signs" u [])) := upd_same
      have none_of : ∀ c, (upd H1 x (.ins ad.Turned dx (putF "signs" u []))) c = none → H c = none := fun c hc => by
        cases q : H c with
        | none => rfl
        | some o =>
          by_cases n : c = x
          · rw [n, upd_same] at hc; cases hc
          · rw [keep c o n q] at hc; cases hc
      generalize upd H1 x (.ins ad.Turned dx (putF "signs" u [])) = H2 at keep keepL hb1 hbs1 hu1 hx1 none_of
      refine s_fldG rfl hx1 T.cl_Turned T.no_Turned_sets (by show 1 < 1000; decide) (evp_call (Post := CopyAt H2 (sItems ks)) (ea_cons (ev_var rfl) ea_nil) fun H3 e3 Q q E => ⟨_, rfl, .inr ⟨b, sItems ks, rfl, by rw [sItems_v]; exact ex_l e3 hb1, by unfold sItems; rw [List.length_map]; exact hks, fun y hy => ?it, fun v H4 e4 p => q v H4 e4 (p.back e3)⟩⟩) fun g H3 e3 hg => ?fin
      case it =>
        unfold sItems at hy
        obtain ⟨q, hm, rfl⟩ := List.mem_map.mp hy
        exact ⟨ex_l e3 (hbs1 q hm), by rw [List.length_map]; exact hq q hm⟩
      case fin =>
        obtain ⟨fa, rfl, fn, fl⟩ := signs_copy hu1
        obtain ⟨ga, ks', rfl, gn, gl, same, kn, nd⟩ := sets_copy hg
        have f3 := e3 _ _ fl
        have fx : fa ≠ x := fun z => by rw [z, hx] at fn; cases fn
        have gx : ga ≠ x := fun z => by rw [z, hx1] at gn; cases gn
        have kx : ∀ q ∈ ks', q.1 ≠ x := fun q hq z => by have := (kn q hq).2; rw [z, hx1] at this; cases this
        refine k _ fa ga ks' ⟨fun c o n q => by rw [upd_ne n]; exact e3 _ _ (keep c o n q), upd_same, fn, by rw [upd_ne fx]; exact f3, none_of _ gn, ⟨by rw [upd_ne gx]; exact gl.lst, fun q hq => by rw [upd_ne (kx q hq)]; exact gl.at_ q hq⟩, same, fun q hq => none_of _ (kn q hq).2, ?_⟩
        rw [List.nodup_cons, List.nodup_cons]
        refine ⟨fun z => ?_, fun z => ?_, nd⟩
        · rcases List.mem_cons.mp z with z | z
          · rw [z, gn] at fl; cases fl
          · obtain ⟨q, hq, e⟩ := List.mem_map.mp z
            have := (kn q hq).2
            rw [e, fl] at this; cases this
        · obtain ⟨q, hq, e⟩ := List.mem_map.mp z
          exact (kn q hq).1 e

end
end Sg
namespace Sg
set_option autoImplicit false
open PySem L2 Evl Big
open PyProof.Rows (envOfC)
section
variable {P : Program} {w : World} {K : PySem.W.Frag} {mg : Str → Option Value} {base : Heap} {ad : Ads}
noncomputable def dec (p : Prop) : Bool := @decide p (Classical.propDecidable p)
theorem dec_iff {p : Prop} : dec p = true ↔ p := by
  unfold dec
  exact @decide_eq_true_iff _ (Classical.propDecidable _)
theorem dec_t {p : Prop} (h : p) : dec p = true := dec_iff.mpr h
theorem dec_f {p : Prop} (h : ¬ p) : dec p = false := by
  cases c : dec p with
  | false => rfl
  | true => exact absurd (dec_iff.mp c) h
theorem dec_not {p : Prop} (h : dec p = false) : ¬ p := fun z => by rw [dec_t z] at h; cases h
theorem dec_is {p : Prop} {b : Bool} (h : p ↔ b = true) : dec p = b := by
  cases b with
  | true => exact dec_t (h.mpr rfl)
  | false => exact dec_f fun z => nomatch h.mp z
theorem bit_left (x y : Nat) : Builtin.bitAnd (x : Int) (Builtin.bitNot (y : Int)) = ((x ^^^ (x &&& y) : Nat) : Int) := by
  have hd : (x &&& y) &&& (x ^^^ (x &&& y)) = 0 := by
    apply Nat.eq_of_testBit_eq
    intro i
    rw [Nat.testBit_and, Nat.testBit_and, Nat.testBit_xor, Nat.testBit_and, Nat.zero_testBit]
    cases x.testBit i <;> cases y.testBit i <;> rfl
  have ho : (x &&& y) ||| (x ^^^ (x &&& y)) = x := by
    apply Nat.eq_of_testBit_eq
    intro i
    rw [Nat.testBit_or, Nat.testBit_and, Nat.testBit_xor, Nat.testBit_and]
    cases x.testBit i <;> cases y.testBit i <;> rfl
  have h1 := PyProof.Rows.nat_or_add_and (x &&& y) (x ^^^ (x &&& y))
  rw [hd, ho] at h1
  rw [PyProof.Rows.bitAnd_not, PyProof.Rows.bitAnd_pp (by omega) (by omega)]
  simp only [Int.toNat_natCast]
  omega
theorem two_bits (l : Nat) : (Builtin.bitAnd (l : Int) ((l : Int) - 1) != 0) = dec (∃ i j, i ≠ j ∧ l.testBit i = true ∧ l.testBit j = true) := by
  by_cases h0 : l = 0
  · subst h0
    rw [dec_f]
    · have : Builtin.bitAnd ((0 : Nat) : Int) (((0 : Nat) : Int) - 1) = 0 := by
        rw [PyProof.Rows.bitAnd_comm]
        exact PyProof.Rows.bitAnd_zero _
      rw [this]; rfl
    · rintro ⟨i, j, _, h, _⟩
      rw [Nat.zero_testBit] at h; cases h
  · have e : ((l : Int) - 1) = ((l - 1 : Nat) : Int) := by omega
    rw [e, PyProof.Rows.bitAnd_pp (by omega) (by omega)]
    simp only [Int.toNat_natCast]
    have h1 := Nat.and_sub_one_eq_zero_iff_isPowerOfTwo h0
    by_cases c : l &&& (l - 1) = 0
    · rw [c, dec_f]
      · rfl
      · obtain ⟨k, hk⟩ := h1.mp c
        rintro ⟨i, j, hij, hi, hj⟩
        rw [hk, Nat.testBit_two_pow] at hi hj
        have := of_decide_eq_true hi
        have := of_decide_eq_true hj
        omega
    · rw [dec_t]
      · rw [bne_iff_ne]
        omega
      · refine Classical.byContradiction fun z => c (h1.mpr ?_)
        obtain ⟨k, hk⟩ := Nat.exists_testBit_of_ne_zero h0
        refine ⟨k, ?_⟩
        apply Nat.eq_of_testBit_eq
        intro i
        rw [Nat.testBit_two_pow]
        by_cases d : k = i
        · subst d; rw [hk]; simp
        · rw [decide_eq_false d]
          cases q : l.testBit i with
          | false => rfl
          | true => exact absurd ⟨k, i, d, hk, q⟩ z

end
end Sg
namespace Sg
set_option autoImplicit false
open PySem L2 Evl Big
open PyProof.Rows (envOfC)
section
variable {P : Program} {w : World} {K : PySem.W.Frag} {mg : Str → Option Value} {base : Heap} {ad : Ads}
def sp_need_away (K : PySem.W.Frag) : Sp := fun vs H Q _ => ∃ lv n h rs p, vs = [lv, .int p] ∧ LandAt K H lv n h rs ∧ p ≠ h ∧ RetV .non H Q
theorem ok_need_away (T : Txt K mg ad) : C8.Cal P w K mg base 1 "need_away" (sp_need_away K) [] := by
  refine cal_of T.d_need_away sc_need_away (fun _ _ _ _ _ _ us hl => match us, hl with | [_, _], _ => rfl) (fun vs H Q E h => ?_) (fun f cdv A outer st H vs Q E hr h => ?_)
  · obtain ⟨lv, n, h, rs, p, rfl, _⟩ := h; rfl
  · obtain ⟨lv, n, h, rs, p, rfl, hL, hp, k⟩ := h
    obtain ⟨la, r, rfl, hT, hR⟩ := hL.ex
    refine ⟨_, (pss_one (ps_if (pt_cmpR op_eq (pv 1) (pe_ix (k_tup K) (pv 0) pe_int (fun _ _ => rfl)) (nomark _)) (pss_one ps_never) pss_nil)), ?_⟩
    refine s_when (b := false) (et_test (ev_is (ev_op (ev_var rfl) (ev_op (ev_var rfl) ev_c (rv_ixT hT (atI_nat (j := 1) rfl))) (rv_eq rfl)) ?_)) (fun z => nomatch z) fun _ H1 a1 => k H1 a1
    rw [decide_eq_false fun z => hp (by injection z)]
def sp_need_road (K : PySem.W.Frag) : Sp := fun vs H Q _ => ∃ lv n h rs p q, vs = [lv, .int p, .int q] ∧ LandAt K H lv n h rs ∧ 0 ≤ q ∧ q < n ∧ (p, q) ∈ rs ∧ RetV .non H Q
theorem ok_need_road (T : Txt K mg ad) : C8.Cal P w K mg base 3 "need_road" (sp_need_road K) [] := by
  have c_is_place : C8.Cal P w K mg base 2 "is_place" (sp_is_place K) [] := ok_is_place T
  refine cal_of T.d_need_road sc_need_road (fun _ _ _ _ _ _ us hl => match us, hl with | [_, _, _], _ => rfl) (fun vs H Q E h => ?_) (fun f cdv A outer st H vs Q E hr h => ?_)
  · obtain ⟨lv, n, h, rs, p, q, rfl, _⟩ := h; rfl
  · obtain ⟨lv, n, h, rs, p, q, rfl, hL, q0, q1, hm, k⟩ := h
    have hu65 := hu65_of hr
    obtain ⟨la, r, rfl, hT, hR⟩ := hL.ex
    refine ⟨_, (pss_cons (ps_asg (pv 0) (k_gt K (n := 3) (by rfl) (pgs_cons (pg_name (i := 3) sc_need_road.nd rfl (Or.inl rfl)) (pgs_cons (pg_name (i := 4) sc_need_road.nd rfl (Or.inl rfl)) (pgs_cons (pg_name (i := 5) sc_need_road.nd rfl (Or.inl rfl)) pgs_nil)))))
  (pss_one (ps_if (PW.pt (pw_or (pt_not (pt_val (C8.pe_c c_is_place hr (by decide) rfl (pa_cons (pv 3) (pa_cons (pv 2) pa_nil))))) (pw_or1 (pt_cmpR (k_niD K hu65) (pe_tup (pa_cons (pv 1) (pa_cons (pv 2) pa_nil))) (pv 5) (by rfl))))) (pss_one ps_never) pss_nil))), ?_⟩
    refine q_unp3 (evp_of (ev_var rfl) (Post := fun v _ => v = .ref la) fun _ _ => rfl) fun v H1 a1 e1 => ⟨la, _, _, _, e1, ex_t a1 hT, ?_⟩
    refine s_when (b := false) (et_is (et_or (a := false) (b := false) (et_is (et_not (et_B (b := true) (ev_call (ea_cons (ev_var rfl) (ea_cons (ev_var rfl) ea_nil)) fun H2 e Q q2 E => ⟨n, _, .int q, rfl, .int q, by
      have : placeD n (.int q) = true := by
        simp only [placeD, Bool.and_eq_true, decide_eq_true_eq]
        exact ⟨q0, q1⟩
      rw [this]; exact q2⟩))) rfl) fun _ => et_test (ev_is (ev_opU1 (eu_tup (ea_cons (ev_var rfl) (ea_cons (ev_var rfl) ea_nil)) (by show 2 ≤ 100000; decide)) (fun H3 e3 => ev_var rfl) fun t H3 ht e => rv_niD (.tup (st_of ht) (.cons (.int p) (.cons (.int q) .nil))) (LandAt.dpR (hR.mono (a1.trans e))) (pd_rd (p, q)) (pd_rds rs) (rd_mem (p := (p, q)))) (by rw [decide_eq_true hm]; rfl))) rfl) (fun z => nomatch z) fun _ H2 a2 => k H2 (a1.trans a2)
noncomputable def worthF (s : List (Option Nat)) (g p : Nat) : Nat := if reachB s g p = true then (comers s p).length else 0
def sp_worth (K : PySem.W.Frag) : Sp := fun vs H Q _ => ∃ lv sv n h rs s p, vs = [lv, sv, natV p] ∧ Given K H lv sv n h rs s ∧ (p : Int) < n ∧ RetV (natV (worthF s h.toNat p)) H Q
theorem ok_worth (T : Txt K mg ad) : C8.Cal P w K mg base 8 "worth" (sp_worth K) [] := by
  have c_need_walk : C8.Cal P w K mg base 7 "need_walk" (sp_need_walk K) [] := ok_need_walk T
  have c_coming : C8.Cal P w K mg base 1 "coming" (sp_coming K) [] := ok_coming T
  have c_places_coming : C8.Cal P w K mg base 2 "places_coming" (sp_places_coming K) [] := ok_places_coming T
  refine cal_of T.d_worth sc_worth (fun _ _ _ _ _ _ us hl => match us, hl with | [_, _, _], _ => rfl) (fun vs H Q E h => ?_) (fun f cdv A outer st H vs Q E hr h => ?_)
  · obtain ⟨lv, sv, n, h, rs, s, p, rfl, _⟩ := h; rfl
  · obtain ⟨lv, sv, n, h, rs, s, p, rfl, g, hp, k⟩ := h
    obtain ⟨sa, rfl, hS⟩ := g.signs
    obtain ⟨la, r, rfl, hT, hR⟩ := g.land.ex
    have L := g.ok.all
    have S := g.sok.all
    have n40 := L.n40
    have h0 := L.h0
    have hn := L.hn
    refine ⟨_, (pss_cons (ps_expr (C8.pe_c c_need_walk hr (by decide) rfl (pa_cons (pv 0) (pa_cons (pv 1) (pa_cons (pv 2) pa_nil)))))
  (pss_cons (ps_if (pt_not (k_tru K (pe_ix (k_list K) (C8.pe_c c_coming hr (by decide) rfl (pa_cons (pv 1) (pa_cons (pe_ix (k_tup K) (pv 0) pe_int (fun _ _ => rfl)) pa_nil))) (pv 2) (fun _ _ => rfl)))) (pss_one (ps_ret pe_int)) pss_nil)
  (pss_one (ps_ret (pe_callB (k_len K) (by rfl) T.n_len PySem.boot_len (pa_cons (C8.pe_c c_places_coming hr (by decide) rfl (pa_cons (pv 1) (pa_cons (pv 2) pa_nil))) pa_nil)))))), ?_⟩
    have hlen := S.len
    have hg : h = (h.toNat : Int) := by omega
    refine q_drop (ev_call (ea_cons (ev_var rfl) (ea_cons (ev_var rfl) (ea_cons (ev_var rfl) ea_nil))) fun H1 a Q q E => ⟨_, _, n, h, rs, s, p, rfl, g.mono a, by omega, hp, q⟩) fun H1 a1 => ?_
    have homeE : ∀ {σ : L2.St} {H2 : Hp}, σ[0]? = some (some (.ref la)) → Ex H H2 → Ev (tOp (rIxT K) (tVar 0) (tC (.int 1))) σ H2 (natV h.toNat) := fun h0 e => ev_is (ev_op (ev_var h0) ev_c (rv_ixT (ex_t e hT) (atI_nat (j := 1) rfl))) (by unfold natV; rw [← hg])
    refine q_when (b := !reachB s h.toNat p) (et_not (et_tr (x := .bl (reachB s h.toNat p)) (ev_opP (evp_call (Post := ComingAt H1 s h.toNat) (ea_cons (ev_var rfl) (ea_cons (homeE rfl a1) ea_nil)) fun H2 e Q q E => ⟨sa, s, n.toNat, h.toNat, rfl, ex_l (a1.trans e) hS, S.wf, by omega, by omega, fun v H3 e3 ⟨l, z1, z2, z3⟩ => q v H3 e3 ⟨l, z1, fresh_back e z2, z3⟩⟩) fun x H2 e2 ⟨l, z1, z2, z3⟩ => ?_) fun _ _ => rfl)) (fun hb H2 a2 => s_ret (v := natV (worthF s h.toNat p)) (ev_is ev_c ?_) fun H3 a3 => RetV.go k ((a1.trans a2).trans a3)) fun hb H2 a2 => ?_
    · subst z1
      refine ⟨natV p, ev_var rfl, rv_ixL (sq_of z3) (at_of (j := p) rfl ?_)⟩
      rw [List.getElem?_map, List.getElem?_range (by omega)]
      rfl
    · have hb' : reachB s h.toNat p = false := by simpa using hb
      unfold worthF
      rw [hb', if_neg (by decide)]
      rfl
    · have hb' : reachB s h.toNat p = true := by simpa using hb
      have ew : worthF s h.toNat p = (comers s p).length := if_pos hb'
      rw [ew] at k
      have q := ev_lenN (K := K) (σ := start N_worth [.ref la, .ref sa, natV p]) (H := H2) (xs := (comers s p).map natV) (ta := tCall (sp_places_coming K) [] C8.E0 (tCons (tVar 1) (tCons (tVar 2) tNil))) (fun H3 e3 Q q => (ea_cons (ev_var rfl) (ea_cons (ev_var rfl) ea_nil)) H3 e3 _ fun H4 e4 => ⟨sa, s, n.toNat, p, rfl, ex_l (((a1.trans a2).trans e3).trans e4) hS, S.wf, by omega, by omega, fun t H5 ht e5 h5 => q t H5 (fresh_back e4 ht) (e4.trans e5) h5⟩)
      rw [List.length_map] at q
      exact s_ret q fun H3 a3 => RetV.go k ((a1.trans a2).trans a3)

end
end Sg
namespace Sg
set_option autoImplicit false
open PySem L2 Evl Big
open PyProof.Rows (envOfC)
section
variable {P : Program} {w : World} {K : PySem.W.Frag} {mg : Str → Option Value} {base : Heap} {ad : Ads}
theorem start_rch (n p q : Nat) : Rch ((List.range n).map fun p => 1 <<< p) p q ↔ p < n ∧ p = q := by
  unfold Rch
  by_cases c : p < n
  · rw [List.getD_eq_getElem?_getD, List.getElem?_map, List.getElem?_range c]
    show (1 <<< p).testBit q = true ↔ _
    rw [Nat.one_shiftLeft, Nat.testBit_two_pow]
    simp [c]
  · rw [List.getD_eq_getElem?_getD, List.getElem?_map, List.getElem?_eq_none (by rw [List.length_range]; omega)]
    simp [c]
/-- what is reached is what ways lead to -/
structure PkIn (n : Nat) (ws : List Way) (l : List Nat) : Prop where
  cl : Closed n l
  rch : ∀ p q, p < n → (Rch l p q ↔ RT (Ea ws) p q)
theorem PkIn.start (n : Nat) : PkIn n [] ((List.range n).map fun p => 1 <<< p) where
  cl := closed_start n
  rch := fun p q hp => by
    rw [start_rch]
    constructor
    · rintro ⟨_, rfl⟩; exact .refl _
    · intro r
      cases r with
      | refl => exact ⟨hp, rfl⟩
      | step h _ => obtain ⟨k, m⟩ := h; cases m
theorem ea_snoc {ws : List Way} {k s e a b : Nat} : Ea (ws ++ [(k, s, e)]) a b ↔ Ea ws a b ∨ (a = s ∧ b = e) := by
  unfold Ea
  constructor
  · rintro ⟨k', m⟩
    rcases List.mem_append.mp m with m | m
    · exact .inl ⟨k', m⟩
    · have := List.mem_singleton.mp m
      injection this with _ this
      injection this with h1 h2
      exact .inr ⟨h1, h2⟩
  · rintro (⟨k', m⟩ | ⟨rfl, rfl⟩)
    · exact ⟨k', List.mem_append_left _ m⟩
    · exact ⟨k, List.mem_append_right _ (List.mem_singleton.mpr rfl)⟩
theorem PkIn.more {n : Nat} {ws : List Way} {l : List Nat} (I : PkIn n ws l) (k : Nat) {s e : Nat} (hs : s < n) (he : e < n) : PkIn n (ws ++ [(k, s, e)]) (joinedF l s e) where
  cl := joined_closed I.cl he
  rch := fun p q hp => by
    rw [RT.add (E := Ea ws) (s := s) (e := e) (fun a b => ea_snoc), ← I.rch p q hp, ← I.rch p s hp, ← I.rch e q he]
    by_cases c : Rch l s e
    · rw [show joinedF l s e = l from if_pos c]
      exact ⟨.inl, fun z => z.elim id fun z => I.cl.tr _ _ _ z.1 (I.cl.tr _ _ _ c z.2)⟩
    · exact joined_iff c p q
theorem bits_le {a b : Nat} (h : ∀ i, a.testBit i = true → b.testBit i = true) : a ≤ b := by
  have e : a &&& b = a := by
    apply Nat.eq_of_testBit_eq
    intro i
    rw [Nat.testBit_and]
    cases c : a.testBit i with
    | false => rfl
    | true => rw [h i c]; rfl
  rw [← e]
  exact Nat.and_le_right
theorem bits_eq {a b : Nat} (h : ∀ i, a.testBit i = true ↔ b.testBit i = true) : a = b := Nat.le_antisymm (bits_le fun i => (h i).mp) (bits_le fun i => (h i).mpr)
/-- what of the kept ones is least: from each of its places the same is reached -/
theorem least_same {n h m : Nat} {l : List Nat} (C : Closed n l) (hm : m ∈ l) (hh : m.testBit h = false) (hmin : ∀ b ∈ l, b.testBit h = false → m ≤ b) : ∀ q, m.testBit q = true → q < n ∧ l.getD q 0 = m := by
  intro q hq
  obtain ⟨p, hp, e⟩ := List.getElem_of_mem hm
  have ep : l.getD p 0 = m := by rw [List.getD_eq_getElem?_getD, List.getElem?_eq_getElem hp, ← e]; rfl
  have rq : Rch l p q := by unfold Rch; rw [ep]; exact hq
  have hqn := C.lt p q rq
  have hql : q < l.length := by rw [C.len]; exact hqn
  have inl : l.getD q 0 ∈ l := by rw [List.getD_eq_getElem?_getD, List.getElem?_eq_getElem hql]; exact List.getElem_mem hql
  have sub : ∀ i, (l.getD q 0).testBit i = true → m.testBit i = true := fun i hi => by
    have : Rch l p i := C.tr p q i rq hi
    unfold Rch at this
    rwa [ep] at this
  have nh : (l.getD q 0).testBit h = false := by
    cases c : (l.getD q 0).testBit h with
    | false => rfl
    | true => rw [sub h c] at hh; cases hh
  exact ⟨hqn, Nat.le_antisymm (bits_le sub) (hmin _ inl nh)⟩
/-- the places of a number -/
def plOf (n m : Nat) : List Nat := (List.range n).filter fun i => m.testBit i
theorem mem_plOf {n m i : Nat} : i ∈ plOf n m ↔ i < n ∧ m.testBit i = true := by
  unfold plOf
  rw [List.mem_filter, List.mem_range]
section
variable {n h m : Nat} {ws : List Way} {l : List Nat} {rd : List (Nat × Nat)}
theorem PkIn.setOk (I : PkIn n ws l) (hm : m ∈ l) (hh : m.testBit h = false) (hmin : ∀ b ∈ l, b.testBit h = false → m ≤ b) : SetOk n h (plOf n m) ∧ (∀ p q, p ∈ plOf n m → q ∈ plOf n m → RT (Ea ws) p q) ∧ (∀ p q, Ea ws p q → p ∈ plOf n m → q ∈ plOf n m) := by
  have same := least_same I.cl hm hh hmin
  refine ⟨⟨?_, List.Sublist.nodup List.filter_sublist List.nodup_range, fun p hp => (mem_plOf.mp hp).1, fun z => by rw [(mem_plOf.mp z).2] at hh; cases hh⟩, fun p q hp hq => ?_, fun p q e hp => ?_⟩
  · obtain ⟨p, hp, e⟩ := List.getElem_of_mem hm
    have hpn : p < n := by rw [← I.cl.len]; exact hp
    have := I.cl.self p hpn
    unfold Rch at this
    rw [List.getD_eq_getElem?_getD, List.getElem?_eq_getElem hp] at this
    have : m.testBit p = true := by rw [← e]; exact this
    intro z
    have := mem_plOf.mpr ⟨hpn, this⟩
    rw [z] at this
    cases this
  · obtain ⟨hpn, hp⟩ := mem_plOf.mp hp
    refine (I.rch p q hpn).mp ?_
    unfold Rch
    rw [(same p hp).2]
    exact (mem_plOf.mp hq).2
  · obtain ⟨hpn, hp⟩ := mem_plOf.mp hp
    have r := (I.rch p q hpn).mpr (.one e)
    have hq := I.cl.lt p q r
    unfold Rch at r
    rw [(same p hp).2] at r
    exact mem_plOf.mpr ⟨hq, r⟩
instance (l : List Nat) (p q : Nat) : Decidable (Rch l p q) := inferInstanceAs (Decidable (_ = _))
/-- the roads that are not free yet -/
def unfree (rd : List (Nat × Nat)) (l : List Nat) : Nat := (rd.filter fun r => !decide (Rch l r.1 r.2)).length
theorem filter_two {α : Type} {p q r : α → Bool} : ∀ (l : List α), (∀ x ∈ l, q x = true → p x = true) → (∀ x ∈ l, r x = true → p x = true) → (∀ x ∈ l, ¬ (q x = true ∧ r x = true)) → (l.filter q).length + (l.filter r).length ≤ (l.filter p).length
  | [], _, _, _ => Nat.le_refl _
  | a :: l, h1, h2, hd => by
    have ih := filter_two l (fun x hx => h1 x (List.mem_cons_of_mem _ hx)) (fun x hx => h2 x (List.mem_cons_of_mem _ hx)) (fun x hx => hd x (List.mem_cons_of_mem _ hx))
    have a1 := h1 a List.mem_cons_self
    have a2 := h2 a List.mem_cons_self
    have d0 := hd a List.mem_cons_self
    rw [List.filter_cons, List.filter_cons, List.filter_cons]
    cases c1 : q a with
    | true =>
      rw [a1 c1]
      cases c2 : r a with
      | true => exact absurd ⟨c1, c2⟩ d0
      | false => simp only [if_true, List.length_cons, Bool.false_eq_true, if_false]; omega
    | false =>
      cases c2 : r a with
      | true => rw [a2 c2]; simp only [if_true, List.length_cons, Bool.false_eq_true, if_false]; omega
      | false =>
        cases c3 : p a with
        | true => simp only [if_true, List.length_cons, Bool.false_eq_true, if_false]; omega
        | false => simp only [Bool.false_eq_true, if_false]; exact ih
/-- the roads out of the least are not free, and are then -/
theorem unfree_out {l' : List Nat} (I : PkIn n ws l) (hm : m ∈ l) (hh : m.testBit h = false) (hmin : ∀ b ∈ l, b.testBit h = false → m ≤ b) (hlt : ∀ p q, (p, q) ∈ rd → q < n) (grow : ∀ p q, Rch l p q → Rch l' p q) (free : ∀ p q, (p, q) ∈ outOf rd (plOf n m) → Rch l' p q) :
    (outOf rd (plOf n m)).length + unfree rd l' ≤ unfree rd l := by
  have same := least_same I.cl hm hh hmin
  unfold outOf unfree
  refine filter_two rd (fun x hx hq => ?_) (fun x hx hq => ?_) fun x hx => ?_
  · have hq' : x ∈ outOf rd (plOf n m) := List.mem_filter.mpr ⟨hx, hq⟩
    obtain ⟨_, h2, h3⟩ := mem_outOf.mp hq'
    obtain ⟨_, h2⟩ := mem_plOf.mp h2
    have : ¬ Rch l x.1 x.2 := fun z => by
      unfold Rch at z
      rw [(same _ h2).2] at z
      exact h3 (mem_plOf.mpr ⟨hlt _ _ hx, z⟩)
    simp [this]
  · have h1 : ¬ Rch l' x.1 x.2 := by simpa using hq
    have : ¬ Rch l x.1 x.2 := fun z => h1 (grow _ _ z)
    simp [this]
  · rintro ⟨h1, h2⟩
    have h2 : ¬ Rch l' x.1 x.2 := by simpa using h2
    exact h2 (free _ _ (List.mem_filter.mpr ⟨hx, h1⟩))
end

end
end Sg
namespace Sg
set_option autoImplicit false
open PySem L2 Evl Big
open PyProof.Rows (envOfC)
section
variable {P : Program} {w : World} {K : PySem.W.Frag} {mg : Str → Option Value} {base : Heap} {ad : Ads}
/-- which places are within -/
def wl (n : Nat) (S : List Int) : List V := (List.range n).map fun q : Nat => V.bl (decide ((q : Int) ∈ S))
theorem wl_start (n : Nat) : List.replicate n (V.bl false) = wl n [] := by
  unfold wl
  apply List.ext_getElem?
  intro i
  rw [List.getElem?_replicate, List.getElem?_map]
  by_cases c : i < n
  · rw [if_pos c, List.getElem?_range c]; rfl
  · rw [if_neg c, List.getElem?_eq_none (by rw [List.length_range]; omega)]; rfl
theorem wl_get {n : Nat} {S : List Int} {q : Nat} (h : q < n) : (wl n S)[q]? = some (.bl (decide ((q : Int) ∈ S))) := by
  unfold wl
  rw [List.getElem?_map, List.getElem?_range h]; rfl
theorem wl_len (n : Nat) (S : List Int) : (wl n S).length = n := by
  unfold wl; rw [List.length_map, List.length_range]
theorem wl_set {n : Nat} {S : List Int} {p : Int} (h0 : 0 ≤ p) (h1 : p < n) : (wl n S).set p.toNat (.bl true) = wl n (S ++ [p]) := by
  apply List.ext_getElem?
  intro i
  rw [List.getElem?_set, wl_len]
  by_cases c : p.toNat = i
  · rw [if_pos c, if_pos (by omega), wl_get (by omega), decide_eq_true (List.mem_append_right _ (List.mem_singleton.mpr (by omega)))]
  · rw [if_neg c]
    by_cases d : i < n
    · rw [wl_get d, wl_get d]
      congr 2
      rw [decide_eq_decide, List.mem_append, List.mem_singleton]
      exact ⟨.inl, fun z => z.elim id fun z => by omega⟩
    · rw [List.getElem?_eq_none (by rw [wl_len]; omega), List.getElem?_eq_none (by rw [wl_len]; omega)]
theorem intAt {n : Nat} {S : List Int} {p : Int} (h0 : 0 ≤ p) (h1 : p < n) : atI (wl n S) p = some (.bl (decide (p ∈ S))) := by
  have e : p = (p.toNat : Int) := by omega
  have := wl_get (n := n) (S := S) (q := p.toNat) (by omega)
  rw [← e] at this
  exact at_of (j := p.toNat) e this
theorem place_int {n p : Int} : placeD n (.int p) = decide (0 ≤ p ∧ p < n) := by
  simp only [placeD]
  rw [Bool.decide_and]
/-- a set of places without home, from none of which a sign leads out -/
structure KeptSays (n h : Nat) (s : List (Option Nat)) (S : List Int) : Prop where
  ne : S ≠ []
  nd : S.Nodup
  rg : ∀ p ∈ S, 0 ≤ p ∧ p < n
  home : (h : Int) ∉ S
  kept : ∀ p ∈ S, ∀ q, nx s p.toNat = some q → (q : Int) ∈ S
theorem nodup_range_lt {n h : Nat} (hn : h < n) {S : List Int} (nd : S.Nodup) (rg : ∀ p ∈ S, 0 ≤ p ∧ p < n) (hh : (h : Int) ∉ S) : S.length < n := by
  have e : ((h : Int) :: S).Nodup := List.nodup_cons.mpr ⟨hh, nd⟩
  have nd2 : (((h : Int) :: S).map Int.toNat).Nodup := by
    rw [List.nodup_iff_pairwise_ne, List.pairwise_map]
    refine List.Pairwise.imp_of_mem ?_ e
    intro a b ha hb hab z
    have pos : ∀ x ∈ (h : Int) :: S, 0 ≤ x := fun x hx => by
      rcases List.mem_cons.mp hx with rfl | hx
      · omega
      · exact (rg x hx).1
    have := pos a ha
    have := pos b hb
    omega
  have := nodup_le (n := n) nd2 fun x hx => by
    obtain ⟨y, hy, rfl⟩ := List.mem_map.mp hx
    rcases List.mem_cons.mp hy with rfl | hy
    · omega
    · have := rg y hy
      omega
  rw [List.length_map, List.length_cons] at this
  omega
def sp_is_kept_set (K : PySem.W.Frag) : Sp := fun vs H Q _ => ∃ (lv : V) (n h : Int) (rs : List (Int × Int)) (sa pa : Addr) (s : List (Option Nat)) (S : List Int), vs = [lv, .ref sa, .ref pa] ∧ LandAt K H lv n h rs ∧ 0 ≤ h ∧ h < n ∧ n ≤ 1000 ∧ SqL K H sa (s.map nV) ∧ Wf n.toNat s ∧ SqL K H pa (S.map V.int) ∧ S.length ≤ 40000 ∧ RetV (.bl (dec (KeptSays n.toNat h.toNat s S))) H Q
theorem ok_is_kept_set (T : Txt K mg ad) : C8.Cal P w K mg base 3 "is_kept_set" (sp_is_kept_set K) [] := by
  have c_is_place : C8.Cal P w K mg base 2 "is_place" (sp_is_place K) [] := ok_is_place T
  refine cal_of T.d_is_kept_set sc_is_kept_set (fun _ _ _ _ _ _ us hl => match us, hl with | [_, _, _], _ => rfl) (fun vs H Q E h => ?_) (fun f cdv A outer st H vs Q E hr h => ?_)
  · obtain ⟨lv, n, h, rs, sa, pa, s, S, rfl, _⟩ := h; rfl
  · obtain ⟨lv, n, h, rs, sa, pa, s, S, rfl, hL, h0, hn, hn1, hs, w0, hp, hz, k⟩ := h
    obtain ⟨la, r, rfl, hT, hR⟩ := hL.ex
    refine ⟨_, (pss_cons (ps_asg (pv 0) (k_gt K (n := 3) (by rfl) (pgs_cons (pg_name (i := 3) sc_is_kept_set.nd rfl (Or.inl rfl)) (pgs_cons (pg_name (i := 4) sc_is_kept_set.nd rfl (Or.inl rfl)) (pgs_cons (pg_name (i := 5) sc_is_kept_set.nd rfl (Or.inl rfl)) pgs_nil)))))
  (pss_cons (ps_if (PW.pt (pw_or (pt_not (pt_val (pe_callB (k_isi K) (by rfl) T.n_isinstance (by decide +kernel) (pa_cons (pv 2) (pa_cons (pe_bltn (v := .ty "list") (by rfl) T.n_list (by decide +kernel) rfl) pa_nil))))) (pw_or1 (pt_not (pt_chain op_lt op_lt pe_int (pe_callB (k_len K) (by rfl) T.n_len PySem.boot_len (pa_cons (pv 2) pa_nil)) (pv 3)))))) (pss_one (ps_ret pe_bl)) pss_nil)
  (pss_cons (ps_set (i := 6) sc_is_kept_set.nd rfl (Or.inr rfl) (pe_op op_rep (pe_lst (pa_cons pe_bl pa_nil)) (pv 3)))
  (pss_cons (ps_for PassesOwn.never rfl (k_il K (pv 2)) (pg_name (i := 7) sc_is_kept_set.nd rfl (Or.inl rfl))
    (pss_cons (ps_if (PW.pt (pw_or (pt_not (pt_val (C8.pe_c c_is_place hr (by decide) rfl (pa_cons (pv 3) (pa_cons (pv 7) pa_nil))))) (pw_or1 (k_tru K (pe_ix (k_list K) (pv 6) (pv 7) (fun _ _ => rfl)))))) (pss_one (ps_ret pe_bl)) pss_nil)
  (pss_one (ps_asg pe_bl (pg_sub (pv 6) (pv 7) set_list)))))
  (pss_cons (ps_if (k_tru K (pe_ix (k_list K) (pv 6) (pv 4) (fun _ _ => rfl))) (pss_one (ps_ret pe_bl)) pss_nil)
  (pss_one (ps_ret (pe_callB (k_all K rfl) (by rfl) T.n_all (by decide +kernel) (pa_cons (pe_lc (own := [("place", 7)]) (g := _) (tt := tYes) rfl sc_is_kept_set.nd (k_il K (pv 2)) (blkOk_by (N := N_is_kept_set) (sc := C8.fnScope st_is_kept_set) (by decide +kernel)) (fun _ _ _ _ _ => (pg_name (i := 7) sc_is_kept_set.nd rfl (Or.inl rfl))) (fun _ _ _ _ _ => pts_nil) (fun _ _ _ _ _ => (pe_or (pe_cmpR op_isN (pe_ix (k_list K) (pv 1) (pv 7) (fun _ _ => rfl)) pe_non (nomark _)) (pe_one (pe_ix (k_list K) (pv 6) (pe_ix (k_list K) (pv 1) (pv 7) (fun _ _ => rfl)) (fun _ _ => rfl)))))) pa_nil))))))))), ?_⟩
    have eh : (h.toNat : Int) = h := by omega
    have en : (n.toNat : Int) = n := by omega
    have sl : s.length = n.toNat := w0.len
    have no : ∀ {H'}, Ex H H' → ¬ KeptSays n.toNat h.toNat s S → Q (.bl false) H' := fun e z => by
      rw [dec_f z] at k; exact RetV.go k e
    refine q_unp3 (Post := fun p H2 => p = .ref la) (evp_of (ev_var rfl) fun _ _ => rfl) fun p H1 a1 hp1 => ⟨_, _, _, _, hp1, ex_t a1 hT, ?_⟩
    have lenE : ∀ {σ : L2.St} {H2 : Hp}, σ[2]? = some (some (.ref pa)) → Ex H H2 → Ev (tCB (rLenS K) (tCons (tVar 2) tNil)) σ H2 (.int (S.length : Int)) := fun hv e => by
      have := ev_len (K := K) (ta := tVar 2) (ev_var hv) (ex_l e hp)
      rwa [List.length_map] at this
    refine q_when (b := !decide (0 < (S.length : Int) ∧ (S.length : Int) < n)) (et_is (et_or (a := false) (et_is (et_not (et_B (isi_listT (ev_var rfl) (fun H2 e => ty_list (ex_l (a1.trans e) hp)) (show kitB "list" "list" = some true by decide +kernel)))) rfl) fun _ => et_not (fun H2 e Q2 q2 => (ev_chain (r := rI0 fun i j => .bl (decide (i < j))) (r' := rI0 fun i j => .bl (decide (i < j))) ev_c (lenE rfl a1) rv_I0 (fun _ => ev_var rfl) fun _ => rv_I0) H2 e _ fun H3 e3 => ⟨_, rfl, q2 H3 e3⟩)) (by rw [Bool.decide_and]; rfl)) (fun hb H2 a2 => s_ret ev_c fun H3 a3 => no ((a1.trans a2).trans a3) fun z => ?_) fun hb H2 a2 => ?_
    · have l1 := nodup_range_lt (by omega) z.nd z.rg z.home
      have l2 : 0 < S.length := List.length_pos_iff.mpr z.ne
      have : decide (0 < (S.length : Int) ∧ (S.length : Int) < n) = true := decide_eq_true ⟨by omega, by omega⟩
      rw [this] at hb; cases hb
    · have hb2 : 0 < (S.length : Int) ∧ (S.length : Int) < n := by simpa using hb
      have hne : S ≠ [] := fun z => by rw [z] at hb2; simp at hb2
      have a12 := a1.trans a2
      refine q_asgL (el_rep (n := n.toNat) (v := .bl false) (ev_is (ev_var rfl) (by rw [en])) (by omega)) fun wa H3 hwa a3 hwa3 => ?_
      rw [wl_start] at hwa3
      have a13 := a12.trans a3
      have wa0 : H wa = none := fresh_back a12 hwa
      refine q_forLn' (K := K) (j := 7) S V.int (ev_var rfl) (ex_l a13 hp)
        (fun j σ' H' => Ex H H' ∧ H' wa = some (.lst (wl n.toNat (S.take j))) ∧ (∀ p ∈ S.take j, 0 ≤ p ∧ p < n) ∧ (S.take j).Nodup ∧ ∃ x, σ' = [some (.ref la), some (.ref sa), some (.ref pa), some (.int n), some (.int h), some (.ref r), some (.ref wa), x])
        (fun H4 a4 => ⟨a13.trans a4, a4 _ _ hwa3, fun p hp => by simp at hp, by simp, _, rfl⟩) (fun j σ' H' _ z => ex_l z.1 hp) ?_ ?_
      · rintro j p σ' H4 hj ⟨a4, w4, rg, nd, x, rfl⟩
        have hpm := List.mem_of_getElem? hj
        have tk : S.take (j + 1) = S.take j ++ [p] := by rw [List.take_succ, hj]; rfl
        by_cases c1 : 0 ≤ p ∧ p < n
        · refine q_when (b := decide (p ∈ S.take j)) (et_is (et_or (a := false) (et_is (et_not (et_B (ev_call (ea_cons (ev_var rfl) (ea_cons (ev_var rfl) ea_nil)) fun H5 a Q q E => ⟨n, _, .int p, rfl, .int p, q⟩))) (by rw [place_int, decide_eq_true c1]; rfl)) fun _ => et_tr (ev_op (ev_var rfl) (ev_var rfl) (rv_ixL (sq_of w4) (intAt c1.1 (by omega)))) fun _ _ => rfl) rfl) (fun hb H5 a5 => s_ret ev_c fun H6 a6 => no ((a4.trans a5).trans a6) fun z => ?_) fun hb H5 a5 => ?_
          · have hin := of_decide_eq_true hb
            have nd2 : (S.take (j + 1)).Nodup := List.Sublist.nodup (List.take_sublist _ _) z.nd
            rw [tk, List.nodup_append] at nd2
            exact nd2.2.2 p hin p (List.mem_singleton.mpr rfl) rfl
          · have hnin := of_decide_eq_false hb
            refine s_setL (j := p.toNat) (v := .bl true) (a5 _ _ w4) ev_c (ev_var rfl) (ev_is (ev_var rfl) (by congr 1; omega)) (by rw [wl_len]; omega) fun H6 a6 => ?_
            rw [wl_set c1.1 (by omega), ← tk]
            refine ⟨Ex.mut ((a4.trans a5).trans a6) wa0, upd_same, fun q hq => ?_, ?_, _, rfl⟩
            · rw [tk] at hq
              rcases List.mem_append.mp hq with hq | hq
              · exact rg q hq
              · rw [List.mem_singleton.mp hq]; exact c1
            · rw [tk, List.nodup_append]
              refine ⟨nd, by simp, fun a ha b hb2 e => ?_⟩
              rw [List.mem_singleton] at hb2
              rw [e, hb2] at ha
              exact hnin ha
        · refine q_when (b := true) (et_is (et_or (a := true) (b := false) (et_is (et_not (et_B (ev_call (ea_cons (ev_var rfl) (ea_cons (ev_var rfl) ea_nil)) fun H5 a Q q E => ⟨n, _, .int p, rfl, .int p, q⟩))) (by rw [place_int, decide_eq_false c1]; rfl)) fun z => nomatch z) rfl) (fun hb H5 a5 => s_ret ev_c fun H6 a6 => no ((a4.trans a5).trans a6) fun z => ?_) (fun z => nomatch z)
          have := z.rg p hpm
          exact c1 ⟨this.1, by omega⟩
      · rintro σ' H4 ⟨a4, w4, rg, nd, x, rfl⟩
        rw [List.take_length] at w4 rg nd
        refine q_when (b := decide (h ∈ S)) (et_tr (ev_op (ev_var rfl) (ev_var rfl) (rv_ixL (sq_of w4) (intAt h0 (by omega)))) fun _ _ => rfl) (fun hb H5 a5 => s_ret ev_c fun H6 a6 => no ((a4.trans a5).trans a6) fun z => ?_) fun hb H5 a5 => ?_
        · have := of_decide_eq_true hb
          exact z.home (by rw [eh]; exact this)
        · have hh := of_decide_eq_false hb
          have a45 := a4.trans a5
          have w5 := a5 _ _ w4
          let good : Int → Bool := fun p => match nx s p.toNat with
            | none => true
            | some q => decide ((q : Int) ∈ S)
          have val : dec (KeptSays n.toNat h.toNat s S) = (S.map good).all id := by
            refine dec_is ?_
            rw [List.all_map, List.all_eq_true]
            constructor
            · intro z p hp
              show good p = true
              cases c : nx s p.toNat with
              | none => simp only [good, c]
              | some q => simp only [good, c]; exact decide_eq_true (z.kept p hp q c)
            · intro z
              refine ⟨hne, nd, fun p hp => ⟨(rg p hp).1, by have := (rg p hp).2; omega⟩, by rw [eh]; exact hh, fun p hp q e => ?_⟩
              have : good p = true := z p hp
              simp only [good, e] at this
              exact of_decide_eq_true this
          rw [val] at k
          refine s_ret (ev_all (K := K) (bs := S.map good) ?_) fun H6 a6 => RetV.go k (a45.trans a6)
          rw [List.map_map]
          refine el_mapL (j := 7) S V.int _ (ev_var rfl) (ex_l a45 hp) hz fun p hpm H6 a6 => ?_
          have c1 := rg p hpm
          have sg : ∀ {σ : L2.St} {H7 : Hp}, σ[1]? = some (some (.ref sa)) → σ[7]? = some (some (.int p)) → Ex H H7 → Ev (tOp (rIxL K) (tVar 1) (tVar 7)) σ H7 (nV (nx s p.toNat)) := fun h1 h2 e =>
            ev_op (ev_var h1) (ev_var h2) (rv_ixL (ex_l e hs) (at_of (j := p.toNat) (by omega) (sign_at (by omega))))
          show Ev _ _ H6 (V.bl (good p))
          cases c : nx s p.toNat with
          | none =>
            refine ev_is (ev_orV (a := true) (b := true) (ev_is (ev_op (sg rfl rfl (a45.trans a6)) ev_c rv_isN) (by rw [c]; rfl)) fun z => nomatch z) ?_
            simp only [good, c]; rfl
          | some q =>
            have hq : q < n.toNat := w0.lt _ _ c
            refine ev_is (ev_orV (a := false) (b := decide ((q : Int) ∈ S)) (ev_is (ev_op (sg rfl rfl (a45.trans a6)) ev_c rv_isN) (by rw [c]; rfl)) fun _ => ev_op (ev_var rfl) (ev_is (sg rfl rfl (a45.trans a6)) (by rw [c]; rfl)) (rv_ixL (sq_of (a6 _ _ w5)) (at_of (j := q) rfl (wl_get hq)))) ?_
            simp only [good, c]; rfl

end
end Sg
namespace Sg
set_option autoImplicit false
open PySem L2 Evl Big
open PyProof.Rows (envOfC)
section
variable {P : Program} {w : World} {K : PySem.W.Frag} {mg : Str → Option Value} {base : Heap} {ad : Ads}
theorem iq_or {X : Cx} : PIp X .BitOr (ipI fun i j => Builtin.bitOr i j) := by
  intro pins s σ H x y v u Q I r1 r2 h
  obtain ⟨i, j, e1, e2, q⟩ := h
  subst e1; subst e2
  obtain ⟨t, rfl⟩ := r1
  obtain ⟨t', rfl⟩ := r2
  exact PyProof.Rows.ior_int ⟨.int _, H, I.tok _, ⟨_, rfl⟩, q⟩
/-- o[i] of a list, by values -/
def rGetL (K : PySem.W.Frag) : V → V → Hp → VK → Prop := fun o i H Q => ∃ (p : Addr) (xs : List V) (j : Nat) (v : V), o = .ref p ∧ i = .int (j : Int) ∧ SqL K H p xs ∧ xs[j]? = some v ∧ Q v H
theorem pget_list {X : Cx} (K : PySem.W.Frag) (hK : X.K = K := by rfl) : PGet X (rGetL K) := by
  subst hK
  intro pins s σ H o i ov iv Q I ro ri h
  obtain ⟨p, xs, j, v, rfl, rfl, hq, he, q⟩ := h
  cases ro
  obtain ⟨t, rfl⟩ := ri
  obtain ⟨its, r, pl, hz⟩ := I.list hq
  obtain ⟨w, ew, rw'⟩ := r.get he
  have hl := r.length
  have hn := line63
  have hj := (List.getElem?_eq_some_iff.mp ew).1
  exact PySem.wpAny_getItem_list pl.isList (by omega) (by omega) (by simpa using ew) ⟨v, H, I, rw', q⟩
/-- xs[i] |= e -/
theorem s_orL {σ : L2.St} {H : Hp} {D : Ends} {ta tb te : TE} {l : Addr} {xs : List V} {j : Nat} {a b : Int} (hl : H l = some (.lst xs)) (ho : Ev ta σ H (.ref l)) (hi : Ev tb σ H (.int (j : Int))) (hx : xs[j]? = some (.int a)) (h : Ev te σ H (.int b)) (k : ∀ H1, Ex H H1 → D.nx σ (upd H1 l (.lst (xs.set j (.int (Builtin.bitOr a b)))))) :
    tAugS ta tb te (rGetL K) (ipI fun i j => Builtin.bitOr i j) rSetL D σ H := ho H (Ex.refl H) _ fun H1 e1 => hi H1 e1 _ fun H2 e2 =>
  ⟨l, xs, j, .int a, rfl, rfl, sq_of ((e1.trans e2) _ _ hl), hx, h H2 (e1.trans e2) _ fun H3 e3 => ⟨a, b, rfl, rfl, l, xs, (j : Int), j, rfl, rfl, ((e1.trans e2).trans e3) _ _ hl, ixN_nat (List.getElem?_eq_some_iff.mp hx).1, k H3 ((e1.trans e2).trans e3)⟩⟩
theorem ru_inv {H : Hp} {i : Int} : RU (rU fun i => .int (Builtin.bitNot i)) (.int i) H (.int (Builtin.bitNot i)) := fun H1 _ _ q => ⟨i, rfl, q H1 (Ex.refl H1)⟩
/-- no road leaves two of the sets -/
def TwoSays (rd : List (Nat × Nat)) (sets : List (List Int)) : Prop := ∀ (i j : Nat) (S T : List Int) (p q : Nat), sets[i]? = some S → sets[j]? = some T → (p, q) ∈ rd → (p : Int) ∈ S → (q : Int) ∉ S → (p : Int) ∈ T → (q : Int) ∉ T → i = j
/-- a bit for each set that a place is in, so far -/
structure Bt (n : Nat) (sets : List (List Int)) (k : Nat) (S : List Int) (bl : List Nat) : Prop where
  len : bl.length = n
  bit : ∀ p, p < n → ∀ i, (bl.getD p 0).testBit i = true ↔ (i < k ∧ ∃ S', sets[i]? = some S' ∧ (p : Int) ∈ S') ∨ (i = k ∧ (p : Int) ∈ S)
theorem Bt.start (n : Nat) (sets : List (List Int)) : Bt n sets 0 [] (List.replicate n 0) where
  len := List.length_replicate
  bit := fun p hp i => by
    rw [List.getD_eq_getElem?_getD, List.getElem?_replicate, if_pos hp]
    simp
theorem Bt.put {n k : Nat} {sets : List (List Int)} {S : List Int} {bl : List Nat} (B : Bt n sets k S bl) {p : Nat} (hp : p < n) : Bt n sets k (S ++ [(p : Int)]) (bl.set p (bl.getD p 0 ||| 1 <<< k)) where
  len := by rw [List.length_set]; exact B.len
  bit := fun q hq i => by
    have hl := B.len
    by_cases c : p = q
    · subst c
      have e : (bl.set p (bl.getD p 0 ||| 1 <<< k)).getD p 0 = bl.getD p 0 ||| 1 <<< k := by
        rw [List.getD_eq_getElem?_getD, List.getElem?_set_self (by omega)]; rfl
      rw [e, Nat.testBit_or, Bool.or_eq_true, B.bit p hp i, Nat.one_shiftLeft, Nat.testBit_two_pow, decide_eq_true_iff, List.mem_append]
      constructor
      · rintro ((a | a) | a)
        · exact .inl a
        · exact .inr ⟨a.1, .inl a.2⟩
        · exact .inr ⟨a.symm, .inr (List.mem_singleton.mpr rfl)⟩
      · rintro (a | ⟨a, b | b⟩)
        · exact .inl (.inl a)
        · exact .inl (.inr ⟨a, b⟩)
        · exact .inr a.symm
    · have e : (bl.set p (bl.getD p 0 ||| 1 <<< k)).getD q 0 = bl.getD q 0 := by
        rw [List.getD_eq_getElem?_getD, List.getElem?_set_ne c]
        exact (List.getD_eq_getElem?_getD).symm
      rw [e, B.bit q hq i, List.mem_append, List.mem_singleton]
      constructor
      · rintro (a | ⟨a, b⟩)
        · exact .inl a
        · exact .inr ⟨a, .inl b⟩
      · rintro (a | ⟨a, b | b⟩)
        · exact .inl a
        · exact .inr ⟨a, b⟩
        · omega
theorem Bt.next {n k : Nat} {sets : List (List Int)} {S : List Int} {bl : List Nat} (B : Bt n sets k S bl) (hS : sets[k]? = some S) : Bt n sets (k + 1) [] bl where
  len := B.len
  bit := fun p hp i => by
    rw [B.bit p hp i]
    constructor
    · rintro (⟨a, b⟩ | ⟨rfl, b⟩)
      · exact .inl ⟨by omega, b⟩
      · exact .inl ⟨by omega, S, hS, b⟩
    · rintro (⟨a, S', b, c⟩ | ⟨_, b⟩)
      · by_cases d : i < k
        · exact .inl ⟨d, S', b, c⟩
        · have : i = k := by omega
          subst this
          rw [hS] at b
          cases b
          exact .inr ⟨rfl, c⟩
      · cases b
/-- which sets a road leaves -/
theorem Bt.leaves {n : Nat} {sets : List (List Int)} {bl : List Nat} {k : Nat} (hk : sets.length ≤ k) (B : Bt n sets k [] bl) {p q : Nat} (hp : p < n) (hq : q < n) (i : Nat) : (bl.getD p 0 ^^^ (bl.getD p 0 &&& bl.getD q 0)).testBit i = true ↔ ∃ S, sets[i]? = some S ∧ (p : Int) ∈ S ∧ (q : Int) ∉ S := by
  have e : (bl.getD p 0 ^^^ (bl.getD p 0 &&& bl.getD q 0)).testBit i = ((bl.getD p 0).testBit i && !(bl.getD q 0).testBit i) := by
    rw [Nat.testBit_xor, Nat.testBit_and]
    cases (bl.getD p 0).testBit i <;> cases (bl.getD q 0).testBit i <;> rfl
  rw [e, Bool.and_eq_true, B.bit p hp i, Bool.not_eq_true', ← Bool.not_eq_true, B.bit q hq i]
  constructor
  · rintro ⟨⟨a, S, b, c⟩ | ⟨_, c⟩, d⟩
    · exact ⟨S, b, c, fun z => d (.inl ⟨a, S, b, z⟩)⟩
    · cases c
  · rintro ⟨S, b, c, d⟩
    have hi := (List.getElem?_eq_some_iff.mp b).1
    refine ⟨.inl ⟨by omega, S, b, c⟩, ?_⟩
    rintro (⟨_, S', b', z⟩ | ⟨_, z⟩)
    · rw [b] at b'
      cases b'
      exact d z
    · cases z
def sp_no_two (K : PySem.W.Frag) : Sp := fun vs H Q _ => ∃ (lv : V) (n h : Int) (rs : List (Int × Int)) (ga : Addr) (ks : List (Addr × List Int)), vs = [lv, .ref ga] ∧ LandAt K H lv n h rs ∧ LandOk' n h rs ∧ SqL K H ga (ks.map fun q => V.ref q.1) ∧ (∀ q ∈ ks, SqL K H q.1 (q.2.map V.int)) ∧ (∀ q ∈ ks, ∀ p ∈ q.2, 0 ≤ p ∧ p < n) ∧ ks.length ≤ 1000 ∧ RetV (.bl (dec (TwoSays (rdN rs) (ks.map (·.2))))) H Q
theorem ok_no_road_leaves_two (T : Txt K mg ad) : C8.Cal P w K mg base 1 "no_road_leaves_two" (sp_no_two K) [] := by
  refine cal_of T.d_no_road_leaves_two sc_no_road_leaves_two (fun _ _ _ _ _ _ us hl => match us, hl with | [_, _], _ => rfl) (fun vs H Q E h => ?_) (fun f cdv A outer st H vs Q E hr h => ?_)
  · obtain ⟨lv, n, h, rs, ga, ks, rfl, _⟩ := h; rfl
  · obtain ⟨lv, n, h, rs, ga, ks, rfl, hL, L, hg, hks, hrg, hz, k⟩ := h
    obtain ⟨la, r, rfl, hT, hR⟩ := hL.ex
    obtain ⟨rk, r1, r2, r3⟩ := roadsN hR L
    refine ⟨_, (pss_cons (ps_asg (pv 0) (k_gt K (n := 3) (by rfl) (pgs_cons (pg_name (i := 2) sc_no_road_leaves_two.nd rfl (Or.inl rfl)) (pgs_cons (pg_name (i := 3) sc_no_road_leaves_two.nd rfl (Or.inl rfl)) (pgs_cons (pg_name (i := 4) sc_no_road_leaves_two.nd rfl (Or.inl rfl)) pgs_nil)))))
  (pss_cons (ps_set (i := 5) sc_no_road_leaves_two.nd rfl (Or.inl rfl) (pe_op op_rep (pe_lst (pa_cons pe_int pa_nil)) (pv 2)))
  (pss_cons (ps_for PassesOwn.never rfl (pi_enum rfl T.n_enumerate (pa_cons (pv 1) pa_nil)) (k_gt K (n := 2) (by rfl) (pgs_cons (pg_name (i := 6) sc_no_road_leaves_two.nd rfl (Or.inl rfl)) (pgs_cons (pg_name (i := 7) sc_no_road_leaves_two.nd rfl (Or.inl rfl)) pgs_nil)))
    (pss_one (ps_for PassesOwn.never rfl (k_il K (pv 7)) (pg_name (i := 8) sc_no_road_leaves_two.nd rfl (Or.inl rfl))
    (pss_one (ps_augS (pv 5) (pv 8) (pget_list K) (pe_op op_shl pe_int (pv 6)) iq_or set_list)))))
  (pss_cons (ps_for PassesOwn.never rfl (k_il K (pv 4)) (k_gt K (n := 2) (by rfl) (pgs_cons (pg_name (i := 9) sc_no_road_leaves_two.nd rfl (Or.inl rfl)) (pgs_cons (pg_name (i := 10) sc_no_road_leaves_two.nd rfl (Or.inl rfl)) pgs_nil)))
    (pss_cons (ps_set (i := 11) sc_no_road_leaves_two.nd rfl (Or.inl rfl) (pe_op op_and (pe_ix (k_list K) (pv 5) (pv 9) (fun _ _ => rfl)) (pe_un un_inv (pe_ix (k_list K) (pv 5) (pv 10) (fun _ _ => rfl)))))
  (pss_one (ps_if (k_tru K (pe_op op_and (pv 11) (pe_op op_sub (pv 11) pe_int))) (pss_one (ps_ret pe_bl)) pss_nil))))
  (pss_one (ps_ret pe_bl)))))), ?_⟩
    have n40 := L.n40
    have ln1 := L.n1
    have en : (n.toNat : Int) = n := by omega
    refine q_unp3 (Post := fun p H2 => p = .ref la) (evp_of (ev_var rfl) fun _ _ => rfl) fun p H1 a1 hp1 => ⟨_, _, _, _, hp1, ex_t a1 hT, ?_⟩
    refine q_asgL (el_rep (n := n.toNat) (v := .int 0) (ev_is (ev_var rfl) (by rw [en])) (by omega)) fun ba H2 hba a2 hba2 => ?_
    have eb : List.replicate n.toNat (V.int 0) = (List.replicate n.toNat 0).map natV := by rw [List.map_replicate]; rfl
    rw [eb] at hba2
    have a12 := a1.trans a2
    have ba0 : H ba = none := fresh_back a1 hba
    refine q_forE (K := K) (i1 := 6) (i2 := 7) ks (fun q => V.ref q.1) (ea_cons (ev_var rfl) ea_nil) (ex_l a12 hg)
      (fun k σ' H' => ∃ bl, Bt n.toNat (ks.map (·.2)) k [] bl ∧ Ex H H' ∧ H' ba = some (.lst (bl.map natV)) ∧ ∃ x y z, σ' = [some (.ref la), some (.ref ga), some (.int n), some (.int h), some (.ref r), some (.ref ba), x, y, z, none, none, none])
      (fun H3 a3 => ⟨_, Bt.start _ _, a12.trans a3, a3 _ _ hba2, _, _, _, rfl⟩) (fun k σ' H' _ ⟨bl, _, e, _⟩ => ex_l e hg) (fun k σ' H' H2 e ⟨bl, b, e1, e2, e3⟩ => ⟨bl, b, e1.trans e, e _ _ e2, e3⟩) ?_ ?_
    · rintro kk q σ' H3 hq ⟨bl, B, a3, b3, x, y, z, rfl⟩
      have hqm := List.mem_of_getElem? hq
      have hS : (ks.map (·.2))[kk]? = some q.2 := by rw [List.getElem?_map, hq]; rfl
      have hkl := (List.getElem?_eq_some_iff.mp hq).1
      refine s_forLn' (K := K) (j := 8) q.2 V.int (ev_var rfl) (ex_l a3 (hks q hqm))
        (fun j σ' H' => ∃ bl, Bt n.toNat (ks.map (·.2)) kk (q.2.take j) bl ∧ Ex H H' ∧ H' ba = some (.lst (bl.map natV)) ∧ ∃ z, σ' = [some (.ref la), some (.ref ga), some (.int n), some (.int h), some (.ref r), some (.ref ba), some (.int (kk : Int)), some (.ref q.1), z, none, none, none])
        (fun H4 a4 => ⟨bl, by simpa using B, a3.trans a4, a4 _ _ b3, _, rfl⟩) (fun j σ' H' _ ⟨bl, _, e, _⟩ => ex_l e (hks q hqm)) ?_ ?_
      · rintro j p σ' H4 hj ⟨bl, B, a4, b4, z, rfl⟩
        have hpm := List.mem_of_getElem? hj
        have rg := hrg q hqm p hpm
        have tk : q.2.take (j + 1) = q.2.take j ++ [((p.toNat : Nat) : Int)] := by
          rw [List.take_succ, hj]
          show q.2.take j ++ [p] = _
          congr 2
          omega
        have bl0 := B.len
        refine s_orL (K := K) (j := p.toNat) (a := ((bl.getD p.toNat 0 : Nat) : Int)) (b := 1 * 2 ^ ((kk : Int)).toNat) b4 (ev_var rfl) (ev_is (ev_var rfl) (by congr 1; omega)) (nat_at (by omega)) (ev_op ev_c (ev_var rfl) (rv_I (C := CPow) ⟨by omega, by omega, by decide⟩)) fun H5 a5 => ?_
        have e1 : (1 * 2 ^ ((kk : Int)).toNat : Int) = ((1 <<< kk : Nat) : Int) := by
          rw [Nat.one_shiftLeft, show ((kk : Int)).toNat = kk from rfl, Int.one_mul]
          norm_cast
        have e2 : (bl.map natV).set p.toNat (.int (Builtin.bitOr ((bl.getD p.toNat 0 : Nat) : Int) (1 * 2 ^ ((kk : Int)).toNat))) = (bl.set p.toNat (bl.getD p.toNat 0 ||| 1 <<< kk)).map natV := by
          rw [List.map_set, e1, Bits.bitOr_pp (Int.natCast_nonneg _) (Int.natCast_nonneg _)]
          rfl
        rw [e2]
        have B2 := B.put (p := p.toNat) (by omega)
        rw [← tk] at B2
        exact ⟨_, B2, Ex.mut (a4.trans a5) ba0, upd_same, _, rfl⟩
      · rintro σ' H4 ⟨bl, B, a4, b4, z, rfl⟩
        rw [List.take_length] at B
        exact ⟨bl, B.next hS, a4, b4, _, _, _, rfl⟩
    · rintro σ' H3 ⟨bl, B, a3, b3, x, y, z, rfl⟩
      have lv2 : ∀ {p q : Nat}, p < n.toNat → q < n.toNat → ∀ i, (bl.getD p 0 ^^^ (bl.getD p 0 &&& bl.getD q 0)).testBit i = true ↔ ∃ S, (ks.map (·.2))[i]? = some S ∧ (p : Int) ∈ S ∧ (q : Int) ∉ S := fun hp hq i => Bt.leaves (by rw [List.length_map]; exact Nat.le_refl _) B hp hq i
      have bl0 := B.len
      refine q_for2 (K := K) rk rnV (fun q => natV q.2.1) (fun q => natV q.2.2) (ev_var rfl) (ex_l a3 r1)
        (fun j σ' H' => Ex H3 H' ∧ (∀ q ∈ rk.take j, ¬ ∃ i i', i ≠ i' ∧ (bl.getD q.2.1 0 ^^^ (bl.getD q.2.1 0 &&& bl.getD q.2.2 0)).testBit i = true ∧ (bl.getD q.2.1 0 ^^^ (bl.getD q.2.1 0 &&& bl.getD q.2.2 0)).testBit i' = true) ∧ ∃ u v w', σ' = [some (.ref la), some (.ref ga), some (.int n), some (.int h), some (.ref r), some (.ref ba), x, y, z, u, v, w'])
        (fun H4 a4 => ⟨a4, fun q hq => by simp at hq, _, _, _, rfl⟩) (fun j σ' H' _ p => ex_l (a3.trans p.1) r1) (fun j q σ' H' hq p => ⟨q.1, rfl, ex_t (a3.trans p.1) (r2 q (List.mem_of_getElem? hq))⟩) ?_ ?_
      · rintro j q σ' H4 hq ⟨a4, al, u, v, w', rfl⟩
        have hqm := List.mem_of_getElem? hq
        have hm : (q.2.1, q.2.2) ∈ rdN rs := by rw [← r3]; exact List.mem_map.mpr ⟨q, hqm, rfl⟩
        have hlt := rdN_lt L hm
        refine q_asg (v := natV (bl.getD q.2.1 0 ^^^ (bl.getD q.2.1 0 &&& bl.getD q.2.2 0))) (ev_is (ev_op (ev_op (ev_var rfl) (ev_var rfl) (rv_ixL (sq_of (a4 _ _ b3)) (at_of (j := q.2.1) rfl (nat_at (by omega))))) (ev_un (ev_op (ev_var rfl) (ev_var rfl) (rv_ixL (sq_of (a4 _ _ b3)) (at_of (j := q.2.2) rfl (nat_at (by omega))))) ru_inv) rv_I0) (congrArg V.int (bit_left _ _))) fun H5 a5 => ?_
        refine s_when (b := dec (∃ i i', i ≠ i' ∧ (bl.getD q.2.1 0 ^^^ (bl.getD q.2.1 0 &&& bl.getD q.2.2 0)).testBit i = true ∧ (bl.getD q.2.1 0 ^^^ (bl.getD q.2.1 0 &&& bl.getD q.2.2 0)).testBit i' = true)) (et_tr (ev_op (ev_var rfl) (ev_op (ev_var rfl) ev_c rv_I0) rv_I0) fun _ _ => (two_bits _).symm) (fun hb H6 a6 => s_ret ev_c fun H7 a7 => ?_) fun hb H6 a6 => ?_
        · have no : ¬ TwoSays (rdN rs) (ks.map (·.2)) := fun z => by
            obtain ⟨i, i', hne, h1, h2⟩ := dec_iff.mp hb
            obtain ⟨S, s1, s2, s3⟩ := (lv2 hlt.1 hlt.2 i).mp h1
            obtain ⟨S', t1, t2, t3⟩ := (lv2 hlt.1 hlt.2 i').mp h2
            exact hne (z i i' S S' _ _ s1 t1 hm s2 s3 t2 t3)
          rw [dec_f no] at k
          exact RetV.go k ((((a3.trans a4).trans a5).trans a6).trans a7)
        · refine ⟨(a4.trans a5).trans a6, fun v hv => ?_, _, _, _, rfl⟩
          rw [List.take_succ, hq] at hv
          rcases List.mem_append.mp hv with hv | hv
          · exact al v hv
          · have : v = q := by simpa using hv
            rw [this]
            exact dec_not hb
      · rintro σ' H4 ⟨a4, al, u, v, w', rfl⟩
        rw [List.take_length] at al
        have yes : TwoSays (rdN rs) (ks.map (·.2)) := fun i j S S' p q s1 t1 hm s2 s3 t2 t3 => by
          have hlt := rdN_lt L hm
          have hm' := hm
          rw [← r3] at hm'
          obtain ⟨v, hv, e⟩ := List.mem_map.mp hm'
          have e : v.2 = (p, q) := e
          have := al v hv
          rw [e] at this
          exact Classical.byContradiction fun c => this ⟨i, j, c, (lv2 hlt.1 hlt.2 i).mpr ⟨S, s1, s2, s3⟩, (lv2 hlt.1 hlt.2 j).mpr ⟨S', t1, t2, t3⟩⟩
        rw [dec_t yes] at k
        exact s_ret ev_c fun H5 a5 => RetV.go k ((a3.trans a4).trans a5)

end
end Sg
namespace Sg
set_option autoImplicit false
open PySem L2 Evl Big
open PyProof.Rows (envOfC)
section
variable {P : Program} {w : World} {K : PySem.W.Frag} {mg : Str → Option Value} {base : Heap} {ad : Ads}
structure ShutSays (n h : Nat) (rd : List (Nat × Nat)) (S : List Int) : Prop where
  ne : S ≠ []
  rg : ∀ p ∈ S, 0 ≤ p ∧ p < n
  home : (h : Int) ∉ S
  out : ∀ p q : Nat, (p, q) ∈ rd → (p : Int) ∈ S → (q : Int) ∈ S
def sp_Shut_shows (K : PySem.W.Frag) (C : Addr) : Sp := fun vs H Q _ => ∃ (x dx D : Addr) (lv sv : V) (n h : Int) (rs : List (Int × Int)) (S : List Int), vs = [.ref x, lv, sv] ∧ H x = some (.ins C dx (putF "places" (.ref D) [])) ∧ SqL K H D (S.map V.int) ∧ LandAt K H lv n h rs ∧ LandOk' n h rs ∧ RetV (.bl (dec (ShutSays n.toNat h.toNat (rdN rs) S))) H Q
theorem ok_Shut_shows (T : Txt K mg ad) : C8.Met P w K mg base 3 ad.Shut "shows" (sp_Shut_shows K ad.Shut) [] := by
  have c_is_place : C8.Cal P w K mg base 2 "is_place" (sp_is_place K) [] := ok_is_place T
  refine met_of T.cl_Shut T.mt_Shut_shows sc_Shut_shows (fun _ _ _ _ _ _ us hl => match us, hl with | [_, _, _], _ => rfl) (fun vs H Q E h => ?_) (fun f cdv A outer st H vs Q E hr h => ?_)
  · obtain ⟨x, dx, D, lv, sv, n, h, rs, S, rfl, _⟩ := h; rfl
  · obtain ⟨x, dx, D, lv, sv, n, h, rs, S, rfl, hx, hp, hL, L, k⟩ := h
    obtain ⟨la, r, rfl, hT, hR⟩ := hL.ex
    obtain ⟨rk, r1, r2, r3⟩ := roadsN hR L
    refine ⟨_, (pss_cons (ps_asg (pv 1) (k_gt K (n := 3) (by rfl) (pgs_cons (pg_name (i := 3) sc_Shut_shows.nd rfl (Or.inl rfl)) (pgs_cons (pg_name (i := 4) sc_Shut_shows.nd rfl (Or.inl rfl)) (pgs_cons (pg_name (i := 5) sc_Shut_shows.nd rfl (Or.inl rfl)) pgs_nil)))))
  (pss_cons (ps_if (PW.pt (pw_or (pt_not (pt_val (pe_callB (k_isi K) (by rfl) T.n_isinstance (by decide +kernel) (pa_cons (k_fld K (pv 0)) (pa_cons (pe_bltn (v := .ty "list") (by rfl) T.n_list (by decide +kernel) rfl) pa_nil))))) (pw_or1 (pt_not (k_tru K (k_fld K (pv 0))))))) (pss_one (ps_ret pe_bl)) pss_nil)
  (pss_cons (ps_set (i := 6) sc_Shut_shows.nd rfl (Or.inr rfl) (pe_op op_rep (pe_lst (pa_cons pe_bl pa_nil)) (pv 3)))
  (pss_cons (ps_for PassesOwn.never rfl (k_il K (k_fld K (pv 0))) (pg_name (i := 7) sc_Shut_shows.nd rfl (Or.inl rfl))
    (pss_cons (ps_if (pt_not (pt_val (C8.pe_c c_is_place hr (by decide) rfl (pa_cons (pv 3) (pa_cons (pv 7) pa_nil))))) (pss_one (ps_ret pe_bl)) pss_nil)
  (pss_one (ps_asg pe_bl (pg_sub (pv 6) (pv 7) set_list)))))
  (pss_cons (ps_if (k_tru K (pe_ix (k_list K) (pv 6) (pv 4) (fun _ _ => rfl))) (pss_one (ps_ret pe_bl)) pss_nil)
  (pss_one (ps_ret (pe_callB (k_all K rfl) (by rfl) T.n_all (by decide +kernel) (pa_cons (pe_lc (own := [("start", 8), ("end", 9)]) (g := _) (tt := tYes) rfl sc_Shut_shows.nd (k_il K (pv 5)) (blkOk_by (N := N_Shut_shows) (sc := C8.fnScope st_Shut_shows) (by decide +kernel)) (fun _ _ _ _ _ => (k_gt K (n := 2) (by rfl) (pgs_cons (pg_name (i := 8) sc_Shut_shows.nd rfl (Or.inl rfl)) (pgs_cons (pg_name (i := 9) sc_Shut_shows.nd rfl (Or.inl rfl)) pgs_nil)))) (fun _ _ _ _ _ => pts_nil) (fun _ _ _ _ _ => (k_orT K (pe_ix (k_list K) (pv 6) (pv 9) (fun _ _ => rfl)) (pe_one (k_notT K (pe_ix (k_list K) (pv 6) (pv 8) (fun _ _ => rfl))))))) pa_nil))))))))), ?_⟩
    have h0 := L.h0
    have hn := L.hn
    have n40 := L.n40
    have few := L.few
    have eh : (h.toNat : Int) = h := by omega
    have en : (n.toNat : Int) = n := by omega
    have rkl : rk.length ≤ 120 := by
      have e1 : rk.length = (rdN rs).length := by rw [← r3, List.length_map]
      have e2 : (rdN rs).length = rs.length := by unfold rdN; rw [List.length_map]
      omega
    have no : ∀ {H'}, Ex H H' → ¬ ShutSays n.toNat h.toNat (rdN rs) S → Q (.bl false) H' := fun e z => by
      rw [dec_f z] at k; exact RetV.go k e
    have fE : ∀ {σ : L2.St} {H2 : Hp}, σ[0]? = some (some (.ref x)) → Ex H H2 → Ev (tFld K (tVar 0) "places") σ H2 (.ref D) := fun h0 e => ev_fld (ev_var h0) (e _ _ hx) T.cl_Shut T.no_Shut_places (look1 _ _)
    refine q_unp3 (Post := fun p H2 => p = .ref la) (evp_of (ev_var rfl) fun _ _ => rfl) fun p H1 a1 hp1 => ⟨_, _, _, _, hp1, ex_t a1 hT, ?_⟩
    refine q_when (b := S.isEmpty) (et_is (et_or (a := false) (et_is (et_not (et_B (isi_listT (fE rfl a1) (fun H2 e => ty_list (ex_l (a1.trans e) hp)) (show kitB "list" "list" = some true by decide +kernel)))) rfl) fun _ => et_not (et_tr (fE rfl a1) fun H2 e => tru_list (ex_l (a1.trans e) hp))) (by cases S <;> rfl)) (fun hb H2 a2 => s_ret ev_c fun H3 a3 => no ((a1.trans a2).trans a3) fun z => z.ne (List.isEmpty_iff.mp hb)) fun hb H2 a2 => ?_
    have hne : S ≠ [] := fun z => by rw [z] at hb; cases hb
    have a12 := a1.trans a2
    refine q_asgL (el_rep (n := n.toNat) (v := .bl false) (ev_is (ev_var rfl) (by rw [en])) (by omega)) fun wa H3 hwa a3 hwa3 => ?_
    rw [wl_start] at hwa3
    have a13 := a12.trans a3
    have wa0 : H wa = none := fresh_back a12 hwa
    refine q_forLn' (K := K) (j := 7) S V.int (fE rfl a13) (ex_l a13 hp)
      (fun j σ' H' => Ex H H' ∧ H' wa = some (.lst (wl n.toNat (S.take j))) ∧ (∀ p ∈ S.take j, 0 ≤ p ∧ p < n) ∧ ∃ y, σ' = [some (.ref x), some (.ref la), some sv, some (.int n), some (.int h), some (.ref r), some (.ref wa), y, none, none])
      (fun H4 a4 => ⟨a13.trans a4, a4 _ _ hwa3, fun p hp => by simp at hp, _, rfl⟩) (fun j σ' H' _ z => ex_l z.1 hp) ?_ ?_
    · rintro j p σ' H4 hj ⟨a4, w4, rg, y, rfl⟩
      have hpm := List.mem_of_getElem? hj
      have tk : S.take (j + 1) = S.take j ++ [p] := by rw [List.take_succ, hj]; rfl
      refine q_when (b := !decide (0 ≤ p ∧ p < n)) (et_not (et_B (ev_is (ev_call (z := .bl (placeD n (.int p))) (ea_cons (ev_var rfl) (ea_cons (ev_var rfl) ea_nil)) fun H5 a Q q E => ⟨n, _, .int p, rfl, .int p, q⟩) (by rw [place_int])))) (fun hb H5 a5 => s_ret ev_c fun H6 a6 => no ((a4.trans a5).trans a6) fun z => ?_) fun hb H5 a5 => ?_
      · have := z.rg p hpm
        have : decide (0 ≤ p ∧ p < n) = true := decide_eq_true ⟨this.1, by omega⟩
        rw [this] at hb; cases hb
      · have c1 : 0 ≤ p ∧ p < n := by simpa using hb
        refine s_setL (j := p.toNat) (v := .bl true) (a5 _ _ w4) ev_c (ev_var rfl) (ev_is (ev_var rfl) (by congr 1; omega)) (by rw [wl_len]; omega) fun H6 a6 => ?_
        rw [wl_set c1.1 (by omega), ← tk]
        refine ⟨Ex.mut ((a4.trans a5).trans a6) wa0, upd_same, fun q hq => ?_, _, rfl⟩
        rw [tk] at hq
        rcases List.mem_append.mp hq with hq | hq
        · exact rg q hq
        · rw [List.mem_singleton.mp hq]; exact c1
    · rintro σ' H4 ⟨a4, w4, rg, y, rfl⟩
      rw [List.take_length] at w4 rg
      refine q_when (b := decide (h ∈ S)) (et_tr (ev_op (ev_var rfl) (ev_var rfl) (rv_ixL (sq_of w4) (intAt h0 (by omega)))) fun _ _ => rfl) (fun hb H5 a5 => s_ret ev_c fun H6 a6 => no ((a4.trans a5).trans a6) fun z => ?_) fun hb H5 a5 => ?_
      · have := of_decide_eq_true hb
        exact z.home (by rw [eh]; exact this)
      · have hh := of_decide_eq_false hb
        have a45 := a4.trans a5
        have w5 := a5 _ _ w4
        let good : Rn → Bool := fun q => decide ((q.2.2 : Int) ∈ S) || !decide ((q.2.1 : Int) ∈ S)
        have val : dec (ShutSays n.toNat h.toNat (rdN rs) S) = (rk.map good).all id := by
          refine dec_is ?_
          rw [List.all_map, List.all_eq_true]
          constructor
          · intro z q hq
            show good q = true
            have hm : (q.2.1, q.2.2) ∈ rdN rs := by rw [← r3]; exact List.mem_map.mpr ⟨q, hq, rfl⟩
            have := z.out _ _ hm
            simp only [good]
            by_cases c : (q.2.1 : Int) ∈ S
            · rw [decide_eq_true (this c)]; rfl
            · rw [decide_eq_false c]; simp
          · intro z
            refine ⟨hne, fun p hp => ⟨(rg p hp).1, by have := (rg p hp).2; omega⟩, by rw [eh]; exact hh, fun p q hm hp => ?_⟩
            rw [← r3] at hm
            obtain ⟨v, hv, e⟩ := List.mem_map.mp hm
            have g : good v = true := z v hv
            have e : v.2 = (p, q) := e
            simp only [good, e] at g
            rw [decide_eq_true hp] at g
            simpa using g
        rw [val] at k
        refine s_ret (ev_all (K := K) (bs := rk.map good) ?_) fun H6 a6 => RetV.go k (a45.trans a6)
        rw [List.map_map]
        refine el_map2 (K := K) (i := 8) (j := 9) (by decide) rk rnV (fun q => natV q.2.1) (fun q => natV q.2.2) _ (ev_var rfl) (ex_l a45 r1) (by omega) (fun q hq => ⟨q.1, rfl, ex_t a45 (r2 q hq)⟩) fun q hq H6 a6 => ?_
        have hm : (q.2.1, q.2.2) ∈ rdN rs := by rw [← r3]; exact List.mem_map.mpr ⟨q, hq, rfl⟩
        have hlt := rdN_lt L hm
        show Ev _ _ H6 (V.bl (good q))
        refine fun H7 a7 Q q7 => (ev_op (ev_var rfl) (ev_var rfl) (rv_ixL (sq_of (a6 _ _ w5)) (at_of (j := q.2.2) rfl (wl_get hlt.2)))) H7 a7 _ fun H8 a8 => ⟨decide ((q.2.2 : Int) ∈ S), rfl, ?_⟩
        by_cases c : (q.2.2 : Int) ∈ S
        · rw [decide_eq_true c, if_pos rfl]
          have := q7 H8 a8
          simp only [good, decide_eq_true c, Bool.true_or] at this
          exact this
        · rw [decide_eq_false c, if_neg (by decide)]
          refine (ev_op (ev_var rfl) (ev_var rfl) (rv_ixL (sq_of ((a6.trans (a7.trans a8)) _ _ w5)) (at_of (j := q.2.1) rfl (wl_get hlt.1)))) H8 (Ex.refl _) _ fun H9 a9 => ⟨decide ((q.2.1 : Int) ∈ S), rfl, ?_⟩
          have := q7 H9 (a8.trans a9)
          simp only [good, decide_eq_false c, Bool.false_or] at this
          exact this

end
end Sg
namespace Sg
set_option autoImplicit false
open PySem L2 Evl Big
open PyProof.Rows (envOfC)
section
variable {P : Program} {w : World} {K : PySem.W.Frag} {mg : Str → Option Value} {base : Heap} {ad : Ads}
def toI (o : Option Nat) : Option Int := o.map fun q => (q : Int)
theorem oV_toI (o : Option Nat) : oV (toI o) = nV o := by cases o <;> rfl
theorem oD_toI (o : Option Nat) : oD (toI o) = nD o := by cases o <;> rfl
theorem oV_map (s : List (Option Nat)) : (s.map toI).map oV = s.map nV := by rw [List.map_map]; exact List.map_congr_left fun o _ => oV_toI o
theorem oD_map (s : List (Option Nat)) : (s.map toI).map oD = s.map nD := by rw [List.map_map]; exact List.map_congr_left fun o _ => oD_toI o
theorem toI_inj {a b : List (Option Nat)} (h : a.map toI = b.map toI) : a = b := by
  refine (map_inj (f := toI) (fun x y e => ?_)).mp h
  cases x <;> cases y <;> simp [toI] at e ⊢
  omega
/-- signs told by hand that are such -/
theorem signs_nat {n h : Int} {rs : List (Int × Int)} {t : List (Option Int)} (hb : signsD n h rs (.list (t.map oD)) = true) : ∃ t' : List (Option Nat), t = t'.map toI ∧ SignsOk n h rs t' := by
  have hb' := hb
  have x' : (decide (((t.map oD).length : Int) = n) && ((((t.map oD)[h.toNat]?).map isNoneD).getD false && (List.range (t.map oD).length).all fun p => signD n rs p ((t.map oD).getD p .none))) = true := hb
  simp only [Bool.and_eq_true, decide_eq_true_eq, List.length_map, List.all_eq_true, List.mem_range] at x'
  obtain ⟨_, _, a3⟩ := x'
  have e : t = (t.map fun o => o.map Int.toNat).map toI := by
    rw [List.map_map]
    apply List.ext_getElem?
    intro i
    rw [List.getElem?_map]
    by_cases c : i < t.length
    · have z := a3 i c
      rw [List.getD_eq_getElem?_getD, List.getElem?_map, List.getElem?_eq_getElem c] at z
      rw [List.getElem?_eq_getElem c]
      generalize t[i] = o at z
      cases o with
      | none => rfl
      | some v =>
        have z : ((decide (0 ≤ v) && decide (v < n)) && decide (((i : Int), v) ∈ rs)) = true := z
        simp only [Bool.and_eq_true, decide_eq_true_eq] at z
        show some (some v) = some (some ((v.toNat : Nat) : Int))
        rw [Int.toNat_of_nonneg z.1.1]
    · rw [List.getElem?_eq_none (by omega)]; rfl
  refine ⟨_, e, ?_⟩
  unfold SignsOk
  rw [← oD_map, ← e]
  exact hb'
theorem signs_nat_of {n h : Int} {rs : List (Int × Int)} {t' : List (Option Nat)} (x : SignsOk n h rs t') : signsD n h rs (.list ((t'.map toI).map oD)) = true := by
  rw [oD_map]; exact x
structure TurnedSays (n h : Nat) (rd : List (Nat × Nat)) (s : List (Option Nat)) (t : List (Option Int)) (sets : List (List Int)) : Prop where
  signs : ∃ t' : List (Option Nat), t = t'.map toI ∧ t'.length = n ∧ nx t' h = none ∧ (∀ p q, nx t' p = some q → (p, q) ∈ rd) ∧ (∀ p, p < n → Reach t' h p) ∧ ((List.range n).filter fun p => decide (nx t' p ≠ nx s p)).length = sets.length
  kept : ∀ S ∈ sets, KeptSays n h s S
  two : TwoSays rd sets
def toJ (S : List Nat) : List Int := S.map fun p : Nat => (p : Int)
theorem mem_toJ {S : List Nat} {p : Nat} : (p : Int) ∈ toJ S ↔ p ∈ S := by
  unfold toJ
  rw [List.mem_map]
  constructor
  · rintro ⟨q, hq, e⟩
    have : q = p := by omega
    rw [← this]; exact hq
  · intro h; exact ⟨p, h, rfl⟩
theorem toJ_v (S : List Nat) : (toJ S).map V.int = S.map natV := by unfold toJ; rw [List.map_map]; rfl
theorem toJ_nodup {S : List Nat} (h : S.Nodup) : (toJ S).Nodup := by
  unfold toJ
  rw [List.nodup_iff_pairwise_ne, List.pairwise_map]
  rw [List.nodup_iff_pairwise_ne] at h
  exact h.imp fun hab z => hab (by omega)
theorem SetOk.says {n h : Nat} {s : List (Option Nat)} {S : List Nat} (o : SetOk n h S) (kept : ∀ p q, p ∈ S → nx s p = some q → q ∈ S) : KeptSays n h s (toJ S) where
  ne := fun z => o.ne (by unfold toJ at z; exact List.map_eq_nil_iff.mp z)
  nd := toJ_nodup o.nd
  rg := fun p hp => by
    unfold toJ at hp
    obtain ⟨q, hq, rfl⟩ := List.mem_map.mp hp
    have := o.lt q hq
    omega
  home := fun z => o.home (mem_toJ.mp z)
  kept := fun p hp q e => by
    unfold toJ at hp
    obtain ⟨r, hr, rfl⟩ := List.mem_map.mp hp
    exact mem_toJ.mpr (kept r q hr e)
/-- what is told is so -/
theorem TurnedOk.says {n h : Nat} {rd : List (Nat × Nat)} {s t : List (Option Nat)} {sets : List (List Nat)} (T : TurnedOk n h rd s t sets) : TurnedSays n h rd s (t.map toI) (sets.map toJ) where
  signs := ⟨t, rfl, T.len, T.home, T.along, T.come, by rw [List.length_map]; exact T.many⟩
  kept := fun S hS => by
    obtain ⟨S', hS', rfl⟩ := List.mem_map.mp hS
    exact (T.ok S' hS').says (T.kept S' hS')
  two := fun i j S S' p q h1 h2 hm a b c d => by
    rw [List.getElem?_map] at h1 h2
    obtain ⟨A, hA, rfl⟩ := Option.map_eq_some_iff.mp h1
    obtain ⟨A', hA', rfl⟩ := Option.map_eq_some_iff.mp h2
    exact T.two i j A A' p q hA hA' hm (mem_toJ.mp a) (fun z => b (mem_toJ.mpr z)) (mem_toJ.mp c) (fun z => d (mem_toJ.mpr z))
theorem ShutOk.says {n h : Nat} {rd : List (Nat × Nat)} {S : List Nat} (o : ShutOk n h rd S) : ShutSays n h rd (toJ S) where
  ne := fun z => o.ok.ne (by unfold toJ at z; exact List.map_eq_nil_iff.mp z)
  rg := fun p hp => by
    unfold toJ at hp
    obtain ⟨q, hq, rfl⟩ := List.mem_map.mp hp
    have := o.ok.lt q hq
    omega
  home := fun z => o.ok.home (mem_toJ.mp z)
  out := fun p q hm hp => mem_toJ.mpr (o.out p q hm (mem_toJ.mp hp))
theorem two_sets (fv gv : V) : (putF "sets" gv (putF "signs" fv [])).lookup ("sets" : Str) = some gv := by rw [lookup_putF, if_pos rfl]
theorem two_signs (fv gv : V) : (putF "sets" gv (putF "signs" fv [])).lookup ("signs" : Str) = some fv := by
  rw [lookup_putF, if_neg (show ¬ ("signs" : Str) = "sets" by decide), lookup_putF, if_pos rfl]
structure HandT (K : PySem.W.Frag) (H : Hp) (C x : Addr) (t : List (Option Int)) (ks : List (Addr × List Int)) (fa ga : Addr) : Prop where
  ob : ∃ dx, H x = some (.ins C dx (putF "sets" (.ref ga) (putF "signs" (.ref fa) [])))
  f : SqL K H fa (t.map oV)
  g : SqL K H ga (ks.map fun q => V.ref q.1)
  gs : ∀ q ∈ ks, SqL K H q.1 (q.2.map V.int)
  few : ks.length ≤ 40000
  fews : ∀ q ∈ ks, q.2.length ≤ 40000
theorem HandT.mono {H H' : Hp} {C x : Addr} {t : List (Option Int)} {ks : List (Addr × List Int)} {fa ga : Addr} (e : Ex H H') (h : HandT K H C x t ks fa ga) : HandT K H' C x t ks fa ga := by
  obtain ⟨dx, ob⟩ := h.ob
  exact ⟨⟨dx, e _ _ ob⟩, ex_l e h.f, ex_l e h.g, fun q hq => ex_l e (h.gs q hq), h.few, h.fews⟩
def sp_Turned_shows (K : PySem.W.Frag) (C : Addr) : Sp := fun vs H Q _ => ∃ (x fa ga sa : Addr) (lv : V) (n h : Int) (rs : List (Int × Int)) (s : List (Option Nat)) (t : List (Option Int)) (ks : List (Addr × List Int)), vs = [.ref x, lv, .ref sa] ∧ HandT K H C x t ks fa ga ∧ LandAt K H lv n h rs ∧ LandOk' n h rs ∧ SqL K H sa (s.map nV) ∧ Wf n.toNat s ∧ RetV (.bl (dec (TurnedSays n.toNat h.toNat (rdN rs) s t (ks.map (·.2))))) H Q
theorem ok_Turned_shows (T : Txt K mg ad) : C8.Met P w K mg base 4 ad.Turned "shows" (sp_Turned_shows K ad.Turned) [] := by
  have c_are_signs : C8.Cal P w K mg base 3 "are_signs" (sp_are_signs K) [] := ok_are_signs T
  have c_coming : C8.Cal P w K mg base 1 "coming" (sp_coming K) [] := ok_coming T
  have c_is_kept_set : C8.Cal P w K mg base 3 "is_kept_set" (sp_is_kept_set K) [] := ok_is_kept_set T
  have c_no_road_leaves_two : C8.Cal P w K mg base 1 "no_road_leaves_two" (sp_no_two K) [] := ok_no_road_leaves_two T
  refine met_of T.cl_Turned T.mt_Turned_shows sc_Turned_shows (fun _ _ _ _ _ _ us hl => match us, hl with | [_, _, _], _ => rfl) (fun vs H Q E h => ?_) (fun f cdv A outer st H vs Q E hr h => ?_)
  · obtain ⟨x, fa, ga, sa, lv, n, h, rs, s, t, ks, rfl, _⟩ := h; rfl
  · obtain ⟨x, fa, ga, sa, lv, n, h, rs, s, t, ks, rfl, hT, hL, L, hs, w0, k⟩ := h
    obtain ⟨la, r, rfl, hLT, hR⟩ := hL.ex
    obtain ⟨dx, ob⟩ := hT.ob
    refine ⟨_, (pss_cons (ps_if (PW.pt (pw_or (pt_not (pt_val (C8.pe_c c_are_signs hr (by decide) rfl (pa_cons (pv 1) (pa_cons (k_fld K (pv 0)) pa_nil))))) (pw_or1 (pt_not (pt_val (pe_callB (k_all K rfl) (by rfl) T.n_all (by decide +kernel) (pa_cons (C8.pe_c c_coming hr (by decide) rfl (pa_cons (k_fld K (pv 0)) (pa_cons (pe_ix (k_tup K) (pv 1) pe_int (fun _ _ => rfl)) pa_nil))) pa_nil))))))) (pss_one (ps_ret pe_bl)) pss_nil)
  (pss_cons (ps_setLc (i := 3) (own := [("place", 4), ("sign", 5)]) (g := _) (tt := _) (by rfl) sc_Turned_shows.nd rfl rfl (sw_true rfl rfl rfl (by decide +kernel)) (pi_enum rfl T.n_enumerate (pa_cons (pv 2) pa_nil)) (blkOk_by (N := N_Turned_shows) (sc := C8.fnScope st_Turned_shows) (by decide +kernel)) (fun _ _ _ _ _ => (k_gt K (n := 2) (by rfl) (pgs_cons (pg_name (i := 4) sc_Turned_shows.nd rfl (Or.inl rfl)) (pgs_cons (pg_name (i := 5) sc_Turned_shows.nd rfl (Or.inl rfl)) pgs_nil)))) (fun _ _ _ _ _ => (pts_one (pt_cmpR op_ne (pe_ix (k_list K) (k_fld K (pv 0)) (pv 4) (fun _ _ => rfl)) (pv 5) (nomark _)))) (fun _ _ _ _ _ => (pv 4)))
  (pss_cons (ps_if (PW.pt (pw_or (pt_not (pt_val (pe_callB (k_isi K) (by rfl) T.n_isinstance (by decide +kernel) (pa_cons (k_fld K (pv 0)) (pa_cons (pe_bltn (v := .ty "list") (by rfl) T.n_list (by decide +kernel) rfl) pa_nil))))) (pw_or1 (pt_cmpR op_ne (pe_callB (k_len K) (by rfl) T.n_len PySem.boot_len (pa_cons (k_fld K (pv 0)) pa_nil)) (pe_callB (k_len K) (by rfl) T.n_len PySem.boot_len (pa_cons (pv 3) pa_nil)) (nomark _))))) (pss_one (ps_ret pe_bl)) pss_nil)
  (pss_cons (ps_if (pt_not (pt_val (pe_callB (k_all K rfl) (by rfl) T.n_all (by decide +kernel) (pa_cons (pe_lc (own := [("places", 6)]) (g := _) (tt := tYes) rfl sc_Turned_shows.nd (k_il K (k_fld K (pv 0))) (blkOk_by (N := N_Turned_shows) (sc := C8.fnScope st_Turned_shows) (by decide +kernel)) (fun _ _ _ _ _ => (pg_name (i := 6) sc_Turned_shows.nd rfl (Or.inl rfl))) (fun _ _ _ _ _ => pts_nil) (fun _ _ _ _ _ => (C8.pe_c c_is_kept_set hr (by decide) rfl (pa_cons (pv 1) (pa_cons (pv 2) (pa_cons (pv 6) pa_nil)))))) pa_nil)))) (pss_one (ps_ret pe_bl)) pss_nil)
  (pss_one (ps_ret (C8.pe_c c_no_road_leaves_two hr (by decide) rfl (pa_cons (pv 1) (pa_cons (k_fld K (pv 0)) pa_nil))))))))), ?_⟩
    have h0 := L.h0
    have hn := L.hn
    have n40 := L.n40
    have few := L.few
    have eh : (h.toNat : Int) = h := by omega
    have sl := w0.len
    have no : ∀ {H'}, Ex H H' → ¬ TurnedSays n.toNat h.toNat (rdN rs) s t (ks.map (·.2)) → Q (.bl false) H' := fun e z => by
      rw [dec_f z] at k; exact RetV.go k e
    have fE : ∀ {σ : L2.St} {H2 : Hp}, σ[0]? = some (some (.ref x)) → Ex H H2 → Ev (tFld K (tVar 0) "signs") σ H2 (.ref fa) := fun h0 e => ev_fld (ev_var h0) (e _ _ ob) T.cl_Turned T.no_Turned_signs (two_signs _ _)
    have gE : ∀ {σ : L2.St} {H2 : Hp}, σ[0]? = some (some (.ref x)) → Ex H H2 → Ev (tFld K (tVar 0) "sets") σ H2 (.ref ga) := fun h0 e => ev_fld (ev_var h0) (e _ _ ob) T.cl_Turned T.no_Turned_sets (two_sets _ _)
    have hE : ∀ {σ : L2.St} {H2 : Hp}, σ[1]? = some (some (.ref la)) → Ex H H2 → Ev (tOp (rIxT K) (tVar 1) (tC (.int 1))) σ H2 (natV h.toNat) := fun h0 e => ev_is (ev_op (ev_var h0) ev_c (rv_ixT (ex_t e hLT) (atI_nat (j := 1) rfl))) (by unfold natV; rw [eh])
    have sE : Ev (tCall (sp_are_signs K) [] C8.E0 (tCons (tVar 1) (tCons (tFld K (tVar 0) "signs") tNil))) (start N_Turned_shows [.ref x, .ref la, .ref sa]) H (.bl (signsD n h rs (.list (t.map oD)))) :=
      ev_call (ea_cons (ev_var rfl) (ea_cons (fE rfl (Ex.refl _)) ea_nil)) fun H1 a Q q E => ⟨_, n, h, rs, _, _, rfl, hL.mono a, h0, hn, by omega, .lst (ex_l a hT.f) (DaAll.map _ _ t fun o _ => da_o o), q⟩
    cases hb : signsD n h rs (.list (t.map oD)) with
    | false =>
      refine q_when (b := true) (et_is (et_or (a := true) (b := false) (et_is (et_not (et_B sE)) (by rw [hb]; rfl)) fun z => nomatch z) rfl) (fun _ H1 a1 => s_ret ev_c fun H2 a2 => no (a1.trans a2) fun z => ?_) (fun z => nomatch z)
      obtain ⟨t', e1, e2, e3, e4, e5, e6⟩ := z.signs
      have : SignsOk n h rs t' := signsOk_mk (by omega) h0 hn e3 fun p q e => ⟨by have := (rdN_lt L (e4 p q e)).2; omega, (mem_rdN L).mp (e4 p q e)⟩
      have := signs_nat_of this
      rw [← e1, hb] at this
      cases this
    | true =>
      obtain ⟨t', et, so⟩ := signs_nat hb
      have SO := so.all
      have tl := SO.wf.len
      have hf' : SqL K H fa (t'.map nV) := by rw [← oV_map, ← et]; exact hT.f
      have cE : EvL (tCall (sp_coming K) [] C8.E0 (tCons (tFld K (tVar 0) "signs") (tCons (tOp (rIxT K) (tVar 1) (tC (.int 1))) tNil))) (start N_Turned_shows [.ref x, .ref la, .ref sa]) H (((List.range t'.length).map (reachB t' h.toNat)).map V.bl) := fun H1 e1 Q q =>
        (ea_cons (fE rfl (Ex.refl _)) (ea_cons (hE rfl (Ex.refl _)) ea_nil)) H1 e1 _ fun H2 e2 => ⟨fa, t', n.toNat, h.toNat, rfl, ex_l (e1.trans e2) hf', SO.wf, by omega, by omega, fun v H3 e3 ⟨l, z1, z2, z3⟩ => by
          subst z1
          refine q l H3 (fresh_back e2 z2) (e2.trans e3) ?_
          rw [z3, List.map_map]; rfl⟩
      have allE : (((List.range t'.length).map (reachB t' h.toNat)).all id = true) ↔ ∀ p, p < n.toNat → Reach t' h.toNat p := by
        rw [List.all_map, List.all_eq_true]
        constructor
        · intro z p hp
          exact reachB_iff.mp (z p (List.mem_range.mpr (by omega)))
        · intro z p hp
          exact reachB_iff.mpr (z p (by have := List.mem_range.mp hp; omega))
      refine q_when (b := !(((List.range t'.length).map (reachB t' h.toNat)).all id)) (et_is (et_or (a := false) (et_is (et_not (et_B sE)) (by rw [hb]; rfl)) fun _ => et_not (et_B (ev_all cE))) rfl) (fun hb2 H1 a1 => s_ret ev_c fun H2 a2 => no (a1.trans a2) fun z => ?_) fun hb2 H1 a1 => ?_
      · obtain ⟨t2, e1, e2, e3, e4, e5, e6⟩ := z.signs
        have : t' = t2 := toI_inj (et.symm.trans e1)
        subst this
        rw [allE.mpr e5] at hb2
        cases hb2
      · have come : ∀ p, p < n.toNat → Reach t' h.toNat p := allE.mp (by simpa using hb2)
        -- the places where they are others
        have oth := el_enum (K := K) (σ := start N_Turned_shows [.ref x, .ref la, .ref sa]) (H := H1) (i1 := 4) (i2 := 5) (by decide) s nV (fun k o => decide (nx t' k ≠ o)) (fun k _ => natV k) (Post := fun _ _ => True)
          (ta := tCons (tVar 2) tNil) (t := tTest (tOp rNe (tOp (rIxL K) (tFld K (tVar 0) "signs") (tVar 4)) (tVar 5))) (te := tVar 4)
          (fun H2 e2 Q q => (ev_var rfl) H2 e2 _ fun H3 e3 => q sa H3 e3 (ex_l ((a1.trans e2).trans e3) hs)) (by omega)
          (fun kk o hk H2 e2 => by
            have hkl := (List.getElem?_eq_some_iff.mp hk).1
            refine et_test (ev_is (ev_op (ev_op (fE rfl (a1.trans e2)) (ev_var rfl) (rv_ixL (ex_l (a1.trans e2) hf') (at_of (j := kk) rfl (sign_at (by omega))))) (ev_var rfl) (rv_ne ?_)) ?_)
            · cases nx t' kk <;> cases o <;> rfl
            · cases c1 : nx t' kk with
              | none => cases o <;> simp [nV]
              | some q => cases o <;> simp [nV] <;> omega)
          (fun kk o hk H2 e2 _ => ev_var rfl)
        have ol : (given s.length (fun k => (s[k]?.map fun o => decide (nx t' k ≠ o)).getD false) (fun k => (s[k]?.map fun _ => natV k).getD .non)).length = ((List.range n.toNat).filter fun p => decide (nx t' p ≠ nx s p)).length := by
          unfold given
          rw [List.length_map, sl]
          congr 1
          refine List.filter_congr fun p hp => ?_
          rw [nx_get (show p < s.length by have := List.mem_range.mp hp; omega)]
          rfl
        refine q_asgL oth fun oa H2 hoa a2 hoa2 => ?_
        have a12 := a1.trans a2
        have olE : ∀ {σ : L2.St} {H3 : Hp}, σ[3]? = some (some (.ref oa)) → Ex H2 H3 → Ev (tCB (rLenS K) (tCons (tVar 3) tNil)) σ H3 (.int (((List.range n.toNat).filter fun p => decide (nx t' p ≠ nx s p)).length : Int)) := fun h3 e => by
          have := ev_len (K := K) (ta := tVar 3) (ev_var h3) (sq_of (e _ _ hoa2))
          rw [ol] at this
          exact this
        refine q_when (b := decide (ks.length ≠ ((List.range n.toNat).filter fun p => decide (nx t' p ≠ nx s p)).length)) (et_is (et_or (a := false) (et_is (et_not (et_B (isi_listT (gE rfl a12) (fun H3 e => ty_list (ex_l (a12.trans e) hT.g)) (show kitB "list" "list" = some true by decide +kernel)))) rfl) fun _ => et_test (ev_op (ev_len (gE rfl a12) (ex_l a12 hT.g)) (olE rfl (Ex.refl _)) (rv_ne rfl))) (by
          rw [Bool.false_or, List.length_map]
          by_cases c : ks.length = ((List.range n.toNat).filter fun p => decide (nx t' p ≠ nx s p)).length
          · rw [c]; simp
          · rw [decide_eq_true c, decide_eq_false (fun z => c (by injection z with z; omega))]; rfl)) (fun hb3 H3 a3 => s_ret ev_c fun H4 a4 => no ((a12.trans a3).trans a4) fun z => ?_) fun hb3 H3 a3 => ?_
        · obtain ⟨t2, e1, e2, e3, e4, e5, e6⟩ := z.signs
          have : t' = t2 := toI_inj (et.symm.trans e1)
          subst this
          have c := of_decide_eq_true hb3
          rw [e6, List.length_map] at c
          exact c rfl
        · have hcount : ks.length = ((List.range n.toNat).filter fun p => decide (nx t' p ≠ nx s p)).length := by simpa using hb3
          have kl : ks.length ≤ n.toNat := by
            rw [hcount]
            exact Nat.le_trans (List.length_filter_le _ _) (by rw [List.length_range]; exact Nat.le_refl _)
          have a13 := a12.trans a3
          refine q_when (b := !((ks.map fun q => dec (KeptSays n.toNat h.toNat s q.2)).all id)) (et_not (et_B (ev_all (K := K) (by
            rw [List.map_map]
            exact el_mapL (K := K) (j := 6) ks (fun q => V.ref q.1) _ (gE rfl a13) (ex_l a13 hT.g) hT.few fun q hq H4 a4 => ev_call (ea_cons (ev_var rfl) (ea_cons (ev_var rfl) (ea_cons (ev_var rfl) ea_nil))) fun H5 a5 Q q2 E => ⟨_, n, h, rs, sa, q.1, s, q.2, rfl, hL.mono ((a13.trans a4).trans a5), h0, hn, by omega, ex_l ((a13.trans a4).trans a5) hs, w0, ex_l ((a13.trans a4).trans a5) (hT.gs q hq), hT.fews q hq, q2⟩)))) (fun hb4 H4 a4 => s_ret ev_c fun H5 a5 => no ((a13.trans a4).trans a5) fun z => ?_) fun hb4 H4 a4 => ?_
          · have : ((ks.map fun q => dec (KeptSays n.toNat h.toNat s q.2)).all id) = true := by
              rw [List.all_map, List.all_eq_true]
              intro q hq
              exact dec_t (z.kept q.2 (List.mem_map.mpr ⟨q, hq, rfl⟩))
            rw [this] at hb4
            cases hb4
          · have hk : ∀ q ∈ ks, KeptSays n.toNat h.toNat s q.2 := by
              have : ((ks.map fun q => dec (KeptSays n.toNat h.toNat s q.2)).all id) = true := by simpa using hb4
              rw [List.all_map, List.all_eq_true] at this
              exact fun q hq => dec_iff.mp (this q hq)
            have a14 := a13.trans a4
            have val : dec (TurnedSays n.toNat h.toNat (rdN rs) s t (ks.map (·.2))) = dec (TwoSays (rdN rs) (ks.map (·.2))) := by
              refine dec_is ?_
              rw [dec_iff]
              constructor
              · intro z; exact z.two
              · intro z
                refine ⟨⟨t', et, tl, SO.home, fun p q e => (mem_rdN L).mpr (SO.along p q e), come, by rw [List.length_map]; exact hcount.symm⟩, fun S hS => ?_, z⟩
                obtain ⟨q, hq, rfl⟩ := List.mem_map.mp hS
                exact hk q hq
            rw [val] at k
            refine s_ret (ev_call (ea_cons (ev_var rfl) (ea_cons (gE rfl a14) ea_nil)) fun H5 a5 Q q2 E => ⟨_, n, h, rs, ga, ks, rfl, hL.mono (a14.trans a5), L, ex_l (a14.trans a5) hT.g, fun q hq => ex_l (a14.trans a5) (hT.gs q hq), fun q hq p hp => ?_, by omega, q2⟩) fun H5 a5 => RetV.go k (a14.trans a5)
            have := (hk q hq).rg p hp
            omega

end
end Sg
namespace Sg
set_option autoImplicit false
open PySem L2 Evl Big
open PyProof.Rows (envOfC)
section
variable {P : Program} {w : World} {K : PySem.W.Frag} {mg : Str → Option Value} {base : Heap} {ad : Ads}
/-- lists of places, each at its own list -/
structure SetsI (H : Hp) (b : Addr) (ks : List (Addr × List Int)) : Prop where
  lst : H b = some (.lst (ks.map fun q => V.ref q.1))
  at_ : ∀ q ∈ ks, H q.1 = some (.lst (q.2.map V.int))
theorem SetsI.mono {H H' : Hp} {b : Addr} {ks : List (Addr × List Int)} (e : Ex H H') (h : SetsI H b ks) : SetsI H' b ks := ⟨e _ _ h.lst, fun q hq => e _ _ (h.at_ q hq)⟩
def sItemsI (ks : List (Addr × List Int)) : List It2 := ks.map fun q => .inr (q.1, q.2.map V.int)
def oItems (s : List (Option Int)) : List It2 := (s.map fun o => (oV o, oD o)).map .inl
/-- what an __init__ of two fields leaves -/
structure HandNew (H : Hp) (C x dx : Addr) (s : List (Option Int)) (ls : List (List Int)) (fa ga : Addr) (ks : List (Addr × List Int)) (H3 : Hp) : Prop where
  frame : ∀ b o, b ≠ x → H b = some o → H3 b = some o
  ob : H3 x = some (.ins C dx (putF "sets" (.ref ga) (putF "signs" (.ref fa) [])))
  fn : H fa = none
  fl : H3 fa = some (.lst (s.map oV))
  gn : H ga = none
  gl : SetsI H3 ga ks
  same : ks.map (·.2) = ls
  kn : ∀ q ∈ ks, H q.1 = none
  nd : (fa :: ga :: ks.map (·.1)).Nodup
def sp_Turned_hand (K : PySem.W.Frag) (C : Addr) : Sp := fun vs H Q _ => ∃ (x dx a b : Addr) (s : List (Option Int)) (ks : List (Addr × List Int)), vs = [.ref x, .ref a, .ref b] ∧ H x = some (.ins C dx []) ∧ SqL K H a (s.map oV) ∧ SqL K H b (ks.map fun q => V.ref q.1) ∧ (∀ q ∈ ks, SqL K H q.1 (q.2.map V.int)) ∧ s.length ≤ 40000 ∧ ks.length ≤ 40000 ∧ (∀ q ∈ ks, q.2.length ≤ 100000) ∧
  ∀ H3 fa ga ks', HandNew H C x dx s (ks.map (·.2)) fa ga ks' H3 → Q .non H3
/-- lists of places made anew -/
theorem sets_copyI {H H' : Hp} {ks : List (Addr × List Int)} {g : V} (h : CopyAt H (sItemsI ks) g H') : ∃ D ks', g = .ref D ∧ H D = none ∧ SetsI H' D ks' ∧ ks'.map (·.2) = ks.map (·.2) ∧ (∀ q ∈ ks', q.1 ≠ D ∧ H q.1 = none) ∧ (ks'.map (·.1)).Nodup := by
  obtain ⟨D, ys, h1, h2, h3, h4, h5, h6⟩ := h
  have it : ∀ (i : Nat) q, ks[i]? = some q → (sItemsI ks)[i]? = some (.inr (q.1, q.2.map V.int)) := fun i q e => by
    unfold sItemsI; rw [List.getElem?_map, e]; rfl
  have l1 : ys.length = ks.length := by rw [h4]; unfold sItemsI; rw [List.length_map]
  have hk : ∀ (i : Nat) q, ks[i]? = some q → ∃ p, ys[i]? = some (.ref p) ∧ p ≠ D ∧ H p = none ∧ H' p = some (.lst (q.2.map V.int)) := fun i q e => by
    have hi := (List.getElem?_eq_some_iff.mp e).1
    have ey := List.getElem?_eq_getElem (show i < ys.length by omega)
    obtain ⟨p, z1, z2, z3, z4⟩ := h5 i _ _ (it i q e) ey
    exact ⟨p, by rw [ey, z1], z2, z3, z4⟩
  have kz : ∀ i : Nat, (List.zipWith (fun y (q : Addr × List Int) => (aOf y, q.2)) ys ks)[i]? = ks[i]?.bind fun q => ys[i]?.map fun y => (aOf y, q.2) := fun i => by
    rw [List.getElem?_zipWith]
    cases ys[i]? <;> cases ks[i]? <;> rfl
  have kl : (List.zipWith (fun y (q : Addr × List Int) => (aOf y, q.2)) ys ks).length = ks.length := by rw [List.length_zipWith]; omega
  have km : ∀ q' ∈ List.zipWith (fun y (q : Addr × List Int) => (aOf y, q.2)) ys ks, ∃ (i : Nat) (q : Addr × List Int), ks[i]? = some q ∧ ys[i]? = some (.ref q'.1) ∧ q'.2 = q.2 := fun q' hq' => by
    obtain ⟨i, hi⟩ := List.getElem?_of_mem hq'
    rw [kz] at hi
    cases e : ks[i]? with
    | none => rw [e] at hi; cases hi
    | some q =>
      obtain ⟨p, z1, _⟩ := hk i q e
      rw [e, z1] at hi
      cases hi
      exact ⟨i, q, e, z1, rfl⟩
  refine ⟨D, List.zipWith (fun y q => (aOf y, q.2)) ys ks, h1, h2, ⟨?_, fun q' hq' => ?_⟩, ?_, fun q' hq' => ?_, ?_⟩
  · rw [h3]
    congr 2
    apply List.ext_getElem?
    intro i
    rw [List.getElem?_map, kz]
    cases e : ks[i]? with
    | none =>
      have := List.getElem?_eq_none_iff.mp e
      rw [List.getElem?_eq_none (by omega)]; rfl
    | some q =>
      obtain ⟨p, z1, _⟩ := hk i q e
      rw [z1]; rfl
  · obtain ⟨i, q, e, z1, z2⟩ := km q' hq'
    obtain ⟨p, y1, y2, y3, y4⟩ := hk i q e
    rw [z1] at y1
    injection y1 with y1
    injection y1 with y1
    rw [z2, y1]; exact y4
  · apply List.ext_getElem?
    intro i
    rw [List.getElem?_map, List.getElem?_map, kz]
    cases e : ks[i]? with
    | none => rfl
    | some q =>
      obtain ⟨p, z1, _⟩ := hk i q e
      rw [z1]; rfl
  · obtain ⟨i, q, e, z1, z2⟩ := km q' hq'
    obtain ⟨p, y1, y2, y3, y4⟩ := hk i q e
    rw [z1] at y1
    injection y1 with y1
    injection y1 with y1
    rw [y1]; exact ⟨y2, y3⟩
  · rw [List.nodup_iff_pairwise_ne, List.pairwise_iff_getElem]
    intro i j hi hj hij e
    rw [List.length_map, kl] at hi hj
    have ei := List.getElem?_eq_getElem hi
    have ej := List.getElem?_eq_getElem hj
    obtain ⟨p, z1, _⟩ := hk i _ ei
    obtain ⟨q, y1, _⟩ := hk j _ ej
    have e1 : (List.zipWith (fun y (q : Addr × List Int) => (aOf y, q.2)) ys ks)[i]? = some (p, ks[i].2) := by rw [kz, ei, z1]; rfl
    have e2 : (List.zipWith (fun y (q : Addr × List Int) => (aOf y, q.2)) ys ks)[j]? = some (q, ks[j].2) := by rw [kz, ej, y1]; rfl
    have f1 := (List.getElem?_eq_some_iff.mp e1).2
    have f2 := (List.getElem?_eq_some_iff.mp e2).2
    rw [List.getElem_map, List.getElem_map, f1, f2] at e
    have e : p = q := e
    subst e
    have := h6 i j p z1 y1 ⟨_, it i _ ei⟩ ⟨_, it j _ ej⟩
    omega
theorem signs_copyI {H H' : Hp} {s : List (Option Int)} {v : V} (h : CopyAt H (oItems s) v H') : ∃ D, v = .ref D ∧ H D = none ∧ H' D = some (.lst (s.map oV)) := by
  obtain ⟨D, h1, h2, h3⟩ := copy_flat h
  refine ⟨D, h1, h2, ?_⟩
  rw [h3, List.map_map]
  rfl
theorem sItemsI_v (ks : List (Addr × List Int)) : (sItemsI ks).map itV = ks.map fun q => V.ref q.1 := by
  unfold sItemsI; rw [List.map_map]; rfl
theorem oItems_v (s : List (Option Int)) : (oItems s).map itV = s.map oV := by
  unfold oItems; rw [List.map_map, List.map_map]; rfl
theorem ok_Turned_hand (T : Txt K mg ad) : C8.Mak P w K mg base 2 "Turned" ad.Turned (sp_Turned_hand K ad.Turned) [] := by
  have c_copied : C8.Cal P w K mg base 1 "copied" (sp_copied K) [] := ok_copied T
  refine mak_of T.mk_Turned sc_Turned_init (fun _ _ _ _ _ _ us hl => match us, hl with | [_, _, _], _ => rfl) (fun vs H Q E h => ?_) (fun f cdv A outer st H vs Q E hr h => ?_)
  · obtain ⟨x, dx, a, b, s, ks, rfl, _⟩ := h; rfl
  · obtain ⟨x, dx, a, b, s, ks, rfl, hx, ha, hb, hbs, hs, hks, hq, k⟩ := h
    refine ⟨_, (pss_cons (ps_fld (pv 0) (C8.pe_c c_copied hr (by decide) rfl (pa_cons (pv 1) pa_nil)) rfl)
  (pss_one (ps_fld (pv 0) (C8.pe_c c_copied hr (by decide) rfl (pa_cons (pv 2) pa_nil)) rfl))), ?_⟩
    have hxn : H x ≠ none := by rw [hx]; simp
    refine s_fldG (D := { nx := _, rt := _, .. }) rfl hx T.cl_Turned T.no_Turned_signs (by decide) (evp_call (Post := CopyAt H (oItems s)) (ea_cons (ev_var rfl) ea_nil) fun H1 e Q q E => ⟨_, rfl, .inr ⟨a, oItems s, rfl, by rw [oItems_v]; exact ex_l e ha, by unfold oItems; rw [List.length_map, List.length_map]; exact hs, fun y hy => ?_, fun v H2 e2 p => q v H2 e2 (p.back e)⟩⟩) fun u H1 e hu => ?_
    · unfold oItems at hy
      rw [List.map_map] at hy
      obtain ⟨o, _, rfl⟩ := List.mem_map.mp hy
      exact ⟨da_o o, by cases o <;> rfl⟩
    · have keep : ∀ c o, c ≠ x → H c = some o → (upd H1 x (.ins ad.Turned dx (putF "signs" u []))) c = some o := fun c o n q => by rw [upd_ne n]; exact e _ _ q
      have keepL : ∀ c xs, SqL K H c xs → SqL K (upd H1 x (.ins ad.Turned dx (putF "signs" u []))) c xs := fun c xs q => by
        rcases q with (q | ⟨o, q⟩) | q
        · exact .inl (.inl (keep _ _ (fun z => by rw [z, hx] at q; cases q) q))
        · exact .inl (.inr ⟨o, keep _ _ (fun z => by rw [z, hx] at q; cases q) q⟩)
        · exact .inr q
      have hb1 := keepL _ _ hb
      have hbs1 : ∀ q ∈ ks, SqL K (upd H1 x (.ins ad.Turned dx (putF "signs" u []))) q.1 (q.2.map V.int) := fun q hm => keepL _ _ (hbs q hm)
      have hu1 := hu.put (o := .ins ad.Turned dx (putF "signs" u [])) hxn
      have hx1 : (upd H1 x (.ins ad.Turned dx (putF "signs" u []))) x = some (.ins ad.Turned dx (putF "signs" u [])) := upd_same
      have none_of : ∀ c, (upd H1 x (.ins ad.Turned dx (putF "signs" u []))) c = none → H c = none := fun c hc => by
        cases q : H c with
        | none => rfl
        | some o =>
          by_cases n : c = x
          · rw [n, upd_same] at hc; cases hc
          · rw [keep c o n q] at hc; cases hc
      generalize upd H1 x (.ins ad.Turned dx (putF "signs" u [])) = H2 at keep keepL hb1 hbs1 hu1 hx1 none_of
      refine s_fldG rfl hx1 T.cl_Turned T.no_Turned_sets (by show 1 < 1000; decide) (evp_call (Post := CopyAt H2 (sItemsI ks)) (ea_cons (ev_var rfl) ea_nil) fun H3 e3 Q q E => ⟨_, rfl, .inr ⟨b, sItemsI ks, rfl, by rw [sItemsI_v]; exact ex_l e3 hb1, by unfold sItemsI; rw [List.length_map]; exact hks, fun y hy => ?it, fun v H4 e4 p => q v H4 e4 (p.back e3)⟩⟩) fun g H3 e3 hg => ?fin
      case it =>
        unfold sItemsI at hy
        obtain ⟨q, hm, rfl⟩ := List.mem_map.mp hy
        exact ⟨ex_l e3 (hbs1 q hm), by rw [List.length_map]; exact hq q hm⟩
      case fin =>
        obtain ⟨fa, rfl, fn, fl⟩ := signs_copyI hu1
        obtain ⟨ga, ks', rfl, gn, gl, same, kn, nd⟩ := sets_copyI hg
        have f3 := e3 _ _ fl
        have fx : fa ≠ x := fun z => by rw [z, hx] at fn; cases fn
        have gx : ga ≠ x := fun z => by rw [z, hx1] at gn; cases gn
        have kx : ∀ q ∈ ks', q.1 ≠ x := fun q hq z => by have := (kn q hq).2; rw [z, hx1] at this; cases this
        refine k _ fa ga ks' ⟨fun c o n q => by rw [upd_ne n]; exact e3 _ _ (keep c o n q), upd_same, fn, by rw [upd_ne fx]; exact f3, none_of _ gn, ⟨by rw [upd_ne gx]; exact gl.lst, fun q hq => by rw [upd_ne (kx q hq)]; exact gl.at_ q hq⟩, same, fun q hq => none_of _ (kn q hq).2, ?_⟩
        rw [List.nodup_cons, List.nodup_cons]
        refine ⟨fun z => ?_, fun z => ?_, nd⟩
        · rcases List.mem_cons.mp z with z | z
          · rw [z, gn] at fl; cases fl
          · obtain ⟨q, hq, e⟩ := List.mem_map.mp z
            have := (kn q hq).2
            rw [e, fl] at this; cases this
        · obtain ⟨q, hq, e⟩ := List.mem_map.mp z
          exact (kn q hq).1 e

end
end Sg
namespace Sg
set_option autoImplicit false
open PySem L2 Evl Big
open PyProof.Rows (envOfC)
section
variable {P : Program} {w : World} {K : PySem.W.Frag} {mg : Str → Option Value} {base : Heap} {ad : Ads}
/-- signs by hand that stand along roads, none at home -/
def GoodSays (n h : Int) (rs : List (Int × Int)) (t : List (Option Int)) : Prop := (t.length : Int) = n ∧ ∀ (p : Nat) (i : Int), t[p]? = some (some i) → (p : Int) ≠ h ∧ ((p : Int), i) ∈ rs
theorem good_iff {n h : Int} {rs : List (Int × Int)} {t : List (Option Int)} (L : LandOk' n h rs) : signsD n h rs (.list (t.map oD)) = true ↔ GoodSays n h rs t := by
  constructor
  · intro hb
    obtain ⟨t', rfl, so⟩ := signs_nat hb
    have S := so.all
    refine ⟨by rw [List.length_map]; exact S.len, fun p i e => ?_⟩
    rw [List.getElem?_map] at e
    obtain ⟨o, e1, e2⟩ := Option.map_eq_some_iff.mp e
    cases o with
    | none => cases e2
    | some q =>
      have e3 : ((q : Nat) : Int) = i := Option.some.inj e2
      have e4 : nx t' p = some q := by unfold nx; rw [e1]; rfl
      subst e3
      refine ⟨fun z => ?_, S.along p q e4⟩
      have : p = h.toNat := by omega
      rw [this, S.home] at e4
      cases e4
  · rintro ⟨h1, h2⟩
    have h0 := L.h0
    have hn := L.hn
    have pos : ∀ (p : Nat) (i : Int), t[p]? = some (some i) → 0 ≤ i ∧ i < n := fun p i e => by
      obtain ⟨_, _, b1, b2, _⟩ := L.rd _ (h2 p i e).2
      exact ⟨b1, b2⟩
    have e : t = (t.map fun o => o.map Int.toNat).map toI := by
      rw [List.map_map]
      apply List.ext_getElem?
      intro i
      rw [List.getElem?_map]
      cases c : t[i]? with
      | none => rfl
      | some o =>
        cases o with
        | none => rfl
        | some v =>
          have := (pos i v c).1
          show some (some v) = some (some ((v.toNat : Nat) : Int))
          rw [Int.toNat_of_nonneg this]
    have get : ∀ p q, nx (t.map fun o => o.map Int.toNat) p = some q → ∃ i, t[p]? = some (some i) ∧ i.toNat = q := fun p q z => by
      unfold nx at z
      rw [List.getElem?_map] at z
      cases c : t[p]? with
      | none => rw [c] at z; cases z
      | some o =>
        rw [c] at z
        cases o with
        | none => cases z
        | some i => exact ⟨i, rfl, Option.some.inj z⟩
    rw [e]
    refine signs_nat_of (signsOk_mk (by rw [List.length_map]; exact h1) h0 hn ?_ fun p q z => ?_)
    · cases c : nx (t.map fun o => o.map Int.toNat) h.toNat with
      | none => rfl
      | some q =>
        obtain ⟨i, e1, _⟩ := get _ _ c
        exact absurd (by omega) (h2 _ i e1).1
    · obtain ⟨i, e1, e2⟩ := get p q z
      have b := pos p i e1
      have : ((q : Nat) : Int) = i := by omega
      rw [this]
      exact ⟨b.2, (h2 p i e1).2⟩
def sp_law_good (K : PySem.W.Frag) : Sp := fun vs H Q _ => ∃ (lv : V) (a : Addr) (n h : Int) (rs : List (Int × Int)) (t : List (Option Int)), vs = [lv, .ref a] ∧ LandAt K H lv n h rs ∧ LandOk' n h rs ∧ SqL K H a (t.map oV) ∧ RetV (.bl (signsD n h rs (.list (t.map oD)))) H Q
end
end Sg
namespace Sg
set_option autoImplicit false
open PySem L2 Evl Big
open PyProof.Rows (envOfC)
section
variable {P : Program} {w : World} {K : PySem.W.Frag} {mg : Str → Option Value} {base : Heap} {ad : Ads}
/-- how many unlike ones there are -/
def unlike (l : List Int) : Nat := (PyProof.Rows.firstMet (fun i => l.getD i 0) l.length).length
theorem unlike_at (l : List Int) : ∀ i, i ≤ l.length → (PyProof.Rows.firstMet (fun i => l.getD i 0) i).length ≤ i ∧ ((PyProof.Rows.firstMet (fun i => l.getD i 0) i).length = i ↔ (l.take i).Nodup) ∧ ∀ x, x ∈ PyProof.Rows.firstMet (fun i => l.getD i 0) i ↔ x ∈ l.take i
  | 0, _ => ⟨Nat.le_refl _, by simp [PyProof.Rows.firstMet], fun x => by simp [PyProof.Rows.firstMet]⟩
  | i + 1, hi => by
    have lt : i < l.length := hi
    obtain ⟨h1, h2, h3⟩ := unlike_at l i (Nat.le_of_lt lt)
    have ev : l.getD i 0 = l[i] := by rw [List.getD_eq_getElem?_getD, List.getElem?_eq_getElem lt]; rfl
    have tk : l.take (i + 1) = l.take i ++ [l[i]] := by rw [List.take_succ, List.getElem?_eq_getElem lt]; rfl
    rw [PyProof.Rows.firstMet_succ, tk]
    show ((if (PyProof.Rows.firstMet (fun i => l.getD i 0) i).any (· == l.getD i 0) then _ else _ : List Int)).length ≤ _ ∧ ((if (PyProof.Rows.firstMet (fun i => l.getD i 0) i).any (· == l.getD i 0) then _ else _ : List Int).length = _ ↔ _) ∧ ∀ x, x ∈ (if (PyProof.Rows.firstMet (fun i => l.getD i 0) i).any (· == l.getD i 0) then _ else _ : List Int) ↔ _
    have an : (PyProof.Rows.firstMet (fun i => l.getD i 0) i).any (· == l.getD i 0) = decide (l[i] ∈ l.take i) := by
      rw [Bool.eq_iff_iff, List.any_eq_true, decide_eq_true_iff, ev]
      constructor
      · rintro ⟨y, hy, e⟩
        rw [← eq_of_beq e]; exact (h3 y).mp hy
      · intro hm
        exact ⟨_, (h3 _).mpr hm, beq_self_eq_true _⟩
    rw [an]
    by_cases c : l[i] ∈ l.take i
    · rw [if_pos (decide_eq_true c)]
      refine ⟨by omega, ⟨fun e => by omega, fun nd => ?_⟩, fun x => ?_⟩
      · rw [List.nodup_append] at nd
        exact absurd rfl (nd.2.2 _ c _ (List.mem_singleton.mpr rfl))
      · rw [h3, List.mem_append, List.mem_singleton]
        exact ⟨.inl, fun z => z.elim id fun z => by rw [z]; exact c⟩
    · rw [if_neg (by rw [decide_eq_false c]; decide), List.length_append, List.length_singleton]
      refine ⟨by omega, ?_, fun x => ?_⟩
      · rw [List.nodup_append]
        constructor
        · intro e
          refine ⟨h2.mp (by omega), by simp, fun a ha b hb z => ?_⟩
          rw [List.mem_singleton] at hb
          rw [z, hb] at ha
          exact c ha
        · intro nd
          have := h2.mpr nd.1
          omega
      · rw [List.mem_append, List.mem_append, h3, List.mem_singleton, List.mem_singleton, ev]
theorem unlike_lt (l : List Int) : decide (unlike l < l.length) = !decide l.Nodup := by
  obtain ⟨h1, h2, _⟩ := unlike_at l l.length (Nat.le_refl _)
  rw [List.take_length] at h2
  unfold unlike
  by_cases c : l.Nodup
  · rw [decide_eq_true c, decide_eq_false (by rw [h2.mpr c]; omega)]; rfl
  · rw [decide_eq_false c, decide_eq_true]
    · rfl
    · have : ¬ _ = l.length := fun z => c (h2.mp z)
      omega
/-- len(set(xs)), numbers -/
def tLenSet (K : PySem.W.Frag) (ta : TE) : TE := fun σ H Q => ta σ H fun x H1 => ∃ (a : Addr) (l : List Int), x = .ref a ∧ SqL K H1 a (l.map V.int) ∧ l.length ≤ 4000 ∧ Q (.int (unlike l : Nat)) H1
theorem ints_of : ∀ {l : List Int} {us : List Value}, Vals (l.map V.int) us → PyProof.Rows.IntsAre us l
  | [], _, .nil => .nil
  | m :: l, _, .cons r t => by
    obtain ⟨tok, rfl⟩ := r
    exact .cons m tok (ints_of t)
section
open PySem.Spec PyProof.Rows
theorem k_lenSet {X : Cx} (K : PySem.W.Frag) {a : Expr} {ta : TE} {p p2 q pos : Pos} (hg : Gl X "len") (hm : X.mg "len" = none) (hg2 : Gl X "set") (hm2 : X.mg "set" = none) (ha : PE X a ta) (hc : X.calm = true := by rfl) (na : starEach [a] X.env = (false, eval a X.env) :: starEach [] X.env := by rfl) (hK : X.K = K := by rfl) :
    PE X (.Call (.Name "len" p) [.Call (.Name "set" p2) [a] [] q] [] pos) (tLenSet K ta) := by
  subst hK
  refine ⟨fun pins s σ H Q I h => Call_ (ld_blt I hg hm boot_len (callWith_builtin1 (args_cons ?_ rfl) rfl rfl))⟩
  refine Call_ (ld_blt I hg2 hm2 boot_set (callWith_type1 (args_cons (thn (ha.run pins s σ H _ I h) ?_) na) na rfl))
  rintro v s1 ⟨x, H1, J, rx, b, l, rfl, hl, few, k⟩
  refine args_nil ?_
  cases rx
  obtain ⟨us, ru, at_, _⟩ := J.list hl
  have sz : us.toArray.size = l.length := by rw [List.size_toArray, ← ru.length, List.length_map]
  have isI : IntsAre us.toArray.toList l := by simpa using ints_of ru
  refine call_set_list (J.ok.hd hc) at_.isList isI (by rw [sz]; unfold scanBound; omega) fun h2 tk made old => args_nil ?_
  rw [sz] at made
  obtain ⟨ob, es, ep, tb, g1, g2, g3, _, _, _, g4, g5⟩ := made
  have J2 : Inv X pins σ H1 { s1 with heap := h2, toks := tk } := J.kept fun c o e => old c o (Heap.lt_size e) e
  have small := (unlike_at l l.length (Nat.le_refl _)).1
  exact call_len_set g1 g2 g3 g4 (by rw [g5]; omega) ⟨.int (unlike l : Nat), H1, J2.tok _, ⟨_, by rw [g5]; rfl⟩, k⟩
end
theorem ev_lenSet {σ : L2.St} {H : Hp} {te : TE} {a : Addr} {l : List Int} (h : Ev te σ H (.ref a)) (hl : SqL K H a (l.map V.int)) (few : l.length ≤ 4000) : Ev (tLenSet K te) σ H (.int (unlike l : Nat)) := fun H1 e Q q =>
  h H1 e _ fun H2 e2 => ⟨a, l, rfl, ex_l (e.trans e2) hl, few, q H2 e2⟩

end
end Sg
namespace Sg
set_option autoImplicit false
open PySem L2 Evl Big
open PyProof.Rows (envOfC)
section
variable {P : Program} {w : World} {K : PySem.W.Frag} {mg : Str → Option Value} {base : Heap} {ad : Ads}
theorem mem_ints {l : List Int} {x : Int} : PyData.int x ∈ l.map PyData.int ↔ x ∈ l := by
  rw [List.mem_map]
  constructor
  · rintro ⟨y, hy, e⟩
    rw [← int_inj y x e]; exact hy
  · intro h; exact ⟨x, h, rfl⟩
theorem ev_inI {σ : L2.St} {H : Hp} {ta tb : TE} {x : Int} {a : Addr} {l : List Int} (h1 : Ev ta σ H (.int x)) (h2 : Ev tb σ H (.ref a)) (hl : SqL K H a (l.map V.int)) : Ev (tOp (rInD K) ta tb) σ H (.bl (decide (x ∈ l))) :=
  ev_op h1 h2 (rv_inD (.int x) (.lst hl (dp_ints l)) (Pd.int 0 _) (pd_ints l) mem_ints)
theorem ev_niI {σ : L2.St} {H : Hp} {ta tb : TE} {x : Int} {a : Addr} {l : List Int} (h1 : Ev ta σ H (.int x)) (h2 : Ev tb σ H (.ref a)) (hl : SqL K H a (l.map V.int)) : Ev (tOp (rNotInD K) ta tb) σ H (.bl (!decide (x ∈ l))) :=
  ev_op h1 h2 (rv_niD (.int x) (.lst hl (dp_ints l)) (Pd.int 0 _) (pd_ints l) mem_ints)
def outB (S : List Int) (p q : Nat) : Bool := decide ((p : Int) ∈ S) && !decide ((q : Int) ∈ S)
def sp_law_out (K : PySem.W.Frag) : Sp := fun vs H Q _ => ∃ (t a : Addr) (p q : Nat) (S : List Int), vs = [.ref t, .ref a] ∧ SqT K H t [natV p, natV q] ∧ SqL K H a (S.map V.int) ∧ RetV (.bl (outB S p q)) H Q
/-- any([not 0 <= place < many for place in some]) -/
theorem any_out {S : List Int} {n : Int} : (S.map fun p => !(decide (0 ≤ p) && decide (p < n))).any id = !decide (∀ p ∈ S, 0 ≤ p ∧ p < n) := by
  rw [List.any_map, Bool.eq_iff_iff, List.any_eq_true, Bool.not_eq_true', decide_eq_false_iff_not]
  constructor
  · rintro ⟨p, hp, e⟩ z
    have := z p hp
    simp [this.1, this.2] at e
  · intro z
    refine Classical.byContradiction fun c => z fun p hp => Classical.byContradiction fun d => c ⟨p, hp, ?_⟩
    by_cases d1 : 0 ≤ p
    · have d2 : ¬ p < n := fun y => d ⟨d1, y⟩
      simp [d1, d2]
    · simp [d1]
def sp_law_shut (K : PySem.W.Frag) : Sp := fun vs H Q _ => ∃ (lv : V) (a : Addr) (n h : Int) (rs : List (Int × Int)) (S : List Int), vs = [lv, .ref a] ∧ LandAt K H lv n h rs ∧ LandOk' n h rs ∧ SqL K H a (S.map V.int) ∧ S.length ≤ 4000 ∧ RetV (.bl (dec (ShutSays n.toNat h.toNat (rdN rs) S))) H Q
theorem ev_rangeB {σ : L2.St} {H : Hp} {tb tc : TE} {p n : Int} (h1 : Ev tb σ H (.int p)) (h2 : Ev tc σ H (.int n)) : Ev (tNotV (tChain (rI0 fun i j => .bl (decide (i ≤ j))) (rI0 fun i j => .bl (decide (i < j))) (tC (.int 0)) tb tc)) σ H (.bl (!(decide (0 ≤ p) && decide (p < n)))) :=
  ev_notV (ev_chain ev_c h1 rv_I0 (fun _ => h2) fun _ => rv_I0)
/-- told by hand: signs, sets -/
structure ByHand (K : PySem.W.Frag) (H : Hp) (oa ga : Addr) (t : List (Option Int)) (ks : List (Addr × List Int)) : Prop where
  f : SqL K H oa (t.map oV)
  g : SqL K H ga (ks.map fun q => V.ref q.1)
  gs : ∀ q ∈ ks, SqL K H q.1 (q.2.map V.int)
  few : ks.length ≤ 4000
  fews : ∀ q ∈ ks, q.2.length ≤ 4000
theorem ByHand.mono {H H' : Hp} {oa ga : Addr} {t : List (Option Int)} {ks : List (Addr × List Int)} (e : Ex H H') (h : ByHand K H oa ga t ks) : ByHand K H' oa ga t ks :=
  ⟨ex_l e h.f, ex_l e h.g, fun q hq => ex_l e (h.gs q hq), h.few, h.fews⟩
def sp_law_turned (K : PySem.W.Frag) : Sp := fun vs H Q _ => ∃ (lv : V) (sa oa ga : Addr) (n h : Int) (rs : List (Int × Int)) (s : List (Option Nat)) (t : List (Option Int)) (ks : List (Addr × List Int)), vs = [lv, .ref sa, .ref oa, .ref ga] ∧ LandAt K H lv n h rs ∧ LandOk' n h rs ∧ SqL K H sa (s.map nV) ∧ Wf n.toNat s ∧ ByHand K H oa ga t ks ∧ RetV (.bl (dec (TurnedSays n.toNat h.toNat (rdN rs) s t (ks.map (·.2))))) H Q
theorem filter_one {α : Type} {l : List α} {p : α → Bool} : (l.filter p).length ≤ 1 ↔ ∀ (i j : Nat) (x y : α), l[i]? = some x → l[j]? = some y → p x = true → p y = true → i = j := by
  induction l with
  | nil => simp
  | cons a l ih =>
    rw [List.filter_cons]
    cases c : p a with
    | false =>
      rw [if_neg (by decide), ih]
      constructor
      · intro z i j x y hi hj hx hy
        cases i with
        | zero => rw [List.getElem?_cons_zero] at hi; cases hi; rw [c] at hx; cases hx
        | succ i =>
          cases j with
          | zero => rw [List.getElem?_cons_zero] at hj; cases hj; rw [c] at hy; cases hy
          | succ j => rw [List.getElem?_cons_succ] at hi hj; exact congrArg (· + 1) (z i j x y hi hj hx hy)
      · intro z i j x y hi hj hx hy
        have := z (i + 1) (j + 1) x y (by rw [List.getElem?_cons_succ]; exact hi) (by rw [List.getElem?_cons_succ]; exact hj) hx hy
        omega
    | true =>
      rw [if_pos rfl, List.length_cons]
      constructor
      · intro z i j x y hi hj hx hy
        have nil : l.filter p = [] := List.length_eq_zero_iff.mp (by omega)
        have none : ∀ (i : Nat) x, l[i]? = some x → p x = true → False := fun i x hi hx => by
          have := List.mem_filter.mpr ⟨List.mem_of_getElem? hi, hx⟩
          rw [nil] at this; cases this
        cases i with
        | zero =>
          cases j with
          | zero => rfl
          | succ j => rw [List.getElem?_cons_succ] at hj; exact (none j y hj hy).elim
        | succ i => rw [List.getElem?_cons_succ] at hi; exact (none i x hi hx).elim
      · intro z
        have nil : l.filter p = [] := by
          rw [List.filter_eq_nil_iff]
          intro x hx hp
          obtain ⟨j, hj⟩ := List.getElem?_of_mem hx
          have := z 0 (j + 1) a x rfl (by rw [List.getElem?_cons_succ]; exact hj) c hp
          omega
        rw [nil]
        exact Nat.le_refl _
end
end Sg
namespace Sg
set_option autoImplicit false
open PySem L2 Evl Big
open PyProof.Rows (envOfC)
section
variable {P : Program} {w : World} {K : PySem.W.Frag} {mg : Str → Option Value} {base : Heap} {ad : Ads}
theorem dp_o {H : Hp} : ∀ (t : List (Option Int)), DpAll K H (t.map oV) (t.map oD)
  | [] => .nil
  | none :: l => .cons .non (dp_o l)
  | some i :: l => .cons (.int i) (dp_o l)
theorem pd_o (t : List (Option Int)) : Pd 1 (.list (t.map oD)) := .lst fun d hd => by
  obtain ⟨a, _, rfl⟩ := List.mem_map.mp hd
  cases a <;> constructor
theorem ne_os {H : Hp} {a b : Addr} {t : List (Option Int)} (h1 : SqL K H a (t.map oV)) (h2 : SqL K H b (t.map oV)) : RV (rNeD K) (.ref a) (.ref b) H (.bl false) :=
  rv_neD (K := K) (p := True) (.lst h1 (dp_o t)) (.lst h2 (dp_o t)) (pd_o t) (pd_o t) (by simp)
theorem ne_ints {H : Hp} {a b : Addr} {S : List Int} (h1 : SqL K H a (S.map V.int)) (h2 : SqL K H b (S.map V.int)) : RV (rNeD K) (.ref a) (.ref b) H (.bl false) :=
  rv_neD (K := K) (p := True) (.lst h1 (dp_ints S)) (.lst h2 (dp_ints S)) (pd_ints S) (pd_ints S) (by simp)
theorem dp_sets {H : Hp} (ks : List (Addr × List Int)) (h : ∀ q ∈ ks, SqL K H q.1 (q.2.map V.int)) : DpAll K H (ks.map fun q => V.ref q.1) ((ks.map (fun q : Addr × List Int => q.2)).map fun S => PyData.list (S.map PyData.int)) := by
  rw [List.map_map]
  exact dps_map _ _ ks fun q hq => .lst (h q hq) (dp_ints q.2)
theorem pd_sets (l : List (List Int)) : Pd 2 (.list (l.map fun S => PyData.list (S.map PyData.int))) := .lst fun d hd => by
  obtain ⟨S, _, rfl⟩ := List.mem_map.mp hd
  exact pd_ints S
theorem ne_sets {H : Hp} {a b : Addr} {ks js : List (Addr × List Int)} (e : ks.map (fun q : Addr × List Int => q.2) = js.map (fun q : Addr × List Int => q.2)) (h1 : SqL K H a (ks.map fun q => V.ref q.1)) (k1 : ∀ q ∈ ks, SqL K H q.1 (q.2.map V.int)) (h2 : SqL K H b (js.map fun q => V.ref q.1)) (k2 : ∀ q ∈ js, SqL K H q.1 (q.2.map V.int)) : RV (rNeD K) (.ref a) (.ref b) H (.bl false) :=
  rv_neD (K := K) (p := True) (.lst h1 (dp_sets ks k1)) (.lst h2 (dp_sets js k2)) (pd_sets _) (pd_sets _) (by rw [e]; simp)
/-- Turned of two lists, made by hand -/
structure HandAt (ad : Ads) (H0 H : Hp) (x fa ga : Addr) (t : List (Option Int)) (ks : List (Addr × List Int)) : Prop where
  ob : ∃ dx, H x = some (.ins ad.Turned dx (putF "sets" (.ref ga) (putF "signs" (.ref fa) [])))
  xn : H0 x = none
  fn : H0 fa = none
  fl : H fa = some (.lst (t.map oV))
  gn : H0 ga = none
  gl : SetsI H ga ks
  kn : ∀ q ∈ ks, H0 q.1 = none
theorem evp_makeH {σ : L2.St} {H : Hp} {E : XK} {ta : TA} {P : List V → Hp → Prop} {R : List (Option Int) → List (List Int) → Prop} (h : EvAP ta σ H P)
    (hs : ∀ vs H1, Ex H H1 → P vs H1 → ∃ (a b : Addr) (s : List (Option Int)) (ks : List (Addr × List Int)), vs = [.ref a, .ref b] ∧ SqL K H1 a (s.map oV) ∧ SqL K H1 b (ks.map fun q => V.ref q.1) ∧ (∀ q ∈ ks, SqL K H1 q.1 (q.2.map V.int)) ∧ s.length ≤ 40000 ∧ ks.length ≤ 40000 ∧ (∀ q ∈ ks, q.2.length ≤ 100000) ∧ R s (ks.map fun q => q.2)) :
    EvP (tMake ad.Turned (sp_Turned_hand K ad.Turned) [] E ta) σ H (fun v H' => ∃ x fa ga s ks', v = .ref x ∧ R s (ks'.map fun q => q.2) ∧ HandAt ad H H' x fa ga s ks') := fun H0 e Q q =>
  h H0 e _ fun vs H1 e1 pv x dx hx hdx hne => by
    rw [List.append_nil]
    have hx0 : H x = none := fresh_back (e.trans e1) hx
    obtain ⟨a, b, s, ks, rfl, h1, h2, h3, h4, h5, h6, h7⟩ := hs vs H1 (e.trans e1) pv
    have ex1 : Ex H1 (upd (upd H1 dx (.own x)) x (.ins ad.Turned dx [])) := made_ex (o := .ins ad.Turned dx []) (Ex.refl _) hx hdx fun b o' _ hb => hb
    have bk : ∀ c, (upd (upd H1 dx (.own x)) x (.ins ad.Turned dx [])) c = none → H c = none := fun c hc => fresh_back ((e.trans e1).trans ex1) hc
    refine ⟨x, dx, a, b, s, ks, rfl, upd_same, ex_l ex1 h1, ex_l ex1 h2, fun q hq => ex_l ex1 (h3 q hq), h4, h5, h6, fun H3 fa ga ks' N => ⟨rfl, ?_⟩⟩
    have ex3 : Ex H1 H3 := made_ex (Ex.refl _) hx hdx N.frame
    refine q _ H3 (e1.trans ex3) ⟨x, fa, ga, s, ks', rfl, ?_, ⟨dx, N.ob⟩, hx0, bk _ N.fn, N.fl, bk _ N.gn, N.gl, fun q hq => bk _ (N.kn q hq)⟩
    rw [N.same]; exact h7
theorem HandAt.hand {H0 H : Hp} {x fa ga : Addr} {t : List (Option Int)} {ks : List (Addr × List Int)} (z : HandAt ad H0 H x fa ga t ks) (hk : ks.length ≤ 40000) (hks : ∀ q ∈ ks, q.2.length ≤ 40000) : HandT K H ad.Turned x t ks fa ga := ⟨z.ob, sq_of z.fl, sq_of z.gl.lst, fun q hq => sq_of (z.gl.at_ q hq), hk, hks⟩
theorem HandAt.to {H0 H H' : Hp} {x fa ga : Addr} {t : List (Option Int)} {ks : List (Addr × List Int)} (z : HandAt ad H0 H x fa ga t ks) (e : ∀ b o, H0 b = none → H b = some o → H' b = some o) : HandAt ad H0 H' x fa ga t ks := by
  obtain ⟨dx, ob⟩ := z.ob
  exact ⟨⟨dx, e _ _ z.xn ob⟩, z.xn, z.fn, e _ _ z.fn z.fl, z.gn, ⟨e _ _ z.gn z.gl.lst, fun q hq => e _ _ (z.kn q hq) (z.gl.at_ q hq)⟩, z.kn⟩
/-- [list(some) for some in sets] -/
theorem evp_lists {σ : L2.St} {H : Hp} {j : Nat} {b : Addr} {tl : TE} {ks : List (Addr × List Int)} (h : Ev tl σ H (.ref b)) (hb : SqL K H b (ks.map fun q => V.ref q.1)) (hk : ∀ q ∈ ks, SqL K H q.1 (q.2.map V.int)) (hz : ks.length ≤ 40000) (hj : ∀ v : V, ((wipe σ [j]).set j (some v))[j]? = some (some v)) :
    EvP (tLc (iList K tl) (gName j) tYes (tCB (rListS K) (tCons (tVar j) tNil)) [j]) σ H (CopyAt H (sItemsI ks)) := fun H0 e Q q => by
  refine (el_mixLd (K := K) (j := j) (sItemsI ks) itV itE (h.mono e) (by rw [sItemsI_v]; exact ex_l e hb) (by unfold sItemsI; rw [List.length_map]; exact hz) fun x hx H2 a2 => ?_) H0 (Ex.refl _) Q fun v H2 e2 p => q v H2 e2 ?_
  · unfold sItemsI at hx
    obtain ⟨q, hq, rfl⟩ := List.mem_map.mp hx
    exact el_list (ev_var (hj _)) (ex_l (e.trans a2) (hk q hq))
  · obtain ⟨D, ys, h1, h2, h3, h4, h5, h6⟩ := p
    refine ⟨D, ys, h1, fresh_back e h2, h3, h4, fun i x y e1 e2 => ?_, fun i j p e1 e2 ⟨q1, z1⟩ ⟨q2, z2⟩ => h6 i j p e1 e2 ⟨_, _, z1, rfl⟩ ⟨_, _, z2, rfl⟩⟩
    have it := h5 i x y e1 e2
    cases x with
    | inl p => exact it
    | inr p =>
      obtain ⟨q, z1, z2, z3, z4⟩ := it
      exact ⟨q, z1, z2, fresh_back e z3, z4⟩
def sp_says03 : Sp := fun vs H Q _ => ∃ a b : Bool, vs = [.bl a, .bl b] ∧ RetV (.bl (decide (a = b))) H Q
def sp_law_put (K : PySem.W.Frag) : Sp := fun vs H Q _ => ∃ (b : Nat) (Pe : Hp → V → Prop) (r v : V) (j : Nat), vs = [r, natV j, v] ∧ Mn Pe ∧ LstV b Pe H r ∧ Pe H v ∧ b ≤ 1000 ∧ Give H (fun v H' => LstV (2 * b + 1) Pe H' v) Q
end
end Sg
namespace Sg
set_option autoImplicit false
open PySem L2 Evl Big
open PyProof.Rows (envOfC)
section
variable {P : Program} {w : World} {K : PySem.W.Frag} {mg : Str → Option Value} {base : Heap} {ad : Ads}
theorem el_plusR {σ : L2.St} {H : Hp} {ta tb : TE} {l : Addr} {xs ys : List V} (ha : EvL ta σ H xs) (hb : Ev tb σ H (.ref l)) (hl : H l = some (.lst ys)) (hz : xs.length + ys.length ≤ 100000) : EvL (tOp rCat ta tb) σ H (xs ++ ys) := fun H1 e Q q =>
  ha H1 e _ fun p H2 _ e2 h2 => hb H2 (e.trans e2) _ fun H3 e3 => ⟨p, l, xs, ys, rfl, rfl, e3 _ _ h2, (e.trans (e2.trans e3)) _ _ hl, sz_of hz, fun r hr => q r _ (fresh_back (e2.trans e3) hr) ((e2.trans e3).trans (Ex.new hr)) upd_same⟩
def sp_turned03 (K : PySem.W.Frag) : Sp := fun vs H Q _ => ∃ (lv x y : V) (sa : Addr) (n h : Int) (rs : List (Int × Int)) (s : List (Option Nat)), vs = [lv, .ref sa, x, y] ∧ LandAt K H lv n h rs ∧ LandOk' n h rs ∧ SqL K H sa (s.map nV) ∧ Wf n.toNat s ∧ SignsV 1000 H x ∧ SetsV 1000 1000 H y ∧ RetV (.bl true) H Q
end
end Sg
namespace Sg
set_option autoImplicit false
open PySem L2 Evl Big
open PyProof.Rows (envOfC)
section
variable {P : Program} {w : World} {K : PySem.W.Frag} {mg : Str → Option Value} {base : Heap} {ad : Ads}
theorem init_places {H H1 : Hp} {C : Addr} {f : Str} {a : Addr} {c : List Int} (e : Ex H H1) (hS : SqL K H1 a (c.map V.int)) (hc : c.length ≤ 40000) : SpInit1 (sp_Round_init K C f) C f [.ref a] H1 (fun fv H3 => ∃ D, fv = .ref D ∧ H D = none ∧ H3 D = some (.lst (c.map V.int))) :=
  fun H2 e2 x dx Q E hx0 hx k => ⟨x, dx, a, (c.map fun i => (V.int i, PyData.int i)).map .inl, rfl, hx, by
    rw [show ((c.map fun i => (V.int i, PyData.int i)).map Sum.inl).map itV = c.map V.int by rw [List.map_map, List.map_map]; rfl]; exact ex_l e2 hS, by rw [List.length_map, List.length_map]; exact hc, (fun y hy => by
    rw [List.map_map] at hy
    obtain ⟨a, _, rfl⟩ := List.mem_map.mp hy
    exact ⟨.int _, rfl⟩), fun H3 fv g1 g2 g3 => by
    obtain ⟨D, z1, z2, z3⟩ := copy_flat g3
    rw [List.map_map] at z3
    exact k H3 fv g1 g2 ⟨D, z1, fresh_back (e.trans e2) z2, z3⟩⟩
def sp_shut03 (K : PySem.W.Frag) : Sp := fun vs H Q _ => ∃ (lv sv x : V) (n h : Int) (rs : List (Int × Int)), vs = [lv, sv, x] ∧ LandAt K H lv n h rs ∧ LandOk' n h rs ∧ IntsV 1000 H x ∧ RetV (.bl true) H Q
end
end Sg
namespace Sg
set_option autoImplicit false
open PySem L2 Evl Big
open PyProof.Rows (envOfC)
section
variable {P : Program} {w : World} {K : PySem.W.Frag} {mg : Str → Option Value} {base : Heap} {ad : Ads}
theorem LstV.up2 {b c b' c' : Nat} {H : Hp} {v : V} (hb : b ≤ b') (hc : c ≤ c') (h : SetsV b c H v) : SetsV b' c' H v := by
  obtain ⟨a, xs, h1, h2, h3, h4⟩ := h
  exact ⟨a, xs, h1, h2, by omega, fun x hx => (h4 x hx).up hc⟩
theorem mn_ints {b : Nat} : Mn (IntsV b) := LstV.mn mn_int
theorem mn_signs {b : Nat} : Mn (SignsV b) := LstV.mn mn_sign
theorem mn_sets {b c : Nat} : Mn (SetsV b c) := LstV.mn mn_ints
/-- signs and sets, side by side -/
abbrev RowV : Hp → V → Prop := PairV (SignsV 1000) (SetsV 1000 1000)
theorem mn_row : Mn RowV := PairV.mn mn_signs mn_sets
theorem EL.row {a b c : Nat} {σ : L2.St} {H : Hp} {t1 t2 : TE} (h1 : EL (SignsV a) t1 σ H) (h2 : EL (SetsV b c) t2 σ H) (ha : a ≤ 1000) (hb : b ≤ 1000) (hc : c ≤ 1000) : EL RowV (tTup (tCons t1 (tCons t2 tNil))) σ H :=
  EL.pair mn_signs mn_sets (h1.weak fun _ _ p => p.up ha) (h2.weak fun _ _ p => LstV.up2 hb hc p)
/-- a list that holds something -/
def LstN (b : Nat) (Pe : Hp → V → Prop) (H : Hp) (v : V) : Prop := ∃ a x xs, v = .ref a ∧ H a = some (.lst (x :: xs)) ∧ xs.length + 1 ≤ b ∧ ∀ y ∈ x :: xs, Pe H y
theorem LstN.mn {b : Nat} {Pe : Hp → V → Prop} (m : Mn Pe) : Mn (LstN b Pe) := fun H H' v e ⟨a, x, xs, h1, h2, h3, h4⟩ => ⟨a, x, xs, h1, e _ _ h2, h3, fun y hy => m _ _ _ e (h4 y hy)⟩
theorem EL.lst1 {b : Nat} {Pe : Hp → V → Prop} {σ : L2.St} {H : Hp} {te : TE} {tr : TA} (m : Mn Pe) (h : EL Pe te σ H) (hr : EAll b Pe tr σ H) (hz : b + 1 ≤ 100000) : EL (LstN (b + 1) Pe) (tLst (tCons te tr)) σ H := fun H1 e Q q =>
  h H1 e _ fun v H2 e2 p => hr H2 (e.trans e2) _ fun vs H3 e3 ⟨hl, hp⟩ => ⟨sz_of (by rw [List.length_cons]; omega), fun r hn => q _ _ ((e2.trans e3).trans (Ex.new hn)) ⟨r, v, vs, rfl, upd_same, by omega, fun y hy => m _ _ _ (Ex.new hn) ((List.mem_cons.mp hy).elim (fun z => by rw [z]; exact m _ _ _ e3 p) (hp y))⟩⟩
theorem evp_plusN {b c : Nat} {Pe : Hp → V → Prop} {σ : L2.St} {H : Hp} {ta tb : TE} (m : Mn Pe) (h1 : EL (LstN b Pe) ta σ H) (h2 : EL (LstV c Pe) tb σ H) (hz : b + c ≤ 100000) : EvP (tOp rCat ta tb) σ H (fun v H' => ∃ a x xs, v = .ref a ∧ H a = none ∧ H' a = some (.lst (x :: xs)) ∧ xs.length + 1 ≤ b + c ∧ ∀ y ∈ x :: xs, Pe H' y) := fun H1 e Q q =>
  h1 H1 e _ fun v H2 e2 ⟨a, x, xs, ev, hx, hb, hp⟩ => h2 H2 (e.trans e2) _ fun w H3 e3 ⟨a', ys, ew, hy, hc, hq⟩ => ⟨a, a', x :: xs, ys, ev, ew, e3 _ _ hx, hy, sz_of (by rw [List.length_cons]; omega), fun p hn => q _ _ ((e2.trans e3).trans (Ex.new hn)) ⟨p, x, xs ++ ys, rfl, fresh_back ((e.trans e2).trans e3) hn, upd_same, by rw [List.length_append]; omega, fun y hy' => (List.mem_append.mp (show y ∈ (x :: xs) ++ ys from hy')).elim (fun h => m _ _ _ (e3.trans (Ex.new hn)) (hp y h)) fun h => m _ _ _ (Ex.new hn) (hq y h)⟩⟩
theorem EL.put {b : Nat} {Pe : Hp → V → Prop} {σ : L2.St} {H : Hp} {t1 t2 t3 : TE} {r : V} {j : Nat} (m : Mn Pe) (h1 : Ev t1 σ H r) (p1 : LstV b Pe H r) (h2 : Ev t2 σ H (natV j)) (h3 : EL Pe t3 σ H) (hb : b ≤ 1000) : EL (LstV (2 * b + 1) Pe) (tCall (sp_law_put K) [] C8.E0 (tCons t1 (tCons t2 (tCons t3 tNil)))) σ H :=
  evp_callA (eap_v h1 (eap_v h2 (eap_p h3 (fun v H1 H2 e p => m _ _ _ e p) eap_nil))) fun vs H1 e ⟨r1, e1, r2, e2, x, r3, e3, px, e4⟩ Q q E => by
    subst e4 e3 e2 e1
    exact ⟨b, Pe, r, x, j, rfl, m, LstV.mn m _ _ _ e p1, px, hb, q⟩
/-- xs.append(..), xs.extend(..) of what is told alone -/
theorem s_appE {Pe : Hp → V → Prop} {σ : L2.St} {H : Hp} {D : Ends} {ta te : TE} {l : Addr} {xs : List V} (hl : H l = some (.lst xs)) (ha : Ev ta σ H (.ref l)) (h : EL Pe te σ H) (hz : xs.length < 100000) (k : ∀ v H2, Ex H H2 → Pe H2 v → D.nx σ (upd H2 l (.lst (xs ++ [v])))) : tDrop (tBM K "list" rAppend ta (tCons te tNil)) D σ H := ha H (Ex.refl H) _ fun H1 e1 =>
  ⟨Or.inl ⟨rfl, xs, sq_of (e1 l _ hl)⟩, h H1 e1 _ fun v H2 e2 p => ⟨l, xs, v, rfl, rfl, (e1.trans e2) _ _ hl, sz_lt hz, k v H2 (e1.trans e2) p⟩⟩
theorem s_extE {b : Nat} {Pe : Hp → V → Prop} {σ : L2.St} {H : Hp} {D : Ends} {ta te : TE} {l : Addr} {xs : List V} (hl : H l = some (.lst xs)) (ha : Ev ta σ H (.ref l)) (h : EL (LstV b Pe) te σ H) (hz : xs.length + b ≤ 100000) (k : ∀ ys H2, Ex H H2 → ys.length ≤ b → (∀ y ∈ ys, Pe H2 y) → D.nx σ (upd H2 l (.lst (xs ++ ys)))) : tDrop (tBM K "list" rExtend ta (tCons te tNil)) D σ H := ha H (Ex.refl H) _ fun H1 e1 =>
  ⟨Or.inl ⟨rfl, xs, sq_of (e1 l _ hl)⟩, h H1 e1 _ fun v H2 e2 ⟨a, ys, ev, hy, hb, hp⟩ => ⟨l, a, xs, ys, rfl, by rw [ev], (e1.trans e2) _ _ hl, hy, sz_of (by omega), k ys H2 (e1.trans e2) hb hp⟩⟩
theorem Gw.grow {Pe : Hp → V → Prop} {H0 G H' : Hp} {fa : Addr} {xs : List V} (m : Mn Pe) (f : Gw Pe H0 fa xs G H') : Gw Pe H0 fa xs (hid H' fa fa) H' ∧ Ex G (hid H' fa fa) := by
  have e := hid_of f.ex f.gf f.gf
  exact ⟨{ f with ex0 := f.ex0.trans e, gf := hid_a, ex := hid_ex, pl := fun v hv => m _ _ _ e (f.pl v hv) }, e⟩
theorem Gw.first {H0 G H' : Hp} {fa : Addr} {x : V} {xs : List V} (f : Gw RowV H0 fa (x :: xs) G H') : ∃ r ts, x = .ref r ∧ H' r = some (.tup ts) := by
  obtain ⟨r, y, z, h1, h2, _⟩ := f.pl x (List.mem_cons_self ..)
  exact ⟨r, _, h1, f.ex _ _ h2⟩
theorem Gw.rows {H0 G H' : Hp} {fa : Addr} {x : V} {xs ys : List V} (f : Gw RowV H0 fa (x :: xs) G H') (hv : ∀ v ∈ ys, RowV H' v) : ∃ G', Ex G G' ∧ Gw RowV H0 fa (x :: (xs ++ ys)) G' (upd H' fa (.lst (x :: (xs ++ ys)))) := by
  obtain ⟨r, ts, rfl, hr⟩ := f.first
  exact ⟨hid H' fa fa, hid_of f.ex f.gf f.gf, f.put mn_row fun v h => hid_row f.at_ hr (hv v h)⟩
theorem Gw.ints {H0 G H' : Hp} {b : Nat} {fa : Addr} {x v : V} {xs : List V} (f : Gw RowV H0 fa (x :: xs) G H') (h : IntsV b H' v) : IntsV b (hid H' fa fa) v := by
  obtain ⟨r, ts, rfl, hr⟩ := f.first
  exact hid_ints f.at_ h
theorem Gw.sets {H0 G H' : Hp} {b c : Nat} {fa : Addr} {x v : V} {xs : List V} (f : Gw RowV H0 fa (x :: xs) G H') (h : SetsV b c H' v) : SetsV b c (hid H' fa fa) v := by
  obtain ⟨r, ts, rfl, hr⟩ := f.first
  exact hid_sets f.at_ hr h
def sp_rows03 (K : PySem.W.Frag) : Sp := fun vs H Q _ => ∃ (lv sv ov gv : V) (n h W : Int) (rs : List (Int × Int)), vs = [lv, sv, ov, gv, .int W] ∧ LandAt K H lv n h rs ∧ 1 ≤ n ∧ n ≤ 40 ∧ 0 ≤ W ∧ SignsV 100 H sv ∧ SignsV 100 H ov ∧ SetsV 100 100 H gv ∧ Give H (fun v H' => LstV 40000 RowV H' v) Q
end
end Sg
namespace Sg
set_option autoImplicit false
open PySem L2 Evl Big
open PyProof.Rows (envOfC)
section
variable {P : Program} {w : World} {K : PySem.W.Frag} {mg : Str → Option Value} {base : Heap} {ad : Ads}
/-- o.m(..), o new or not, things handed new or not -/
theorem ev_methPA {σ : L2.St} {H : Hp} {C : Addr} {m : Str} {sp : Sp} {E : XK} {te : TE} {ta : TA} {z : V} {Post : V → Hp → Prop} (h : EvP te σ H Post) (hp : ∀ v H1, Ex H H1 → Post v H1 → ∃ (x dx : Addr) (fs : List (Str × V)) (P : List V → Hp → Prop), v = .ref x ∧ H1 x = some (.ins C dx fs) ∧ fs.lookup m = none ∧ EvAP ta σ H1 P ∧ ∀ vs H2, Ex H1 H2 → P vs H2 → SpV sp (.ref x :: vs) H2 z) : Ev (tMeth C m sp [] E te ta) σ H z := fun H1 e Q q =>
  h H1 e _ fun v H2 e2 pv => by
    obtain ⟨x, dx, fs, P, rfl, hx, hl, ha, hs⟩ := hp v H2 (e.trans e2) pv
    refine ⟨x, dx, fs, rfl, hx, hl, ha H2 (Ex.refl _) _ fun vs H3 e3 p => ?_⟩
    rw [List.append_nil]
    exact hs vs H3 e3 p H3 (Ex.refl _) Q (fun H4 e4 => q H4 ((e2.trans e3).trans e4)) E
/-- lists of numbers written out -/
def SetsL (ls : List (List Int)) (vs : List V) (H : Hp) : Prop := ∃ ks : List (Addr × List Int), vs = ks.map (fun q => V.ref q.1) ∧ (∀ q ∈ ks, H q.1 = some (.lst (q.2.map V.int))) ∧ ks.map (fun q => q.2) = ls
theorem SetsL.mono {ls : List (List Int)} {vs : List V} {H H' : Hp} (e : Ex H H') (h : SetsL ls vs H) : SetsL ls vs H' := by
  obtain ⟨ks, h1, h2, h3⟩ := h
  exact ⟨ks, h1, fun q hq => e _ _ (h2 q hq), h3⟩
theorem SetsL.len {ls : List (List Int)} {vs : List V} {H : Hp} (h : SetsL ls vs H) : vs.length = ls.length := by
  obtain ⟨ks, h1, h2, h3⟩ := h
  rw [h1, ← h3, List.length_map, List.length_map]
theorem esl_nil {σ : L2.St} {H : Hp} : EvAP tNil σ H (SetsL []) := fun H1 _ _ q => q [] H1 (Ex.refl _) ⟨[], rfl, (fun _ h => by cases h), rfl⟩
theorem esl_cons {σ : L2.St} {H : Hp} {te : TE} {tr : TA} {S : List Int} {ls : List (List Int)} (h : EvL te σ H (S.map V.int)) (hr : EvAP tr σ H (SetsL ls)) : EvAP (tCons te tr) σ H (SetsL (S :: ls)) := fun H1 e Q q =>
  h H1 e _ fun p H2 _ e2 h2 => hr H2 (e.trans e2) _ fun vs H3 e3 ⟨ks, k1, k2, k3⟩ => q _ _ (e2.trans e3) ⟨(p, S) :: ks, by rw [k1]; rfl, fun x hx => (List.mem_cons.mp hx).elim (fun z => by rw [z]; exact e3 _ _ h2) (k2 x), by rw [List.map_cons, k3]⟩
theorem evp_T {σ : L2.St} {H : Hp} {tl ts : TA} {xs : List V} {t : List (Option Int)} {ls : List (List Int)} (hs : EvA tl σ H xs) (ex : xs = t.map oV) (hl : EvAP ts σ H (SetsL ls)) (tz : t.length ≤ 100) (lz : ls.length ≤ 100) (lzs : ∀ S ∈ ls, S.length ≤ 100) : EvP (tMake ad.Turned (sp_Turned_hand K ad.Turned) [] C8.E0 (tCons (tLst tl) (tCons (tLst ts) tNil))) σ H (fun v H' => ∃ x fa ga js, v = .ref x ∧ js.map (fun q => q.2) = ls ∧ HandAt ad H H' x fa ga t js) := by
  refine (evp_makeH (ad := ad) (K := K) (R := fun s l => s = t ∧ l = ls) (eap_l (el_lst hs (by rw [ex, List.length_map]; omega)) (eap_p (evp_lstA hl (fun vs H1 H2 e p => p.mono e) (fun vs H1 p => by rw [p.len]; omega)) (fun v H1 H2 e ⟨r, vs, z1, z2, z3, z4⟩ => ⟨r, vs, z1, z2, e _ _ z3, z4.mono e⟩) eap_nil)) fun vs H1 e ⟨p, r1, e1, p0, hp, x, r2, e2, ⟨b, vs2, e3, _, hb, ⟨ks, k1, k2, k3⟩⟩, e4⟩ => ?_).weak fun v H1 _ ⟨x, fa, ga, s, js, e1, ⟨e2, e3⟩, hH⟩ => ⟨x, fa, ga, js, e1, e3, e2 ▸ hH⟩
  subst e4 e3 e2 e1 k1
  refine ⟨p, b, t, ks, rfl, by rw [← ex]; exact sq_of hp, sq_of hb, fun q hq => sq_of (k2 q hq), by omega, ?_, fun q hq => ?_, rfl, k3⟩
  · have := congrArg List.length k3
    rw [List.length_map] at this
    omega
  · have := lzs q.2 (by rw [← k3]; exact List.mem_map.mpr ⟨q, hq, rfl⟩)
    omega
theorem ev_Tshows {σ : L2.St} {H : Hp} {tl ts t2 : TA} {tv : TE} {xs ys : List V} {t : List (Option Int)} {ls : List (List Int)} {lv : V} {n h : Int} {rs : List (Int × Int)} {s : List (Option Nat)} (hs : EvA tl σ H xs) (ex : xs = t.map oV) (hl : EvAP ts σ H (SetsL ls)) (tz : t.length ≤ 100) (lz : ls.length ≤ 100) (lzs : ∀ S ∈ ls, S.length ≤ 100)
    (h1 : Ev tv σ H lv) (hL : LandAt K H lv n h rs) (L : LandOk' n h rs) (h2 : EvA t2 σ H ys) (ey : ys = s.map nV) (sz : s.length ≤ 100) (w : Wf n.toNat s) :
    Ev (tMeth ad.Turned "shows" (sp_Turned_shows K ad.Turned) [] C8.E0 (tMake ad.Turned (sp_Turned_hand K ad.Turned) [] C8.E0 (tCons (tLst tl) (tCons (tLst ts) tNil))) (tCons tv (tCons (tLst t2) tNil))) σ H (.bl (dec (TurnedSays n.toNat h.toNat (rdN rs) s t ls))) :=
  ev_methPA (evp_T (ad := ad) hs ex hl tz lz lzs) fun v H1 e ⟨x, fa, ga, js, e1, e2, hH⟩ => by
    obtain ⟨dx, ob⟩ := hH.ob
    refine ⟨x, dx, _, _, e1, ob, by rw [lookup_putF, if_neg (show ¬ ("shows" : Str) = "sets" by decide), lookup_putF, if_neg (show ¬ ("shows" : Str) = "signs" by decide)]; rfl, eap_v (h1.mono e) (eap_l (el_lst (h2.mono e) (by rw [ey, List.length_map]; omega)) eap_nil), fun vs H2 a2 ⟨r1, z1, p, r2, z2, p0, hp, z3⟩ H3 a3 Q q E => ?_⟩
    subst z3 z2 z1
    have jl : js.length ≤ 100 := by have := congrArg List.length e2; rw [List.length_map] at this; omega
    have hand : HandT K H1 ad.Turned x t js fa ga := hH.hand (by omega) fun q hq => by have := lzs q.2 (by rw [← e2]; exact List.mem_map.mpr ⟨q, hq, rfl⟩); omega
    exact ⟨x, fa, ga, p, lv, n, h, rs, s, t, js, rfl, hand.mono (a2.trans a3), hL.mono ((e.trans a2).trans a3), L, by rw [← ey]; exact sq_of (a3 _ _ hp), w, by rw [e2]; exact fun H4 a4 => q H4 a4⟩
theorem ev_Sshows {σ : L2.St} {H : Hp} {tl t2 : TA} {tv : TE} {xs ys : List V} {S : List Int} {n h : Int} {rs : List (Int × Int)} (hs : EvA tl σ H xs) (ex : xs = S.map V.int) (sz : S.length ≤ 100) (h1 : EvP tv σ H (fun v H' => LandAt K H' v n h rs)) (L : LandOk' n h rs) (h2 : EvA t2 σ H ys) (yz : ys.length ≤ 100) :
    Ev (tMeth ad.Shut "shows" (sp_Shut_shows K ad.Shut) [] C8.E0 (tMake ad.Shut (sp_Round_init K ad.Shut "places") [] C8.E0 (tCons (tLst tl) tNil)) (tCons tv (tCons (tLst t2) tNil))) σ H (.bl (dec (ShutSays n.toNat h.toNat (rdN rs) S))) :=
  ev_methPA (evp_makeA (f := "places") (Post := fun fv H' => ∃ D, fv = .ref D ∧ H' D = some (.lst (S.map V.int))) (eap_l (el_lst hs (by rw [ex, List.length_map]; omega)) eap_nil) fun vs H1 a1 ⟨p, r, e2, p0, hp, e3⟩ => by
    subst e2 e3
    intro H2 e2 x dx Q E hx0 hx k
    exact init_places (Ex.refl H1) (by rw [← ex]; exact sq_of hp) (by omega) H2 e2 x dx Q E hx0 hx fun H3 fv g1 g2 ⟨D, z1, _, z3⟩ => k H3 fv g1 g2 ⟨D, z1, z3⟩) fun v H1 e ⟨x, dx, fv, e2, hx0, hx, D, e3, hD⟩ => by
    subst e3
    refine ⟨x, dx, _, _, e2, hx, no1 _ (show ¬ ("shows" : Str) = "places" by decide), eap_p (h1.mono e) (fun v H1 H2 e p => p.mono e) (eap_l (el_lst (h2.mono e) (by omega)) eap_nil), fun vs H2 a2 ⟨lv, r1, z1, hL, p, r2, z2, p0, hp, z3⟩ H3 a3 Q q E => ?_⟩
    subst z3 z2 z1
    exact ⟨x, dx, D, lv, .ref p, n, h, rs, S, rfl, (a2.trans a3) _ _ hx, sq_of ((a2.trans a3) _ _ hD), hL.mono a3, L, fun H4 a4 => q H4 a4⟩
/-- the land of the last rows -/
def land3 : List (Int × Int) := [(1, 0), (1, 2), (2, 1)]
theorem land3_ok : LandOk 3 0 land3 := by rfl
theorem land2_ok : LandOk 2 0 [] := by rfl
theorem wf3 {s : List (Option Nat)} (hl : s.length = 3) (h : ∀ p q, nx s p = some q → q < 3) : Wf 3 s := ⟨hl, h⟩
theorem nx3 {a b c : Option Nat} {p q : Nat} (h : nx [a, b, c] p = some q) : (p = 0 ∧ a = some q) ∨ (p = 1 ∧ b = some q) ∨ (p = 2 ∧ c = some q) := by
  match p, h with
  | 0, h => exact .inl ⟨rfl, h⟩
  | 1, h => exact .inr (.inl ⟨rfl, h⟩)
  | 2, h => exact .inr (.inr ⟨rfl, h⟩)
  | p + 3, h => cases h
theorem come3 : ∀ p, p < 3 → Reach [none, some 0, some 1] 0 p := fun p hp => by
  match p, hp with
  | 0, _ => exact reach_self _ _
  | 1, _ => exact reach_next (q := 0) rfl (reach_self _ _)
  | 2, _ => exact reach_next (q := 1) rfl (reach_next (q := 0) rfl (reach_self _ _))
  | p + 3, hp => omega
theorem saysA : TurnedSays 3 0 (rdN land3) [none, some 2, some 1] [none, some 0, some 1] [[1, 2]] where
  signs := ⟨[none, some 0, some 1], rfl, rfl, rfl, fun p q e => by
    rcases nx3 e with ⟨rfl, e⟩ | ⟨rfl, e⟩ | ⟨rfl, e⟩
    · cases e
    · cases e; decide
    · cases e; decide, come3, rfl⟩
  kept := fun S hS => by
    rw [List.mem_singleton.mp hS]
    exact ⟨by decide, by decide, by decide, by decide, fun p hp q e => by
      rcases nx3 e with ⟨_, e⟩ | ⟨_, e⟩ | ⟨_, e⟩
      · cases e
      · cases e; decide
      · cases e; decide⟩
  two := fun i j S T p q h1 h2 _ _ _ _ _ => by
    have a := (List.getElem?_eq_some_iff.mp h1).1
    have b := (List.getElem?_eq_some_iff.mp h2).1
    have a : i < 1 := a
    have b : j < 1 := b
    omega
theorem saysB : TurnedSays 3 0 (rdN land3) [none, none, none] [none, some 0, some 1] [[1], [2]] where
  signs := ⟨[none, some 0, some 1], rfl, rfl, rfl, fun p q e => by
    rcases nx3 e with ⟨rfl, e⟩ | ⟨rfl, e⟩ | ⟨rfl, e⟩
    · cases e
    · cases e; decide
    · cases e; decide, come3, rfl⟩
  kept := fun S hS => by
    have no : ∀ p q, nx [none, none, none] p = some q → False := fun p q e => by
      rcases nx3 e with ⟨_, e⟩ | ⟨_, e⟩ | ⟨_, e⟩ <;> cases e
    simp only [List.mem_cons, List.not_mem_nil, or_false] at hS
    rcases hS with rfl | rfl
    · exact ⟨by decide, by decide, by decide, by decide, fun p hp q e => (no _ _ e).elim⟩
    · exact ⟨by decide, by decide, by decide, by decide, fun p hp q e => (no _ _ e).elim⟩
  two := fun i j S T p q h1 h2 _ c1 _ d1 _ => by
    have st : ∀ (i : Nat) (S : List Int), [[(1 : Int)], [2]][i]? = some S → (p : Int) ∈ S → p = i + 1 := fun i S h c => by
      match i, h with
      | 0, h => cases h; have := List.mem_singleton.mp c; omega
      | 1, h => cases h; have := List.mem_singleton.mp c; omega
      | i + 2, h => cases h
    have a := st i S h1 c1
    have b := st j T h2 d1
    omega
theorem shutA : ¬ ShutSays 3 0 (rdN land3) [1, 2] := fun z => by
  have := z.out 1 0 (by decide) (by decide)
  revert this
  decide
theorem shutB : ShutSays 2 0 (rdN []) [1] := ⟨by decide, by decide, by decide, fun p q m => nomatch m⟩

end
end Sg
namespace Sg
set_option autoImplicit false
open PySem L2 Evl Big
open PyProof.Rows (envOfC)
section
variable {P : Program} {w : World} {K : PySem.W.Frag} {mg : Str → Option Value} {base : Heap} {ad : Ads}
/-- cases written out: pairs of a thing and a truth -/
def Cas {α : Type} (P : Addr → α → Hp → Prop) (L : List (α × Bool)) (vs : List V) (H : Hp) : Prop := ∃ cs : List (Addr × Addr × α × Bool), vs = cs.map (fun c => V.ref c.1) ∧ cs.map (fun c => c.2.2) = L ∧ ∀ c ∈ cs, H c.1 = some (.tup [.ref c.2.1, .bl c.2.2.2]) ∧ P c.2.1 c.2.2.1 H
section
variable {α : Type} {P : Addr → α → Hp → Prop} {L L' : List (α × Bool)} {vs : List V} {σ : L2.St} {H : Hp}
theorem Cas.mono (mo : ∀ a x H H', Ex H H' → P a x H → P a x H') {H' : Hp} (e : Ex H H') (c : Cas P L vs H) : Cas P L vs H' := by
  obtain ⟨cs, h1, h2, h3⟩ := c
  exact ⟨cs, h1, h2, fun c hc => ⟨e _ _ (h3 c hc).1, mo _ _ _ _ e (h3 c hc).2⟩⟩
theorem Cas.len (c : Cas P L vs H) : vs.length = L.length := by
  obtain ⟨cs, h1, h2, _⟩ := c
  rw [h1, ← h2, List.length_map, List.length_map]
theorem Cas.app {vs' : List V} (c : Cas P L vs H) (c' : Cas P L' vs' H) : Cas P (L ++ L') (vs ++ vs') H := by
  obtain ⟨cs, h1, h2, h3⟩ := c
  obtain ⟨cs', g1, g2, g3⟩ := c'
  exact ⟨cs ++ cs', by rw [h1, g1, List.map_append], by rw [← h2, ← g2, List.map_append], fun c hc => (List.mem_append.mp hc).elim (h3 c) (g3 c)⟩
theorem eca_nil : EvAP tNil σ H (Cas P []) := fun H1 _ _ q => q [] H1 (Ex.refl _) ⟨[], rfl, rfl, fun _ h => by cases h⟩
theorem eca_cons (mo : ∀ a x H H', Ex H H' → P a x H → P a x H') {te : TE} {tr : TA} {x : α} {b : Bool} (h : EvP te σ H (fun v H' => ∃ a, v = .ref a ∧ P a x H')) (hr : EvAP tr σ H (Cas P L)) : EvAP (tCons (tTup (tCons te (tCons (tC (.bl b)) tNil))) tr) σ H (Cas P ((x, b) :: L)) := fun H1 e Q q => by
  refine h H1 e _ fun v H2 e2 ⟨a, ev, pa⟩ => ?_
  subst ev
  refine ev_c H2 (e.trans e2) _ fun H3 e3 => ⟨sz_of (by show 2 ≤ 100000; decide), fun p hp => ?_⟩
  have e4 : Ex H3 (upd H3 p (.tup [.ref a, .bl b])) := Ex.new hp
  refine hr _ (((e.trans e2).trans e3).trans e4) _ fun vs H5 e5 ⟨cs, k1, k2, k3⟩ => q _ _ (((e2.trans e3).trans e4).trans e5) ⟨(p, a, x, b) :: cs, by rw [k1]; rfl, by rw [List.map_cons, k2], fun c hc => ?_⟩
  rcases List.mem_cons.mp hc with rfl | hc
  · exact ⟨e5 _ _ upd_same, mo _ _ _ _ ((e3.trans e4).trans e5) pa⟩
  · exact k3 c hc
theorem evp_cas (mo : ∀ a x H H', Ex H H' → P a x H → P a x H') {ta : TA} (h : EvAP ta σ H (Cas P L)) (hl : L.length ≤ 100) : EvP (tLst ta) σ H (fun v H' => ∃ r vs, v = .ref r ∧ H' r = some (.lst vs) ∧ Cas P L vs H') :=
  (evp_lstA h (fun vs H1 H2 e c => c.mono mo e) fun vs H1 c => by rw [c.len]; omega).weak fun v H1 _ ⟨r, vs, e1, _, h1, c⟩ => ⟨r, vs, e1, h1, c⟩
theorem evp_casCat (mo : ∀ a x H H', Ex H H' → P a x H → P a x H') {te : TE} {ta : TA} {r : Addr} (h0 : Ev te σ H (.ref r)) (hr : H r = some (.lst vs)) (c : Cas P L vs H) (h : EvAP ta σ H (Cas P L')) (hl : L.length + L'.length ≤ 100) : EvP (tOp rCat te (tLst ta)) σ H (fun v H' => ∃ r vs, v = .ref r ∧ H' r = some (.lst vs) ∧ Cas P (L ++ L') vs H') := fun H1 e Q q =>
  h0 H1 e _ fun H2 e2 => evp_cas mo h (by omega) H2 (e.trans e2) _ fun v H3 e3 ⟨b, vs', e4, hb, c'⟩ => ⟨r, b, vs, vs', rfl, e4, (e.trans (e2.trans e3)) _ _ hr, hb, sz_of (by rw [c.len, c'.len]; omega), fun p hp => q _ _ ((e2.trans e3).trans (Ex.new hp)) ⟨p, _, rfl, upd_same, (c.mono mo (e.trans (e2.trans (e3.trans (Ex.new hp))))).app (c'.mono mo (Ex.new hp))⟩⟩
/-- for thing, truth in cases -/
theorem q_forCas (mo : ∀ a x H H', Ex H H' → P a x H → P a x H') {D : Ends} {tl : TE} {tu tz : TS} {i1 i2 : Nat} {r : Addr} (h : Ev tl σ H (.ref r)) (hr : H r = some (.lst vs)) (c : Cas P L vs H) (S : L2.St → Prop) (h0 : S σ)
    (hs : ∀ (a : Addr) x b σ' H', (x, b) ∈ L → S σ' → Ex H H' → P a x H' → tu { D with nx := fun σ2 H2 => Ex H H2 ∧ S σ2, ct := fun σ2 H2 => Ex H H2 ∧ S σ2, bk := tz D } ((σ'.set i1 (some (.ref a))).set i2 (some (.bl b))) H') (hd : ∀ σ' H', Ex H H' → S σ' → tz D σ' H') :
    tSeq (tFor (iList K tl) (gTup K 2 (gCons (gName i1) (gCons (gName i2) gNil))) tu) tz D σ H := by
  obtain ⟨cs, h1, h2, h3⟩ := c
  refine s_forL (D := { D with nx := tz D }) h (sq_of hr) (fun i σ' H' => Ex H H' ∧ S σ') (fun H1 e => ⟨e, h0⟩) (fun i σ' H' _ p => sq_of (p.1 _ _ hr)) (fun i v σ' H' hi ⟨e, s⟩ => ?_) fun σ' H' ⟨e, s⟩ => hd σ' H' e s
  rw [h1, List.getElem?_map] at hi
  obtain ⟨q, hq, rfl⟩ := Option.map_eq_some_iff.mp hi
  have hm := List.mem_of_getElem? hq
  obtain ⟨t1, t2⟩ := h3 q hm
  exact ⟨q.1, _, rfl, st_of (e _ _ t1), rfl, _, _, rfl, _, _, rfl, rfl, hs q.2.1 q.2.2.1 q.2.2.2 σ' H' (by rw [← h2]; exact List.mem_map.mpr ⟨q, hm, rfl⟩) s e (mo _ _ _ _ e t2)⟩
end
/-- numbers; lists of numbers -/
def CI (a : Addr) (S : List Int) (H : Hp) : Prop := H a = some (.lst (S.map V.int))
def CS (a : Addr) (ls : List (List Int)) (H : Hp) : Prop := ∃ vs, H a = some (.lst vs) ∧ SetsL ls vs H
theorem ci_mono (a : Addr) (x : List Int) (H H' : Hp) (e : Ex H H') (h : CI a x H) : CI a x H' := e _ _ h
theorem cs_mono (a : Addr) (x : List (List Int)) (H H' : Hp) (e : Ex H H') (h : CS a x H) : CS a x H' := by
  obtain ⟨vs, h1, h2⟩ := h
  exact ⟨vs, e _ _ h1, h2.mono e⟩
theorem ci_of {σ : L2.St} {H : Hp} {ta : TA} {xs : List V} {S : List Int} (h : EvA ta σ H xs) (e : xs = S.map V.int := by rfl) (hz : S.length ≤ 100 := by decide) : EvP (tLst ta) σ H (fun v H' => ∃ a, v = .ref a ∧ CI a S H') :=
  (evp_l (el_lst h (by rw [e, List.length_map]; omega)) fun p H1 hp e1 h1 => ⟨p, rfl, by unfold CI; rw [← e]; exact h1⟩)
theorem cs_of {σ : L2.St} {H : Hp} {ta : TA} {ls : List (List Int)} (h : EvAP ta σ H (SetsL ls)) (hz : ls.length ≤ 100 := by decide) : EvP (tLst ta) σ H (fun v H' => ∃ a, v = .ref a ∧ CS a ls H') :=
  (evp_lstA h (fun vs H1 H2 e p => p.mono e) fun vs H1 p => by rw [p.len]; omega).weak fun v H1 _ ⟨r, vs, e1, _, h1, c⟩ => ⟨r, e1, vs, h1, c⟩

end
end Sg
namespace Sg
set_option autoImplicit false
open PySem L2 Evl Big
open PyProof.Rows (envOfC)
section
variable {P : Program} {w : World} {K : PySem.W.Frag} {mg : Str → Option Value} {base : Heap} {ad : Ads}
structure PackedOk (n h : Nat) (rd : List (Nat × Nat)) (s : List (Option Nat)) (sets : List (List Nat)) (ways : List Way) (shut : List Nat) : Prop where
  pk : Pk n h rd s sets ways
  few : ways.length ≤ n + rd.length
  sfew : sets.length ≤ rd.length
  end_ : (shut = [] ∧ ∀ p, p < n → RT (Ea ways) p h) ∨ (shut ≠ [] ∧ ShutOk n h rd shut)
structure PackedAt (n h : Nat) (rd : List (Nat × Nat)) (s : List (Option Nat)) (sets : List (Addr × List Nat)) (ways : List Wn) (shut : List Nat) (t a b c : Addr) (H' : Hp) : Prop where
  t : H' t = some (.tup [.ref a, .ref b, .ref c])
  a : SetsAt H' a sets
  b : H' b = some (.lst (ways.map wnV))
  bat : ∀ q ∈ ways, WnAt H' q
  c : H' c = some (.lst (shut.map natV))
  ok : PackedOk n h rd s (sets.map (·.2)) (ways.map (·.2)) shut
def PackedP (n h : Nat) (rd : List (Nat × Nat)) (s : List (Option Nat)) (v : V) (H' : Hp) : Prop := ∃ t a b c sets ways shut, v = .ref t ∧ PackedAt n h rd s sets ways shut t a b c H'
def sp_packed (K : PySem.W.Frag) : Sp := fun vs H Q _ => ∃ (lv : V) (n h : Int) (rs : List (Int × Int)) (sa : Addr) (s : List (Option Nat)), vs = [lv, .ref sa] ∧ LandAt K H lv n h rs ∧ LandOk' n h rs ∧ SqL K H sa (s.map nV) ∧ SignsOk' n h rs s ∧ Give H (PackedP n.toNat h.toNat (rdN rs) s) Q
/-- how it stands: what changes are the lists of ways, of sets -/
structure PkAt (H : Hp) (wl sl : Addr) (sets : List (Addr × List Nat)) (ways : List Wn) (ra : Addr) (l : List Nat) (G H' : Hp) : Prop where
  hG : Ex H G
  gw : G wl = none
  gs : G sl = none
  ex : Ex G H'
  w : H' wl = some (.lst (ways.map wnV))
  st : H' sl = some (.lst (sets.map fun q => V.ref q.1))
  wat : ∀ q ∈ ways, WnAt G q
  sat : ∀ q ∈ sets, G q.1 = some (.lst (q.2.map natV))
  ra : G ra = some (.lst (l.map natV))
  ne : wl ≠ sl
theorem PkAt.mono {H : Hp} {wl sl : Addr} {sets : List (Addr × List Nat)} {ways : List Wn} {ra : Addr} {l : List Nat} {G H' H2 : Hp} (e : Ex H' H2) (S : PkAt H wl sl sets ways ra l G H') : PkAt H wl sl sets ways ra l G H2 :=
  { S with ex := S.ex.trans e, w := e _ _ S.w, st := e _ _ S.st }
/-- more is known -/
theorem PkAt.grow {H : Hp} {wl sl : Addr} {sets : List (Addr × List Nat)} {ways : List Wn} {ra : Addr} {l : List Nat} {G H' : Hp} (S : PkAt H wl sl sets ways ra l G H') : PkAt H wl sl sets ways ra l (hid H' wl sl) H' ∧ Ex G (hid H' wl sl) := by
  have e := hid_of S.ex S.gw S.gs
  exact ⟨{ S with hG := S.hG.trans e, gw := hid_a, gs := hid_b, ex := hid_ex, wat := fun q hq => e _ _ (S.wat q hq), sat := fun q hq => e _ _ (S.sat q hq), ra := e _ _ S.ra }, e⟩
theorem ex_upd_w {H : Hp} {wl sl : Addr} {sets : List (Addr × List Nat)} {ways ways' : List Wn} {ra : Addr} {l : List Nat} {G H' : Hp} (S : PkAt H wl sl sets ways ra l G H') (hw : ∀ q ∈ ways', WnAt G q) : PkAt H wl sl sets ways' ra l G (upd H' wl (.lst (ways'.map wnV))) :=
  { S with ex := Ex.mut S.ex S.gw, w := upd_same, st := by rw [upd_ne S.ne.symm]; exact S.st, wat := hw }
theorem ex_upd_s {H : Hp} {wl sl : Addr} {sets sets' : List (Addr × List Nat)} {ways : List Wn} {ra : Addr} {l : List Nat} {G H' : Hp} (S : PkAt H wl sl sets ways ra l G H') (hs : ∀ q ∈ sets', G q.1 = some (.lst (q.2.map natV))) : PkAt H wl sl sets' ways ra l G (upd H' sl (.lst (sets'.map fun q => V.ref q.1))) :=
  { S with ex := Ex.mut S.ex S.gs, w := by rw [upd_ne S.ne]; exact S.w, st := upd_same, sat := hs }
theorem take_snoc {α β : Type} {l : List α} {j : Nat} {x : α} (h : l[j]? = some x) (f : α → β) : (l.take (j + 1)).map f = (l.take j).map f ++ [f x] := by
  rw [List.take_succ, h, List.map_append]; rfl
theorem min_nats {σ : L2.St} {H : Hp} {te : TE} {a : Addr} {l : List Nat} (h : Ev te σ H (.ref a)) (hl : SqL K H a (l.map natV)) (hne : l ≠ []) : EvP (tCB (rMin K) (tCons te tNil)) σ H (fun v _ => ∃ m : Nat, v = natV m ∧ m ∈ l ∧ ∀ b ∈ l, m ≤ b) := fun H1 e Q q =>
  h H1 e _ fun H2 e2 => by
    have e0 : l.map natV = (l.map fun b : Nat => (b : Int)).map V.int := by rw [List.map_map]; rfl
    refine ⟨a, l.map fun b : Nat => (b : Int), rfl, by rw [← e0]; exact ex_l (e.trans e2) hl, by rw [List.length_map]; exact List.length_pos_iff.mpr hne, fun m hm hle => ?_⟩
    obtain ⟨b, hb, rfl⟩ := List.mem_map.mp hm
    exact q _ H2 e2 ⟨b, rfl, hb, fun b' hb' => by have := hle _ (List.mem_map.mpr ⟨b', hb', rfl⟩); omega⟩
/-- the free ways at first -/
def sgn (s : List (Option Nat)) : List (Nat × Option Nat) := (List.range s.length).map fun k => (k, nx s k)
theorem sgn_get (s : List (Option Nat)) (k : Nat) : (sgn s)[k]? = s[k]?.map fun x => (k, x) := by
  unfold sgn
  rw [List.getElem?_map]
  by_cases c : k < s.length
  · rw [List.getElem?_range c, nx_get c]; rfl
  · rw [List.getElem?_eq_none (by rw [List.length_range]; omega), List.getElem?_eq_none (by omega)]; rfl
theorem sgn_mem {s : List (Option Nat)} {k : Nat} {x : Option Nat} (h : (k, x) ∈ sgn s) : nx s k = x := by
  unfold sgn at h
  obtain ⟨i, _, e⟩ := List.mem_map.mp h
  injection e with e1 e2
  rw [← e1]; exact e2
theorem ok_packed (T : Txt K mg ad) : C8.Cal P w K mg base 2 "packed" (sp_packed K) [] := by
  have c_joined : C8.Cal P w K mg base 1 "joined" (sp_joined K) [] := ok_joined T
  refine cal_of T.d_packed sc_packed (fun _ _ _ _ _ _ us hl => match us, hl with | [_, _], _ => rfl) (fun vs H Q E h => ?_) (fun f cdv A outer st H vs Q E hr h => ?_)
  · obtain ⟨lv, n, h, rs, sa, s, rfl, _⟩ := h; rfl
  · obtain ⟨lv, n, h, rs, sa, s, rfl, hL, L, hS, SO, k⟩ := h
    obtain ⟨la, r, rfl, hT, hR⟩ := hL.ex
    obtain ⟨rk, r1, r2, r3⟩ := roadsN hR L
    refine ⟨_, (pss_cons (ps_asg (pv 0) (k_gt K (n := 3) (by rfl) (pgs_cons (pg_name (i := 2) sc_packed.nd rfl (Or.inl rfl)) (pgs_cons (pg_name (i := 3) sc_packed.nd rfl (Or.inr rfl)) (pgs_cons (pg_name (i := 4) sc_packed.nd rfl (Or.inl rfl)) pgs_nil)))))
  (pss_cons (ps_setLc (i := 5) (own := [("place", 15), ("sign", 16)]) (g := _) (tt := _) (by rfl) sc_packed.nd rfl rfl (sw_true rfl rfl rfl (by decide +kernel)) (pi_enum rfl T.n_enumerate (pa_cons (pv 1) pa_nil)) (blkOk_by (N := N_packed) (sc := C8.fnScope st_packed) (by decide +kernel)) (fun _ _ _ _ _ => (k_gt K (n := 2) (by rfl) (pgs_cons (pg_name (i := 15) sc_packed.nd rfl (Or.inl rfl)) (pgs_cons (pg_name (i := 16) sc_packed.nd rfl (Or.inl rfl)) pgs_nil)))) (fun _ _ _ _ _ => (pts_one (pt_cmpR op_notN (pv 16) pe_non (nomark _)))) (fun _ _ _ _ _ => (pe_tup (pa_cons pe_int (pa_cons (pv 15) (pa_cons (pv 16) pa_nil))))))
  (pss_cons (ps_setLc (i := 6) (own := [("place", 15)]) (g := _) (tt := tYes) (by rfl) sc_packed.nd rfl rfl (sw_true rfl rfl rfl (by decide +kernel)) (pi_range1 rfl T.n_range (pa_cons (pv 2) pa_nil)) (blkOk_by (N := N_packed) (sc := C8.fnScope st_packed) (by decide +kernel)) (fun _ _ _ _ _ => (pg_name (i := 15) sc_packed.nd rfl (Or.inl rfl))) (fun _ _ _ _ _ => pts_nil) (fun _ _ _ _ _ => (pe_op op_shl pe_int (pv 15))))
  (pss_cons (ps_for PassesOwn.never rfl (k_il K (pv 5)) (k_gt K (n := 3) (by rfl) (pgs_cons (pg_name (i := 7) sc_packed.nd rfl (Or.inl rfl)) (pgs_cons (pg_name (i := 8) sc_packed.nd rfl (Or.inl rfl)) (pgs_cons (pg_name (i := 9) sc_packed.nd rfl (Or.inl rfl)) pgs_nil))))
    (pss_one (ps_set (i := 6) sc_packed.nd rfl (Or.inl rfl) (C8.pe_c c_joined hr (by decide) rfl (pa_cons (pv 6) (pa_cons (pv 8) (pa_cons (pv 9) pa_nil)))))))
  (pss_cons (ps_set (i := 10) sc_packed.nd rfl (Or.inl rfl) (pe_lst pa_nil))
  (pss_one (ps_while PassesOwn.never (pt_val pe_bl)
    (pss_cons (ps_setLc (i := 11) (own := [("bits", 17)]) (g := _) (tt := _) (by rfl) sc_packed.nd rfl rfl (sw_true rfl rfl rfl (by decide +kernel)) (k_il K (pv 6)) (blkOk_by (N := N_packed) (sc := C8.fnScope st_packed) (by decide +kernel)) (fun _ _ _ _ _ => (pg_name (i := 17) sc_packed.nd rfl (Or.inl rfl))) (fun _ _ _ _ _ => (pts_one (pt_not (k_tru K (pe_op op_and (pe_op op_shr (pv 17) (pv 3)) pe_int))))) (fun _ _ _ _ _ => (pv 17)))
  (pss_cons (ps_if (pt_not (k_tru K (pv 11))) (pss_one (ps_ret (pe_tup (pa_cons (pv 10) (pa_cons (pv 5) (pa_cons (pe_lst pa_nil) pa_nil)))))) pss_nil)
  (pss_cons (ps_set (i := 12) sc_packed.nd rfl (Or.inr rfl) (pe_callB (cr_min rfl) (by rfl) T.n_min (by decide +kernel) (pa_cons (pv 11) pa_nil)))
  (pss_cons (ps_setLc (i := 13) (own := [("place", 15)]) (g := _) (tt := _) (by rfl) sc_packed.nd rfl rfl (sw_true rfl rfl rfl (by decide +kernel)) (pi_range1 rfl T.n_range (pa_cons (pv 2) pa_nil)) (blkOk_by (N := N_packed) (sc := C8.fnScope st_packed) (by decide +kernel)) (fun _ _ _ _ _ => (pg_name (i := 15) sc_packed.nd rfl (Or.inl rfl))) (fun _ _ _ _ _ => (pts_one (k_tru K (pe_op op_and (pe_op op_shr (pv 12) (pv 15)) pe_int)))) (fun _ _ _ _ _ => (pv 15)))
  (pss_cons (ps_setLc (i := 14) (own := [("start", 8), ("end", 9)]) (g := _) (tt := _) (by rfl) sc_packed.nd rfl rfl (sw_true rfl rfl rfl (by decide +kernel)) (k_il K (pv 4)) (blkOk_by (N := N_packed) (sc := C8.fnScope st_packed) (by decide +kernel)) (fun _ _ _ _ _ => (k_gt K (n := 2) (by rfl) (pgs_cons (pg_name (i := 8) sc_packed.nd rfl (Or.inl rfl)) (pgs_cons (pg_name (i := 9) sc_packed.nd rfl (Or.inl rfl)) pgs_nil)))) (fun _ _ _ _ _ => (pts_one (PW.pt (pw_and (k_tru K (pe_op op_and (pe_op op_shr (pv 12) (pv 8)) pe_int)) (pw_and1 (pt_not (k_tru K (pe_op op_and (pe_op op_shr (pv 12) (pv 9)) pe_int)))))))) (fun _ _ _ _ _ => (pe_tup (pa_cons (pv 8) (pa_cons (pv 9) pa_nil)))))
  (pss_cons (ps_if (pt_not (k_tru K (pv 14))) (pss_one (ps_ret (pe_tup (pa_cons (pv 10) (pa_cons (pv 5) (pa_cons (pv 13) pa_nil)))))) pss_nil)
  (pss_cons (ps_expr (pe_bm PySem.F.plainAttrs_list PySem.F.slot_list_append PySem.F.type_list_append mt_append (pv 10) (pa_cons (pv 13) pa_nil)))
  (pss_one (ps_for PassesOwn.never rfl (k_il K (pv 14)) (k_gt K (n := 2) (by rfl) (pgs_cons (pg_name (i := 8) sc_packed.nd rfl (Or.inl rfl)) (pgs_cons (pg_name (i := 9) sc_packed.nd rfl (Or.inl rfl)) pgs_nil)))
    (pss_cons (ps_expr (pe_bm PySem.F.plainAttrs_list PySem.F.slot_list_append PySem.F.type_list_append mt_append (pv 5) (pa_cons (pe_tup (pa_cons (pe_callB (k_len K) (by rfl) T.n_len PySem.boot_len (pa_cons (pv 10) pa_nil)) (pa_cons (pv 8) (pa_cons (pv 9) pa_nil)))) pa_nil)))
  (pss_one (ps_set (i := 6) sc_packed.nd rfl (Or.inl rfl) (C8.pe_c c_joined hr (by decide) rfl (pa_cons (pv 6) (pa_cons (pv 8) (pa_cons (pv 9) pa_nil))))))))))))))))))))))), ?_⟩
    have h0 := L.h0
    have hn := L.hn
    have n40 := L.n40
    have few := L.few
    have sl0 := SO.len
    have eh : (h.toNat : Int) = h := by omega
    have en : (n.toNat : Int) = n := by omega
    have vh : V.int h = natV h.toNat := by unfold natV; rw [eh]
    have rdl : (rdN rs).length ≤ 120 := by unfold rdN; rw [List.length_map]; exact few
    have rkl : rk.length = (rdN rs).length := by rw [← r3, List.length_map]
    have rdlt : ∀ {p q}, (p, q) ∈ rdN rs → p < n.toNat ∧ q < n.toNat := fun m => rdN_lt L m
    refine q_unp3 (Post := fun p H2 => p = .ref la) (evp_of (ev_var rfl) fun _ _ => rfl) fun p H1 a1 hp => ⟨_, _, _, _, hp, ex_t a1 hT, ?_⟩
    refine q_asgP (evp_tupsE (K := K) (i1 := 15) (i2 := 16) (by decide) s (sgn s) (sgn_get s) (by unfold sgn; rw [List.length_map, List.length_range]) nV (fun q => q.2.isSome) (fun q => [.int 0, natV q.1, nV q.2]) (ea_cons (ev_var rfl) ea_nil) (ex_l a1 hS) (by omega) (fun k x hx H2 a2 => et_test (ev_is (ev_op (ev_var rfl) ev_c rv_notN) (by rw [nV_some]))) (fun k x hx H2 a2 _ => eu_tup (ea_cons ev_c (ea_cons (ev_var rfl) (ea_cons (ev_var rfl) ea_nil))) (by show 3 ≤ 100000; decide))) fun v H2 a2 ⟨wl, ks, e1, hwl, hwl2, kss, kat⟩ => ?_
    subst e1
    have a12 := a1.trans a2
    refine q_asgL (el_mapR (j := 15) (n := n) (fun i => natV (1 <<< i)) (ea_cons (ev_var rfl) ea_nil) (by omega) fun i H3 a3 hi => ev_is (ev_op ev_c (ev_var rfl) (rv_I (C := CPow) ⟨by omega, by omega, by decide⟩)) ?_) fun ra H3 hra a3 hra3 => ?_
    · show V.int (1 * 2 ^ ((i : Int)).toNat) = natV (1 <<< i)
      rw [Nat.one_shiftLeft]
      unfold natV
      congr 1
      have : ((i : Int)).toNat = i := rfl
      rw [this, Int.one_mul]
      norm_cast
    · -- the ways of the signs
      have mw : ∀ q ∈ ks, ∃ y, q.2.2 = some y ∧ nx s q.2.1 = some y := fun q hq => by
        have m : q.2 ∈ (sgn s).filter fun q => q.2.isSome := by rw [← kss]; exact List.mem_map.mpr ⟨q, hq, rfl⟩
        obtain ⟨m1, m2⟩ := List.mem_filter.mp m
        cases c : q.2.2 with
        | none => rw [c] at m2; cases m2
        | some y => exact ⟨y, rfl, by have := sgn_mem (k := q.2.1) (x := q.2.2) m1; rw [this, c]⟩
      obtain ⟨ways, hways⟩ : ∃ ways : List Wn, ways = ks.map fun q => (q.1, (0, q.2.1, q.2.2.getD 0)) := ⟨_, rfl⟩
      have wv : ways.map wnV = ks.map fun q => V.ref q.1 := by rw [hways, List.map_map]; rfl
      have wat : ∀ q ∈ ways, WnAt H2 q := fun q hq => by
        rw [hways] at hq
        obtain ⟨x, hx, rfl⟩ := List.mem_map.mp hq
        obtain ⟨y, e1, e2⟩ := mw x hx
        have := (kat x hx).2.2
        rw [e1] at this
        show H2 x.1 = some (.tup [natV 0, natV x.2.1, natV (x.2.2.getD 0)])
        rw [e1]; exact this
      have wmem : ∀ k p q, (k, p, q) ∈ ways.map (·.2) ↔ k = 0 ∧ nx s p = some q := fun k p q => by
        rw [hways, List.map_map, List.mem_map]
        constructor
        · rintro ⟨x, hx, e⟩
          obtain ⟨y, e1, e2⟩ := mw x hx
          injection e with e3 e4
          injection e4 with e4 e5
          rw [e1] at e5
          exact ⟨e3.symm, by rw [← e4, ← e5]; exact e2⟩
        · rintro ⟨rfl, e⟩
          have hp := nx_lt e
          have m : (p, some q) ∈ (sgn s).filter fun q => q.2.isSome := List.mem_filter.mpr ⟨by
            refine List.mem_of_getElem? (i := p) ?_
            rw [sgn_get, nx_get hp, e]; rfl, rfl⟩
          rw [← kss] at m
          obtain ⟨x, hx, e1⟩ := List.mem_map.mp m
          refine ⟨x, hx, ?_⟩
          show (0, x.2.1, x.2.2.getD 0) = (0, p, q)
          rw [show x.2 = (p, some q) from e1]; rfl
      have wlen : ways.length ≤ n.toNat := by
        have e1 : ks.length = ((sgn s).filter fun q => q.2.isSome).length := by rw [← kss, List.length_map]
        have e2 := List.length_filter_le (fun q : Nat × Option Nat => q.2.isSome) (sgn s)
        rw [hways, List.length_map]
        unfold sgn at e1 e2
        rw [List.length_map, List.length_range] at e2
        omega
      have wlt : ∀ q ∈ ways, q.2.2.1 < n.toNat ∧ q.2.2.2 < n.toNat := fun q hq => by
        have := (wmem q.2.1 q.2.2.1 q.2.2.2).mp (List.mem_map.mpr ⟨q, hq, rfl⟩)
        have h1 := nx_lt this.2
        exact ⟨by omega, SO.wf.lt _ _ this.2⟩
      have a13 := a12.trans a3
      have rwl : ra ≠ wl := (ne_of_none hwl2 hra).symm
      rw [← wv] at hwl2
      -- what they lead to
      refine q_for3 (K := K) (i := 7) (j := 8) (m := 9) ways wnV (fun q => natV q.2.1) (fun q => natV q.2.2.1) (fun q => natV q.2.2.2) (ev_var rfl) (sq_of (a3 _ _ hwl2))
        (fun j σ' H' => Ex H3 H' ∧ ∃ rb l x y z, PkIn n.toNat ((ways.take j).map (·.2)) l ∧ H' rb = some (.lst (l.map natV)) ∧ rb ≠ wl ∧ σ' = [some (.ref la), some (.ref sa), some (.int n), some (.int h), some (.ref r), some (.ref wl), some (.ref rb), x, y, z, none, none, none, none, none, none, none, none])
        (fun H4 a4 => ⟨a4, ra, _, _, _, _, PkIn.start n.toNat, by rw [a4 _ _ hra3, List.map_map]; rfl, rwl, rfl⟩) (fun j σ' H' _ p => sq_of (p.1 _ _ (a3 _ _ hwl2))) (fun j q σ' H' hq p => ⟨q.1, rfl, st_of (p.1 _ _ (a3 _ _ (wat q (List.mem_of_getElem? hq))))⟩) ?_ ?_
      · rintro j q σ' H4 hq ⟨a4, rb, l, x, y, z, I, hrb, rbw, rfl⟩
        have hlt := wlt q (List.mem_of_getElem? hq)
        have cl := I.cl.len
        refine s_asgP (Post := JoinAt H4 rb l q.2.2.1 q.2.2.2) (evp_call (ea_cons (ev_var rfl) (ea_cons (ev_var rfl) (ea_cons (ev_var rfl) ea_nil))) fun H5 a5 Q q2 E => ⟨rb, l, _, _, rfl, sq_of (a5 _ _ hrb), by omega, by omega, by omega, fun v H6 a6 jp => q2 v H6 a6 (jp.back a5)⟩) fun v H5 a5 jp => ?_
        obtain ⟨r2, rfl, jp⟩ := jp
        have I2 := I.more q.2.1 hlt.1 hlt.2
        rw [← take_snoc hq (fun q : Wn => q.2)] at I2
        refine ⟨a4.trans a5, r2, _, _, _, _, I2, ?_, ?_, rfl⟩
        · rcases jp with ⟨rfl, e⟩ | ⟨_, e⟩
          · rw [e]; exact a5 _ _ hrb
          · exact e
        · rcases jp with ⟨rfl, e⟩ | ⟨e, _⟩
          · exact rbw
          · exact (ne_of_none (a4 _ _ (a3 _ _ hwl2)) e).symm
      · rintro σ' H4 ⟨a4, rb, l, x, y, z, I, hrb, rbw, rfl⟩
        rw [List.take_length] at I
        refine q_asgL (el_lst (vs := []) ea_nil (by decide)) fun sl H5 hsl a5 hsl5 => ?_
        have wl5 : H5 wl = some (.lst (ways.map wnV)) := a5 _ _ (a4 _ _ (a3 _ _ hwl2))
        have nws : wl ≠ sl := ne_of_none (a4 _ _ (a3 _ _ hwl2)) hsl
        have S0 : PkAt H wl sl [] ways rb l (hid H5 wl sl) H5 :=
          { hG := hid_of (((a13.trans a4)).trans a5) (by exact fresh_back a1 hwl) (fresh_back (a13.trans a4) hsl), gw := hid_a, gs := hid_b, ex := hid_ex, w := wl5, st := hsl5
            wat := fun q hq => hid_get (a5 _ _ (a4 _ _ (a3 _ _ (wat q hq)))) (fun z => by
              have := wat q hq
              have h2 : H2 q.1 = some (.tup [natV q.2.1, natV q.2.2.1, natV q.2.2.2]) := this
              rw [z, hwl2] at h2; cases h2) (fun z => by
              have h2 : H2 q.1 = some (.tup [natV q.2.1, natV q.2.2.1, natV q.2.2.2]) := wat q hq
              have := fresh_back (a3.trans a4) hsl
              rw [← z, h2] at this; cases this)
            sat := fun q hq => by cases hq
            ra := hid_get (a5 _ _ hrb) rbw (ne_of_none hrb hsl)
            ne := nws }
        have P0 : Pk n.toNat h.toNat (rdN rs) s [] (ways.map (·.2)) := Pk.start _ wmem
        refine s_while (fun m σ' H' => ∃ (G : Hp) (sets : List (Addr × List Nat)) (ways : List Wn) (rb : Addr) (l : List Nat) (x7 x8 x9 x11 x12 x13 x14 : Option V), σ' = [some (.ref la), some (.ref sa), some (.int n), some (.int h), some (.ref r), some (.ref wl), some (.ref rb), x7, x8, x9, some (.ref sl), x11, x12, x13, x14, none, none, none] ∧ PkAt H wl sl sets ways rb l G H' ∧ PkIn n.toNat (ways.map fun q : Wn => q.2) l ∧ Pk n.toNat h.toNat (rdN rs) s (sets.map fun q : Addr × List Nat => q.2) (ways.map fun q : Wn => q.2) ∧ ways.length + unfree (rdN rs) l ≤ n.toNat + (rdN rs).length ∧ sets.length + unfree (rdN rs) l ≤ (rdN rs).length ∧ m = unfree (rdN rs) l)
          (unfree (rdN rs) l) ⟨_, [], ways, rb, l, _, _, _, _, _, _, _, rfl, S0, I, P0, by
            have : unfree (rdN rs) l ≤ (rdN rs).length := List.length_filter_le _ _
            omega, by
            have : unfree (rdN rs) l ≤ (rdN rs).length := List.length_filter_le _ _
            simpa using this, rfl⟩ ?_
        rintro m σ' H6 ⟨G, sets, ways, rb, l, x7, x8, x9, x11, x12, x13, x14, rfl, S, I, Pp, wf, sf, rfl⟩
        refine ⟨true, et_test ev_c, fun _ H7 a7 => ?_, fun z => nomatch z⟩
        have S := S.mono a7
        have cl := I.cl.len
        refine ⟨fun σ' H' => ∃ (G : Hp) (sets : List (Addr × List Nat)) (ways : List Wn) (rb : Addr) (l' : List Nat) (x7 x8 x9 x11 x12 x13 x14 : Option V), σ' = [some (.ref la), some (.ref sa), some (.int n), some (.int h), some (.ref r), some (.ref wl), some (.ref rb), x7, x8, x9, some (.ref sl), x11, x12, x13, x14, none, none, none] ∧ PkAt H wl sl sets ways rb l' G H' ∧ PkIn n.toNat (ways.map fun q : Wn => q.2) l' ∧ Pk n.toNat h.toNat (rdN rs) s (sets.map fun q : Addr × List Nat => q.2) (ways.map fun q : Wn => q.2) ∧ ways.length + unfree (rdN rs) l' ≤ n.toNat + (rdN rs).length ∧ sets.length + unfree (rdN rs) l' ≤ (rdN rs).length ∧ unfree (rdN rs) l' < unfree (rdN rs) l, ?_, ?_⟩
        · rintro σ2 H2 ⟨G, sets, ways, rb, l', x7, x8, x9, x11, x12, x13, x14, e1, e2, e3, e4, e5, e6, e7⟩
          exact ⟨_, e7, G, sets, ways, rb, l', x7, x8, x9, x11, x12, x13, x14, e1, e2, e3, e4, e5, e6, rfl⟩
        refine q_asgL (el_filtL (K := K) (j := 17) l natV (fun b => !b.testBit h.toNat) natV (ev_var rfl) (sq_of (S.ex _ _ S.ra)) (by omega) (fun b hb H8 a8 => et_not (et_bit (n := b) (e := h.toNat) (ev_var rfl) (ev_is (ev_var rfl) vh))) fun b hb H8 a8 _ => ev_var rfl) fun ka H8 hka a8 hka8 => ?_
        have S := S.mono a8
        obtain ⟨kept, hkept⟩ : ∃ kept, kept = l.filter fun b => !b.testBit h.toNat := ⟨_, rfl⟩
        rw [← hkept] at hka8
        refine q_when (b := kept.isEmpty) (et_is (et_not (et_tr (ev_var rfl) fun H9 a9 => tru_list (sq_of (a9 _ _ hka8)))) (by cases kept <;> rfl)) (fun hb H9 a9 => ?_) fun hb H9 a9 => ?_
        · -- all come home
          have hk0 : kept = [] := List.isEmpty_iff.mp hb
          have S := S.mono a9
          refine s_retTup (eap_v (ev_var rfl) (eap_v (ev_var rfl) (eap_l (el_lst (vs := []) ea_nil (by decide)) eap_nil))) (fun vs H' ⟨r1, e1, r2, e2, p, r3, e3, _, _, e4⟩ => by subst e1 e2 e3 e4; show 3 ≤ 100; decide) fun vs H10 t a10 ⟨r1, e1, r2, e2, c, r3, e3, hc, hc10, e4⟩ ht => ?_
          subst e1 e2 e3 e4
          have S := S.mono a10
          have e11 : Ex H10 (upd H10 t (.tup [.ref sl, .ref wl, .ref c])) := Ex.new ht
          refine k _ _ ((S.hG.trans S.ex).trans e11) ⟨t, sl, wl, c, sets, ways, [], rfl, upd_same, ⟨e11 _ _ S.st, fun q hq => e11 _ _ (S.ex _ _ (S.sat q hq))⟩, e11 _ _ S.w, fun q hq => e11 _ _ (S.ex _ _ (S.wat q hq)), e11 _ _ hc10, ⟨Pp, by rw [List.length_map]; omega, by rw [List.length_map]; omega, .inl ⟨rfl, fun p hp => ?_⟩⟩⟩
          refine (I.rch p h.toNat hp).mp ?_
          unfold Rch
          have hin : l.getD p 0 ∈ l := by
            rw [List.getD_eq_getElem?_getD, List.getElem?_eq_getElem (show p < l.length by omega)]
            exact List.getElem_mem _
          cases c : (l.getD p 0).testBit h.toNat with
          | true => rfl
          | false =>
            have : l.getD p 0 ∈ kept := by rw [hkept]; exact List.mem_filter.mpr ⟨hin, by rw [c]; rfl⟩
            rw [hk0] at this
            cases this
        · have hkne : kept ≠ [] := fun z => by rw [z] at hb; cases hb
          have S := S.mono a9
          refine q_asgP (min_nats (K := K) (l := kept) (ev_var rfl) (sq_of (a9 _ _ hka8)) hkne) fun v H10 a10 ⟨m, e1, hm, hmin⟩ => ?_
          subst e1
          have S := S.mono a10
          have w10 := S.w
          have st10 := S.st
          rw [hkept] at hm
          obtain ⟨hm1, hm2⟩ := List.mem_filter.mp hm
          have hm2 : m.testBit h.toNat = false := by simpa using hm2
          have hmin' : ∀ b ∈ l, b.testBit h.toNat = false → m ≤ b := fun b hb c => hmin b (by rw [hkept]; exact List.mem_filter.mpr ⟨hb, by rw [c]; rfl⟩)
          obtain ⟨sok, sj, ss⟩ := I.setOk hm1 hm2 hmin'
          refine q_asgL (el_filtR (j := 15) (n := n) (fun i => m.testBit i) natV (ea_cons (ev_var rfl) ea_nil) (by omega) (fun i H11 a11 hi => et_bit (n := m) (e := i) (ev_var rfl) (ev_var rfl)) fun i H11 a11 hi _ => ev_var rfl) fun pa H11 hpa a11 hpa11 => ?_
          have hpa11 : H11 pa = some (.lst ((plOf n.toNat m).map natV)) := hpa11
          have S := S.mono a11
          have w11 := S.w
          have st11 := S.st
          have hHx : Ex H H11 := S.hG.trans S.ex
          refine q_asgP (evp_tups2 (K := K) (i := 8) (j := 9) (by decide) rk rnV (fun q => natV q.2.1) (fun q => natV q.2.2) (fun q => m.testBit q.2.1 && !m.testBit q.2.2) (fun q => [natV q.2.1, natV q.2.2]) (ev_var rfl) (ex_l hHx r1) (by omega) (fun q hq => ⟨q.1, rfl, ex_t hHx (r2 q hq)⟩) (fun q hq H12 a12 => et_and (et_bit (n := m) (e := q.2.1) (ev_var rfl) (ev_var rfl)) fun _ => et_not (et_bit (n := m) (e := q.2.2) (ev_var rfl) (ev_var rfl))) (fun q hq H12 a12 _ => eu_tup (ea_cons (ev_var rfl) (ea_cons (ev_var rfl) ea_nil)) (by show 2 ≤ 100000; decide))) fun v H12 a12 ⟨oa, os, e1, hoa, hoa12, oss, oat⟩ => ?_
          subst e1
          have S := S.mono a12
          obtain ⟨outs, houts⟩ : ∃ outs : List Rn, outs = os.map fun q => (q.1, q.2.2) := ⟨_, rfl⟩
          have ov : outs.map rnV = os.map fun q => V.ref q.1 := by rw [houts, List.map_map]; rfl
          rw [← ov] at hoa12
          have oat' : ∀ q ∈ outs, H12 q.1 = some (.tup [natV q.2.1, natV q.2.2]) := fun q hq => by
            rw [houts] at hq
            obtain ⟨x, hx, rfl⟩ := List.mem_map.mp hq
            exact (oat x hx).2.2
          have oout : outs.map (·.2) = outOf (rdN rs) (plOf n.toNat m) := by
            have e1 : outs.map (·.2) = (os.map (·.2)).map (·.2) := by rw [houts, List.map_map, List.map_map]; rfl
            rw [e1, oss]
            unfold outOf
            rw [← r3, List.filter_map]
            refine congrArg (List.map _) (List.filter_congr fun q hq => ?_)
            have hq' : (q.2.1, q.2.2) ∈ rdN rs := by rw [← r3]; exact List.mem_map.mpr ⟨q, hq, rfl⟩
            have hlt := rdlt hq'
            show (m.testBit q.2.1 && !m.testBit q.2.2) = (decide (q.2.1 ∈ plOf n.toNat m) && !decide (q.2.2 ∈ plOf n.toNat m))
            have dq : ∀ i, i < n.toNat → decide (i ∈ plOf n.toNat m) = m.testBit i := fun i hi => by
              rw [Bool.eq_iff_iff, decide_eq_true_iff, mem_plOf]
              exact ⟨fun z => z.2, fun z => ⟨hi, z⟩⟩
            rw [dq _ hlt.1, dq _ hlt.2]
          refine q_when (b := outs.isEmpty) (et_is (et_not (et_tr (ev_var rfl) fun H13 a13 => tru_list (sq_of (a13 _ _ hoa12)))) (by cases outs <;> rfl)) (fun hb H13 a13 => ?_) fun hb H13 a13 => ?_
          · -- shut
            have ho0 : outs = [] := List.isEmpty_iff.mp hb
            have S := S.mono a13
            have pa13 := a13 _ _ (a12 _ _ hpa11)
            refine s_retU (eu_tup (ea_cons (ev_var rfl) (ea_cons (ev_var rfl) (ea_cons (ev_var rfl) ea_nil))) (by show 3 ≤ 100000; decide)) fun t H14 ht a14 h14 => ?_
            have S := S.mono a14
            refine k _ _ (S.hG.trans S.ex) ⟨t, sl, wl, pa, sets, ways, plOf n.toNat m, rfl, h14, ⟨S.st, fun q hq => S.ex _ _ (S.sat q hq)⟩, S.w, fun q hq => S.ex _ _ (S.wat q hq), a14 _ _ pa13, ⟨Pp, by rw [List.length_map]; omega, by rw [List.length_map]; omega, .inr ⟨sok.ne, sok, fun p q hm hp => Classical.byContradiction fun c => ?_⟩⟩⟩
            have := mem_outOf.mpr ⟨hm, hp, c⟩
            rw [← oout, ho0] at this
            cases this
          · have hone : outs ≠ [] := fun z => by rw [z] at hb; cases hb
            have S := S.mono a13
            have slen : sets.length ≤ 120 := by omega
            obtain ⟨S, gx⟩ := S.grow
            have paG : hid H13 wl sl pa = some (.lst ((plOf n.toNat m).map natV)) := hid_get (a13 _ _ (a12 _ _ hpa11)) (ne_of_none w10 hpa).symm (ne_of_none st10 hpa).symm
            have oaG : hid H13 wl sl oa = some (.lst (outs.map rnV)) := hid_get (a13 _ _ hoa12) (ne_of_none w11 hoa).symm (ne_of_none st11 hoa).symm
            have oatG : ∀ q ∈ outs, hid H13 wl sl q.1 = some (.tup [natV q.2.1, natV q.2.2]) := fun q hq => by
              have hq0 := hq
              rw [houts] at hq
              obtain ⟨x, hx, rfl⟩ := List.mem_map.mp hq
              have f := (oat x hx).2.1
              exact hid_get (a13 _ _ (oat' _ hq0)) (ne_of_none w11 f).symm (ne_of_none st11 f).symm
            generalize hid H13 wl sl = G0 at S gx paG oaG oatG
            refine q_app (K := K) (l := sl) (xs := sets.map fun q => V.ref q.1) (v := .ref pa) S.st (ev_var rfl) (ev_var rfl) (by rw [List.length_map]; omega) fun H14 a14 => ?_
            obtain ⟨sets', hsets'⟩ : ∃ sets' : List (Addr × List Nat), sets' = sets ++ [(pa, plOf n.toNat m)] := ⟨_, rfl⟩
            have S := ex_upd_s (S.mono a14) (sets' := sets') (fun q hq => by
              rw [hsets'] at hq
              rcases List.mem_append.mp hq with hq | hq
              · exact S.sat q hq
              · rw [List.mem_singleton.mp hq]; exact paG)
            have es' : (sets'.map fun q => V.ref q.1) = (sets.map fun q => V.ref q.1) ++ [.ref pa] := by rw [hsets', List.map_append]; rfl
            rw [← es']
            have ls' : sets'.length = sets.length + 1 := by rw [hsets', List.length_append]; rfl
            generalize upd H14 sl (.lst (sets'.map fun q => V.ref q.1)) = H15 at S
            have ol : outs.length ≤ 120 := by
              have e1 : outs.length = (outOf (rdN rs) (plOf n.toNat m)).length := by rw [← oout, List.length_map]
              have e2 : (outOf (rdN rs) (plOf n.toNat m)).length ≤ (rdN rs).length := List.length_filter_le _ _
              omega
            refine s_for2 (K := K) outs rnV (fun q => natV q.2.1) (fun q => natV q.2.2) (ev_var rfl) (sq_of (S.ex _ _ oaG))
              (fun j σ' H' => ∃ (G : Hp) (ways' : List Wn) (rb' : Addr) (l' : List Nat) (x7 x8 x9 : Option V), σ' = [some (.ref la), some (.ref sa), some (.int n), some (.int h), some (.ref r), some (.ref wl), some (.ref rb'), x7, x8, x9, some (.ref sl), some (.ref ka), some (natV m), some (.ref pa), some (.ref oa), none, none, none] ∧ PkAt H wl sl sets' ways' rb' l' G H' ∧ (ways'.map fun q : Wn => q.2) = (ways.map fun q : Wn => q.2) ++ (outs.take j).map (fun q : Rn => (sets'.length, q.2.1, q.2.2)) ∧ PkIn n.toNat (ways'.map fun q : Wn => q.2) l' ∧ (∀ p q, Rch l p q → Rch l' p q) ∧ (∀ q ∈ outs.take j, Rch l' q.2.1 q.2.2) ∧ Ex G0 G)
              (fun H16 a16 => ⟨G0, ways, rb, l, _, _, _, rfl, S.mono a16, by simp, I, fun _ _ z => z, fun q hq => by simp at hq, Ex.refl _⟩) (fun j σ' H' _ ⟨G, _, _, _, _, _, _, _, S, _, _, _, _, g⟩ => sq_of (S.ex _ _ (g _ _ oaG))) (fun j q σ' H' hq ⟨G, _, _, _, _, _, _, _, S, _, _, _, _, g⟩ => ⟨q.1, rfl, st_of (S.ex _ _ (g _ _ (oatG q (List.mem_of_getElem? hq))))⟩) ?_ ?_
            · rintro j q σ' H16 hq ⟨G, ways', rb', l', x7, x8, x9, rfl, S, ew, I', grow, free, g⟩
              have hqm := List.mem_of_getElem? hq
              have hjl := (List.getElem?_eq_some_iff.mp hq).1
              have hqr : (q.2.1, q.2.2) ∈ outOf (rdN rs) (plOf n.toNat m) := by rw [← oout]; exact List.mem_map.mpr ⟨q, hqm, rfl⟩
              have hlt := rdlt (mem_outOf.mp hqr).1
              have lw := congrArg List.length ew
              rw [List.length_map, List.length_append, List.length_map, List.length_map, List.length_take] at lw
              refine q_appU (K := K) (l := wl) (xs := ways'.map wnV) (ys := [natV sets'.length, natV q.2.1, natV q.2.2]) S.w (ev_var rfl) (eu_tup (ea_cons (ev_is (ev_len (ev_var rfl) (sq_of S.st)) (by rw [List.length_map]; rfl)) (ea_cons (ev_var rfl) (ea_cons (ev_var rfl) ea_nil))) (by show 3 ≤ 100000; decide)) (by rw [List.length_map]; omega) fun t H17 ht a17 h17 => ?_
              have tw := (ne_of_none S.w ht).symm
              have ts := (ne_of_none S.st ht).symm
              obtain ⟨S, g1⟩ := (S.mono a17).grow
              have tG : hid H17 wl sl t = some (.tup [natV sets'.length, natV q.2.1, natV q.2.2]) := hid_get h17 tw ts
              obtain ⟨ways2, hways2⟩ : ∃ ways2 : List Wn, ways2 = ways' ++ [(t, sets'.length, q.2.1, q.2.2)] := ⟨_, rfl⟩
              have ew2 : ways2.map wnV = ways'.map wnV ++ [.ref t] := by rw [hways2, List.map_append]; rfl
              have S := ex_upd_w S (ways' := ways2) (fun v hv => by
                rw [hways2] at hv
                rcases List.mem_append.mp hv with hv | hv
                · exact S.wat v hv
                · rw [List.mem_singleton.mp hv]; exact tG)
              rw [← ew2]
              have g := g.trans g1
              generalize hid H17 wl sl = G1 at S g
              generalize upd H17 wl (.lst (ways2.map wnV)) = H18 at S
              have cl' := I'.cl.len
              refine s_asgP (Post := JoinAt H18 rb' l' q.2.1 q.2.2) (evp_call (ea_cons (ev_var rfl) (ea_cons (ev_var rfl) (ea_cons (ev_var rfl) ea_nil))) fun H19 a19 Q q2 E => ⟨rb', l', _, _, rfl, sq_of (a19 _ _ (S.ex _ _ S.ra)), by omega, by omega, by omega, fun v H20 a20 jp => q2 v H20 a20 (jp.back a19)⟩) fun v H19 a19 jp => ?_
              obtain ⟨r3', rfl, jp⟩ := jp
              have nrw : r3' ≠ wl ∧ r3' ≠ sl ∧ H19 r3' = some (.lst ((joinedF l' q.2.1 q.2.2).map natV)) := by
                rcases jp with ⟨rfl, e⟩ | ⟨e1, e2⟩
                · refine ⟨fun z => ?_, fun z => ?_, ?_⟩
                  · have := S.ra; rw [z, S.gw] at this; cases this
                  · have := S.ra; rw [z, S.gs] at this; cases this
                  · rw [e]; exact a19 _ _ (S.ex _ _ S.ra)
                · exact ⟨(ne_of_none S.w e1).symm, (ne_of_none S.st e1).symm, e2⟩
              obtain ⟨S, g2⟩ := (S.mono a19).grow
              have I2 := I'.more sets'.length hlt.1 hlt.2
              have em2 : (ways2.map fun q : Wn => q.2) = (ways'.map fun q : Wn => q.2) ++ [(sets'.length, q.2.1, q.2.2)] := by rw [hways2, List.map_append]; rfl
              refine ⟨_, ways2, r3', joinedF l' q.2.1 q.2.2, _, _, _, rfl, { S with ra := hid_get nrw.2.2 nrw.1 nrw.2.1 }, ?_, by rw [em2]; exact I2, fun p q z => joined_grows (grow p q z), fun v hv => ?_, g.trans g2⟩
              · rw [em2, ew, take_snoc hq, List.append_assoc]
              · rw [List.take_succ, hq] at hv
                rcases List.mem_append.mp hv with hv | hv
                · exact joined_grows (free v hv)
                · have : v = q := by simpa using hv
                  rw [this]
                  exact joined_has I'.cl hlt.1 hlt.2
            · rintro σ' H16 ⟨G, ways', rb', l', x7, x8, x9, rfl, S, ew, I', grow, free, g⟩
              rw [List.take_length] at ew free
              have uo := unfree_out (rd := rdN rs) I hm1 hm2 hmin' (fun p q m => (rdlt m).2) grow fun p q m => by
                rw [← oout] at m
                obtain ⟨v, hv, e⟩ := List.mem_map.mp m
                have := free v hv
                rw [show v.2 = (p, q) from e] at this
                exact this
              have lo : (outOf (rdN rs) (plOf n.toNat m)).length = outs.length := by rw [← oout, List.length_map]
              have lo1 : 0 < outs.length := List.length_pos_iff.mpr hone
              have lw := congrArg List.length ew
              rw [List.length_map, List.length_append, List.length_map, List.length_map] at lw
              have Pm := Pp.more sok sj ss
              have em : (ways.map fun q : Wn => q.2) ++ (outOf (rdN rs) (plOf n.toNat m)).map (fun r => ((sets.map fun q : Addr × List Nat => q.2).length + 1, r.1, r.2)) = ways'.map fun q : Wn => q.2 := by
                rw [ew, ← oout, List.map_map, ls', List.length_map]
                rfl
              have es2 : (sets.map fun q : Addr × List Nat => q.2) ++ [plOf n.toNat m] = sets'.map fun q : Addr × List Nat => q.2 := by rw [hsets', List.map_append]; rfl
              rw [em, es2] at Pm
              exact ⟨G, sets', ways', rb', l', _, _, _, _, _, _, _, rfl, S, I', Pm, by omega, by omega, by omega⟩

end
end Sg
namespace Sg
set_option autoImplicit false
open PySem L2 Evl Big
open PyProof.Rows (envOfC)
section
variable {P : Program} {w : World} {K : PySem.W.Frag} {mg : Str → Option Value} {base : Heap} {ad : Ads}
/-- the ways to a place -/
def toP (ways : List Wn) (i : Nat) : List Wn := ways.filter fun q => decide (q.2.2.2 = i)
theorem mem_toP {ways : List Wn} {i : Nat} {q : Wn} : q ∈ toP ways i ↔ q ∈ ways ∧ q.2.2.2 = i := by
  unfold toP
  rw [List.mem_filter, decide_eq_true_iff]
def HomewardAt (H : Hp) (n h : Nat) (ws : List Way) (v : V) (H' : Hp) : Prop := ∃ a t picks, v = .ref a ∧ H a = none ∧ H' a = some (.lst (t.map nV)) ∧ Hw n h ws t [] picks
theorem HomewardAt.back {H H1 H2 : Hp} {n h : Nat} {ws : List Way} {v : V} (e : Ex H H1) (x : HomewardAt H1 n h ws v H2) : HomewardAt H n h ws v H2 := by
  obtain ⟨a, t, picks, h1, h2, h3, h4⟩ := x
  exact ⟨a, t, picks, h1, fresh_back e h2, h3, h4⟩
/-- what homeward is handed -/
structure Ways (K : PySem.W.Frag) (H : Hp) (wa : Addr) (n h : Nat) (ways : List Wn) : Prop where
  lst : SqL K H wa (ways.map wnV)
  at_ : ∀ q ∈ ways, WnAt H q
  few : ways.length ≤ 2500
  lt : ∀ q ∈ ways, q.2.2.1 < n ∧ q.2.2.2 < n
  away : ∀ q ∈ ways, q.2.2.1 ≠ h
  pk : ∃ sets rd s, Pk n h rd s sets (ways.map (·.2))
theorem Ways.mono {H H' : Hp} {wa : Addr} {n h : Nat} {ways : List Wn} (e : Ex H H') (x : Ways K H wa n h ways) : Ways K H' wa n h ways :=
  { x with lst := ex_l e x.lst, at_ := fun q hq => e _ _ (x.at_ q hq) }
def sp_homeward (K : PySem.W.Frag) : Sp := fun vs H Q _ => ∃ (lv : V) (n h : Int) (rs : List (Int × Int)) (wa : Addr) (ways : List Wn), vs = [lv, .ref wa] ∧ LandAt K H lv n h rs ∧ 0 ≤ h ∧ h < n ∧ n ≤ 1000 ∧ Ways K H wa n.toNat h.toNat ways ∧ Give H (HomewardAt H n.toNat h.toNat (ways.map (·.2))) Q
/-- the lists of ways by their ends, so far -/
structure Bf (H : Hp) (B : Addr) (as : List Addr) (ways : List Wn) (j : Nat) (H' : Hp) : Prop where
  ex : Ex H H'
  b : H' B = some (.lst (as.map V.ref))
  at_ : ∀ (i : Nat) a, as[i]? = some a → H' a = some (.lst ((toP (ways.take j) i).map wnV))
theorem as_at {as : List Addr} {i : Nat} {a : Addr} (h : as[i]? = some a) : (as.map V.ref)[i]? = some (.ref a) := by
  rw [List.getElem?_map, h]; rfl
/-- how it goes on, the signs and the near ways -/
structure HwAt (Hb : Hp) (sa na : Addr) (ways : List Wn) (n h : Nat) (ks : List Hq.Wy) (t : List (Option Nat)) (picks : List Way) (H' : Hp) : Prop where
  ex : Ex Hb H'
  s : H' sa = some (.lst (t.map nV))
  near : H' na = some (.lst (ks.map Hq.wyV))
  heap : Hq.HeapFrom Hq.ltW 0 ks
  ups : ∀ q ∈ ks, ∃ x ∈ ways, q = wUp x
  hw : Hw n h (ways.map (·.2)) t (ks.map wDn) picks
def unS (ways : List Wn) (t : List (Option Nat)) (h : Nat) : List Wn := ways.filter fun q => decide (q.2.2.2 ≠ h ∧ nx t q.2.2.2 = none)
theorem ok_homeward (T : Txt K mg ad) : C8.Cal P w K mg base 1 "homeward" (sp_homeward K) [] := by
  refine cal_of T.d_homeward sc_homeward (fun _ _ _ _ _ _ us hl => match us, hl with | [_, _], _ => rfl) (fun vs H Q E h => ?_) (fun f cdv A outer st H vs Q E hr h => ?_)
  · obtain ⟨lv, n, h, rs, wa, ways, rfl, _⟩ := h; rfl
  · obtain ⟨lv, n, h, rs, wa, ways, rfl, hL, h0, hn, hn1, hW, k⟩ := h
    obtain ⟨la, r, rfl, hT, hR⟩ := hL.ex
    refine ⟨_, (pss_cons (ps_asg (pv 0) (k_gt K (n := 3) (by rfl) (pgs_cons (pg_name (i := 2) sc_homeward.nd rfl (Or.inl rfl)) (pgs_cons (pg_name (i := 3) sc_homeward.nd rfl (Or.inl rfl)) (pgs_cons (pg_name (i := 4) sc_homeward.nd rfl (Or.inl rfl)) pgs_nil)))))
  (pss_cons (ps_setLc (i := 5) (own := [("_", 4)]) (g := _) (tt := tYes) (by rfl) sc_homeward.nd rfl rfl (sw_true rfl rfl rfl (by decide +kernel)) (pi_range1 rfl T.n_range (pa_cons (pv 2) pa_nil)) (blkOk_by (N := N_homeward) (sc := C8.fnScope st_homeward) (by decide +kernel)) (fun _ _ _ _ _ => (pg_name (i := 4) sc_homeward.nd rfl (Or.inl rfl))) (fun _ _ _ _ _ => pts_nil) (fun _ _ _ _ _ => (pe_lst pa_nil)))
  (pss_cons (ps_for PassesOwn.never rfl (k_il K (pv 1)) (pg_name (i := 6) sc_homeward.nd rfl (Or.inl rfl))
    (pss_one (ps_expr (pe_bm PySem.F.plainAttrs_list PySem.F.slot_list_append PySem.F.type_list_append mt_append (pe_ix (k_list K) (pv 5) (pe_ix (k_tup K) (pv 6) pe_int (fun _ _ => rfl)) (fun _ _ => rfl)) (pa_cons (pv 6) pa_nil)))))
  (pss_cons (ps_set (i := 7) sc_homeward.nd rfl (Or.inl rfl) (pe_op op_rep (pe_lst (pa_cons pe_non pa_nil)) (pv 2)))
  (pss_cons (ps_set (i := 8) sc_homeward.nd rfl (Or.inl rfl) (pe_callTy (k_lst K) (by rfl) T.n_list (by decide +kernel) (pa_cons (pe_ix (k_list K) (pv 5) (pv 3) (fun _ _ => rfl)) pa_nil)))
  (pss_cons (ps_expr (pe_callBfun (Hq.cr_heapify hr.units) (by rfl) T.b_heapify (pa_cons (pv 8) pa_nil)))
  (pss_cons (ps_while PassesOwn.never (k_tru K (pv 8))
    (pss_cons (ps_asg (pe_callBfun (Hq.cr_pop hr.units) (by rfl) T.b_heappop (pa_cons (pv 8) pa_nil)) (k_gt K (n := 3) (by rfl) (pgs_cons (pg_name (i := 4) sc_homeward.nd rfl (Or.inl rfl)) (pgs_cons (pg_name (i := 9) sc_homeward.nd rfl (Or.inl rfl)) (pgs_cons (pg_name (i := 10) sc_homeward.nd rfl (Or.inl rfl)) pgs_nil)))))
  (pss_one (ps_if (pt_cmpR op_isN (pe_ix (k_list K) (pv 7) (pv 9) (fun _ _ => rfl)) pe_non (nomark _)) (pss_cons (ps_asg (pv 10) (pg_sub (pv 7) (pv 9) set_list))
  (pss_one (ps_for PassesOwn.never rfl (k_il K (pe_ix (k_list K) (pv 5) (pv 9) (fun _ _ => rfl))) (pg_name (i := 6) sc_homeward.nd rfl (Or.inl rfl))
    (pss_one (ps_expr (pe_callBfun (Hq.cr_push hr.units) (by rfl) T.b_heappush (pa_cons (pv 8) (pa_cons (pv 6) pa_nil)))))))) pss_nil))))
  (pss_one (ps_ret (pv 7)))))))))), ?_⟩
    have eh : (h.toNat : Int) = h := by omega
    have en : (n.toNat : Int) = n := by omega
    have vh : V.int h = natV h.toNat := by unfold natV; rw [eh]
    refine q_unp3 (Post := fun p H2 => p = .ref la) (evp_of (ev_var rfl) fun _ _ => rfl) fun p H1 a1 hp => ⟨_, _, _, _, hp, ex_t a1 hT, ?_⟩
    refine q_asgP (evp_news (j := 4) (ea_cons (ev_var rfl) ea_nil) (by omega)) fun v H2 a2 ⟨B, as, e1, hB, hB2, las, nas, has⟩ => ?_
    subst e1
    have a12 := a1.trans a2
    have hlen : as.length = n.toNat := las
    -- the ways by their ends
    refine q_forLn' (K := K) (j := 6) ways wnV (ev_var rfl) (ex_l a12 hW.lst)
      (fun j σ' H' => Bf H1 B as ways j H' ∧ ∃ x y z u v, σ' = [some (.ref la), some (.ref wa), some (.int n), some (.int h), x, some (.ref B), y, z, u, v, none])
      (fun H3 a3 => ⟨⟨a2.trans a3, a3 _ _ hB2, fun i a hi => by
        have := a3 _ _ (has a (List.mem_of_getElem? hi)).2.2
        rw [this]; rfl⟩, _, _, _, _, _, rfl⟩) (fun j σ' H' _ p => ex_l (a1.trans p.1.ex) hW.lst) ?_ ?_
    · rintro j q σ' H' hq ⟨b, x, y, z, u, v, rfl⟩
      have hm := List.mem_of_getElem? hq
      have hlt := (hW.lt q hm).2
      have hwq := (a1.trans b.ex) _ _ (hW.at_ q hm)
      have eA := List.getElem?_eq_getElem (show q.2.2.2 < as.length by omega)
      generalize as[q.2.2.2] = A at eA
      have hA := b.at_ _ _ eA
      have hAm := List.mem_of_getElem? eA
      obtain ⟨nB, fA, _⟩ := has A hAm
      have tk : ∀ i, toP (ways.take (j + 1)) i = toP (ways.take j) i ++ (if q.2.2.2 = i then [q] else []) := fun i => by
        unfold toP
        rw [List.take_succ, hq, List.filter_append]
        congr 1
        show [q].filter _ = _
        by_cases c : q.2.2.2 = i <;> simp [List.filter, c]
      refine s_app (K := K) (v := wnV q) hA (ev_op (ev_var rfl) (ev_op (ev_var rfl) ev_c (rv_ixT (st_of hwq) (atI_nat (j := 2) rfl))) (rv_ixL (sq_of b.b) (at_of (j := q.2.2.2) rfl (as_at eA)))) (ev_var rfl) ?_ fun H3 a3 => ?_
      · rw [List.length_map]
        have l1 := List.length_filter_le (fun x : Wn => decide (x.2.2.2 = q.2.2.2)) (ways.take j)
        have l2 := hW.few
        rw [List.length_take] at l1
        unfold toP
        omega
      · refine ⟨⟨Ex.mut (b.ex.trans a3) fA, by rw [upd_ne nB.symm]; exact a3 _ _ b.b, fun i a hi => ?_⟩, _, _, _, _, _, rfl⟩
        by_cases c : q.2.2.2 = i
        · subst c
          rw [eA] at hi
          cases hi
          rw [upd_same, tk, if_pos rfl, List.map_append]
          rfl
        · have na : a ≠ A := fun z => by
            subst z
            have i1 := (List.getElem?_eq_some_iff.mp hi)
            have i2 := (List.getElem?_eq_some_iff.mp eA)
            exact c ((List.getElem_inj nas).mp (i2.2.trans i1.2.symm))
          rw [upd_ne na, tk, if_neg c, List.append_nil]
          exact a3 _ _ (b.at_ i a hi)
    · rintro σ' H3 ⟨b, x, y, z, u, v, rfl⟩
      have bat : ∀ (i : Nat) a, as[i]? = some a → H3 a = some (.lst ((toP ways i).map wnV)) := fun i a hi => by
        have := b.at_ i a hi
        rwa [List.take_length] at this
      have b13 := a1.trans b.ex
      refine q_asgL (el_rep (n := n.toNat) (v := .non) (ev_is (ev_var rfl) (by rw [en])) (by omega)) fun sa H4 hsa a4 hsa4 => ?_
      have eS : List.replicate n.toNat V.non = (List.replicate n.toNat (none : Option Nat)).map nV := by rw [List.map_replicate]; rfl
      rw [eS] at hsa4
      have eH := List.getElem?_eq_getElem (show h.toNat < as.length by omega)
      generalize as[h.toNat] = A at eH
      have hA := a4 _ _ (bat _ _ eH)
      refine q_asgL (el_list (K := K) (ev_op (ev_var rfl) (ev_is (ev_var rfl) vh) (rv_ixL (sq_of (a4 _ _ b.b)) (at_of (j := h.toNat) rfl (as_at eH)))) (sq_of hA)) fun na H5 hna a5 hna5 => ?_
      have sna : sa ≠ na := ne_of_none hsa4 hna
      have na3 : H3 na = none := fresh_back a4 hna
      have wy : ∀ {H'}, Ex H H' → ∀ q ∈ ways, Hq.WyAt H' (wUp q) := fun e q hq => e _ _ (hW.at_ q hq)
      have eN : (toP ways h.toNat).map wnV = ((toP ways h.toNat).map wUp).map Hq.wyV := by rw [List.map_map]; rfl
      rw [eN] at hna5
      have upk : ∀ q ∈ (toP ways h.toNat).map wUp, ∃ x ∈ ways, q = wUp x := fun q hq => by
        obtain ⟨x, hx, rfl⟩ := List.mem_map.mp hq
        exact ⟨x, (mem_toP.mp hx).1, rfl⟩
      have b15 := (b13.trans a4).trans a5
      have l0 : (toP ways h.toNat).length ≤ ways.length := List.length_filter_le _ _
      have few := hW.few
      refine Hq.q_heapify (ev_var rfl) hna5 (fun q hq => by
        obtain ⟨x, hx, rfl⟩ := upk q hq
        exact wy b15 x hx) (by rw [List.length_map]; omega) fun H6 ks a6 hp hh => ?_
      have away : ∀ k q, (k, h.toNat, q) ∉ ways.map (·.2) := fun k q m => by
        obtain ⟨x, hx, e⟩ := List.mem_map.mp m
        exact hW.away x hx (by rw [e])
      have inN : ∀ v : Way, v ∈ ks.map wDn ↔ v ∈ ways.map (·.2) ∧ v.2.2 = h.toNat := fun v => by
        have e1 : (ks.map wDn).Perm (((toP ways h.toNat).map wUp).map wDn) := hp.map _
        rw [e1.mem_iff, List.map_map, List.mem_map]
        constructor
        · rintro ⟨x, hx, rfl⟩
          exact ⟨List.mem_map.mpr ⟨x, (mem_toP.mp hx).1, rfl⟩, (mem_toP.mp hx).2⟩
        · rintro ⟨m, e⟩
          obtain ⟨x, hx, rfl⟩ := List.mem_map.mp m
          exact ⟨x, mem_toP.mpr ⟨hx, e⟩, rfl⟩
      obtain ⟨sets, rd, s, hPk⟩ := hW.pk
      have lk : ks.length = (toP ways h.toNat).length := by rw [hp.length_eq, List.length_map]
      have l2 : (toP ways h.toNat).length + (unS ways (List.replicate n.toNat none) h.toNat).length = ways.length := by
        have := filter_split (p := fun _ => true) (q := fun q : Wn => decide (q.2.2.2 = h.toNat)) (r := fun q : Wn => decide (q.2.2.2 ≠ h.toNat ∧ nx (List.replicate n.toNat none) q.2.2.2 = none)) ways (fun x _ => by rw [nx_rep]; by_cases c : x.2.2.2 = h.toNat <;> simp [c]) (fun x _ => by rintro ⟨c1, c2⟩; simp at c1 c2; exact c2.1 c1)
        rw [filter_yes] at this
        exact this.symm
      refine q_while (fun m σ' H' => ∃ ks t picks x y z u, σ' = [some (.ref la), some (.ref wa), some (.int n), some (.int h), x, some (.ref B), y, some (.ref sa), some (.ref na), z, u] ∧ HwAt H3 sa na ways n.toNat h.toNat ks t picks H' ∧ m = ks.length + (unS ways t h.toNat).length ∧ m ≤ 2500)
        (ks.length + (unS ways (List.replicate n.toNat none) h.toNat).length) ⟨ks, _, [], _, _, _, _, rfl, ⟨Ex.mut ((a4.trans a5).trans a6) na3, by rw [upd_ne sna]; exact a6 _ _ (a5 _ _ hsa4), upd_same, hh, fun q hq => upk q (hp.mem_iff.mp hq), Hw.start inN⟩, rfl, by omega⟩ ?_
      rintro m σ' H7 ⟨ks, t, picks, x, y, z, u, rfl, S, rfl, hm⟩
      have d7 := b13.trans S.ex
      refine ⟨!(ks.map Hq.wyV).isEmpty, et_tr (ev_var rfl) fun H8 a8 => tru_list (sq_of (a8 _ _ S.near)), fun hb H8 a8 => ?_, fun hb H8 a8 => ?_⟩
      · have hne : ks ≠ [] := fun z => by rw [z] at hb; cases hb
        refine ⟨fun σ' H' => ∃ ks' t' picks x y z u, σ' = [some (.ref la), some (.ref wa), some (.int n), some (.int h), x, some (.ref B), y, some (.ref sa), some (.ref na), z, u] ∧ HwAt H3 sa na ways n.toNat h.toNat ks' t' picks H' ∧ ks'.length + (unS ways t' h.toNat).length < ks.length + (unS ways t h.toNat).length, ?_, ?_⟩
        · rintro σ2 H2 ⟨ks', t', picks', x, y, z, u, e1, S', hlt⟩
          exact ⟨_, hlt, ks', t', picks', x, y, z, u, e1, S', rfl, by omega⟩
        · have wyk : ∀ {H'}, Ex H7 H' → ∀ q ∈ ks, Hq.WyAt H' q := fun e q hq => by
            obtain ⟨x, hx, rfl⟩ := S.ups q hq
            exact wy (d7.trans e) x hx
          refine Hq.q_pop3 (K := K) (ev_var rfl) (a8 _ _ S.near) (wyk a8) hne S.heap fun H9 mm ks' a9 hp hh' hmin => ?_
          obtain ⟨mw, hmw, rfl⟩ := S.ups mm (hp.mem_iff.mpr List.mem_cons_self)
          obtain ⟨ma, mk, mp, mq⟩ := mw
          have hlt := hW.lt _ hmw
          have hlt1 : mp < n.toNat := hlt.1
          have a79 := a8.trans a9
          have hs9 : (upd H9 na (.lst (ks'.map Hq.wyV))) sa = some (.lst (t.map nV)) := by rw [upd_ne sna]; exact a79 _ _ S.s
          have ex9 : Ex H3 (upd H9 na (.lst (ks'.map Hq.wyV))) := Ex.mut (S.ex.trans a79) na3
          have hn9 : (upd H9 na (.lst (ks'.map Hq.wyV))) na = some (.lst (ks'.map Hq.wyV)) := upd_same
          generalize upd H9 na (.lst (ks'.map Hq.wyV)) = H10 at hs9 ex9 hn9
          have lks : ks.length = ks'.length + 1 := by rw [hp.length_eq]; rfl
          have tl : t.length = n.toNat := S.hw.len
          have hpD : (ks.map wDn).Perm ((mk, mp, mq) :: ks'.map wDn) := hp.map wDn
          have ups' : ∀ q ∈ ks', ∃ x ∈ ways, q = wUp x := fun q hq => S.ups q (hp.mem_iff.mpr (List.mem_cons_of_mem _ hq))
          refine s_when (b := decide (nx t mp = none)) (et_test (ev_is (ev_op (ev_op (ev_var rfl) (ev_var rfl) (rv_ixL (v := nV (nx t mp)) (sq_of hs9) (at_of (j := mp) rfl (sign_at (by omega))))) ev_c rv_isN) (by cases nx t mp <;> rfl))) (fun hb2 H11 a11 => ?_) fun hb2 H11 a11 => ?_
          · have hnone : nx t mp = none := of_decide_eq_true hb2
            have hmh : mp ≠ h.toNat := hW.away _ hmw
            refine q_setL (l := sa) (j := mp) (v := nV (some mq)) (a11 _ _ hs9) (ev_var rfl) (ev_var rfl) (ev_var rfl) (by rw [List.length_map]; omega) fun H12 a12 => ?_
            have sa3 : H3 sa = none := hsa
            have eset : (t.map nV).set mp (nV (some mq)) = (t.set mp (some mq)).map nV := by rw [List.map_set]
            rw [eset]
            have ex12 : Ex H3 (upd H12 sa (.lst ((t.set mp (some mq)).map nV))) := Ex.mut ((ex9.trans a11).trans a12) sa3
            have hn12 : (upd H12 sa (.lst ((t.set mp (some mq)).map nV))) na = some (.lst (ks'.map Hq.wyV)) := by rw [upd_ne sna.symm]; exact a12 _ _ (a11 _ _ hn9)
            have hs12 : (upd H12 sa (.lst ((t.set mp (some mq)).map nV))) sa = some (.lst ((t.set mp (some mq)).map nV)) := upd_same
            generalize upd H12 sa (.lst ((t.set mp (some mq)).map nV)) = H13 at ex12 hn12 hs12
            have eP := List.getElem?_eq_getElem (show mp < as.length by omega)
            generalize as[mp] = A2 at eP
            have hA2 := bat _ _ eP
            refine s_forLn' (K := K) (j := 6) (toP ways mp) wnV (ev_op (ev_var rfl) (ev_var rfl) (rv_ixL (sq_of (ex12 _ _ b.b)) (at_of (j := mp) rfl (as_at eP)))) (sq_of (ex12 _ _ hA2))
              (fun j σ' H' => ∃ ks2 : List Hq.Wy, ks2.Perm (ks' ++ ((toP ways mp).take j).map wUp) ∧ Hq.HeapFrom Hq.ltW 0 ks2 ∧ Ex H3 H' ∧ H' sa = some (.lst ((t.set mp (some mq)).map nV)) ∧ H' na = some (.lst (ks2.map Hq.wyV)) ∧ ∃ y, σ' = [some (.ref la), some (.ref wa), some (.int n), some (.int h), some (.int mk), some (.ref B), y, some (.ref sa), some (.ref na), some (.int mp), some (.int mq)])
              (fun H14 a14 => ⟨ks', by simp, hh', ex12.trans a14, a14 _ _ hs12, a14 _ _ hn12, _, rfl⟩) (fun j σ' H' _ ⟨ks2, _, _, e3, _⟩ => sq_of (e3 _ _ hA2)) ?_ ?_
            · rintro j q σ' H14 hq ⟨ks2, g1, g2, g3, g4, g5, y, rfl⟩
              have hqm := mem_toP.mp (List.mem_of_getElem? hq)
              have in2 : ∀ v ∈ ks2, ∃ x ∈ ways, v = wUp x := fun v hv => by
                rcases List.mem_append.mp (g1.mem_iff.mp hv) with hv | hv
                · exact ups' v hv
                · obtain ⟨x, hx, rfl⟩ := List.mem_map.mp hv
                  exact ⟨x, (mem_toP.mp (List.mem_of_mem_take hx)).1, rfl⟩
              have ks2l : ks2.length < 100000 := by
                have z1 := g1.length_eq
                rw [List.length_append, List.length_map, List.length_take] at z1
                have z2 : (toP ways mp).length ≤ ways.length := List.length_filter_le _ _
                omega
              refine Hq.s_push (v := wUp q) (ev_var rfl) (ev_var rfl) g5 (fun v hv => by
                obtain ⟨x, hx, rfl⟩ := in2 v hv
                exact wy (b13.trans g3) x hx) (wy (b13.trans g3) q hqm.1) ks2l g2 fun H15 ks3 a15 hp3 hh3 => ?_
              refine ⟨ks3, ?_, hh3, Ex.mut (g3.trans a15) na3, by rw [upd_ne sna]; exact a15 _ _ g4, upd_same, _, rfl⟩
              rw [List.take_succ, hq]
              show ks3.Perm (ks' ++ (((toP ways mp).take j) ++ [q]).map wUp)
              rw [List.map_append, ← List.append_assoc]
              exact hp3.trans (g1.append_right _)
            · rintro σ' H14 ⟨ks2, g1, g2, g3, g4, g5, y, rfl⟩
              rw [List.take_length] at g1
              have g1D : (ks2.map wDn).Perm (ks'.map wDn ++ (toP ways mp).map (·.2)) := by
                have := g1.map wDn
                rw [List.map_append, List.map_map] at this
                exact this
              refine ⟨ks2, t.set mp (some mq), picks ++ [(mk, mp, mq)], _, _, _, _, rfl, ⟨g3, g4, g5, g2, fun q hq => ?_, ?_⟩, ?_⟩
              · rcases List.mem_append.mp (g1.mem_iff.mp hq) with hq | hq
                · exact ups' q hq
                · obtain ⟨x, hx, rfl⟩ := List.mem_map.mp hq
                  exact ⟨x, (mem_toP.mp hx).1, rfl⟩
              · refine Hw.take hPk away S.hw hpD hnone hlt1 (fun v hv => ?_) fun v => ?_
                · obtain ⟨q, hq, rfl⟩ := List.mem_map.mp hv
                  obtain ⟨x, hx, rfl⟩ := S.ups q hq
                  exact wUp_lt (hmin _ hq)
                · rw [g1D.mem_iff, List.mem_append]
                  constructor
                  · rintro (c | c)
                    · exact .inl c
                    · obtain ⟨x, hx, rfl⟩ := List.mem_map.mp c
                      exact .inr ⟨List.mem_map.mpr ⟨x, (mem_toP.mp hx).1, rfl⟩, (mem_toP.mp hx).2⟩
                  · rintro (c | ⟨c, d⟩)
                    · exact .inl c
                    · obtain ⟨x, hx, rfl⟩ := List.mem_map.mp c
                      exact .inr (List.mem_map.mpr ⟨x, mem_toP.mpr ⟨hx, d⟩, rfl⟩)
              · have z1 := g1.length_eq
                rw [List.length_append, List.length_map] at z1
                have z2 : (unS ways t h.toNat).length = (unS ways (t.set mp (some mq)) h.toNat).length + (toP ways mp).length := by
                  refine filter_split ways (fun x hx => ?_) (fun x hx => ?_)
                  · rw [nx_set]
                    by_cases c : mp = x.2.2.2
                    · rw [← c]; simp [hmh, hnone]
                    · have c' : ¬ x.2.2.2 = mp := fun z => c z.symm
                      simp [c, c']
                  · rintro ⟨c1, c2⟩
                    have c2 := of_decide_eq_true c2
                    have c1 := (of_decide_eq_true c1).2
                    rw [nx_set, if_pos ⟨c2.symm, by omega⟩] at c1
                    cases c1
                omega
          · have hsome : nx t mp ≠ none := of_decide_eq_false hb2
            exact ⟨ks', t, picks, _, _, _, _, rfl, ⟨ex9.trans a11, a11 _ _ hs9, a11 _ _ hn9, hh', ups', S.hw.skip hpD hsome⟩, by omega⟩
      · have hks : ks = [] := by
          cases ks with
          | nil => rfl
          | cons a l => cases hb
        subst hks
        exact s_ret (ev_var rfl) fun H9 a9 => k _ _ ((d7.trans a8).trans a9) ⟨sa, t, picks, rfl, fresh_back (b13) hsa, a9 _ _ (a8 _ _ S.s), S.hw⟩

end
end Sg
namespace Sg
set_option autoImplicit false
open PySem L2 Evl Big
open PyProof.Rows (envOfC)
section
variable {P : Program} {w : World} {K : PySem.W.Frag} {mg : Str → Option Value} {base : Heap} {ad : Ads}
inductive Few
  | turned (t : List (Option Nat)) (ls : List (List Nat))
  | shut (S : List Nat)
structure TurnedAt (ad : Ads) (H0 H : Hp) (x fa ga : Addr) (t : List (Option Nat)) (ks : List (Addr × List Nat)) : Prop where
  ob : ∃ dx, H x = some (.ins ad.Turned dx (putF "sets" (.ref ga) (putF "signs" (.ref fa) [])))
  fn : H0 fa = none
  fl : H fa = some (.lst (t.map nV))
  gn : H0 ga = none
  gl : SetsAt H ga ks
  kn : ∀ q ∈ ks, H0 q.1 = none
  nd : (fa :: ga :: ks.map (·.1)).Nodup
structure ShutAt (ad : Ads) (H0 H : Hp) (x D : Addr) (S : List Nat) : Prop where
  ob : ∃ dx, H x = some (.ins ad.Shut dx (putF "places" (.ref D) []))
  dn : H0 D = none
  dl : H D = some (.lst (S.map natV))
/-- what is told at x; H0: a heap that knew nothing of it -/
def FewAt (ad : Ads) (H0 H : Hp) (x : Addr) : Few → Prop
  | .turned t ls => ∃ fa ga ks, TurnedAt ad H0 H x fa ga t ks ∧ ks.map (·.2) = ls
  | .shut S => ∃ D, ShutAt ad H0 H x D S
theorem FewAt.mono {H0 H H' : Hp} {x : Addr} {e : Few} (a : Ex H H') (h : FewAt ad H0 H x e) : FewAt ad H0 H' x e := by
  cases e with
  | turned t ls =>
    obtain ⟨fa, ga, ks, z, e1⟩ := h
    obtain ⟨dx, ob⟩ := z.ob
    exact ⟨fa, ga, ks, { z with ob := ⟨dx, a _ _ ob⟩, fl := a _ _ z.fl, gl := z.gl.mono a }, e1⟩
  | shut S =>
    obtain ⟨D, z⟩ := h
    obtain ⟨dx, ob⟩ := z.ob
    exact ⟨D, { z with ob := ⟨dx, a _ _ ob⟩, dl := a _ _ z.dl }⟩
theorem FewAt.back {H0 H1 H : Hp} {x : Addr} {e : Few} (a : Ex H0 H1) (h : FewAt ad H1 H x e) : FewAt ad H0 H x e := by
  cases e with
  | turned t ls =>
    obtain ⟨fa, ga, ks, z, e1⟩ := h
    exact ⟨fa, ga, ks, { z with fn := fresh_back a z.fn, gn := fresh_back a z.gn, kn := fun q hq => fresh_back a (z.kn q hq) }, e1⟩
  | shut S =>
    obtain ⟨D, z⟩ := h
    exact ⟨D, { z with dn := fresh_back a z.dn }⟩
def FewOk (n h : Nat) (rd : List (Nat × Nat)) (s : List (Option Nat)) : Few → Prop
  | .turned t ls => TurnedOk n h rd s t ls
  | .shut S => ShutOk n h rd S
def FewestAt (ad : Ads) (H : Hp) (n h : Nat) (rd : List (Nat × Nat)) (s : List (Option Nat)) (v : V) (H' : Hp) : Prop := ∃ x e, v = .ref x ∧ H x = none ∧ FewAt ad H H' x e ∧ FewOk n h rd s e
theorem FewestAt.back {H H1 H' : Hp} {n h : Nat} {rd : List (Nat × Nat)} {s : List (Option Nat)} {v : V} (a : Ex H H1) (z : FewestAt ad H1 n h rd s v H') : FewestAt ad H n h rd s v H' := by
  obtain ⟨x, e, h1, h2, h3, h4⟩ := z
  exact ⟨x, e, h1, fresh_back a h2, h3.back a, h4⟩
/-- Turned of two lists -/
theorem evp_makeT {σ : L2.St} {H : Hp} {E : XK} {ta : TA} {P : List V → Hp → Prop} {R : List (Option Nat) → List (List Nat) → Prop} (h : EvAP ta σ H P)
    (hs : ∀ vs H1, Ex H H1 → P vs H1 → ∃ (a b : Addr) (s : List (Option Nat)) (ks : List (Addr × List Nat)), vs = [.ref a, .ref b] ∧ SqL K H1 a (s.map nV) ∧ SqL K H1 b (ks.map fun q => V.ref q.1) ∧ (∀ q ∈ ks, SqL K H1 q.1 (q.2.map natV)) ∧ s.length ≤ 40000 ∧ ks.length ≤ 40000 ∧ (∀ q ∈ ks, q.2.length ≤ 100000) ∧ R s (ks.map (·.2))) :
    EvP (tMake ad.Turned (sp_Turned_init K ad.Turned) [] E ta) σ H (fun v H' => ∃ x s ls, v = .ref x ∧ H x = none ∧ R s ls ∧ FewAt ad H H' x (.turned s ls)) := fun H0 e Q q =>
  h H0 e _ fun vs H1 e1 pv x dx hx hdx hne => by
    rw [List.append_nil]
    have hx0 : H x = none := fresh_back (e.trans e1) hx
    obtain ⟨a, b, s, ks, rfl, h1, h2, h3, h4, h5, h6, h7⟩ := hs vs H1 (e.trans e1) pv
    have ex1 : Ex H1 (upd (upd H1 dx (.own x)) x (.ins ad.Turned dx [])) := made_ex (o := .ins ad.Turned dx []) (Ex.refl _) hx hdx fun b o' _ hb => hb
    have bk : ∀ c, (upd (upd H1 dx (.own x)) x (.ins ad.Turned dx [])) c = none → H c = none := fun c hc => fresh_back ((e.trans e1).trans ex1) hc
    refine ⟨x, dx, a, b, s, ks, rfl, upd_same, ex_l ex1 h1, ex_l ex1 h2, fun q hq => ex_l ex1 (h3 q hq), h4, h5, h6, fun H3 fa ga ks' N => ⟨rfl, ?_⟩⟩
    have ex3 : Ex H1 H3 := made_ex (Ex.refl _) hx hdx N.frame
    exact q _ H3 (e1.trans ex3) ⟨x, s, ks.map (·.2), rfl, hx0, h7, fa, ga, ks', ⟨⟨dx, N.ob⟩, bk _ N.fn, N.fl, bk _ N.gn, N.gl, fun q hq => bk _ (N.kn q hq), N.nd⟩, N.same⟩
def sp_fewest (K : PySem.W.Frag) (ad : Ads) : Sp := fun vs H Q _ => ∃ lv sv n h rs s, vs = [lv, sv] ∧ Given K H lv sv n h rs s ∧ Give H (FewestAt ad H n.toNat h.toNat (rdN rs) s) Q
theorem ok_fewest (T : Txt K mg ad) : C8.Cal P w K mg base 7 "fewest" (sp_fewest K ad) [] := by
  have c_need_land : C8.Cal P w K mg base 6 "need_land" (sp_need_land K) [] := ok_need_land T
  have c_need_signs : C8.Cal P w K mg base 4 "need_signs" (sp_need_signs K) [] := ok_need_signs T
  have c_packed : C8.Cal P w K mg base 2 "packed" (sp_packed K) [] := ok_packed T
  have c_homeward : C8.Cal P w K mg base 1 "homeward" (sp_homeward K) [] := ok_homeward T
  have m_Turned : C8.Mak P w K mg base 2 "Turned" ad.Turned (sp_Turned_init K ad.Turned) [] := ok_Turned_init T
  have m_Shut : C8.Mak P w K mg base 2 "Shut" ad.Shut (sp_Round_init K ad.Shut "places") [] := ok_Shut_init T
  refine cal_of T.d_fewest sc_fewest (fun _ _ _ _ _ _ us hl => match us, hl with | [_, _], _ => rfl) (fun vs H Q E h => ?_) (fun f cdv A outer st H vs Q E hr h => ?_)
  · obtain ⟨lv, sv, n, h, rs, s, rfl, _⟩ := h; rfl
  · obtain ⟨lv, sv, n, h, rs, s, rfl, g, k⟩ := h
    refine ⟨_, (pss_cons (ps_expr (C8.pe_c c_need_land hr (by decide) rfl (pa_cons (pv 0) pa_nil)))
  (pss_cons (ps_expr (C8.pe_c c_need_signs hr (by decide) rfl (pa_cons (pv 0) (pa_cons (pv 1) pa_nil))))
  (pss_cons (ps_asg (C8.pe_c c_packed hr (by decide) rfl (pa_cons (pv 0) (pa_cons (pv 1) pa_nil))) (k_gt K (n := 3) (by rfl) (pgs_cons (pg_name (i := 2) sc_fewest.nd rfl (Or.inl rfl)) (pgs_cons (pg_name (i := 3) sc_fewest.nd rfl (Or.inl rfl)) (pgs_cons (pg_name (i := 4) sc_fewest.nd rfl (Or.inl rfl)) pgs_nil)))))
  (pss_cons (ps_if (k_tru K (pv 4)) (pss_one (ps_ret (C8.pe_mk m_Shut hr (by decide) rfl (pa_cons (pv 4) pa_nil)))) pss_nil)
  (pss_one (ps_ret (C8.pe_mk m_Turned hr (by decide) rfl (pa_cons (C8.pe_c c_homeward hr (by decide) rfl (pa_cons (pv 0) (pa_cons (pv 3) pa_nil))) (pa_cons (pv 2) pa_nil))))))))), ?_⟩
    have L := g.ok.all
    have S := g.sok.all
    have l1 := L.h0
    have l2 := L.hn
    have l3 := L.n40
    have l4 := L.few
    have sl := S.len
    obtain ⟨sa, rfl, hS⟩ := g.signs
    refine q_drop (ev_call (ea_cons (ev_var rfl) ea_nil) fun H1 a Q q E => ⟨_, _, rfl, g.land.da.mono a, g.ok, q⟩) fun H1 a1 => ?_
    refine q_drop (ev_call (ea_cons (ev_var rfl) (ea_cons (ev_var rfl) ea_nil)) fun H2 a Q q E => ⟨_, n, h, rs, _, _, rfl, g.land.mono (a1.trans a), L.h0, L.hn, by omega, (da_signs hS).mono (a1.trans a), g.sok, q⟩) fun H2 a2 => ?_
    have a12 := a1.trans a2
    have rdl : (rdN rs).length ≤ 120 := by unfold rdN; rw [List.length_map]; exact l4
    refine q_unp3 (evp_call (Post := PackedP n.toNat h.toNat (rdN rs) s) (ea_cons (ev_var rfl) (ea_cons (ev_var rfl) ea_nil)) fun H3 a Q q E => ⟨lv, n, h, rs, sa, s, rfl, g.land.mono (a12.trans a), L, ex_l (a12.trans a) hS, S, q⟩) fun v H3 a3 ⟨t, pa, pb, pc, sets, ways, shut, e1, pk⟩ => ?_
    have a13 := a12.trans a3
    refine ⟨t, _, _, _, e1, st_of pk.t, ?_⟩
    have pok := pk.ok
    refine q_when (b := !shut.isEmpty) (et_is (et_tr (ev_var rfl) fun H4 a4 => tru_list (sq_of (a4 _ _ pk.c))) (by cases shut <;> rfl)) (fun hb H4 a4 => ?_) fun hb H4 a4 => ?_
    · have hne : shut ≠ [] := fun z => by rw [z] at hb; cases hb
      have so : ShutOk n.toNat h.toNat (rdN rs) shut := by
        rcases pok.end_ with z | z
        · exact absurd z.1 hne
        · exact z.2
      have sle : shut.length ≤ n.toNat := nodup_le so.ok.nd so.ok.lt
      have a14 := a13.trans a4
      refine s_retP (evp_makeA (f := "places") (Post := fun fv H' => ∃ D, fv = .ref D ∧ H4 D = none ∧ H' D = some (.lst (shut.map natV))) (eap_v (ev_var rfl) eap_nil) fun vs H5 a5 ⟨r, e2, e3⟩ => ?_) fun v H5 a5 ⟨x, dx, fv, e2, hx0, hx, D, e3, hD0, hD⟩ => ?_
      · subst e2 e3
        exact init_round a5 (sq_of (a5 _ _ (a4 _ _ pk.c))) (by omega)
      · subst e2 e3
        exact k _ _ (a14.trans a5) ⟨x, .shut shut, rfl, fresh_back a14 hx0, ⟨D, ⟨dx, hx⟩, fresh_back a14 hD0, hD⟩, so⟩
    · have hs0 : shut = [] := by
        cases shut with
        | nil => rfl
        | cons a l => cases hb
      have all : ∀ p, p < n.toNat → RT (Ea (ways.map (·.2))) p h.toNat := by
        rcases pok.end_ with z | z
        · exact z.2
        · exact absurd hs0 z.1
      have a14 := a13.trans a4
      have hh : nx s h.toNat = none := S.home
      have along : ∀ p q, nx s p = some q → (p, q) ∈ rdN rs := fun p q e => (mem_rdN L).mpr (S.along p q e)
      have wlt : ∀ q ∈ ways, (q.2.2.1 < n.toNat ∧ q.2.2.2 < n.toNat) ∧ q.2.2.1 ≠ h.toNat := fun q hq => by
        rcases pok.pk.kind q.2.1 q.2.2.1 q.2.2.2 (List.mem_map.mpr ⟨q, hq, rfl⟩) with ⟨_, z⟩ | ⟨i, S', _, e2, z1, z2, z3⟩
        · refine ⟨rdN_lt L (along _ _ z), fun c => ?_⟩
          rw [c, hh] at z; cases z
        · exact ⟨rdN_lt L z1, fun c => (pok.pk.ok i S' e2).home (by rw [← c]; exact z2)⟩
      have wf : ways.length ≤ 2500 := by
        have := pok.few
        rw [List.length_map] at this
        omega
      have W4 : Ways K H4 pb n.toNat h.toNat ways := ⟨sq_of (a4 _ _ pk.b), fun q hq => a4 _ _ (pk.bat q hq), wf, fun q hq => (wlt q hq).1, fun q hq => (wlt q hq).2, ⟨_, _, _, pok.pk⟩⟩
      have ks := pok.sfew
      rw [List.length_map] at ks
      refine s_retP (evp_makeT (ad := ad) (K := K) (R := TurnedOk n.toNat h.toNat (rdN rs) s) (eap_p (Post := HomewardAt H4 n.toNat h.toNat (ways.map (·.2))) (evp_call (ea_cons (ev_var rfl) (ea_cons (ev_var rfl) ea_nil)) fun H5 a5 Q q E => ⟨lv, n, h, rs, pb, ways, rfl, g.land.mono (a14.trans a5), L.h0, L.hn, by omega, W4.mono a5, fun v H6 a6 z => q v H6 a6 (z.back a5)⟩) (fun v H5 H6 a5 ⟨a, t, picks, z1, z2, z3, z4⟩ => ⟨a, t, picks, z1, z2, a5 _ _ z3, z4⟩) (eap_v (ev_var rfl) eap_nil)) fun vs H5 a5 ⟨v, r, e2, ⟨a, t2, picks, e3, _, ha, hw⟩, r2, e4, e5⟩ => ?_) fun v H5 a5 ⟨x, t2, ls, e2, hx0, ok, fa⟩ => ?_
      · subst e2 e3 e4 e5
        have tok : TurnedOk n.toNat h.toNat (rdN rs) s t2 (sets.map (·.2)) := Hw.turned pok.pk hw S.wf.len along hh all
        refine ⟨a, pa, t2, sets, rfl, sq_of ha, sq_of (a5 _ _ (a4 _ _ pk.a.lst)), fun q hq => sq_of (a5 _ _ (a4 _ _ (pk.a.at_ q hq))), by rw [tok.len]; omega, by omega, fun q hq => ?_, tok⟩
        have so := tok.ok q.2 (List.mem_map.mpr ⟨q, hq, rfl⟩)
        have := nodup_le so.nd so.lt
        omega
      · subst e2
        exact k _ _ (a14.trans a5) ⟨x, .turned t2 ls, rfl, fresh_back a14 hx0, fa.back a14, ok⟩

end
end Sg
namespace Sg
set_option autoImplicit false
open PySem L2 Evl Big
open PyProof.Rows (envOfC)
section
variable {P : Program} {w : World} {K : PySem.W.Frag} {mg : Str → Option Value} {base : Heap} {ad : Ads}
noncomputable def astrayF (s : List (Option Nat)) (g p : Nat) (o : Option Nat) : List Nat := (comers s g).filter fun x => !reachB (s.set p o) g x
def sp_astray (K : PySem.W.Frag) : Sp := fun vs H Q _ => ∃ lv sv n h rs s p o, vs = [lv, sv, natV p, nV o] ∧ Given K H lv sv n h rs s ∧ (p : Int) < n ∧ (p : Int) ≠ h ∧ (∀ q : Nat, o = some q → (q : Int) < n ∧ ((p : Int), (q : Int)) ∈ rs) ∧ RetL ((astrayF s h.toNat p o).map natV) H Q
theorem wf_set {n p : Nat} {s : List (Option Nat)} {o : Option Nat} (w : Wf n s) (h : ∀ q, o = some q → q < n) : Wf n (s.set p o) where
  len := by rw [List.length_set]; exact w.len
  lt := fun x q e => by
    unfold nx at e
    rw [List.getElem?_set] at e
    by_cases c : p = x
    · rw [if_pos c] at e
      split at e
      · exact h q e
      · cases e
    · rw [if_neg c] at e
      exact w.lt x q e
theorem ok_astray (T : Txt K mg ad) : C8.Cal P w K mg base 8 "astray" (sp_astray K) [] := by
  have c_need_walk : C8.Cal P w K mg base 7 "need_walk" (sp_need_walk K) [] := ok_need_walk T
  have c_need_away : C8.Cal P w K mg base 1 "need_away" (sp_need_away K) [] := ok_need_away T
  have c_need_road : C8.Cal P w K mg base 3 "need_road" (sp_need_road K) [] := ok_need_road T
  have c_coming : C8.Cal P w K mg base 1 "coming" (sp_coming K) [] := ok_coming T
  have c_places_coming : C8.Cal P w K mg base 2 "places_coming" (sp_places_coming K) [] := ok_places_coming T
  refine cal_of T.d_astray sc_astray (fun _ _ _ _ _ _ us hl => match us, hl with | [_, _, _, _], _ => rfl) (fun vs H Q E h => ?_) (fun f cdv A outer st H vs Q E hr h => ?_)
  · obtain ⟨lv, sv, n, h, rs, s, p, o, rfl, _⟩ := h; rfl
  · obtain ⟨lv, sv, n, h, rs, s, p, o, rfl, g, hp, hph, ho, k⟩ := h
    obtain ⟨sa, rfl, hS⟩ := g.signs
    obtain ⟨la, r, rfl, hT, hR⟩ := g.land.ex
    have L := g.ok.all
    have S := g.sok.all
    have n40 := L.n40
    have h0 := L.h0
    have hn := L.hn
    refine ⟨_, (pss_cons (ps_expr (C8.pe_c c_need_walk hr (by decide) rfl (pa_cons (pv 0) (pa_cons (pv 1) (pa_cons (pv 2) pa_nil)))))
  (pss_cons (ps_expr (C8.pe_c c_need_away hr (by decide) rfl (pa_cons (pv 0) (pa_cons (pv 2) pa_nil))))
  (pss_cons (ps_if (pt_cmpR op_notN (pv 3) pe_non (nomark _)) (pss_one (ps_expr (C8.pe_c c_need_road hr (by decide) rfl (pa_cons (pv 0) (pa_cons (pv 2) (pa_cons (pv 3) pa_nil)))))) pss_nil)
  (pss_cons (ps_set (i := 4) sc_astray.nd rfl (Or.inl rfl) (pe_callTy (k_lst K) (by rfl) T.n_list (by decide +kernel) (pa_cons (pv 1) pa_nil)))
  (pss_cons (ps_asg (pv 3) (pg_sub (pv 4) (pv 2) set_list))
  (pss_cons (ps_set (i := 5) sc_astray.nd rfl (Or.inr rfl) (C8.pe_c c_coming hr (by decide) rfl (pa_cons (pv 4) (pa_cons (pe_ix (k_tup K) (pv 0) pe_int (fun _ _ => rfl)) pa_nil))))
  (pss_one (ps_ret (pe_lc (own := [("start", 6)]) (g := _) (tt := _) rfl sc_astray.nd (k_il K (C8.pe_c c_places_coming hr (by decide) rfl (pa_cons (pv 1) (pa_cons (pe_ix (k_tup K) (pv 0) pe_int (fun _ _ => rfl)) pa_nil)))) (blkOk_by (N := N_astray) (sc := C8.fnScope st_astray) (by decide +kernel)) (fun _ _ _ _ _ => (pg_name (i := 6) sc_astray.nd rfl (Or.inl rfl))) (fun _ _ _ _ _ => (pts_one (pt_not (k_tru K (pe_ix (k_list K) (pv 5) (pv 6) (fun _ _ => rfl)))))) (fun _ _ _ _ _ => (pv 6))))))))))), ?_⟩
    have hlen := S.len
    have hg : h = (h.toNat : Int) := by omega
    have w2 : Wf n.toNat (s.set p o) := wf_set S.wf fun q e => by have := (ho q e).1; omega
    refine q_drop (ev_call (ea_cons (ev_var rfl) (ea_cons (ev_var rfl) (ea_cons (ev_var rfl) ea_nil))) fun H1 a Q q E => ⟨_, _, n, h, rs, s, p, rfl, g.mono a, by omega, hp, q⟩) fun H1 a1 => ?_
    refine q_drop (ev_call (ea_cons (ev_var rfl) (ea_cons (ev_var rfl) ea_nil)) fun H2 a Q q E => ⟨_, n, h, rs, p, rfl, g.land.mono (a1.trans a), hph, q⟩) fun H2 a2 => ?_
    have a12 := a1.trans a2
    refine q_whenK (fun σ' H' => Ex H H' ∧ σ' = start N_astray [.ref la, .ref sa, natV p, nV o]) (b := o.isSome) (et_test (ev_is (ev_op (ev_var rfl) ev_c rv_notN) (by rw [nV_some]))) (fun go hb H3 a3 => ?_) (fun hb H3 a3 => ⟨a12.trans a3, rfl⟩) ?_
    · cases o with
      | none => cases hb
      | some q =>
        obtain ⟨z1, z2⟩ := ho q rfl
        exact s_drop (ev_call (ea_cons (ev_var rfl) (ea_cons (ev_var rfl) (ea_cons (ev_var rfl) ea_nil))) fun H4 a Q q2 E => ⟨_, n, h, rs, (p : Int), (q : Int), rfl, g.land.mono ((a12.trans a3).trans a), by omega, z1, z2, q2⟩) fun H4 a4 => go _ _ ⟨(a12.trans a3).trans a4, rfl⟩
    · rintro σ' H3 ⟨a3, rfl⟩
      refine q_asgL (el_list (K := K) (ev_var rfl) (ex_l a3 hS)) fun nl H4 nl0 a4 hnl => ?_
      have nl00 : H nl = none := fresh_back a3 nl0
      refine q_setL (l := nl) (xs := s.map nV) (j := p) (v := nV o) hnl (ev_var rfl) (ev_var rfl) (ev_var rfl) (by rw [List.length_map]; omega) fun H5 a5 => ?_
      have e5 := Ex.mut (o := .lst ((s.map nV).set p (nV o))) ((a3.trans a4).trans a5) nl00
      have hnl5 : (upd H5 nl (.lst ((s.map nV).set p (nV o)))) nl = some (.lst ((s.set p o).map nV)) := by
        rw [upd_same, List.map_set]
      generalize upd H5 nl (.lst ((s.map nV).set p (nV o))) = H6 at e5 hnl5
      have homeE : ∀ {σ : L2.St} {H2 : Hp}, σ[0]? = some (some (.ref la)) → Ex H H2 → Ev (tOp (rIxT K) (tVar 0) (tC (.int 1))) σ H2 (natV h.toNat) := fun h0 e => ev_is (ev_op (ev_var h0) ev_c (rv_ixT (ex_t e hT) (atI_nat (j := 1) rfl))) (by unfold natV; rw [← hg])
      refine q_asgP (Post := ComingAt H6 (s.set p o) h.toNat) (evp_call (ea_cons (ev_var rfl) (ea_cons (homeE rfl e5) ea_nil)) fun H7 e Q q E => ⟨nl, s.set p o, n.toNat, h.toNat, rfl, sq_of (e _ _ hnl5), w2, by omega, by omega, fun v H8 e8 ⟨l, z1, z2, z3⟩ => q v H8 e8 ⟨l, z1, fresh_back e z2, z3⟩⟩) fun v H7 a7 ⟨l, e1, l0, hl⟩ => ?_
      subst e1
      have e7 := e5.trans a7
      refine s_retL (xs := (astrayF s h.toNat p o).map natV) ?_ fun t H8 ht e8 h8 => RetL.go k e7 ht e8 h8
      refine el_filtN (j := 6) (comers s h.toNat) natV _ natV (fun H8 e8 Q q => (ea_cons (ev_var rfl) (ea_cons (homeE rfl e7) ea_nil)) H8 e8 _ fun H9 e9 => ⟨sa, s, n.toNat, h.toNat, rfl, ex_l ((e7.trans e8).trans e9) hS, S.wf, by omega, by omega, fun t H10 ht e10 h10 => q t H10 (fresh_back e9 ht) (e9.trans e10) h10⟩) (by
        have : (comers s h.toNat).length ≤ s.length := by
          unfold comers
          exact Nat.le_trans (List.length_filter_le _ _) (by rw [List.length_range]; exact Nat.le_refl _)
        omega) (fun x hm H8 a8 => ?_) fun x hm H8 a8 _ => ev_var rfl
      have hx : x < s.length := by
        have := (List.mem_filter.mp hm).1
        exact List.mem_range.mp this
      refine et_not (et_tr (x := .bl (reachB (s.set p o) h.toNat x)) (ev_op (ev_var rfl) (ev_var rfl) (rv_ixL (sq_of (a8 _ _ hl)) (at_of (j := x) rfl ?_))) fun _ _ => rfl)
      rw [List.getElem?_map, List.getElem?_range (by rw [List.length_set]; exact hx)]
      rfl

end
end Sg
namespace Sg
set_option autoImplicit false
open PySem L2 Evl Big
open PyProof.Rows (envOfC)
section
variable {P : Program} {w : World} {K : PySem.W.Frag} {mg : Str → Option Value} {base : Heap} {ad : Ads}
theorem reachB_walk {s : List (Option Nat)} {n p q : Nat} (w : Wf n s) (hq : q < n) : reachB s p q = decide (p ∈ (walkd s q).1) := by
  rw [Bool.eq_iff_iff, reachB_iff, decide_eq_true_iff]
  exact (walkd_spec w hq).reach_mem
/-- who comes to g by p -/
noncomputable def byB (s : List (Option Nat)) (g p q : Nat) : Bool := reachB s g q && reachB s p q
theorem byB_iff {s : List (Option Nat)} {g p q : Nat} : byB s g p q = true ↔ Reach s g q ∧ Reach s p q := by
  unfold byB
  rw [Bool.and_eq_true, reachB_iff, reachB_iff]
noncomputable def byL (s : List (Option Nat)) (g p : Nat) : List Nat := (List.range s.length).filter (byB s g p)
theorem worth_by {s : List (Option Nat)} {g p : Nat} (hg : nx s g = none) : worthF s g p = (byL s g p).length := by
  unfold worthF byL comers
  by_cases c : reachB s g p = true
  · rw [if_pos c]
    congr 1
    refine List.filter_congr fun q _ => ?_
    rw [Bool.eq_iff_iff, byB_iff, reachB_iff]
    exact ⟨fun z => ⟨reach_trans z (reachB_iff.mp c), z⟩, fun z => z.2⟩
  · rw [if_neg c, List.filter_eq_nil_iff.mpr]
    · rfl
    · intro q _ z
      obtain ⟨h1, h2⟩ := byB_iff.mp z
      exact c (reachB_iff.mpr (reach_split hg h1 h2))
theorem astray_by {s : List (Option Nat)} {g p : Nat} (hg : nx s g = none) (hpg : p ≠ g) : astrayF s g p none = if nx s p = none then [] else byL s g p := by
  unfold astrayF comers
  rw [List.filter_filter]
  by_cases c : nx s p = none
  · rw [if_pos c, List.filter_eq_nil_iff]
    intro x _
    rw [Bool.and_eq_true, Bool.not_eq_true', ← Bool.not_eq_true, reachB_iff, reachB_iff, reach_same (set_same c)]
    exact fun z => z.1 z.2
  · rw [if_neg c]
    have hp : p < s.length := by
      cases z : nx s p with
      | none => exact absurd z c
      | some q => exact nx_lt z
    refine List.filter_congr fun x _ => ?_
    rw [Bool.eq_iff_iff, byB_iff, Bool.and_eq_true, Bool.not_eq_true', ← Bool.not_eq_true, reachB_iff, reachB_iff]
    constructor
    · rintro ⟨h1, h2⟩
      exact ⟨h2, Classical.byContradiction fun z => h1 ((lost_iff hg hpg hp h2).mpr z)⟩
    · rintro ⟨h1, h2⟩
      exact ⟨fun z => (lost_iff hg hpg hp h1).mp z h2, h1⟩
def sp_law_by (K : PySem.W.Frag) : Sp := fun vs H Q _ => ∃ lv sv n h rs s q p, vs = [lv, sv, natV q, natV p] ∧ Laid K H lv sv n h rs s ∧ q < s.length ∧ p < s.length ∧ RetV (.bl (byB s h.toNat p q)) H Q
end
end Sg
namespace Sg
set_option autoImplicit false
open PySem L2 Evl Big
open PyProof.Rows (envOfC)
section
variable {P : Program} {w : World} {K : PySem.W.Frag} {mg : Str → Option Value} {base : Heap} {ad : Ads}
/-- the three things that posts keep -/
def P3 (la sl : Addr) (t : Int) : List (Str × V) := putF "_turns" (.int t) (putF "_signs" (.ref sl) (putF "_land" (.ref la) []))
theorem p3_turns (la sl : Addr) (t : Int) : (P3 la sl t).lookup ("_turns" : Str) = some (.int t) := by
  unfold P3
  rw [lookup_putF, if_pos rfl]
theorem p3_signs (la sl : Addr) (t : Int) : (P3 la sl t).lookup ("_signs" : Str) = some (.ref sl) := by
  unfold P3
  rw [lookup_putF, if_neg (show ¬ ("_signs" : Str) = "_turns" by decide), lookup_putF, if_pos rfl]
theorem p3_land (la sl : Addr) (t : Int) : (P3 la sl t).lookup ("_land" : Str) = some (.ref la) := by
  unfold P3
  rw [lookup_putF, if_neg (show ¬ ("_land" : Str) = "_turns" by decide), lookup_putF, if_neg (show ¬ ("_land" : Str) = "_signs" by decide), lookup_putF, if_pos rfl]
def sp_Posts_turned (C : Addr) : Sp := fun vs H Q _ => ∃ x dx la sl t, vs = [.ref x] ∧ H x = some (.ins C dx (P3 la sl t)) ∧ RetV (.int t) H Q
theorem ok_Posts_turned (T : Txt K mg ad) : C8.Met P w K mg base 1 ad.Posts "turned" (sp_Posts_turned ad.Posts) [] := by
  refine met_of T.cl_Posts T.mt_Posts_turned sc_Posts_turned (fun _ _ _ _ _ _ us hl => match us, hl with | [_], _ => rfl) (fun vs H Q E h => ?_) (fun f cdv A outer st H vs Q E hr h => ?_)
  · obtain ⟨x, dx, la, sl, t, rfl, _⟩ := h; rfl
  · obtain ⟨x, dx, la, sl, t, rfl, hx, k⟩ := h
    refine ⟨_, (pss_one (ps_ret (k_fld K (pv 0)))), ?_⟩
    exact s_ret (ev_fld (ev_var rfl) hx T.cl_Posts T.no_Posts__turns (p3_turns _ _ _)) fun H1 a1 => k H1 a1
def sp_Posts_all_signs (C : Addr) : Sp := fun vs H Q _ => ∃ (x dx la sl : Addr) (t : Int) (s : List (Option Nat)), vs = [.ref x] ∧ H x = some (.ins C dx (P3 la sl t)) ∧ H sl = some (.lst (s.map nV)) ∧ RetL (s.map nV) H Q
theorem ok_Posts_all_signs (T : Txt K mg ad) : C8.Met P w K mg base 1 ad.Posts "all_signs" (sp_Posts_all_signs ad.Posts) [] := by
  refine met_of T.cl_Posts T.mt_Posts_all_signs sc_Posts_all_signs (fun _ _ _ _ _ _ us hl => match us, hl with | [_], _ => rfl) (fun vs H Q E h => ?_) (fun f cdv A outer st H vs Q E hr h => ?_)
  · obtain ⟨x, dx, la, sl, t, s, rfl, _⟩ := h; rfl
  · obtain ⟨x, dx, la, sl, t, s, rfl, hx, hs, k⟩ := h
    refine ⟨_, (pss_one (ps_ret (pe_callTy (k_lst K) (by rfl) T.n_list (by decide +kernel) (pa_cons (k_fld K (pv 0)) pa_nil)))), ?_⟩
    exact s_retL (el_list (K := K) (ev_fld (ev_var rfl) hx T.cl_Posts T.no_Posts__signs (p3_signs _ _ _)) (sq_of hs)) fun p H1 hp a1 h1 => k p H1 hp a1 h1

end
end Sg
namespace Sg
set_option autoImplicit false
open PySem L2 Evl Big
open PyProof.Rows (envOfC)
section
variable {P : Program} {w : World} {K : PySem.W.Frag} {mg : Str → Option Value} {base : Heap} {ad : Ads}
/-- a land's posts: the land as they keep it, the signs, how often turned -/
structure PostsAt (K : PySem.W.Frag) (H : Hp) (C x la rl sl : Addr) (n h : Int) (rs : List (Int × Int)) (s : List (Option Nat)) (t : Int) : Prop where
  ob : ∃ dx, H x = some (.ins C dx (P3 la sl t))
  lt : H la = some (.tup [.int n, .int h, .ref rl])
  rl : ∃ ks : List (Addr × List Int), H rl = some (.lst (ks.map fun p => V.ref p.1)) ∧ (∀ p ∈ ks, SqT K H p.1 (p.2.map V.int)) ∧ ks.map (·.2) = rs.map fun q => [q.1, q.2]
  sl : H sl = some (.lst (s.map nV))
theorem PostsAt.mono {H H' : Hp} {C x la rl sl : Addr} {n h : Int} {rs : List (Int × Int)} {s : List (Option Nat)} {t : Int} (e : Ex H H') (p : PostsAt K H C x la rl sl n h rs s t) : PostsAt K H' C x la rl sl n h rs s t := by
  obtain ⟨dx, ob⟩ := p.ob
  obtain ⟨ks, k1, k2, k3⟩ := p.rl
  exact ⟨⟨dx, e _ _ ob⟩, e _ _ p.lt, ⟨ks, e _ _ k1, fun q hq => ex_t e (k2 q hq), k3⟩, e _ _ p.sl⟩
theorem PostsAt.land {H : Hp} {C x la rl sl : Addr} {n h : Int} {rs : List (Int × Int)} {s : List (Option Nat)} {t : Int} (p : PostsAt K H C x la rl sl n h rs s t) : LandAt K H (.ref la) n h rs := by
  obtain ⟨ks, k1, k2, k3⟩ := p.rl
  exact ⟨la, rl, rfl, st_of p.lt, ks, sq_of k1, k2, k3⟩
theorem sq_keep {H H' : Hp} {x c C dx : Addr} {fs : List (Str × V)} {xs : List V} (hx : H x = some (.ins C dx fs)) (k : ∀ b o, b ≠ x → H b = some o → H' b = some o) (q : SqL K H c xs) : SqL K H' c xs := by
  rcases q with (q | ⟨o, q⟩) | q
  · exact .inl (.inl (k _ _ (fun z => by rw [z, hx] at q; cases q) q))
  · exact .inl (.inr ⟨o, k _ _ (fun z => by rw [z, hx] at q; cases q) q⟩)
  · exact .inr q
theorem st_keep {H H' : Hp} {x c C dx : Addr} {fs : List (Str × V)} {xs : List V} (hx : H x = some (.ins C dx fs)) (k : ∀ b o, b ≠ x → H b = some o → H' b = some o) (q : SqT K H c xs) : SqT K H' c xs := by
  rcases q with (q | ⟨o, q⟩) | q
  · exact .inl (.inl (k _ _ (fun z => by rw [z, hx] at q; cases q) q))
  · exact .inl (.inr ⟨o, k _ _ (fun z => by rw [z, hx] at q; cases q) q⟩)
  · exact .inr q
/-- what Posts leaves -/
structure PostsNew (K : PySem.W.Frag) (H : Hp) (C x dx : Addr) (n h : Int) (rs : List (Int × Int)) (la rl sl : Addr) (H3 : Hp) : Prop where
  frame : ∀ b o, b ≠ x → H b = some o → H3 b = some o
  at_ : PostsAt K H3 C x la rl sl n h rs (List.replicate n.toNat none) 0
  ob : H3 x = some (.ins C dx (P3 la sl 0))
  fresh : H la = none ∧ H rl = none ∧ H sl = none
  nd : la ≠ rl ∧ la ≠ sl ∧ rl ≠ sl
def sp_Posts_init (K : PySem.W.Frag) (C : Addr) : Sp := fun vs H Q _ => ∃ (x dx : Addr) (lv : V) (n h : Int) (rs : List (Int × Int)), vs = [.ref x, lv] ∧ H x = some (.ins C dx []) ∧ LandAt K H lv n h rs ∧ LandOk n h rs ∧ ∀ H3 la rl sl, PostsNew K H C x dx n h rs la rl sl H3 → Q .non H3
theorem ok_Posts_init (T : Txt K mg ad) : C8.Mak P w K mg base 7 "Posts" ad.Posts (sp_Posts_init K ad.Posts) [] := by
  have c_need_land : C8.Cal P w K mg base 6 "need_land" (sp_need_land K) [] := ok_need_land T
  refine mak_of T.mk_Posts sc_Posts_init (fun _ _ _ _ _ _ us hl => match us, hl with | [_, _], _ => rfl) (fun vs H Q E h => ?_) (fun f cdv A outer st H vs Q E hr h => ?_)
  · obtain ⟨x, dx, lv, n, h, rs, rfl, _⟩ := h; rfl
  · obtain ⟨x, dx, lv, n, h, rs, rfl, hx, hL, ok, k⟩ := h
    refine ⟨_, (pss_cons (ps_expr (C8.pe_c c_need_land hr (by decide) rfl (pa_cons (pv 1) pa_nil)))
  (pss_cons (ps_asg (pv 1) (k_gt K (n := 3) (by rfl) (pgs_cons (pg_name (i := 2) sc_Posts_init.nd rfl (Or.inl rfl)) (pgs_cons (pg_name (i := 3) sc_Posts_init.nd rfl (Or.inl rfl)) (pgs_cons (pg_name (i := 4) sc_Posts_init.nd rfl (Or.inl rfl)) pgs_nil)))))
  (pss_cons (ps_fld (pv 0) (pe_tup (pa_cons (pv 2) (pa_cons (pv 3) (pa_cons (pe_callTy (k_lst K) (by rfl) T.n_list (by decide +kernel) (pa_cons (pv 4) pa_nil)) pa_nil)))) rfl)
  (pss_cons (ps_fld (pv 0) (pe_op op_rep (pe_lst (pa_cons pe_non pa_nil)) (pv 2)) rfl)
  (pss_one (ps_fld (pv 0) pe_int rfl)))))), ?_⟩
    have L := ok.all
    have n40 := L.n40
    have ln1 := L.n1
    have en : (n.toNat : Int) = n := by omega
    refine q_drop (ev_call (ea_cons (ev_var rfl) ea_nil) fun H1 a Q q E => ⟨_, _, rfl, hL.da.mono a, ok, q⟩) fun H1 a1 => ?_
    obtain ⟨la0, r, rfl, hT, hR⟩ := hL.ex
    refine q_unp3 (Post := fun p H2 => p = .ref la0) (evp_of (ev_var rfl) fun _ _ => rfl) fun p H2 a2 hp => ⟨_, _, _, _, hp, ex_t (a1.trans a2) hT, ?_⟩
    have a12 := a1.trans a2
    obtain ⟨ks, k1, k2, k3⟩ := hR
    -- the land anew
    refine s_fldG (fs := []) rfl (a12 _ _ hx) T.cl_Posts T.no_Posts__land (by decide) (Post := fun v H3 => ∃ la rl, v = .ref la ∧ H2 la = none ∧ H2 rl = none ∧ la ≠ rl ∧ H3 la = some (.tup [.int n, .int h, .ref rl]) ∧ H3 rl = some (.lst (ks.map fun p => V.ref p.1))) ?tup fun v H3 a3 ⟨la, rl, e1, la0', rl0, nlr, hla, hrl⟩ => ?_
    case tup =>
      intro H3 e3 Q q
      refine (eap_v (ev_var rfl) (eap_v (ev_var rfl) (eap_l (el_list (K := K) (ev_var rfl) (ex_l (a12.trans e3) k1)) eap_nil))) H3 (Ex.refl _) _ fun vs H4 a4 ⟨r1, e1, r2, e2, rl, r3, e3', hrl, hrl4, e4⟩ => ?_
      subst e1 e2 e3' e4
      refine ⟨by show 3 ≤ sizeLine; decide, fun t ht => q _ _ (a4.trans (Ex.new ht)) ⟨t, rl, rfl, fresh_back (e3.trans a4) ht, fresh_back e3 hrl, (ne_of_none hrl4 ht).symm, upd_same, Ex.new ht _ _ hrl4⟩⟩
    subst e1
    have hx3 := a3 _ _ (a12 _ _ hx)
    have nlx : la ≠ x := fun z => by rw [z, hx3] at hla; cases hla
    have nrx : rl ≠ x := fun z => by rw [z, hx3] at hrl; cases hrl
    obtain ⟨H4, eH4⟩ : ∃ H4, H4 = upd H3 x (.ins ad.Posts dx (putF "_land" (.ref la) [])) := ⟨_, rfl⟩
    rw [← eH4]
    have fr4 : ∀ b o, b ≠ x → H3 b = some o → H4 b = some o := fun b o nb q => by rw [eH4, upd_ne nb]; exact q
    have hx4 : H4 x = some (.ins ad.Posts dx (putF "_land" (.ref la) [])) := by rw [eH4]; exact upd_same
    refine s_fldG rfl hx4 T.cl_Posts T.no_Posts__signs (by show 1 < 1000; decide) (evp_l (el_rep (n := n.toNat) (v := .non) (ev_is (ev_var rfl) (by rw [en])) (by omega)) (Post := fun v H5 => ∃ sl, v = .ref sl ∧ H4 sl = none ∧ H5 sl = some (.lst (List.replicate n.toNat V.non))) fun p H5 hp e5 h5 => ⟨p, rfl, hp, h5⟩) fun v H5 a5 ⟨sl, e1, sl0, hsl⟩ => ?_
    subst e1
    have hx5 := a5 _ _ hx4
    have nsx : sl ≠ x := fun z => by rw [z, hx4] at sl0; cases sl0
    have nls : la ≠ sl := ne_of_none (fr4 _ _ nlx hla) sl0
    have nrs : rl ≠ sl := ne_of_none (fr4 _ _ nrx hrl) sl0
    obtain ⟨H6, eH6⟩ : ∃ H6, H6 = upd H5 x (.ins ad.Posts dx (putF "_signs" (.ref sl) (putF "_land" (.ref la) []))) := ⟨_, rfl⟩
    rw [← eH6]
    have fr6 : ∀ b o, b ≠ x → H5 b = some o → H6 b = some o := fun b o nb q => by rw [eH6, upd_ne nb]; exact q
    have hx6 : H6 x = some (.ins ad.Posts dx (putF "_signs" (.ref sl) (putF "_land" (.ref la) []))) := by rw [eH6]; exact upd_same
    refine s_fldG rfl hx6 T.cl_Posts T.no_Posts__turns (by show 2 < 1000; decide) (evp_of ev_c (Post := fun v _ => v = .int 0) fun _ _ => rfl) fun v H7 a7 e1 => ?_
    subst e1
    have fr : ∀ b o, b ≠ x → H b = some o → (upd H7 x (.ins ad.Posts dx (P3 la sl 0))) b = some o := fun b o nb q => by rw [upd_ne nb]; exact a7 _ _ (fr6 _ _ nb (a5 _ _ (fr4 _ _ nb (a3 _ _ (a12 _ _ q)))))
    have fr3 : ∀ b o, b ≠ x → H3 b = some o → (upd H7 x (.ins ad.Posts dx (P3 la sl 0))) b = some o := fun b o nb q => by rw [upd_ne nb]; exact a7 _ _ (fr6 _ _ nb (a5 _ _ (fr4 _ _ nb q)))
    have eS : List.replicate n.toNat V.non = (List.replicate n.toNat (none : Option Nat)).map nV := by rw [List.map_replicate]; rfl
    have bk : ∀ b, H4 b = none → H b = none := fun b hb => by
      cases q : H b with
      | none => rfl
      | some o =>
        by_cases nb : b = x
        · rw [nb, hx4] at hb; cases hb
        · rw [fr4 _ _ nb (a3 _ _ (a12 _ _ q))] at hb; cases hb
    refine k _ la rl sl ⟨fr, ⟨⟨dx, upd_same⟩, fr3 _ _ nlx hla, ⟨ks, fr3 _ _ nrx hrl, fun p hp => st_keep hx fr (k2 p hp), k3⟩, ?_⟩, upd_same, ⟨fresh_back a12 la0', fresh_back a12 rl0, bk _ sl0⟩, nlr, nls, nrs⟩
    rw [← eS, upd_ne nsx]
    exact a7 _ _ (fr6 _ _ nsx hsl)

end
end Sg
namespace Sg
set_option autoImplicit false
open PySem L2 Evl Big
open PyProof.Rows (envOfC)
section
variable {P : Program} {w : World} {K : PySem.W.Frag} {mg : Str → Option Value} {base : Heap} {ad : Ads}
theorem P3_put (la sl : Addr) (t z : Int) : putF "_turns" (.int z) (P3 la sl t) = P3 la sl z := by
  unfold P3
  rfl
theorem st_keepL {H H' : Hp} {x c : Addr} {ys xs : List V} (hx : H x = some (.lst ys)) (k : ∀ b o, b ≠ x → H b = some o → H' b = some o) (q : SqT K H c xs) : SqT K H' c xs := by
  rcases q with (q | ⟨o, q⟩) | q
  · exact .inl (.inl (k _ _ (fun z => by rw [z, hx] at q; cases q) q))
  · exact .inl (.inr ⟨o, k _ _ (fun z => by rw [z, hx] at q; cases q) q⟩)
  · exact .inr q
theorem wf_set' {n p : Nat} {s : List (Option Nat)} {o : Option Nat} (w : Wf n s) (h : ∀ q, o = some q → q < n) : Wf n (s.set p o) where
  len := by rw [List.length_set]; exact w.len
  lt := fun x q e => by
    rw [nx_set] at e
    split at e
    · exact h q e
    · exact w.lt x q e
/-- posts whose signs are others -/
theorem PostsAt.signs {H H' : Hp} {C x la rl sl : Addr} {n h : Int} {rs : List (Int × Int)} {s s' : List (Option Nat)} {t : Int} (p : PostsAt K H C x la rl sl n h rs s t) (nrs : rl ≠ sl) (hs : H' sl = some (.lst (s'.map nV))) (fr : ∀ b o, b ≠ sl → H b = some o → H' b = some o) : PostsAt K H' C x la rl sl n h rs s' t := by
  obtain ⟨dx, ob⟩ := p.ob
  obtain ⟨ks, k1, k2, k3⟩ := p.rl
  have nxs : x ≠ sl := fun z => by have := p.sl; rw [← z, ob] at this; cases this
  have nls : la ≠ sl := fun z => by have := p.sl; rw [← z, p.lt] at this; cases this
  exact ⟨⟨dx, fr _ _ nxs ob⟩, fr _ _ nls p.lt, ⟨ks, fr _ _ nrs k1, fun v hv => st_keepL p.sl fr (k2 v hv), k3⟩, hs⟩
/-- what stood stands, but at the posts and their signs -/
def Apart (H H' : Hp) (x sl : Addr) : Prop := ∀ b o, b ≠ x → b ≠ sl → H b = some o → H' b = some o
def turnsF (s : List (Option Nat)) (p q : Nat) (t : Int) : Int := if nx s p = some q then t else t + 1
def sp_Posts_turn (K : PySem.W.Frag) (C : Addr) : Sp := fun vs H Q _ => ∃ (x la rl sl : Addr) (n h : Int) (rs : List (Int × Int)) (s : List (Option Nat)) (t : Int) (p q : Nat), vs = [.ref x, natV p, natV q] ∧ PostsAt K H C x la rl sl n h rs s t ∧ rl ≠ sl ∧ LandOk' n h rs ∧ Wf n.toNat s ∧ (p : Int) < n ∧ (p : Int) ≠ h ∧ ((p : Int), (q : Int)) ∈ rs ∧
  ∀ H', Apart H H' x sl → PostsAt K H' C x la rl sl n h rs (s.set p (some q)) (turnsF s p q t) → Q (natV (comers (s.set p (some q)) h.toNat).length) H'
theorem ok_Posts_turn (T : Txt K mg ad) : C8.Met P w K mg base 4 ad.Posts "turn" (sp_Posts_turn K ad.Posts) [] := by
  have c_need_place : C8.Cal P w K mg base 3 "need_place" (sp_need_place K) [] := ok_need_place T
  have c_need_away : C8.Cal P w K mg base 1 "need_away" (sp_need_away K) [] := ok_need_away T
  have c_need_road : C8.Cal P w K mg base 3 "need_road" (sp_need_road K) [] := ok_need_road T
  have c_places_coming : C8.Cal P w K mg base 2 "places_coming" (sp_places_coming K) [] := ok_places_coming T
  refine met_of T.cl_Posts T.mt_Posts_turn sc_Posts_turn (fun _ _ _ _ _ _ us hl => match us, hl with | [_, _, _], _ => rfl) (fun vs H Q E h => ?_) (fun f cdv A outer st H vs Q E hr h => ?_)
  · obtain ⟨x, la, rl, sl, n, h, rs, s, t, p, q, rfl, _⟩ := h; rfl
  · obtain ⟨x, la, rl, sl, n, h, rs, s, t, p, q, rfl, PA, nrs, L, w0, hp, hph, hm, k⟩ := h
    refine ⟨_, (pss_cons (ps_expr (C8.pe_c c_need_place hr (by decide) rfl (pa_cons (k_fld K (pv 0)) (pa_cons (pv 1) pa_nil))))
  (pss_cons (ps_expr (C8.pe_c c_need_away hr (by decide) rfl (pa_cons (k_fld K (pv 0)) (pa_cons (pv 1) pa_nil))))
  (pss_cons (ps_expr (C8.pe_c c_need_road hr (by decide) rfl (pa_cons (k_fld K (pv 0)) (pa_cons (pv 1) (pa_cons (pv 2) pa_nil)))))
  (pss_cons (ps_if (pt_cmpR op_ne (pe_ix (k_list K) (k_fld K (pv 0)) (pv 1) (fun _ _ => rfl)) (pv 2) (nomark _)) (pss_one (ps_fldaug (pv 0) pe_int in_add)) pss_nil)
  (pss_cons (ps_asg (pv 2) (pg_sub (k_fld K (pv 0)) (pv 1) set_list))
  (pss_one (ps_ret (pe_callB (k_len K) (by rfl) T.n_len PySem.boot_len (pa_cons (C8.pe_c c_places_coming hr (by decide) rfl (pa_cons (k_fld K (pv 0)) (pa_cons (pe_ix (k_tup K) (k_fld K (pv 0)) pe_int (fun _ _ => rfl)) pa_nil))) pa_nil))))))))), ?_⟩
    have h0 := L.h0
    have hn := L.hn
    have n40 := L.n40
    have slen := w0.len
    obtain ⟨_, _, q0, qn, _⟩ := L.rd _ hm
    simp only at q0 qn
    obtain ⟨dx, ob⟩ := PA.ob
    have nsx : sl ≠ x := fun z => by have := PA.sl; rw [z, ob] at this; cases this
    have lE : ∀ {σ : L2.St} {H2 : Hp}, σ[0]? = some (some (.ref x)) → Ex H H2 → Ev (tFld K (tVar 0) "_land") σ H2 (.ref la) := fun h0 e => ev_fld (ev_var h0) (e _ _ ob) T.cl_Posts T.no_Posts__land (p3_land _ _ _)
    have sE : ∀ {σ : L2.St} {H2 : Hp} {t' : Int}, σ[0]? = some (some (.ref x)) → H2 x = some (.ins ad.Posts dx (P3 la sl t')) → Ev (tFld K (tVar 0) "_signs") σ H2 (.ref sl) := fun h0 e => ev_fld (ev_var h0) e T.cl_Posts T.no_Posts__signs (p3_signs _ _ _)
    refine q_drop (ev_call (ea_cons (lE rfl (Ex.refl _)) (ea_cons (ev_var rfl) ea_nil)) fun H1 a Q q2 E => ⟨_, n, h, rs, _, .int (p : Int), rfl, (PA.mono a).land, .int _, by rw [place_int]; exact decide_eq_true ⟨by omega, hp⟩, q2⟩) fun H1 a1 => ?_
    refine q_drop (ev_call (ea_cons (lE rfl a1) (ea_cons (ev_var rfl) ea_nil)) fun H2 a Q q2 E => ⟨_, n, h, rs, (p : Int), rfl, (PA.mono (a1.trans a)).land, hph, q2⟩) fun H2 a2 => ?_
    have a12 := a1.trans a2
    refine q_drop (ev_call (ea_cons (lE rfl a12) (ea_cons (ev_var rfl) (ea_cons (ev_var rfl) ea_nil))) fun H3 a Q q2 E => ⟨_, n, h, rs, (p : Int), (q : Int), rfl, (PA.mono (a12.trans a)).land, q0, qn, hm, q2⟩) fun H3 a3 => ?_
    have a13 := a12.trans a3
    have P3' := PA.mono a13
    have ob3 := a13 _ _ ob
    refine q_whenK (fun σ' H' => σ' = start N_Posts_turn [.ref x, natV p, natV q] ∧ Apart H H' x sl ∧ (∃ dx, H' x = some (.ins ad.Posts dx (P3 la sl (turnsF s p q t)))) ∧ H' sl = some (.lst (s.map nV)) ∧ LandAt K H' (.ref la) n h rs ∧ PostsAt K H' ad.Posts x la rl sl n h rs s (turnsF s p q t)) (b := decide (nx s p ≠ some q)) (et_test (ev_is (ev_op (ev_op (sE rfl ob3) (ev_var rfl) (rv_ixL (sq_of P3'.sl) (at_of (j := p) rfl (sign_at (by omega))))) (ev_var rfl) (rv_ne (by cases nx s p <;> rfl))) ?val)) (fun go hb H4 a4 => ?inc) (fun hb H4 a4 => ?same) ?rest
    case val =>
      cases c : nx s p with
      | none => simp [nV, natV]
      | some r => simp only [nV, natV, V.int.injEq, Int.natCast_inj, Option.some.injEq, ne_eq, decide_not]
    case same =>
      have : nx s p = some q := by simpa using hb
      have et : turnsF s p q t = t := if_pos this
      rw [et]
      have P4 := P3'.mono a4
      exact ⟨rfl, fun b o _ _ z => (a13.trans a4) _ _ z, P4.ob, P4.sl, P4.land, P4⟩
    case inc =>
      have hne : ¬ nx s p = some q := by simpa using hb
      have et : turnsF s p q t = t + 1 := if_neg hne
      have P4 := P3'.mono a4
      have ob4 := a4 _ _ ob3
      refine ⟨.ref x, rfl, x, ad.Posts, dx, _, .int t, rfl, ob4, T.cl_Posts, T.no_Posts__turns, p3_turns _ _ _, t, 1, rfl, rfl, dx, _, ob4, by show 3 < 1000; decide, ?_⟩
      rw [P3_put, ← et]
      refine go _ _ ?_
      have fr : ∀ b o, b ≠ x → H4 b = some o → (upd H4 x (.ins ad.Posts dx (P3 la sl (turnsF s p q t)))) b = some o := fun b o nb z => by rw [upd_ne nb]; exact z
      obtain ⟨ks, k1, k2, k3⟩ := P4.rl
      have nlx : la ≠ x := fun z => by have := P4.lt; rw [z, ob4] at this; cases this
      have nrx : rl ≠ x := fun z => by rw [z, ob4] at k1; cases k1
      have P5 : PostsAt K (upd H4 x (.ins ad.Posts dx (P3 la sl (turnsF s p q t)))) ad.Posts x la rl sl n h rs s (turnsF s p q t) := ⟨⟨dx, upd_same⟩, fr _ _ nlx P4.lt, ⟨ks, fr _ _ nrx k1, fun v hv => st_keep ob4 fr (k2 v hv), k3⟩, fr _ _ nsx P4.sl⟩
      exact ⟨rfl, fun b o nb _ z => fr _ _ nb ((a13.trans a4) _ _ z), P5.ob, P5.sl, P5.land, P5⟩
    case rest =>
      rintro σ' H4 ⟨rfl, ap, ⟨dx4, ob4⟩, sl4, L4, P4⟩
      refine q_setL (l := sl) (xs := s.map nV) (j := p) (v := nV (some q)) sl4 (ev_var rfl) (ev_fld (ev_var rfl) ob4 T.cl_Posts T.no_Posts__signs (p3_signs _ _ _)) (ev_var rfl) (by rw [List.length_map]; omega) fun H5 a5 => ?_
      have P5 := P4.mono a5
      have eS : (s.map nV).set p (nV (some q)) = (s.set p (some q)).map nV := by rw [List.map_set]
      rw [eS]
      have hs6 : (upd H5 sl (.lst ((s.set p (some q)).map nV))) sl = some (.lst ((s.set p (some q)).map nV)) := upd_same
      have fr : ∀ b o, b ≠ sl → H5 b = some o → (upd H5 sl (.lst ((s.set p (some q)).map nV))) b = some o := fun b o nb z => by rw [upd_ne nb]; exact z
      have P6 := P5.signs (s' := s.set p (some q)) nrs hs6 fr
      generalize upd H5 sl (.lst ((s.set p (some q)).map nV)) = H6 at hs6 fr P6
      have ap6 : Apart H H6 x sl := fun b o nb ns z => fr _ _ ns (a5 _ _ (ap _ _ nb ns z))
      obtain ⟨dx6, ob6⟩ := P6.ob
      have w6 : Wf n.toNat (s.set p (some q)) := wf_set' w0 fun r e => by cases e; omega
      have vh : V.int h = natV h.toNat := by unfold natV; congr 1; omega
      have q6 := ev_lenN (K := K) (σ := start N_Posts_turn [.ref x, natV p, natV q]) (H := H6) (xs := (comers (s.set p (some q)) h.toNat).map natV) (ta := tCall (sp_places_coming K) [] C8.E0 (tCons (tFld K (tVar 0) "_signs") (tCons (tOp (rIxT K) (tFld K (tVar 0) "_land") (tC (.int 1))) tNil))) (fun H7 e7 Q q2 => (ea_cons (ev_fld (ev_var rfl) ob6 T.cl_Posts T.no_Posts__signs (p3_signs _ _ _)) (ea_cons (ev_is (ev_op (ev_fld (ev_var rfl) ob6 T.cl_Posts T.no_Posts__land (p3_land _ _ _)) ev_c (rv_ixT (st_of P6.lt) (atI_nat (j := 1) rfl))) vh) ea_nil)) H7 e7 _ fun H8 e8 => ⟨sl, s.set p (some q), n.toNat, h.toNat, rfl, sq_of ((e7.trans e8) _ _ P6.sl), w6, by omega, by omega, fun t H9 ht e9 h9 => q2 t H9 (fresh_back e8 ht) (e8.trans e9) h9⟩)
      rw [List.length_map] at q6
      exact s_ret q6 fun H7 a7 => k H7 (fun b o nb ns z => a7 _ _ (ap6 _ _ nb ns z)) (P6.mono a7)
def sp_Posts_lose (K : PySem.W.Frag) (C : Addr) : Sp := fun vs H Q _ => ∃ (x la rl sl : Addr) (n h : Int) (rs : List (Int × Int)) (s : List (Option Nat)) (t : Int) (p q : Nat), vs = [.ref x, natV p] ∧ PostsAt K H C x la rl sl n h rs s t ∧ rl ≠ sl ∧ Wf n.toNat s ∧ 0 ≤ n ∧ (p : Int) < n ∧ (p : Int) ≠ h ∧ nx s p = some q ∧
  ∀ H', Apart H H' x sl → PostsAt K H' C x la rl sl n h rs (s.set p none) t → Q (natV q) H'
theorem ok_Posts_lose (T : Txt K mg ad) : C8.Met P w K mg base 4 ad.Posts "lose" (sp_Posts_lose K ad.Posts) [] := by
  have c_need_place : C8.Cal P w K mg base 3 "need_place" (sp_need_place K) [] := ok_need_place T
  have c_need_away : C8.Cal P w K mg base 1 "need_away" (sp_need_away K) [] := ok_need_away T
  refine met_of T.cl_Posts T.mt_Posts_lose sc_Posts_lose (fun _ _ _ _ _ _ us hl => match us, hl with | [_, _], _ => rfl) (fun vs H Q E h => ?_) (fun f cdv A outer st H vs Q E hr h => ?_)
  · obtain ⟨x, la, rl, sl, n, h, rs, s, t, p, q, rfl, _⟩ := h; rfl
  · obtain ⟨x, la, rl, sl, n, h, rs, s, t, p, q, rfl, PA, nrs, w0, n0, hp, hph, hq, k⟩ := h
    refine ⟨_, (pss_cons (ps_expr (C8.pe_c c_need_place hr (by decide) rfl (pa_cons (k_fld K (pv 0)) (pa_cons (pv 1) pa_nil))))
  (pss_cons (ps_expr (C8.pe_c c_need_away hr (by decide) rfl (pa_cons (k_fld K (pv 0)) (pa_cons (pv 1) pa_nil))))
  (pss_cons (ps_set (i := 2) sc_Posts_lose.nd rfl (Or.inl rfl) (pe_ix (k_list K) (k_fld K (pv 0)) (pv 1) (fun _ _ => rfl)))
  (pss_cons (ps_if (pt_cmpR op_isN (pv 2) pe_non (nomark _)) (pss_one ps_never) pss_nil)
  (pss_cons (ps_asg pe_non (pg_sub (k_fld K (pv 0)) (pv 1) set_list))
  (pss_one (ps_ret (pv 2)))))))), ?_⟩
    have slen := w0.len
    obtain ⟨dx, ob⟩ := PA.ob
    have lE : ∀ {σ : L2.St} {H2 : Hp}, σ[0]? = some (some (.ref x)) → Ex H H2 → Ev (tFld K (tVar 0) "_land") σ H2 (.ref la) := fun h0 e => ev_fld (ev_var h0) (e _ _ ob) T.cl_Posts T.no_Posts__land (p3_land _ _ _)
    have sE : ∀ {σ : L2.St} {H2 : Hp}, σ[0]? = some (some (.ref x)) → Ex H H2 → Ev (tFld K (tVar 0) "_signs") σ H2 (.ref sl) := fun h0 e => ev_fld (ev_var h0) (e _ _ ob) T.cl_Posts T.no_Posts__signs (p3_signs _ _ _)
    refine q_drop (ev_call (ea_cons (lE rfl (Ex.refl _)) (ea_cons (ev_var rfl) ea_nil)) fun H1 a Q q2 E => ⟨_, n, h, rs, _, .int (p : Int), rfl, (PA.mono a).land, .int _, by rw [place_int]; exact decide_eq_true ⟨by omega, hp⟩, q2⟩) fun H1 a1 => ?_
    refine q_drop (ev_call (ea_cons (lE rfl a1) (ea_cons (ev_var rfl) ea_nil)) fun H2 a Q q2 E => ⟨_, n, h, rs, (p : Int), rfl, (PA.mono (a1.trans a)).land, hph, q2⟩) fun H2 a2 => ?_
    have a12 := a1.trans a2
    refine q_asg (v := nV (some q)) (ev_is (ev_op (sE rfl a12) (ev_var rfl) (rv_ixL (sq_of (a12 _ _ PA.sl)) (at_of (j := p) rfl (sign_at (by omega))))) (by rw [hq])) fun H3 a3 => ?_
    have a13 := a12.trans a3
    refine q_when (b := false) (et_test (ev_op (ev_var rfl) ev_c rv_isN)) (fun z => nomatch z) fun _ H4 a4 => ?_
    have a14 := a13.trans a4
    have P4 := PA.mono a14
    refine q_setL (l := sl) (xs := s.map nV) (j := p) (v := nV none) P4.sl ev_c (sE rfl a14) (ev_var rfl) (by rw [List.length_map]; omega) fun H5 a5 => ?_
    have eS : (s.map nV).set p (nV none) = (s.set p none).map nV := by rw [List.map_set]
    rw [eS]
    have P6 := (P4.mono a5).signs (s' := s.set p none) (H' := upd H5 sl (.lst ((s.set p none).map nV))) nrs upd_same fun b o nb z => by rw [upd_ne nb]; exact z
    refine s_ret (ev_var rfl) fun H7 a7 => k H7 (fun b o nb ns z => a7 _ _ ?_) (P6.mono a7)
    rw [upd_ne ns]
    exact (a14.trans a5) _ _ z

end
end Sg
namespace Sg
set_option autoImplicit false
open PySem L2 Evl Big
open PyProof.Rows (envOfC)
section
variable {P : Program} {w : World} {K : PySem.W.Frag} {mg : Str → Option Value} {base : Heap} {ad : Ads}
/-- Posts(land) -/
def PostsMade (K : PySem.W.Frag) (ad : Ads) (H : Hp) (n h : Int) (rs : List (Int × Int)) (v : V) (H' : Hp) : Prop := ∃ x la rl sl, v = .ref x ∧ H x = none ∧ H la = none ∧ H rl = none ∧ H sl = none ∧ rl ≠ sl ∧ PostsAt K H' ad.Posts x la rl sl n h rs (List.replicate n.toNat none) 0
theorem PostsMade.back {H H1 H2 : Hp} {n h : Int} {rs : List (Int × Int)} {v : V} (e : Ex H H1) (p : PostsMade K ad H1 n h rs v H2) : PostsMade K ad H n h rs v H2 := by
  obtain ⟨x, la, rl, sl, h1, h2, h3, h4, h5, h6, h7⟩ := p
  exact ⟨x, la, rl, sl, h1, fresh_back e h2, fresh_back e h3, fresh_back e h4, fresh_back e h5, h6, h7⟩
theorem evp_posts {σ : L2.St} {H : Hp} {E : XK} {te : TE} {lv : V} {n h : Int} {rs : List (Int × Int)} (he : Ev te σ H lv) (hL : LandAt K H lv n h rs) (ok : LandOk n h rs) : EvP (tMake ad.Posts (sp_Posts_init K ad.Posts) [] E (tCons te tNil)) σ H (PostsMade K ad H n h rs) := fun H0 e Q q =>
  (ea_cons he ea_nil) H0 e _ fun H1 e1 x dx hx hdx hne => by
    rw [List.append_nil]
    have e01 := e.trans e1
    have ex1 : Ex H1 (upd (upd H1 dx (.own x)) x (.ins ad.Posts dx [])) := made_ex (o := .ins ad.Posts dx []) (Ex.refl _) hx hdx fun b o' _ hb => hb
    refine ⟨x, dx, lv, n, h, rs, rfl, upd_same, (hL.mono e01).mono ex1, ok, fun H3 la rl sl N => ⟨rfl, ?_⟩⟩
    have ex3 : Ex H1 H3 := made_ex (Ex.refl _) hx hdx N.frame
    have bk : ∀ c, (upd (upd H1 dx (.own x)) x (.ins ad.Posts dx [])) c = none → H c = none := fun c hc => fresh_back (e01.trans ex1) hc
    exact q _ H3 (e1.trans ex3) ⟨x, la, rl, sl, rfl, fresh_back e01 hx, bk _ N.fresh.1, bk _ N.fresh.2.1, bk _ N.fresh.2.2, N.nd.2.2, N.at_⟩
/-- a list elsewhere changes -/
theorem PostsAt.keepL {H H' : Hp} {C x la rl sl fa : Addr} {n h : Int} {rs : List (Int × Int)} {s : List (Option Nat)} {t : Int} {ys : List V} (p : PostsAt K H C x la rl sl n h rs s t) (hf : H fa = some (.lst ys)) (nr : fa ≠ rl) (ns : fa ≠ sl) (fr : ∀ b o, b ≠ fa → H b = some o → H' b = some o) : PostsAt K H' C x la rl sl n h rs s t := by
  obtain ⟨dx, ob⟩ := p.ob
  obtain ⟨ks, k1, k2, k3⟩ := p.rl
  have nx : x ≠ fa := fun z => by rw [z, hf] at ob; cases ob
  have nl : la ≠ fa := fun z => by have := p.lt; rw [z, hf] at this; cases this
  exact ⟨⟨dx, fr _ _ nx ob⟩, fr _ _ nl p.lt, ⟨ks, fr _ _ nr.symm k1, fun v hv => st_keepL hf fr (k2 v hv), k3⟩, fr _ _ ns.symm p.sl⟩
theorem Apart.ex {H0 H H' : Hp} {x sl : Addr} (a : Apart H H' x sl) (e : Ex H0 H) (hx : H0 x = none) (hs : H0 sl = none) : Ex H0 H' := fun b o hb => a b o (ne_of_none hb hx) (ne_of_none hb hs) (e b o hb)
/-- xs.append(e), e changes what stands elsewhere -/
theorem s_appM {σ : L2.St} {H : Hp} {D : Ends} {ta te : TE} {l : Addr} {xs : List V} {R : V → Hp → Prop} (hl : H l = some (.lst xs)) (ha : Ev ta σ H (.ref l)) (h : ∀ H1, Ex H H1 → ∀ Q : VK, (∀ v H2, R v H2 → Q v H2) → te σ H1 Q) (hz : xs.length < 100000) (hk : ∀ v H2, R v H2 → H2 l = some (.lst xs)) (k : ∀ v H2, R v H2 → D.nx σ (upd H2 l (.lst (xs ++ [v])))) :
    tDrop (tBM K "list" rAppend ta (tCons te tNil)) D σ H := ha H (Ex.refl H) _ fun H1 e1 =>
  ⟨Or.inl ⟨rfl, xs, sq_of (e1 l _ hl)⟩, h H1 e1 _ fun v H2 r => ⟨l, xs, v, rfl, rfl, hk v H2 r, sz_lt hz, k v H2 r⟩⟩
/-- posts.turned(), posts.all_signs() -/
theorem ev_turned {σ : L2.St} {H : Hp} {te : TE} {E : XK} {x la rl sl : Addr} {n h : Int} {rs : List (Int × Int)} {s : List (Option Nat)} {t : Int} (he : Ev te σ H (.ref x)) (p : PostsAt K H ad.Posts x la rl sl n h rs s t) : Ev (tMeth ad.Posts "turned" (sp_Posts_turned ad.Posts) [] E te tNil) σ H (.int t) := by
  obtain ⟨dx, ob⟩ := p.ob
  refine ev_methV he ob ?_ ea_nil fun H1 e Q q E => ⟨x, dx, la, sl, t, rfl, e _ _ ob, q⟩
  unfold P3
  rw [lookup_putF, if_neg (show ¬ ("turned" : Str) = "_turns" by decide), lookup_putF, if_neg (show ¬ ("turned" : Str) = "_signs" by decide), lookup_putF, if_neg (show ¬ ("turned" : Str) = "_land" by decide)]
  rfl
theorem p3_no {la sl : Addr} {t : Int} {m : Str} (h1 : ¬ m = "_turns") (h2 : ¬ m = "_signs") (h3 : ¬ m = "_land") : (P3 la sl t).lookup m = none := by
  unfold P3
  rw [lookup_putF, if_neg h1, lookup_putF, if_neg h2, lookup_putF, if_neg h3]
  rfl
theorem el_signs {σ : L2.St} {H : Hp} {te : TE} {E : XK} {x la rl sl : Addr} {n h : Int} {rs : List (Int × Int)} {s : List (Option Nat)} {t : Int} (he : Ev te σ H (.ref x)) (p : PostsAt K H ad.Posts x la rl sl n h rs s t) : EvL (tMeth ad.Posts "all_signs" (sp_Posts_all_signs ad.Posts) [] E te tNil) σ H (s.map nV) := fun H1 e Q q => by
  obtain ⟨dx, ob⟩ := p.ob
  exact he H1 e _ fun H2 e2 => ⟨x, dx, _, rfl, (e.trans e2) _ _ ob, p3_no (by decide) (by decide) (by decide), x, dx, la, sl, t, s, rfl, (e.trans e2) _ _ ob, (e.trans e2) _ _ p.sl, fun p H3 hp e3 h3 => q p H3 (fresh_back e2 hp) (e2.trans e3) h3⟩
/-- for i, x in enumerate(a new list) -/
theorem q_forEN {α : Type} {σ : L2.St} {H : Hp} {D : Ends} {tl : TE} {tu tz : TS} {i1 i2 : Nat} (l : List α) (f : α → V) (h : EvL tl σ H (l.map f)) (Pv : Addr → Nat → L2.St → Hp → Prop) (h0 : ∀ a H1, H a = none → Ex H H1 → H1 a = some (.lst (l.map f)) → Pv a 0 σ H1) (hk : ∀ a i σ' H', i ≤ l.length → Pv a i σ' H' → SqL K H' a (l.map f)) (hP : ∀ a i σ' H' H2, Ex H' H2 → Pv a i σ' H' → Pv a i σ' H2)
    (hs : ∀ a (i : Nat) x σ' H', l[i]? = some x → Pv a i σ' H' → tu { D with nx := Pv a (i + 1), ct := Pv a (i + 1), bk := tz D } ((σ'.set i1 (some (.int (i : Int)))).set i2 (some (f x))) H') (hd : ∀ a σ' H', Pv a l.length σ' H' → tz D σ' H') :
    tSeq (tFor (iEnum K (tCons tl tNil)) (gTup K 2 (gCons (gName i1) (gCons (gName i2) gNil))) tu) tz D σ H :=
  h H (Ex.refl H) _ fun a H1 ha e h1 => by
    have hw : Walk (Ite K a) l.length (fun H => SqL K H a (l.map f)) (YPair (fun i => some (.int (i : Nat))) (fun i => (l.map f)[i]?)) := by
      have := walk_enum (K := K) (a := a) (xs := l.map f)
      rwa [List.length_map] at this
    refine ⟨a, _, rfl, sq_of h1, for_it hw (Pv a) (h0 a H1 ha e h1) (hk a) (fun i x σ' H2 H3 hi p y => ?_) (hd a)⟩
    obtain ⟨T, x1, x2, rfl, hT, rfl, hx1, hx2⟩ := y
    have hx1' : V.int (i : Nat) = x1 := Option.some.inj hx1
    subst hx1'
    have hx2' : (l.map f)[i]? = some x2 := hx2
    rw [List.getElem?_map] at hx2'
    obtain ⟨z, e2, rfl⟩ := Option.map_eq_some_iff.mp hx2'
    exact ⟨T, _, rfl, .inl (.inl upd_same), rfl, _, _, rfl, _, _, rfl, rfl, hs a i z σ' _ e2 (hP a i σ' H2 _ (Ex.new hT) p)⟩
theorem evp_plus {σ : L2.St} {H : Hp} {ta tb : TE} {l : Addr} {xs : List V} {P : List V → Hp → Prop} (ha : Ev ta σ H (.ref l)) (hl : H l = some (.lst xs)) (hb : EvP tb σ H (fun v H2 => ∃ r vs, v = .ref r ∧ H r = none ∧ H2 r = some (.lst vs) ∧ P vs H2)) (hm : ∀ vs H1 H2, Ex H1 H2 → P vs H1 → P vs H2) (hz : ∀ vs H1, P vs H1 → xs.length + vs.length ≤ 100000) : EvP (tOp rCat ta tb) σ H (fun v H2 => ∃ r vs, v = .ref r ∧ H r = none ∧ H2 r = some (.lst (xs ++ vs)) ∧ P vs H2) := fun H1 e Q q =>
  ha H1 e _ fun H2 e2 => hb H2 (e.trans e2) _ fun v H3 e3 ⟨r, vs, e4, _, h3, hp⟩ => ⟨l, r, xs, vs, rfl, e4, (e.trans (e2.trans e3)) _ _ hl, h3, sz_of (hz _ _ hp), fun p hpn => q _ _ ((e2.trans e3).trans (Ex.new hpn)) ⟨p, vs, rfl, fresh_back (e.trans (e2.trans e3)) hpn, upd_same, hm _ _ _ (Ex.new hpn) hp⟩⟩

end
end Sg
namespace Sg
set_option autoImplicit false
open PySem L2 Evl Big
open PyProof.Rows (envOfC)
section
variable {P : Program} {w : World} {K : PySem.W.Frag} {mg : Str → Option Value} {base : Heap} {ad : Ads}
def landP : List (Int × Int) := [(1, 0), (1, 2), (2, 1), (2, 3), (3, 2)]
def landS : List (Int × Int) := [(1, 2), (2, 1)]
theorem landP_ok : LandOk 4 0 landP := by rfl
theorem landS_ok : LandOk 3 0 landS := by rfl
theorem land1_ok : LandOk 1 0 [] := by rfl
def sR : List (Option Nat) := [none, some 2, some 1, some 2]
def sH : List (Option Nat) := [none, some 0, some 1, some 2]
theorem nx4 {a b c d : Option Nat} {p q : Nat} (h : nx [a, b, c, d] p = some q) : (p = 0 ∧ a = some q) ∨ (p = 1 ∧ b = some q) ∨ (p = 2 ∧ c = some q) ∨ (p = 3 ∧ d = some q) := by
  match p, h with
  | 0, h => exact .inl ⟨rfl, h⟩
  | 1, h => exact .inr (.inl ⟨rfl, h⟩)
  | 2, h => exact .inr (.inr (.inl ⟨rfl, h⟩))
  | 3, h => exact .inr (.inr (.inr ⟨rfl, h⟩))
  | p + 4, h => cases h
theorem no_reach {s : List (Option Nat)} {n p g : Nat} (w : Wf n s) (hp : p < n) (h : decide (g ∈ (walkd s p).1) = false) : ¬ Reach s g p := fun r => by
  have := reachB_iff.mpr r
  rw [reachB_walk w hp, h] at this
  cases this
theorem come4 : ∀ p, p < 4 → Reach sH 0 p := fun p hp => by
  match p, hp with
  | 0, _ => exact reach_self _ _
  | 1, _ => exact reach_next (q := 0) rfl (reach_self _ _)
  | 2, _ => exact reach_next (q := 1) rfl (reach_next (q := 0) rfl (reach_self _ _))
  | 3, _ => exact reach_next (q := 2) rfl (reach_next (q := 1) rfl (reach_next (q := 0) rfl (reach_self _ _)))
  | p + 4, hp => omega
theorem along4 : ∀ p q, nx sH p = some q → (p, q) ∈ rdN landP := fun p q e => by
  rcases nx4 e with ⟨rfl, e⟩ | ⟨rfl, e⟩ | ⟨rfl, e⟩ | ⟨rfl, e⟩ <;> cases e <;> decide
/-- one set -/
theorem two1 {rd : List (Nat × Nat)} {S : List Int} : TwoSays rd [S] := fun i j T U p q h1 h2 _ _ _ _ _ => by
  have a : i < 1 := (List.getElem?_eq_some_iff.mp h1).1
  have b : j < 1 := (List.getElem?_eq_some_iff.mp h2).1
  omega
theorem tsH : TurnedSays 4 0 (rdN landP) sH (sH.map toI) [] where
  signs := ⟨sH, rfl, rfl, rfl, along4, come4, rfl⟩
  kept := fun S hS => nomatch hS
  two := fun i j T U p q h1 => by cases h1
theorem ts1 {S : List Int} (h : KeptSays 4 0 sR S) : TurnedSays 4 0 (rdN landP) sR (sH.map toI) [S] where
  signs := ⟨sH, rfl, rfl, rfl, along4, come4, rfl⟩
  kept := fun T hT => by rw [List.mem_singleton.mp hT]; exact h
  two := two1
theorem tsA : TurnedSays 4 0 (rdN landP) sR (sH.map toI) [[1, 2]] := ts1 ⟨by decide, by decide, by decide, by decide, fun p hp q e => by
  rcases nx4 e with ⟨_, e⟩ | ⟨_, e⟩ | ⟨_, e⟩ | ⟨_, e⟩ <;> cases e <;> decide⟩
theorem tsB : TurnedSays 4 0 (rdN landP) sR (sH.map toI) [[2, 1, 3]] := ts1 ⟨by decide, by decide, by decide, by decide, fun p hp q e => by
  rcases nx4 e with ⟨_, e⟩ | ⟨_, e⟩ | ⟨_, e⟩ | ⟨_, e⟩ <;> cases e <;> decide⟩
theorem ts_len {ls : List (List Int)} (h : ls.length ≠ 1) : ¬ TurnedSays 4 0 (rdN landP) sR (sH.map toI) ls := fun z => by
  obtain ⟨t', e1, _, _, _, _, e2⟩ := z.signs
  have e3 := toI_inj e1
  rw [← e3] at e2
  exact h e2.symm
theorem ts_kept {S : List Int} (h : ¬ KeptSays 4 0 sR S) : ¬ TurnedSays 4 0 (rdN landP) sR (sH.map toI) [S] := fun z => h (z.kept S List.mem_cons_self)
def casT : List (List (List Int) × Bool) := [([[1, 2]], true), ([[2, 1, 3]], true), ([[1, 2], [3]], false), ([[]], false)] ++ [([[0, 1, 2]], false), ([[1, 1, 2]], false), ([[1, 2, 9]], false), ([[3]], false)] ++ [([], false)]
theorem casT_ok : ∀ x b, (x, b) ∈ casT → dec (TurnedSays 4 0 (rdN landP) sR (sH.map toI) x) = b := fun x b h => by
  simp only [casT, List.append_assoc, List.cons_append, List.nil_append, List.mem_cons, Prod.mk.injEq, List.not_mem_nil, or_false] at h
  rcases h with ⟨rfl, rfl⟩ | ⟨rfl, rfl⟩ | ⟨rfl, rfl⟩ | ⟨rfl, rfl⟩ | ⟨rfl, rfl⟩ | ⟨rfl, rfl⟩ | ⟨rfl, rfl⟩ | ⟨rfl, rfl⟩ | ⟨rfl, rfl⟩
  · exact dec_t tsA
  · exact dec_t tsB
  · exact dec_f (ts_len (by decide))
  · exact dec_f (ts_kept fun z => z.ne rfl)
  · exact dec_f (ts_kept fun z => z.home (by decide))
  · exact dec_f (ts_kept fun z => by have := z.nd; revert this; decide)
  · exact dec_f (ts_kept fun z => by have := z.rg 9 (by decide); omega)
  · exact dec_f (ts_kept fun z => by have := z.kept 3 (by decide) 2 rfl; revert this; decide)
  · exact dec_f (ts_len (by decide))
theorem sR_wf : Wf 4 sR := ⟨rfl, fun p q e => by rcases nx4 e with ⟨rfl, e⟩ | ⟨rfl, e⟩ | ⟨rfl, e⟩ | ⟨rfl, e⟩ <;> cases e <;> decide⟩
theorem sH_wf : Wf 4 sH := ⟨rfl, fun p q e => by rcases nx4 e with ⟨rfl, e⟩ | ⟨rfl, e⟩ | ⟨rfl, e⟩ | ⟨rfl, e⟩ <;> cases e <;> decide⟩
theorem tsR : ¬ TurnedSays 4 0 (rdN landP) sR (sR.map toI) [] := fun z => by
  obtain ⟨t', e1, _, _, _, c, _⟩ := z.signs
  have e3 := toI_inj e1
  rw [← e3] at c
  exact no_reach sR_wf (p := 1) (by decide) (by rfl) (c 1 (by decide))
def sC : List (Option Nat) := [none, some 0, some 1, none]
theorem sC_wf : Wf 4 sC := ⟨rfl, fun p q e => by rcases nx4 e with ⟨rfl, e⟩ | ⟨rfl, e⟩ | ⟨rfl, e⟩ | ⟨rfl, e⟩ <;> cases e <;> decide⟩
theorem tsC : ¬ TurnedSays 4 0 (rdN landP) sR (sC.map toI) [[1, 2]] := fun z => by
  obtain ⟨t', e1, _, _, _, c, _⟩ := z.signs
  have e3 := toI_inj e1
  rw [← e3] at c
  exact no_reach sC_wf (p := 3) (by decide) (by rfl) (c 3 (by decide))
/-- no way home: of three places two -/
def casS : List (List Int × Bool) := [([1, 2], true), ([1, 2, 2], true), ([0, 1, 2], false), ([1], false), ([], false)] ++ [([1, 2, 3], false)]
theorem outS {S : List Int} (h1 : (1 : Int) ∈ S) (h2 : (2 : Int) ∈ S) : ∀ p q : Nat, (p, q) ∈ rdN landS → (p : Int) ∈ S → (q : Int) ∈ S := fun p q m _ => by
  have m' : (p, q) = (1, 2) ∨ (p, q) = (2, 1) := by
    have : (p, q) ∈ [(1, 2), (2, 1)] := m
    simpa using this
  rcases m' with e | e <;> cases e
  · exact h2
  · exact h1
theorem casS_ok : ∀ x b, (x, b) ∈ casS → dec (ShutSays 3 0 (rdN landS) x) = b := fun x b h => by
  simp only [casS, List.cons_append, List.nil_append, List.mem_cons, Prod.mk.injEq, List.not_mem_nil, or_false] at h
  rcases h with ⟨rfl, rfl⟩ | ⟨rfl, rfl⟩ | ⟨rfl, rfl⟩ | ⟨rfl, rfl⟩ | ⟨rfl, rfl⟩ | ⟨rfl, rfl⟩
  · exact dec_t ⟨by decide, by decide, by decide, outS (by decide) (by decide)⟩
  · exact dec_t ⟨by decide, by decide, by decide, outS (by decide) (by decide)⟩
  · exact dec_f fun z => z.home (by decide)
  · exact dec_f fun z => by have := z.out 1 2 (by decide) (by decide); revert this; decide
  · exact dec_f fun z => z.ne rfl
  · exact dec_f fun z => by have := z.rg 3 (by decide); omega
/-- what fewest must tell -/
theorem fewA {e : Few} (h : FewOk 4 0 (rdN landP) sR e) : ∃ ls : List (List Nat), e = .turned sH ls ∧ ls.length = 1 := by
  cases e with
  | shut S =>
    have z := ShutOk.says h
    have ne := z.ne
    obtain ⟨p, hp⟩ := List.exists_mem_of_ne_nil _ ne
    have s1 : (1 : Int) ∈ toJ S := by
      obtain ⟨p0, p4⟩ := z.rg p hp
      rcases (by omega : p = 0 ∨ p = 1 ∨ p = 2 ∨ p = 3) with rfl | rfl | rfl | rfl
      · exact absurd hp z.home
      · exact hp
      · exact z.out 2 1 (by decide) hp
      · exact z.out 2 1 (by decide) (z.out 3 2 (by decide) hp)
    exact absurd (z.out 1 0 (by decide) s1) z.home
  | turned t ls =>
    have h : TurnedOk 4 0 (rdN landP) sR t ls := h
    obtain ⟨a, b, c, d, rfl⟩ : ∃ a b c d, t = [a, b, c, d] := by
      have := h.len
      match t, this with
      | [a, b, c, d], _ => exact ⟨a, b, c, d, rfl⟩
    have al : ∀ p q, nx [a, b, c, d] p = some q → (p, q) = (1, 0) ∨ (p, q) = (1, 2) ∨ (p, q) = (2, 1) ∨ (p, q) = (2, 3) ∨ (p, q) = (3, 2) := fun p q e => by
      have : (p, q) ∈ [(1, 0), (1, 2), (2, 1), (2, 3), (3, 2)] := h.along p q e
      simpa using this
    have wf : Wf 4 [a, b, c, d] := ⟨rfl, fun p q e => by
      rcases al p q e with z | z | z | z | z <;> cases z <;> decide⟩
    have ha : a = none := h.home
    obtain ⟨q3, n3, _⟩ := reach_of (h.come 3 (by decide)) (by decide)
    obtain ⟨q2, n2, _⟩ := reach_of (h.come 2 (by decide)) (by decide)
    obtain ⟨q1, n1, _⟩ := reach_of (h.come 1 (by decide)) (by decide)
    have d3 := al _ _ n3
    have d2 := al _ _ n2
    have d1 := al _ _ n1
    have hd : d = some q3 := n3
    have hc : c = some q2 := n2
    have hb : b = some q1 := n1
    subst ha hd hc hb
    simp at d3 d2 d1
    subst d3
    have r1 := h.come 1 (by decide)
    have r2 := h.come 2 (by decide)
    have lg := h.many
    rcases d2 with rfl | rfl
    · rcases d1 with rfl | rfl
      · exact ⟨ls, rfl, lg.symm⟩
      · exact absurd r1 (no_reach wf (by decide) (by rfl))
    · rcases d1 with rfl | rfl
      · exact absurd r2 (no_reach wf (by decide) (by rfl))
      · exact absurd r2 (no_reach wf (by decide) (by rfl))
theorem fewB {s : List (Option Nat)} {e : Few} (h : FewOk 3 0 (rdN landS) s e) : ∃ S : List Nat, e = .shut S := by
  cases e with
  | shut S => exact ⟨S, rfl⟩
  | turned t ls =>
    have h : TurnedOk 3 0 (rdN landS) s t ls := h
    obtain ⟨a, b, c, rfl⟩ : ∃ a b c, t = [a, b, c] := by
      have := h.len
      match t, this with
      | [a, b, c], _ => exact ⟨a, b, c, rfl⟩
    have al : ∀ p q, nx [a, b, c] p = some q → (p, q) = (1, 2) ∨ (p, q) = (2, 1) := fun p q e => by
      have : (p, q) ∈ [(1, 2), (2, 1)] := h.along p q e
      simpa using this
    have wf : Wf 3 [a, b, c] := ⟨rfl, fun p q e => by
      rcases al p q e with z | z <;> cases z <;> decide⟩
    have ha : a = none := h.home
    obtain ⟨q2, n2, _⟩ := reach_of (h.come 2 (by decide)) (by decide)
    obtain ⟨q1, n1, _⟩ := reach_of (h.come 1 (by decide)) (by decide)
    have d2 := al _ _ n2
    have d1 := al _ _ n1
    have hc : c = some q2 := n2
    have hb : b = some q1 := n1
    subst ha hc hb
    simp at d2 d1
    subst d2 d1
    exact absurd (h.come 1 (by decide)) (no_reach wf (by decide) (by rfl))
theorem fewC {e : Few} (h : FewOk 1 0 (rdN []) [none] e) : e = .turned [none] [] := by
  cases e with
  | shut S =>
    have z := ShutOk.says h
    obtain ⟨p, hp⟩ := List.exists_mem_of_ne_nil _ z.ne
    obtain ⟨p0, p1⟩ := z.rg p hp
    obtain rfl : p = 0 := by omega
    exact absurd hp z.home
  | turned t ls =>
    have h : TurnedOk 1 0 (rdN []) [none] t ls := h
    obtain ⟨a, rfl⟩ : ∃ a, t = [a] := by
      have := h.len
      match t, this with
      | [a], _ => exact ⟨a, rfl⟩
    have ha : a = none := h.home
    subst ha
    have lg : 0 = ls.length := h.many
    rw [List.length_eq_zero_iff.mp lg.symm]

end
end Sg
namespace Sg
set_option autoImplicit false
open PySem L2 Evl Big
open PyProof.Rows (envOfC)
section
variable {P : Program} {w : World} {K : PySem.W.Frag} {mg : Str → Option Value} {base : Heap} {ad : Ads}
theorem nx_bare (m a : Nat) : nx (List.replicate m none) a = none := by
  unfold nx
  rw [List.getElem?_replicate]
  split <;> rfl
theorem q_parAP {σ : L2.St} {H : Hp} {D : Ends} {tz : TS} {ta : TA} {i j : Nat} {P : List V → Hp → Prop} (h : EvAP ta σ H P) (k : ∀ vs H1, Ex H H1 → P vs H1 → ∃ x y, vs = [x, y] ∧ tz D ((σ.set i (some x)).set j (some y)) H1) : tSeq (tPar i j ta) tz D σ H := h H (Ex.refl _) _ fun vs H1 e p => by
  obtain ⟨x, y, rfl, q⟩ := k vs H1 e p
  exact ⟨x, y, rfl, q⟩
def LV (xs : List V) (v : V) (H : Hp) : Prop := ∃ a, v = .ref a ∧ H a = some (.lst xs)
theorem lv_mono {xs : List V} (v : V) (H H' : Hp) (e : Ex H H') (h : LV xs v H) : LV xs v H' := by
  obtain ⟨a, h1, h2⟩ := h
  exact ⟨a, h1, e _ _ h2⟩
theorem lv_v {σ : L2.St} {H : Hp} {te : TE} {a : Addr} {xs : List V} (h : Ev te σ H (.ref a)) (ha : H a = some (.lst xs)) : EvP te σ H (LV xs) := fun H1 e Q q => h H1 e _ fun H2 e2 => q _ _ e2 ⟨a, rfl, (e.trans e2) _ _ ha⟩
theorem lv_l {σ : L2.St} {H : Hp} {te : TE} {xs : List V} (h : EvL te σ H xs) : EvP te σ H (LV xs) := evp_l h fun a H1 _ _ h1 => ⟨a, rfl, h1⟩
theorem evp_TG {σ : L2.St} {H : Hp} {tl ts : TE} {t : List (Option Int)} {ls : List (List Int)} (hs : EvP tl σ H (LV (t.map oV))) (hl : EvP ts σ H (fun v H' => ∃ a, v = .ref a ∧ CS a ls H')) (tz : t.length ≤ 100) (lz : ls.length ≤ 100) (lzs : ∀ S ∈ ls, S.length ≤ 100) :
    EvP (tMake ad.Turned (sp_Turned_hand K ad.Turned) [] C8.E0 (tCons tl (tCons ts tNil))) σ H (fun v H' => ∃ x fa ga js, v = .ref x ∧ js.map (fun q => q.2) = ls ∧ HandAt ad H H' x fa ga t js) := by
  refine (evp_makeH (ad := ad) (K := K) (R := fun s l => s = t ∧ l = ls) (eap_p hs lv_mono (eap_p hl (fun v H1 H2 e ⟨a, z1, z2⟩ => ⟨a, z1, cs_mono _ _ _ _ e z2⟩) eap_nil)) fun vs H1 e ⟨x1, r1, e1, ⟨p, e2, hp⟩, x2, r2, e3, ⟨b, e4, vs2, hb, ks, k1, k2, k3⟩, e5⟩ => ?_).weak fun v H1 _ ⟨x, fa, ga, s, js, e1, ⟨e2, e3⟩, hH⟩ => ⟨x, fa, ga, js, e1, e3, e2 ▸ hH⟩
  subst e5 e4 e3 e2 e1 k1
  refine ⟨p, b, t, ks, rfl, sq_of hp, sq_of hb, fun q hq => sq_of (k2 q hq), by omega, ?_, fun q hq => ?_, rfl, k3⟩
  · have := congrArg List.length k3
    rw [List.length_map] at this
    omega
  · have := lzs q.2 (by rw [← k3]; exact List.mem_map.mpr ⟨q, hq, rfl⟩)
    omega
/-- Turned(signs, sets).shows(land, signs) -/
theorem ev_TsG {σ : L2.St} {H : Hp} {tl ts tv t2 : TE} {t : List (Option Int)} {ls : List (List Int)} {lv : V} {n h : Int} {rs : List (Int × Int)} {s : List (Option Nat)} (hs : EvP tl σ H (LV (t.map oV))) (hl : EvP ts σ H (fun v H' => ∃ a, v = .ref a ∧ CS a ls H')) (h1 : Ev tv σ H lv) (hL : LandAt K H lv n h rs) (L : LandOk' n h rs) (h2 : EvP t2 σ H (LV (s.map nV))) (w : Wf n.toNat s)
    (tz : t.length ≤ 100) (lz : ls.length ≤ 100) (lzs : ∀ S ∈ ls, S.length ≤ 100) :
    Ev (tMeth ad.Turned "shows" (sp_Turned_shows K ad.Turned) [] C8.E0 (tMake ad.Turned (sp_Turned_hand K ad.Turned) [] C8.E0 (tCons tl (tCons ts tNil))) (tCons tv (tCons t2 tNil))) σ H (.bl (dec (TurnedSays n.toNat h.toNat (rdN rs) s t ls))) :=
  ev_methPA (evp_TG (ad := ad) hs hl tz lz lzs) fun v H1 e ⟨x, fa, ga, js, e1, e2, hH⟩ => by
    obtain ⟨dx, ob⟩ := hH.ob
    refine ⟨x, dx, _, _, e1, ob, by rw [lookup_putF, if_neg (show ¬ ("shows" : Str) = "sets" by decide), lookup_putF, if_neg (show ¬ ("shows" : Str) = "signs" by decide)]; rfl, eap_v (h1.mono e) (eap_p (h2.mono e) lv_mono eap_nil), fun vs H2 a2 ⟨r1, z1, x2, r2, z2, ⟨p, z4, hp⟩, z3⟩ H3 a3 Q q E => ?_⟩
    subst z4 z3 z2 z1
    have jl : js.length ≤ 100 := by have := congrArg List.length e2; rw [List.length_map] at this; omega
    have hand : HandT K H1 ad.Turned x t js fa ga := hH.hand (by omega) fun q hq => by have := lzs q.2 (by rw [← e2]; exact List.mem_map.mpr ⟨q, hq, rfl⟩); omega
    exact ⟨x, fa, ga, p, lv, n, h, rs, s, t, js, rfl, hand.mono (a2.trans a3), hL.mono ((e.trans a2).trans a3), L, sq_of (a3 _ _ hp), w, by rw [e2]; exact fun H4 a4 => q H4 a4⟩
/-- Shut(places).shows(land, signs) -/
theorem ev_SsG {σ : L2.St} {H : Hp} {tl t2 tv : TE} {S : List Int} {n h : Int} {rs : List (Int × Int)} {lv : V} {ys : List V} (hs : EvP tl σ H (LV (S.map V.int))) (sz : S.length ≤ 100) (h1 : Ev tv σ H lv) (hL : LandAt K H lv n h rs) (L : LandOk' n h rs) (h2 : EvP t2 σ H (LV ys)) :
    Ev (tMeth ad.Shut "shows" (sp_Shut_shows K ad.Shut) [] C8.E0 (tMake ad.Shut (sp_Round_init K ad.Shut "places") [] C8.E0 (tCons tl tNil)) (tCons tv (tCons t2 tNil))) σ H (.bl (dec (ShutSays n.toNat h.toNat (rdN rs) S))) :=
  ev_methPA (evp_makeA (f := "places") (Post := fun fv H' => ∃ D, fv = .ref D ∧ H' D = some (.lst (S.map V.int))) (eap_p hs lv_mono eap_nil) fun vs H1 a1 ⟨x1, r, e2, ⟨p, e4, hp⟩, e3⟩ => by
    subst e4 e2 e3
    intro H2 e2 x dx Q E hx0 hx k
    exact init_places (Ex.refl H1) (sq_of hp) (by omega) H2 e2 x dx Q E hx0 hx fun H3 fv g1 g2 ⟨D, z1, _, z3⟩ => k H3 fv g1 g2 ⟨D, z1, z3⟩) fun v H1 e ⟨x, dx, fv, e2, hx0, hx, D, e3, hD⟩ => by
    subst e3
    refine ⟨x, dx, _, _, e2, hx, no1 _ (show ¬ ("shows" : Str) = "places" by decide), eap_v (h1.mono e) (eap_p (h2.mono e) lv_mono eap_nil), fun vs H2 a2 ⟨r1, z1, x2, r2, z2, ⟨p, z4, hp⟩, z3⟩ H3 a3 Q q E => ?_⟩
    subst z4 z3 z2 z1
    exact ⟨x, dx, D, lv, .ref p, n, h, rs, S, rfl, (a2.trans a3) _ _ hx, sq_of ((a2.trans a3) _ _ hD), hL.mono ((e.trans a2).trans a3), L, fun H4 a4 => q H4 a4⟩
theorem evp_few {σ : L2.St} {H : Hp} {t1 t2 : TE} {n h : Int} {rs : List (Int × Int)} {s : List (Option Nat)} {ys : List V} (h1 : EvP t1 σ H (fun v H' => LandAt K H' v n h rs)) (h2 : EvP t2 σ H (LV ys)) (ey : ys = s.map nV) (ok : LandOk n h rs) (so : SignsOk n h rs s) : EvP (tCall (sp_fewest K ad) [] C8.E0 (tCons t1 (tCons t2 tNil))) σ H (FewestAt ad H n.toNat h.toNat (rdN rs) s) := fun H1 e Q q =>
  (eap_p h1 (fun v H1 H2 e z => z.mono e) (eap_p h2 lv_mono eap_nil)) H1 e _ fun vs H2 e2 ⟨lv, r1, z1, hL, x2, r2, z2, ⟨p, z4, hp⟩, z3⟩ => by
    subst z4 z3 z2 z1 ey
    exact ⟨lv, .ref p, n, h, rs, s, rfl, ⟨hL, ok, ⟨p, rfl, sq_of hp⟩, so⟩, fun v H3 e3 z => q v H3 (e2.trans e3) (z.back (e.trans e2))⟩
theorem ev_isCP {σ : L2.St} {H : Hp} {te : TE} {C D : Addr} {b : Bool} (h : EvP te σ H (fun v H' => ∃ x dx fs, v = .ref x ∧ H' x = some (.ins C dx fs))) (c : Cls K C) (o : OwnTy K C) (ki : PySem.W.kitOne K (.ref C) (.ref D) = some b) :
    Ev (tCB (rIsi K) (tCons te (tCons (tC (.ref D)) tNil))) σ H (.bl b) := fun H1 e Q q =>
  h H1 e _ fun v H2 e2 ⟨x, dx, fs, e3, hx⟩ => by
    subst e3
    exact ⟨.ref x, .ref D, _, _, b, rfl, .own D, .base (.ins hx c o.ha o.hn o.htk o.hm), ki, q H2 e2⟩
theorem ev_op2P {σ : L2.St} {H : Hp} {ta tb : TE} {r : R2} {z : V} {P1 P2 : V → Hp → Prop} (ha : EvP ta σ H P1) (hb : EvP tb σ H P2) (hm : ∀ v H1 H2, Ex H1 H2 → P1 v H1 → P1 v H2) (hr : ∀ x y H1, Ex H H1 → P1 x H1 → P2 y H1 → RV r x y H1 z) : Ev (tOp r ta tb) σ H z := fun H1 e Q q =>
  ha H1 e _ fun x H2 e2 p1 => hb H2 (e.trans e2) _ fun y H3 e3 p2 => hr x y H3 ((e.trans e2).trans e3) (hm _ _ _ e3 p1) p2 H3 (Ex.refl _) Q fun H4 e4 => q H4 ((e2.trans e3).trans e4)
/-- data, written out -/
def DV (K : PySem.W.Frag) (d : PyData) (v : V) (H : Hp) : Prop := Dp K H v d
def DVs (K : PySem.W.Frag) (ds : List PyData) (vs : List V) (H : Hp) : Prop := DpAll K H vs ds
theorem dv_mono {d : PyData} (v : V) (H1 H2 : Hp) (e : Ex H1 H2) (h : DV K d v H1) : DV K d v H2 := dp_up e h
theorem dvs_mono : ∀ {ds : List PyData} (vs : List V) (H1 H2 : Hp) (e : Ex H1 H2) (h : DVs K ds vs H1), DVs K ds vs H2
  | _, _, _, _, _, .nil => .nil
  | _, _, _, _, e, .cons a b => .cons (dp_up e a) (dvs_mono _ _ _ e b)
theorem dvs_len : ∀ {ds : List PyData} {vs : List V} {H : Hp}, DVs K ds vs H → vs.length = ds.length
  | _, _, _, .nil => rfl
  | _, _, _, .cons _ b => by rw [List.length_cons, List.length_cons, dvs_len b]
theorem edv_c {σ : L2.St} {H : Hp} {v : V} {d : PyData} (h : ∀ H, Dp K H v d) : EvP (tC v) σ H (DV K d) := evp_of ev_c fun H1 _ => h H1
theorem edv_nil {σ : L2.St} {H : Hp} : EvAP tNil σ H (DVs K []) := fun H1 _ _ q => q [] H1 (Ex.refl _) .nil
theorem edv_cons {σ : L2.St} {H : Hp} {te : TE} {tr : TA} {d : PyData} {ds : List PyData} (h : EvP te σ H (DV K d)) (hr : EvAP tr σ H (DVs K ds)) : EvAP (tCons te tr) σ H (DVs K (d :: ds)) := fun H1 e Q q =>
  eap_p h dv_mono hr H1 e _ fun vs H2 e2 ⟨x, r, e1, px, pr⟩ => q _ _ e2 (by subst e1; exact .cons px pr)
theorem edv_lst {σ : L2.St} {H : Hp} {ta : TA} {ds : List PyData} (h : EvAP ta σ H (DVs K ds)) (hz : ds.length ≤ 100 := by decide) : EvP (tLst ta) σ H (DV K (.list ds)) :=
  (evp_lstA h dvs_mono fun vs H1 p => by rw [dvs_len p]; omega).weak fun v H1 _ ⟨r, vs, e1, _, h1, c⟩ => by subst e1; exact Dp.lst (sq_of h1) c
theorem edv_tup {σ : L2.St} {H : Hp} {ta : TA} {ds : List PyData} (h : EvAP ta σ H (DVs K ds)) (hz : ds.length ≤ 100 := by decide) : EvP (tTup ta) σ H (DV K (.tuple ds)) :=
  (evp_tup h dvs_mono fun vs H1 p => by rw [dvs_len p]; omega).weak fun v H1 _ ⟨r, vs, e1, h1, c⟩ => by subst e1; exact Dp.tup (st_of h1) c
theorem comers_l {s : List (Option Nat)} {g : Nat} (w : Wf s.length s) : comers s g = (List.range s.length).filter fun q => decide (g ∈ (walkd s q).1) := by
  unfold comers
  exact List.filter_congr fun q hq => reachB_walk w (List.mem_range.mp hq)
def sp_tr (K : PySem.W.Frag) : Sp := fun vs H Q _ => ∃ lv, vs = [lv] ∧ LandAt K H lv 4 0 landP ∧ RetV (.bl true) H Q
theorem ok_tr (T : Txt K mg ad) : C8.Cal P w K mg base 8 "_law_turned_right" (sp_tr K) [] := by
  have c_fewest : C8.Cal P w K mg base 7 "fewest" (sp_fewest K ad) [] := ok_fewest T
  have c_home_from : C8.Cal P w K mg base 7 "home_from" (sp_home_from K) [] := ok_home_from T
  have m_Turned : C8.Mak P w K mg base 2 "Turned" ad.Turned (sp_Turned_hand K ad.Turned) [] := ok_Turned_hand T
  have m_Turned_shows : C8.Met P w K mg base 4 ad.Turned "shows" (sp_Turned_shows K ad.Turned) [] := ok_Turned_shows T
  have m_Shut : C8.Mak P w K mg base 2 "Shut" ad.Shut (sp_Round_init K ad.Shut "places") [] := ok_Shut_init T
  have m_Shut_shows : C8.Met P w K mg base 3 ad.Shut "shows" (sp_Shut_shows K ad.Shut) [] := ok_Shut_shows T
  refine cal_of T.d__law_turned_right sc__law_turned_right (fun _ _ _ _ _ _ us hl => match us, hl with | [_], _ => rfl) (fun vs H Q E h => ?_) (fun f cdv A outer st H vs Q E hr h => ?_)
  · obtain ⟨lv, rfl, _⟩ := h; rfl
  · obtain ⟨lv, rfl, hL, k⟩ := h
    refine ⟨_, (pss_cons (ps_par (i := 1) (j := 2) (by rfl) sc__law_turned_right.nd rfl rfl (by decide) rfl rfl (pa_cons (pe_lst (pa_cons pe_non (pa_cons pe_int (pa_cons pe_int (pa_cons pe_int pa_nil))))) (pa_cons (pe_lst (pa_cons pe_non (pa_cons pe_int (pa_cons pe_int (pa_cons pe_int pa_nil))))) pa_nil)) (by rfl))
  (pss_cons (ps_set (i := 3) sc__law_turned_right.nd rfl (Or.inl rfl) (C8.pe_c c_fewest hr (by decide) rfl (pa_cons (pv 0) (pa_cons (pv 1) pa_nil))))
  (pss_cons (ps_if (PW.pt (pw_or (pt_not (pt_val (pe_callB (k_isi K) (by rfl) T.n_isinstance (by decide +kernel) (pa_cons (pv 3) (pa_cons (pe_glob (v := .ref ad.Turned) rfl T.g_Turned rfl) pa_nil))))) (pw_or (pt_cmpR op_ne (pe_callB (k_len K) (by rfl) T.n_len PySem.boot_len (pa_cons (k_fld K (pv 3)) pa_nil)) pe_int (nomark _)) (pw_or1 (pt_cmpR (k_neD K hr.units) (k_fld K (pv 3)) (pv 2) (nomark _)))))) (pss_one (ps_ret pe_bl)) pss_nil)
  (pss_cons (ps_if (pt_not (k_tru K (C8.pe_mt m_Turned_shows hr (by decide) (C8.pe_mk m_Turned hr (by decide) rfl (pa_cons (pv 2) (pa_cons (pe_lst pa_nil) pa_nil))) (pa_cons (pv 0) (pa_cons (pv 2) pa_nil))))) (pss_one (ps_ret pe_bl)) pss_nil)
  (pss_cons (ps_set (i := 4) sc__law_turned_right.nd rfl (Or.inl rfl) (pe_lst (pa_cons (pe_tup (pa_cons (pe_lst (pa_cons (pe_lst (pa_cons pe_int (pa_cons pe_int pa_nil))) pa_nil)) (pa_cons pe_bl pa_nil))) (pa_cons (pe_tup (pa_cons (pe_lst (pa_cons (pe_lst (pa_cons pe_int (pa_cons pe_int (pa_cons pe_int pa_nil)))) pa_nil)) (pa_cons pe_bl pa_nil))) (pa_cons (pe_tup (pa_cons (pe_lst (pa_cons (pe_lst (pa_cons pe_int (pa_cons pe_int pa_nil))) (pa_cons (pe_lst (pa_cons pe_int pa_nil)) pa_nil))) (pa_cons pe_bl pa_nil))) (pa_cons (pe_tup (pa_cons (pe_lst (pa_cons (pe_lst pa_nil) pa_nil)) (pa_cons pe_bl pa_nil))) pa_nil))))))
  (pss_cons (ps_set (i := 4) sc__law_turned_right.nd rfl (Or.inl rfl) (pe_op op_cat (pv 4) (pe_lst (pa_cons (pe_tup (pa_cons (pe_lst (pa_cons (pe_lst (pa_cons pe_int (pa_cons pe_int (pa_cons pe_int pa_nil)))) pa_nil)) (pa_cons pe_bl pa_nil))) (pa_cons (pe_tup (pa_cons (pe_lst (pa_cons (pe_lst (pa_cons pe_int (pa_cons pe_int (pa_cons pe_int pa_nil)))) pa_nil)) (pa_cons pe_bl pa_nil))) (pa_cons (pe_tup (pa_cons (pe_lst (pa_cons (pe_lst (pa_cons pe_int (pa_cons pe_int (pa_cons pe_int pa_nil)))) pa_nil)) (pa_cons pe_bl pa_nil))) (pa_cons (pe_tup (pa_cons (pe_lst (pa_cons (pe_lst (pa_cons pe_int pa_nil)) pa_nil)) (pa_cons pe_bl pa_nil))) pa_nil)))))))
  (pss_cons (ps_set (i := 4) sc__law_turned_right.nd rfl (Or.inl rfl) (pe_op op_cat (pv 4) (pe_lst (pa_cons (pe_tup (pa_cons (pe_lst pa_nil) (pa_cons pe_bl pa_nil))) pa_nil))))
  (pss_cons (ps_for PassesOwn.never rfl (k_il K (pv 4)) (k_gt K (n := 2) (by rfl) (pgs_cons (pg_name (i := 5) sc__law_turned_right.nd rfl (Or.inl rfl)) (pgs_cons (pg_name (i := 6) sc__law_turned_right.nd rfl (Or.inl rfl)) pgs_nil)))
    (pss_one (ps_if (pt_cmpR op_ne (C8.pe_mt m_Turned_shows hr (by decide) (C8.pe_mk m_Turned hr (by decide) rfl (pa_cons (pv 2) (pa_cons (pv 5) pa_nil))) (pa_cons (pv 0) (pa_cons (pv 1) pa_nil))) (pv 6) (nomark _)) (pss_one (ps_ret pe_bl)) pss_nil)))
  (pss_cons (ps_if (PW.pt (pw_or (k_tru K (C8.pe_mt m_Turned_shows hr (by decide) (C8.pe_mk m_Turned hr (by decide) rfl (pa_cons (pv 1) (pa_cons (pe_lst pa_nil) pa_nil))) (pa_cons (pv 0) (pa_cons (pv 1) pa_nil)))) (pw_or1 (k_tru K (C8.pe_mt m_Turned_shows hr (by decide) (C8.pe_mk m_Turned hr (by decide) rfl (pa_cons (pe_lst (pa_cons pe_non (pa_cons pe_int (pa_cons pe_int (pa_cons pe_non pa_nil))))) (pa_cons (pe_lst (pa_cons (pe_lst (pa_cons pe_int (pa_cons pe_int pa_nil))) pa_nil)) pa_nil))) (pa_cons (pv 0) (pa_cons (pv 1) pa_nil))))))) (pss_one (ps_ret pe_bl)) pss_nil)
  (pss_cons (ps_set (i := 7) sc__law_turned_right.nd rfl (Or.inl rfl) (pe_tup (pa_cons pe_int (pa_cons pe_int (pa_cons (pe_lst (pa_cons (pe_tup (pa_cons pe_int (pa_cons pe_int pa_nil))) (pa_cons (pe_tup (pa_cons pe_int (pa_cons pe_int pa_nil))) pa_nil))) pa_nil)))))
  (pss_cons (ps_if (pt_not (pt_val (pe_callB (k_isi K) (by rfl) T.n_isinstance (by decide +kernel) (pa_cons (C8.pe_c c_fewest hr (by decide) rfl (pa_cons (pv 7) (pa_cons (pe_lst (pa_cons pe_non (pa_cons pe_int (pa_cons pe_non pa_nil)))) pa_nil))) (pa_cons (pe_glob (v := .ref ad.Shut) rfl T.g_Shut rfl) pa_nil))))) (pss_one (ps_ret pe_bl)) pss_nil)
  (pss_cons (ps_set (i := 4) sc__law_turned_right.nd rfl (Or.inl rfl) (pe_lst (pa_cons (pe_tup (pa_cons (pe_lst (pa_cons pe_int (pa_cons pe_int pa_nil))) (pa_cons pe_bl pa_nil))) (pa_cons (pe_tup (pa_cons (pe_lst (pa_cons pe_int (pa_cons pe_int (pa_cons pe_int pa_nil)))) (pa_cons pe_bl pa_nil))) (pa_cons (pe_tup (pa_cons (pe_lst (pa_cons pe_int (pa_cons pe_int (pa_cons pe_int pa_nil)))) (pa_cons pe_bl pa_nil))) (pa_cons (pe_tup (pa_cons (pe_lst (pa_cons pe_int pa_nil)) (pa_cons pe_bl pa_nil))) (pa_cons (pe_tup (pa_cons (pe_lst pa_nil) (pa_cons pe_bl pa_nil))) pa_nil)))))))
  (pss_cons (ps_set (i := 4) sc__law_turned_right.nd rfl (Or.inl rfl) (pe_op op_cat (pv 4) (pe_lst (pa_cons (pe_tup (pa_cons (pe_lst (pa_cons pe_int (pa_cons pe_int (pa_cons pe_int pa_nil)))) (pa_cons pe_bl pa_nil))) pa_nil))))
  (pss_cons (ps_for PassesOwn.never rfl (k_il K (pv 4)) (k_gt K (n := 2) (by rfl) (pgs_cons (pg_name (i := 8) sc__law_turned_right.nd rfl (Or.inl rfl)) (pgs_cons (pg_name (i := 6) sc__law_turned_right.nd rfl (Or.inl rfl)) pgs_nil)))
    (pss_one (ps_if (pt_cmpR op_ne (C8.pe_mt m_Shut_shows hr (by decide) (C8.pe_mk m_Shut hr (by decide) rfl (pa_cons (pv 8) pa_nil)) (pa_cons (pv 7) (pa_cons (pe_lst (pa_cons pe_non (pa_cons pe_int (pa_cons pe_non pa_nil)))) pa_nil))) (pv 6) (nomark _)) (pss_one (ps_ret pe_bl)) pss_nil)))
  (pss_cons (ps_set (i := 3) sc__law_turned_right.nd rfl (Or.inl rfl) (C8.pe_c c_fewest hr (by decide) rfl (pa_cons (pe_tup (pa_cons pe_int (pa_cons pe_int (pa_cons (pe_lst pa_nil) pa_nil)))) (pa_cons (pe_lst (pa_cons pe_non pa_nil)) pa_nil))))
  (pss_one (ps_ret (pe_and (pe_cmpR (k_eqD K hr.units) (pe_tup (pa_cons (k_fld K (pv 3)) (pa_cons (k_fld K (pv 3)) pa_nil))) (pe_tup (pa_cons (pe_lst (pa_cons pe_non pa_nil)) (pa_cons (pe_lst pa_nil) pa_nil))) (nomark _)) (pe_one (pe_cmpR (k_eqD K hr.units) (C8.pe_c c_home_from hr (by decide) rfl (pa_cons (pe_tup (pa_cons pe_int (pa_cons pe_int (pa_cons (pe_lst pa_nil) pa_nil)))) (pa_cons (pe_lst (pa_cons pe_non pa_nil)) pa_nil))) (pe_lst (pa_cons pe_int pa_nil)) (nomark _))))))))))))))))))))), ?_⟩
    have L := landP_ok.all
    have LS := landS_ok.all
    have oR : (sR.map toI).map oV = sR.map nV := oV_map sR
    have oH : (sH.map toI).map oV = sH.map nV := oV_map sH
    have oC : (sC.map toI).map oV = sC.map nV := oV_map sC
    refine q_par2 (eap_ll (el_lst (vs := sR.map nV) (ea_cons ev_c (ea_cons ev_c (ea_cons ev_c (ea_cons ev_c ea_nil)))) (by decide)) (el_lst (vs := sH.map nV) (ea_cons ev_c (ea_cons ev_c (ea_cons ev_c (ea_cons ev_c ea_nil)))) (by decide))) fun vs H1 a1 ⟨ra, ha, e1, ra0, ha0, nd, hR, hH⟩ => ⟨_, _, e1, ?_⟩
    refine q_asgP (evp_few (n := 4) (h := 0) (rs := landP) (s := sR) (evp_of (ev_var rfl) fun H2 e => hL.mono (a1.trans e)) (lv_v (ev_var rfl) hR) rfl landP_ok (by rfl)) fun v H2 a2 ⟨x, fe, e1, x0, fa, fo⟩ => ?_
    subst e1
    obtain ⟨ls, rfl, l1⟩ := fewA fo
    obtain ⟨sa, ga, ks, TA, e2⟩ := fa
    obtain ⟨dx, ob⟩ := TA.ob
    have kl : ks.length = 1 := by rw [← l1, ← e2, List.length_map]
    have a12 := a1.trans a2
    refine q_when (b := false) (et_is (et_or (a := false) (b := false) (et_is (et_not (et_B (b := true) (ev_isC (ev_var rfl) ob T.cl_Turned T.oc_Turned T.ki_Turned_Turned))) rfl) fun _ => et_or (a := false) (b := false) (et_test (ev_is (ev_op (ev_is (ev_len (K := K) (ev_fld (ev_var rfl) ob T.cl_Turned T.no_Turned_sets (two_sets _ _)) (sq_of TA.gl.lst)) (by rw [List.length_map, kl])) ev_c (rv_ne rfl)) (by rfl))) fun _ => et_test (ev_op (ev_fld (ev_var rfl) ob T.cl_Turned T.no_Turned_signs (two_signs _ _)) (ev_var rfl) (ne_signs (sq_of TA.fl) (sq_of (a2 _ _ hH))))) rfl) (fun z => nomatch z) fun _ H3 a3 => ?_
    have a13 := a12.trans a3
    have hR3 := (a2.trans a3) _ _ hR
    have hH3 := (a2.trans a3) _ _ hH
    refine q_when (b := false) (et_is (et_not (et_tr (b := true) (x := .bl true) (ev_is (ev_TsG (t := sH.map toI) (ls := []) (s := sH) (by rw [oH]; exact lv_v (ev_var rfl) hH3) (cs_of esl_nil) (ev_var rfl) (hL.mono a13) L (lv_v (ev_var rfl) hH3) sH_wf (by decide) (by decide) (by decide)) (congrArg V.bl (dec_t tsH))) fun _ _ => rfl)) rfl) (fun z => nomatch z) fun _ H4 a4 => ?_
    have a14 := a13.trans a4
    refine q_asgP (evp_cas cs_mono (L := [([[1, 2]], true), ([[2, 1, 3]], true), ([[1, 2], [3]], false), ([[]], false)])
      (eca_cons cs_mono (cs_of (esl_cons (el_lst (ea_cons ev_c (ea_cons ev_c ea_nil)) (by decide)) esl_nil))
      (eca_cons cs_mono (cs_of (esl_cons (el_lst (ea_cons ev_c (ea_cons ev_c (ea_cons ev_c ea_nil))) (by decide)) esl_nil))
      (eca_cons cs_mono (cs_of (esl_cons (el_lst (ea_cons ev_c (ea_cons ev_c ea_nil)) (by decide)) (esl_cons (el_lst (ea_cons ev_c ea_nil) (by decide)) esl_nil)))
      (eca_cons cs_mono (cs_of (esl_cons (el_lst ea_nil (by decide)) esl_nil)) eca_nil)))) (by decide)) fun v H5 a5 ⟨r1, vs1, e1, hr1, c1⟩ => ?_
    subst e1
    refine q_asgP (evp_casCat cs_mono (L' := [([[0, 1, 2]], false), ([[1, 1, 2]], false), ([[1, 2, 9]], false), ([[3]], false)]) (ev_var rfl) hr1 c1
      (eca_cons cs_mono (cs_of (esl_cons (el_lst (ea_cons ev_c (ea_cons ev_c (ea_cons ev_c ea_nil))) (by decide)) esl_nil))
      (eca_cons cs_mono (cs_of (esl_cons (el_lst (ea_cons ev_c (ea_cons ev_c (ea_cons ev_c ea_nil))) (by decide)) esl_nil))
      (eca_cons cs_mono (cs_of (esl_cons (el_lst (ea_cons ev_c (ea_cons ev_c (ea_cons ev_c ea_nil))) (by decide)) esl_nil))
      (eca_cons cs_mono (cs_of (esl_cons (el_lst (ea_cons ev_c ea_nil) (by decide)) esl_nil)) eca_nil)))) (by decide)) fun v H6 a6 ⟨r2, vs2, e1, hr2, c2⟩ => ?_
    subst e1
    refine q_asgP (evp_casCat cs_mono (L' := [([], false)]) (ev_var rfl) hr2 c2 (eca_cons cs_mono (cs_of esl_nil) eca_nil) (by decide)) fun v H7 a7 ⟨r3, vs3, e1, hr3, c3⟩ => ?_
    subst e1
    have a17 := ((a14.trans a5).trans a6).trans a7
    have hR7 := (((a4.trans a5).trans a6).trans a7) _ _ hR3
    have hH7 := (((a4.trans a5).trans a6).trans a7) _ _ hH3
    refine q_forCas cs_mono (ev_var rfl) hr3 c3 (fun σ' => ∃ o5 o6, σ' = [some lv, some (.ref ra), some (.ref ha), some (.ref x), some (.ref r3), o5, o6, none, none]) ⟨_, _, rfl⟩ ?_ ?_
    · rintro a y b σ' H8 hm ⟨o5, o6, rfl⟩ a8 ca
      have ct := casT_ok y b hm
      have bd : y.length ≤ 100 ∧ ∀ S ∈ y, S.length ≤ 100 := by
        simp only [List.append_assoc, List.cons_append, List.nil_append, List.mem_cons, Prod.mk.injEq, List.not_mem_nil, or_false] at hm
        rcases hm with ⟨rfl, _⟩ | ⟨rfl, _⟩ | ⟨rfl, _⟩ | ⟨rfl, _⟩ | ⟨rfl, _⟩ | ⟨rfl, _⟩ | ⟨rfl, _⟩ | ⟨rfl, _⟩ | ⟨rfl, _⟩ <;> decide
      refine s_when (b := false) (et_test (ev_is (ev_op (ev_is (ev_TsG (t := sH.map toI) (ls := y) (s := sR) (by rw [oH]; exact lv_v (ev_var rfl) (a8 _ _ hH7)) (evp_of (ev_var rfl) fun H9 e => ⟨a, rfl, cs_mono _ _ _ _ e ca⟩) (ev_var rfl) (hL.mono (a17.trans a8)) L (lv_v (ev_var rfl) (a8 _ _ hR7)) sR_wf (by decide) bd.1 bd.2) (congrArg V.bl ct)) (ev_var rfl) (rv_ne (by rfl))) (by rw [decide_eq_true rfl]; rfl))) (fun z => nomatch z) fun _ H9 a9 => ⟨a8.trans a9, _, _, rfl⟩
    · rintro σ' H8 a8 ⟨o5, o6, rfl⟩
      have a18 := a17.trans a8
      have hR8 := a8 _ _ hR7
      refine q_when (b := false) (et_is (et_or (a := false) (b := false) (et_tr (x := .bl false) (ev_is (ev_TsG (t := sR.map toI) (ls := []) (s := sR) (by rw [oR]; exact lv_v (ev_var rfl) hR8) (cs_of esl_nil) (ev_var rfl) (hL.mono a18) L (lv_v (ev_var rfl) hR8) sR_wf (by decide) (by decide) (by decide)) (congrArg V.bl (dec_f tsR))) fun _ _ => rfl)
        fun _ => et_tr (x := .bl false) (ev_is (ev_TsG (t := sC.map toI) (ls := [[1, 2]]) (s := sR) (by rw [oC]; exact lv_l (el_lst (ea_cons ev_c (ea_cons ev_c (ea_cons ev_c (ea_cons ev_c ea_nil)))) (by decide))) (cs_of (esl_cons (el_lst (ea_cons ev_c (ea_cons ev_c ea_nil)) (by decide)) esl_nil)) (ev_var rfl) (hL.mono a18) L (lv_v (ev_var rfl) hR8) sR_wf (by decide) (by decide) (by decide)) (congrArg V.bl (dec_f tsC))) fun _ _ => rfl) rfl) (fun z => nomatch z) fun _ H9 a9 => ?_
      refine q_asgP (evp_land (K := K) (n := 3) (h := 0) (L := landS) (erd_cons (erd_cons erd_nil)) (by decide)) fun sv H10 a10 hL2 => ?_
      refine q_when (b := false) (et_is (et_not (et_B (b := true) (ev_isCP ((evp_few (ad := ad) (n := 3) (h := 0) (rs := landS) (s := [none, some 2, none]) (evp_of (ev_var rfl) fun H2 e => hL2.mono e) (lv_l (el_lst (ea_cons ev_c (ea_cons ev_c (ea_cons ev_c ea_nil))) (by decide))) rfl landS_ok (by rfl)).weak fun v H11 e11 ⟨y, fe, e1, _, fa, fo⟩ => by
        obtain ⟨S, rfl⟩ := fewB fo
        obtain ⟨D, SA⟩ := fa
        obtain ⟨dx, ob⟩ := SA.ob
        exact ⟨y, dx, _, e1, ob⟩) T.cl_Shut T.oc_Shut T.ki_Shut_Shut))) rfl) (fun z => nomatch z) fun _ H11 a11 => ?_
      refine q_asgP (evp_cas ci_mono (L := [([1, 2], true), ([1, 2, 2], true), ([0, 1, 2], false), ([1], false), ([], false)])
        (eca_cons ci_mono (ci_of (ea_cons ev_c (ea_cons ev_c ea_nil))) (eca_cons ci_mono (ci_of (ea_cons ev_c (ea_cons ev_c (ea_cons ev_c ea_nil)))) (eca_cons ci_mono (ci_of (ea_cons ev_c (ea_cons ev_c (ea_cons ev_c ea_nil)))) (eca_cons ci_mono (ci_of (ea_cons ev_c ea_nil)) (eca_cons ci_mono (ci_of ea_nil) eca_nil))))) (by decide)) fun v H12 a12' ⟨r4, vs4, e1, hr4, c4⟩ => ?_
      subst e1
      refine q_asgP (evp_casCat ci_mono (L' := [([1, 2, 3], false)]) (ev_var rfl) hr4 c4 (eca_cons ci_mono (ci_of (ea_cons ev_c (ea_cons ev_c (ea_cons ev_c ea_nil)))) eca_nil) (by decide)) fun v H13 a13' ⟨r5, vs5, e1, hr5, c5⟩ => ?_
      subst e1
      have hL13 := hL2.mono ((a11.trans a12').trans a13')
      have e13 := ((((a18.trans a9).trans a10).trans a11).trans a12').trans a13'
      refine q_forCas ci_mono (ev_var rfl) hr5 c5 (fun σ' => ∃ o6 o8, σ' = [some lv, some (.ref ra), some (.ref ha), some (.ref x), some (.ref r5), o5, o6, some sv, o8]) ⟨_, _, rfl⟩ ?_ ?_
      · rintro a y b σ' H14 hm ⟨o6, o8, rfl⟩ a14' ca
        have ct := casS_ok y b hm
        have bd : y.length ≤ 100 := by
          simp only [List.cons_append, List.nil_append, List.mem_cons, Prod.mk.injEq, List.not_mem_nil, or_false] at hm
          rcases hm with ⟨rfl, _⟩ | ⟨rfl, _⟩ | ⟨rfl, _⟩ | ⟨rfl, _⟩ | ⟨rfl, _⟩ | ⟨rfl, _⟩ <;> decide
        refine s_when (b := false) (et_test (ev_is (ev_op (ev_is (ev_SsG (S := y) (lv_v (ev_var rfl) ca) bd (ev_var rfl) (hL13.mono a14') LS (lv_l (el_lst (ea_cons ev_c (ea_cons ev_c (ea_cons ev_c ea_nil))) (by decide)))) (congrArg V.bl ct)) (ev_var rfl) (rv_ne (by rfl))) (by rw [decide_eq_true rfl]; rfl))) (fun z => nomatch z) fun _ H15 a15 => ⟨a14'.trans a15, _, _, rfl⟩
      · rintro σ' H14 a14' ⟨o6, o8, rfl⟩
        refine q_asgP (evp_few (ad := ad) (n := 1) (h := 0) (rs := []) (s := [none]) (evp_land erd_nil (by decide)) (lv_l (el_lst (ea_cons ev_c ea_nil) (by decide))) rfl land1_ok (by rfl)) fun v H15 a15 ⟨y, fe, e1, _, fa, fo⟩ => ?_
        subst e1
        obtain rfl := fewC fo
        obtain ⟨fs, gs, js, TB, e2⟩ := fa
        obtain ⟨dy, ob2⟩ := TB.ob
        obtain rfl : js = [] := List.map_eq_nil_iff.mp e2
        refine s_ret (v := .bl true) (ev_is (ev_andV (a := true) (b := true) (ev_op2P (edv_tup (edv_cons (d := .list [.none]) (evp_of (ev_fld (ev_var rfl) ob2 T.cl_Turned T.no_Turned_signs (two_signs _ _)) fun H2 e => Dp.lst (sq_of (e _ _ TB.fl)) (.cons .non .nil)) (edv_cons (d := .list []) (evp_of (ev_fld (ev_var rfl) ob2 T.cl_Turned T.no_Turned_sets (two_sets _ _)) fun H2 e => Dp.lst (sq_of (e _ _ TB.gl.lst)) .nil) edv_nil)))
          (edv_tup (edv_cons (edv_lst (edv_cons (edv_c fun H => .non) edv_nil)) (edv_cons (edv_lst edv_nil) edv_nil))) dv_mono fun p q H2 e hp hq => rv_eqD (n := 2) (m := 2) (p := True) hp hq ?pd ?pd (by simp))
          fun _ => ev_is (ev_opLL (el_callA (eap_p (evp_land (K := K) (n := 1) (h := 0) (L := []) erd_nil (by decide)) (fun v H1 H2 e z => z.mono e) (eap_l (el_lst (vs := [none].map nV) (ea_cons ev_c ea_nil) (by decide)) eap_nil)) fun vs H2 e ⟨lv2, r1, z1, hL9, p, r2, z2, p0, hp, z3⟩ => ?hf) (el_lst (vs := [0].map natV) (ea_cons ev_c ea_nil) (by decide)) fun p q H2 hp hq e => eq_nats (l := [0]) (m := [0]) (sq_of hp) (sq_of hq)) (by rfl)) rfl) fun H16 a16 => RetV.go k ((((e13.trans a14').trans a15)).trans a16)
        case pd =>
          refine .tup fun d hd => ?_
          simp only [List.mem_cons, List.not_mem_nil, or_false] at hd
          rcases hd with rfl | rfl
          · exact .lst fun d hd => by rw [List.mem_singleton.mp hd]; exact .non _
          · exact .lst fun d hd => nomatch hd
        case hf =>
          subst z3 z2 z1
          have hc : comers [none] (Int.toNat 0) = [0] := comers_l ⟨rfl, fun p q e => by rw [show ([none] : List (Option Nat)) = List.replicate 1 none from rfl, nx_bare] at e; cases e⟩
          intro H3 e Q q E
          refine ⟨lv2, .ref p, 1, 0, [], [none], rfl, ⟨hL9.mono e, land1_ok, ⟨p, rfl, sq_of (e _ _ hp)⟩, by rfl⟩, ?_⟩
          rw [hc]
          exact q

end
end Sg
namespace Sg
set_option autoImplicit false
open PySem L2 Evl Big
open PyProof.Rows (envOfC)
section
variable {P : Program} {w : World} {K : PySem.W.Frag} {mg : Str → Option Value} {base : Heap} {ad : Ads}
def sp_np (K : PySem.W.Frag) (ad : Ads) : Sp := fun vs H _ E => ∃ (lv : V) (n h : Int) (rs : List (Int × Int)) (p : Int), vs = [lv, .int p] ∧ LandAt K H lv n h rs ∧ ¬ (0 ≤ p ∧ p < n) ∧ RaiseV ad.BadPlace H E
theorem okx_need_place (T : Txt K mg ad) : CalX P w K mg base 3 "need_place" (sp_np K ad) := by
  have c_is_place : C8.Cal P w K mg base 2 "is_place" (sp_is_place K) [] := ok_is_place T
  refine cal_ofX T.d_need_place sc_need_place (fun _ _ _ _ _ _ us hl => match us, hl with | [_, _], _ => rfl) (fun vs H Q E h => ?_) (fun f cdv A outer s H vs Q E hr h => ?_)
  · obtain ⟨lv, n, h, rs, p, rfl, _⟩ := h; rfl
  · obtain ⟨lv, n, h, rs, p, rfl, hL, hb, k⟩ := h
    obtain ⟨la, r, rfl, hT, hR⟩ := hL.ex
    refine ⟨_, (pss_one (ps_if (pt_not (pt_val (C8.pe_c c_is_place hr (by decide) rfl (pa_cons (pe_ix (k_tup K) (pv 0) pe_int (fun _ _ => rfl)) (pa_cons (pv 1) pa_nil))))) (pss_one (ps_raise rfl (takes_of rfl rfl rfl rfl) (pmk_own PySem.F.excBase_ValueError T.x_BadPlace.x T.x_BadPlace.g T.x_BadPlace.k (raises_own T.x_BadPlace.b T.x_BadPlace.t) rfl))) pss_nil)), ?_⟩
    exact s_when (b := true) (et_is (et_not (et_B (ev_call (ea_cons (ev_op (ev_var rfl) ev_c (rv_ixT hT (atI_nat (j := 0) rfl))) (ea_cons (ev_var rfl) ea_nil)) fun H1 a Q q E => ⟨n, _, .int p, rfl, .int p, q⟩))) (by rw [place_int, decide_eq_false hb]; rfl)) (fun _ H1 a1 => k H1 a1) (fun z => nomatch z)
def sp_na (K : PySem.W.Frag) (ad : Ads) : Sp := fun vs H _ E => ∃ (lv : V) (n h : Int) (rs : List (Int × Int)), vs = [lv, .int h] ∧ LandAt K H lv n h rs ∧ RaiseV ad.AtHome H E
theorem okx_need_away (T : Txt K mg ad) : CalX P w K mg base 1 "need_away" (sp_na K ad) := by
  refine cal_ofX T.d_need_away sc_need_away (fun _ _ _ _ _ _ us hl => match us, hl with | [_, _], _ => rfl) (fun vs H Q E h => ?_) (fun f cdv A outer s H vs Q E hr h => ?_)
  · obtain ⟨lv, n, h, rs, rfl, _⟩ := h; rfl
  · obtain ⟨lv, n, h, rs, rfl, hL, k⟩ := h
    obtain ⟨la, r, rfl, hT, hR⟩ := hL.ex
    refine ⟨_, (pss_one (ps_if (pt_cmpR op_eq (pv 1) (pe_ix (k_tup K) (pv 0) pe_int (fun _ _ => rfl)) (nomark _)) (pss_one (ps_raise rfl (takes_of rfl rfl rfl rfl) (pmk_own PySem.F.excBase_ValueError T.x_AtHome.x T.x_AtHome.g T.x_AtHome.k (raises_own T.x_AtHome.b T.x_AtHome.t) rfl))) pss_nil)), ?_⟩
    exact s_when (b := true) (et_test (ev_is (ev_op (ev_var rfl) (ev_op (ev_var rfl) ev_c (rv_ixT hT (atI_nat (j := 1) rfl))) (rv_eq rfl)) (by simp))) (fun _ H1 a1 => k H1 a1) (fun z => nomatch z)
def sp_nr (K : PySem.W.Frag) (ad : Ads) : Sp := fun vs H _ E => ∃ (lv : V) (n h : Int) (rs : List (Int × Int)) (p q : Int), vs = [lv, .int p, .int q] ∧ LandAt K H lv n h rs ∧ ¬ ((0 ≤ q ∧ q < n) ∧ (p, q) ∈ rs) ∧ RaiseV ad.BadRoad H E
theorem okx_need_road (T : Txt K mg ad) : CalX P w K mg base 3 "need_road" (sp_nr K ad) := by
  have c_is_place : C8.Cal P w K mg base 2 "is_place" (sp_is_place K) [] := ok_is_place T
  refine cal_ofX T.d_need_road sc_need_road (fun _ _ _ _ _ _ us hl => match us, hl with | [_, _, _], _ => rfl) (fun vs H Q E h => ?_) (fun f cdv A outer st H vs Q E hr h => ?_)
  · obtain ⟨lv, n, h, rs, p, q, rfl, _⟩ := h; rfl
  · obtain ⟨lv, n, h, rs, p, q, rfl, hL, hb, k⟩ := h
    have hu65 := hu65_of hr
    obtain ⟨la, r, rfl, hT, hR⟩ := hL.ex
    refine ⟨_, (pss_cons (ps_asg (pv 0) (k_gt K (n := 3) (by rfl) (pgs_cons (pg_name (i := 3) sc_need_road.nd rfl (Or.inl rfl)) (pgs_cons (pg_name (i := 4) sc_need_road.nd rfl (Or.inl rfl)) (pgs_cons (pg_name (i := 5) sc_need_road.nd rfl (Or.inl rfl)) pgs_nil)))))
  (pss_one (ps_if (PW.pt (pw_or (pt_not (pt_val (C8.pe_c c_is_place hr (by decide) rfl (pa_cons (pv 3) (pa_cons (pv 2) pa_nil))))) (pw_or1 (pt_cmpR (k_niD K hu65) (pe_tup (pa_cons (pv 1) (pa_cons (pv 2) pa_nil))) (pv 5) (by rfl))))) (pss_one (ps_raise rfl (takes_of rfl rfl rfl rfl) (pmk_own PySem.F.excBase_ValueError T.x_BadRoad.x T.x_BadRoad.g T.x_BadRoad.k (raises_own T.x_BadRoad.b T.x_BadRoad.t) rfl))) pss_nil))), ?_⟩
    refine q_unp3 (evp_of (ev_var rfl) (Post := fun v _ => v = .ref la) fun _ _ => rfl) fun v H1 a1 e1 => ⟨la, _, _, _, e1, ex_t a1 hT, ?_⟩
    refine s_when (b := true) (et_is (et_or (et_not (et_B (ev_call (z := .bl (decide (0 ≤ q ∧ q < n))) (ea_cons (ev_var rfl) (ea_cons (ev_var rfl) ea_nil)) fun H2 e Q q2 E => ⟨n, _, .int q, rfl, .int q, by rw [place_int]; exact q2⟩))) fun _ => et_test (ev_opU1 (eu_tup (ea_cons (ev_var rfl) (ea_cons (ev_var rfl) ea_nil)) (by show 2 ≤ 100000; decide)) (fun H3 e3 => ev_var rfl) fun t H3 ht e => rv_niD (.tup (st_of ht) (.cons (.int p) (.cons (.int q) .nil))) (LandAt.dpR (hR.mono (a1.trans e))) (pd_rd (p, q)) (pd_rds rs) (rd_mem (p := (p, q))))) ?_) (fun _ H2 a2 => k H2 (a1.trans a2)) (fun z => nomatch z)
    by_cases c : 0 ≤ q ∧ q < n
    · rw [decide_eq_true c, decide_eq_false fun z => hb ⟨c, z⟩]; rfl
    · rw [decide_eq_false c]; rfl
/-- why a deed at posts is refused -/
inductive NoTurn (ad : Ads) (n h : Int) (rs : List (Int × Int)) (p q : Int) : Addr → Prop
  | place (c : ¬ (0 ≤ p ∧ p < n)) : NoTurn ad n h rs p q ad.BadPlace
  | home (c : 0 ≤ p ∧ p < n) (e : p = h) : NoTurn ad n h rs p q ad.AtHome
  | road (c : 0 ≤ p ∧ p < n) (e : p ≠ h) (r : ¬ ((0 ≤ q ∧ q < n) ∧ (p, q) ∈ rs)) : NoTurn ad n h rs p q ad.BadRoad
inductive NoLose (ad : Ads) (n h : Int) (s : List (Option Nat)) (p : Int) : Addr → Prop
  | place (c : ¬ (0 ≤ p ∧ p < n)) : NoLose ad n h s p ad.BadPlace
  | home (c : 0 ≤ p ∧ p < n) (e : p = h) : NoLose ad n h s p ad.AtHome
  | sign (c : 0 ≤ p ∧ p < n) (e : p ≠ h) (r : nx s p.toNat = none) : NoLose ad n h s p ad.NoSign
theorem ev_altL {σ : L2.St} {H : Hp} {D : Ends} {tz : TS} {t u : TE} {v : V} (h : Ev t σ H v) (k : ∀ H1, Ex H H1 → tz D σ H1) : tSeq (tDrop (tAlt t u)) tz D σ H := .inl (h H (Ex.refl H) _ fun H1 e => k H1 e)
/-- a call that lets an exception out -/
theorem q_dropX {σ : L2.St} {H : Hp} {D : Ends} {tz : TS} {t : TE} {ta : TA} {sp : Sp} {E : XK} {vs : List V} (ha : EvA ta σ H vs) (h : ∀ H1, Ex H H1 → ∀ Q, sp vs H1 Q E) : tSeq (tDrop (tAlt t (tCall sp [] E ta))) tz D σ H := .inr (ha H (Ex.refl H) _ fun H1 e => by rw [List.append_nil]; exact h H1 e _)
def sp_turnX (K : PySem.W.Frag) (ad : Ads) : Sp := fun vs H _ E => ∃ (x la rl sl : Addr) (n h : Int) (rs : List (Int × Int)) (s : List (Option Nat)) (t : Int) (p q : Int) (C : Addr), vs = [.ref x, .int p, .int q] ∧ PostsAt K H ad.Posts x la rl sl n h rs s t ∧ NoTurn ad n h rs p q C ∧ RaiseV C H E
theorem okx_Posts_turn (T : Txt K mg ad) : MetX P w K mg base 4 ad.Posts "turn" (sp_turnX K ad) := by
  have c_need_place : C8.Cal P w K mg base 3 "need_place" (sp_need_place K) [] := ok_need_place T
  have c_need_away : C8.Cal P w K mg base 1 "need_away" (sp_need_away K) [] := ok_need_away T
  have c_need_road : C8.Cal P w K mg base 3 "need_road" (sp_need_road K) [] := ok_need_road T
  have x_need_place : CalX P w K mg base 3 "need_place" (sp_np K ad) := okx_need_place T
  have x_need_away : CalX P w K mg base 1 "need_away" (sp_na K ad) := okx_need_away T
  have x_need_road : CalX P w K mg base 3 "need_road" (sp_nr K ad) := okx_need_road T
  have c_places_coming : C8.Cal P w K mg base 2 "places_coming" (sp_places_coming K) [] := ok_places_coming T
  refine met_ofX T.cl_Posts T.mt_Posts_turn sc_Posts_turn (fun _ _ _ _ _ _ us hl => match us, hl with | [_, _, _], _ => rfl) (fun vs H Q E h => ?_) (fun f cdv A outer st H vs Q E hr h => ?_)
  · obtain ⟨x, la, rl, sl, n, h, rs, s, t, p, q, C, rfl, _⟩ := h; rfl
  · obtain ⟨x, la, rl, sl, n, h, rs, s, t, p, q, C, rfl, PA, no, k⟩ := h
    refine ⟨_, (pss_cons (ps_expr (pe_alt (C8.pe_c c_need_place hr (by decide) rfl (pa_cons (k_fld K (pv 0)) (pa_cons (pv 1) pa_nil))) (pe_cX x_need_place hr (by decide) rfl pass_out (pa_cons (k_fld K (pv 0)) (pa_cons (pv 1) pa_nil)))))
  (pss_cons (ps_expr (pe_alt (C8.pe_c c_need_away hr (by decide) rfl (pa_cons (k_fld K (pv 0)) (pa_cons (pv 1) pa_nil))) (pe_cX x_need_away hr (by decide) rfl pass_out (pa_cons (k_fld K (pv 0)) (pa_cons (pv 1) pa_nil)))))
  (pss_cons (ps_expr (pe_alt (C8.pe_c c_need_road hr (by decide) rfl (pa_cons (k_fld K (pv 0)) (pa_cons (pv 1) (pa_cons (pv 2) pa_nil)))) (pe_cX x_need_road hr (by decide) rfl pass_out (pa_cons (k_fld K (pv 0)) (pa_cons (pv 1) (pa_cons (pv 2) pa_nil))))))
  (pss_cons (ps_if (pt_cmpR op_ne (pe_ix (k_list K) (k_fld K (pv 0)) (pv 1) (fun _ _ => rfl)) (pv 2) (nomark _)) (pss_one (ps_fldaug (pv 0) pe_int in_add)) pss_nil)
  (pss_cons (ps_asg (pv 2) (pg_sub (k_fld K (pv 0)) (pv 1) set_list))
  (pss_one (ps_ret (pe_callB (k_len K) (by rfl) T.n_len PySem.boot_len (pa_cons (C8.pe_c c_places_coming hr (by decide) rfl (pa_cons (k_fld K (pv 0)) (pa_cons (pe_ix (k_tup K) (k_fld K (pv 0)) pe_int (fun _ _ => rfl)) pa_nil))) pa_nil))))))))), ?_⟩
    obtain ⟨dx, ob⟩ := PA.ob
    have lE : ∀ {σ : L2.St} {H2 : Hp}, σ[0]? = some (some (.ref x)) → Ex H H2 → Ev (tFld K (tVar 0) "_land") σ H2 (.ref la) := fun h0 e => ev_fld (ev_var h0) (e _ _ ob) T.cl_Posts T.no_Posts__land (p3_land _ _ _)
    cases no with
    | place c => exact q_dropX (ea_cons (lE rfl (Ex.refl _)) (ea_cons (ev_var rfl) ea_nil)) fun H1 e Q => ⟨_, n, h, rs, p, rfl, (PA.mono e).land, c, k.mono e⟩
    | home c e1 =>
      refine ev_altL (ev_call (ea_cons (lE rfl (Ex.refl _)) (ea_cons (ev_var rfl) ea_nil)) fun H1 a Q q2 E => ⟨_, n, h, rs, _, .int p, rfl, (PA.mono a).land, .int _, by rw [place_int]; exact decide_eq_true c, q2⟩) fun H1 a1 => ?_
      exact q_dropX (ea_cons (lE rfl a1) (ea_cons (ev_is (ev_var rfl) (by rw [e1])) ea_nil)) fun H2 e Q => ⟨_, n, h, rs, rfl, (PA.mono (a1.trans e)).land, k.mono (a1.trans e)⟩
    | road c e1 r =>
      refine ev_altL (ev_call (ea_cons (lE rfl (Ex.refl _)) (ea_cons (ev_var rfl) ea_nil)) fun H1 a Q q2 E => ⟨_, n, h, rs, _, .int p, rfl, (PA.mono a).land, .int _, by rw [place_int]; exact decide_eq_true c, q2⟩) fun H1 a1 => ?_
      refine ev_altL (ev_call (ea_cons (lE rfl a1) (ea_cons (ev_var rfl) ea_nil)) fun H2 a Q q2 E => ⟨_, n, h, rs, p, rfl, (PA.mono (a1.trans a)).land, e1, q2⟩) fun H2 a2 => ?_
      exact q_dropX (ea_cons (lE rfl (a1.trans a2)) (ea_cons (ev_var rfl) (ea_cons (ev_var rfl) ea_nil))) fun H3 e Q => ⟨_, n, h, rs, p, q, rfl, (PA.mono ((a1.trans a2).trans e)).land, r, k.mono ((a1.trans a2).trans e)⟩
def sp_loseX (K : PySem.W.Frag) (ad : Ads) : Sp := fun vs H _ E => ∃ (x la rl sl : Addr) (n h : Int) (rs : List (Int × Int)) (s : List (Option Nat)) (t : Int) (p : Int) (C : Addr), vs = [.ref x, .int p] ∧ PostsAt K H ad.Posts x la rl sl n h rs s t ∧ (s.length : Int) = n ∧ NoLose ad n h s p C ∧ RaiseV C H E
theorem okx_Posts_lose (T : Txt K mg ad) : MetX P w K mg base 4 ad.Posts "lose" (sp_loseX K ad) := by
  have c_need_place : C8.Cal P w K mg base 3 "need_place" (sp_need_place K) [] := ok_need_place T
  have c_need_away : C8.Cal P w K mg base 1 "need_away" (sp_need_away K) [] := ok_need_away T
  have x_need_place : CalX P w K mg base 3 "need_place" (sp_np K ad) := okx_need_place T
  have x_need_away : CalX P w K mg base 1 "need_away" (sp_na K ad) := okx_need_away T
  refine met_ofX T.cl_Posts T.mt_Posts_lose sc_Posts_lose (fun _ _ _ _ _ _ us hl => match us, hl with | [_, _], _ => rfl) (fun vs H Q E h => ?_) (fun f cdv A outer st H vs Q E hr h => ?_)
  · obtain ⟨x, la, rl, sl, n, h, rs, s, t, p, C, rfl, _⟩ := h; rfl
  · obtain ⟨x, la, rl, sl, n, h, rs, s, t, p, C, rfl, PA, slen, no, k⟩ := h
    refine ⟨_, (pss_cons (ps_expr (pe_alt (C8.pe_c c_need_place hr (by decide) rfl (pa_cons (k_fld K (pv 0)) (pa_cons (pv 1) pa_nil))) (pe_cX x_need_place hr (by decide) rfl pass_out (pa_cons (k_fld K (pv 0)) (pa_cons (pv 1) pa_nil)))))
  (pss_cons (ps_expr (pe_alt (C8.pe_c c_need_away hr (by decide) rfl (pa_cons (k_fld K (pv 0)) (pa_cons (pv 1) pa_nil))) (pe_cX x_need_away hr (by decide) rfl pass_out (pa_cons (k_fld K (pv 0)) (pa_cons (pv 1) pa_nil)))))
  (pss_cons (ps_set (i := 2) sc_Posts_lose.nd rfl (Or.inl rfl) (pe_ix (k_list K) (k_fld K (pv 0)) (pv 1) (fun _ _ => rfl)))
  (pss_cons (ps_if (pt_cmpR op_isN (pv 2) pe_non (nomark _)) (pss_one (ps_raise rfl (takes_of rfl rfl rfl rfl) (pmk_own PySem.F.excBase_ValueError T.x_NoSign.x T.x_NoSign.g T.x_NoSign.k (raises_own T.x_NoSign.b T.x_NoSign.t) rfl))) pss_nil)
  (pss_cons (ps_asg pe_non (pg_sub (k_fld K (pv 0)) (pv 1) set_list))
  (pss_one (ps_ret (pv 2)))))))), ?_⟩
    obtain ⟨dx, ob⟩ := PA.ob
    have lE : ∀ {σ : L2.St} {H2 : Hp}, σ[0]? = some (some (.ref x)) → Ex H H2 → Ev (tFld K (tVar 0) "_land") σ H2 (.ref la) := fun h0 e => ev_fld (ev_var h0) (e _ _ ob) T.cl_Posts T.no_Posts__land (p3_land _ _ _)
    have sE : ∀ {σ : L2.St} {H2 : Hp}, σ[0]? = some (some (.ref x)) → Ex H H2 → Ev (tFld K (tVar 0) "_signs") σ H2 (.ref sl) := fun h0 e => ev_fld (ev_var h0) (e _ _ ob) T.cl_Posts T.no_Posts__signs (p3_signs _ _ _)
    cases no with
    | place c => exact q_dropX (ea_cons (lE rfl (Ex.refl _)) (ea_cons (ev_var rfl) ea_nil)) fun H1 e Q => ⟨_, n, h, rs, p, rfl, (PA.mono e).land, c, k.mono e⟩
    | home c e1 =>
      refine ev_altL (ev_call (ea_cons (lE rfl (Ex.refl _)) (ea_cons (ev_var rfl) ea_nil)) fun H1 a Q q2 E => ⟨_, n, h, rs, _, .int p, rfl, (PA.mono a).land, .int _, by rw [place_int]; exact decide_eq_true c, q2⟩) fun H1 a1 => ?_
      exact q_dropX (ea_cons (lE rfl a1) (ea_cons (ev_is (ev_var rfl) (by rw [e1])) ea_nil)) fun H2 e Q => ⟨_, n, h, rs, rfl, (PA.mono (a1.trans e)).land, k.mono (a1.trans e)⟩
    | sign c e1 r =>
      refine ev_altL (ev_call (ea_cons (lE rfl (Ex.refl _)) (ea_cons (ev_var rfl) ea_nil)) fun H1 a Q q2 E => ⟨_, n, h, rs, _, .int p, rfl, (PA.mono a).land, .int _, by rw [place_int]; exact decide_eq_true c, q2⟩) fun H1 a1 => ?_
      refine ev_altL (ev_call (ea_cons (lE rfl a1) (ea_cons (ev_var rfl) ea_nil)) fun H2 a Q q2 E => ⟨_, n, h, rs, p, rfl, (PA.mono (a1.trans a)).land, e1, q2⟩) fun H2 a2 => ?_
      have a12 := a1.trans a2
      refine q_asg (v := nV none) (ev_is (ev_op (sE rfl a12) (ev_var rfl) (rv_ixL (sq_of (a12 _ _ PA.sl)) (at_of (j := p.toNat) (by omega) (sign_at (by omega))))) (by rw [r])) fun H3 a3 => ?_
      exact q_when (b := true) (et_test (ev_op (ev_var rfl) ev_c rv_isN)) (fun _ H4 a4 => k H4 ((a12.trans a3).trans a4)) (fun z => nomatch z)
def sp_astrayX (K : PySem.W.Frag) (ad : Ads) : Sp := fun vs H _ E => ∃ (lv sv : V) (n h : Int) (rs : List (Int × Int)) (s : List (Option Nat)) (p q : Int) (C : Addr), vs = [lv, sv, .int p, .int q] ∧ Given K H lv sv n h rs s ∧ 0 ≤ p ∧ p < n ∧ ((p = h ∧ C = ad.AtHome) ∨ (p ≠ h ∧ ¬ ((0 ≤ q ∧ q < n) ∧ (p, q) ∈ rs) ∧ C = ad.BadRoad)) ∧ RaiseV C H E
theorem okx_astray (T : Txt K mg ad) : CalX P w K mg base 8 "astray" (sp_astrayX K ad) := by
  have c_need_walk : C8.Cal P w K mg base 7 "need_walk" (sp_need_walk K) [] := ok_need_walk T
  have c_need_away : C8.Cal P w K mg base 1 "need_away" (sp_need_away K) [] := ok_need_away T
  have c_need_road : C8.Cal P w K mg base 3 "need_road" (sp_need_road K) [] := ok_need_road T
  have x_need_away : CalX P w K mg base 1 "need_away" (sp_na K ad) := okx_need_away T
  have x_need_road : CalX P w K mg base 3 "need_road" (sp_nr K ad) := okx_need_road T
  have c_coming : C8.Cal P w K mg base 1 "coming" (sp_coming K) [] := ok_coming T
  have c_places_coming : C8.Cal P w K mg base 2 "places_coming" (sp_places_coming K) [] := ok_places_coming T
  refine cal_ofX T.d_astray sc_astray (fun _ _ _ _ _ _ us hl => match us, hl with | [_, _, _, _], _ => rfl) (fun vs H Q E h => ?_) (fun f cdv A outer st H vs Q E hr h => ?_)
  · obtain ⟨lv, sv, n, h, rs, s, p, q, C, rfl, _⟩ := h; rfl
  · obtain ⟨lv, sv, n, h, rs, s, p, q, C, rfl, g, p0, pn, no, k⟩ := h
    refine ⟨_, (pss_cons (ps_expr (C8.pe_c c_need_walk hr (by decide) rfl (pa_cons (pv 0) (pa_cons (pv 1) (pa_cons (pv 2) pa_nil)))))
  (pss_cons (ps_expr (pe_alt (C8.pe_c c_need_away hr (by decide) rfl (pa_cons (pv 0) (pa_cons (pv 2) pa_nil))) (pe_cX x_need_away hr (by decide) rfl pass_out (pa_cons (pv 0) (pa_cons (pv 2) pa_nil)))))
  (pss_cons (ps_if (pt_cmpR op_notN (pv 3) pe_non (nomark _)) (pss_one (ps_expr (pe_alt (C8.pe_c c_need_road hr (by decide) rfl (pa_cons (pv 0) (pa_cons (pv 2) (pa_cons (pv 3) pa_nil)))) (pe_cX x_need_road hr (by decide) rfl pass_out (pa_cons (pv 0) (pa_cons (pv 2) (pa_cons (pv 3) pa_nil))))))) pss_nil)
  (pss_cons (ps_set (i := 4) sc_astray.nd rfl (Or.inl rfl) (pe_callTy (k_lst K) (by rfl) T.n_list (by decide +kernel) (pa_cons (pv 1) pa_nil)))
  (pss_cons (ps_asg (pv 3) (pg_sub (pv 4) (pv 2) set_list))
  (pss_cons (ps_set (i := 5) sc_astray.nd rfl (Or.inr rfl) (C8.pe_c c_coming hr (by decide) rfl (pa_cons (pv 4) (pa_cons (pe_ix (k_tup K) (pv 0) pe_int (fun _ _ => rfl)) pa_nil))))
  (pss_one (ps_ret (pe_lc (own := [("start", 6)]) (g := _) (tt := _) rfl sc_astray.nd (k_il K (C8.pe_c c_places_coming hr (by decide) rfl (pa_cons (pv 1) (pa_cons (pe_ix (k_tup K) (pv 0) pe_int (fun _ _ => rfl)) pa_nil)))) (blkOk_by (N := N_astray) (sc := C8.fnScope st_astray) (by decide +kernel)) (fun _ _ _ _ _ => (pg_name (i := 6) sc_astray.nd rfl (Or.inl rfl))) (fun _ _ _ _ _ => (pts_one (pt_not (k_tru K (pe_ix (k_list K) (pv 5) (pv 6) (fun _ _ => rfl)))))) (fun _ _ _ _ _ => (pv 6))))))))))), ?_⟩
    refine q_drop (ev_call (ea_cons (ev_var rfl) (ea_cons (ev_var rfl) (ea_cons (ev_var rfl) ea_nil))) fun H1 a Q q E => ⟨_, _, n, h, rs, s, p, rfl, g.mono a, p0, pn, q⟩) fun H1 a1 => ?_
    rcases no with ⟨e1, rfl⟩ | ⟨e1, r, rfl⟩
    · exact q_dropX (ea_cons (ev_var rfl) (ea_cons (ev_is (ev_var rfl) (by rw [e1])) ea_nil)) fun H2 e Q => ⟨_, n, h, rs, rfl, g.land.mono (a1.trans e), k.mono (a1.trans e)⟩
    · refine ev_altL (ev_call (ea_cons (ev_var rfl) (ea_cons (ev_var rfl) ea_nil)) fun H2 a Q q2 E => ⟨_, n, h, rs, p, rfl, g.land.mono (a1.trans a), e1, q2⟩) fun H2 a2 => ?_
      have a12 := a1.trans a2
      refine q_when (b := true) (et_test (ev_is (ev_op (ev_var rfl) ev_c rv_notN) (by simp))) (fun _ H3 a3 => ?_) (fun z => nomatch z)
      exact .inr ((ea_cons (ev_var rfl) (ea_cons (ev_var rfl) (ea_cons (ev_var rfl) ea_nil))) H3 (Ex.refl _) _ fun H4 e => ⟨_, n, h, rs, p, q, rfl, g.land.mono ((a12.trans a3).trans e), r, k.mono ((a12.trans a3).trans e)⟩)

end
end Sg
namespace Sg
set_option autoImplicit false
open PySem L2 Evl Big
open PyProof.Rows (envOfC)
section
variable {P : Program} {w : World} {K : PySem.W.Frag} {mg : Str → Option Value} {base : Heap} {ad : Ads}
theorem LandAt.extN {H H' : Hp} {v : V} {n h : Int} {rs : List (Int × Int)} (e : LamX.ExtN H H') (x : LandAt K H v n h rs) : LandAt K H' v n h rs := by
  obtain ⟨a, r, h1, h2, ks, k1, k2, k3⟩ := x.ex
  exact ⟨a, r, h1, ext_t e h2, ks, ext_l e k1, fun p hp => ext_t e (k2 p hp), k3⟩
theorem PostsAt.extN {H H' : Hp} {C x la rl sl : Addr} {n h : Int} {rs : List (Int × Int)} {s : List (Option Nat)} {t : Int} (e : LamX.ExtN H H') (p : PostsAt K H C x la rl sl n h rs s t) : PostsAt K H' C x la rl sl n h rs s t := by
  obtain ⟨dx, ob⟩ := p.ob
  obtain ⟨ks, k1, k2, k3⟩ := p.rl
  exact ⟨⟨dx, e _ _ ob fun _ z => nomatch z⟩, e _ _ p.lt (fun _ z => nomatch z), ⟨ks, e _ _ k1 (fun _ z => nomatch z), fun q hq => ext_t e (k2 q hq), k3⟩, e _ _ p.sl fun _ z => nomatch z⟩

end
end Sg
namespace Sg
set_option autoImplicit false
open PySem L2 Evl Big
open PyProof.Rows (envOfC)
section
variable {P : Program} {w : World} {K : PySem.W.Frag} {mg : Str → Option Value} {base : Heap} {ad : Ads}
/-- the word of an exception -/
inductive NoWord (ad : Ads) : Addr → Str → Prop
  | home : NoWord ad ad.AtHome "home"
  | road : NoWord ad ad.BadRoad "road"
  | sign : NoWord ad ad.NoSign "sign"
/-- what _law_no_of asks of what it calls: a refusal, whose word it gives -/
def TNo (ad : Ads) : (XK → Hp → VK → Prop) → Hp → VK → Prop := fun tl H Q => tl (fun cls d H' => ∃ C word, cls = .ref C ∧ d = none ∧ NoWord ad C word ∧ ∀ H'', Ex H' H'' → Q (.str word) H'') H (fun _ H1 => Q (.str "") H1)
/-- the place of the one truth -/
inductive OneT : List Bool → Nat → Prop
  | a : OneT [true, false, false] 0
  | b : OneT [false, true, false] 1
  | c : OneT [false, false, true] 2
def wordAt (i : Nat) : Str := if i = 0 then "home" else if i = 1 then "road" else "sign"
theorem no_gives {X : Cx} {g : Addr} {cdg : Value} {q : Str} (T : Txt X.K X.mg ad) : LamX.GivesTo X N__law_no_of "_law_no_of" (C8.fnScope st__law_no_of) g cdg (C8.fnBody st__law_no_of) "_law_ask_here" q (TNo ad) := by
  intro f c' s H Q tl act hc h
  refine ⟨_, (pss_one (ps_try_as (i := 1) rfl rfl sc__law_no_of.nd rfl rfl ⟨rfl, by decide, .inl T.x_SignError.g⟩ takes00 (fun W pn xe tk _ => (pss_ex (ok := fun E => ∀ cls d σ' H', E cls d H' → σ'.length = 3 → W cls d σ' H') fun Ech hW => (pss_cons (ps_expr (act _ pn xe Ech _ _ (Takes.len tk) hW))
  (pss_one (ps_ret pe_str))))) (fun a oe cls d pn hz hf => (pss_cons (ps_set (i := 2) sc__law_no_of.nd rfl (Or.inl rfl) (pe_lst (pa_cons (pe_callB (cr_isX hz hf) (by rfl) T.n_isinstance (by decide +kernel) (pa_cons (pv 1) (pa_cons (pe_glob (v := .ref ad.AtHome) rfl T.x_AtHome.g rfl) pa_nil))) (pa_cons (pe_callB (cr_isX hz hf) (by rfl) T.n_isinstance (by decide +kernel) (pa_cons (pv 1) (pa_cons (pe_glob (v := .ref ad.BadRoad) rfl T.x_BadRoad.g rfl) pa_nil))) (pa_cons (pe_callB (cr_isX hz hf) (by rfl) T.n_isinstance (by decide +kernel) (pa_cons (pv 1) (pa_cons (pe_glob (v := .ref ad.NoSign) rfl T.x_NoSign.g rfl) pa_nil))) pa_nil)))))
  (pss_one (ps_ret (pe_ifExp (pt_cmpR op_eq (k_bm X.K PySem.F.plainAttrs_list PySem.F.slot_list_count PySem.F.type_list_count (k_countL X.K) (pv 2) (pa_cons pe_bl pa_nil)) pe_int (nomark _)) (pe_ix (k_list X.K) (pe_lst (pa_cons pe_str (pa_cons pe_str (pa_cons pe_str pa_nil)))) (k_bm X.K PySem.F.plainAttrs_list PySem.F.slot_list_index PySem.F.type_list_index (k_indexL X.K) (pv 2) (pa_cons pe_bl pa_nil)) (fun _ _ => rfl)) pe_str))))))), ?_⟩
  refine ⟨fun cls d H' => ∃ C word, cls = .ref C ∧ d = none ∧ NoWord ad C word ∧ ∀ H'', Ex H' H'' → Q (.str word) H'', fun cls d σ' H' ⟨C, word, e1, e2, nw, k⟩ hl => ?_, rfl, hc, h⟩
  subst e1 e2
  have em : PySem.W.exmOne X.K (.ref C) (.ref ad.SignError) = some true ∧ ExcC X.K C := by
    cases nw
    · exact ⟨T.em_AtHome, T.x_AtHome.e⟩
    · exact ⟨T.em_BadRoad, T.x_BadRoad.e⟩
    · exact ⟨T.em_NoSign, T.x_NoSign.e⟩
  refine ⟨true, em.1, fun _ a ha => ?_, fun z => nomatch z⟩
  obtain ⟨b1, b2, b3, i, k1, k2, k3, ot, wo⟩ : ∃ b1 b2 b3 i, PySem.W.kitOne X.K (.ref C) (.ref ad.AtHome) = some b1 ∧ PySem.W.kitOne X.K (.ref C) (.ref ad.BadRoad) = some b2 ∧ PySem.W.kitOne X.K (.ref C) (.ref ad.NoSign) = some b3 ∧ OneT [b1, b2, b3] i ∧ word = wordAt i := by
    cases nw
    · exact ⟨true, false, false, 0, T.ki_AtHome_AtHome, T.ki_AtHome_BadRoad, T.ki_AtHome_NoSign, .a, rfl⟩
    · exact ⟨false, true, false, 1, T.ki_BadRoad_AtHome, T.ki_BadRoad_BadRoad, T.ki_BadRoad_NoSign, .b, rfl⟩
    · exact ⟨false, false, true, 2, T.ki_NoSign_AtHome, T.ki_NoSign_BadRoad, T.ki_NoSign_NoSign, .c, rfl⟩
  have g1 : (σ'.set 1 (some (.ref a)))[1]? = some (some (.ref a)) := by rw [List.getElem?_set]; simp [hl]
  have one : ∀ {H1 : Hp} {D : Addr} {b : Bool}, PySem.W.kitOne X.K (.ref C) (.ref D) = some b → Ev (tCB (rIsX X.K (.ref C) none a) (tCons (tVar 1) (tCons (tC (.ref D)) tNil))) (σ'.set 1 (some (.ref a))) H1 (.bl b) := fun {H1 D b} kk =>
    ev_cb (ea_cons (ev_var g1) (ea_cons ev_c ea_nil)) fun H2 e2 Q q => ⟨C, rfl, rfl, em.2, .ref D, .ref D, b, rfl, fun u r => r, kk, q H2 (Ex.refl _)⟩
  refine s_asgL (el_lst (vs := [.bl b1, .bl b2, .bl b3]) (ea_cons (one k1) (ea_cons (one k2) (ea_cons (one k3) ea_nil))) (by simp)) fun p H1 hp e1 hl1 => ?_
  have g2 : (((σ'.set 1 (some (.ref a))).set 2 (some (.ref p))))[2]? = some (some (.ref p)) := by rw [List.getElem?_set]; simp [hl]
  have cnt : Ev (tBM X.K "list" (rCountL X.K) (tVar 2) (tCons (tC (.bl true)) tNil)) ((σ'.set 1 (some (.ref a))).set 2 (some (.ref p))) H1 (.int (1 : Nat)) := fun H2 e2 Q q => (ev_var g2) H2 e2 _ fun H3 e3 => ⟨.inl ⟨rfl, _, sq_of ((e2.trans e3) _ _ hl1)⟩, ev_c H3 (e2.trans e3) _ fun H4 e4 => by
    have hq : SqL X.K H4 p [.bl b1, .bl b2, .bl b3] := sq_of ((e2.trans (e3.trans e4)) _ _ hl1)
    refine ⟨p, _, .bl true, rfl, rfl, hq, rfl, rfl, ?_⟩
    have : ([.bl b1, .bl b2, .bl b3] : List V).countP (fun z => eqV z (.bl true)) = 1 := by cases ot <;> rfl
    rw [this]
    exact q H4 (e3.trans e4)⟩
  have idx : ∀ H2, Ex H1 H2 → Ev (tBM X.K "list" (rIndex X.K) (tVar 2) (tCons (tC (.bl true)) tNil)) ((σ'.set 1 (some (.ref a))).set 2 (some (.ref p))) H2 (.int (i : Nat)) := fun H2 e2 H3 e3 Q q => (ev_var g2) H3 e3 _ fun H4 e4 => ⟨.inl ⟨rfl, _, sq_of ((e2.trans (e3.trans e4)) _ _ hl1)⟩, ev_c H4 (e3.trans e4) _ fun H5 e5 => by
    have hq : SqL X.K H5 p [.bl b1, .bl b2, .bl b3] := sq_of ((e2.trans (e3.trans (e4.trans e5))) _ _ hl1)
    refine ⟨p, _, .bl true, i, .bl true, rfl, rfl, hq, rfl, rfl, ?_, rfl, fun m z' hm hz => ?_, q H5 (e4.trans e5)⟩
    · cases ot <;> rfl
    · cases ot
      · omega
      · obtain rfl : m = 0 := by omega
        cases hz; rfl
      · rcases (by omega : m = 0 ∨ m = 1) with rfl | rfl <;> (cases hz; rfl)⟩
  have at3 : atI [V.str "home", V.str "road", V.str "sign"] ((i : Nat) : Int) = some (.str word) := by subst wo; cases ot <;> rfl
  refine s_ret (v := .str word) (ev_if (b := true) (et_test (ev_op cnt ev_c (rv_eq rfl))) (fun _ => ev_opL1 (el_lst (vs := [.str "home", .str "road", .str "sign"]) (ea_cons ev_c (ea_cons ev_c (ea_cons ev_c ea_nil))) (by simp)) (fun H3 e3 => idx H3 e3) fun r H3 hr e3 => rv_ixL (sq_of hr) at3) fun z => nomatch z) fun H2 e2 => k H2 (e1.trans e2)

end
end Sg
namespace Sg
set_option autoImplicit false
open PySem L2 Evl Big
open PyProof.Rows (envOfC)
section
variable {P : Program} {w : World} {K : PySem.W.Frag} {mg : Str → Option Value} {base : Heap} {ad : Ads}
inductive Deed
  | turn (p q : Nat)
  | lose (p : Nat)
def Deed.at_ : Deed → Nat
  | .turn p _ => p
  | .lose p => p
def DeedAt (H : Hp) (t : Addr) : Deed → Prop
  | .turn p q => H t = some (.tup [.str "turn", natV p, natV q])
  | .lose p => H t = some (.tup [.str "lose", natV p])
theorem DeedAt.tup {H : Hp} {t : Addr} {d : Deed} (h : DeedAt H t d) : ∃ xs, H t = some (.tup xs) := by
  cases d <;> exact ⟨_, h⟩
theorem DeedAt.same {H H' : Hp} {t : Addr} {d : Deed} (h : DeedAt H t d) (e : ∀ xs, H t = some (.tup xs) → H' t = some (.tup xs)) : DeedAt H' t d := by
  cases d <;> exact e _ h
theorem DeedAt.mono {H H' : Hp} {t : Addr} {d : Deed} (e : Ex H H') (h : DeedAt H t d) : DeedAt H' t d := h.same fun _ z => e _ _ z
/-- whether a deed can be done -/
def canD (n h : Int) (rs : List (Int × Int)) (s : List (Option Nat)) : Deed → Bool
  | .turn p q => decide ((p : Int) < n) && (!decide ((p : Int) = h) && decide (((p : Int), (q : Int)) ∈ rs))
  | .lose p => decide ((p : Int) < n) && (!decide ((p : Int) = h) && (nx s p).isSome)
def outD (s : List (Option Nat)) : Deed → List (Option Nat)
  | .turn p q => s.set p (some q)
  | .lose p => s.set p none
noncomputable def toldD (h : Int) (s : List (Option Nat)) : Deed → Int
  | .turn p q => ((comers (s.set p (some q)) h.toNat).length : Int)
  | .lose p => match nx s p with
    | some q => (q : Int)
    | none => -1
def moreD (s : List (Option Nat)) : Deed → Int
  | .turn p q => if nx s p = some q then 0 else 1
  | .lose _ => 0
def stepS (n h : Int) (rs : List (Int × Int)) (s : List (Option Nat)) (d : Deed) : List (Option Nat) := if canD n h rs s d = true then outD s d else s
noncomputable def stepO (n h : Int) (rs : List (Int × Int)) (s : List (Option Nat)) (d : Deed) : Int := if canD n h rs s d = true then toldD h s d else -1
def stepM (n h : Int) (rs : List (Int × Int)) (s : List (Option Nat)) (d : Deed) : Int := if canD n h rs s d = true then moreD s d else 0
/-- what the signs of a land's posts are -/
structure PSigns (n h : Int) (rs : List (Int × Int)) (s : List (Option Nat)) : Prop where
  wf : Wf n.toNat s
  home : nx s h.toNat = none
theorem PSigns.step {n h : Int} {rs : List (Int × Int)} {s : List (Option Nat)} {d : Deed} (L : LandOk' n h rs) (x : PSigns n h rs s) : PSigns n h rs (stepS n h rs s d) := by
  unfold stepS
  by_cases c : canD n h rs s d = true
  · rw [if_pos c]
    have h0 := L.h0
    cases d with
    | turn p q =>
      simp only [canD, Bool.and_eq_true, decide_eq_true_eq, Bool.not_eq_true', decide_eq_false_iff_not] at c
      obtain ⟨c1, c2, c3⟩ := c
      refine ⟨wf_set' x.wf fun r e => ?_, ?_⟩
      · cases e
        have := (L.rd _ c3).2.2.2.1
        simp only at this
        omega
      · show nx (s.set p (some q)) h.toNat = none
        rw [nx_set, if_neg (fun z => c2 (by omega))]
        exact x.home
    | lose p =>
      refine ⟨wf_set' x.wf (fun r e => by cases e), ?_⟩
      show nx (s.set p none) h.toNat = none
      rw [nx_set]
      split
      · rfl
      · exact x.home
  · rw [if_neg c]; exact x
def sp_ask (K : PySem.W.Frag) (ad : Ads) : Sp := fun vs H Q _ => ∃ (x la rl sl dt : Addr) (n h : Int) (rs : List (Int × Int)) (s : List (Option Nat)) (t : Int) (d : Deed), vs = [.ref x, .ref dt] ∧ PostsAt K H ad.Posts x la rl sl n h rs s t ∧ rl ≠ sl ∧ LandOk' n h rs ∧ PSigns n h rs s ∧ DeedAt H dt d ∧
  ∀ H', Apart H H' x sl → PostsAt K H' ad.Posts x la rl sl n h rs (stepS n h rs s d) (t + stepM n h rs s d) → Q (.int (stepO n h rs s d)) H'
theorem ok_ask (T : Txt K mg ad) : C8.Cal P w K mg base 5 "_law_ask" (sp_ask K ad) [] := by
  have m_Posts_turn : C8.Met P w K mg base 4 ad.Posts "turn" (sp_Posts_turn K ad.Posts) [] := ok_Posts_turn T
  have m_Posts_lose : C8.Met P w K mg base 4 ad.Posts "lose" (sp_Posts_lose K ad.Posts) [] := ok_Posts_lose T
  have x_Posts_turn : MetX P w K mg base 4 ad.Posts "turn" (sp_turnX K ad) := okx_Posts_turn T
  have x_Posts_lose : MetX P w K mg base 4 ad.Posts "lose" (sp_loseX K ad) := okx_Posts_lose T
  refine cal_of T.d__law_ask sc__law_ask (fun _ _ _ _ _ _ us hl => match us, hl with | [_, _], _ => rfl) (fun vs H Q E h => ?_) (fun f cdv A outer st H vs Q E hr h => ?_)
  · obtain ⟨x, la, rl, sl, dt, n, h, rs, s, t, d, rfl, _⟩ := h; rfl
  · obtain ⟨x, la, rl, sl, dt, n, h, rs, s, t, d, rfl, PA, nrs, L, ps, da, k⟩ := h
    refine ⟨_, (pss_one (ps_try_only rfl rfl ⟨rfl, by decide, .inl T.x_SignError.g⟩ takes00 (fun W pn xe tk _ => (pss_one (ps_ret (pe_ifExp (pt_cmpR op_eq (pe_ix (k_tup K) (pv 1) pe_int (fun _ _ => rfl)) pe_str (nomark _)) (pe_alt (C8.pe_mt m_Posts_turn hr (by decide) (pv 0) (pa_cons (pe_ix (k_tup K) (pv 1) pe_int (fun _ _ => rfl)) (pa_cons (pe_ix (k_tup K) (pv 1) pe_int (fun _ _ => rfl)) pa_nil))) (pe_mS x_Posts_turn hr (by decide) tk (pv 0) (pa_cons (pe_ix (k_tup K) (pv 1) pe_int (fun _ _ => rfl)) (pa_cons (pe_ix (k_tup K) (pv 1) pe_int (fun _ _ => rfl)) pa_nil)))) (pe_alt (C8.pe_mt m_Posts_lose hr (by decide) (pv 0) (pa_cons (pe_ix (k_tup K) (pv 1) pe_int (fun _ _ => rfl)) pa_nil)) (pe_mS x_Posts_lose hr (by decide) tk (pv 0) (pa_cons (pe_ix (k_tup K) (pv 1) pe_int (fun _ _ => rfl)) pa_nil))))))) (fun a oe cls d pn _ _ => (pss_one (ps_ret (pe_un un_neg pe_int)))))), ?_⟩
    have w0 := ps.wf
    have slen := w0.len
    have n1 := L.n1
    have h0 := L.h0
    obtain ⟨dx, ob⟩ := PA.ob
    -- what follows a refusal
    have no : ∀ {H' : Hp} {C : Addr}, Ex H H' → PySem.W.exmOne K (.ref C) (.ref ad.SignError) = some true → canD n h rs s d = false → wOnly K (.ref ad.SignError) (fun a cls d => tRet (tUn (rU fun i => .int (-i)) (tC (.int 1)))) (fun _ _ _ _ => False) { nx := fun _ H' => Q .non H', rt := Q } (.ref C) none (start N__law_ask [.ref x, .ref dt]) H' := fun {H' C} e em cd => ⟨true, em, fun _ a _ => (ev_un ev_c ru_neg) H' (Ex.refl _) _ fun H2 e2 => by
        have := k H2 (fun b o _ _ z => (e.trans e2) _ _ z)
        unfold stepS stepM stepO at this
        rw [cd] at this
        simp only [Bool.false_eq_true, if_false, Int.add_zero] at this
        exact this (PA.mono (e.trans e2)), fun z => nomatch z⟩
    cases d with
    | turn p q =>
      have dT : ∀ {H2 : Hp}, Ex H H2 → SqT K H2 dt [.str "turn", natV p, natV q] := fun e => st_of (e _ _ da)
      refine (et_test (b := true) (ev_is (ev_op (ev_op (ev_var rfl) ev_c (rv_ixT (dT (Ex.refl _)) (atI_nat (j := 0) rfl))) ev_c (rv_eq rfl)) (by rw [decide_eq_true rfl]))) H (Ex.refl _) _ fun H1 e1 => iteT ?_
      have args : EvA (tCons (tOp (rIxT K) (tVar 1) (tC (.int 1))) (tCons (tOp (rIxT K) (tVar 1) (tC (.int 2))) tNil)) (start N__law_ask [.ref x, .ref dt]) H1 [natV p, natV q] := ea_cons (ev_op (ev_var rfl) ev_c (rv_ixT (dT e1) (atI_nat (j := 1) rfl))) (ea_cons (ev_op (ev_var rfl) ev_c (rv_ixT (dT e1) (atI_nat (j := 2) rfl))) ea_nil)
      by_cases c : canD n h rs s (.turn p q) = true
      · have cc := c
        simp only [canD, Bool.and_eq_true, decide_eq_true_eq, Bool.not_eq_true', decide_eq_false_iff_not] at cc
        obtain ⟨c1, c2, c3⟩ := cc
        refine .inl ((ev_var (v := .ref x) rfl) H1 (Ex.refl _) _ fun H2 e2 => ⟨x, dx, _, rfl, (e1.trans e2) _ _ ob, p3_no (by decide) (by decide) (by decide), args H2 e2 _ fun H3 e3 => ?_⟩)
        have e13 := e1.trans (e2.trans e3)
        refine ⟨x, la, rl, sl, n, h, rs, s, t, p, q, rfl, PA.mono e13, nrs, L, w0, c1, c2, c3, fun H4 ap P4 => ?_⟩
        have := k H4 (fun b o n1 n2 z => ap b o n1 n2 (e13 _ _ z))
        unfold stepS stepM stepO at this
        rw [if_pos c, if_pos c, if_pos c] at this
        refine this ?_
        have et : turnsF s p q t = t + moreD s (.turn p q) := by
          show (if nx s p = some q then t else t + 1) = t + (if nx s p = some q then 0 else 1)
          split <;> omega
        rw [← et]
        exact P4
      · have c' : canD n h rs s (.turn p q) = false := by simpa using c
        refine .inr ((ev_var (v := .ref x) rfl) H1 (Ex.refl _) _ fun H2 e2 => ⟨x, dx, _, rfl, (e1.trans e2) _ _ ob, p3_no (by decide) (by decide) (by decide), args H2 e2 _ fun H3 e3 => ?_⟩)
        have e13 := e1.trans (e2.trans e3)
        obtain ⟨C, nt, em⟩ : ∃ C, NoTurn ad n h rs p q C ∧ PySem.W.exmOne K (.ref C) (.ref ad.SignError) = some true := by
          by_cases c1 : (p : Int) < n
          · by_cases c2 : (p : Int) = h
            · exact ⟨_, .home ⟨by omega, c1⟩ c2, T.em_AtHome⟩
            · refine ⟨_, .road ⟨by omega, c1⟩ c2 fun z => ?_, T.em_BadRoad⟩
              have c3 : (decide ((p : Int) < n) && (!decide ((p : Int) = h) && decide (((p : Int), (q : Int)) ∈ rs))) = false := c'
              rw [decide_eq_true c1, decide_eq_false c2, decide_eq_true z.2] at c3
              cases c3
          · exact ⟨_, .place (fun z => c1 z.2), T.em_BadPlace⟩
        exact ⟨x, la, rl, sl, n, h, rs, s, t, p, q, C, rfl, PA.mono e13, nt, fun H4 e4 => no (e13.trans e4) em c'⟩
    | lose p =>
      have dT : ∀ {H2 : Hp}, Ex H H2 → SqT K H2 dt [.str "lose", natV p] := fun e => st_of (e _ _ da)
      refine (et_test (b := false) (ev_is (ev_op (ev_op (ev_var rfl) ev_c (rv_ixT (dT (Ex.refl _)) (atI_nat (j := 0) rfl))) ev_c (rv_eq rfl)) (by rw [decide_eq_false (by decide)]))) H (Ex.refl _) _ fun H1 e1 => iteF ?_
      have args : EvA (tCons (tOp (rIxT K) (tVar 1) (tC (.int 1))) tNil) (start N__law_ask [.ref x, .ref dt]) H1 [natV p] := ea_cons (ev_op (ev_var rfl) ev_c (rv_ixT (dT e1) (atI_nat (j := 1) rfl))) ea_nil
      by_cases c : canD n h rs s (.lose p) = true
      · have cc := c
        simp only [canD, Bool.and_eq_true, decide_eq_true_eq, Bool.not_eq_true', decide_eq_false_iff_not] at cc
        obtain ⟨c1, c2, c3⟩ := cc
        obtain ⟨q, hq⟩ := Option.isSome_iff_exists.mp c3
        refine .inl ((ev_var (v := .ref x) rfl) H1 (Ex.refl _) _ fun H2 e2 => ⟨x, dx, _, rfl, (e1.trans e2) _ _ ob, p3_no (by decide) (by decide) (by decide), args H2 e2 _ fun H3 e3 => ?_⟩)
        have e13 := e1.trans (e2.trans e3)
        refine ⟨x, la, rl, sl, n, h, rs, s, t, p, q, rfl, PA.mono e13, nrs, w0, by omega, c1, c2, hq, fun H4 ap P4 => ?_⟩
        have := k H4 (fun b o n1 n2 z => ap b o n1 n2 (e13 _ _ z))
        unfold stepS stepM stepO at this
        rw [if_pos c, if_pos c, if_pos c] at this
        have et : toldD h s (.lose p) = (q : Int) := by show (match nx s p with | some q => (q : Int) | none => -1) = (q : Int); rw [hq]
        rw [et] at this
        refine this ?_
        show PostsAt K H4 ad.Posts x la rl sl n h rs (s.set p none) (t + 0)
        rw [Int.add_zero]
        exact P4
      · have c' : canD n h rs s (.lose p) = false := by simpa using c
        refine .inr ((ev_var (v := .ref x) rfl) H1 (Ex.refl _) _ fun H2 e2 => ⟨x, dx, _, rfl, (e1.trans e2) _ _ ob, p3_no (by decide) (by decide) (by decide), args H2 e2 _ fun H3 e3 => ?_⟩)
        have e13 := e1.trans (e2.trans e3)
        obtain ⟨C, nt, em⟩ : ∃ C, NoLose ad n h s p C ∧ PySem.W.exmOne K (.ref C) (.ref ad.SignError) = some true := by
          by_cases c1 : (p : Int) < n
          · by_cases c2 : (p : Int) = h
            · exact ⟨_, .home ⟨by omega, c1⟩ c2, T.em_AtHome⟩
            · refine ⟨_, .sign ⟨by omega, c1⟩ c2 ?_, T.em_NoSign⟩
              cases hq : nx s p with
              | none => exact hq
              | some q =>
                have c3 : (decide ((p : Int) < n) && (!decide ((p : Int) = h) && (nx s p).isSome)) = false := c'
                rw [decide_eq_true c1, decide_eq_false c2, hq] at c3
                cases c3
          · exact ⟨_, .place (fun z => c1 z.2), T.em_BadPlace⟩
        exact ⟨x, la, rl, sl, n, h, rs, s, t, p, C, rfl, PA.mono e13, by omega, nt, fun H4 e4 => no (e13.trans e4) em c'⟩

end
end Sg
namespace Sg
set_option autoImplicit false
open PySem L2 Evl Big
open PyProof.Rows (envOfC)
section
variable {P : Program} {w : World} {K : PySem.W.Frag} {mg : Str → Option Value} {base : Heap} {ad : Ads}
noncomputable def comersN (s : List (Option Nat)) (g : Nat) : Nat := (comers s g).length
def comersC (s : List (Option Nat)) (g : Nat) : Nat := ((List.range s.length).filter fun q => decide (g ∈ (walkd s q).1)).length
theorem comers_c {s : List (Option Nat)} {g : Nat} (w : Wf s.length s) : (comers s g).length = comersC s g := by
  unfold comers comersC
  congr 1
  exact List.filter_congr fun q hq => reachB_walk w (List.mem_range.mp hq)
/-- a reading that gives v, and leaves R -/
def TM (t : TE) (σ : L2.St) (H : Hp) (R : Hp → Prop) (v : V) : Prop := ∀ Q : VK, (∀ H', R H' → Q v H') → t σ H Q
def TMA (t : TA) (σ : L2.St) (H : Hp) (R : Hp → Prop) (vs : List V) : Prop := ∀ Q : List V → Hp → Prop, (∀ H', R H' → Q vs H') → t σ H Q
theorem tma_nil {σ : L2.St} {H : Hp} {R : Hp → Prop} (h : R H) : TMA tNil σ H R [] := fun Q q => q H h
theorem tma_cons {σ : L2.St} {H : Hp} {R S : Hp → Prop} {te : TE} {ta : TA} {v : V} {vs : List V} (h : TM te σ H R v) (k : ∀ H1, R H1 → TMA ta σ H1 S vs) : TMA (tCons te ta) σ H S (v :: vs) := fun Q q => h _ fun H1 r => k H1 r _ fun H2 s => q H2 s
theorem tm_ev {σ : L2.St} {H : Hp} {te : TE} {v : V} (h : Ev te σ H v) : TM te σ H (Ex H) v := fun Q q => h H (Ex.refl _) Q fun H' e => q H' e
theorem tm_mono {σ : L2.St} {H : Hp} {te : TE} {v : V} {R S : Hp → Prop} (h : TM te σ H R v) (k : ∀ H', R H' → S H') : TM te σ H S v := fun Q q => h Q fun H' r => q H' (k H' r)
/-- a new list of such, compared with a new list that is the same -/
theorem ne_lists {σ : L2.St} {H : Hp} {R : Hp → Prop} {ta : TA} {tb : TE} {l : List Nat} (hR : ∀ H1 H2, Ex H1 H2 → R H1 → R H2) (ha : TMA ta σ H R (l.map natV)) (hb : ∀ H1, EvL tb σ H1 (l.map natV)) (hz : l.length ≤ 100) (Q : Bool → Hp → Prop) (q : ∀ H', R H' → Q false H') : tTest (tOp (rNeD K) (tLst ta) tb) σ H Q := by
  refine ha _ fun H1 r1 => ⟨sz_of (by rw [List.length_map]; omega), fun p hp => ?_⟩
  have r2 := hR _ _ (Ex.new (o := .lst (l.map natV)) hp) r1
  refine (hb _) _ (Ex.refl _) _ fun b H3 hb0 e3 h3 => ?_
  refine (ne_nats (K := K) (e3 _ _ upd_same) h3) H3 (Ex.refl _) _ fun H4 e4 => ⟨false, rfl, q H4 (hR _ _ (e3.trans e4) r2)⟩
theorem eq_signs {H : Hp} {a b : Addr} {s : List (Option Nat)} (h1 : SqL K H a (s.map nV)) (h2 : SqL K H b (s.map nV)) : RV (rEqD K) (.ref a) (.ref b) H (.bl true) := by
  have q := rv_eqD (K := K) (p := True) (.lst h1 (dp_n s)) (.lst h2 (dp_n s)) (pd_n s) (pd_n s) (by simp)
  exact q
/-- tables stand apart from posts -/
theorem tabs_apart {Tb : List (Addr × Str)} {H H' : Hp} {x sl : Addr} {C dx : Addr} {fs : List (Str × V)} {xs : List V} (hx : H x = some (.ins C dx fs)) (hs : H sl = some (.lst xs)) (a : Apart H H' x sl) (t : LamX.Tabs Tb H) : LamX.Tabs Tb H' := fun p hp => by
  have to : ∀ b o, H b = some o → (∀ C dx fs, o ≠ .ins C dx fs) → (∀ xs, o ≠ .lst xs) → H' b = some o := fun b o hb n1 n2 => a b o (fun z => by subst z; exact n1 _ _ _ (Option.some.inj (hb.symm.trans hx))) (fun z => by subst z; exact n2 _ (Option.some.inj (hb.symm.trans hs))) hb
  obtain ⟨ps, h1, h2, h3⟩ := t p hp
  refine ⟨ps, to _ _ h1 (fun _ _ _ z => nomatch z) (fun _ z => nomatch z), h2, fun pos cv hc => ?_⟩
  obtain ⟨c, e1, e2⟩ := h3 pos cv hc
  exact ⟨c, e1, to _ _ e2 (fun _ _ _ z => by unfold LamX.CodeO at z; cases z) (fun _ z => by unfold LamX.CodeO at z; cases z)⟩
/-- posts at work: G stands, but for tables; the posts are new -/
structure PP (K : PySem.W.Frag) (ad : Ads) (Tb : List (Addr × Str)) (G H : Hp) (x la rl sl : Addr) (n h : Int) (rs : List (Int × Int)) (s : List (Option Nat)) (t : Int) : Prop where
  at_ : PostsAt K H ad.Posts x la rl sl n h rs s t
  nrs : rl ≠ sl
  ok : LandOk' n h rs
  sg : PSigns n h rs s
  ex : LamX.ExtN G H
  gx : G x = none
  gs : G sl = none
  tb : LamX.Tabs Tb H
section
variable {Tb : List (Addr × Str)} {G H H' : Hp} {x la rl sl : Addr} {n h : Int} {rs : List (Int × Int)} {s : List (Option Nat)} {t : Int} {σ : L2.St} {i : Nat}
theorem PP.mono (e : Ex H H') (p : PP K ad Tb G H x la rl sl n h rs s t) : PP K ad Tb G H' x la rl sl n h rs s t := ⟨p.at_.mono e, p.nrs, p.ok, p.sg, p.ex.trans (.of e), p.gx, p.gs, p.tb.ext e⟩
theorem PP.extN (e : LamX.ExtN H H') (tb : LamX.Tabs Tb H') (p : PP K ad Tb G H x la rl sl n h rs s t) : PP K ad Tb G H' x la rl sl n h rs s t := ⟨p.at_.extN e, p.nrs, p.ok, p.sg, p.ex.trans e, p.gx, p.gs, tb⟩
theorem PP.apart {s' : List (Option Nat)} {t' : Int} (p : PP K ad Tb G H x la rl sl n h rs s t) (a : Apart H H' x sl) (q : PostsAt K H' ad.Posts x la rl sl n h rs s' t') (sg : PSigns n h rs s') : PP K ad Tb G H' x la rl sl n h rs s' t' := by
  obtain ⟨dx, ob⟩ := p.at_.ob
  exact ⟨q, p.nrs, p.ok, sg, fun b o hb nt => a b o (ne_of_none hb p.gx) (ne_of_none hb p.gs) (p.ex b o hb nt), p.gx, p.gs, tabs_apart ob p.at_.sl a p.tb⟩
theorem tm_turn {E : XK} (p : PP K ad Tb G H x la rl sl n h rs s t) (h0 : σ[i]? = some (some (.ref x))) (a b : Nat) (ha : (a : Int) < n) (hah : (a : Int) ≠ h) (hm : ((a : Int), (b : Int)) ∈ rs) :
    TM (tMeth ad.Posts "turn" (sp_Posts_turn K ad.Posts) [] E (tVar i) (tCons (tC (natV a)) (tCons (tC (natV b)) tNil))) σ H (fun H' => PP K ad Tb G H' x la rl sl n h rs (s.set a (some b)) (turnsF s a b t)) (natV (comers (s.set a (some b)) h.toNat).length) := fun Q q => by
  obtain ⟨dx, ob⟩ := p.at_.ob
  refine (ev_var h0) H (Ex.refl _) _ fun H1 e1 => ⟨x, dx, _, rfl, e1 _ _ ob, p3_no (by decide) (by decide) (by decide), (ea_cons ev_c (ea_cons ev_c ea_nil)) H1 (Ex.refl _) _ fun H2 e2 => ?_⟩
  have e12 := e1.trans e2
  have p2 := p.mono e12
  refine ⟨x, la, rl, sl, n, h, rs, s, t, a, b, rfl, p2.at_, p.nrs, p.ok, p.sg.wf, ha, hah, hm, fun H3 ap P3 => q _ (p2.apart ap P3 ?_)⟩
  have := p.sg.step (d := .turn a b) p.ok
  have c : canD n h rs s (.turn a b) = true := by
    show (decide ((a : Int) < n) && (!decide ((a : Int) = h) && decide (((a : Int), (b : Int)) ∈ rs))) = true
    rw [decide_eq_true ha, decide_eq_false hah, decide_eq_true hm]; rfl
  unfold stepS at this
  rw [if_pos c] at this
  exact this
theorem tm_lose {E : XK} (p : PP K ad Tb G H x la rl sl n h rs s t) (h0 : σ[i]? = some (some (.ref x))) (a b : Nat) (ha : (a : Int) < n) (hah : (a : Int) ≠ h) (hq : nx s a = some b) :
    TM (tMeth ad.Posts "lose" (sp_Posts_lose K ad.Posts) [] E (tVar i) (tCons (tC (natV a)) tNil)) σ H (fun H' => PP K ad Tb G H' x la rl sl n h rs (s.set a none) t) (natV b) := fun Q q => by
  obtain ⟨dx, ob⟩ := p.at_.ob
  refine (ev_var h0) H (Ex.refl _) _ fun H1 e1 => ⟨x, dx, _, rfl, e1 _ _ ob, p3_no (by decide) (by decide) (by decide), (ea_cons ev_c ea_nil) H1 (Ex.refl _) _ fun H2 e2 => ?_⟩
  have e12 := e1.trans e2
  have p2 := p.mono e12
  have n1 := p.ok.n1
  refine ⟨x, la, rl, sl, n, h, rs, s, t, a, b, rfl, p2.at_, p.nrs, p.sg.wf, by omega, ha, hah, hq, fun H3 ap P3 => q _ (p2.apart ap P3 ?_)⟩
  have := p.sg.step (d := .lose a) p.ok
  have c : canD n h rs s (.lose a) = true := by
    show (decide ((a : Int) < n) && (!decide ((a : Int) = h) && (nx s a).isSome)) = true
    rw [decide_eq_true ha, decide_eq_false hah, hq]; rfl
  unfold stepS at this
  rw [if_pos c] at this
  exact this
theorem tm_turned {E : XK} (p : PP K ad Tb G H x la rl sl n h rs s t) (h0 : σ[i]? = some (some (.ref x))) : TM (tMeth ad.Posts "turned" (sp_Posts_turned ad.Posts) [] E (tVar i) tNil) σ H (fun H' => PP K ad Tb G H' x la rl sl n h rs s t) (.int t) := tm_mono (tm_ev (ev_turned (ev_var h0) p.at_)) fun H' e => p.mono e
end
theorem PostsMade.pp {Tb : List (Addr × Str)} {H H' : Hp} {n h : Int} {rs : List (Int × Int)} {v : V} (p : PostsMade K ad H n h rs v H') (e : Ex H H') (ok : LandOk' n h rs) (tb : LamX.Tabs Tb H) : ∃ x la rl sl, v = .ref x ∧ PP K ad Tb H H' x la rl sl n h rs (List.replicate n.toNat none) 0 := by
  obtain ⟨x, la, rl, sl, e1, g1, _, _, g2, nrs, at_⟩ := p
  refine ⟨x, la, rl, sl, e1, at_, nrs, ok, ⟨⟨by simp, fun a b z => ?_⟩, nx_bare _ _⟩, .of e, g1, g2, tb.ext e⟩
  rw [nx_bare] at z
  cases z
def TF (c : TT) (σ : L2.St) (H : Hp) (R : Hp → Prop) : Prop := ∀ Q : Bool → Hp → Prop, (∀ H', R H' → Q false H') → c σ H Q
theorem q_whenR {σ : L2.St} {H : Hp} {D : Ends} {c : TT} {t z : TS} {R : Hp → Prop} (h : TF c σ H R) (k : ∀ H', R H' → z D σ H') : tSeq (tIfS c t tNext) z D σ H := h _ fun H' r => iteF (k H' r)
theorem s_whenR {σ : L2.St} {H : Hp} {D : Ends} {c : TT} {t : TS} {R : Hp → Prop} (h : TF c σ H R) (k : ∀ H', R H' → D.nx σ H') : tIfS c t tNext D σ H := h _ fun H' r => iteF (k H' r)
theorem tf_or {σ : L2.St} {H : Hp} {c d : TT} {R S : Hp → Prop} (h : TF c σ H R) (k : ∀ H1, R H1 → TF d σ H1 S) : TF (tOr c d) σ H S := fun Q q => h _ fun H1 r => iteF (k H1 r Q q)
theorem tf_ne {σ : L2.St} {H : Hp} {te : TE} {v : V} {R : Hp → Prop} (h : TM te σ H R v) (hs : scal v v = true := by rfl) : TF (tTest (tOp rNe te (tC v))) σ H R := fun Q q => h _ fun H1 r => ⟨hs, false, by rw [decide_eq_true rfl]; rfl, q H1 r⟩
theorem tf_et {σ : L2.St} {H : Hp} {c : TT} (h : EvT c σ H false) : TF c σ H (Ex H) := fun Q q => h H (Ex.refl _) Q fun H1 e => q H1 e
section
variable {Tb : List (Addr × Str)} {G H H' : Hp} {x la rl sl : Addr} {n h : Int} {rs : List (Int × Int)} {s : List (Option Nat)} {t : Int} {σ : L2.St} {i : Nat}
theorem tm_turnC {E : XK} (p : PP K ad Tb G H x la rl sl n h rs s t) (h0 : σ[i]? = some (some (.ref x))) (a b c : Nat) (s' : List (Option Nat)) (t' : Int) (ha : (a : Int) < n) (hah : (a : Int) ≠ h) (hm : ((a : Int), (b : Int)) ∈ rs) (hs : s.set a (some b) = s' := by rfl) (ht : turnsF s a b t = t' := by rfl) (hc : comersC s' h.toNat = c := by rfl) :
    TM (tMeth ad.Posts "turn" (sp_Posts_turn K ad.Posts) [] E (tVar i) (tCons (tC (natV a)) (tCons (tC (natV b)) tNil))) σ H (fun H' => PP K ad Tb G H' x la rl sl n h rs s' t') (natV c) := fun Q q => tm_turn p h0 a b ha hah hm Q fun H' p' => by
  rw [hs, ht] at p'
  have w := p'.sg.wf
  rw [← w.len] at w
  rw [hs, comers_c w, hc]
  exact q H' p'
theorem tm_loseC {E : XK} (p : PP K ad Tb G H x la rl sl n h rs s t) (h0 : σ[i]? = some (some (.ref x))) (a b : Nat) (s' : List (Option Nat)) (ha : (a : Int) < n) (hah : (a : Int) ≠ h) (hq : nx s a = some b := by rfl) (hs : s.set a none = s' := by rfl) :
    TM (tMeth ad.Posts "lose" (sp_Posts_lose K ad.Posts) [] E (tVar i) (tCons (tC (natV a)) tNil)) σ H (fun H' => PP K ad Tb G H' x la rl sl n h rs s' t) (natV b) := fun Q q => tm_lose p h0 a b ha hah hq Q fun H' p' => by
  rw [hs] at p'
  exact q H' p'
/-- no_of(lambda: posts.lose(a)), no sign at a -/
theorem tm_noSign (p : PP K ad Tb G H x la rl sl n h rs s t) (h0 : σ[i]? = some (some (.ref x))) (a : Nat) (ha : (a : Int) < n) (hah : (a : Int) ≠ h) (hq : nx s a = none := by rfl) :
    TM (LamX.tLam Tb (TNo ad) fun E => tMeth ad.Posts "lose" (sp_loseX K ad) [] E (tVar i) (tCons (tC (natV a)) tNil)) σ H (fun H' => PP K ad Tb G H' x la rl sl n h rs s t) (.str "sign") := fun Q q => ⟨p.tb, fun H1 e1 t1 => by
  have p1 := p.extN e1 t1
  obtain ⟨dx, ob⟩ := p1.at_.ob
  have n1 := p.ok.n1
  show tMeth ad.Posts "lose" (sp_loseX K ad) [] (fun cls d H' => ∃ C word, cls = .ref C ∧ d = none ∧ NoWord ad C word ∧ ∀ H'', Ex H' H'' → Q (.str word) H'') (tVar i) (tCons (tC (natV a)) tNil) σ H1 (fun _ H1 => Q (.str "") H1)
  refine (ev_var h0) H1 (Ex.refl _) _ fun H2 e2 => ⟨x, dx, _, rfl, e2 _ _ ob, p3_no (by decide) (by decide) (by decide), (ea_cons ev_c ea_nil) H2 (Ex.refl _) _ fun H3 e3 => ?_⟩
  have p3 := p1.mono (e2.trans e3)
  refine ⟨x, la, rl, sl, n, h, rs, s, t, (a : Int), ad.NoSign, rfl, p3.at_, ?_, .sign ⟨by omega, ha⟩ hah (by rw [Int.toNat_natCast]; exact hq), fun H4 e4 => ⟨ad.NoSign, "sign", rfl, rfl, .sign, fun H5 e5 => q _ ((p3.mono e4).mono e5)⟩⟩
  have := p3.sg.wf.len
  omega⟩
end

end
end Sg
namespace Sg
set_option autoImplicit false
open PySem L2 Evl Big
open PyProof.Rows (envOfC)
section
variable {P : Program} {w : World} {K : PySem.W.Frag} {mg : Str → Option Value} {base : Heap} {ad : Ads}
theorem rc_intB {b : Bool} {H : Hp} : RC (fun xs H Q => (∃ i, xs = [.int i] ∧ Q (.int i) H) ∨ ∃ k, xs = [.bl k] ∧ Q (.int (if k then 1 else 0)) H) [.bl b] H (.int (if b then 1 else 0)) := fun H1 _ _ q => .inr ⟨b, rfl, q H1 (Ex.refl _)⟩
def sp_deed (K : PySem.W.Frag) : Sp := fun vs H Q _ => ∃ (N : Int) (lv : V) (n h : Int) (rs : List (Int × Int)), vs = [.int N, lv] ∧ 0 ≤ N ∧ LandAt K H lv n h rs ∧ LandOk' n h rs ∧ Give H (fun v H' => ∃ (t : Addr) (d : Deed), v = .ref t ∧ H t = none ∧ DeedAt H' t d) Q
theorem ok_deed (T : Txt K mg ad) : C8.Cal P w K mg base 1 "_law_deed" (sp_deed K) [] := by
  refine cal_of T.d__law_deed sc__law_deed (fun _ _ _ _ _ _ us hl => match us, hl with | [_, _], _ => rfl) (fun vs H Q E h => ?_) (fun f cdv A outer st H vs Q E hr h => ?_)
  · obtain ⟨N, lv, n, h, rs, rfl, _⟩ := h; rfl
  · obtain ⟨N, lv, n, h, rs, rfl, N0, hL, L, k⟩ := h
    obtain ⟨la, r, rfl, hT, hR⟩ := hL.ex
    obtain ⟨rk, r1, r2, r3⟩ := roadsN hR L
    have n1 := L.n1
    have n40 := L.n40
    have few := L.few
    have rkl : rk.length ≤ 120 := by
      have e1 : rk.length = (rdN rs).length := by rw [← r3, List.length_map]
      have e2 : (rdN rs).length = rs.length := by unfold rdN; rw [List.length_map]
      omega
    refine ⟨_, (pss_cons (ps_set (i := 2) sc__law_deed.nd rfl (Or.inr rfl) (pe_op op_mod (pe_op op_fdiv (pv 0) pe_int) (pe_op op_add (pe_ix (k_tup K) (pv 1) pe_int (fun _ _ => rfl)) pe_int)))
  (pss_cons (ps_set (i := 3) sc__law_deed.nd rfl (Or.inl rfl) (pe_op op_fdiv (pe_op op_fdiv (pv 0) pe_int) (pe_op op_add (pe_ix (k_tup K) (pv 1) pe_int (fun _ _ => rfl)) pe_int)))
  (pss_cons (ps_setLc (i := 4) (own := [("_law_road", 5)]) (g := _) (tt := _) (by rfl) sc__law_deed.nd rfl rfl (sw_true rfl rfl rfl (by decide +kernel)) (k_il K (pe_ix (k_tup K) (pv 1) pe_int (fun _ _ => rfl))) (blkOk_by (N := N__law_deed) (sc := C8.fnScope st__law_deed) (by decide +kernel)) (fun _ _ _ _ _ => (pg_name (i := 5) sc__law_deed.nd rfl (Or.inl rfl))) (fun _ _ _ _ _ => (pts_one (pt_cmpR op_eq (pe_ix (k_tup K) (pv 5) pe_int (fun _ _ => rfl)) (pv 2) (nomark _)))) (fun _ _ _ _ _ => (pe_ix (k_tup K) (pv 5) pe_int (fun _ _ => rfl))))
  (pss_cons (ps_if (PW.pt (pw_and (pt_cmpR op_lt (pe_op op_mod (pv 0) pe_int) pe_int (nomark _)) (pw_and1 (pt_cmpR (k_neD K hr.units) (pv 4) (pe_lst pa_nil) (nomark _))))) (pss_one (ps_ret (pe_tup (pa_cons pe_str (pa_cons (pv 2) (pa_cons (pe_ix (k_list K) (pv 4) (pe_op op_mod (pv 3) (pe_callB (k_len K) (by rfl) T.n_len PySem.boot_len (pa_cons (pv 4) pa_nil))) (fun _ _ => rfl)) pa_nil)))))) pss_nil)
  (pss_cons (ps_if (pt_cmpR op_lt (pe_op op_mod (pv 0) pe_int) pe_int (nomark _)) (pss_one (ps_ret (pe_tup (pa_cons pe_str (pa_cons (pv 2) (pa_cons (pe_op op_mod (pv 3) (pe_ix (k_tup K) (pv 1) pe_int (fun _ _ => rfl))) pa_nil)))))) pss_nil)
  (pss_one (ps_ret (pe_tup (pa_cons pe_str (pa_cons (pv 2) pa_nil)))))))))), ?_⟩
    have landE : ∀ {σ : L2.St} {H2 : Hp}, σ[1]? = some (some (.ref la)) → Ex H H2 → Ev (tOp (rIxT K) (tVar 1) (tC (.int 0))) σ H2 (.int n) := fun h0 e => ev_op (ev_var h0) ev_c (rv_ixT (ex_t e hT) (atI_nat (j := 0) rfl))
    obtain ⟨p, hp⟩ : ∃ p : Nat, N / 8 % (n + 1) = (p : Int) := ⟨(N / 8 % (n + 1)).toNat, by have := Int.emod_nonneg (N / 8) (show n + 1 ≠ 0 by omega); omega⟩
    have N8 : 0 ≤ N / 8 := Int.ediv_nonneg N0 (by decide)
    have m0 : 0 ≤ N / 8 / (n + 1) := Int.ediv_nonneg N8 (by omega)
    refine q_asg (v := natV p) (ev_is (ev_op (ev_op (ev_var rfl) ev_c (rv_I (C := CDiv) ⟨by decide, by decide⟩)) (ev_op (landE rfl (Ex.refl _)) ev_c rv_I0) (rv_I (C := fun _ j => 0 < j) (by omega))) (by unfold natV; rw [hp])) fun H1 a1 => ?_
    refine q_asg (ev_op (ev_op (ev_var rfl) ev_c (rv_I (C := CDiv) ⟨by decide, by decide⟩)) (ev_op (landE rfl a1) ev_c rv_I0) (rv_I (C := CDiv) ⟨by omega, by omega⟩)) fun H2 a2 => ?_
    generalize N / 8 / (n + 1) = M at m0
    have a12 := a1.trans a2
    refine q_asgL (el_filtL (K := K) (j := 5) rk rnV (fun q => decide (q.2.1 = p)) (fun q => natV q.2.2) (ev_op (ev_var rfl) ev_c (rv_ixT (ex_t a12 hT) (atI_nat (j := 2) rfl))) (ex_l a12 r1) (by omega) (fun q hq H3 a3 => et_test (ev_is (ev_op (ev_op (ev_var rfl) ev_c (rv_ixT (ex_t (a12.trans a3) (r2 q hq)) (atI_nat (j := 0) rfl))) (ev_var rfl) (rv_eq rfl)) (by simp [natV]; omega))) fun q hq H3 a3 _ => ev_op (ev_var rfl) ev_c (rv_ixT (ex_t (a12.trans a3) (r2 q hq)) (atI_nat (j := 1) rfl))) fun na H3 na0 a3 hna => ?_
    have a13 := a12.trans a3
    obtain ⟨ms, hms⟩ : ∃ ms : List Nat, ms = (rk.filter fun q => decide (q.2.1 = p)).map fun q => q.2.2 := ⟨_, rfl⟩
    have hna : H3 na = some (.lst (ms.map natV)) := by rw [hna, hms, List.map_map]; rfl
    have done : ∀ {σ : L2.St} {H4 : Hp} {D : Ends} {ta : TA} {xs : List V} {d : Deed}, D.rt = Q → Ex H H4 → EvA ta σ H4 xs → xs.length ≤ 100000 → (∀ (H' : Hp) (t : Addr), H' t = some (.tup xs) → DeedAt H' t d) → tRet (tTup ta) D σ H4 := fun {σ H4 D ta xs d} er e ha hz hd => by
      refine eu_tup ha hz H4 (Ex.refl _) _ fun t H5 ht e5 h5 => ?_
      show D.rt _ _
      rw [er]
      exact k _ _ (e.trans e5) ⟨t, d, rfl, fresh_back e ht, hd _ _ h5⟩
    refine q_when (b := decide (N % 8 < 5) && !decide (ms = [])) (et_and (et_test (ev_op (ev_op (ev_var rfl) ev_c (rv_I (C := fun _ j => 0 < j) (by decide))) ev_c rv_lt)) fun _ => et_test (ev_opL (ev_var rfl) (el_lst (vs := []) ea_nil (by decide)) fun q H4 hq e4 => rv_neD (.lst (sq_of (e4 _ _ hna)) (dp_nats ms)) (.lst (sq_of hq) .nil) (pd_nats ms) (pd_nats []) (by rw [lst_inj]; exact map_inj (m := []) natD_inj))) (fun hb H4 a4 => ?_) fun hb H4 a4 => ?_
    · rw [Bool.and_eq_true, Bool.not_eq_true', decide_eq_false_iff_not] at hb
      have ml : 0 < ms.length := List.length_pos_iff.mpr hb.2
      have z0 : 0 ≤ M % (ms.length : Int) := Int.emod_nonneg _ (by omega)
      have z1 : M % (ms.length : Int) < (ms.length : Int) := Int.emod_lt_of_pos _ (by omega)
      obtain ⟨j, hj⟩ : ∃ j : Nat, M % (ms.length : Int) = (j : Int) := ⟨(M % (ms.length : Int)).toNat, by omega⟩
      have hg := List.getElem?_eq_getElem (show j < ms.length by omega)
      generalize ms[j] = q at hg
      have lenE := ev_len (K := K) (ta := tVar 4) (ev_var (σ := [some (.int N), some (.ref la), some (natV p), some (.int M), some (.ref na), none]) (i := 4) rfl) (sq_of (a4 _ _ hna))
      rw [List.length_map] at lenE
      exact done (xs := [.str "turn", natV p, natV q]) (d := .turn p q) rfl (a13.trans a4) (ea_cons ev_c (ea_cons (ev_var rfl) (ea_cons (ev_op (ev_var rfl) (ev_op (ev_var rfl) lenE (rv_I (C := fun _ j => 0 < j) (by omega))) (rv_ixL (sq_of (a4 _ _ hna)) (at_of (j := j) hj (by rw [List.getElem?_map, hg]; rfl)))) ea_nil))) (by show 3 ≤ 100000; decide) fun H' t z => z
    · have a14 := a13.trans a4
      obtain ⟨q, hq⟩ : ∃ q : Nat, M % n = (q : Int) := ⟨(M % n).toNat, by have := Int.emod_nonneg M (show n ≠ 0 by omega); omega⟩
      refine q_when (b := decide (N % 8 < 6)) (et_test (ev_op (ev_op (ev_var rfl) ev_c (rv_I (C := fun _ j => 0 < j) (by decide))) ev_c rv_lt)) (fun _ H5 a5 => ?_) fun _ H5 a5 => ?_
      · exact done (xs := [.str "turn", natV p, natV q]) (d := .turn p q) rfl (a14.trans a5) (ea_cons ev_c (ea_cons (ev_var rfl) (ea_cons (ev_is (ev_op (ev_var rfl) (landE rfl (a14.trans a5)) (rv_I (C := fun _ j => 0 < j) (by omega))) (by unfold natV; rw [hq])) ea_nil))) (by show 3 ≤ 100000; decide) fun H' t z => z
      · exact done (xs := [.str "lose", natV p]) (d := .lose p) rfl (a14.trans a5) (ea_cons ev_c (ea_cons (ev_var rfl) ea_nil)) (by show 2 ≤ 100000; decide) fun H' t z => z
def sp_due06 (K : PySem.W.Frag) : Sp := fun vs H Q _ => ∃ (lv : V) (sg dt : Addr) (n h : Int) (rs : List (Int × Int)) (s : List (Option Nat)) (d : Deed) (G : Hp), vs = [lv, .ref sg, .ref dt] ∧ Ex G H ∧ G sg = none ∧ LandAt K G lv n h rs ∧ LandOk' n h rs ∧ H sg = some (.lst (s.map nV)) ∧ PSigns n h rs s ∧ DeedAt H dt d ∧
  ∀ (H' : Hp) (t : Addr), (∀ b o, b ≠ sg → H b = some o → H' b = some o) → H' sg = some (.lst ((stepS n h rs s d).map nV)) → H' t = some (.tup [.int (stepO n h rs s d), .int (stepM n h rs s d)]) → Q (.ref t) H'
theorem ok_due06 (T : Txt K mg ad) : C8.Cal P w K mg base 3 "_law_due" (sp_due06 K) [] := by
  have c__law_home : C8.Cal P w K mg base 2 "_law_home" (sp_law_home K) [] := ok_law_home T
  refine cal_of T.d__law_due sc__law_due (fun _ _ _ _ _ _ us hl => match us, hl with | [_, _, _], _ => rfl) (fun vs H Q E h => ?_) (fun f cdv A outer st H vs Q E hr h => ?_)
  · obtain ⟨lv, sg, dt, n, h, rs, s, d, G, rfl, _⟩ := h; rfl
  · obtain ⟨lv, sg, dt, n, h, rs, s, d, G, rfl, eG, Gsg, hLG, L, hsg, ps, da, k⟩ := h
    have hu65 := hu65_of hr
    obtain ⟨la, r, rfl, hTG, hRG⟩ := hLG.ex
    have n1 := L.n1
    have n40 := L.n40
    have h0 := L.h0
    have hn := L.hn
    have w0 := ps.wf
    have slen := w0.len
    refine ⟨_, (pss_cons (ps_set (i := 3) sc__law_due.nd rfl (Or.inl rfl) (pe_ix (k_tup K) (pv 2) pe_int (fun _ _ => rfl)))
  (pss_cons (ps_if (PW.pt (pw_or (pt_cmpR op_ge (pv 3) (pe_ix (k_tup K) (pv 0) pe_int (fun _ _ => rfl)) (nomark _)) (pw_or1 (pt_cmpR op_eq (pv 3) (pe_ix (k_tup K) (pv 0) pe_int (fun _ _ => rfl)) (nomark _))))) (pss_one (ps_ret (pe_tup (pa_cons (pe_un un_neg pe_int) (pa_cons pe_int pa_nil))))) pss_nil)
  (pss_cons (ps_set (i := 4) sc__law_due.nd rfl (Or.inl rfl) (pe_ix (k_list K) (pv 1) (pv 3) (fun _ _ => rfl)))
  (pss_cons (ps_if (pt_cmpR op_eq (pe_ix (k_tup K) (pv 2) pe_int (fun _ _ => rfl)) pe_str (nomark _)) (pss_cons (ps_asg pe_non (pg_sub (pv 1) (pv 3) set_list))
  (pss_one (ps_ret (pe_tup (pa_cons (pe_ifExp (pt_cmpR op_isN (pv 4) pe_non (nomark _)) (pe_un un_neg pe_int) (pv 4)) (pa_cons pe_int pa_nil)))))) pss_nil)
  (pss_cons (ps_if (pt_cmpR (k_niD K hu65) (pe_tup (pa_cons (pv 3) (pa_cons (pe_ix (k_tup K) (pv 2) pe_int (fun _ _ => rfl)) pa_nil))) (pe_ix (k_tup K) (pv 0) pe_int (fun _ _ => rfl)) (by rfl)) (pss_one (ps_ret (pe_tup (pa_cons (pe_un un_neg pe_int) (pa_cons pe_int pa_nil))))) pss_nil)
  (pss_cons (ps_asg (pe_ix (k_tup K) (pv 2) pe_int (fun _ _ => rfl)) (pg_sub (pv 1) (pv 3) set_list))
  (pss_one (ps_ret (pe_tup (pa_cons (pe_callB (k_len K) (by rfl) T.n_len PySem.boot_len (pa_cons (C8.pe_c c__law_home hr (by decide) rfl (pa_cons (pv 0) (pa_cons (pv 1) pa_nil))) pa_nil)) (pa_cons (pe_callTy call_int1 (by rfl) T.n_int (by decide +kernel) (pa_cons (pe_cmpR op_ne (pv 4) (pe_ix (k_tup K) (pv 2) pe_int (fun _ _ => rfl)) (nomark _)) pa_nil)) pa_nil))))))))))), ?_⟩
    have landE : ∀ {σ : L2.St} {H2 : Hp}, σ[0]? = some (some (.ref la)) → Ex H H2 → Ev (tOp (rIxT K) (tVar 0) (tC (.int 0))) σ H2 (.int n) := fun h0 e => ev_op (ev_var h0) ev_c (rv_ixT (ex_t (eG.trans e) hTG) (atI_nat (j := 0) rfl))
    have homeE : ∀ {σ : L2.St} {H2 : Hp}, σ[0]? = some (some (.ref la)) → Ex H H2 → Ev (tOp (rIxT K) (tVar 0) (tC (.int 1))) σ H2 (.int h) := fun h0 e => ev_op (ev_var h0) ev_c (rv_ixT (ex_t (eG.trans e) hTG) (atI_nat (j := 1) rfl))
    -- a new pair
    have fin : ∀ {σ : L2.St} {H2 : Hp} {ta : TA} {D : Ends} {a b : Int}, D.rt = Q → EvA ta σ H2 [.int a, .int b] → (∀ b o, b ≠ sg → H b = some o → H2 b = some o) → H2 sg = some (.lst ((stepS n h rs s d).map nV)) → stepO n h rs s d = a → stepM n h rs s d = b → tRet (tTup ta) D σ H2 := fun {σ H2 ta D a b} er ha fr hs e1 e2 => by
      refine eu_tup ha (by show 2 ≤ 100000; decide) H2 (Ex.refl _) _ fun t H3 ht e3 h3 => ?_
      show D.rt _ _
      rw [er]
      exact k _ _ (fun b o nb z => e3 _ _ (fr b o nb z)) (e3 _ _ hs) (by rw [e1, e2]; exact h3)
    have no : canD n h rs s d = false → ∀ {σ : L2.St} {H2 : Hp} {ta : TA} {D : Ends}, D.rt = Q → EvA ta σ H2 [.int (-1), .int 0] → Ex H H2 → tRet (tTup ta) D σ H2 := fun c {σ H2 ta D} er ha e => by
      have e1 : stepS n h rs s d = s := by unfold stepS; rw [c]; rfl
      exact fin er ha (fun b o _ z => e _ _ z) (by rw [e1]; exact e _ _ hsg) (by unfold stepO; rw [c]; rfl) (by unfold stepM; rw [c]; rfl)
    have dat : ∃ xs, H dt = some (.tup xs) ∧ xs[1]? = some (natV d.at_) ∧ xs[0]? = some (.str (match d with | .turn _ _ => "turn" | .lose _ => "lose")) := by
      cases d <;> exact ⟨_, da, rfl, rfl⟩
    obtain ⟨xs, hxs, x1, x0⟩ := dat
    obtain ⟨p, hp⟩ : ∃ p, p = d.at_ := ⟨_, rfl⟩
    rw [← hp] at x1
    refine q_asg (v := natV p) (ev_op (ev_var rfl) ev_c (rv_ixT (st_of hxs) (atI_nat (j := 1) x1))) fun H1 a1 => ?_
    refine q_when (b := decide (n ≤ (p : Int)) || decide (V.int (p : Int) = V.int h)) (et_or (et_test (ev_op (ev_var rfl) (landE rfl a1) rv_I0)) fun _ => et_test (ev_op (ev_var rfl) (homeE rfl a1) (rv_eq rfl))) (fun hb H2 a2 => ?_) fun hb H2 a2 => ?_
    · refine no ?_ rfl (ea_cons (ev_un ev_c ru_neg) (ea_cons ev_c ea_nil)) (a1.trans a2)
      have cc : ¬ ((p : Int) < n ∧ (p : Int) ≠ h) := fun z => by
        rw [decide_eq_false (show ¬ n ≤ (p : Int) by omega), decide_eq_false (fun y => z.2 (by injection y))] at hb
        cases hb
      cases d with
      | turn p' q =>
        have hp : p = p' := hp
        subst hp
        cases c : canD n h rs s (.turn p q) with
        | false => rfl
        | true =>
          simp only [canD, Bool.and_eq_true, decide_eq_true_eq, Bool.not_eq_true', decide_eq_false_iff_not] at c
          exact absurd ⟨c.1, c.2.1⟩ cc
      | lose p' =>
        have hp : p = p' := hp
        subst hp
        cases c : canD n h rs s (.lose p) with
        | false => rfl
        | true =>
          simp only [canD, Bool.and_eq_true, decide_eq_true_eq, Bool.not_eq_true', decide_eq_false_iff_not] at c
          exact absurd ⟨c.1, c.2.1⟩ cc
    · rw [Bool.or_eq_false_iff, decide_eq_false_iff_not, decide_eq_false_iff_not, V.int.injEq] at hb
      have pn : (p : Int) < n := by omega
      have ph : (p : Int) ≠ h := hb.2
      have a12 := a1.trans a2
      refine q_asg (v := nV (nx s p)) (ev_op (ev_var rfl) (ev_var rfl) (rv_ixL (sq_of (a12 _ _ hsg)) (at_of (j := p) rfl (sign_at (by omega))))) fun H3 a3 => ?_
      have a13 := a12.trans a3
      have d3 := a13 _ _ hxs
      have putE : ∀ {H4 : Hp} (o : Option Nat), Ex H H4 → (∀ b o', b ≠ sg → H b = some o' → (upd H4 sg (.lst ((s.set p o).map nV))) b = some o') ∧ (upd H4 sg (.lst ((s.set p o).map nV))) sg = some (.lst ((s.set p o).map nV)) := fun o e => ⟨fun b o' nb z => by rw [upd_ne nb]; exact e _ _ z, upd_same⟩
      cases d with
      | lose p' =>
        have hp : p = p' := hp
        subst hp
        refine q_when (b := true) (et_test (ev_is (ev_op (ev_op (ev_var rfl) ev_c (rv_ixT (st_of d3) (atI_nat (j := 0) x0))) ev_c (rv_eq rfl)) (by rw [decide_eq_true rfl]))) (fun _ H4 a4 => ?_) (fun z => nomatch z)
        have a14 := a13.trans a4
        refine q_setL (l := sg) (xs := s.map nV) (j := p) (v := nV none) (a14 _ _ hsg) ev_c (ev_var rfl) (ev_var rfl) (by rw [List.length_map]; omega) fun H5 a5 => ?_
        rw [show (s.map nV).set p (nV none) = (s.set p none).map nV by rw [List.map_set]]
        obtain ⟨fr, hs⟩ := putE none (a14.trans a5)
        generalize upd H5 sg (.lst ((s.set p none).map nV)) = H6 at fr hs
        have same : nx s p = none → s.set p none = s := fun e => by
          apply List.ext_getElem?
          intro i
          rw [List.getElem?_set]
          by_cases c : p = i
          · subst c; rw [if_pos rfl, if_pos (by omega), nx_get (by omega), e]
          · rw [if_neg c]
        have hS : stepS n h rs s (.lose p) = s.set p none := by
          unfold stepS
          split
          · rfl
          · next c =>
            cases e : nx s p with
            | none => exact (same e).symm
            | some q =>
              exfalso
              apply c
              show (decide ((p : Int) < n) && (!decide ((p : Int) = h) && (nx s p).isSome)) = true
              rw [decide_eq_true pn, decide_eq_false ph, e]; rfl
        have hM : stepM n h rs s (.lose p) = 0 := by unfold stepM; split <;> rfl
        cases e : nx s p with
        | none => exact fin rfl (ea_cons (ev_if (b := true) (et_test (ev_is (ev_op (ev_var rfl) ev_c rv_isN) rfl)) (fun _ => ev_un ev_c ru_neg) (fun z => nomatch z)) (ea_cons ev_c ea_nil)) fr (by rw [hS]; exact hs) (by
            unfold stepO
            show (if (decide ((p : Int) < n) && (!decide ((p : Int) = h) && (nx s p).isSome)) = true then _ else _) = _
            rw [e, if_neg (by simp)]) hM
        | some q => exact fin (a := (q : Int)) rfl (ea_cons (ev_if (b := false) (et_test (ev_is (ev_op (ev_var rfl) ev_c rv_isN) rfl)) (fun z => nomatch z) (fun _ => ev_is (ev_var rfl) rfl)) (ea_cons ev_c ea_nil)) fr (by rw [hS]; exact hs) (by
            unfold stepO
            show (if (decide ((p : Int) < n) && (!decide ((p : Int) = h) && (nx s p).isSome)) = true then (match nx s p with | some q => (q : Int) | none => -1) else _) = _
            rw [e, decide_eq_true pn, decide_eq_false ph]; rfl) hM
      | turn p' q =>
        have hp : p = p' := hp
        subst hp
        have da : H dt = some (.tup [.str "turn", natV p, natV q]) := da
        have d3 := a13 _ _ da
        refine q_when (b := false) (et_test (ev_is (ev_op (ev_op (ev_var rfl) ev_c (rv_ixT (st_of d3) (atI_nat (j := 0) rfl))) ev_c (rv_eq rfl)) (by rw [decide_eq_false (by decide)]))) (fun z => nomatch z) fun _ H4 a4 => ?_
        have a14 := a13.trans a4
        have d4 := a4 _ _ d3
        refine q_when (b := !decide (((p : Int), (q : Int)) ∈ rs)) (et_test (ev_opU1 (eu_tup (ea_cons (ev_var rfl) (ea_cons (ev_op (ev_var rfl) ev_c (rv_ixT (st_of d4) (atI_nat (j := 2) rfl))) ea_nil)) (by show 2 ≤ 100000; decide)) (fun H5 e5 => ev_op (ev_var rfl) ev_c (rv_ixT (ex_t ((eG.trans a14).trans e5) hTG) (atI_nat (j := 2) rfl))) fun t H5 ht e5 => rv_niD (.tup (st_of ht) (.cons (.int (p : Int)) (.cons (.int (q : Int)) .nil))) (LandAt.dpR (hRG.mono ((eG.trans a14).trans e5))) (pd_rd ((p : Int), (q : Int))) (pd_rds rs) (rd_mem (p := ((p : Int), (q : Int)))))) (fun hb2 H5 a5 => ?_) fun hb2 H5 a5 => ?_
        · refine no ?_ rfl (ea_cons (ev_un ev_c ru_neg) (ea_cons ev_c ea_nil)) (a14.trans a5)
          rw [Bool.not_eq_true', decide_eq_false_iff_not] at hb2
          show (decide ((p : Int) < n) && (!decide ((p : Int) = h) && decide (((p : Int), (q : Int)) ∈ rs))) = false
          rw [decide_eq_false hb2, Bool.and_false, Bool.and_false]
        · have hm : ((p : Int), (q : Int)) ∈ rs := by simpa using hb2
          have can : canD n h rs s (.turn p q) = true := by
            show (decide ((p : Int) < n) && (!decide ((p : Int) = h) && decide (((p : Int), (q : Int)) ∈ rs))) = true
            rw [decide_eq_true pn, decide_eq_false ph, decide_eq_true hm]; rfl
          have hS : stepS n h rs s (.turn p q) = s.set p (some q) := by unfold stepS; rw [if_pos can]; rfl
          have ps' := PSigns.step (d := .turn p q) L ps
          rw [hS] at ps'
          have a15 := a14.trans a5
          refine q_setL (l := sg) (xs := s.map nV) (j := p) (v := nV (some q)) (a15 _ _ hsg) (ev_op (ev_var rfl) ev_c (rv_ixT (st_of (a5 _ _ d4)) (atI_nat (j := 2) rfl))) (ev_var rfl) (ev_var rfl) (by rw [List.length_map]; omega) fun H6 a6 => ?_
          rw [show (s.map nV).set p (nV (some q)) = (s.set p (some q)).map nV by rw [List.map_set]]
          obtain ⟨fr, hs⟩ := putE (some q) (a15.trans a6)
          have ntd : dt ≠ sg := fun z => by rw [z, hsg] at da; cases da
          generalize upd H6 sg (.lst ((s.set p (some q)).map nV)) = H7 at fr hs
          have eG7 : Ex G H7 := fun b o z => fr b o (fun y => by rw [y, Gsg] at z; cases z) (eG _ _ z)
          have w2 := ps'.wf
          have w2l := w2.len
          have lad : Laid K H7 (.ref la) (.ref sg) n h rs (s.set p (some q)) := ⟨hLG.mono eG7, ⟨sg, rfl, sq_of hs⟩, ⟨rfl, fun a b e => by have := w2.lt a b e; omega⟩, by omega, by omega, ⟨h0, hn⟩, ps'.home⟩
          have d7 := fr _ _ ntd da
          have lenE := ev_lenN (K := K) (σ := [some (.ref la), some (.ref sg), some (.ref dt), some (natV p), some (nV (nx s p))]) (el_law_home (ev_var (i := 0) rfl) (ev_var (i := 1) rfl) lad)
          rw [List.length_map] at lenE
          refine fin (a := ((comers (s.set p (some q)) h.toNat).length : Int)) rfl (ea_cons lenE (ea_cons (ev_cb (ea_cons (ev_op (ev_var rfl) (ev_op (ev_var rfl) ev_c (rv_ixT (st_of d7) (atI_nat (j := 2) rfl))) (rv_ne (by cases nx s p <;> rfl))) ea_nil) rc_intB) ea_nil)) fr (by rw [hS]; exact hs) (by unfold stepO; rw [if_pos can]; rfl) ?_
          unfold stepM
          rw [if_pos can]
          show (if nx s p = some q then (0 : Int) else 1) = _
          by_cases c : nx s p = some q
          · rw [c, if_pos rfl]; simp [nV, natV]
          · rw [if_neg c]
            have : (!decide (nV (nx s p) = natV q)) = true := by
              cases e : nx s p with
              | none => rfl
              | some y =>
                rw [e] at c
                simp only [nV, natV, V.int.injEq, Bool.not_eq_true', decide_eq_false_iff_not]
                intro z
                apply c
                congr 1
                omega
            rw [this]; rfl

end
end Sg
namespace Sg
set_option autoImplicit false
open PySem L2 Evl Big
open PyProof.Rows (envOfC)
section
variable {P : Program} {w : World} {K : PySem.W.Frag} {mg : Str → Option Value} {base : Heap} {ad : Ads}
/-- other posts change: these stay -/
theorem PostsAt.keepA {H H' : Hp} {C x la rl sl y yl : Addr} {n h : Int} {rs : List (Int × Int)} {s : List (Option Nat)} {t : Int} {D dy : Addr} {gs : List (Str × V)} {ys : List V} (p : PostsAt K H C x la rl sl n h rs s t) (hy : H y = some (.ins D dy gs)) (hl : H yl = some (.lst ys)) (nx : x ≠ y) (n1 : rl ≠ yl) (n2 : sl ≠ yl) (a : Apart H H' y yl) : PostsAt K H' C x la rl sl n h rs s t := by
  obtain ⟨dx, ob⟩ := p.ob
  obtain ⟨ks, k1, k2, k3⟩ := p.rl
  have lst : ∀ {c : Addr} {zs : List V}, H c = some (.lst zs) → c ≠ yl → H' c = some (.lst zs) := fun {c zs} hc hn => a _ _ (fun z => by rw [z, hy] at hc; cases hc) hn hc
  have tup : ∀ {c : Addr} {zs : List V}, H c = some (.tup zs) → H' c = some (.tup zs) := fun {c zs} hc => a _ _ (fun z => by rw [z, hy] at hc; cases hc) (fun z => by rw [z, hl] at hc; cases hc) hc
  refine ⟨⟨dx, a _ _ nx (fun z => by rw [z, hl] at ob; cases ob) ob⟩, tup p.lt, ⟨ks, lst k1 n1, fun v hv => ?_, k3⟩, lst p.sl n2⟩
  rcases k2 v hv with (q | ⟨o, q⟩) | q
  · exact .inl (.inl (tup q))
  · exact .inl (.inr ⟨o, a _ _ (fun z => by rw [z, hy] at q; cases q) (fun z => by rw [z, hl] at q; cases q) q⟩)
  · exact .inr q
theorem tup_apart {H H' : Hp} {C y yl dy : Addr} {gs : List (Str × V)} {ys : List V} (hy : H y = some (.ins C dy gs)) (hl : H yl = some (.lst ys)) (a : Apart H H' y yl) (c : Addr) (zs : List V) (hc : H c = some (.tup zs)) : H' c = some (.tup zs) := a _ _ (fun z => by rw [z, hy] at hc; cases hc) (fun z => by rw [z, hl] at hc; cases hc) hc
/-- two posts, two lists of signs: where they stand -/
structure D6 (G : Hp) (x la rl sl sg x' la' rl' sl' bs : Addr) : Prop where
  gx : G x = none
  gs : G sl = none
  gg : G sg = none
  gx' : G x' = none
  gs' : G sl' = none
  gb : G bs = none
  xx : x ≠ x'
  rs : rl ≠ sl
  rs' : rl' ≠ sl'
  c1 : sl ≠ rl'
  c2 : sl ≠ sl'
  c3 : sl' ≠ rl
  g1 : sg ≠ rl
  g2 : sg ≠ sl
  g3 : sg ≠ rl'
  g4 : sg ≠ sl'
  b1 : bs ≠ rl
  b2 : bs ≠ sl
  b3 : bs ≠ rl'
  b4 : bs ≠ sl'
  gb' : sg ≠ bs
structure W6 (K : PySem.W.Frag) (ad : Ads) (G H : Hp) (x la rl sl sg x' la' rl' sl' bs : Addr) (n h : Int) (rs : List (Int × Int)) (s u : List (Option Nat)) (t : Int) (s2 u2 : List (Option Nat)) (t2 : Int) : Prop where
  ex : Ex G H
  p : PostsAt K H ad.Posts x la rl sl n h rs s t
  g : H sg = some (.lst (u.map nV))
  q : PostsAt K H ad.Posts x' la' rl' sl' n h rs s2 t2
  b : H bs = some (.lst (u2.map nV))
theorem D6.swap {G : Hp} {x la rl sl sg x' la' rl' sl' bs : Addr} (d : D6 G x la rl sl sg x' la' rl' sl' bs) : D6 G x' la' rl' sl' bs x la rl sl sg := ⟨d.gx', d.gs', d.gb, d.gx, d.gs, d.gg, d.xx.symm, d.rs', d.rs, d.c3, d.c2.symm, d.c1, d.b3, d.b4, d.b1, d.b2, d.g3, d.g4, d.g1, d.g2, d.gb'.symm⟩
section
variable {G H H' : Hp} {x la rl sl sg x' la' rl' sl' bs : Addr} {n h : Int} {rs : List (Int × Int)} {s u s2 u2 : List (Option Nat)} {t t2 : Int} {σ : L2.St} {i j l : Nat}
theorem W6.swap (w : W6 K ad G H x la rl sl sg x' la' rl' sl' bs n h rs s u t s2 u2 t2) : W6 K ad G H x' la' rl' sl' bs x la rl sl sg n h rs s2 u2 t2 s u t := ⟨w.ex, w.q, w.b, w.p, w.g⟩
theorem W6.mono (e : Ex H H') (w : W6 K ad G H x la rl sl sg x' la' rl' sl' bs n h rs s u t s2 u2 t2) : W6 K ad G H' x la rl sl sg x' la' rl' sl' bs n h rs s u t s2 u2 t2 := ⟨w.ex.trans e, w.p.mono e, e _ _ w.g, w.q.mono e, e _ _ w.b⟩
/-- the signs change -/
theorem W6.signs {u' : List (Option Nat)} (d : D6 G x la rl sl sg x' la' rl' sl' bs) (w : W6 K ad G H x la rl sl sg x' la' rl' sl' bs n h rs s u t s2 u2 t2) (fr : ∀ b o, b ≠ sg → H b = some o → H' b = some o) (hs : H' sg = some (.lst (u'.map nV))) : W6 K ad G H' x la rl sl sg x' la' rl' sl' bs n h rs s u' t s2 u2 t2 :=
  ⟨fun b o hb => fr b o (ne_of_none hb d.gg) (w.ex b o hb), w.p.keepL w.g d.g1 d.g2 fr, hs, w.q.keepL w.g d.g3 d.g4 fr, fr _ _ d.gb'.symm w.b⟩
/-- the posts change -/
theorem W6.posts {s' : List (Option Nat)} {t' : Int} (d : D6 G x la rl sl sg x' la' rl' sl' bs) (w : W6 K ad G H x la rl sl sg x' la' rl' sl' bs n h rs s u t s2 u2 t2) (a : Apart H H' x sl) (p' : PostsAt K H' ad.Posts x la rl sl n h rs s' t') : W6 K ad G H' x la rl sl sg x' la' rl' sl' bs n h rs s' u t' s2 u2 t2 := by
  obtain ⟨dx, ob⟩ := w.p.ob
  have ls : ∀ {c : Addr} {zs : List V}, H c = some (.lst zs) → c ≠ sl → H' c = some (.lst zs) := fun {c zs} hc hn => a _ _ (fun z => by rw [z, ob] at hc; cases hc) hn hc
  exact ⟨fun b o hb => a b o (ne_of_none hb d.gx) (ne_of_none hb d.gs) (w.ex b o hb), p', ls w.g d.g2, w.q.keepA ob w.p.sl d.xx.symm d.c1.symm d.c2.symm a, ls w.b d.b2⟩
theorem tm_ask (d : D6 G x la rl sl sg x' la' rl' sl' bs) (w : W6 K ad G H x la rl sl sg x' la' rl' sl' bs n h rs s u t s2 u2 t2) (L : LandOk' n h rs) (ps : PSigns n h rs s) {dt : Addr} {e : Deed} (hd : DeedAt H dt e) (h1 : σ[i]? = some (some (.ref x))) (h2 : σ[j]? = some (some (.ref dt))) :
    TM (tCall (sp_ask K ad) [] C8.E0 (tCons (tVar i) (tCons (tVar j) tNil))) σ H (fun H' => W6 K ad G H' x la rl sl sg x' la' rl' sl' bs n h rs (stepS n h rs s e) u (t + stepM n h rs s e) s2 u2 t2) (.int (stepO n h rs s e)) := fun Q q =>
  (ea_cons (ev_var h1) (ea_cons (ev_var h2) ea_nil)) H (Ex.refl _) _ fun H1 e1 => ⟨x, la, rl, sl, dt, n, h, rs, s, t, e, rfl, w.p.mono e1, d.rs, L, ps, hd.mono e1, fun H2 ap P2 => q H2 ((w.mono e1).posts d ap P2)⟩
theorem q_unpM2 {D : Ends} {te : TE} {tz : TS} {i j : Nat} {R : V → Hp → Prop} (h : ∀ Q : VK, (∀ v H', R v H' → Q v H') → te σ H Q) (k : ∀ v H', R v H' → ∃ a x y, v = .ref a ∧ SqT K H' a [x, y] ∧ tz D ((σ.set i (some x)).set j (some y)) H') : tSeq (tAsg te (gTup K 2 (gCons (gName i) (gCons (gName j) gNil)))) tz D σ H := h _ fun v H1 r => by
  obtain ⟨a, x, y, rfl, ht, hk⟩ := k v H1 r
  exact ⟨a, _, rfl, ht, rfl, x, _, rfl, y, _, rfl, rfl, hk⟩
/-- due, more = _law_due(land, signs, deed) -/
theorem q_due {D : Ends} {tz : TS} {a b : Nat} (d : D6 G x la rl sl sg x' la' rl' sl' bs) (w : W6 K ad G H x la rl sl sg x' la' rl' sl' bs n h rs s u t s2 u2 t2) (L : LandOk' n h rs) (ps : PSigns n h rs u) {lv : V} {dt : Addr} {e : Deed} (hL : LandAt K G lv n h rs) (hd : DeedAt H dt e) (h0 : σ[i]? = some (some lv)) (h1 : σ[j]? = some (some (.ref sg))) (h2 : σ[l]? = some (some (.ref dt)))
    (k : ∀ H', W6 K ad G H' x la rl sl sg x' la' rl' sl' bs n h rs s (stepS n h rs u e) t s2 u2 t2 → DeedAt H' dt e → tz D ((σ.set a (some (.int (stepO n h rs u e)))).set b (some (.int (stepM n h rs u e)))) H') :
    tSeq (tAsg (tCall (sp_due06 K) [] C8.E0 (tCons (tVar i) (tCons (tVar j) (tCons (tVar l) tNil)))) (gTup K 2 (gCons (gName a) (gCons (gName b) gNil)))) tz D σ H :=
  q_unpM2 (K := K) (R := fun v H' => ∃ tt, v = .ref tt ∧ H' tt = some (.tup [.int (stepO n h rs u e), .int (stepM n h rs u e)]) ∧ W6 K ad G H' x la rl sl sg x' la' rl' sl' bs n h rs s (stepS n h rs u e) t s2 u2 t2 ∧ DeedAt H' dt e) (fun Q q => (ea_cons (ev_var h0) (ea_cons (ev_var h1) (ea_cons (ev_var h2) ea_nil))) H (Ex.refl _) _ fun H1 e1 => by
    have w1 := w.mono e1
    exact ⟨lv, sg, dt, n, h, rs, u, e, G, rfl, w1.ex, d.gg, hL, L, w1.g, ps, hd.mono e1, fun H' tt fr hs ht => q _ _ ⟨tt, rfl, ht, w1.signs d fr hs, (hd.mono e1).same fun xs z => fr _ _ (fun y => by rw [y, w1.g] at z; cases z) z⟩⟩) fun v H' ⟨tt, e1, ht, w', hd'⟩ => ⟨tt, _, _, e1, st_of ht, k H' w' hd'⟩
end
theorem q_asgTM {σ : L2.St} {H : Hp} {D : Ends} {te : TE} {tz : TS} {i : Nat} {R : Hp → Prop} {v : V} (h : TM te σ H R v) (k : ∀ H', R H' → tz D (σ.set i (some v)) H') : tSeq (tAsg te (gName i)) tz D σ H := h _ k
theorem tf_neVar {σ : L2.St} {H : Hp} {te : TE} {v : V} {j : Nat} {R : Hp → Prop} (h : TM te σ H R v) (hj : σ[j]? = some (some v)) (hs : scal v v = true := by rfl) : TF (tTest (tOp rNe te (tVar j))) σ H R := fun Q q => h _ fun H1 r => ⟨v, hj, hs, false, by rw [decide_eq_true rfl]; rfl, q H1 r⟩
theorem tf_pure {σ : L2.St} {H : Hp} {c : TT} {R : Hp → Prop} (h : EvT c σ H false) (k : ∀ H', Ex H H' → R H') : TF c σ H R := fun Q q => h H (Ex.refl _) Q fun H1 e => q H1 (k H1 e)
theorem q_unp4 {σ : L2.St} {H : Hp} {D : Ends} {te : TE} {tz : TS} {i j l m : Nat} {Post : V → Hp → Prop} (h : EvP te σ H Post) (k : ∀ p H1, Ex H H1 → Post p H1 → ∃ a x y z u, p = .ref a ∧ SqT K H1 a [x, y, z, u] ∧ tz D ((((σ.set i (some x)).set j (some y)).set l (some z)).set m (some u)) H1) : tSeq (tAsg te (gTup K 4 (gCons (gName i) (gCons (gName j) (gCons (gName l) (gCons (gName m) gNil)))))) tz D σ H :=
  h H (Ex.refl H) _ fun p H1 e q => by
    obtain ⟨a, x, y, z, u, rfl, ht, hk⟩ := k p H1 e q
    exact ⟨a, _, rfl, ht, rfl, x, _, rfl, y, _, rfl, z, _, rfl, u, _, rfl, rfl, hk⟩
theorem eap_two {σ : L2.St} {H : Hp} {t1 t2 tc td : TE} {xs ys : List V} {u u' : V} (h1 : EvL t1 σ H xs) (c1 : Ev tc σ H u) (h2 : EvL t2 σ H ys) (c2 : Ev td σ H u') : EvAP (tCons t1 (tCons tc (tCons t2 (tCons td tNil)))) σ H (fun vs H' => ∃ p q, vs = [.ref p, u, .ref q, u'] ∧ H p = none ∧ H q = none ∧ p ≠ q ∧ H' p = some (.lst xs) ∧ H' q = some (.lst ys)) := fun H1 e Q k =>
  h1 H1 e _ fun p H2 hp e2 g2 => c1 H2 (e.trans e2) _ fun H3 e3 => h2 H3 ((e.trans e2).trans e3) _ fun q H4 hq e4 g4 => c2 H4 (((e.trans e2).trans e3).trans e4) _ fun H5 e5 => k _ H5 (((e2.trans e3).trans e4).trans e5) ⟨p, q, rfl, fresh_back e hp, fresh_back ((e.trans e2).trans e3) hq, ne_of_none (e3 _ _ g2) hq, ((e3.trans e4).trans e5) _ _ g2, e5 _ _ g4⟩
/-- Posts(a land that is made) -/
theorem evp_postsP {σ : L2.St} {H : Hp} {E : XK} {te : TE} {n h : Int} {rs : List (Int × Int)} (he : EvP te σ H (fun v H' => LandAt K H' v n h rs)) (ok : LandOk n h rs) : EvP (tMake ad.Posts (sp_Posts_init K ad.Posts) [] E (tCons te tNil)) σ H (PostsMade K ad H n h rs) := fun H0 e Q q =>
  he H0 e _ fun lv H1 e1 hL x dx hx hdx hne => by
    rw [List.append_nil]
    have e01 := e.trans e1
    have ex1 : Ex H1 (upd (upd H1 dx (.own x)) x (.ins ad.Posts dx [])) := made_ex (o := .ins ad.Posts dx []) (Ex.refl _) hx hdx fun b o' _ hb => hb
    refine ⟨x, dx, lv, n, h, rs, rfl, upd_same, hL.mono ex1, ok, fun H3 la rl sl N => ⟨rfl, ?_⟩⟩
    have ex3 : Ex H1 H3 := made_ex (Ex.refl _) hx hdx N.frame
    have bk : ∀ c, (upd (upd H1 dx (.own x)) x (.ins ad.Posts dx [])) c = none → H c = none := fun c hc => fresh_back (e01.trans ex1) hc
    exact q _ H3 (e1.trans ex3) ⟨x, la, rl, sl, rfl, fresh_back e01 hx, bk _ N.fresh.1, bk _ N.fresh.2.1, bk _ N.fresh.2.2, N.nd.2.2, N.at_⟩

end
end Sg
namespace Sg
set_option autoImplicit false
open PySem L2 Evl Big
open PyProof.Rows (envOfC)
section
variable {P : Program} {w : World} {K : PySem.W.Frag} {mg : Str → Option Value} {base : Heap} {ad : Ads}
def qualE (x : Str) (st : Stmt) : Str := (envOfC x (C8.fnScope st) 0 0 .none).qual ++ "<lambda>"
/-- the tables of the defs that make lambdas -/
def tabsL (ad : Ads) : List (Addr × Str) := [(ad.p__law_posts_promises, qualE "_law_posts_promises" st__law_posts_promises), (ad.p__law_promises_right, qualE "_law_promises_right" st__law_promises_right)]
def sp_pp (K : PySem.W.Frag) (ad : Ads) : Sp := fun vs H Q _ => ∃ lv, vs = [lv] ∧ LandAt K H lv 4 0 landP ∧ LamX.Tabs (tabsL ad) H ∧ ∀ H', LamX.ExtN H H' → Q (.bl true) H'
theorem ok_pp (T : Txt K mg ad) (TB : LamX.TabB base mg ad.c__law_posts_promises ad.p__law_posts_promises) : C8.Cal P w K mg base 9 "_law_posts_promises" (sp_pp K ad) [] := by
  have m_Posts : C8.Mak P w K mg base 7 "Posts" ad.Posts (sp_Posts_init K ad.Posts) [] := ok_Posts_init T
  have m_Posts_turn : C8.Met P w K mg base 4 ad.Posts "turn" (sp_Posts_turn K ad.Posts) [] := ok_Posts_turn T
  have m_Posts_lose : C8.Met P w K mg base 4 ad.Posts "lose" (sp_Posts_lose K ad.Posts) [] := ok_Posts_lose T
  have m_Posts_turned : C8.Met P w K mg base 1 ad.Posts "turned" (sp_Posts_turned ad.Posts) [] := ok_Posts_turned T
  have m_Posts_all_signs : C8.Met P w K mg base 1 ad.Posts "all_signs" (sp_Posts_all_signs ad.Posts) [] := ok_Posts_all_signs T
  have x_Posts_lose : MetX P w K mg base 4 ad.Posts "lose" (sp_loseX K ad) := okx_Posts_lose T
  have c__law_turned_right : C8.Cal P w K mg base 8 "_law_turned_right" (sp_tr K) [] := ok_tr T
  have hmT : (ad.p__law_posts_promises, qualE "_law_posts_promises" st__law_posts_promises) ∈ tabsL ad := List.mem_cons_self
  have hu : ∀ p ∈ tabsL ad, p.1 = ad.p__law_posts_promises → p.2 = qualE "_law_posts_promises" st__law_posts_promises := fun p hp e => by
    rcases List.mem_cons.mp hp with rfl | hp
    · rfl
    · obtain rfl := List.mem_singleton.mp hp
      exact absurd e.symm T.ne_tabs
  refine cal_ofL T.dl__law_posts_promises sc__law_posts_promises (fun _ _ _ _ _ _ us hl => match us, hl with | [_], _ => rfl) (fun vs H Q E h => ?_) (fun f A outer st H vs Q E hr h => ?_)
  · obtain ⟨lv, rfl, _⟩ := h; rfl
  · obtain ⟨lv, rfl, hL, hT, k⟩ := h
    refine ⟨_, (pss_cons (ps_set (i := 1) sc__law_posts_promises.nd rfl (Or.inr rfl) (C8.pe_mk m_Posts hr (by decide) rfl (pa_cons (pv 0) pa_nil)))
  (pss_cons (ps_if (pt_cmpR (k_neD K hr.units) (pe_lst (pa_cons (C8.pe_mt m_Posts_turn hr (by decide) (pv 1) (pa_cons pe_int (pa_cons pe_int pa_nil))) (pa_cons (C8.pe_mt m_Posts_turn hr (by decide) (pv 1) (pa_cons pe_int (pa_cons pe_int pa_nil))) (pa_cons (C8.pe_mt0 m_Posts_turned hr (by decide) (pv 1)) pa_nil)))) (pe_lst (pa_cons pe_int (pa_cons pe_int (pa_cons pe_int pa_nil)))) (nomark _)) (pss_one (ps_ret pe_bl)) pss_nil)
  (pss_cons (ps_if (pt_cmpR (k_neD K hr.units) (pe_lst (pa_cons (C8.pe_mt m_Posts_lose hr (by decide) (pv 1) (pa_cons pe_int pa_nil)) (pa_cons (C8.pe_mt m_Posts_turn hr (by decide) (pv 1) (pa_cons pe_int (pa_cons pe_int pa_nil))) (pa_cons (C8.pe_mt0 m_Posts_turned hr (by decide) (pv 1)) pa_nil)))) (pe_lst (pa_cons pe_int (pa_cons pe_int (pa_cons pe_int pa_nil)))) (nomark _)) (pss_one (ps_ret pe_bl)) pss_nil)
  (pss_cons (ps_if (PW.pt (pw_or (pt_cmpR op_ne (pe_lam1 (k := 4) (t := fun E => _) T.d__law_no_of (fun _ _ _ _ _ _ us hl => match us, hl with | [_], _ => rfl) sc__law_no_of (fun g cdg => no_gives T) rfl TB rfl hmT hu (hr.mono (by decide)) rfl (Or.inl rfl) (LamX.lamS_by (by rfl)) rfl (fun _ _ _ _ _ => rfl) (fun A outer s H E f c' hr lo => (pe_mX x_Posts_lose hr (by decide) lo (pv 1) (pa_cons pe_int pa_nil)))) pe_str (nomark _)) (pw_or (pt_cmpR op_ne (C8.pe_mt m_Posts_turn hr (by decide) (pv 1) (pa_cons pe_int (pa_cons pe_int pa_nil))) pe_int (nomark _)) (pw_or1 (pt_cmpR op_ne (C8.pe_mt m_Posts_turn hr (by decide) (pv 1) (pa_cons pe_int (pa_cons pe_int pa_nil))) pe_int (nomark _)))))) (pss_one (ps_ret pe_bl)) pss_nil)
  (pss_cons (ps_if (pt_cmpR op_ne (C8.pe_mt0 m_Posts_turned hr (by decide) (pv 1)) pe_int (nomark _)) (pss_one (ps_ret pe_bl)) pss_nil)
  (pss_one (ps_ret (pe_and (pe_cmpR (k_eqD K hr.units) (C8.pe_mt0 m_Posts_all_signs hr (by decide) (pv 1)) (pe_lst (pa_cons pe_non (pa_cons pe_int (pa_cons pe_int (pa_cons pe_non pa_nil))))) (nomark _)) (pe_one (C8.pe_c c__law_turned_right hr (by decide) rfl (pa_cons (pv 0) pa_nil))))))))))), ?_⟩
    have Lk : LandOk 4 0 landP := by rfl
    have L := Lk.all
    have m10 : (((1 : Nat) : Int), ((0 : Nat) : Int)) ∈ landP := by decide
    have m23 : (((2 : Nat) : Int), ((3 : Nat) : Int)) ∈ landP := by decide
    have m21 : (((2 : Nat) : Int), ((1 : Nat) : Int)) ∈ landP := by decide
    refine q_asgP (evp_posts (ev_var rfl) hL Lk) fun v H1 a1 M => ?_
    obtain ⟨x, la, rl, sl, rfl, p1⟩ := M.pp (Tb := tabsL ad) a1 L hT
    refine q_whenR (R := fun H' => PP K ad (tabsL ad) H H' x la rl sl 4 0 landP [none, some 0, none, none] 1) (ne_lists (l := [2, 2, 1]) (fun _ _ e p => p.mono e)
      (tma_cons (tm_turnC p1 rfl 1 0 2 [none, some 0, none, none] 1 (by decide) (by decide) m10) fun H2 p2 => tma_cons (tm_turnC p2 rfl 1 0 2 [none, some 0, none, none] 1 (by decide) (by decide) m10) fun H3 p3 => tma_cons (tm_turned p3 rfl) fun H4 p4 => tma_nil p4)
      (fun H1 => el_lst (ea_cons ev_c (ea_cons ev_c (ea_cons ev_c ea_nil))) (by decide)) (by decide)) fun H2 p2 => ?_
    refine q_whenR (R := fun H' => PP K ad (tabsL ad) H H' x la rl sl 4 0 landP [none, some 0, none, none] 2) (ne_lists (l := [0, 2, 2]) (fun _ _ e p => p.mono e)
      (tma_cons (tm_loseC p2 rfl 1 0 [none, none, none, none] (by decide) (by decide)) fun H2 p2 => tma_cons (tm_turnC p2 rfl 1 0 2 [none, some 0, none, none] 2 (by decide) (by decide) m10) fun H3 p3 => tma_cons (tm_turned p3 rfl) fun H4 p4 => tma_nil p4)
      (fun H1 => el_lst (ea_cons ev_c (ea_cons ev_c (ea_cons ev_c ea_nil))) (by decide)) (by decide)) fun H3 p3 => ?_
    refine q_whenR (R := fun H' => PP K ad (tabsL ad) H H' x la rl sl 4 0 landP [none, some 0, some 1, none] 4) (tf_or (tf_ne (tm_noSign p3 rfl 2 (by decide) (by decide))) fun H4 p4 => tf_or (tf_ne (tm_turnC p4 rfl 2 3 2 [none, some 0, some 3, none] 3 (by decide) (by decide) m23)) fun H5 p5 => tf_ne (tm_turnC p5 rfl 2 1 3 [none, some 0, some 1, none] 4 (by decide) (by decide) m21)) fun H4 p4 => ?_
    refine q_whenR (tf_ne (tm_turned p4 rfl)) fun H5 p5 => ?_
    refine (ev_opLL (z := .bl true) (el_signs (ev_var rfl) p5.at_) (el_lst (vs := [none, some 0, some 1, none].map nV) (ea_cons ev_c (ea_cons ev_c (ea_cons ev_c (ea_cons ev_c ea_nil)))) (by decide)) fun p q H hp hq e => eq_signs (sq_of hp) (sq_of hq)) H5 (Ex.refl _) _ fun H6 e6 => ⟨true, rfl, iteT ?_⟩
    have p6 := p5.mono e6
    exact (ea_cons (ev_var rfl) ea_nil) H6 (Ex.refl _) _ fun H7 e7 => ⟨lv, rfl, hL.extN (p6.mono e7).ex, fun H8 e8 => k _ ((p6.mono e7).mono e8).ex⟩

end
end Sg
namespace Sg
set_option autoImplicit false
open PySem L2 Evl Big
open PyProof.Rows (envOfC)
section
variable {P : Program} {w : World} {K : PySem.W.Frag} {mg : Str → Option Value} {base : Heap} {ad : Ads}
theorem end_len {s : List (Option Nat)} {p : Nat} {h : Int} {c : List Nat} (w : Wf s.length s) (hp : p < s.length) (e : endOf s p h = .round c) : c.length ≤ s.length := by
  have W := walkd_spec w hp
  have hlen := W.len_le w hp
  unfold endOf at e
  generalize (walkd s p).1 = way at W hlen e
  generalize (walkd s p).2 = b at W e
  cases b with
  | none => simp only at e; split at e <;> cases e
  | some j =>
    have e' : End.round (way.drop j) = .round c := e
    injection e' with e'
    rw [← e', List.length_drop]; omega
theorem AnsAt.back {H0 H H' : Hp} {x : Addr} {e : End} (a : Ex H0 H) (h : AnsAt ad H H' x e) : AnsAt ad H0 H' x e := by
  cases e with
  | home m => exact h
  | stands q => exact h
  | round c => obtain ⟨dx, D, h1, h2, h3, h4⟩ := h; exact ⟨dx, D, h1, fresh_back a h2, h3, h4⟩

end
end Sg
namespace Sg
set_option autoImplicit false
open PySem L2 Evl Big
open PyProof.Rows (envOfC)
section
variable {P : Program} {w : World} {K : PySem.W.Frag} {mg : Str → Option Value} {base : Heap} {ad : Ads}
def worthC (s : List (Option Nat)) (g p : Nat) : Nat := ((List.range s.length).filter fun q => decide (g ∈ (walkd s q).1) && decide (p ∈ (walkd s q).1)).length
theorem worth_c {s : List (Option Nat)} {g p : Nat} (w : Wf s.length s) (hg : nx s g = none) : worthF s g p = worthC s g p := by
  rw [worth_by hg]
  unfold byL worthC
  congr 1
  refine List.filter_congr fun q hq => ?_
  have hq := List.mem_range.mp hq
  unfold byB
  rw [reachB_walk w hq, reachB_walk w hq]
def astrayC (s : List (Option Nat)) (g p : Nat) (o : Option Nat) : List Nat := ((List.range s.length).filter fun q => decide (g ∈ (walkd s q).1)).filter fun q => !decide (g ∈ (walkd (s.set p o) q).1)
theorem astray_c {s : List (Option Nat)} {g p : Nat} {o : Option Nat} (w : Wf s.length s) (w2 : Wf (s.set p o).length (s.set p o)) : astrayF s g p o = astrayC s g p o := by
  unfold astrayF astrayC comers
  rw [List.filter_congr (q := fun q => decide (g ∈ (walkd s q).1)) fun q hq => reachB_walk w (List.mem_range.mp hq)]
  refine List.filter_congr fun q hq => ?_
  have := List.mem_range.mp (List.mem_filter.mp hq).1
  rw [reachB_walk w2 (by rw [List.length_set]; exact this)]
def sB : List (Option Nat) := [none, some 2, some 1, none]
theorem sR_ok : SignsOk 4 0 landP sR := by rfl
theorem sH_ok : SignsOk 4 0 landP sH := by rfl
theorem sB_ok : SignsOk 4 0 landP sB := by rfl
def casR : List (List Int × Bool) := [([1, 2], true), ([2, 1], true), ([1, 2, 1, 2], false), ([1], false), ([3, 1, 2], false)] ++ [([], false)]
theorem roundR {S : List Int} : roundS sR 3 0 (.list (S.map PyData.int)) = roundB [2, 1] (.list (S.map PyData.int)) := rfl
theorem roundT {c e : List Nat} {S : List Int} (h : S.map PyData.int = e.map natD) (t : Turns c e) : roundB c (.list (S.map PyData.int)) = true := roundB_iff.mpr ⟨e, by rw [h], t⟩
theorem roundF {c : List Nat} {S : List Int} (h : S.length ≠ c.length) : roundB c (.list (S.map PyData.int)) = false := by
  cases q : roundB c (.list (S.map PyData.int)) with
  | false => rfl
  | true =>
    obtain ⟨e, e1, t⟩ := roundB_iff.mp q
    injection e1 with e1
    have := congrArg List.length e1
    rw [List.length_map, List.length_map, turns_len t] at this
    exact absurd this h
theorem casR_ok : ∀ x b, (x, b) ∈ casR → roundS sR 3 0 (.list (x.map PyData.int)) = b := fun x b h => by
  rw [roundR]
  simp only [casR, List.cons_append, List.nil_append, List.mem_cons, Prod.mk.injEq, List.not_mem_nil, or_false] at h
  rcases h with ⟨rfl, rfl⟩ | ⟨rfl, rfl⟩ | ⟨rfl, rfl⟩ | ⟨rfl, rfl⟩ | ⟨rfl, rfl⟩ | ⟨rfl, rfl⟩
  · exact roundT (e := [1, 2]) rfl ⟨1, by decide, rfl⟩
  · exact roundT (e := [2, 1]) rfl ⟨0, by decide, rfl⟩
  · exact roundF (by decide)
  · exact roundF (by decide)
  · exact roundF (by decide)
  · exact roundF (by decide)
theorem da_intl {H : Hp} : ∀ (S : List Int), DaAll K H (S.map V.int) (S.map PyData.int)
  | [] => .nil
  | i :: S => .cons (.int i) (da_intl S)
/-- C(v).shows(land, signs, place) -/
theorem ev_sh1 {σ : L2.St} {H : Hp} {C : Addr} {f : Str} {g : List (Option Nat) → Nat → Int → PyData → Bool} {tm tv t2 : TE} {d : PyData} {lv : V} {sa : Addr} {n h : Int} {rs : List (Int × Int)} {s : List (Option Nat)} {p : Nat} {b : Bool} (hm : EvP tm σ H (fun v H' => ∃ x dx fv, v = .ref x ∧ H' x = some (.ins C dx (putF f fv [])) ∧ Da K H' fv d)) (nf : ¬ ("shows" : Str) = f)
    (h1 : Ev tv σ H lv) (h2 : Ev t2 σ H (.ref sa)) (hL : LandAt K H lv n h rs) (hS : SqL K H sa (s.map nV)) (w : Wf s.length s) (hp : p < s.length) (hn : s.length ≤ 1000) (hb : g s p h d = b) :
    Ev (tMeth C "shows" (sp_shows1 K C f g) [] C8.E0 tm (tCons tv (tCons t2 (tCons (tC (natV p)) tNil)))) σ H (.bl b) :=
  ev_methPA hm fun v H1 e ⟨x, dx, fv, e1, hx, hd⟩ => ⟨x, dx, _, _, e1, hx, no1 _ nf, eap_v (h1.mono e) (eap_v (h2.mono e) (eap_v ev_c eap_nil)), fun vs H2 a2 ⟨r1, z1, r2, z2, r3, z3, z4⟩ H3 a3 Q q E => by
    subst z4 z3 z2 z1
    have a23 := a2.trans a3
    exact ⟨x, d, n, h, rs, s, p, ⟨⟨lv, sa, dx, fv, rfl, a23 _ _ hx, hd.mono a23, hL.mono (e.trans a23), ex_l (e.trans a23) hS⟩, w, hp, hn⟩, by rw [hb]; exact q⟩⟩
theorem evp_one {σ : L2.St} {H : Hp} {C : Addr} {f : Str} {te : TE} {z : Int} (h : Ev te σ H (.int z)) : EvP (tMake C (sp_Home_init K C f) [] C8.E0 (tCons te tNil)) σ H (fun v H' => ∃ x dx fv, v = .ref x ∧ H' x = some (.ins C dx (putF f fv [])) ∧ Da K H' fv (.int z)) :=
  (evp_make (ea_cons h ea_nil) (init1_of (d := .int z) (.int z) rfl)).weak fun v H1 _ ⟨x, dx, fv, h1, _, h3, h4⟩ => ⟨x, dx, fv, h1, h3, by rw [h4]; exact .int z⟩
theorem evp_rnd {σ : L2.St} {H : Hp} {te : TE} {S : List Int} (hs : EvP te σ H (LV (S.map V.int))) (sz : S.length ≤ 100) : EvP (tMake ad.Round (sp_Round_init K ad.Round "places") [] C8.E0 (tCons te tNil)) σ H (fun v H' => ∃ x dx fv, v = .ref x ∧ H' x = some (.ins ad.Round dx (putF "places" fv [])) ∧ Da K H' fv (.list (S.map PyData.int))) :=
  (evp_makeA (f := "places") (Post := fun fv H' => ∃ D, fv = .ref D ∧ H' D = some (.lst (S.map V.int))) (eap_p hs lv_mono eap_nil) fun vs H1 a1 ⟨x1, r, e2, ⟨p, e4, hp⟩, e3⟩ => by
    subst e4 e2 e3
    intro H2 e2 x dx Q E hx0 hx k
    exact init_places (Ex.refl H1) (sq_of hp) (by omega) H2 e2 x dx Q E hx0 hx fun H3 fv g1 g2 ⟨D, z1, _, z3⟩ => k H3 fv g1 g2 ⟨D, z1, z3⟩).weak fun v H1 _ ⟨x, dx, fv, h1, _, h3, D, h4, h5⟩ => ⟨x, dx, fv, h1, h3, by rw [h4]; exact .lst (sq_of h5) (da_intl S)⟩
/-- followed(land, signs, place), its field -/
theorem evp_fol {σ : L2.St} {H : Hp} {t1 t2 t3 : TE} {lv : V} {sa : Addr} {n h : Int} {rs : List (Int × Int)} {s : List (Option Nat)} {p : Nat} (h1 : Ev t1 σ H lv) (h2 : Ev t2 σ H (.ref sa)) (h3 : Ev t3 σ H (natV p)) (g : Given K H lv (.ref sa) n h rs s) (hp : (p : Int) < n) : EvP (tCall (sp_followed K ad) [] C8.E0 (tCons t1 (tCons t2 (tCons t3 tNil)))) σ H (fun v H' => ∃ x, v = .ref x ∧ AnsAt ad H H' x (endOf s p h)) :=
  evp_call (ea_cons h1 (ea_cons h2 (ea_cons h3 ea_nil))) fun H1 e Q q E => ⟨lv, .ref sa, n, h, rs, s, p, rfl, g.mono e, hp, fun v H2 e2 ⟨x, z1, _, z3⟩ => q v H2 e2 ⟨x, z1, AnsAt.back e z3⟩⟩
theorem evp_fldR {σ : L2.St} {H : Hp} {te : TE} {f : Str} {Post Post' : V → Hp → Prop} (h : EvP te σ H Post) (hp : ∀ x H1, Ex H H1 → Post x H1 → ∃ a C dx fs v, x = .ref a ∧ H1 a = some (.ins C dx fs) ∧ Cls K C ∧ NoAttr K C f ∧ fs.lookup f = some v ∧ Post' v H1) : EvP (tFld K te f) σ H Post' := fun H1 e Q q =>
  h H1 e _ fun x H2 e2 p => by
    obtain ⟨a, C, dx, fs, v, h1, h2, h3, h4, h5, h6⟩ := hp x H2 (e.trans e2) p
    exact ⟨a, C, dx, fs, v, h1, h2, h3, h4, h5, q v H2 e2 h6⟩
theorem el_sortedI {σ : L2.St} {H : Hp} {te : TE} {ns ms : List Int} (h : EvP te σ H (LV (ns.map V.int))) (hz : ns.length < 64) (u : ∀ ns' : List Int, ns'.Perm ns → ns'.Pairwise (· ≤ ·) → ns' = ms) : EvL (tCB (rSorted K) (tCons te tNil)) σ H (ms.map V.int) := fun H1 e Q q => h H1 e _ fun v H2 e2 ⟨a, ev, ha⟩ => by
  subst ev
  exact ⟨a, ns, rfl, sq_of ha, hz, fun ns' p hp hs hn => q p _ (fresh_back e2 hn) (e2.trans (Ex.new hn)) (by rw [u ns' hp hs]; exact upd_same)⟩
theorem sorted21 (ns : List Int) (hp : ns.Perm [2, 1]) (hs : ns.Pairwise (· ≤ ·)) : ns = [1, 2] := by
  have hl := hp.length_eq
  obtain ⟨a, b, rfl⟩ : ∃ a b, ns = [a, b] := by
    match ns, hl with
    | [a, b], _ => exact ⟨a, b, rfl⟩
  have m1 : (1 : Int) ∈ [a, b] := hp.mem_iff.mpr (by decide)
  have m2 : (2 : Int) ∈ [a, b] := hp.mem_iff.mpr (by decide)
  have le : a ≤ b := List.rel_of_pairwise_cons hs (by simp)
  simp only [List.mem_cons, List.not_mem_nil, or_false] at m1 m2
  have : a = 1 ∧ b = 2 := by omega
  rw [this.1, this.2]
/-- no_of(lambda: astray(..)) -/
theorem tm_noAstray {σ : L2.St} {H : Hp} {i j : Nat} {lv : V} {sa : Addr} {n h : Int} {rs : List (Int × Int)} {s : List (Option Nat)} {Tb : List (Addr × Str)} {R : Hp → Prop} {C : Addr} {word : Str} (tb : LamX.Tabs Tb H) (h1 : σ[i]? = some (some lv)) (h2 : σ[j]? = some (some (.ref sa))) (g : ∀ H', LamX.ExtN H H' → Given K H' lv (.ref sa) n h rs s) (p q : Int) (p0 : 0 ≤ p) (pn : p < n) (why : (p = h ∧ C = ad.AtHome) ∨ (p ≠ h ∧ ¬ ((0 ≤ q ∧ q < n) ∧ (p, q) ∈ rs) ∧ C = ad.BadRoad)) (nw : NoWord ad C word) (hR : ∀ H', LamX.ExtN H H' → LamX.Tabs Tb H' → R H') :
    TM (LamX.tLam Tb (TNo ad) fun E => tCall (sp_astrayX K ad) [] E (tCons (tVar i) (tCons (tVar j) (tCons (tC (.int p)) (tCons (tC (.int q)) tNil))))) σ H R (.str word) := fun Q k => ⟨tb, fun H1 e1 t1 => by
  show tCall (sp_astrayX K ad) [] (fun cls d H' => ∃ C word, cls = .ref C ∧ d = none ∧ NoWord ad C word ∧ ∀ H'', Ex H' H'' → Q (.str word) H'') (tCons (tVar i) (tCons (tVar j) (tCons (tC (.int p)) (tCons (tC (.int q)) tNil)))) σ H1 (fun _ H1 => Q (.str "") H1)
  refine (ea_cons (ev_var h1) (ea_cons (ev_var h2) (ea_cons ev_c (ea_cons ev_c ea_nil)))) H1 (Ex.refl _) _ fun H2 e2 => ?_
  exact ⟨lv, .ref sa, n, h, rs, s, p, q, C, rfl, g _ (e1.trans (.of e2)), p0, pn, why, fun H3 e3 => ⟨C, word, rfl, rfl, nw, fun H4 e4 => k H4 (hR H4 (e1.trans (.of ((e2.trans e3).trans e4))) (t1.ext ((e2.trans e3).trans e4)))⟩⟩⟩
def sp_pr (K : PySem.W.Frag) (ad : Ads) : Sp := fun vs H Q _ => vs = [] ∧ LamX.Tabs (tabsL ad) H ∧ ∀ H', LamX.ExtN H H' → Q (.bl true) H'
theorem ok_pr (T : Txt K mg ad) (TB : LamX.TabB base mg ad.c__law_promises_right ad.p__law_promises_right) (TB2 : LamX.TabB base mg ad.c__law_posts_promises ad.p__law_posts_promises) : C8.Cal P w K mg base 11 "_law_promises_right" (sp_pr K ad) [] := by
  have c_followed : C8.Cal P w K mg base 8 "followed" (sp_followed K ad) [] := ok_followed T
  have c_home_from : C8.Cal P w K mg base 7 "home_from" (sp_home_from K) [] := ok_home_from T
  have c_worth : C8.Cal P w K mg base 8 "worth" (sp_worth K) [] := ok_worth T
  have c_astray : C8.Cal P w K mg base 8 "astray" (sp_astray K) [] := ok_astray T
  have x_astray : CalX P w K mg base 8 "astray" (sp_astrayX K ad) := okx_astray T
  have c__law_posts_promises : C8.Cal P w K mg base 9 "_law_posts_promises" (sp_pp K ad) [] := ok_pp T TB2
  have m_Round : C8.Mak P w K mg base 2 "Round" ad.Round (sp_Round_init K ad.Round "places") [] := ok_Round_init T
  have m_Home : C8.Mak P w K mg base 2 "Home" ad.Home (sp_Home_init K ad.Home "steps") [] := ok_Home_init T
  have m_Stands : C8.Mak P w K mg base 2 "Stands" ad.Stands (sp_Home_init K ad.Stands "place") [] := ok_Stands_init T
  have m_Round_shows : C8.Met P w K mg base 3 ad.Round "shows" (sp_shows1 K ad.Round "places" roundS) [] := ok_Round_shows T
  have m_Home_shows : C8.Met P w K mg base 2 ad.Home "shows" (sp_shows1 K ad.Home "steps" homeB) [] := ok_Home_shows T
  have m_Stands_shows : C8.Met P w K mg base 2 ad.Stands "shows" (sp_shows1 K ad.Stands "place" standsB) [] := ok_Stands_shows T
  have hmT : (ad.p__law_promises_right, qualE "_law_promises_right" st__law_promises_right) ∈ tabsL ad := List.mem_cons_of_mem _ List.mem_cons_self
  have hu : ∀ p ∈ tabsL ad, p.1 = ad.p__law_promises_right → p.2 = qualE "_law_promises_right" st__law_promises_right := fun p hp e => by
    rcases List.mem_cons.mp hp with rfl | hp
    · exact absurd e T.ne_tabs
    · obtain rfl := List.mem_singleton.mp hp
      rfl
  refine cal_ofL T.dl__law_promises_right sc__law_promises_right (fun _ _ _ _ _ _ us hl => match us, hl with | [], _ => rfl) (fun vs H Q E h => ?_) (fun f A outer st H vs Q E hr h => ?_)
  · obtain ⟨rfl, _⟩ := h; rfl
  · obtain ⟨rfl, hT, k⟩ := h
    refine ⟨_, (pss_cons (ps_asg (pe_tup (pa_cons (pe_tup (pa_cons pe_int (pa_cons pe_int (pa_cons (pe_lst (pa_cons (pe_tup (pa_cons pe_int (pa_cons pe_int pa_nil))) (pa_cons (pe_tup (pa_cons pe_int (pa_cons pe_int pa_nil))) (pa_cons (pe_tup (pa_cons pe_int (pa_cons pe_int pa_nil))) (pa_cons (pe_tup (pa_cons pe_int (pa_cons pe_int pa_nil))) (pa_cons (pe_tup (pa_cons pe_int (pa_cons pe_int pa_nil))) pa_nil)))))) pa_nil)))) (pa_cons (pe_lst (pa_cons pe_non (pa_cons pe_int (pa_cons pe_int (pa_cons pe_int pa_nil))))) pa_nil))) (k_gt K (n := 2) (by rfl) (pgs_cons (pg_name (i := 0) sc__law_promises_right.nd rfl (Or.inr rfl)) (pgs_cons (pg_name (i := 1) sc__law_promises_right.nd rfl (Or.inr rfl)) pgs_nil))))
  (pss_cons (ps_if (pt_cmpR (k_neD K hr.units) (pe_lc (own := [("_law_place", 7)]) (g := _) (tt := tYes) rfl sc__law_promises_right.nd (pi_range1 rfl T.n_range (pa_cons pe_int pa_nil)) (blkOk_by (N := N__law_promises_right) (sc := C8.fnScope st__law_promises_right) (by decide +kernel)) (fun _ _ _ _ _ => (pg_name (i := 7) sc__law_promises_right.nd rfl (Or.inl rfl))) (fun _ _ _ _ _ => pts_nil) (fun _ _ _ _ _ => (k_fld K (C8.pe_c c_followed hr (by decide) rfl (pa_cons (pv 0) (pa_cons (pv 1) (pa_cons (pv 7) pa_nil))))))) (pe_lst (pa_cons pe_int (pa_cons pe_int (pa_cons pe_int (pa_cons pe_int pa_nil))))) (nomark _)) (pss_one (ps_ret pe_bl)) pss_nil)
  (pss_cons (ps_par (i := 2) (j := 3) (by rfl) sc__law_promises_right.nd rfl rfl (by decide) rfl rfl (pa_cons (pe_lst (pa_cons pe_non (pa_cons pe_int (pa_cons pe_int (pa_cons pe_int pa_nil))))) (pa_cons (pe_lst (pa_cons pe_non (pa_cons pe_int (pa_cons pe_int (pa_cons pe_non pa_nil))))) pa_nil)) (by rfl))
  (pss_cons (ps_if (PW.pt (pw_or (pt_cmpR (k_neD K hr.units) (pe_callB cr_sorted (by rfl) T.n_sorted (by decide +kernel) (pa_cons (k_fld K (C8.pe_c c_followed hr (by decide) rfl (pa_cons (pv 0) (pa_cons (pv 2) (pa_cons pe_int pa_nil))))) pa_nil)) (pe_lst (pa_cons pe_int (pa_cons pe_int pa_nil))) (nomark _)) (pw_or1 (pt_cmpR op_ne (k_fld K (C8.pe_c c_followed hr (by decide) rfl (pa_cons (pv 0) (pa_cons (pv 3) (pa_cons pe_int pa_nil))))) pe_int (nomark _))))) (pss_one (ps_ret pe_bl)) pss_nil)
  (pss_cons (ps_if (pt_not (k_tru K (C8.pe_mt m_Stands_shows hr (by decide) (C8.pe_mk m_Stands hr (by decide) rfl (pa_cons pe_int pa_nil)) (pa_cons (pv 0) (pa_cons (pv 3) (pa_cons pe_int pa_nil)))))) (pss_one (ps_ret pe_bl)) pss_nil)
  (pss_cons (ps_set (i := 4) sc__law_promises_right.nd rfl (Or.inl rfl) (pe_lst (pa_cons (pe_tup (pa_cons (pe_lst (pa_cons pe_int (pa_cons pe_int pa_nil))) (pa_cons pe_bl pa_nil))) (pa_cons (pe_tup (pa_cons (pe_lst (pa_cons pe_int (pa_cons pe_int pa_nil))) (pa_cons pe_bl pa_nil))) (pa_cons (pe_tup (pa_cons (pe_lst (pa_cons pe_int (pa_cons pe_int (pa_cons pe_int (pa_cons pe_int pa_nil))))) (pa_cons pe_bl pa_nil))) (pa_cons (pe_tup (pa_cons (pe_lst (pa_cons pe_int pa_nil)) (pa_cons pe_bl pa_nil))) (pa_cons (pe_tup (pa_cons (pe_lst (pa_cons pe_int (pa_cons pe_int (pa_cons pe_int pa_nil)))) (pa_cons pe_bl pa_nil))) pa_nil)))))))
  (pss_cons (ps_set (i := 4) sc__law_promises_right.nd rfl (Or.inl rfl) (pe_op op_cat (pv 4) (pe_lst (pa_cons (pe_tup (pa_cons (pe_lst pa_nil) (pa_cons pe_bl pa_nil))) pa_nil))))
  (pss_cons (ps_for PassesOwn.never rfl (k_il K (pv 4)) (k_gt K (n := 2) (by rfl) (pgs_cons (pg_name (i := 5) sc__law_promises_right.nd rfl (Or.inl rfl)) (pgs_cons (pg_name (i := 6) sc__law_promises_right.nd rfl (Or.inl rfl)) pgs_nil)))
    (pss_one (ps_if (pt_cmpR op_ne (C8.pe_mt m_Round_shows hr (by decide) (C8.pe_mk m_Round hr (by decide) rfl (pa_cons (pv 5) pa_nil)) (pa_cons (pv 0) (pa_cons (pv 2) (pa_cons pe_int pa_nil)))) (pv 6) (nomark _)) (pss_one (ps_ret pe_bl)) pss_nil)))
  (pss_cons (ps_if (PW.pt (pw_or (k_tru K (C8.pe_mt m_Home_shows hr (by decide) (C8.pe_mk m_Home hr (by decide) rfl (pa_cons pe_int pa_nil)) (pa_cons (pv 0) (pa_cons (pv 1) (pa_cons pe_int pa_nil))))) (pw_or (pt_not (k_tru K (C8.pe_mt m_Home_shows hr (by decide) (C8.pe_mk m_Home hr (by decide) rfl (pa_cons pe_int pa_nil)) (pa_cons (pv 0) (pa_cons (pv 1) (pa_cons pe_int pa_nil)))))) (pw_or1 (pt_cmpR (k_neD K hr.units) (C8.pe_c c_home_from hr (by decide) rfl (pa_cons (pv 0) (pa_cons (pv 1) pa_nil))) (pe_lst (pa_cons pe_int (pa_cons pe_int (pa_cons pe_int (pa_cons pe_int pa_nil))))) (nomark _)))))) (pss_one (ps_ret pe_bl)) pss_nil)
  (pss_cons (ps_if (PW.pt (pw_or (pt_cmpR (k_neD K hr.units) (pe_lc (own := [("_law_place", 7)]) (g := _) (tt := tYes) rfl sc__law_promises_right.nd (pi_range1 rfl T.n_range (pa_cons pe_int pa_nil)) (blkOk_by (N := N__law_promises_right) (sc := C8.fnScope st__law_promises_right) (by decide +kernel)) (fun _ _ _ _ _ => (pg_name (i := 7) sc__law_promises_right.nd rfl (Or.inl rfl))) (fun _ _ _ _ _ => pts_nil) (fun _ _ _ _ _ => (C8.pe_c c_worth hr (by decide) rfl (pa_cons (pv 0) (pa_cons (pv 1) (pa_cons (pv 7) pa_nil)))))) (pe_lst (pa_cons pe_int (pa_cons pe_int (pa_cons pe_int (pa_cons pe_int pa_nil))))) (nomark _)) (pw_or1 (pt_cmpR op_ne (C8.pe_c c_worth hr (by decide) rfl (pa_cons (pv 0) (pa_cons (pv 2) (pa_cons pe_int pa_nil)))) pe_int (nomark _))))) (pss_one (ps_ret pe_bl)) pss_nil)
  (pss_cons (ps_if (pt_cmpR op_ne (C8.pe_c c_worth hr (by decide) rfl (pa_cons (pv 0) (pa_cons (pv 2) (pa_cons pe_int pa_nil)))) pe_int (nomark _)) (pss_one (ps_ret pe_bl)) pss_nil)
  (pss_cons (ps_if (PW.pt (pw_or (pt_cmpR (k_neD K hr.units) (C8.pe_c c_astray hr (by decide) rfl (pa_cons (pv 0) (pa_cons (pv 1) (pa_cons pe_int (pa_cons pe_non pa_nil))))) (pe_lst (pa_cons pe_int (pa_cons pe_int pa_nil))) (nomark _)) (pw_or (pt_cmpR (k_neD K hr.units) (C8.pe_c c_astray hr (by decide) rfl (pa_cons (pv 0) (pa_cons (pv 1) (pa_cons pe_int (pa_cons pe_int pa_nil))))) (pe_lst pa_nil) (nomark _)) (pw_or1 (pt_cmpR (k_neD K hr.units) (C8.pe_c c_astray hr (by decide) rfl (pa_cons (pv 0) (pa_cons (pv 1) (pa_cons pe_int (pa_cons pe_int pa_nil))))) (pe_lst (pa_cons pe_int (pa_cons pe_int (pa_cons pe_int pa_nil)))) (nomark _)))))) (pss_one (ps_ret pe_bl)) pss_nil)
  (pss_cons (ps_if (pt_cmpR op_ne (pe_lam1 (k := 8) (t := fun E => _) T.d__law_no_of (fun _ _ _ _ _ _ us hl => match us, hl with | [_], _ => rfl) sc__law_no_of (fun g cdg => no_gives T) rfl TB rfl hmT hu (hr.mono (by decide)) rfl (Or.inl rfl) (LamX.lamS_by (by rfl)) rfl (fun _ _ _ _ _ => rfl) (fun A outer s H E f c' hr lo => (pe_cX x_astray hr (by decide) rfl lo (pa_cons (pv 0) (pa_cons (pv 1) (pa_cons pe_int (pa_cons pe_int pa_nil))))))) pe_str (nomark _)) (pss_one (ps_ret pe_bl)) pss_nil)
  (pss_cons (ps_if (pt_cmpR op_ne (pe_lam1 (k := 8) (t := fun E => _) T.d__law_no_of (fun _ _ _ _ _ _ us hl => match us, hl with | [_], _ => rfl) sc__law_no_of (fun g cdg => no_gives T) rfl TB rfl hmT hu (hr.mono (by decide)) rfl (Or.inl rfl) (LamX.lamS_by (by rfl)) rfl (fun _ _ _ _ _ => rfl) (fun A outer s H E f c' hr lo => (pe_cX x_astray hr (by decide) rfl lo (pa_cons (pv 0) (pa_cons (pv 1) (pa_cons pe_int (pa_cons pe_int pa_nil))))))) pe_str (nomark _)) (pss_one (ps_ret pe_bl)) pss_nil)
  (pss_one (ps_ret (C8.pe_c c__law_posts_promises hr (by decide) rfl (pa_cons (pv 0) pa_nil)))))))))))))))))), ?_⟩
    have hs4 : ∀ i, i < 4 → endOf sH i 0 = .home i := fun i hi => by
      match i, hi with
      | 0, _ => rfl
      | 1, _ => rfl
      | 2, _ => rfl
      | 3, _ => rfl
    refine q_unp2 (evp_tup (P := fun vs H' => ∃ lv ha, vs = [lv, .ref ha] ∧ LandAt K H' lv 4 0 landP ∧ H' ha = some (.lst (sH.map nV))) ((eap_p (evp_land (K := K) (n := 4) (h := 0) (L := landP) (erd_cons (erd_cons (erd_cons (erd_cons (erd_cons erd_nil))))) (by decide)) (fun v H1 H2 e z => z.mono e) (eap_l (el_lst (vs := sH.map nV) (ea_cons ev_c (ea_cons ev_c (ea_cons ev_c (ea_cons ev_c ea_nil)))) (by decide)) eap_nil)).weak fun vs H1 _ ⟨lv, r1, z1, hL, p, r2, z2, p0, hp, z3⟩ => ⟨lv, p, by rw [z1, z2, z3], hL, hp⟩)
      (fun vs H1 H2 e ⟨lv, ha, z1, z2, z3⟩ => ⟨lv, ha, z1, z2.mono e, e _ _ z3⟩) fun vs H1 ⟨lv, ha, z1, _⟩ => by rw [z1]; show 2 ≤ 100000; decide) fun v H1 a1 ⟨t, vs, e1, ht, lv, ha, e2, hL, hH⟩ => ⟨t, lv, .ref ha, e1, by rw [← e2]; exact st_of ht, ?_⟩
    have gH : ∀ {H2 : Hp}, LamX.ExtN H1 H2 → Given K H2 lv (.ref ha) 4 0 landP sH := fun e => ⟨hL.extN e, landP_ok, ⟨ha, rfl, ext_l e (sq_of hH)⟩, sH_ok⟩
    have gX : ∀ {H2 : Hp}, Ex H1 H2 → Given K H2 lv (.ref ha) 4 0 landP sH := fun e => gH (.of e)
    have ans : ∀ {i : Nat} {x : Addr} {e : End} {H0 H' : Hp}, AnsAt ad H0 H' x (endOf sH i 0) → endOf sH i 0 = e → AnsAt ad H0 H' x e := fun h e => e ▸ h
    -- steps
    refine q_when (b := false) (et_test (ev_opLL (xs := [0, 1, 2, 3].map natV) (el_mapR (n := 4) natV (ea_cons ev_c ea_nil) (by decide) fun i H2 a2 hi => ev_fldP (evp_fol (ad := ad) (ev_var rfl) (ev_var rfl) (ev_var rfl) (gX a2) (p := i) hi) fun x H3 a3 ⟨y, z1, z2⟩ => by
        have z3 := ans z2 (hs4 i (by omega))
        obtain ⟨dx, ob⟩ := z3
        exact ⟨y, _, dx, _, z1, ob, T.cl_Home, T.no_Home_steps, look1 _ _⟩)
      (el_lst (vs := [0, 1, 2, 3].map natV) (ea_cons ev_c (ea_cons ev_c (ea_cons ev_c (ea_cons ev_c ea_nil)))) (by decide)) fun p q H2 hp hq e => ne_nats hp hq)) (fun z => nomatch z) fun _ H2 a2 => ?_
    refine q_par2 (eap_ll (el_lst (vs := sR.map nV) (ea_cons ev_c (ea_cons ev_c (ea_cons ev_c (ea_cons ev_c ea_nil)))) (by decide)) (el_lst (vs := sB.map nV) (ea_cons ev_c (ea_cons ev_c (ea_cons ev_c (ea_cons ev_c ea_nil)))) (by decide))) fun vs H3 a3 ⟨ra, rb, e3, _, _, nd, hR, hB⟩ => ⟨_, _, e3, ?_⟩
    have a13 := a2.trans a3
    have gR : ∀ {H4 : Hp}, Ex H3 H4 → Given K H4 lv (.ref ra) 4 0 landP sR := fun e => ⟨hL.mono (a13.trans e), landP_ok, ⟨ra, rfl, sq_of (e _ _ hR)⟩, sR_ok⟩
    have gB : ∀ {H4 : Hp}, Ex H3 H4 → Given K H4 lv (.ref rb) 4 0 landP sB := fun e => ⟨hL.mono (a13.trans e), landP_ok, ⟨rb, rfl, sq_of (e _ _ hB)⟩, sB_ok⟩
    refine q_when (b := false) (et_is (et_or (a := false) (b := false) (et_test (ev_opLL (el_sortedI (K := K) (ns := [2, 1]) (ms := [1, 2]) (evp_fldR (evp_fol (ad := ad) (ev_var rfl) (ev_var rfl) (ev_c (v := natV 3)) (gR (Ex.refl _)) (by decide)) fun x H4 a4 ⟨y, z1, z2⟩ => by
        have z3 : AnsAt ad H3 H4 y (.round [2, 1]) := z2
        obtain ⟨dx, D, ob, _, _, hD⟩ := z3
        exact ⟨y, _, dx, _, .ref D, z1, ob, T.cl_Round, T.no_Round_places, look1 _ _, D, rfl, hD⟩) (by decide) sorted21) (el_lst (vs := [1, 2].map V.int) (ea_cons ev_c (ea_cons ev_c ea_nil)) (by decide)) fun p q H4 hp hq e => ne_ints (S := [1, 2]) (sq_of hp) (sq_of hq)))
      fun _ => et_test (ev_is (ev_op (ev_fldP (v := natV 3) (evp_fol (ad := ad) (ev_var rfl) (ev_var rfl) (ev_c (v := natV 3)) (gB (Ex.refl _)) (by decide)) fun x H4 a4 ⟨y, z1, z2⟩ => by
        have z3 : AnsAt ad H3 H4 y (.stands 3) := z2
        obtain ⟨dx, ob⟩ := z3
        exact ⟨y, _, dx, _, z1, ob, T.cl_Stands, T.no_Stands_place, look1 _ _⟩) ev_c (rv_ne rfl)) (by rfl))) rfl) (fun z => nomatch z) fun _ H4 a4 => ?_
    have a14 := a13.trans a4
    refine q_when (b := false) (et_is (et_not (et_tr (b := true) (x := .bl true) (ev_sh1 (p := 3) (evp_one (z := 3) ev_c) (by decide) (ev_var rfl) (ev_var rfl) (hL.mono a14) (sq_of (a4 _ _ hB)) sB_ok.all.wf (by decide) (by decide) (by rfl)) fun _ _ => rfl)) rfl) (fun z => nomatch z) fun _ H5 a5 => ?_
    refine q_asgP (evp_cas ci_mono (L := [([1, 2], true), ([2, 1], true), ([1, 2, 1, 2], false), ([1], false), ([3, 1, 2], false)])
      (eca_cons ci_mono (ci_of (ea_cons ev_c (ea_cons ev_c ea_nil))) (eca_cons ci_mono (ci_of (ea_cons ev_c (ea_cons ev_c ea_nil))) (eca_cons ci_mono (ci_of (ea_cons ev_c (ea_cons ev_c (ea_cons ev_c (ea_cons ev_c ea_nil))))) (eca_cons ci_mono (ci_of (ea_cons ev_c ea_nil)) (eca_cons ci_mono (ci_of (ea_cons ev_c (ea_cons ev_c (ea_cons ev_c ea_nil)))) eca_nil))))) (by decide)) fun v H6 a6 ⟨r4, vs4, e1, hr4, c4⟩ => ?_
    subst e1
    refine q_asgP (evp_casCat ci_mono (L' := [([], false)]) (ev_var rfl) hr4 c4 (eca_cons ci_mono (ci_of ea_nil) eca_nil) (by decide)) fun v H7 a7 ⟨r5, vs5, e1, hr5, c5⟩ => ?_
    subst e1
    have a47 := (a5.trans a6).trans a7
    have a17 := a14.trans a47
    have hR7 := (a4.trans a47) _ _ hR
    refine q_forCas ci_mono (ev_var rfl) hr5 c5 (fun σ' => ∃ o5 o6, σ' = [some lv, some (.ref ha), some (.ref ra), some (.ref rb), some (.ref r5), o5, o6, none]) ⟨_, _, rfl⟩ ?_ ?_
    · rintro a y b σ' H8 hm ⟨o5, o6, rfl⟩ a8 ca
      have ct := casR_ok y b hm
      have bd : y.length ≤ 100 := by
        simp only [List.cons_append, List.nil_append, List.mem_cons, Prod.mk.injEq, List.not_mem_nil, or_false] at hm
        rcases hm with ⟨rfl, _⟩ | ⟨rfl, _⟩ | ⟨rfl, _⟩ | ⟨rfl, _⟩ | ⟨rfl, _⟩ | ⟨rfl, _⟩ <;> decide
      refine s_when (b := false) (et_test (ev_is (ev_op (ev_sh1 (p := 3) (h := 0) (evp_rnd (S := y) (lv_v (ev_var rfl) ca) bd) (by decide) (ev_var rfl) (ev_var rfl) (hL.mono (a17.trans a8)) (sq_of (a8 _ _ hR7)) sR_ok.all.wf (by decide) (by decide) ct) (ev_var rfl) (rv_ne (by rfl))) (by rw [decide_eq_true rfl]; rfl))) (fun z => nomatch z) fun _ H9 a9 => ⟨a8.trans a9, _, _, rfl⟩
    · rintro σ' H8 a8 ⟨o5, o6, rfl⟩
      have a18 := a17.trans a8
      have hR8 := a8 _ _ hR7
      have hw : Wf sH.length sH := sH_ok.all.wf
      have rw_ : Wf sR.length sR := sR_ok.all.wf
      have gR8 : ∀ {H4 : Hp}, Ex H8 H4 → Given K H4 lv (.ref ra) 4 0 landP sR := fun e => gR ((a4.trans a47).trans (a8.trans e))
      have gH8 : ∀ {H4 : Hp}, Ex H8 H4 → Given K H4 lv (.ref ha) 4 0 landP sH := fun e => gX (a18.trans e)
      refine q_when (b := false) (et_is (et_or (a := false) (b := false) (et_tr (x := .bl false) (ev_sh1 (p := 3) (h := 0) (evp_one (z := 2) ev_c) (by decide) (ev_var rfl) (ev_var rfl) (hL.mono a18) (sq_of (a18 _ _ hH)) hw (by decide) (by decide) (by rfl)) fun _ _ => rfl)
        fun _ => et_or (a := false) (b := false) (et_is (et_not (et_tr (b := true) (x := .bl true) (ev_sh1 (p := 0) (h := 0) (evp_one (z := 0) ev_c) (by decide) (ev_var rfl) (ev_var rfl) (hL.mono a18) (sq_of (a18 _ _ hH)) hw (by decide) (by decide) (by rfl)) fun _ _ => rfl)) rfl)
        fun _ => et_test (ev_opLL (el_home_from (ev_var rfl) (ev_var rfl) (gH8 (Ex.refl _))) (el_lst (vs := [0, 1, 2, 3].map natV) (ea_cons ev_c (ea_cons ev_c (ea_cons ev_c (ea_cons ev_c ea_nil)))) (by decide)) fun p q H9 hp hq e => ne_nats (l := [0, 1, 2, 3]) (by rw [hp, comers_l hw]; rfl) hq)) rfl) (fun z => nomatch z) fun _ H9 a9 => ?_
      have wth : ∀ (p c : Nat), worthC sH 0 p = c → worthF sH 0 p = c := fun p c e => by rw [worth_c hw rfl, e]
      have wthR : ∀ (p c : Nat), worthC sR 0 p = c → worthF sR 0 p = c := fun p c e => by rw [worth_c rw_ rfl, e]
      refine q_when (b := false) (et_is (et_or (a := false) (b := false) (et_test (ev_opLL (xs := [4, 3, 2, 1].map natV) (by
          have z := el_mapR (n := 4) (σ := [some lv, some (.ref ha), some (.ref ra), some (.ref rb), some (.ref r5), o5, o6, none]) (H := H9) (te := tCall (sp_worth K) [] C8.E0 (tCons (tVar 0) (tCons (tVar 1) (tCons (tVar 7) tNil)))) (j := 7) (ta := tCons (tC (.int 4)) tNil) (fun i => natV (worthF sH 0 i)) (ea_cons ev_c ea_nil) (by decide) fun i H10 a10 hi => ev_call (ea_cons (ev_var rfl) (ea_cons (ev_var rfl) (ea_cons (ev_var rfl) ea_nil))) fun H11 e Q q E => ⟨_, _, 4, 0, landP, sH, i, rfl, gH8 (a9.trans (a10.trans e)), hi, q⟩
          have e : (List.range (Int.toNat 4)).map (fun i => natV (worthF sH 0 i)) = [4, 3, 2, 1].map natV := by
            show [natV (worthF sH 0 0), natV (worthF sH 0 1), natV (worthF sH 0 2), natV (worthF sH 0 3)] = _
            rw [wth 0 4 (by rfl), wth 1 3 (by rfl), wth 2 2 (by rfl), wth 3 1 (by rfl)]
            rfl
          rw [e] at z
          exact z) (el_lst (vs := [4, 3, 2, 1].map natV) (ea_cons ev_c (ea_cons ev_c (ea_cons ev_c (ea_cons ev_c ea_nil)))) (by decide)) fun p q H10 hp hq e => ne_nats hp hq))
        fun _ => et_test (ev_is (ev_op (ev_call (z := natV 0) (ea_cons (ev_var rfl) (ea_cons (ev_var rfl) (ea_cons (ev_c (v := natV 1)) ea_nil))) fun H11 e Q q E => ⟨_, _, 4, 0, landP, sR, 1, rfl, gR8 (a9.trans e), by decide, by rw [show worthF sR (Int.toNat 0) 1 = 0 from wthR 1 0 (by rfl)]; exact q⟩) ev_c (rv_ne rfl)) (by rfl))) rfl) (fun z => nomatch z) fun _ H10 a10 => ?_
      have a910 := a9.trans a10
      refine q_when (b := false) (et_test (ev_is (ev_op (ev_call (z := natV 1) (ea_cons (ev_var rfl) (ea_cons (ev_var rfl) (ea_cons (ev_c (v := natV 0)) ea_nil))) fun H11 e Q q E => ⟨_, _, 4, 0, landP, sR, 0, rfl, gR8 (a910.trans e), by decide, by rw [show worthF sR (Int.toNat 0) 0 = 1 from wthR 0 1 (by rfl)]; exact q⟩) ev_c (rv_ne rfl)) (by rfl))) (fun z => nomatch z) fun _ H11 a11 => ?_
      have a911 := a910.trans a11
      have ast : ∀ {σ : L2.St} {te : TE} (p : Nat) (o : Option Nat) (c : List Nat), σ[0]? = some (some lv) → σ[1]? = some (some (.ref ha)) → (∀ H, Ev te σ H (nV o)) → (p : Int) < 4 → (p : Int) ≠ 0 → (∀ q : Nat, o = some q → (q : Int) < 4 ∧ ((p : Int), (q : Int)) ∈ landP) → Wf (sH.set p o).length (sH.set p o) → astrayC sH 0 p o = c → EvL (tCall (sp_astray K) [] C8.E0 (tCons (tVar 0) (tCons (tVar 1) (tCons (tC (natV p)) (tCons te tNil))))) σ H11 (c.map natV) := fun {σ te} p o c h0 h1 ho hp hp0 hr w2 hc =>
        el_call (ea_cons (ev_var h0) (ea_cons (ev_var h1) (ea_cons ev_c (ea_cons (ho _) ea_nil)))) fun H12 e Q q E => ⟨_, _, 4, 0, landP, sH, p, o, rfl, gH8 (a911.trans e), hp, hp0, hr, by rw [show astrayF sH (Int.toNat 0) p o = c from (astray_c hw w2).trans hc]; exact q⟩
      refine q_when (b := false) (et_is (et_or (a := false) (b := false) (et_test (ev_opLL (ast 2 none [2, 3] rfl rfl (fun H => ev_c) (by decide) (by decide) (fun q z => nomatch z) ((show SignsOk 4 0 landP (sH.set 2 none) by rfl).all.wf) (by rfl)) (el_lst (vs := [2, 3].map natV) (ea_cons ev_c (ea_cons ev_c ea_nil)) (by decide)) fun p q H12 hp hq e => ne_nats hp hq))
        fun _ => et_or (a := false) (b := false) (et_test (ev_opLL (ast 2 (some 1) [] rfl rfl (fun H => ev_c) (by decide) (by decide) (fun q z => by cases z; exact ⟨by decide, by decide⟩) ((show SignsOk 4 0 landP (sH.set 2 (some 1)) by rfl).all.wf) (by rfl)) (el_lst (vs := [].map natV) ea_nil (by decide)) fun p q H12 hp hq e => ne_nats hp hq))
        fun _ => et_test (ev_opLL (ast 1 (some 2) [1, 2, 3] rfl rfl (fun H => ev_c) (by decide) (by decide) (fun q z => by cases z; exact ⟨by decide, by decide⟩) ((show SignsOk 4 0 landP (sH.set 1 (some 2)) by rfl).all.wf) (by rfl)) (el_lst (vs := [1, 2, 3].map natV) (ea_cons ev_c (ea_cons ev_c (ea_cons ev_c ea_nil))) (by decide)) fun p q H12 hp hq e => ne_nats hp hq)) rfl) (fun z => nomatch z) fun _ H12 a12 => ?_
      have a112 := a18.trans (a911.trans a12)
      refine q_whenR (R := fun H' => LamX.ExtN H1 H' ∧ LamX.Tabs (tabsL ad) H') (tf_ne (tm_noAstray (ad := ad) (K := K) (n := 4) (h := 0) (rs := landP) (s := sH) (hT.ext (a1.trans a112)) rfl rfl (fun H' e => gH ((LamX.ExtN.of a112).trans e)) 0 9 (by decide) (by decide) (.inl ⟨rfl, rfl⟩) .home fun H' e tb => ⟨(LamX.ExtN.of a112).trans e, tb⟩)) fun H13 ⟨e13, t13⟩ => ?_
      refine q_whenR (R := fun H' => LamX.ExtN H1 H' ∧ LamX.Tabs (tabsL ad) H') (tf_ne (tm_noAstray (ad := ad) (K := K) (n := 4) (h := 0) (rs := landP) (s := sH) t13 rfl rfl (fun H' e => gH (e13.trans e)) 1 3 (by decide) (by decide) (.inr ⟨by decide, by decide, rfl⟩) .road fun H' e tb => ⟨e13.trans e, tb⟩)) fun H14 ⟨e14, t14⟩ => ?_
      show tCall (sp_pp K ad) [] C8.E0 (tCons (tVar 0) tNil) _ H14 _
      exact (ea_cons (ev_var rfl) ea_nil) H14 (Ex.refl _) _ fun H15 e15 => ⟨lv, rfl, hL.extN (e14.trans (.of e15)), t14.ext e15, fun H' e => k _ (((LamX.ExtN.of a1).trans (e14.trans (.of e15))).trans e)⟩

end
end Sg
namespace Sg
set_option autoImplicit false
open PySem L2 Evl Big
open PyProof.Rows (envOfC)
section
variable {P : Program} {w : World} {K : PySem.W.Frag} {mg : Str → Option Value} {base : Heap} {ad : Ads}
theorem q_clear {σ : L2.St} {H : Hp} {D : Ends} {tz : TS} {te : TE} {l : Addr} {xs : List V} (hl : H l = some (.lst xs)) (h : Ev te σ H (.ref l)) (k : ∀ H1, Ex H H1 → tz D σ (upd H1 l (.lst []))) : tSeq (tDrop (tBM0 K "list" rClear te)) tz D σ H := h H (Ex.refl _) _ fun H1 e1 => ⟨.inl ⟨rfl, _, sq_of (e1 _ _ hl)⟩, l, xs, rfl, rfl, e1 _ _ hl, k H1 e1⟩
theorem tf_pr {σ : L2.St} {H : Hp} (tb : LamX.Tabs (tabsL ad) H) : TF (tNot (tB (tCall (sp_pr K ad) [] C8.E0 tNil))) σ H (fun H' => LamX.ExtN H H') := fun Q q => ⟨rfl, tb, fun H' e => ⟨true, rfl, q H' e⟩⟩
/-- abs(number) // 3 -/
theorem evp_num {σ : L2.St} {H : Hp} {ta : TA} {c t w : Int} (h : EvA ta σ H [.int c, .int t, .int w]) (t0 : 0 ≤ t) (t1 : t ≤ 1000) : EvP (tOp (rI CDiv fun i j => V.int (i / j)) (tCB (fun xs H Q => ∃ i : Int, xs = [.int i] ∧ Q (.int (if i < 0 then -i else i)) H) (tCons (tCall (sp_law_number K) [] C8.E0 ta) tNil)) (tC (.int 3))) σ H (fun v _ => ∃ N : Int, 0 ≤ N ∧ v = .int N) :=
  evp_op1 (Post := fun v _ => ∃ N : Int, 0 ≤ N ∧ v = .int N) (evp_cb1 (Post := fun v _ => ∃ z : Int, v = .int z) (evp_call h fun H5 e Q q E => ⟨_, _, _, rfl, t0, t1, q⟩) fun x H5 e ⟨z, hz⟩ => ⟨.int (if z < 0 then -z else z), by subst hz; exact rc_abs, fun H6 _ => ⟨_, by split <;> omega, rfl⟩⟩)
    fun x H5 e ⟨N, hN, hx⟩ => ⟨.int 3, .int (N / 3), ev_c, by subst hx; exact rv_I (C := CDiv) ⟨by decide, by decide⟩, fun H6 _ => ⟨_, by omega, rfl⟩⟩
theorem q_asgLst {σ : L2.St} {H : Hp} {D : Ends} {ta : TA} {tz : TS} {i : Nat} {R : Hp → Prop} {l : List Nat} (h : TMA ta σ H R (l.map natV)) (hR : ∀ H1 H2, Ex H1 H2 → R H1 → R H2) (hz : l.length ≤ 100) (k : ∀ p H', R H' → H' p = some (.lst (l.map natV)) → tz D (σ.set i (some (.ref p))) H') : tSeq (tAsg (tLst ta) (gName i)) tz D σ H := h _ fun H1 r => ⟨sz_of (by rw [List.length_map]; omega), fun p hp => k p _ (hR _ _ (Ex.new hp) r) upd_same⟩
theorem s_retX {σ : L2.St} {H : Hp} {D : Ends} {te : TE} (h : te σ H D.rt) : tRet te D σ H := h
theorem and_R {σ : L2.St} {H : Hp} {ta tb : TE} {Q : VK} (h : Ev ta σ H (.bl true)) (k : ∀ H1, Ex H H1 → tb σ H1 Q) : tAndV ta tb σ H Q := h H (Ex.refl _) _ fun H1 e => ⟨true, rfl, iteT (k H1 e)⟩
theorem eq_R {σ : L2.St} {H : Hp} {te : TE} {v : V} {R : Hp → Prop} {Q : VK} (h : TM te σ H R v) (hs : scal v v = true) (k : ∀ H', R H' → Q (.bl true) H') : tOp rEq te (tC v) σ H Q := h _ fun H1 r => ⟨hs, by rw [decide_eq_true rfl]; exact k H1 r⟩
theorem eq_natsT {H : Hp} {a b : Addr} {l : List Nat} (h1 : SqL K H a (l.map natV)) (h2 : SqL K H b (l.map natV)) : RV (rEqD K) (.ref a) (.ref b) H (.bl true) := by
  have q := eq_nats (K := K) h1 h2
  rwa [decide_eq_true rfl] at q
theorem bare_signs (n h : Int) : PSigns n h [] (List.replicate n.toNat none) := ⟨⟨by simp, fun a b z => by rw [nx_bare] at z; cases z⟩, nx_bare _ _⟩
theorem PSigns.any {n h : Int} {rs rs' : List (Int × Int)} {s : List (Option Nat)} (p : PSigns n h rs s) : PSigns n h rs' s := ⟨p.wf, p.home⟩
def spLaw6 (K : PySem.W.Frag) (ad : Ads) : Sp := fun vs H Q _ => ∃ (a : Addr) (ns : List Int), vs = [.ref a] ∧ SqL K H a (ns.map V.int) ∧ ns.length ≤ 63 ∧ H ad.p__law_posts_promises = some (.tbl #[]) ∧ H ad.p__law_promises_right = some (.tbl #[]) ∧ ∀ H', Q (.bl true) H'
theorem fn_law (T : Txt K mg ad) (TB : LamX.TabB base mg ad.c__law_promises_right ad.p__law_promises_right) (TB2 : LamX.TabB base mg ad.c__law_posts_promises ad.p__law_posts_promises) {f : Addr} {fd : FuncData} (D : C8.Def K mg "law" st_law f fd) : FnOk P w K mg base C8.CX0 12 f fd P_law (spLaw6 K ad) := by
  have c__law_promises_right : C8.Cal P w K mg base 11 "_law_promises_right" (sp_pr K ad) [] := ok_pr T TB TB2
  have c__law_land : C8.Cal P w K mg base 2 "_law_land" (sp_law_land K) [] := ok_law_land T
  have c__law_number : C8.Cal P w K mg base 1 "_law_number" (sp_law_number K) [] := ok_law_number T
  have c__law_deed : C8.Cal P w K mg base 1 "_law_deed" (sp_deed K) [] := ok_deed T
  have c__law_due : C8.Cal P w K mg base 3 "_law_due" (sp_due06 K) [] := ok_due06 T
  have c__law_ask : C8.Cal P w K mg base 5 "_law_ask" (sp_ask K ad) [] := ok_ask T
  have m_Posts : C8.Mak P w K mg base 7 "Posts" ad.Posts (sp_Posts_init K ad.Posts) [] := ok_Posts_init T
  have m_Posts_turn : C8.Met P w K mg base 4 ad.Posts "turn" (sp_Posts_turn K ad.Posts) [] := ok_Posts_turn T
  have m_Posts_lose : C8.Met P w K mg base 4 ad.Posts "lose" (sp_Posts_lose K ad.Posts) [] := ok_Posts_lose T
  have m_Posts_turned : C8.Met P w K mg base 1 ad.Posts "turned" (sp_Posts_turned ad.Posts) [] := ok_Posts_turned T
  have m_Posts_all_signs : C8.Met P w K mg base 1 ad.Posts "all_signs" (sp_Posts_all_signs ad.Posts) [] := ok_Posts_all_signs T
  refine C8.fn0 D.fn sc_law (fun vs H Q E h => ?_) (fun cdv A outer st H vs Q E hr h => ?_)
  · obtain ⟨a, ns, rfl, _⟩ := h; rfl
  · obtain ⟨sa, ns, rfl, hS, hns, t1, t2, k⟩ := h
    refine ⟨_, (pss_cons (ps_if (pt_not (pt_val (pe_c0 c__law_promises_right hr (by decide) rfl))) (pss_one (ps_ret pe_bl)) pss_nil)
  (pss_cons (ps_par (i := 1) (j := 2) (by rfl) sc_law.nd rfl rfl (by decide) rfl rfl (pa_cons (pe_slice (k_sl K) (pv 0) po_none (po_some pe_int)) (pa_cons (pe_callB call_abs (by rfl) T.n_abs (by decide +kernel) (pa_cons (pe_callB (k_sum K rfl) (by rfl) T.n_sum (by decide +kernel) (pa_cons (pe_slice (k_sl K) (pv 0) po_none (po_some pe_int)) pa_nil)) pa_nil)) pa_nil)) (by rfl))
  (pss_cons (ps_set (i := 3) sc_law.nd rfl (Or.inl rfl) (pe_ix (k_tup K) (C8.pe_c c__law_land hr (by decide) rfl (pa_cons (pv 0) (pa_cons pe_int (pa_cons pe_int pa_nil)))) pe_int (fun _ _ => rfl)))
  (pss_cons (ps_set (i := 4) sc_law.nd rfl (Or.inl rfl) (pe_callTy (k_lst K) (by rfl) T.n_list (by decide +kernel) (pa_cons (pe_ix (k_tup K) (pv 3) pe_int (fun _ _ => rfl)) pa_nil)))
  (pss_cons (ps_par (i := 5) (j := 6) (by rfl) sc_law.nd rfl rfl (by decide) rfl rfl (pa_cons (C8.pe_mk m_Posts hr (by decide) rfl (pa_cons (pe_tup (pa_cons (pe_ix (k_tup K) (pv 3) pe_int (fun _ _ => rfl)) (pa_cons (pe_ix (k_tup K) (pv 3) pe_int (fun _ _ => rfl)) (pa_cons (pv 4) pa_nil)))) pa_nil)) (pa_cons (C8.pe_mk m_Posts hr (by decide) rfl (pa_cons (pv 3) pa_nil)) pa_nil)) (by rfl))
  (pss_cons (ps_expr (pe_bm0 PySem.F.plainAttrs_list PySem.F.slot_list_clear PySem.F.type_list_clear mt_clear (pv 4)))
  (pss_cons (ps_asg (pe_tup (pa_cons (pe_op op_rep (pe_lst (pa_cons pe_non pa_nil)) (pe_ix (k_tup K) (pv 3) pe_int (fun _ _ => rfl))) (pa_cons pe_int (pa_cons (pe_op op_rep (pe_lst (pa_cons pe_non pa_nil)) (pe_ix (k_tup K) (pv 3) pe_int (fun _ _ => rfl))) (pa_cons pe_int pa_nil))))) (k_gt K (n := 4) (by rfl) (pgs_cons (pg_name (i := 7) sc_law.nd rfl (Or.inl rfl)) (pgs_cons (pg_name (i := 8) sc_law.nd rfl (Or.inl rfl)) (pgs_cons (pg_name (i := 9) sc_law.nd rfl (Or.inl rfl)) (pgs_cons (pg_name (i := 10) sc_law.nd rfl (Or.inl rfl)) pgs_nil))))))
  (pss_cons (ps_for PassesOwn.never rfl (pi_range1 rfl T.n_range (pa_cons (pe_op op_mulW pe_int (pe_callB (k_len K) (by rfl) T.n_len PySem.boot_len (pa_cons (pv 1) pa_nil))) pa_nil)) (pg_name (i := 11) sc_law.nd rfl (Or.inl rfl))
    (pss_cons (ps_set (i := 12) sc_law.nd rfl (Or.inl rfl) (pe_op op_fdiv (pe_callB call_abs (by rfl) T.n_abs (by decide +kernel) (pa_cons (C8.pe_c c__law_number hr (by decide) rfl (pa_cons (pe_op op_add (pe_ix (k_list K) (pv 1) (pe_op op_fdiv (pv 11) pe_int) (fun _ _ => rfl)) (pe_op op_mod (pv 11) pe_int)) (pa_cons (pv 11) (pa_cons (pv 2) pa_nil)))) pa_nil)) pe_int))
  (pss_cons (ps_set (i := 13) sc_law.nd rfl (Or.inl rfl) (C8.pe_c c__law_deed hr (by decide) rfl (pa_cons (pv 12) (pa_cons (pv 3) pa_nil))))
  (pss_cons (ps_asg (C8.pe_c c__law_due hr (by decide) rfl (pa_cons (pv 3) (pa_cons (pv 7) (pa_cons (pv 13) pa_nil)))) (k_gt K (n := 2) (by rfl) (pgs_cons (pg_name (i := 14) sc_law.nd rfl (Or.inl rfl)) (pgs_cons (pg_name (i := 15) sc_law.nd rfl (Or.inl rfl)) pgs_nil))))
  (pss_cons (ps_set (i := 8) sc_law.nd rfl (Or.inl rfl) (pe_op op_add (pv 8) (pv 15)))
  (pss_cons (ps_set (i := 16) sc_law.nd rfl (Or.inl rfl) (C8.pe_c c__law_ask hr (by decide) rfl (pa_cons (pv 5) (pa_cons (pv 13) pa_nil))))
  (pss_cons (ps_if (PW.pt (pw_or (pt_cmpR op_ne (pv 16) (pv 14) (nomark _)) (pw_or (pt_val (pe_callB (k_isi K) (by rfl) T.n_isinstance (by decide +kernel) (pa_cons (pv 16) (pa_cons (pe_bltn (v := .ty "bool") (by rfl) T.n_bool (by decide +kernel) rfl) pa_nil)))) (pw_or1 (pt_cmpR op_ne (C8.pe_mt0 m_Posts_turned hr (by decide) (pv 5)) (pv 8) (nomark _)))))) (pss_one (ps_ret pe_bl)) pss_nil)
  (pss_cons (ps_set (i := 17) sc_law.nd rfl (Or.inl rfl) (C8.pe_mt0 m_Posts_all_signs hr (by decide) (pv 5)))
  (pss_cons (ps_if (PW.pt (pw_or (pt_not (pt_val (pe_callB (k_isi K) (by rfl) T.n_isinstance (by decide +kernel) (pa_cons (pv 17) (pa_cons (pe_bltn (v := .ty "list") (by rfl) T.n_list (by decide +kernel) rfl) pa_nil))))) (pw_or1 (pt_cmpR (k_neD K hr.units) (pv 17) (pv 7) (nomark _))))) (pss_one (ps_ret pe_bl)) pss_nil)
  (pss_cons (ps_expr (pe_bm PySem.F.plainAttrs_list PySem.F.slot_list_append PySem.F.type_list_append mt_append (pv 17) (pa_cons pe_int pa_nil)))
  (pss_cons (ps_set (i := 13) sc_law.nd rfl (Or.inl rfl) (C8.pe_c c__law_deed hr (by decide) rfl (pa_cons (pe_op op_fdiv (pv 12) pe_int) (pa_cons (pv 3) pa_nil))))
  (pss_cons (ps_asg (C8.pe_c c__law_due hr (by decide) rfl (pa_cons (pv 3) (pa_cons (pv 9) (pa_cons (pv 13) pa_nil)))) (k_gt K (n := 2) (by rfl) (pgs_cons (pg_name (i := 14) sc_law.nd rfl (Or.inl rfl)) (pgs_cons (pg_name (i := 15) sc_law.nd rfl (Or.inl rfl)) pgs_nil))))
  (pss_cons (ps_set (i := 10) sc_law.nd rfl (Or.inl rfl) (pe_op op_add (pv 10) (pv 15)))
  (pss_cons (ps_if (PW.pt (pw_or (pt_cmpR op_ne (C8.pe_c c__law_ask hr (by decide) rfl (pa_cons (pv 6) (pa_cons (pv 13) pa_nil))) (pv 14) (nomark _)) (pw_or (pt_cmpR (k_neD K hr.units) (C8.pe_mt0 m_Posts_all_signs hr (by decide) (pv 6)) (pv 9) (nomark _)) (pw_or1 (pt_cmpR op_ne (C8.pe_mt0 m_Posts_turned hr (by decide) (pv 6)) (pv 10) (nomark _)))))) (pss_one (ps_ret pe_bl)) pss_nil)
  (pss_one (ps_if (PW.pt (pw_or (pt_cmpR (k_neD K hr.units) (C8.pe_mt0 m_Posts_all_signs hr (by decide) (pv 5)) (pv 7) (nomark _)) (pw_or1 (pt_cmpR op_ne (C8.pe_mt0 m_Posts_turned hr (by decide) (pv 5)) (pv 8) (nomark _))))) (pss_one (ps_ret pe_bl)) pss_nil))))))))))))))))
  (pss_cons (ps_set (i := 5) sc_law.nd rfl (Or.inl rfl) (C8.pe_mk m_Posts hr (by decide) rfl (pa_cons (pe_tup (pa_cons pe_int (pa_cons pe_int (pa_cons (pe_lst (pa_cons (pe_tup (pa_cons pe_int (pa_cons pe_int pa_nil))) (pa_cons (pe_tup (pa_cons pe_int (pa_cons pe_int pa_nil))) (pa_cons (pe_tup (pa_cons pe_int (pa_cons pe_int pa_nil))) pa_nil)))) pa_nil)))) pa_nil)))
  (pss_cons (ps_set (i := 18) sc_law.nd rfl (Or.inl rfl) (pe_lst (pa_cons (C8.pe_mt m_Posts_turn hr (by decide) (pv 5) (pa_cons pe_int (pa_cons pe_int pa_nil))) (pa_cons (C8.pe_mt m_Posts_turn hr (by decide) (pv 5) (pa_cons pe_int (pa_cons pe_int pa_nil))) (pa_cons (C8.pe_mt m_Posts_turn hr (by decide) (pv 5) (pa_cons pe_int (pa_cons pe_int pa_nil))) (pa_cons (C8.pe_mt m_Posts_turn hr (by decide) (pv 5) (pa_cons pe_int (pa_cons pe_int pa_nil))) (pa_cons (C8.pe_mt m_Posts_lose hr (by decide) (pv 5) (pa_cons pe_int pa_nil)) (pa_cons (C8.pe_mt0 m_Posts_turned hr (by decide) (pv 5)) pa_nil))))))))
  (pss_one (ps_ret (pe_and (pe_cmpR (k_eqD K hr.units) (pv 18) (pe_lst (pa_cons pe_int (pa_cons pe_int (pa_cons pe_int (pa_cons pe_int (pa_cons pe_int (pa_cons pe_int pa_nil))))))) (nomark _)) (pe_and (pe_cmpR (k_eqD K hr.units) (C8.pe_mt0 m_Posts_all_signs hr (by decide) (pv 5)) (pe_lst (pa_cons pe_non (pa_cons pe_non (pa_cons pe_int pa_nil)))) (nomark _)) (pe_one (pe_cmpR op_eq (C8.pe_mt m_Posts_turn hr (by decide) (pv 5) (pa_cons pe_int (pa_cons pe_int pa_nil))) pe_int (nomark _))))))))))))))))), ?_⟩
    have hT : LamX.Tabs (tabsL ad) H := fun p hp => by
      rcases List.mem_cons.mp hp with rfl | hp
      · exact .nil t1
      · obtain rfl := List.mem_singleton.mp hp
        exact .nil t2
    refine q_whenR (tf_pr hT) fun H1 x1 => ?_
    have hS1 := ext_l x1 hS
    refine q_par2 (eap_l (el_sl (K := K) (ev_var rfl) eo_none (eo_some ev_c) hS1) (eap_p (evp_whole rfl hS1 hns) (fun v H1 H2 e z => z) eap_nil)) fun vs H2 a2 ⟨ca, r1, e1, ca0, hca, v2, r2, e2, ⟨W, W0, e4⟩, e3⟩ => ?_
    subst e4 e3 e2 e1
    refine ⟨_, _, rfl, ?_⟩
    have hcut : cutV (ns.map V.int) none (some ((24 : Nat) : Int)) = (ns.take 24).map V.int := by rw [cut_to, List.map_take]
    have hca' : H2 ca = some (.lst ((ns.take 24).map V.int)) := by rw [hca]; exact congrArg (fun z => some (HO.lst z)) hcut
    have cl : (ns.take 24).length ≤ 24 := List.length_take_le 24 ns
    generalize ns.take 24 = cs at hca' cl
    -- the land
    refine q_asgP (Post := fun v H3 => ∃ lt r n h rs, ∃ ks : List (Addr × List Int), v = .ref lt ∧ H3 lt = some (.tup [.int n, .int h, .ref r]) ∧ H3 r = some (.lst (ks.map fun p => V.ref p.1)) ∧ (∀ p ∈ ks, H3 p.1 = some (.tup (p.2.map V.int))) ∧ ks.map (·.2) = rs.map (fun q => [q.1, q.2]) ∧ LandOk n h rs)
      (fun H3 e3 Q q => (evp_call (Post := fun v H' => ∃ n h all s, Made H2 H' v 40 n h all s) (ea_cons (ev_var rfl) (ea_cons ev_c (ea_cons ev_c ea_nil))) fun H4 e Q q E => ⟨sa, ns, 0, 40, rfl, ex_l (a2.trans e) hS1, hns, by decide, by decide, by decide, by decide, fun v H5 e5 ⟨n, h, all, s, M⟩ => q v H5 e5 ⟨n, h, all, s, M.back e⟩⟩) H3 e3 _ fun v H4 e4 ⟨n, h, all, s, M⟩ => by
        obtain ⟨⟨t, lt, r, sg, ks, m1, m2, m3, m4, m5, m6, m7, m8, m9, m10, m11⟩, m12, m13, m14, m15, m16, m17⟩ := M
        subst m1
        exact ⟨t, _, 0, .ref lt, rfl, rfl, st_of m2, rfl, q _ H4 e4 ⟨lt, r, n, h, all.take 120, ks, rfl, m3, m4, m5, m6, m12⟩⟩) fun v H3 a3 ⟨lt, r, n, h, rs, ks, e1, m3, m4, m5, m6, ok⟩ => ?_
    subst e1
    have L := ok.all
    have n1 := L.n1
    have n40 := L.n40
    have hL : LandAt K H3 (.ref lt) n h rs := ⟨lt, r, rfl, st_of m3, ks, sq_of m4, fun p hp => st_of (m5 p hp), m6⟩
    have landE : ∀ {σ : L2.St} {H4 : Hp}, σ[3]? = some (some (.ref lt)) → Ex H3 H4 → Ev (tOp (rIxT K) (tVar 3) (tC (.int 0))) σ H4 (.int n) := fun h3 e => ev_op (ev_var h3) ev_c (rv_ixT (st_of (e _ _ m3)) (atI_nat (j := 0) rfl))
    refine q_asgL (el_list (K := K) (ev_op (ev_var rfl) ev_c (rv_ixT (st_of m3) (atI_nat (j := 2) rfl))) (sq_of m4)) fun ro H4 ro0 a4 hro => ?_
    -- two posts
    refine q_par2 (eap_pp (evp_postsP (ad := ad) (n := n) (h := h) (rs := rs) (evp_u (eu_tup (ea_cons (landE rfl a4) (ea_cons (ev_op (ev_var rfl) ev_c (rv_ixT (st_of (a4 _ _ m3)) (atI_nat (j := 1) rfl))) (ea_cons (ev_var (v := .ref ro) rfl) ea_nil))) (by show 3 ≤ 100000; decide)) fun b H5 hb e5 h5 => ⟨b, ro, rfl, st_of h5, ks, sq_of (e5 _ _ hro), fun p hp => st_of ((a4.trans e5) _ _ (m5 p hp)), m6⟩) ok)
      fun H5 e5 => evp_posts (ad := ad) (ev_var rfl) (hL.mono (a4.trans e5)) ok) fun vs H5 a5 ⟨pv, qv, Hm, e1, em, PM, em', PM'⟩ => ⟨_, _, e1, ?_⟩
    obtain ⟨x, la, rl, sl, e2, px0, pl0, pr0, ps0, nrs, P1⟩ := PM
    obtain ⟨x', la', rl', sl', e3, qx0, ql0, qr0, qs0, nrs', Q1⟩ := PM'
    subst e2 e3
    obtain ⟨dx, ob⟩ := P1.ob
    obtain ⟨kx, k1, _, _⟩ := P1.rl
    have P2 := P1.mono em'
    refine q_clear (K := K) (a5 _ _ hro) (ev_var rfl) fun H6 a6 => ?_
    have nro : ∀ {c : Addr}, H4 c = none → ro ≠ c := fun z => ne_of_none hro z
    have nro' : ∀ {c : Addr}, Hm c = none → ro ≠ c := fun z => ne_of_none (em _ _ hro) z
    have P3 : PostsAt K (upd H6 ro (.lst [])) ad.Posts x la rl sl n h rs (List.replicate n.toNat none) 0 := (P2.mono a6).keepL ((a5.trans a6) _ _ hro) (nro pr0) (nro ps0) fun b o hb hz => by rw [upd_ne hb]; exact hz
    have Q3 : PostsAt K (upd H6 ro (.lst [])) ad.Posts x' la' rl' sl' n h rs (List.replicate n.toNat none) 0 := (Q1.mono a6).keepL ((a5.trans a6) _ _ hro) (nro' qr0) (nro' qs0) fun b o hb hz => by rw [upd_ne hb]; exact hz
    have ex6 : Ex H3 (upd H6 ro (.lst [])) := Ex.mut ((a4.trans a5).trans a6) ro0
    generalize upd H6 ro (.lst []) = H7 at P3 Q3 ex6
    have en : (n.toNat : Int) = n := by omega
    refine q_unp4 (K := K) (evp_tup (eap_two (el_rep (n := n.toNat) (v := .non) (ev_is (landE rfl ex6) (by rw [en])) (by omega)) ev_c (el_rep (n := n.toNat) (v := .non) (ev_is (landE rfl ex6) (by rw [en])) (by omega)) ev_c) (fun vs Ha Hb e ⟨p, q, z1, z2, z3, z4, z5, z6⟩ => ⟨p, q, z1, z2, z3, z4, e _ _ z5, e _ _ z6⟩) fun vs Ha ⟨p, q, z1, _⟩ => by rw [z1]; show 4 ≤ 100000; decide) fun v H8 a8 ⟨tt, vs, e1, ht, sg, bs, e2, sg0, bs0, nsb, hsg, hbs⟩ => ?_
    subst e2
    refine ⟨tt, _, _, _, _, e1, st_of ht, ?_⟩
    have rep : (List.replicate n.toNat V.non) = (List.replicate n.toNat (none : Option Nat)).map nV := by rw [List.map_replicate]; rfl
    rw [rep] at hsg hbs
    obtain ⟨dx', ob'⟩ := Q1.ob
    obtain ⟨kx', k1', _, _⟩ := Q1.rl
    obtain ⟨kx3, k3, _, _⟩ := P3.rl
    obtain ⟨kx3', k3', _, _⟩ := Q3.rl
    have d6 : D6 H3 x la rl sl sg x' la' rl' sl' bs := ⟨fresh_back a4 px0, fresh_back a4 ps0, fresh_back ex6 sg0, fresh_back (a4.trans em) qx0, fresh_back (a4.trans em) qs0, fresh_back ex6 bs0,
      ne_of_none ob qx0, nrs, nrs', ne_of_none P1.sl qr0, ne_of_none P1.sl qs0, (ne_of_none k1 qs0).symm, (ne_of_none k3 sg0).symm, (ne_of_none P3.sl sg0).symm, (ne_of_none k3' sg0).symm, (ne_of_none Q3.sl sg0).symm, (ne_of_none k3 bs0).symm, (ne_of_none P3.sl bs0).symm, (ne_of_none k3' bs0).symm, (ne_of_none Q3.sl bs0).symm, nsb⟩
    have w0 : W6 K ad H3 H8 x la rl sl sg x' la' rl' sl' bs n h rs (List.replicate n.toNat none) (List.replicate n.toNat none) 0 (List.replicate n.toNat none) (List.replicate n.toNat none) 0 := ⟨ex6.trans a8, P3.mono a8, hsg, Q3.mono a8, hbs⟩
    have hca3 := a3 _ _ hca'
    have lenE : ∀ {σ : L2.St} {H' : Hp}, σ[1]? = some (some (.ref ca)) → Ex H3 H' → Ev (tCB (rLenS K) (tCons (tVar 1) tNil)) σ H' (.int (cs.length : Int)) := fun h1 e => by
      have q := ev_len (K := K) (ta := tVar 1) (ev_var h1) (sq_of (e _ _ hca3))
      rwa [List.length_map] at q
    refine q_forR (n := 2 * (cs.length : Int)) (ea_cons (ev_op ev_c (lenE rfl w0.ex) (rv_I (C := CMulW) (wide_mul (a := 3) (b := 10) (by decide) (nab (by omega) (by omega)) (by decide) (by decide) (by decide)))) ea_nil) (by omega)
      (fun i σ' H' => ∃ (s s2 : List (Option Nat)) (t t2 : Int) (x11 x12 x13 x14 x15 x16 x17 : Option V), W6 K ad H3 H' x la rl sl sg x' la' rl' sl' bs n h rs s s t s2 s2 t2 ∧ PSigns n h rs s ∧ PSigns n h rs s2 ∧
        σ' = [some (.ref sa), some (.ref ca), some (.int W), some (.ref lt), some (.ref ro), some (.ref x), some (.ref x'), some (.ref sg), some (.int t), some (.ref bs), some (.int t2), x11, x12, x13, x14, x15, x16, x17, none])
      (fun H9 a9 => ⟨_, _, 0, 0, _, _, _, _, _, _, _, w0.mono a9, (bare_signs n h).any, (bare_signs n h).any, rfl⟩) ?_ ?_
    · rintro i σ' H9 hi ⟨s, s2, t, t2, x11, x12, x13, x14, x15, x16, x17, w9, ps, ps2, rfl⟩
      -- the number
      obtain ⟨j, hj⟩ : ∃ j : Nat, (i : Int) / 2 = (j : Int) := ⟨((i : Int) / 2).toNat, by omega⟩
      have hget := List.getElem?_eq_getElem (show j < cs.length by omega)
      generalize cs[j] = cv at hget
      refine q_asgP (evp_num (K := K) (ea_cons (ev_op (ev_op (ev_var rfl) (ev_op (ev_var rfl) ev_c (rv_I (C := CDiv) ⟨by decide, by decide⟩)) (rv_ixL (sq_of (w9.ex _ _ hca3)) (at_of (j := j) hj (by rw [List.getElem?_map, hget]; rfl)))) (ev_op (ev_var rfl) ev_c (rv_I (C := fun _ j => 0 < j) (by decide))) rv_I0) (ea_cons (ev_var rfl) (ea_cons (ev_var rfl) ea_nil))) (by omega) (by omega)) fun v H10 a10 ⟨N, N0, e1⟩ => ?_
      subst e1
      have w10 := w9.mono a10
      -- the first deed
      refine q_asgP (evp_call (Post := fun v H' => ∃ (dt : Addr) (d : Deed), v = .ref dt ∧ DeedAt H' dt d) (ea_cons (ev_var rfl) (ea_cons (ev_var rfl) ea_nil)) fun H11 e Q q E => ⟨N, _, n, h, rs, rfl, N0, hL.mono (w10.ex.trans e), L, fun v H12 e12 ⟨dt, d, z1, _, z3⟩ => q v H12 e12 ⟨dt, d, z1, z3⟩⟩) fun v H11 a11 ⟨dt, d, e1, hd⟩ => ?_
      subst e1
      refine q_due d6 (w10.mono a11) L ps hL hd rfl rfl rfl fun H12 w12 hd12 => ?_
      refine q_asg (v := .int (t + stepM n h rs s d)) (ev_op (ev_var rfl) (ev_var rfl) rv_I0) fun H13 a13 => ?_
      refine q_asgTM (tm_ask d6 (w12.mono a13) L ps (hd12.mono a13) rfl rfl) fun H14 w14 => ?_
      have ps14 : PSigns n h rs (stepS n h rs s d) := ps.step L
      generalize stepS n h rs s d = s' at w14 ps14
      generalize t + stepM n h rs s d = t' at w14
      generalize stepO n h rs s d = o at w14
      refine q_when (b := false) (et_is (et_or (a := false) (b := false) (et_test (ev_is (ev_op (ev_var rfl) (ev_var rfl) (rv_ne rfl)) (by rw [decide_eq_true rfl]; rfl))) fun _ => et_or (a := false) (b := false) (et_B (ev_isi (d := .int _) (ev_var rfl) (.int _) (kit_bool _))) fun _ => et_test (ev_is (ev_op (ev_turned (ev_var rfl) w14.p) (ev_var rfl) (rv_ne rfl)) (by rw [decide_eq_true rfl]; rfl))) rfl) (fun z => nomatch z) fun _ H15 a15 => ?_
      have w15 := w14.mono a15
      refine q_asgL (el_signs (ev_var rfl) w15.p) fun fo H16 fo0 a16 hfo => ?_
      have w16 := w15.mono a16
      refine q_when (b := false) (et_is (et_or (a := false) (b := false) (et_is (et_not (et_B (isi_listT (ev_var rfl) (fun H2 e => ty_list (sq_of (e _ _ hfo))) (show kitB "list" "list" = some true by decide +kernel)))) rfl) fun _ => et_test (ev_op (ev_var rfl) (ev_var rfl) (ne_signs (sq_of hfo) (sq_of w16.g)))) rfl) (fun z => nomatch z) fun _ H17 a17 => ?_
      have s40 : s'.length ≤ 40 := by have := ps14.wf.len; omega
      refine q_app (K := K) (l := fo) (xs := s'.map nV) (v := .int 0) (a17 _ _ hfo) (ev_var rfl) ev_c (by rw [List.length_map]; omega) fun H18 a18 => ?_
      have w19 := w15.mono (Ex.mut (o := .lst (s'.map nV ++ [.int 0])) ((a16.trans a17).trans a18) fo0)
      generalize upd H18 fo (.lst (s'.map nV ++ [.int 0])) = H19 at w19
      -- the second deed
      refine q_asgP (evp_call (Post := fun v H' => ∃ (dt : Addr) (d : Deed), v = .ref dt ∧ DeedAt H' dt d) (ea_cons (ev_op (ev_var rfl) ev_c (rv_I (C := CDiv) ⟨by decide, by decide⟩)) (ea_cons (ev_var rfl) ea_nil)) fun H11 e Q q E => ⟨N / 7, _, n, h, rs, rfl, by omega, hL.mono (w19.ex.trans e), L, fun v H12 e12 ⟨dt, d, z1, _, z3⟩ => q v H12 e12 ⟨dt, d, z1, z3⟩⟩) fun v H20 a20 ⟨dt2, d2, e1, hd2⟩ => ?_
      subst e1
      refine q_due d6.swap (w19.mono a20).swap L ps2 hL hd2 rfl rfl rfl fun H21 w21 hd21 => ?_
      refine q_asg (v := .int (t2 + stepM n h rs s2 d2)) (ev_op (ev_var rfl) (ev_var rfl) rv_I0) fun H22 a22 => ?_
      have ps22 : PSigns n h rs (stepS n h rs s2 d2) := ps2.step L
      have ask2 := tm_ask (σ := [some (.ref sa), some (.ref ca), some (.int W), some (.ref lt), some (.ref ro), some (.ref x), some (.ref x'), some (.ref sg), some (.int t'), some (.ref bs), some (.int (t2 + stepM n h rs s2 d2)), some (.int (i : Int)), some (.int N), some (.ref dt2), some (.int (stepO n h rs s2 d2)), some (.int (stepM n h rs s2 d2)), some (.int o), some (.ref fo), none]) (i := 6) (j := 13) d6.swap (w21.mono a22) L ps2 (hd21.mono a22) rfl rfl
      generalize stepS n h rs s2 d2 = s2' at ask2 ps22
      generalize t2 + stepM n h rs s2 d2 = t2' at ask2
      generalize stepO n h rs s2 d2 = o2 at ask2
      generalize stepM n h rs s2 d2 = m2 at ask2
      refine q_whenR (R := fun H' => W6 K ad H3 H' x' la' rl' sl' bs x la rl sl sg n h rs s2' s2' t2' s' s' t') (tf_or (tf_neVar ask2 rfl) fun H23 w23 => tf_or (tf_pure (R := fun H' => W6 K ad H3 H' x' la' rl' sl' bs x la rl sl sg n h rs s2' s2' t2' s' s' t') (et_test (ev_opL1 (el_signs (ev_var rfl) w23.p) (fun _ _ => ev_var rfl) fun p H24 hp e => ne_signs (sq_of hp) (sq_of (e _ _ w23.g)))) fun H' e => w23.mono e) fun H24 w24 => tf_pure (et_test (ev_is (ev_op (ev_turned (ev_var rfl) w24.p) (ev_var rfl) (rv_ne rfl)) (by rw [decide_eq_true rfl]; rfl))) fun H' e => w24.mono e) fun H25 w25' => ?_
      have w25 := w25'.swap
      refine s_whenR (R := fun H' => W6 K ad H3 H' x la rl sl sg x' la' rl' sl' bs n h rs s' s' t' s2' s2' t2') (tf_or (tf_pure (R := fun H' => W6 K ad H3 H' x la rl sl sg x' la' rl' sl' bs n h rs s' s' t' s2' s2' t2') (et_test (ev_opL1 (el_signs (ev_var rfl) w25.p) (fun _ _ => ev_var rfl) fun p H24 hp e => ne_signs (sq_of hp) (sq_of (e _ _ w25.g)))) fun H' e => w25.mono e) fun H26 w26 => tf_pure (et_test (ev_is (ev_op (ev_turned (ev_var rfl) w26.p) (ev_var rfl) (rv_ne rfl)) (by rw [decide_eq_true rfl]; rfl))) fun H' e => w26.mono e) fun H27 w27 => ⟨s', s2', t', t2', _, _, _, _, _, _, _, w27, ps14, ps22, rfl⟩
    · rintro σ' H9 ⟨s, s2, t, t2, x11, x12, x13, x14, x15, x16, x17, w9, ps, ps2, rfl⟩
      have L3 := land3_ok.all
      refine q_asgP (evp_postsP (ad := ad) (n := 3) (h := 0) (rs := land3) (evp_land (erd_cons (erd_cons (erd_cons erd_nil))) (by decide)) land3_ok) fun v H10 a10 M => ?_
      obtain ⟨y, ya, yr, ys, e1, p1⟩ := M.pp (Tb := []) a10 L3 (fun p hp => nomatch hp)
      subst e1
      have m10 : (((1 : Nat) : Int), ((0 : Nat) : Int)) ∈ land3 := by decide
      have m12 : (((1 : Nat) : Int), ((2 : Nat) : Int)) ∈ land3 := by decide
      have m21 : (((2 : Nat) : Int), ((1 : Nat) : Int)) ∈ land3 := by decide
      have shown : TMA (tCons (tMeth ad.Posts "turn" (sp_Posts_turn K ad.Posts) [] C8.E0 (tVar 5) (tCons (tC (.int 2)) (tCons (tC (.int 1)) tNil))) (tCons (tMeth ad.Posts "turn" (sp_Posts_turn K ad.Posts) [] C8.E0 (tVar 5) (tCons (tC (.int 1)) (tCons (tC (.int 2)) tNil))) (tCons (tMeth ad.Posts "turn" (sp_Posts_turn K ad.Posts) [] C8.E0 (tVar 5) (tCons (tC (.int 1)) (tCons (tC (.int 0)) tNil))) (tCons (tMeth ad.Posts "turn" (sp_Posts_turn K ad.Posts) [] C8.E0 (tVar 5) (tCons (tC (.int 1)) (tCons (tC (.int 0)) tNil))) (tCons (tMeth ad.Posts "lose" (sp_Posts_lose K ad.Posts) [] C8.E0 (tVar 5) (tCons (tC (.int 1)) tNil)) (tCons (tMeth ad.Posts "turned" (sp_Posts_turned ad.Posts) [] C8.E0 (tVar 5) tNil) tNil))))))
          [some (.ref sa), some (.ref ca), some (.int W), some (.ref lt), some (.ref ro), some (.ref y), some (.ref x'), some (.ref sg), some (.int t), some (.ref bs), some (.int t2), x11, x12, x13, x14, x15, x16, x17, none] H10 (fun H' => PP K ad [] H9 H' y ya yr ys 3 0 land3 [none, none, some 1] 3) ([1, 1, 3, 3, 0, 3].map natV) :=
        tma_cons (tm_turnC p1 rfl 2 1 1 [none, none, some 1] 1 (by decide) (by decide) m21) fun Ha p1 => tma_cons (tm_turnC p1 rfl 1 2 1 [none, some 2, some 1] 2 (by decide) (by decide) m12) fun Hb p1 => tma_cons (tm_turnC p1 rfl 1 0 3 [none, some 0, some 1] 3 (by decide) (by decide) m10) fun Hc p1 => tma_cons (tm_turnC p1 rfl 1 0 3 [none, some 0, some 1] 3 (by decide) (by decide) m10) fun Hd p1 => tma_cons (tm_loseC p1 rfl 1 0 [none, none, some 1] (by decide) (by decide)) fun He p1 => tma_cons (tm_turned p1 rfl) fun Hf p1 => tma_nil p1
      refine q_asgLst (l := [1, 1, 3, 3, 0, 3]) shown (fun _ _ e p => p.mono e) (by decide) fun sh H12 p12 hsh2 => ?_
      refine s_retX (and_R (ev_opL (ev_var (v := .ref sh) rfl) (el_lst (vs := [1, 1, 3, 3, 0, 3].map natV) (ea_cons ev_c (ea_cons ev_c (ea_cons ev_c (ea_cons ev_c (ea_cons ev_c (ea_cons ev_c ea_nil)))))) (by decide)) fun p H13 hp e => eq_natsT (sq_of (e _ _ hsh2)) (sq_of hp)) fun H13 e13 => ?_)
      have p13 := p12.mono e13
      refine and_R (ev_opLL (z := .bl true) (el_signs (ev_var rfl) p13.at_) (el_lst (vs := [none, none, some 1].map nV) (ea_cons ev_c (ea_cons ev_c (ea_cons ev_c ea_nil))) (by decide)) fun p q H hp hq e => eq_signs (sq_of hp) (sq_of hq)) fun H14 e14 => ?_
      exact eq_R (tm_turnC (p13.mono e14) rfl 1 0 3 [none, some 0, some 1] 4 (by decide) (by decide) m10) rfl fun H15 _ => k H15
theorem law_at (T : Txt K mg ad) {fa : Addr} (hfa : mg "law" = some (.ref fa)) : ∃ fd : FuncData, (∀ (s : Shared) (u : Value), BindsTo s fd ⟨[u], []⟩ [("_law_script", u)]) ∧ ∀ base : Heap, LamX.TabB base mg ad.c__law_posts_promises ad.p__law_posts_promises → LamX.TabB base mg ad.c__law_promises_right ad.p__law_promises_right → FnOk P w K mg base C8.CX0 12 fa fd ["_law_script"] (spLaw6 K ad) := by
  obtain ⟨f, fd, D, df⟩ := T.d_law.ex
  have e := D.mgf.symm.trans hfa
  cases e
  refine ⟨fd, fun s u => ?_, fun base t1 t2 => fn_law T t2 t1 D⟩
  obtain ⟨oc, od, dV, kV, doc, pm, an, cdv, ct, osl, rfl, lk, hcd⟩ := D.fn.ex
  have e : dV = .none := df
  subst e
  exact .of_eq rfl
theorem walk {l : PySem.W.OpenLaw} {q : Program} {loose : List Str} {XP : (Str → Option Value) → Heap → Prop} {YP : World → Heap → Prop} {d : DefRec} {K : Params → PySem.W.Frag} (hn : l.most = some 63) (hdf : d.params.defaults = [])
    (hY : ∀ (w : World) (h : Heap), YP w h → (K w.params).In h)
    (F : ∀ (w : World) (mg : Str → Option Value) (fa : Addr) (h : Heap), YP w h → (K w.params).In h → h.Ns mainGlobals mg → mg d.name = some (.ref fa) → LamX.LawAtS l w (K w.params) C8.CX0 12 63 "_law_script" mg fa h) :
    PySem.W.WalkO q loose XP YP l.row.toRowW d [] (fun f vs => PySem.call f vs) :=
  LamX.walk_ofTs (n := 63) (k := 12) (x := "_law_script") (CX := fun _ => C8.CX0) hn (by decide) hdf ⟨rfl, by decide, by decide⟩ hY F fun _ _ _ _ _ z => z

end
end Sg
namespace Sg
set_option autoImplicit false
open PySem L2 Evl Big
open PyProof.Rows (envOfC)
theorem kit_same {K : PySem.W.Frag} {C : Addr} : PySem.W.kitOne K (.ref C) (.ref C) = some true := if_pos (beq_self_eq_true _)
theorem kit_other {K : PySem.W.Frag} {C D : Addr} {cd} {b : Bool} (hn : (Value.ref C == Value.ref D) = false) (h1 : PySem.W.clsIn K D = some cd) (h2 : PySem.W.typeIn K (.ref D) = some (.type "type")) (h3 : PySem.W.subIn K (.ref C) (.ref D) = some b) : PySem.W.kitOne K (.ref C) (.ref D) = some b := by
  unfold PySem.W.kitOne
  rw [hn, if_neg (by decide)]
  show (if ((PySem.W.clsIn K D).isSome && PySem.W.typeIn K (.ref D) == some (.type "type")) = true then _ else _) = _
  rw [h1, h2, if_pos (by rfl), h3]
theorem law_ads {l : PySem.W.OpenLaw} {w : World} {K : PySem.W.Frag} {mg : Str → Option Value} {h : Heap} {a_Posts a_Answer a_Home a_Round a_Stands a_Turned a_Shut a_SignError a_BadLand a_BadSigns a_BadPlace a_BadRoad a_AtHome a_NoSign a_c__law_posts_promises a_p__law_posts_promises a_c__law_promises_right a_p__law_promises_right : Addr} (_ : mg "Posts" = some (.ref a_Posts)) (_ : mg "Answer" = some (.ref a_Answer)) (_ : mg "Home" = some (.ref a_Home)) (_ : mg "Round" = some (.ref a_Round)) (_ : mg "Stands" = some (.ref a_Stands)) (_ : mg "Turned" = some (.ref a_Turned)) (_ : mg "Shut" = some (.ref a_Shut)) (_ : mg "SignError" = some (.ref a_SignError)) (_ : mg "BadLand" = some (.ref a_BadLand)) (_ : mg "BadSigns" = some (.ref a_BadSigns)) (_ : mg "BadPlace" = some (.ref a_BadPlace)) (_ : mg "BadRoad" = some (.ref a_BadRoad)) (_ : mg "AtHome" = some (.ref a_AtHome)) (_ : mg "NoSign" = some (.ref a_NoSign)) (_ : DefL K mg "_law_posts_promises" st__law_posts_promises a_c__law_posts_promises) (_ : DefL K mg "_law_promises_right" st__law_promises_right a_c__law_promises_right) (T : Txt K mg ⟨a_Posts, a_Answer, a_Home, a_Round, a_Stands, a_Turned, a_Shut, a_SignError, a_BadLand, a_BadSigns, a_BadPlace, a_BadRoad, a_AtHome, a_NoSign, a_c__law_posts_promises, a_p__law_posts_promises, a_c__law_promises_right, a_p__law_promises_right⟩) (e0 : h.get? a_p__law_posts_promises = some { cls := .none, data := .fields #[] }) (k0 : K.lookup a_p__law_posts_promises = none) (d0 : PySem.W.CodeHd h a_c__law_posts_promises a_p__law_posts_promises) (e1 : h.get? a_p__law_promises_right = some { cls := .none, data := .fields #[] }) (k1 : K.lookup a_p__law_promises_right = none) (d1 : PySem.W.CodeHd h a_c__law_promises_right a_p__law_promises_right) {fa : Addr} (hfa : mg "law" = some (.ref fa)) : LamX.LawAtS l w K C8.CX0 12 63 "_law_script" mg fa h := by
  obtain ⟨fd, hb, hF⟩ := law_at (P := l.prog) (w := w) T hfa
  refine ⟨fd, [(a_c__law_posts_promises, a_p__law_posts_promises), (a_c__law_promises_right, a_p__law_promises_right)], spLaw6 K _, (List.forall_mem_cons.mpr ⟨e0, List.forall_mem_cons.mpr ⟨e1, (fun _ z => nomatch z)⟩⟩), (List.forall_mem_cons.mpr ⟨k0, List.forall_mem_cons.mpr ⟨k1, (fun _ z => nomatch z)⟩⟩), (List.forall_mem_cons.mpr ⟨d0, List.forall_mem_cons.mpr ⟨d1, (fun _ z => nomatch z)⟩⟩), hb, fun H a ns hl _ hT hS => ⟨a, ns, rfl, hS, hl, hT _ (List.mem_cons_self), hT _ (List.mem_cons_of_mem _ (List.mem_cons_self)), fun _ => rfl⟩, fun base _ _ TB => hF base (TB _ (List.mem_cons_self)) (TB _ (List.mem_cons_of_mem _ (List.mem_cons_self)))⟩
end Sg
open PySem PySem.W PyProof.Rows in
theorem PySem.Challenge.cw_signposts_k06_whole_posts_holds : PySem.Challenge.rw_signposts_k06_whole_posts.Holds := by
  w_on; o_law; k_head; (case hw => w_witness2)
  k_fill
  refine Sg.walk (l := PySem.Challenge.rw_signposts_k06_whole_posts) rfl rfl (fun w h Y => PySem.W.km_in_of Y) ?F
  case F =>
    intro w mg fa h Y KX G hmg
    have hT8 := PySem.W.km_tabs_of Y
    have q0 := (List.forall_mem_cons.mp hT8).1
    have q1 := (List.forall_mem_cons.mp (List.forall_mem_cons.mp hT8).2).1
    have hg_Posts : mg ("Posts" : PySem.Str) = some (.ref _) := PySem.W.mg_of KX G (by k_is)
    have hg_Answer : mg ("Answer" : PySem.Str) = some (.ref _) := PySem.W.mg_of KX G (by k_is)
    have hg_Home : mg ("Home" : PySem.Str) = some (.ref _) := PySem.W.mg_of KX G (by k_is)
    have hg_Round : mg ("Round" : PySem.Str) = some (.ref _) := PySem.W.mg_of KX G (by k_is)
    have hg_Stands : mg ("Stands" : PySem.Str) = some (.ref _) := PySem.W.mg_of KX G (by k_is)
    have hg_Turned : mg ("Turned" : PySem.Str) = some (.ref _) := PySem.W.mg_of KX G (by k_is)
    have hg_Shut : mg ("Shut" : PySem.Str) = some (.ref _) := PySem.W.mg_of KX G (by k_is)
    have hg_SignError : mg ("SignError" : PySem.Str) = some (.ref _) := PySem.W.mg_of KX G (by k_is)
    have hg_BadLand : mg ("BadLand" : PySem.Str) = some (.ref _) := PySem.W.mg_of KX G (by k_is)
    have hg_BadSigns : mg ("BadSigns" : PySem.Str) = some (.ref _) := PySem.W.mg_of KX G (by k_is)
    have hg_BadPlace : mg ("BadPlace" : PySem.Str) = some (.ref _) := PySem.W.mg_of KX G (by k_is)
    have hg_BadRoad : mg ("BadRoad" : PySem.Str) = some (.ref _) := PySem.W.mg_of KX G (by k_is)
    have hg_AtHome : mg ("AtHome" : PySem.Str) = some (.ref _) := PySem.W.mg_of KX G (by k_is)
    have hg_NoSign : mg ("NoSign" : PySem.Str) = some (.ref _) := PySem.W.mg_of KX G (by k_is)
    have hl__law_posts_promises : Sg.DefL _ mg ("_law_posts_promises" : PySem.Str) Sg.st__law_posts_promises _ := Sg.defL_in KX (PySem.W.mg_of KX G (by k_is)) (by k_is) (by k_is) (by k_is)
    have hl__law_promises_right : Sg.DefL _ mg ("_law_promises_right" : PySem.Str) Sg.st__law_promises_right _ := Sg.defL_in KX (PySem.W.mg_of KX G (by k_is)) (by k_is) (by k_is) (by k_is)
    first | refine Sg.law_ads hg_Posts hg_Answer hg_Home hg_Round hg_Stands hg_Turned hg_Shut hg_SignError hg_BadLand hg_BadSigns hg_BadPlace hg_BadRoad hg_AtHome hg_NoSign hl__law_posts_promises hl__law_promises_right ?T q0 (by kernel_rfl) (PySem.W.codeHd_of_K KX (by kernel_rfl)) q1 (by kernel_rfl) (PySem.W.codeHd_of_K KX (by kernel_rfl)) hmg | refine Sg.law_ads hg_Posts hg_Answer hg_Home hg_Round hg_Stands hg_Turned hg_Shut hg_SignError hg_BadLand hg_BadSigns hg_BadPlace hg_BadRoad hg_AtHome hg_NoSign hl__law_posts_promises hl__law_promises_right ?T q1 (by kernel_rfl) (PySem.W.codeHd_of_K KX (by kernel_rfl)) q0 (by kernel_rfl) (PySem.W.codeHd_of_K KX (by kernel_rfl)) hmg
    case T =>
      refine ⟨?_, ?_, ?_, ?_, ?_, ?_, ?_, ?_, ?_, ?_, ?_, ?_, ?_, ?_, ?_, ?_, ?_, ?_, ?_, ?_, ?_, ?_, ?_, ?_, ?_, ?_, ?_, ?_, ?_, ?_, ?_, ?_, ?_, ?_, ?_, ?_, ?_, ?_, ?_, ?_, ?_, ?_, ?_, ?_, ?_, ?_, ?_, ?_, ?_, ?_, ?_, ?_, ?_, ?_, ?_, ?_, ?_, ?_, ?_, ?_, ?_, ?_, ?_, ?_, ?_, ?_, ?_, ?_, ?_, ?_, ?_, ?_, ?_, ?_, ?_, ?_, ?_, ?_, ?_, ?_, ?_, ?_, ?_, ?_, ?_, ?_, ?_, ?_, ?_, ?_, ?_, ?_, ?_, ?_, ?_, ?_, ?_, ?_, ?_, ?_, ?_, ?_, ?_, ?_, ?_, ?_, ?_, ?_, ?_, ?_, ?_, ?_, ?_, ?_, ?_, ?_, ?_, ?_, ?_, ?_, ?_, ?_, ?_, ?_, ?_, ?_, ?_, ?_, ?_, ?_, ?_, ?_, ?_, ?_, ?_, ?_, ?_, ?_, ?_, ?_, ?_, ?_, ?_, ?_, ?_, ?_, ?_, ?_, ?_, ?_, ?_⟩
      · try dsimp only
        exact PySem.W.mg_none_of KX G (by k_is)
      · try dsimp only
        exact PySem.W.mg_none_of KX G (by k_is)
      · try dsimp only
        exact PySem.W.mg_none_of KX G (by k_is)
      · try dsimp only
        exact PySem.W.mg_none_of KX G (by k_is)
      · try dsimp only
        exact PySem.W.mg_none_of KX G (by k_is)
      · try dsimp only
        exact PySem.W.mg_of KX G (by k_is)
      · try dsimp only
        exact PySem.W.mg_of KX G (by k_is)
      · try dsimp only
        exact PySem.W.mg_of KX G (by k_is)
      · try dsimp only
        exact PySem.W.mg_none_of KX G (by k_is)
      · try dsimp only
        exact PySem.W.mg_none_of KX G (by k_is)
      · try dsimp only
        exact PySem.W.mg_none_of KX G (by k_is)
      · try dsimp only
        exact PySem.W.mg_none_of KX G (by k_is)
      · try dsimp only
        exact PySem.W.mg_none_of KX G (by k_is)
      · try dsimp only
        exact PySem.W.mg_none_of KX G (by k_is)
      · try dsimp only
        exact PySem.W.mg_none_of KX G (by k_is)
      · try dsimp only
        exact PySem.W.mg_none_of KX G (by k_is)
      · try dsimp only
        exact PySem.W.mg_none_of KX G (by k_is)
      · try dsimp only
        exact PySem.W.mg_none_of KX G (by k_is)
      · try dsimp only
        exact ⟨_, PySem.W.mg_of KX G (by k_is), ⟨_, rfl⟩⟩
      · try dsimp only
        exact ⟨_, PySem.W.mg_of KX G (by k_is), ⟨_, rfl⟩⟩
      · try dsimp only
        exact hg_Posts
      · try dsimp only
        exact hg_Answer
      · try dsimp only
        exact hg_Home
      · try dsimp only
        exact hg_Round
      · try dsimp only
        exact hg_Stands
      · try dsimp only
        exact hg_Turned
      · try dsimp only
        exact hg_Shut
      · try dsimp only
        exact ⟨by k_is, by k_is, by k_is, by k_is⟩
      · try dsimp only
        exact (show PySem.W.findIn _ _ _ = _ by k_is)
      · try dsimp only
        exact (show PySem.W.findIn _ _ _ = _ by k_is)
      · try dsimp only
        exact (show PySem.W.findIn _ _ _ = _ by k_is)
      · try dsimp only
        exact Sg.makeOk_mk hg_Posts (by k_is) (by k_is) (by k_is) (by k_is) (by k_is) (by k_is)
      · try dsimp only
        exact Sg.methOk_mk (by k_is) (by k_is) (by k_is) (by k_is) (by k_is)
      · try dsimp only
        exact Sg.methOk_mk (by k_is) (by k_is) (by k_is) (by k_is) (by k_is)
      · try dsimp only
        exact Sg.methOk_mk (by k_is) (by k_is) (by k_is) (by k_is) (by k_is)
      · try dsimp only
        exact Sg.methOk_mk (by k_is) (by k_is) (by k_is) (by k_is) (by k_is)
      · try dsimp only
        exact ⟨by k_is, by k_is, by k_is, by k_is⟩
      · try dsimp only
        exact Sg.kit_other (by decide) (by k_is) (by k_is) (by k_is)
      · try dsimp only
        exact Sg.kit_other (by decide) (by k_is) (by k_is) (by k_is)
      · try dsimp only
        exact ⟨by k_is, by k_is, by k_is, by k_is⟩
      · try dsimp only
        exact (show PySem.W.findIn _ _ _ = _ by k_is)
      · try dsimp only
        exact Sg.makeOk_mk hg_Home (by k_is) (by k_is) (by k_is) (by k_is) (by k_is) (by k_is)
      · try dsimp only
        exact Sg.methOk_mk (by k_is) (by k_is) (by k_is) (by k_is) (by k_is)
      · try dsimp only
        exact ⟨by k_is, by k_is, by k_is, by k_is⟩
      · try dsimp only
        exact Sg.kit_other (by decide) (by k_is) (by k_is) (by k_is)
      · try dsimp only
        exact Sg.kit_other (by decide) (by k_is) (by k_is) (by k_is)
      · try dsimp only
        exact ⟨by k_is, by k_is, by k_is, by k_is⟩
      · try dsimp only
        exact (show PySem.W.findIn _ _ _ = _ by k_is)
      · try dsimp only
        exact Sg.makeOk_mk hg_Round (by k_is) (by k_is) (by k_is) (by k_is) (by k_is) (by k_is)
      · try dsimp only
        exact Sg.methOk_mk (by k_is) (by k_is) (by k_is) (by k_is) (by k_is)
      · try dsimp only
        exact ⟨by k_is, by k_is, by k_is, by k_is⟩
      · try dsimp only
        exact Sg.kit_other (by decide) (by k_is) (by k_is) (by k_is)
      · try dsimp only
        exact Sg.kit_other (by decide) (by k_is) (by k_is) (by k_is)
      · try dsimp only
        exact ⟨by k_is, by k_is, by k_is, by k_is⟩
      · try dsimp only
        exact (show PySem.W.findIn _ _ _ = _ by k_is)
      · try dsimp only
        exact Sg.makeOk_mk hg_Stands (by k_is) (by k_is) (by k_is) (by k_is) (by k_is) (by k_is)
      · try dsimp only
        exact Sg.methOk_mk (by k_is) (by k_is) (by k_is) (by k_is) (by k_is)
      · try dsimp only
        exact ⟨by k_is, by k_is, by k_is, by k_is⟩
      · try dsimp only
        exact Sg.kit_other (by decide) (by k_is) (by k_is) (by k_is)
      · try dsimp only
        exact Sg.kit_other (by decide) (by k_is) (by k_is) (by k_is)
      · try dsimp only
        exact ⟨by k_is, by k_is, by k_is, by k_is⟩
      · try dsimp only
        exact (show PySem.W.findIn _ _ _ = _ by k_is)
      · try dsimp only
        exact (show PySem.W.findIn _ _ _ = _ by k_is)
      · try dsimp only
        exact Sg.makeOk_mk hg_Turned (by k_is) (by k_is) (by k_is) (by k_is) (by k_is) (by k_is)
      · try dsimp only
        exact Sg.methOk_mk (by k_is) (by k_is) (by k_is) (by k_is) (by k_is)
      · try dsimp only
        exact ⟨by k_is, by k_is, by k_is, by k_is⟩
      · try dsimp only
        exact Sg.kit_other (by decide) (by k_is) (by k_is) (by k_is)
      · try dsimp only
        exact Sg.kit_same
      · try dsimp only
        exact ⟨by k_is, by k_is, by k_is, by k_is⟩
      · try dsimp only
        exact (show PySem.W.findIn _ _ _ = _ by k_is)
      · try dsimp only
        exact Sg.makeOk_mk hg_Shut (by k_is) (by k_is) (by k_is) (by k_is) (by k_is) (by k_is)
      · try dsimp only
        exact Sg.methOk_mk (by k_is) (by k_is) (by k_is) (by k_is) (by k_is)
      · try dsimp only
        exact ⟨by k_is, by k_is, by k_is, by k_is⟩
      · try dsimp only
        exact Sg.kit_same
      · try dsimp only
        exact Sg.kit_other (by decide) (by k_is) (by k_is) (by k_is)
      · try dsimp only
        exact ⟨hg_SignError, by k_exc, by k_is, by k_is, by k_is, ⟨by k_is, by k_is, by k_is, by k_is, by k_is, by k_is, by k_is, by k_is⟩⟩
      · try dsimp only
        exact Sg.kit_other (by decide) (by k_is) (by k_is) (by k_is)
      · try dsimp only
        exact Sg.kit_other (by decide) (by k_is) (by k_is) (by k_is)
      · try dsimp only
        exact Sg.kit_other (by decide) (by k_is) (by k_is) (by k_is)
      · try dsimp only
        exact ⟨hg_BadLand, by k_exc, by k_is, by k_is, by k_is, ⟨by k_is, by k_is, by k_is, by k_is, by k_is, by k_is, by k_is, by k_is⟩⟩
      · try dsimp only
        exact PySem.W.exm_ref (by k_is) (by k_is) (by k_is) (by k_is)
      · try dsimp only
        exact Sg.kit_other (by decide) (by k_is) (by k_is) (by k_is)
      · try dsimp only
        exact Sg.kit_other (by decide) (by k_is) (by k_is) (by k_is)
      · try dsimp only
        exact Sg.kit_other (by decide) (by k_is) (by k_is) (by k_is)
      · try dsimp only
        exact ⟨hg_BadSigns, by k_exc, by k_is, by k_is, by k_is, ⟨by k_is, by k_is, by k_is, by k_is, by k_is, by k_is, by k_is, by k_is⟩⟩
      · try dsimp only
        exact PySem.W.exm_ref (by k_is) (by k_is) (by k_is) (by k_is)
      · try dsimp only
        exact Sg.kit_other (by decide) (by k_is) (by k_is) (by k_is)
      · try dsimp only
        exact Sg.kit_other (by decide) (by k_is) (by k_is) (by k_is)
      · try dsimp only
        exact Sg.kit_other (by decide) (by k_is) (by k_is) (by k_is)
      · try dsimp only
        exact ⟨hg_BadPlace, by k_exc, by k_is, by k_is, by k_is, ⟨by k_is, by k_is, by k_is, by k_is, by k_is, by k_is, by k_is, by k_is⟩⟩
      · try dsimp only
        exact PySem.W.exm_ref (by k_is) (by k_is) (by k_is) (by k_is)
      · try dsimp only
        exact Sg.kit_other (by decide) (by k_is) (by k_is) (by k_is)
      · try dsimp only
        exact Sg.kit_other (by decide) (by k_is) (by k_is) (by k_is)
      · try dsimp only
        exact Sg.kit_other (by decide) (by k_is) (by k_is) (by k_is)
      · try dsimp only
        exact ⟨hg_BadRoad, by k_exc, by k_is, by k_is, by k_is, ⟨by k_is, by k_is, by k_is, by k_is, by k_is, by k_is, by k_is, by k_is⟩⟩
      · try dsimp only
        exact PySem.W.exm_ref (by k_is) (by k_is) (by k_is) (by k_is)
      · try dsimp only
        exact Sg.kit_other (by decide) (by k_is) (by k_is) (by k_is)
      · try dsimp only
        exact Sg.kit_same
      · try dsimp only
        exact Sg.kit_other (by decide) (by k_is) (by k_is) (by k_is)
      · try dsimp only
        exact ⟨hg_AtHome, by k_exc, by k_is, by k_is, by k_is, ⟨by k_is, by k_is, by k_is, by k_is, by k_is, by k_is, by k_is, by k_is⟩⟩
      · try dsimp only
        exact PySem.W.exm_ref (by k_is) (by k_is) (by k_is) (by k_is)
      · try dsimp only
        exact Sg.kit_same
      · try dsimp only
        exact Sg.kit_other (by decide) (by k_is) (by k_is) (by k_is)
      · try dsimp only
        exact Sg.kit_other (by decide) (by k_is) (by k_is) (by k_is)
      · try dsimp only
        exact ⟨hg_NoSign, by k_exc, by k_is, by k_is, by k_is, ⟨by k_is, by k_is, by k_is, by k_is, by k_is, by k_is, by k_is, by k_is⟩⟩
      · try dsimp only
        exact PySem.W.exm_ref (by k_is) (by k_is) (by k_is) (by k_is)
      · try dsimp only
        exact Sg.kit_other (by decide) (by k_is) (by k_is) (by k_is)
      · try dsimp only
        exact Sg.kit_other (by decide) (by k_is) (by k_is) (by k_is)
      · try dsimp only
        exact Sg.kit_same
      · try dsimp only
        exact Sg.defOk_mk (PySem.W.mg_of KX G (by k_is)) (by k_is) (by k_is) (by k_is)
      · try dsimp only
        exact Sg.defOk_mk (PySem.W.mg_of KX G (by k_is)) (by k_is) (by k_is) (by k_is)
      · try dsimp only
        exact Sg.defOk_mk (PySem.W.mg_of KX G (by k_is)) (by k_is) (by k_is) (by k_is)
      · try dsimp only
        exact Sg.defOk_mk (PySem.W.mg_of KX G (by k_is)) (by k_is) (by k_is) (by k_is)
      · try dsimp only
        exact Sg.defOk_mk (PySem.W.mg_of KX G (by k_is)) (by k_is) (by k_is) (by k_is)
      · try dsimp only
        exact Sg.defOk_mk (PySem.W.mg_of KX G (by k_is)) (by k_is) (by k_is) (by k_is)
      · try dsimp only
        exact Sg.defOk_mk (PySem.W.mg_of KX G (by k_is)) (by k_is) (by k_is) (by k_is)
      · try dsimp only
        exact Sg.defOk_mk (PySem.W.mg_of KX G (by k_is)) (by k_is) (by k_is) (by k_is)
      · try dsimp only
        exact Sg.defOk_mk (PySem.W.mg_of KX G (by k_is)) (by k_is) (by k_is) (by k_is)
      · try dsimp only
        exact Sg.defOk_mk (PySem.W.mg_of KX G (by k_is)) (by k_is) (by k_is) (by k_is)
      · try dsimp only
        exact Sg.defOk_mk (PySem.W.mg_of KX G (by k_is)) (by k_is) (by k_is) (by k_is)
      · try dsimp only
        exact Sg.defOk_mk (PySem.W.mg_of KX G (by k_is)) (by k_is) (by k_is) (by k_is)
      · try dsimp only
        exact Sg.defOk_mk (PySem.W.mg_of KX G (by k_is)) (by k_is) (by k_is) (by k_is)
      · try dsimp only
        exact Sg.defOk_mk (PySem.W.mg_of KX G (by k_is)) (by k_is) (by k_is) (by k_is)
      · try dsimp only
        exact Sg.defOk_mk (PySem.W.mg_of KX G (by k_is)) (by k_is) (by k_is) (by k_is)
      · try dsimp only
        exact Sg.defOk_mk (PySem.W.mg_of KX G (by k_is)) (by k_is) (by k_is) (by k_is)
      · try dsimp only
        exact Sg.defOk_mk (PySem.W.mg_of KX G (by k_is)) (by k_is) (by k_is) (by k_is)
      · try dsimp only
        exact Sg.defOk_mk (PySem.W.mg_of KX G (by k_is)) (by k_is) (by k_is) (by k_is)
      · try dsimp only
        exact Sg.defOk_mk (PySem.W.mg_of KX G (by k_is)) (by k_is) (by k_is) (by k_is)
      · try dsimp only
        exact Sg.defOk_mk (PySem.W.mg_of KX G (by k_is)) (by k_is) (by k_is) (by k_is)
      · try dsimp only
        exact Sg.defOk_mk (PySem.W.mg_of KX G (by k_is)) (by k_is) (by k_is) (by k_is)
      · try dsimp only
        exact Sg.defOk_mk (PySem.W.mg_of KX G (by k_is)) (by k_is) (by k_is) (by k_is)
      · try dsimp only
        exact Sg.defOk_mk (PySem.W.mg_of KX G (by k_is)) (by k_is) (by k_is) (by k_is)
      · try dsimp only
        exact Sg.defOk_mk (PySem.W.mg_of KX G (by k_is)) (by k_is) (by k_is) (by k_is)
      · try dsimp only
        exact Sg.defOk_mk (PySem.W.mg_of KX G (by k_is)) (by k_is) (by k_is) (by k_is)
      · try dsimp only
        exact Sg.defOk_mk (PySem.W.mg_of KX G (by k_is)) (by k_is) (by k_is) (by k_is)
      · try dsimp only
        exact Sg.defOk_mk (PySem.W.mg_of KX G (by k_is)) (by k_is) (by k_is) (by k_is)
      · try dsimp only
        exact Sg.defOk_mk (PySem.W.mg_of KX G (by k_is)) (by k_is) (by k_is) (by k_is)
      · try dsimp only
        exact Sg.defOk_mk (PySem.W.mg_of KX G (by k_is)) (by k_is) (by k_is) (by k_is)
      · try dsimp only
        exact Sg.defOk_mk (PySem.W.mg_of KX G (by k_is)) (by k_is) (by k_is) (by k_is)
      · try dsimp only
        exact Sg.defOk_mk (PySem.W.mg_of KX G (by k_is)) (by k_is) (by k_is) (by k_is)
      · try dsimp only
        exact Sg.defOk_mk (PySem.W.mg_of KX G (by k_is)) (by k_is) (by k_is) (by k_is)
      · try dsimp only
        exact Sg.defOk_mk (PySem.W.mg_of KX G (by k_is)) (by k_is) (by k_is) (by k_is)
      · try dsimp only
        exact Sg.defOk_mk (PySem.W.mg_of KX G (by k_is)) (by k_is) (by k_is) (by k_is)
      · try dsimp only
        exact Sg.defOk_mk (PySem.W.mg_of KX G (by k_is)) (by k_is) (by k_is) (by k_is)
      · try dsimp only
        exact Sg.defOk_mk (PySem.W.mg_of KX G (by k_is)) (by k_is) (by k_is) (by k_is)
      · try dsimp only
        exact Sg.defOk_mk (PySem.W.mg_of KX G (by k_is)) (by k_is) (by k_is) (by k_is)
      · try dsimp only
        exact Sg.defOk_mk (PySem.W.mg_of KX G (by k_is)) (by k_is) (by k_is) (by k_is)
      · try dsimp only
        exact Sg.defOk_mk (PySem.W.mg_of KX G (by k_is)) (by k_is) (by k_is) (by k_is)
      · try dsimp only
        exact hl__law_posts_promises
      · try dsimp only
        exact hl__law_promises_right
      · try dsimp only
        decide
#print axioms PySem.Challenge.cw_signposts_k06_whole_posts_holds
