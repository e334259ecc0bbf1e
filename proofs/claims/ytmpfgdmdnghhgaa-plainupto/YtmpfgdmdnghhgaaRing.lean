/- THE RING HOLDS WHAT CAME OUT LAST. No Go. -/
import Derived.Test.YtmpfgdmdnghhgaaBits
namespace Wr

/-- all that came out, as the ring has it -/
structure RingOk (s : Rd) (all : List Int) : Prop where
  at_ : s.at_ = (all.length : Int) % 4096
  ring : ∀ i : Nat, i < all.length → all.length ≤ i + 4096 → s.ring (i % 4096) = all.getD i 0
  reach : s.reach = if (all.length : Int) ≤ s.window then (all.length : Int) else s.window

theorem put_ring {s : Rd} {all : List Int} (h : RingOk s all) (c : Int) (_hw : s.window ≤ 4096) (_hw0 : 0 ≤ s.window) : RingOk (put s c) (all ++ [c]) := by
  have h1 := h.at_
  have h3 := h.reach
  have hl : (all ++ [c]).length = all.length + 1 := by simp
  refine ⟨?_, ?_, ?_⟩
  · show (s.at_ + 1) % 4096 = _
    rw [hl, h1]; omega
  · intro i hi hi2
    rw [hl] at hi hi2
    show upd s.ring s.at_.toNat c (i % 4096) = _
    unfold upd
    by_cases e : i = all.length
    · subst e
      rw [if_pos (by omega)]
      simp [List.getD]
    · rw [if_neg (by omega), h.ring i (by omega) (by omega)]
      simp only [List.getD]
      rw [List.getElem?_append_left (by omega)]
  · show (if s.reach < s.window then s.reach + 1 else s.reach) = if ((all ++ [c]).length : Int) ≤ s.window then ((all ++ [c]).length : Int) else s.window
    rw [hl, h3]
    split <;> split <;> split <;> omega

theorem ago_ring {s : Rd} {all : List Int} (h : RingOk s all) (d : Nat) (h1 : 1 ≤ d) (h2 : (d : Int) ≤ s.reach) (hw : s.window ≤ 4096) : agoP s d = all.getD (all.length - d) 0 := by
  have ha := h.at_
  have hr := h.reach
  have hd : d ≤ all.length ∧ d ≤ 4096 := by
    rw [hr] at h2
    split at h2 <;> omega
  unfold agoP
  have e : ((s.at_ + 4096 - (d : Int)) % 4096).toNat = (all.length - d) % 4096 := by rw [ha]; omega
  rw [e]
  exact h.ring (all.length - d) (by omega) (by omega)

/-- a copy -/
def copyList (d : Nat) : Nat → List Int → List Int
  | 0, l => l
  | n + 1, l => copyList d n (l ++ [l.getD (l.length - d) 0])

theorem copyList_len (d : Nat) : ∀ (n : Nat) (l : List Int), (copyList d n l).length = l.length + n
  | 0, l => rfl
  | n + 1, l => by
    show (copyList d n (l ++ [l.getD (l.length - d) 0])).length = _
    rw [copyList_len d n]
    simp
    omega

theorem copy_ring (d : Nat) (h1 : 1 ≤ d) : ∀ (n : Nat) (s : Rd) (all : List Int), RingOk s all → (d : Int) ≤ s.reach → s.window ≤ 4096 → 0 ≤ s.window →
    RingOk (copyGo n s d) (copyList d n all) ∧ (∀ pre, all = pre ++ s.out → copyList d n all = pre ++ (copyGo n s d).out)
  | 0, s, all, h, _, _, _ => ⟨h, fun _ e => e⟩
  | n + 1, s, all, h, h2, hw, hw0 => by
    have ea := ago_ring h d h1 h2 hw
    have hp := put_ring h (agoP s d) hw hw0
    have hr2 : (d : Int) ≤ (put s (agoP s d)).reach := by
      show (d : Int) ≤ if s.reach < s.window then s.reach + 1 else s.reach
      split <;> omega
    have ih := copy_ring d h1 n (put s (agoP s d)) (all ++ [agoP s d]) hp hr2 hw hw0
    have e1 : copyList d (n + 1) all = copyList d n (all ++ [agoP s d]) := by rw [ea]; rfl
    rw [e1]
    refine ⟨ih.1, fun pre e => ?_⟩
    exact ih.2 pre (by rw [e, List.append_assoc]; rfl)

end Wr
