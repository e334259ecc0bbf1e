/- FEEDING THE READER. No Go. -/
import Derived.Test.YtmpfgdmdnghhgaaInv2
namespace Wr

def feed : Rd → List UInt8 → Rd
  | s, [] => s
  | s, c :: l => if s.part = 11 ∨ s.trailing = true then s else feed (take s c.toNat) l

/-- between two bytes -/
def Rest (s : Rd) : Prop := Inv s ∧ (10 ≤ s.part ∨ s.have_ ≤ 11)

theorem take_rest {s : Rd} (h : Rest s) (c : Int) (c0 : 0 ≤ c) (c1 : c ≤ 255) (_hp : s.part ≠ 11) : Rest (take s c) ∧ psi (take s c) ≤ psi s + 4096 := by
  obtain ⟨hi, h11⟩ := h
  unfold take
  by_cases e10 : s.part = 10
  · rw [if_pos e10]
    refine ⟨⟨⟨hi.1.of rfl rfl rfl rfl rfl rfl ⟨hi.1.l0, hi.1.l1⟩, part_end (by right; right; right; left; exact e10)⟩, Or.inl (by show 10 ≤ s.part; omega)⟩, ?_⟩
    show psi s ≤ _
    omega
  · rw [if_neg e10]
    have pr := part_range hi.2
    have hm := more8_inv hi c c0 c1
    obtain ⟨i1, i2, i3⟩ := drive_inv (mu (more8 s c) + 1) (more8 s c) (by omega) hm
    refine ⟨⟨i1, ?_⟩, ?_⟩
    · by_cases h9 : (drive (more8 s c)).part ≤ 9
      · exact Or.inr (step_none i1 h9 i2)
      · exact Or.inl (by omega)
    · have e : psi (more8 s c) = psi s + 4096 := by
        show (s.out.length : Int) + s.left + 512 * (s.have_ + 8) = s.out.length + s.left + 512 * s.have_ + 4096
        omega
      omega

theorem feed_stop {s : Rd} (h : s.part = 11 ∨ s.trailing = true) : ∀ l, feed s l = s
  | [] => rfl
  | c :: l => by unfold feed; rw [if_pos h]
theorem feed_go {s : Rd} (h : ¬ (s.part = 11 ∨ s.trailing = true)) (c : UInt8) (l : List UInt8) : feed s (c :: l) = feed (take s c.toNat) l := by
  conv => lhs; unfold feed
  rw [if_neg h]

def outStr (l : List Int) : ByteArray := l.foldl (fun r n => r.push (UInt8.ofNat n.toNat)) ByteArray.empty

def initRd : Rd :=
  { hold := 0, have_ := 0, part := 0, last := false, kind := 0, left := 0, msize := 0, mwidth := 0, mstep := 0, mwanted := 0, mat := 0, mrepeat := 0,
    mlen := fun _ => 0, mcnt := fun _ => 0, msym := fun _ => 0, lcnt := fun _ => 0, lsym := fun _ => 0, dcnt := fun _ => 0, dsym := fun _ => 0,
    least := 0, more := 0, length := 0, near := fun j => if j < 4 then (j : Int) + 1 else 0, ring := fun _ => 0, at_ := 0, window := 0, reach := 0, trailing := false, out := [] }

theorem init_rest : Rest initRd := by
  refine ⟨⟨⟨by decide, by decide, by decide, by decide, by decide, by decide, by decide, by decide, ?_, by decide, by decide⟩, part_end (Or.inl ⟨rfl, rfl⟩)⟩, Or.inr (by decide)⟩
  intro i hi
  show 1 ≤ (if i < 4 then (i : Int) + 1 else 0) ∧ (if i < 4 then (i : Int) + 1 else 0) ≤ 4095
  rw [if_pos hi]
  omega

def errno (s : Rd) : Int := if s.part = 11 then 2 else if s.part ≠ 10 then 1 else if s.trailing then 3 else 0

end Wr
