import Derived.Test.YtmpfgdmdnghhgaaW12
namespace Go.Proofs.Ytmpfgdmdnghhgaa
open Go.RowKit Wr

theorem findGo_range (cnt sym : Nat → Int) (hold have_ : Int) (h : 0 ≤ have_) : ∀ (f len : Nat) (bits first ahead : Int), 0 ≤ (findGo cnt sym hold have_ f len bits first ahead).2 ∧ (findGo cnt sym hold have_ f len bits first ahead).2 ≤ have_ + 1
  | 0, len, bits, first, ahead => ⟨by show 0 ≤ have_ + 1; omega, Int.le_refl _⟩
  | f + 1, len, bits, first, ahead => by
    unfold findGo
    split
    · rename_i hl
      split
      · exact ⟨by show (0 : Int) ≤ (len : Int); omega, by show (len : Int) ≤ have_ + 1; omega⟩
      · exact findGo_range cnt sym hold have_ h f _ _ _ _
    · exact ⟨by show 0 ≤ have_ + 1; omega, Int.le_refl _⟩
theorem find_range (cnt sym : Nat → Int) (hold have_ : Int) (h : 0 ≤ have_) : 0 ≤ (find cnt sym hold have_).2 ∧ (find cnt sym hold have_).2 ≤ have_ + 1 := findGo_range cnt sym hold have_ h _ _ _ _ _

section
variable {w : World} {B b : Nat} {s : Rd} {v : Value}

set_option maxHeartbeats 1000000 in
theorem next_letters (hr : Row w b s v) (h : PB s) (hp : s.part = 6) (hc : ∀ i : Nat, i < 13 → 0 ≤ s.lcnt i ∧ s.lcnt i ≤ 300) :
    Calls Try.prog 59 #[.pointer (some ⟨b, 0, none⟩)] w fun e w' =>
      e = .returned (.tuple #[.int .i64 (if s.have_ < (peek s).2 then 0 else (peek s).1), .bool (!decide (s.have_ < (peek s).2))]) ∧
      Row w' b (if s.have_ < (peek s).2 then s else drop s (peek s).2) v ∧ On b w w' := by
  have HP : Hid (peek s = find s.lcnt s.lsym s.hold s.have_) := by simp [Hid, peek, hp]
  have hF := fun (W : World) (hW : Row W b s v) => Find_any W b 569 s.lcnt s.lsym s.hold s.have_ (fun i hi => hW.c_lcnt i hi) (fun i hi => hW.c_lsym i hi) hc h.b0 h.b1 h.n0 h.n1
  have hfr := find_range s.lcnt s.lsym s.hold s.have_ h.n0
  rw [HP.out]
  clear HP
  obtain ⟨h1, h2, h3, h4⟩ : 0 ≤ s.hold ∧ s.hold < 1099511627776 ∧ 0 ≤ s.have_ ∧ s.have_ ≤ 40 := ⟨h.b0, h.b1, h.n0, h.n1⟩
  generalize find s.lcnt s.lsym s.hold s.have_ = r at *
  obtain ⟨r1, r2⟩ := r
  simp only at hF hfr ⊢
  have c0 := hr.c_hold
  have c1 := hr.c_have_
  have c2 := hr.c_part
  have hfz := hr.free
  rw [hp] at c2
  clear hc hp h
  by_cases hlt : s.have_ < r2
  · have hd : decide (s.have_ < r2) = true := by simpa using hlt
    rw [if_pos hlt, if_pos hlt, hd]
    clear hd
    go_enter Try.func59, Try.ntmps59
    go_wp2
    go_quiet ((go_at_call 67; exact Calls.quiet_of_same (hF _ (hr.drewN _))))
    go_wp2
    go_ret2
    exact ⟨rfl, hr.drewN _, (On.refl b w).drewN _⟩
  · have hd : decide (s.have_ < r2) = false := by simpa using hlt
    rw [if_neg hlt, if_neg hlt, hd]
    clear hd
    go_enter Try.func59, Try.ntmps59
    go_wp2
    go_quiet ((go_at_call 67; exact Calls.quiet_of_same (hF _ (hr.drewN _))))
    go_wp2
    go_ret2
    exact ⟨rfl, ((hr.drewN _).hold _).have_ _, (((On.refl b w).drewN _).set _ _).set _ _⟩

set_option maxHeartbeats 1000000 in
theorem next_distances (hr : Row w b s v) (h : PB s) (hp : s.part = 8) (hc : ∀ i : Nat, i < 13 → 0 ≤ s.dcnt i ∧ s.dcnt i ≤ 300) :
    Calls Try.prog 59 #[.pointer (some ⟨b, 0, none⟩)] w fun e w' =>
      e = .returned (.tuple #[.int .i64 (if s.have_ < (peek s).2 then 0 else (peek s).1), .bool (!decide (s.have_ < (peek s).2))]) ∧
      Row w' b (if s.have_ < (peek s).2 then s else drop s (peek s).2) v ∧ On b w w' := by
  have HP : Hid (peek s = find s.dcnt s.dsym s.hold s.have_) := by simp [Hid, peek, hp]
  have hF := fun (W : World) (hW : Row W b s v) => Find_any W b 854 s.dcnt s.dsym s.hold s.have_ (fun i hi => hW.c_dcnt i hi) (fun i hi => hW.c_dsym i hi) hc h.b0 h.b1 h.n0 h.n1
  have hfr := find_range s.dcnt s.dsym s.hold s.have_ h.n0
  rw [HP.out]
  clear HP
  obtain ⟨h1, h2, h3, h4⟩ : 0 ≤ s.hold ∧ s.hold < 1099511627776 ∧ 0 ≤ s.have_ ∧ s.have_ ≤ 40 := ⟨h.b0, h.b1, h.n0, h.n1⟩
  generalize find s.dcnt s.dsym s.hold s.have_ = r at *
  obtain ⟨r1, r2⟩ := r
  simp only at hF hfr ⊢
  have c0 := hr.c_hold
  have c1 := hr.c_have_
  have c2 := hr.c_part
  have hfz := hr.free
  rw [hp] at c2
  clear hc hp h
  by_cases hlt : s.have_ < r2
  · have hd : decide (s.have_ < r2) = true := by simpa using hlt
    rw [if_pos hlt, if_pos hlt, hd]
    clear hd
    go_enter Try.func59, Try.ntmps59
    go_wp2
    go_quiet ((go_at_call 67; exact Calls.quiet_of_same (hF _ (hr.drewN _))))
    go_wp2
    go_ret2
    exact ⟨rfl, hr.drewN _, (On.refl b w).drewN _⟩
  · have hd : decide (s.have_ < r2) = false := by simpa using hlt
    rw [if_neg hlt, if_neg hlt, hd]
    clear hd
    go_enter Try.func59, Try.ntmps59
    go_wp2
    go_quiet ((go_at_call 67; exact Calls.quiet_of_same (hF _ (hr.drewN _))))
    go_wp2
    go_ret2
    exact ⟨rfl, ((hr.drewN _).hold _).have_ _, (((On.refl b w).drewN _).set _ _).set _ _⟩

set_option maxHeartbeats 1000000 in
theorem next_number (hr : Row w b s v) (h : PB s) (p0 : 0 ≤ s.part) (p9 : s.part ≤ 9) (p6 : s.part ≠ 6) (p8 : s.part ≠ 8) (hms : s.part = 4 ∨ s.part = 5 → 0 ≤ s.mstep ∧ s.mstep ≤ 4) (w0 : 0 ≤ width s) (w12 : width s ≤ 12) :
    Calls Try.prog 59 #[.pointer (some ⟨b, 0, none⟩)] w fun e w' =>
      e = .returned (.tuple #[.int .i64 (if s.have_ < (peek s).2 then 0 else (peek s).1), .bool (!decide (s.have_ < (peek s).2))]) ∧
      Row w' b (if s.have_ < (peek s).2 then s else drop s (peek s).2) v ∧ On b w w' := by
  have HP : Hid (peek s = (s.hold % 2 ^ (width s).toNat, width s)) := by simp [Hid, peek, p6, p8]
  have hW := width_any hr hms p0 p9 p6 p8
  rw [HP.out]
  clear HP
  obtain ⟨h1, h2, h3, h4⟩ : 0 ≤ s.hold ∧ s.hold < 1099511627776 ∧ 0 ≤ s.have_ ∧ s.have_ ≤ 40 := ⟨h.b0, h.b1, h.n0, h.n1⟩
  have hp := pow_lt64 (width s).toNat (by omega)
  have hm := bits_mask s.hold (width s).toNat h1 (by omega) (by omega)
  generalize width s = n at *
  simp only
  have c0 := hr.c_hold
  have c1 := hr.c_have_
  have c2 := hr.c_part
  have hfz := hr.free
  have b6 : (s.part == 6) = false := beq_eq_false_iff_ne.2 p6
  have b8 : (s.part == 8) = false := beq_eq_false_iff_ne.2 p8
  clear p6 p8 h hms
  by_cases hlt : s.have_ < n
  · have hd : decide (s.have_ < n) = true := by simpa using hlt
    rw [if_pos hlt, if_pos hlt, hd]
    clear hd
    go_enter Try.func59, Try.ntmps59
    go_wp2_with (go_at_call 68; refine hW.mono ?_; rintro e w1 ⟨rfl, rfl⟩)
    go_ret2
    exact ⟨rfl, hr, On.refl b _⟩
  · have hd : decide (s.have_ < n) = false := by simpa using hlt
    rw [if_neg hlt, if_neg hlt, hd]
    clear hd
    go_enter Try.func59, Try.ntmps59
    go_wp2_with (go_at_call 68; refine hW.mono ?_; rintro e w1 ⟨rfl, rfl⟩)
    go_ret2
    exact ⟨rfl, (hr.hold _).have_ _, ((On.refl b _).set _ _).set _ _⟩
end
end Go.Proofs.Ytmpfgdmdnghhgaa
