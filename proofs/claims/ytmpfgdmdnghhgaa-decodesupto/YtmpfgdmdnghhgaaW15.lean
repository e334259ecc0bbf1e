import Derived.Test.YtmpfgdmdnghhgaaW14
import Derived.Test.YtmpfgdmdnghhgaaInv2
namespace Go.Proofs.Ytmpfgdmdnghhgaa
open Go.RowKit Wr

theorem pb_of {s : Rd} (h : Base s) (h5 : s.have_ ≤ 19) : PB s := by
  have h1 := h.b1
  have h2 : (2 : Int) ^ s.have_.toNat ≤ 524288 := pow_mono (show s.have_.toNat ≤ 19 by omega)
  have h3 := h.r1
  have h4 := h.w1
  exact ⟨h.at0, h.at1, h.r0, by omega, h.w1, h.b0, by omega, h.n0, by omega⟩

theorem mok_use {s : Rd} {S W x : Int} (m : MOk s S W) (h5 : S ≤ 272) (h4 : 4 ≤ S) (f3 : s.mstep = 3 → x ≤ 15) (f4 : s.mstep = 4 → x ≤ 63) :
    (0 ≤ s.mstep ∧ s.mstep ≤ 4) ∧ (0 ≤ s.mat ∧ s.mat ≤ s.msize ∧ s.msize ≤ 272) ∧ (s.mstep = 2 → s.mat < s.mwanted ∧ 1 ≤ s.mwanted ∧ s.mwanted ≤ 4) ∧ (s.mstep = 3 → x ≤ 15) ∧
    (s.mstep = 4 → x ≤ 63 ∧ 13 ≤ s.mrepeat ∧ s.mrepeat ≤ 15 ∧ (s.mrepeat = 13 → 1 ≤ s.mat)) := by
  have h1 := m.size
  have h2 := m.at0
  rcases m.step with ⟨e, e1⟩ | ⟨e, e1⟩ | ⟨e, e1, e2, e3, _⟩ | ⟨e, e1, _⟩ | ⟨e, e1, _, e2, e3, e4⟩
  · exact ⟨by omega, by omega, fun _ => by omega, f3, fun _ => by omega⟩
  · exact ⟨by omega, by omega, fun _ => by omega, f3, fun _ => by omega⟩
  · exact ⟨by omega, by omega, fun _ => by omega, f3, fun _ => by omega⟩
  · exact ⟨by omega, by omega, fun _ => by omega, f3, fun _ => by omega⟩
  · exact ⟨by omega, by omega, fun _ => by omega, f3, fun k => ⟨f4 k, e2, e3, e4⟩⟩

theorem step_ok {s : Rd} (h : Inv s) (h19 : s.have_ ≤ 19) (hp : psi s ≤ 8796093022208) : StepOk s := by
  have hI := h
  obtain ⟨hb, hP⟩ := h
  have pr := part_range hP
  have n0 := hb.n0
  have l0 := hb.l0
  have mk : s.part = 4 ∨ s.part = 5 → ∃ S W, MOk s S W ∧ S ≤ 272 ∧ 4 ≤ S := by
    intro e
    rcases hP with hc | ⟨hl, hc⟩
    · omega
    · rcases hc with e' | ⟨e', m⟩ | ⟨e', m, _⟩ | ⟨cl, cd, hc⟩
      · omega
      · exact ⟨272, 9, m, by omega, by omega⟩
      · exact ⟨16, 4, m, by omega, by omega⟩
      · omega
  have cds : s.part = 6 ∨ s.part = 7 ∨ s.part = 8 ∨ s.part = 9 → Cod s.lcnt s.lsym 272 ∧ Cod s.dcnt s.dsym 16 ∧ (s.part = 7 → 3 ≤ s.least ∧ s.least ≤ 265) ∧ (s.part = 8 → 3 ≤ s.length) ∧ (s.part = 9 → 3 ≤ s.length ∧ 0 ≤ s.more ∧ s.more ≤ 11 ∧ s.least = 2 ^ s.more.toNat) := by
    intro e
    rcases hP with hc | ⟨hl, hc⟩
    · omega
    · rcases hc with e' | ⟨e', m⟩ | ⟨e', m, _⟩ | ⟨cl, cd, e' | ⟨e', k1, k2, k3, k4⟩ | ⟨e', k1, k2⟩ | ⟨e', k1, k2, k3, k4, k5⟩⟩
      · omega
      · omega
      · omega
      · exact ⟨cl, cd, fun _ => by omega, fun _ => by omega, fun _ => by omega⟩
      · exact ⟨cl, cd, fun _ => by omega, fun _ => by omega, fun _ => by omega⟩
      · exact ⟨cl, cd, fun _ => by omega, fun _ => by omega, fun _ => by omega⟩
      · exact ⟨cl, cd, fun _ => by omega, fun _ => by omega, fun _ => ⟨k1, k3, k4, k5⟩⟩
  refine ⟨pb_of hb h19, pr.1, pr.2, fun e => ?_, fun h9 h6 h8 => width_bounds hI h9 h6 h8, fun e i _ => ?_, fun e i _ => ?_, fun h9 hn => ?_⟩
  · obtain ⟨S, W, m, h1, h2⟩ := mk e
    exact (mok_use (x := 0) m h1 h2 (fun _ => by omega) (fun _ => by omega)).1
  · have c := (cds (by omega)).1
    have := c.lo i; have := c.hi i; omega
  · have c := (cds (by omega)).2.1
    have := c.lo i; have := c.hi i; omega
  · have pf := peek_facts hI h9 hn
    generalize (peek s).1 = x at *
    generalize (peek s).2 = n at *
    have hd := drop_Base hb n pf.n0 pf.nh
    have ho : (s.out.length : Int) ≤ 8796093022208 := by unfold psi at hp; omega
    refine ⟨pb_of hd (by have := pf.n0; show s.have_ - n ≤ 19; omega), pf.x0, pf.x1, pr.1, h9, hd.l0, hd.l1, by show s.out.length ≤ _; omega, fun e => (pf.f3 e).1, fun e => ?_, fun e => pf.f6 e, fun e => ?_, fun e => ?_, fun e => ?_⟩
    · obtain ⟨S, W, m, h1, h2⟩ := mk e
      have f4 := pf.f4 e
      have := mok_use (s := s) (x := x) m h1 h2 f4.2.1 f4.2.2
      exact this
    · have := (cds (Or.inr (Or.inl e))).2.2.1 e
      show 0 ≤ s.least ∧ s.least ≤ 4096
      omega
    · have := (cds (Or.inr (Or.inr (Or.inl e)))).2.2.2.1 e
      exact ⟨pf.f8 e, fun i hi => by have := (hb.near i hi).1; show 0 ≤ s.near i; omega, by show 0 ≤ s.length; omega⟩
    · have := (cds (Or.inr (Or.inr (Or.inr e)))).2.2.2.2 e
      have p1 := pow_pos2 s.more.toNat
      have p2 := pow_bound s.more.toNat (by omega)
      show 0 ≤ s.least ∧ s.least ≤ 4096 ∧ 0 ≤ s.length
      omega

section
variable {w : World} {B b : Nat} {s : Rd}

set_option maxHeartbeats 1000000 in
theorem take_any (hR : Rep w B b s) (c : Int) (h : Inv s) (h11 : s.part = 10 ∨ s.have_ ≤ 11) (hp : psi s ≤ 4398046511104) (c0 : 0 ≤ c) (c1 : c ≤ 255) :
    Calls Try.prog 38 #[.pointer (some ⟨b, 0, none⟩), .int .u8 c] w fun e w' => e = .returned (.tuple #[]) ∧ Rep w' B b (Wr.take s c) ∧ Fr B b w w' := by
  obtain ⟨hbB, hB, v, hr, hown⟩ := hR
  have d0 := hr.c_hold
  have d1 := hr.c_have_
  have d2 := hr.c_part
  have d3 := hr.c_trailing
  have hfz := hr.free
  by_cases e10 : s.part = 10
  · have HE : Hid (Wr.take s c = { s with trailing := true }) := by rw [Hid, Wr.take, if_pos e10]
    rw [e10] at d2
    clear e10 h11 h
    go_enter Try.func38, Try.ntmps38
    go_wp2
    refine bodyPost_ret (results_none rfl _ _ _) rfl ?_
    rw [HE.out]
    exact ⟨rfl, Rep.next hbB hB hown (hr.trailing true) ((On.refl b w).set _ _) rfl⟩
  · have HE : Hid (Wr.take s c = drive (more8 s c)) := by rw [Hid, Wr.take, if_neg e10]
    have b10 : (s.part == 10) = false := beq_eq_false_iff_ne.2 e10
    have hn : s.have_ ≤ 11 := by omega
    have hI := more8_inv h c c0 c1
    have h19 : (more8 s c).have_ ≤ 19 := by show s.have_ + 8 ≤ 19; omega
    have hps : psi (more8 s c) ≤ 8796093022208 := by
      have e : psi (more8 s c) = s.out.length + s.left + 512 * (s.have_ + 8) := rfl
      unfold psi at hp
      omega
    have n0 := h.1.n0
    have q0 := h.1.b0
    have q1 := h.1.b1
    have q2 : (2 : Int) ^ s.have_.toNat ≤ 2048 := pow_mono (show s.have_.toNat ≤ 11 by omega)
    have q3 := pow_pos2 s.have_.toNat
    have m0 : 0 ≤ c * 2 ^ s.have_.toNat := Int.mul_nonneg c0 (by omega)
    have m1 : c * 2 ^ s.have_.toNat ≤ 255 * 2 ^ s.have_.toNat := Int.mul_le_mul_of_nonneg_right c1 (by omega)
    clear e10 h11 h hp
    go_enter Try.func38, Try.ntmps38
    go_wp2
    go_region
    go_wp2
    go_loopg [] (mu (more8 s c)) (fun g wr => ∃ t, mu t ≤ g ∧ t.have_ ≤ 19 ∧ Inv t ∧ psi t ≤ 8796093022208 ∧ Hid (drive t = drive (more8 s c)) ∧ Rep wr B b t ∧ Fr B b w wr)
    case atStart =>
      refine ⟨more8 s c, Nat.le_refl _, h19, hI, hps, rfl, ?_⟩
      exact Rep.next hbB hB hown (((hr.hold _).have_ _).drew) ((((On.refl b w).set _ _).set _ _).drew) rfl
    case round =>
      obtain ⟨t, k1, k0, k2, k3, k4, k5, k6⟩ := hrel
      clear d0 d1 d2 d3 hfz hr hown hI hps h19
      have hS := step_any k5 (step_ok k2 k0 k3)
      cases hst : Wr.step t with
      | none =>
        rw [hst] at hS
        have HD : Hid (drive (more8 s c) = t) := by rw [Hid, ← k4.out, drive_none hst]
        clear hst k4 k5
        go_wp2_with (go_at_call 49; refine hS.mono ?_; rintro e w1 ⟨rfl, hR1, hfr1⟩)
        go_end0
        rw [HE.out, HD.out]
        exact ⟨rfl, hR1, k6.trans hfr1⟩
      | some u =>
        obtain ⟨g1, g2, g3, g4⟩ := step_goes k2 hst
        have HD : Hid (drive u = drive (more8 s c)) := by rw [Hid, ← k4.out, drive_some k2 hst]
        rw [hst] at hS
        clear hst k4 k5 k2
        go_wp2_with (go_at_call 49; refine hS.mono ?_; rintro e w1 ⟨rfl, hR1, hfr1⟩)
        go_roundg (mu u)
        case measure => omega
        case rel => exact ⟨u, Nat.le_refl _, by omega, g1, by omega, HD, hR1, k6.trans hfr1⟩
end
end Go.Proofs.Ytmpfgdmdnghhgaa
