import Derived.Test.YtmpfgdmdnghhgaaW8
namespace Go.Proofs.Ytmpfgdmdnghhgaa
open Go.RowKit Wr

theorem info_u8 : (Try.prog.info? 5).map (fun i => (i.zero, i.size, i.bytes)) = some (some (.int .u8 0), 1, 1) := by kernel_rfl

theorem owns_shape {w : World} {B : Nat} {e : TypeId} {v : Value} {n : Nat} {xs : List Value} (h : w.ownsRow B e 1 v (n + 1) xs) : ∃ g cap, v = .slice (some ⟨g, 0, none⟩) (n + 1) cap := by
  obtain ⟨_, h2⟩ := h
  rcases h2 with ⟨_, h3⟩ | ⟨g, cap, cur, hv, _⟩
  · omega
  · exact ⟨g, cap, hv⟩
theorem owns_block {w : World} {B b : Nat} {e : TypeId} {v : Value} {n : Nat} {xs : List Value} (h : w.ownsRow B e 1 v n xs) (hb : b < B) : some b ≠ v.ownBlock := by
  obtain ⟨_, h2⟩ := h
  rcases h2 with ⟨h3, _⟩ | ⟨g, cap, cur, hv, hg, _⟩
  · rw [h3]; intro h; cases h
  · rw [hv]; intro h
    have : b = g := by simpa [Value.ownBlock] using h
    omega
theorem owns_above {w : World} {B : Nat} {e : TypeId} {v : Value} {n : Nat} {xs : List Value} (h : w.ownsRow B e 1 v n xs) : ∀ k, v.ownBlock = some k → B ≤ k := by
  obtain ⟨_, h2⟩ := h
  intro k hk
  rcases h2 with ⟨h3, _⟩ | ⟨g, cap, cur, hv, hg, _⟩
  · rw [h3] at hk; cases hk
  · rw [hv] at hk
    have : g = k := by simpa [Value.ownBlock] using hk
    omega

section
variable {w : World} {B b : Nat} {s : Rd}

set_option maxHeartbeats 1000000 in
theorem put_any (hR : Rep w B b s) (c : Int) (h1 : 0 ≤ s.at_) (h2 : s.at_ < 4096) (h3 : 0 ≤ s.reach) (h4 : s.window ≤ 4096) (h5 : s.reach ≤ 4096)
    (h6 : -1000000 ≤ s.left) (h7 : s.left ≤ 1000000) (h8 : s.out.length ≤ 17592186044416) :
    Calls Try.prog 89 #[.pointer (some ⟨b, 0, none⟩), .int .u8 c] w fun e w' => e = .returned (.tuple #[]) ∧ Rep w' B b (put s c) ∧ Fr B b w w' := by
  obtain ⟨hbB, hBw, v, hr, hown⟩ := hR
  obtain ⟨i0, hi, hz0, hz1, hz2⟩ := info_parts info_u8
  have HI : Hid (Try.prog.info? 5 = some i0 ∧ i0.zero = some (.int .u8 0) ∧ i0.size = 1 ∧ i0.bytes = 1) := ⟨hi, hz0, hz1, hz2⟩
  clear hi hz0 hz1 hz2
  have c0 := hr.c_out
  have hA := fun (W : World) (t : Rd) (u : Value) (h : Row W b t u) (e1 : t.at_ = s.at_) (e2 : t.reach = s.reach) (e3 : t.window = s.window) => add_any h c (by omega) (by omega) (by omega) (by omega) (by omega)
  go_enter Try.func89, Try.ntmps89
  go_wp2_with (at_builtin; refine wpList_append_own _ rfl _ _ 37 rfl B 5 i0 (.int .u8 0) 1 1 Try.underlying37 HI.out.1 HI.out.2.1 HI.out.2.2.1 HI.out.2.2.2 rfl (by decide) _ _ _ rfl (hown.alloc _) ⟨w.heap.size, 0, none⟩ 1 1 [.int .u8 c] rfl rfl ?c1 ?c2 ?c3 ?c4 ?c5 ?_)
  case c1 =>
    intro j u hj
    match j, hj with
    | 0, hj => simp at hj; subst hj; simp [Addr.add]
  case c2 => intro u hu; simp at hu; subst hu; rfl
  case c3 => unfold maxLen; omega
  case c4 => omega
  case c5 => simp; omega
  · intro v' w1 hown' hgrow _
    obtain ⟨g, cap, hv⟩ := owns_shape hown'
    subst hv
    have hr1 : Row w1 b s v := (hr.alloc _).of_block (hgrow.block b (by have := hr.lt; simp; omega) (owns_block hown hbB))
    have hfr1 : Fr B b w w1 := ((Fr.refl B b w).alloc hBw _).grown hgrow (by simp; omega) (owns_above hown)
    have d0 := hr1.c_out
    have df := hr1.free
    have hr2 := hr1.out (.slice (some ⟨g, 0, none⟩) (s.out.length + 1) cap) (s.out ++ [c])
    have hA1 := hA _ _ _ hr2 rfl rfl rfl
    clear hgrow c0 hA
    go_wp2_with (go_at_call 111; refine hA1.mono ?_; rintro e w2 ⟨rfl, hr3, hon3⟩; have d5 := hr3.c_left; have d6 : w2.cell? ⟨b, 5, none⟩ = some (.int .i64 s.left) := d5; clear d5; have df2 := hr3.free)
    go_end0
    have hon4 := (((On.refl b w1).set _ _).trans hon3).set 5 (.int .i64 (s.left - 1))
    refine ⟨rfl, ?_, ?_⟩
    · refine ⟨hbB, Nat.le_trans (Nat.le_trans hBw hfr1.size) hon4.size, _, hr3.left _, ?_⟩
      have := hon4.owns hbB hown'
      simpa [put, addRing] using this
    · exact hfr1.trans (hon4.fr (Nat.le_trans hBw hfr1.size))
end
end Go.Proofs.Ytmpfgdmdnghhgaa
