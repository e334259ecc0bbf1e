/- BITS AND BYTES. No Go. -/
import Derived.Test.YtmpfgdmdnghhgaaBig2
namespace Wr

def valOf : List Int → Int
  | [] => 0
  | b :: r => b + 2 * valOf r
def isBits (l : List Int) : Prop := ∀ b ∈ l, b = 0 ∨ b = 1

def numBits (v : Int) (n : Nat) : List Int := (List.range n).map fun i => v / 2 ^ i % 2

theorem numBits_length (v : Int) (n : Nat) : (numBits v n).length = n := by simp [numBits]
theorem numBits_isBits (v : Int) (n : Nat) : isBits (numBits v n) := by
  intro b hb
  simp only [numBits, List.mem_map] at hb
  obtain ⟨i, _, rfl⟩ := hb
  omega
theorem numBits_succ (v : Int) (n : Nat) : numBits v (n + 1) = numBits v n ++ [v / 2 ^ n % 2] := by
  simp [numBits, List.range_succ]

theorem valOf_append : ∀ (a b : List Int), valOf (a ++ b) = valOf a + 2 ^ a.length * valOf b
  | [], b => by show valOf b = 0 + 1 * valOf b; omega
  | x :: a, b => by
    show x + 2 * valOf (a ++ b) = x + 2 * valOf a + 2 ^ (a.length + 1) * valOf b
    rw [valOf_append a b, Int.pow_succ, Int.mul_comm (2 ^ a.length) 2, Int.mul_assoc, Int.mul_add]
    omega

theorem valOf_bounds : ∀ (l : List Int), isBits l → 0 ≤ valOf l ∧ valOf l < 2 ^ l.length
  | [], _ => ⟨Int.le_refl _, by show (0 : Int) < 1; omega⟩
  | b :: r, h => by
    have ih := valOf_bounds r (fun x hx => h x (List.mem_cons_of_mem _ hx))
    have hb := h b (List.mem_cons_self ..)
    show 0 ≤ b + 2 * valOf r ∧ b + 2 * valOf r < 2 ^ (r.length + 1)
    rw [Int.pow_succ]
    omega

theorem mod_step (v : Int) (n : Nat) : v % 2 ^ (n + 1) = v % 2 ^ n + 2 ^ n * (v / 2 ^ n % 2) := by
  have hp := pow_pos2 n
  rw [Int.pow_succ]
  have e1 := Int.emod_add_mul_ediv v (2 ^ n)
  have e2 := Int.emod_add_mul_ediv (v / 2 ^ n) 2
  have hr := mod_bounds v n
  have hr2 : 0 ≤ v / 2 ^ n % 2 ∧ v / 2 ^ n % 2 < 2 := by omega
  have e3 : v = (v % 2 ^ n + 2 ^ n * (v / 2 ^ n % 2)) + (2 ^ n * 2) * (v / 2 ^ n / 2) := by
    have : 2 ^ n * (v / 2 ^ n) = 2 ^ n * (v / 2 ^ n % 2) + 2 ^ n * 2 * (v / 2 ^ n / 2) := by
      rw [Int.mul_assoc, ← Int.mul_add, e2]
    omega
  have hb : 0 ≤ v % 2 ^ n + 2 ^ n * (v / 2 ^ n % 2) ∧ v % 2 ^ n + 2 ^ n * (v / 2 ^ n % 2) < 2 ^ n * 2 := by
    have : v / 2 ^ n % 2 = 0 ∨ v / 2 ^ n % 2 = 1 := by omega
    rcases this with e | e <;> rw [e] <;> omega
  conv => lhs; rw [e3]
  rw [Int.add_mul_emod_self_left]
  exact Int.emod_eq_of_lt hb.1 hb.2

theorem valOf_num (v : Int) : ∀ n : Nat, valOf (numBits v n) = v % 2 ^ n
  | 0 => by show (0 : Int) = v % 1; omega
  | n + 1 => by
    rw [numBits_succ, valOf_append, valOf_num v n, numBits_length, mod_step]
    show _ + 2 ^ n * (v / 2 ^ n % 2 + 2 * 0) = _
    rw [Int.mul_zero, Int.add_zero]
theorem valOf_num_lt {v : Int} {n : Nat} (h0 : 0 ≤ v) (h1 : v < 2 ^ n) : valOf (numBits v n) = v := by
  rw [valOf_num, Int.emod_eq_of_lt h0 h1]

/- bytes of a number -/
def valB : List UInt8 → Int
  | [] => 0
  | c :: l => c.toNat + 256 * valB l
def bytesOf (v : Int) (n : Nat) : List UInt8 := (List.range n).map fun j => UInt8.ofNat (v / 2 ^ (8 * j) % 256).toNat

theorem moreAll_eq : ∀ (l : List UInt8) (s : Rd), 0 ≤ s.have_ → moreAll s l = { s with hold := s.hold + 2 ^ s.have_.toNat * valB l, have_ := s.have_ + 8 * l.length }
  | [], s, h => by
    show s = { s with hold := s.hold + 2 ^ s.have_.toNat * 0, have_ := s.have_ + 8 * ((0 : Nat) : Int) }
    rw [Int.mul_zero, Int.add_zero, show s.have_ + 8 * ((0 : Nat) : Int) = s.have_ by omega]
  | c :: l, s, h => by
    have ih := moreAll_eq l (more8 s c.toNat) (by show 0 ≤ s.have_ + 8; omega)
    show moreAll (more8 s c.toNat) l = _
    rw [ih]
    have e1 : s.hold + (c.toNat : Int) * 2 ^ s.have_.toNat + 2 ^ (s.have_ + 8).toNat * valB l = s.hold + 2 ^ s.have_.toNat * ((c.toNat : Int) + 256 * valB l) := by
      rw [show (s.have_ + 8).toNat = s.have_.toNat + 8 by omega, pow_add2, Int.mul_add, Int.mul_comm (c.toNat : Int), Int.mul_assoc]
      have : (2 : Int) ^ 8 = 256 := rfl
      rw [this]
      omega
    have e2 : s.have_ + 8 + 8 * (l.length : Int) = s.have_ + 8 * ((c :: l).length : Int) := by rw [List.length_cons]; omega
    show ({ s with hold := s.hold + (c.toNat : Int) * 2 ^ s.have_.toNat + 2 ^ (s.have_ + 8).toNat * valB l, have_ := s.have_ + 8 + 8 * (l.length : Int) } : Rd) = _
    rw [e1, e2]
    rfl

theorem valB_append : ∀ (a b : List UInt8), valB (a ++ b) = valB a + 2 ^ (8 * a.length) * valB b
  | [], b => by show valB b = 0 + 1 * valB b; omega
  | x :: a, b => by
    show (x.toNat : Int) + 256 * valB (a ++ b) = (x.toNat : Int) + 256 * valB a + 2 ^ (8 * (a.length + 1)) * valB b
    rw [valB_append a b, show 8 * (a.length + 1) = 8 + 8 * a.length by omega, pow_add2, Int.mul_add]
    have : (2 : Int) ^ 8 = 256 := rfl
    rw [this, Int.mul_assoc]
    omega
theorem bytesOf_length (v : Int) (n : Nat) : (bytesOf v n).length = n := by simp [bytesOf]
theorem bytesOf_succ (v : Int) (n : Nat) : bytesOf v (n + 1) = bytesOf v n ++ [UInt8.ofNat (v / 2 ^ (8 * n) % 256).toNat] := by simp [bytesOf, List.range_succ]
theorem byte_back (x : Int) (h0 : 0 ≤ x) (h1 : x < 256) : ((UInt8.ofNat x.toNat).toNat : Int) = x := by
  have : (UInt8.ofNat x.toNat).toNat = x.toNat := by
    rw [UInt8.toNat_ofNat']
    exact Nat.mod_eq_of_lt (by omega)
  omega

theorem valB_bytes (v : Int) (h0 : 0 ≤ v) : ∀ n : Nat, valB (bytesOf v n) = v % 2 ^ (8 * n)
  | 0 => by show (0 : Int) = v % 1; omega
  | n + 1 => by
    rw [bytesOf_succ, valB_append, valB_bytes v h0 n, bytesOf_length]
    have hb : 0 ≤ v / 2 ^ (8 * n) % 256 ∧ v / 2 ^ (8 * n) % 256 < 256 := by omega
    show _ + 2 ^ (8 * n) * (((UInt8.ofNat (v / 2 ^ (8 * n) % 256).toNat).toNat : Int) + 256 * 0) = _
    rw [byte_back _ hb.1 hb.2]
    have hp := pow_pos2 (8 * n)
    have hm := mod_bounds v (8 * n)
    have e : (2 : Int) ^ (8 * (n + 1)) = 2 ^ (8 * n) * 256 := by rw [show 8 * (n + 1) = 8 * n + 8 by omega, pow_add2]; rfl
    have e1 := Int.emod_add_mul_ediv v (2 ^ (8 * n))
    have e2 := Int.emod_add_mul_ediv (v / 2 ^ (8 * n)) 256
    have e3 : v = (v % 2 ^ (8 * n) + 2 ^ (8 * n) * (v / 2 ^ (8 * n) % 256)) + (2 ^ (8 * n) * 256) * (v / 2 ^ (8 * n) / 256) := by
      have : 2 ^ (8 * n) * (v / 2 ^ (8 * n)) = 2 ^ (8 * n) * (v / 2 ^ (8 * n) % 256) + 2 ^ (8 * n) * 256 * (v / 2 ^ (8 * n) / 256) := by
        rw [Int.mul_assoc, ← Int.mul_add, e2]
      omega
    have hb2 : 2 ^ (8 * n) * (v / 2 ^ (8 * n) % 256) ≤ 2 ^ (8 * n) * 255 := Int.mul_le_mul_of_nonneg_left (by omega) (by omega)
    have hb3 : 0 ≤ 2 ^ (8 * n) * (v / 2 ^ (8 * n) % 256) := Int.mul_nonneg (by omega) hb.1
    have e4 : v % (2 ^ (8 * n) * 256) = v % 2 ^ (8 * n) + 2 ^ (8 * n) * (v / 2 ^ (8 * n) % 256) := by
      conv => lhs; rw [e3]
      rw [Int.add_mul_emod_self_left]
      exact Int.emod_eq_of_lt (by omega) (by omega)
    rw [e, e4, Int.mul_zero, Int.add_zero]

/-- the reader over all bits of a number -/
theorem full_bytes (v : Int) (n : Nat) (h0 : 0 ≤ v) (h1 : v < 2 ^ (8 * n)) : full (bytesOf v n) = drive { initRd with hold := v, have_ := 8 * n } := by
  unfold full
  rw [moreAll_eq _ _ (by decide), valB_bytes v h0, bytesOf_length, Int.emod_eq_of_lt h0 h1]
  have e : initRd.hold + 2 ^ initRd.have_.toNat * v = v := by show (0 : Int) + 1 * v = v; omega
  have e2 : initRd.have_ + 8 * (n : Int) = 8 * n := by show (0 : Int) + 8 * n = 8 * n; omega
  rw [e, e2]

/-- a number is read -/
theorem drive_num {s : Rd} (hI : Inv s) (v rest n m : Int) (h6 : s.part ≠ 6) (h8 : s.part ≠ 8) (hp : s.part ≤ 9) (hw : width s = n) (hh : s.hold = v + 2 ^ n.toNat * rest) (v0 : 0 ≤ v) (v1 : v < 2 ^ n.toNat) (hm : s.have_ = n + m) (m0 : 0 ≤ m) :
    drive s = drive (use { s with hold := rest, have_ := m } v) ∧ Inv (use { s with hold := rest, have_ := m } v) := by
  have hpos := pow_pos2 n.toNat
  have e1 : s.hold % 2 ^ n.toNat = v := by rw [hh, Int.add_mul_emod_self_left, Int.emod_eq_of_lt v0 v1]
  have e2 : s.hold / 2 ^ n.toNat = rest := by
    rw [hh, Int.add_mul_ediv_left _ _ (by omega), Int.ediv_eq_zero_of_lt v0 v1]; omega
  have ep : peek s = (v, n) := by rw [peek_number h6 h8, hw, e1]
  have ed : drop s n = { s with hold := rest, have_ := m } := by
    unfold drop
    rw [e2, show s.have_ - n = m by omega]
  have hs : step s = some (use { s with hold := rest, have_ := m } v) := by
    unfold step
    rw [if_neg (by omega), ep, if_neg (by show ¬ s.have_ < n; omega), ed]
  exact ⟨drive_some hI hs, (step_goes hI hs).1⟩

/-- a symbol is read -/
theorem drive_sym {s : Rd} (hI : Inv s) (x : Int) (l : Nat) (rest m : Int) (hpk : peek s = (x, (l : Int))) (hp : s.part ≤ 9) (e2 : s.hold / 2 ^ l = rest) (hm : s.have_ = l + m) (m0 : 0 ≤ m) :
    drive s = drive (use { s with hold := rest, have_ := m } x) ∧ Inv (use { s with hold := rest, have_ := m } x) := by
  have ed : drop s (l : Int) = { s with hold := rest, have_ := m } := by
    unfold drop
    rw [show ((l : Int)).toNat = l by omega, e2, show s.have_ - (l : Int) = m by omega]
  have hs : step s = some (use { s with hold := rest, have_ := m } x) := by
    unfold step
    rw [if_neg (by omega), hpk, if_neg (by show ¬ s.have_ < (l : Int); omega), ed]
  exact ⟨drive_some hI hs, (step_goes hI hs).1⟩

end Wr
