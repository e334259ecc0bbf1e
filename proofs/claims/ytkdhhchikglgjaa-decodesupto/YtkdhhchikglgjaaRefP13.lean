/- COMMANDS: the document's and the reader's. No Go. -/
import Derived.Test.YtkdhhchikglgjaaRefP12
namespace Wr

/-- what has come out, and the distances -/
structure Mat (d : Dr) (s : Rd) : Prop where
  out : s.out = d.out
  ring : RingOk s d.out
  near : ∀ i, i < 4 → s.near i = d.far i
  window : s.window = 16 * 2 ^ d.x.w.toNat
  w1 : s.window ≤ 4096

theorem setAt_put (S : ByteArray) (x : Sr) (s : Rd) (c : Int) : put (setAt S x s) c = setAt S x (put s c) := rfl
theorem setAt_copy (S : ByteArray) (x : Sr) (d : Int) : ∀ (n : Nat) (s : Rd), copyGo n (setAt S x s) d = setAt S x (copyGo n s d)
  | 0, _ => rfl
  | n + 1, s => by
    show copyGo n (put (setAt S x s) (agoP (setAt S x s) d)) d = _
    have e : agoP (setAt S x s) d = agoP s d := rfl
    rw [e, setAt_put, setAt_copy S x d n]
    rfl
theorem Mat.put {d : Dr} {s : Rd} (h : Mat d s) (c : Int) (y : Sr) (hw : y.w = d.x.w) : Mat { d with x := y, out := d.out ++ [c] } (put s c) := by
  have w0 : 0 ≤ s.window := by rw [h.window]; have := pow_pos2 d.x.w.toNat; omega
  refine ⟨?_, put_ring h.ring c h.w1 w0, h.near, ?_, h.w1⟩
  · show s.out ++ [c] = d.out ++ [c]
    rw [h.out]
  · show s.window = 16 * 2 ^ y.w.toNat
    rw [hw]
    exact h.window
theorem copy_fields (d : Int) : ∀ (n : Nat) (s : Rd), (copyGo n s d).near = s.near ∧ (copyGo n s d).window = s.window ∧ (copyGo n s d).last = s.last ∧ (copyGo n s d).kind = s.kind ∧ (copyGo n s d).part = s.part
  | 0, _ => ⟨rfl, rfl, rfl, rfl, rfl⟩
  | n + 1, s => by
    have ih := copy_fields d n (Wr.put s (agoP s d))
    exact ih
theorem copy_left (d : Int) : ∀ (n : Nat) (s : Rd), (copyGo n s d).left = s.left - n ∧ (copyGo n s d).lcnt = s.lcnt ∧ (copyGo n s d).lsym = s.lsym ∧ (copyGo n s d).dcnt = s.dcnt ∧ (copyGo n s d).dsym = s.dsym
  | 0, s => ⟨by show s.left = s.left - 0; omega, rfl, rfl, rfl, rfl⟩
  | n + 1, s => by
    have ih := copy_left d n (Wr.put s (agoP s d))
    refine ⟨?_, ih.2⟩
    show (copyGo n (Wr.put s (agoP s d)) d).left = _
    rw [ih.1]
    show s.left - 1 - n = _
    omega
theorem Mat.copy {d : Dr} {s : Rd} (h : Mat d s) (a n : Nat) (y : Sr) (F : Nat → Int) (hw : y.w = d.x.w) (h1 : 1 ≤ a) (h2 : (a : Int) ≤ s.reach) (hF : ∀ i, i < 4 → s.near i = F i) :
    Mat { d with x := y, out := copyList a n d.out, far := F } (copyGo n s a) := by
  have w0 : 0 ≤ s.window := by rw [h.window]; have := pow_pos2 d.x.w.toNat; omega
  have cr := copy_ring a h1 n s d.out h.ring h2 h.w1 w0
  have cf := copy_fields a n s
  refine ⟨?_, cr.1, fun i hi => ?_, ?_, by rw [cf.2.1]; exact h.w1⟩
  · have := cr.2 [] (by rw [h.out]; rfl)
    show (copyGo n s a).out = copyList a n d.out
    rw [this]
    rfl
  · rw [cf.1]
    exact hF i hi
  · show (copyGo n s a).window = 16 * 2 ^ y.w.toNat
    rw [cf.2.1, hw]
    exact h.window

/-- what becomes of commands -/
inductive CmdEnd (S : ByteArray) (s : Rd) (x : Sr) (e : Dr) : Prop
  | stuck (h : e.x.state = 1) (p : (drive (setAt S x s)).part ≤ 9) (o : (drive (setAt S x s)).out = e.out)
  | wrong (h : e.x.state = 2) (p : (drive (setAt S x s)).part = 11) (o : (drive (setAt S x s)).out = e.out)
  | read (h : e.x.state = 0) (t : Rd) (hl : t.last = s.last) (m : Mat e t) (d : drive (setAt S x s) = drive (endBlock (setAt S e.x t))) (i : Inv (endBlock (setAt S e.x t)))
theorem CmdEnd.from {S : ByteArray} {s t : Rd} {x y : Sr} {e : Dr} (h : CmdEnd S t y e) (hd : drive (setAt S x s) = drive (setAt S y t)) (hl : t.last = s.last) : CmdEnd S s x e := by
  cases h with
  | stuck h p o => exact .stuck h (by rw [hd]; exact p) (by rw [hd]; exact o)
  | wrong h p o => exact .wrong h (by rw [hd]; exact p) (by rw [hd]; exact o)
  | read h u l m d i => exact .read h u (l.trans hl) m (hd.trans d) i

/-- the reader at a command -/
structure CmdAt (s : Rd) (d : Dr) (left : Int) (lw dw : List Wd) : Prop where
  left : s.left = left
  mat : Mat d s
  lw : codeWs s.lcnt s.lsym = lw
  dw : codeWs s.dcnt s.dsym = dw
  cl : Cod s.lcnt s.lsym 272
  cd : Cod s.dcnt s.dsym 16

theorem sym_step {S : ByteArray} {x : Sr} {s : Rd} {cnt sym : Nat → Int} {N : Int} (hc : Cod cnt sym N) (hpk : peek (setAt S x s) = find cnt sym (holdAt S x) (haveAt S x)) (hp : s.part ≤ 9) (hI : Inv (setAt S x s)) (h0 : x.state = 0) (hok : okAt S x) :
    ((symS S (codeWs cnt sym) x).state = 0 ∧ drive (setAt S x s) = drive (use (setAt S (symS S (codeWs cnt sym) x) s) (symV S (codeWs cnt sym) x)) ∧ Inv (use (setAt S (symS S (codeWs cnt sym) x) s) (symV S (codeWs cnt sym) x))) ∨
    ((symS S (codeWs cnt sym) x).state = 1 ∧ drive (setAt S x s) = setAt S x s) := by
  have hh : 0 ≤ haveAt S x := by unfold haveAt; unfold okAt at hok; omega
  rcases find_cases hc (holdAt S x) (haveAt S x) hh with ⟨l, hit⟩ | miss
  · left
    obtain ⟨e1, e2⟩ := sym_hit hc h0 hit
    have lh := hit.lh
    have ef : find cnt sym (holdAt S x) (haveAt S x) = ((find cnt sym (holdAt S x) (haveAt S x)).1, (l : Int)) := by rw [hit.eq]
    rw [ef] at hpk
    have r := drive_sym hI (find cnt sym (holdAt S x) (haveAt S x)).1 l (holdAt S x / 2 ^ l) (haveAt S x - l) hpk hp rfl (by show haveAt S x = _; omega) (by omega)
    have e : ({ setAt S x s with hold := holdAt S x / 2 ^ l, have_ := haveAt S x - l } : Rd) = setAt S { x with at_ := x.at_ + l } s := by
      rw [← holdAt_add]
      have e2 : haveAt S x - l = haveAt S { x with at_ := x.at_ + l } := by
        unfold haveAt
        show 8 * (S.size : Int) - x.at_ - l = 8 * (S.size : Int) - ((x.at_ + l : Nat) : Int)
        omega
      rw [e2]
      rfl
    rw [e, ← e1] at r
    rw [e2]
    exact ⟨h0, r.1, r.2⟩
  · right
    refine ⟨sym_miss hc h0 hok miss, drive_none ?_⟩
    unfold step
    rw [if_neg (by show ¬ (s.part = 10 ∨ s.part = 11); omega), hpk, miss.eq, if_pos]
    show haveAt S x < haveAt S x + 1
    omega
end Wr
