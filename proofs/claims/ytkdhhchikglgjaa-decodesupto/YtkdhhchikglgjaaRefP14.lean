/- A COPY, AND A CODED BLOCK's COMMANDS: the document's and the reader's. No Go. -/
import Derived.Test.YtkdhhchikglgjaaRefP13
namespace Wr

/-- what becomes of a copy -/
inductive CopyEnd (S : ByteArray) (s7 s : Rd) (x : Sr) (n left : Int) (e : Dr) : Prop
  | stuck (h : e.x.state = 1) (p : (drive (setAt S x s7)).part ≤ 9) (o : (drive (setAt S x s7)).out = e.out)
  | wrong (h : e.x.state = 2) (p : (drive (setAt S x s7)).part = 11) (o : (drive (setAt S x s7)).out = e.out)
  | read (h : e.x.state = 0) (t : Rd) (hl : t.last = s.last) (hle : t.left = left - n) (m : Mat e t) (c1 : t.lcnt = s.lcnt) (c2 : t.lsym = s.lsym) (c3 : t.dcnt = s.dcnt) (c4 : t.dsym = s.dsym)
      (d : drive (setAt S x s7) = drive (endCommand (setAt S e.x t))) (i : Inv (endCommand (setAt S e.x t)))

theorem symS_off {S : ByteArray} {ws : List Wd} {x : Sr} (h : x.state ≠ 0) : symS S ws x = x ∧ symV S ws x = 0 := by
  have e : symGo S ws 14 0 0 x = (0, x) := by
    unfold symGo
    rw [if_pos h]
  unfold symS symV
  rw [e]
  exact ⟨rfl, rfl⟩
theorem copy_off1 {S : ByteArray} {dw : List Wd} {k : Nat} {left : Int} {d : Dr} (h : (copyX S k d.x).state ≠ 0) : (copyS S dw k left d).state = (copyX S k d.x).state := by
  obtain ⟨e1, e2⟩ := symS_off (S := S) (ws := dw) h
  unfold copyS copyDd
  rw [e1, e2]
  unfold awayS
  rw [if_pos (by omega), needS_stop h]
theorem copy_off2 {S : ByteArray} {dw : List Wd} {k : Nat} {left : Int} {d : Dr} (h : (symS S dw (copyX S k d.x)).state ≠ 0) : (copyS S dw k left d).state = (symS S dw (copyX S k d.x)).state := by
  have e : awayS S (copyDd S dw k d.x) (symS S dw (copyX S k d.x)) = symS S dw (copyX S k d.x) := by
    unfold awayS
    split
    · rfl
    · exact numS_off h _
  unfold copyS
  rw [e, needS_stop h]
theorem copyD_off {S : ByteArray} {dw : List Wd} {k : Nat} {left : Int} {d : Dr} (h : (copyS S dw k left d).state ≠ 0) : copyD S dw k left d = (0, { d with x := copyS S dw k left d }) := by
  unfold copyD
  rw [if_pos h]

/-- the end of a copy -/
theorem useCopy_sim {S : ByteArray} {dw : List Wd} {k : Nat} {left : Int} {d : Dr} {s u : Rd} {x : Sr} {s7 : Rd}
    (hm : Mat d s) (hu : Mat d { u with near := s.near }) (hun : ∀ i, i < 4 → u.near i = (if copyDd S dw k d.x = 0 then d.far else nearAdd d.far (copyAway S dw k d)) i) (ho : u.out = s.out) (hle : u.left = left) (hlen : u.length = copyN S k d.x)
    (hlast : u.last = s.last) (c1 : u.lcnt = s.lcnt) (c2 : u.lsym = s.lsym) (c3 : u.dcnt = s.dcnt) (c4 : u.dsym = s.dsym) (hn : 3 ≤ copyN S k d.x) (ha : 1 ≤ copyAway S dw k d)
    (h3 : (awayS S (copyDd S dw k d.x) (symS S dw (copyX S k d.x))).state = 0) (hw : (awayS S (copyDd S dw k d.x) (symS S dw (copyX S k d.x))).w = d.x.w)
    (hd : drive (setAt S x s7) = drive (useCopy (setAt S (awayS S (copyDd S dw k d.x) (symS S dw (copyX S k d.x))) u) (copyAway S dw k d)))
    (hi : Inv (useCopy (setAt S (awayS S (copyDd S dw k d.x) (symS S dw (copyX S k d.x))) u) (copyAway S dw k d))) :
    CopyEnd S s7 s x (copyD S dw k left d).1 left (copyD S dw k left d).2 := by
  have hr := hu.ring.reach
  have hwin := hu.window
  have hr : u.reach = if (d.out.length : Int) ≤ u.window then (d.out.length : Int) else u.window := hr
  have hwin : u.window = 16 * 2 ^ d.x.w.toNat := hwin
  by_cases hok : copyOk d.x.w d.out.length (copyAway S dw k d) (copyN S k d.x) left = true
  · have hc := of_decide_eq_true hok
    have hc1 : copyAway S dw k d ≤ u.reach := by rw [hr, hwin]; split <;> omega
    have es : copyS S dw k left d = awayS S (copyDd S dw k d.x) (symS S dw (copyX S k d.x)) := by
      unfold copyS
      rw [hok, needS_true]
    have eD : copyD S dw k left d = (copyN S k d.x, { d with x := copyS S dw k left d, far := if copyDd S dw k d.x = 0 then d.far else nearAdd d.far (copyAway S dw k d), out := copyList (copyAway S dw k d).toNat (copyN S k d.x).toNat d.out }) := by
      unfold copyD
      rw [if_neg (by rw [es, h3]; omega)]
    rw [eD]
    have eu : useCopy (setAt S (awayS S (copyDd S dw k d.x) (symS S dw (copyX S k d.x))) u) (copyAway S dw k d) = endCommand (setAt S (copyS S dw k left d) (copyGo (copyN S k d.x).toNat u (copyAway S dw k d))) := by
      unfold useCopy
      have e1 : (setAt S (awayS S (copyDd S dw k d.x) (symS S dw (copyX S k d.x))) u).reach = u.reach := rfl
      have e2 : (setAt S (awayS S (copyDd S dw k d.x) (symS S dw (copyX S k d.x))) u).left = u.left := rfl
      have e3 : (setAt S (awayS S (copyDd S dw k d.x) (symS S dw (copyX S k d.x))) u).length = u.length := rfl
      rw [e1, e2, e3, hle, hlen, if_neg (by omega), setAt_copy, es]
    rw [eu] at hd hi
    have cl := copy_left (copyAway S dw k d) (copyN S k d.x).toNat u
    have cf := copy_fields (copyAway S dw k d) (copyN S k d.x).toNat u
    have hA : ((copyAway S dw k d).toNat : Int) = copyAway S dw k d := by omega
    have w0 : 0 ≤ u.window := by rw [hwin]; have := pow_pos2 d.x.w.toNat; omega
    have hring : RingOk u d.out := ⟨hu.ring.at_, hu.ring.ring, hu.ring.reach⟩
    have cr := copy_ring (copyAway S dw k d).toNat (by omega) (copyN S k d.x).toNat u d.out hring (by omega) hu.w1 w0
    rw [hA] at cr
    refine .read (by show (copyS S dw k left d).state = 0; rw [es]; exact h3) (copyGo (copyN S k d.x).toNat u (copyAway S dw k d)) (cf.2.2.1.trans hlast) ?_ ⟨?_, cr.1, fun i hi => ?_, ?_, ?_⟩ (cl.2.1.trans c1) (cl.2.2.1.trans c2) (cl.2.2.2.1.trans c3) (cl.2.2.2.2.trans c4) hd hi
    · rw [cl.1, hle]
      show left - ((copyN S k d.x).toNat : Int) = left - copyN S k d.x
      omega
    · have := cr.2 [] (by rw [ho, hm.out]; rfl)
      show _ = copyList (copyAway S dw k d).toNat (copyN S k d.x).toNat d.out
      rw [this]
      rfl
    · rw [cf.1]
      exact hun i hi
    · show _ = 16 * 2 ^ (copyS S dw k left d).w.toNat
      rw [cf.2.1, es, hw]
      exact hwin
    · rw [cf.2.1]
      exact hu.w1
  · have hok2 : copyOk d.x.w d.out.length (copyAway S dw k d) (copyN S k d.x) left = false := by
      cases h : copyOk d.x.w d.out.length (copyAway S dw k d) (copyN S k d.x) left
      · rfl
      · exact absurd h hok
    have hc := of_decide_eq_false hok2
    have es : (copyS S dw k left d).state = 2 := by
      unfold copyS
      rw [hok2]
      unfold needS
      rw [if_pos ⟨h3, rfl⟩]
    rw [copyD_off (by rw [es]; omega)]
    have eu : useCopy (setAt S (awayS S (copyDd S dw k d.x) (symS S dw (copyX S k d.x))) u) (copyAway S dw k d) = setAt S (awayS S (copyDd S dw k d.x) (symS S dw (copyX S k d.x))) (fault u) := by
      unfold useCopy
      have e1 : (setAt S (awayS S (copyDd S dw k d.x) (symS S dw (copyX S k d.x))) u).reach = u.reach := rfl
      have e2 : (setAt S (awayS S (copyDd S dw k d.x) (symS S dw (copyX S k d.x))) u).left = u.left := rfl
      have e3 : (setAt S (awayS S (copyDd S dw k d.x) (symS S dw (copyX S k d.x))) u).length = u.length := rfl
      rw [e1, e2, e3, hle, hlen, if_pos]
      · rfl
      · rw [hr, hwin]
        split <;> omega
    rw [eu] at hd
    have fe := fault_end (S := S) (x := awayS S (copyDd S dw k d.x) (symS S dw (copyX S k d.x))) (s := u)
    exact .wrong es (by rw [hd]; exact fe.1) (by rw [hd]; show _ = d.out; rw [fe.2, ho, hm.out])
end Wr
