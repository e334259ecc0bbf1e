/- WHAT THE DOCUMENT READS IS WHAT THE READER READS. No Go. -/
import Derived.Test.YtkdhhchikglgjaaRefP18
namespace Wr
open Go.Proofs.Ytkdhhchikglgjaa

inductive Fin (S : ByteArray) (t : Rd) (e : Dr) : Prop
  | stuck (h : (fillS S e.x).state = 1) (p : t.part ≤ 9) (o : t.out = e.out)
  | wrong (h : (fillS S e.x).state = 2) (p : t.part = 11) (o : t.out = e.out)
  | read (h : (fillS S e.x).state = 0) (p : t.part = 10) (n : t.have_ = haveAt S (fillS S e.x)) (o : t.out = e.out)

theorem readGo_stop {S : ByteArray} (g : Nat) {edge last : Bool} {d : Dr} (h : ¬ (d.x.state = 0 ∧ last = false)) : readGo S g edge last d = (edge, d) := by
  cases g with
  | zero => rfl
  | succ g => unfold readGo; rw [if_neg h]
theorem read_sim {S : ByteArray} : ∀ (g : Nat) (edge : Bool) (d : Dr) (s : Rd), 8 * S.size < d.x.at_ + g → Inv (setAt S d.x s) → d.x.state = 0 → s.part = 1 → Mat d s → RIn S d →
    Fin S (drive (setAt S d.x s)) (readGo S g edge false d).2
  | 0, _, d, _, hg, _, _, _, _, hr => absurd hg (by have := hr.at_; unfold okAt at this; omega)
  | g + 1, edge, d, s, hg, hI, h0, hp, hm, hr => by
    have b := block_sim hI h0 hr.at_ hp hm hr.far
    obtain ⟨hr2, hat⟩ := block_in hr h0
    have e : readGo S (g + 1) edge false d = readGo S g (d.x.at_ == 8 * S.size) (blockD S d).1 (blockD S d).2 := by
      conv => lhs; unfold readGo
      rw [if_pos ⟨h0, rfl⟩]
    rw [e]
    cases b with
    | stuck h p o =>
      have hne : (blockD S d).2.x.state ≠ 0 := by rw [h]; omega
      rw [readGo_stop g (fun q => hne q.1)]
      exact .stuck (by show (fillS S (blockD S d).2.x).state = 1; rw [fillS_off hne]; exact h) p o
    | wrong h p o =>
      have hne : (blockD S d).2.x.state ≠ 0 := by rw [h]; omega
      rw [readGo_stop g (fun q => hne q.1)]
      exact .wrong (by show (fillS S (blockD S d).2.x).state = 2; rw [fillS_off hne]; exact h) p o
    | read h t hl m dd i =>
      rw [dd]
      cases hb : (blockD S d).1
      · have ee : endBlock (setAt S (blockD S d).2.x t) = setAt S (blockD S d).2.x { t with part := 1 } := by
          have hlf : (setAt S (blockD S d).2.x t).last = false := hl.trans hb
          unfold endBlock
          rw [if_neg (by rw [hlf]; decide)]
          rfl
        rw [ee] at i ⊢
        have := hat h
        exact read_sim g _ _ _ (by omega) i h rfl (m.part 1) hr2
      · rw [readGo_stop g (fun q => by cases q.2)]
        have hlt : (setAt S (blockD S d).2.x t).last = true := hl.trans hb
        have fs := fill_sim (S := S) t h hr2.at_
        cases hf : fillOk (setAt S (blockD S d).2.x t)
        · obtain ⟨f1, f2⟩ := fs.2 hf
          have ee : endBlock (setAt S (blockD S d).2.x t) = fault (setAt S (blockD S d).2.x t) := by
            unfold endBlock
            rw [hlt, hf, f2]
            rfl
          rw [ee, drive_stop (Or.inr rfl)]
          exact .wrong f1 rfl m.out
        · obtain ⟨f1, f2, _, _⟩ := fs.1 hf
          have ee : endBlock (setAt S (blockD S d).2.x t) = { setAt S (fillS S (blockD S d).2.x) t with part := 10 } := by
            unfold endBlock
            rw [hlt, hf, f2]
            rfl
          rw [ee, drive_stop (Or.inl rfl)]
          exact .read f1 rfl rfl m.out

theorem full_at (S : ByteArray) : full S.data.toList = drive (setAt S x0 initRd) := by
  unfold full
  rw [moreAll_eq _ _ (by decide)]
  congr 1
  have e1 : initRd.hold + 2 ^ initRd.have_.toNat * valB S.data.toList = holdAt S x0 := by
    show (0 : Int) + 1 * valB S.data.toList = valB S.data.toList / 2 ^ 0
    rw [Int.pow_zero, Int.ediv_one]
    omega
  have e2 : initRd.have_ + 8 * (S.data.toList.length : Int) = haveAt S x0 := by
    show (0 : Int) + 8 * (S.data.toList.length : Int) = 8 * (S.size : Int) - ((0 : Nat) : Int)
    have : S.data.toList.length = S.size := by simp
    omega
  rw [e1, e2]
  rfl
theorem init_inv (S : ByteArray) : Inv (setAt S x0 initRd) := by
  have h := moreAll_inv S.data.toList initRd init_rest.1
  rw [moreAll_eq _ _ (by decide)] at h
  have e1 : initRd.hold + 2 ^ initRd.have_.toNat * valB S.data.toList = holdAt S x0 := by
    show (0 : Int) + 1 * valB S.data.toList = valB S.data.toList / 2 ^ 0
    rw [Int.pow_zero, Int.ediv_one]
    omega
  have e2 : initRd.have_ + 8 * (S.data.toList.length : Int) = haveAt S x0 := by
    show (0 : Int) + 8 * (S.data.toList.length : Int) = 8 * (S.size : Int) - ((0 : Nat) : Int)
    have : S.data.toList.length = S.size := by simp
    omega
  rw [e1, e2] at h
  exact h

theorem read_fin (S : ByteArray) : Fin S (drive (setAt S x0 initRd)) (readR S).2 := by
  have hI := init_inv S
  have hoc : okAt S x0 := Nat.zero_le _
  have nb := numV_bounds S x0 4
  rw [show (2 : Int) ^ 4 = 16 from rfl] at nb
  have stop : (startX S).state ≠ 0 → (readR S).2 = startD S := fun q => by
    unfold readR
    rw [readGo_stop _ (fun r => q r.1)]
  by_cases h1 : (numS S x0 4).state = 0
  · obtain ⟨d1, i1⟩ := num_go (s := initRd) hI rfl (by decide) (by decide) (by decide) (show width initRd = ((4 : Nat) : Int) from rfl) h1
    have eu : use (setAt S (numS S x0 4) initRd) (numV S x0 4) = useWindow (setAt S (numS S x0 4) initRd) (numV S x0 4) := rfl
    rw [eu] at d1 i1
    by_cases h8 : numV S x0 4 ≤ 8
    · have ex : x1 S = numS S x0 4 := by unfold x1; rw [decide_eq_true h8, needS_true]
      have es : startX S = { numS S x0 4 with w := numV S x0 4 } := by unfold startX; rw [ex, if_pos h1]
      have ew : useWindow (setAt S (numS S x0 4) initRd) (numV S x0 4) = setAt S (startX S) { initRd with window := 16 * 2 ^ (numV S x0 4).toNat, part := 1 } := by
        unfold useWindow
        rw [if_neg (by omega), es]
        rfl
      rw [ew] at d1 i1
      have hp : (2 : Int) ^ (numV S x0 4).toNat ≤ 2 ^ 8 := pow_mono2 (by omega)
      have hp0 := pow_pos2 (numV S x0 4).toNat
      have e256 : (2 : Int) ^ 8 = 256 := rfl
      have hs0 : (startX S).state = 0 := by rw [es]; exact h1
      have hsa : (startX S).at_ = (numS S x0 4).at_ := by rw [es]
      have hsw : (startX S).w = numV S x0 4 := by rw [es]
      have hm : Mat (startD S) { initRd with window := 16 * 2 ^ (numV S x0 4).toNat, part := 1 } := by
        refine ⟨rfl, ⟨rfl, fun i hi => absurd hi (by show ¬ i < 0; omega), ?_⟩, fun i hi => rfl, ?_, ?_⟩
        · show (0 : Int) = if ((0 : Nat) : Int) ≤ 16 * 2 ^ (numV S x0 4).toNat then ((0 : Nat) : Int) else 16 * 2 ^ (numV S x0 4).toNat
          rw [if_pos (by omega)]
          rfl
        · show 16 * 2 ^ (numV S x0 4).toNat = 16 * 2 ^ (startX S).w.toNat
          rw [hsw]
        · show 16 * 2 ^ (numV S x0 4).toNat ≤ 4096
          omega
      have hr : RIn S (startD S) := by
        refine ⟨by show (startX S).at_ ≤ _; rw [hsa]; exact numS_ok hoc 4, fun i hi => ?_, fun _ => ?_, ?_, Nat.zero_le _⟩
        · show 1 ≤ (if i < 4 then (i : Int) + 1 else 0) ∧ (if i < 4 then (i : Int) + 1 else 0) ≤ 4095
          rw [if_pos hi]
          omega
        · show 0 ≤ (startX S).w ∧ (startX S).w ≤ 8
          rw [hsw]
          exact ⟨nb.1, h8⟩
        · show (0 : Int) ≤ _
          omega
      rw [d1]
      exact read_sim (8 * S.size + 2) false (startD S) _ (by omega) i1 hs0 rfl hm hr
    · have hst : (x1 S).state = 2 := by
        unfold x1
        rw [decide_eq_false h8]
        unfold needS
        rw [if_pos ⟨h1, rfl⟩]
      have hne : (x1 S).state ≠ 0 := by rw [hst]; omega
      have es : startX S = x1 S := by unfold startX; rw [if_neg hne]
      rw [stop (by rw [es]; exact hne)]
      have ew : useWindow (setAt S (numS S x0 4) initRd) (numV S x0 4) = fault (setAt S (numS S x0 4) initRd) := by
        unfold useWindow
        rw [if_pos (by omega)]
      rw [ew, drive_stop (s := fault (setAt S (numS S x0 4) initRd)) (Or.inr rfl)] at d1
      rw [d1]
      exact .wrong (by show (fillS S (startX S)).state = 2; rw [es, fillS_off hne]; exact hst) rfl rfl
  · obtain ⟨d1, h1'⟩ := num_stuck (S := S) (x := x0) (s := initRd) rfl (by decide) (by decide) (by decide) (show width initRd = ((4 : Nat) : Int) from rfl) h1
    have ex : x1 S = numS S x0 4 := by unfold x1; rw [needS_stop h1]
    have es : startX S = numS S x0 4 := by unfold startX; rw [ex, if_neg h1]
    rw [stop (by rw [es]; exact h1), d1]
    exact .stuck (by show (fillS S (startX S)).state = 1; rw [es, fillS_off h1]; exact h1') (by show (0 : Int) ≤ 9; omega) rfl

/-- what the document reads is what the reader reads -/
theorem doc_eq (S : ByteArray) : (full S.data.toList).out = (readD S).out ∧ errnoBig (full S.data.toList) = readV S := by
  rw [full_at]
  have h := read_fin S
  have eo : (readD S).out = (readR S).2.out := rfl
  have ex : (readD S).x = fillS S (readR S).2.x := rfl
  rw [eo]
  unfold readV errnoBig
  rw [ex]
  cases h with
  | stuck h p o => exact ⟨o, by rw [if_neg (by omega), if_pos (by omega), if_neg (by omega), h]⟩
  | wrong h p o => exact ⟨o, by rw [if_pos p, if_neg (by omega), h]⟩
  | read h p n o =>
    refine ⟨o, ?_⟩
    rw [if_neg (by omega), if_neg (by omega), n, h]
    unfold haveAt
    by_cases hq : (fillS S (readR S).2.x).at_ < 8 * S.size
    · rw [if_pos (by omega), if_pos ⟨rfl, hq⟩]
    · rw [if_neg (by omega), if_neg (fun q => hq q.2)]
end Wr
