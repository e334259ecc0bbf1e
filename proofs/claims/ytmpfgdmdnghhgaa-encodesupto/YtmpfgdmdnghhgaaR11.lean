import Derived.Test.YtmpfgdmdnghhgaaR8
import Derived.Test.YtmpfgdmdnghhgaaRefP9
import Derived.Maps.AppendAt
import Derived.Test.YtmpfgdmdnghhgaaRing
namespace Go.Proofs.Ytmpfgdmdnghhgaa
open Go.RowKit Wr

set_option maxRecDepth 100000 in
set_option maxHeartbeats 1000000 in
theorem Rcode_any {w : World} {b : Nat} {S : ByteArray} {x : Sr} {vo vn vf : Value} (h : SRow w b S x vo vn vf) (hs : S.size ≤ 268435456) (ha : okAt S x) (N sz : Nat) (hN : N ≤ 272) (hsz : sz ≤ 9) :
    Calls Try.prog 61 #[.pointer (some ⟨b, 0, none⟩), .int .i64 N, .int .i64 sz] w fun e w' => ∃ v, e = .returned v ∧ SRow w' b S (codeS S N sz x) vo vn vf ∧ On b w w' ∧ Words w' v (wsIf (codeS S N sz x) (codeC S N sz x)) ∧ (∀ g, v.ownBlock = some g → w.heap.size ≤ g) := by
  have hB := Rbit_any h hs ha
  have hb := bitV_bounds S x
  have hok := bitS_ok ha
  by_cases h0 : bitV S x = 0
  · have HS : Hid (codeS S N sz x = (simpR S N sz (bitS S x)).2 ∧ codeC S N sz x = simpC S N sz (bitS S x)) := by
      unfold codeS codeC
      rw [if_pos h0, if_pos h0]
      exact ⟨rfl, rfl⟩
    have hC := fun (W : World) (hW : SRow W b S (bitS S x) vo vn vf) => Rsimple_any hW hs hok N sz hN hsz
    rw [h0] at hB
    clear h0 hb
    go_enter Try.func61, Try.ntmps61
    go_wp2_with (first
      | (go_at_call 78; refine (hC _ hr1).mono ?_; rintro e w2 ⟨v, rfl, hr2, hon2, hw2, hf2⟩)
      | (go_at_call 50; refine hB.mono ?_; rintro e w1 ⟨rfl, hr1, hon1⟩))
    go_ret
    rw [HS.out.1, HS.out.2]
    exact ⟨_, rfl, hr2, hon1.trans hon2, hw2, fun g hg => Nat.le_trans hon1.size (hf2 g hg)⟩
  · have HS : Hid (codeS S N sz x = fullS S N (bitS S x) ∧ codeC S N sz x = fullC S N (bitS S x)) := by
      unfold codeS codeC
      rw [if_neg h0, if_neg h0]
      exact ⟨rfl, rfl⟩
    have hC := fun (W : World) (hW : SRow W b S (bitS S x) vo vn vf) => Rfull_any hW hs hok N hN
    rw [show bitV S x = 1 by omega] at hB
    clear h0 hb
    go_enter Try.func61, Try.ntmps61
    go_wp2_with (first
      | (go_at_call 79; refine (hC _ hr1).mono ?_; rintro e w2 ⟨v, rfl, hr2, hon2, hw2, hf2⟩)
      | (go_at_call 50; refine hB.mono ?_; rintro e w1 ⟨rfl, hr1, hon1⟩))
    go_ret
    rw [HS.out.1, HS.out.2]
    exact ⟨_, rfl, hr2, hon1.trans hon2, hw2, fun g hg => Nat.le_trans hon1.size (hf2 g hg)⟩
end Go.Proofs.Ytmpfgdmdnghhgaa

/- WHERE WHAT CAME OUT, THE NOTES AND THE DISTANCES OF THE DOCUMENT's READER LIE. -/
namespace Go.Proofs.Ytmpfgdmdnghhgaa
open Go.RowKit Wr

structure DR (w : World) (b : Nat) (S : ByteArray) (d : Dr) (vo vn vf : Value) : Prop where
  row : SRow w b S d.x vo vn vf
  out : w.ownsRow 0 5 1 vo d.out.length (d.out.map (Value.int .u8))
  notes : w.ownsRow 0 9 1 vn d.notes.length (d.notes.map Value.string)
  far : ∃ g, vf = .slice (some ⟨g, 0, none⟩) 4 4 ∧ w.rowIs g 3 4 (fun i => .int .i64 (d.far i))
  ob : vo.ownBlock ≠ some b
  nb : vn.ownBlock ≠ some b
  fb : vf.ownBlock ≠ some b
  on : ∀ g, vo.ownBlock = some g → vn.ownBlock ≠ some g
  of_ : ∀ g, vf.ownBlock = some g → vo.ownBlock ≠ some g
  nf : ∀ g, vf.ownBlock = some g → vn.ownBlock ≠ some g

/-- all blocks that were there are as they were, but b and those of what came out and of the notes; these go on or are new -/
structure Stp (b : Nat) (vo vn : Value) (w : World) (vo' vn' : Value) (w' : World) : Prop where
  os : w'.os = w.os
  tape : w'.tape = w.tape
  output : w'.output = w.output
  size : w.heap.size ≤ w'.heap.size
  block : ∀ k, k < w.heap.size → k ≠ b → vo.ownBlock ≠ some k → vn.ownBlock ≠ some k → w'.heap[k]? = w.heap[k]?
  oo : vo'.ownBlock = vo.ownBlock ∨ ∃ g, vo'.ownBlock = some g ∧ w.heap.size ≤ g
  nn : vn'.ownBlock = vn.ownBlock ∨ ∃ g, vn'.ownBlock = some g ∧ w.heap.size ≤ g

theorem Stp.refl (b : Nat) (vo vn : Value) (w : World) : Stp b vo vn w vo vn w := ⟨rfl, rfl, rfl, Nat.le_refl _, fun _ _ _ _ _ => rfl, Or.inl rfl, Or.inl rfl⟩
theorem Stp.of_on {b : Nat} (vo vn : Value) {w w' : World} (h : On b w w') : Stp b vo vn w vo vn w' := ⟨h.os, h.tape, h.output, h.size, fun k hk hb _ _ => h.block k hk hb, Or.inl rfl, Or.inl rfl⟩
theorem own_new {v v' : Value} {n k : Nat} (h : v'.ownBlock = v.ownBlock ∨ ∃ g, v'.ownBlock = some g ∧ n ≤ g) (hv : v.ownBlock ≠ some k) (hk : k < n) : v'.ownBlock ≠ some k := by
  rcases h with h | ⟨g, h, hg⟩
  · rw [h]; exact hv
  · rw [h]
    intro q
    have := Option.some.inj q
    omega
theorem own_trans {v v' v'' : Value} {n m : Nat} (h : v'.ownBlock = v.ownBlock ∨ ∃ g, v'.ownBlock = some g ∧ n ≤ g) (k : v''.ownBlock = v'.ownBlock ∨ ∃ g, v''.ownBlock = some g ∧ m ≤ g) (hm : n ≤ m) : v''.ownBlock = v.ownBlock ∨ ∃ g, v''.ownBlock = some g ∧ n ≤ g := by
  rcases k with k | ⟨g, k, hg⟩
  · rw [k]; exact h
  · exact Or.inr ⟨g, k, by omega⟩
theorem Stp.trans {b : Nat} {vo vn vo' vn' vo'' vn'' : Value} {w w' w'' : World} (h : Stp b vo vn w vo' vn' w') (k : Stp b vo' vn' w' vo'' vn'' w'') : Stp b vo vn w vo'' vn'' w'' :=
  ⟨k.os.trans h.os, k.tape.trans h.tape, k.output.trans h.output, Nat.le_trans h.size k.size,
   fun i hi hb h1 h2 => (k.block i (Nat.lt_of_lt_of_le hi h.size) hb (own_new h.oo h1 hi) (own_new h.nn h2 hi)).trans (h.block i hi hb h1 h2),
   own_trans h.oo k.oo h.size, own_trans h.nn k.nn h.size⟩

section
variable {w : World} {b : Nat} {S : ByteArray} {d : Dr} {vo vn vf : Value}
theorem owns_of_block {w' : World} {B : Nat} {e : TypeId} {size : Nat} {v : Value} {n : Nat} {xs : List Value} (h : w.ownsRow B e size v n xs) (hb : ∀ g, v.ownBlock = some g → w'.heap[g]? = w.heap[g]?) : w'.ownsRow B e size v n xs := by
  refine ⟨h.1, ?_⟩
  rcases h.2 with h2 | ⟨g, cap, cur, hv, hg, hh, r⟩
  · exact Or.inl h2
  · exact Or.inr ⟨g, cap, cur, hv, hg, by rw [hb g (by rw [hv]; rfl)]; exact hh, r⟩
theorem DR.on_ {w' : World} {y : Sr} (h : DR w b S d vo vn vf) (ho : On b w w') (hr : SRow w' b S y vo vn vf) : DR w' b S { d with x := y } vo vn vf := by
  refine ⟨hr, ?_, ?_, ?_, h.ob, h.nb, h.fb, h.on, h.of_, h.nf⟩
  · exact owns_of_block h.out fun g hg => ho.block g (h.out.lt g hg).2 (fun q => h.ob (by rw [hg, q]))
  · exact owns_of_block h.notes fun g hg => ho.block g (h.notes.lt g hg).2 (fun q => h.nb (by rw [hg, q]))
  · obtain ⟨g, hv, hrow⟩ := h.far
    refine ⟨g, hv, ho.row (fun q => h.fb (by rw [hv, ← q]; rfl)) hrow⟩

/-- one byte more -/
theorem DR.push {o : Obj} {w1 : World} {v' : Value} {c : Int} (h : DR w b S d vo vn vf)
    (hown : w1.ownsRow 0 5 1 v' (d.out.length + 1) (d.out.map (Value.int .u8) ++ [.int .u8 c])) (hg : (w.alloc o).grownBy w1 vo.ownBlock) (hat : v'.ownBlock = vo.ownBlock ∨ v'.ownBlock = some (w.alloc o).heap.size) :
    DR (w1.setCell ⟨b, 3, none⟩ v') b S { d with out := d.out ++ [c] } v' vn vf ∧ Stp b vo vn w v' vn (w1.setCell ⟨b, 3, none⟩ v') := by
  have hsz : (w.alloc o).heap.size = w.heap.size + 1 := by simp
  have hs1 := hg.size
  have hbl := h.row.lt
  have blk : ∀ k, k < w.heap.size → vo.ownBlock ≠ some k → w1.heap[k]? = w.heap[k]? := fun k hk hne => (hg.block k (by omega) (fun q => hne q.symm)).trans (Below.heap_alloc _ _ _ hk)
  have hoo : v'.ownBlock = vo.ownBlock ∨ ∃ g, v'.ownBlock = some g ∧ w.heap.size ≤ g := by
    rcases hat with q | q
    · exact Or.inl q
    · exact Or.inr ⟨_, q, by omega⟩
  have hvb : v'.ownBlock ≠ some b := own_new hoo h.ob hbl
  have blk2 : ∀ k, k < w.heap.size → k ≠ b → vo.ownBlock ≠ some k → (w1.setCell ⟨b, 3, none⟩ v').heap[k]? = w.heap[k]? := fun k hk hb hne => (Below.heap_setCell _ _ _ _ hb).trans (blk k hk hne)
  have hr1 : SRow w1 b S d.x vo vn vf := h.row.of_block (blk b hbl h.ob)
  refine ⟨⟨hr1.set_out v', ?_, ?_, ?_, hvb, h.nb, h.fb, ?_, ?_, h.nf⟩, ⟨hg.os, hg.tape, hg.output, by show w.heap.size ≤ (w1.setCell _ _).heap.size; simp [World.setCell]; omega, fun k hk hb h1 _ => blk2 k hk hb h1, hoo, Or.inl rfl⟩⟩
  · have e : (d.out ++ [c]).map (Value.int .u8) = d.out.map (Value.int .u8) ++ [.int .u8 c] := by simp
    have e2 : (d.out ++ [c]).length = d.out.length + 1 := by simp
    show World.ownsRow _ 0 _ 1 v' (d.out ++ [c]).length ((d.out ++ [c]).map (Value.int .u8))
    rw [e, e2]
    exact owns_of_block hown fun g hgg => Below.heap_setCell _ _ _ _ (fun q => hvb (by rw [hgg, q]))
  · exact owns_of_block h.notes fun g hgg => blk2 g (h.notes.lt g hgg).2 (fun q => h.nb (by rw [hgg, q])) (fun q => h.on g q hgg)
  · obtain ⟨g, hv, hrow⟩ := h.far
    exact ⟨g, hv, World.rowIs.of_block hrow (blk2 g (World.rowIs.lt hrow) (fun q => h.fb (by rw [hv, ← q]; rfl)) (h.of_ g (by rw [hv]; rfl)))⟩
  · intro g hgg
    rcases hoo with q | ⟨g2, q, hq⟩
    · exact h.on g (by rw [← q]; exact hgg)
    · intro hn
      have := (h.notes.lt g hn).2
      rw [q] at hgg
      have := Option.some.inj hgg
      omega
  · intro g hgg
    obtain ⟨g1, hv, hrow⟩ := h.far
    have hl := World.rowIs.lt hrow
    refine own_new hoo (h.of_ g hgg) ?_
    rw [hv] at hgg
    have : g1 = g := Option.some.inj hgg
    omega
/-- one note more -/
theorem DR.note {o : Obj} {w1 : World} {v' : Value} {c : ByteArray} (h : DR w b S d vo vn vf)
    (hown : w1.ownsRow 0 9 1 v' (d.notes.length + 1) (d.notes.map Value.string ++ [.string c])) (hg : (w.alloc o).grownBy w1 vn.ownBlock) (hat : v'.ownBlock = vn.ownBlock ∨ v'.ownBlock = some (w.alloc o).heap.size) :
    DR (w1.setCell ⟨b, 5, none⟩ v') b S { d with notes := d.notes ++ [c] } vo v' vf ∧ Stp b vo vn w vo v' (w1.setCell ⟨b, 5, none⟩ v') := by
  have hsz : (w.alloc o).heap.size = w.heap.size + 1 := by simp
  have hs1 := hg.size
  have hbl := h.row.lt
  have blk : ∀ k, k < w.heap.size → vn.ownBlock ≠ some k → w1.heap[k]? = w.heap[k]? := fun k hk hne => (hg.block k (by omega) (fun q => hne q.symm)).trans (Below.heap_alloc _ _ _ hk)
  have hoo : v'.ownBlock = vn.ownBlock ∨ ∃ g, v'.ownBlock = some g ∧ w.heap.size ≤ g := by
    rcases hat with q | q
    · exact Or.inl q
    · exact Or.inr ⟨_, q, by omega⟩
  have hvb : v'.ownBlock ≠ some b := own_new hoo h.nb hbl
  have blk2 : ∀ k, k < w.heap.size → k ≠ b → vn.ownBlock ≠ some k → (w1.setCell ⟨b, 5, none⟩ v').heap[k]? = w.heap[k]? := fun k hk hb hne => (Below.heap_setCell _ _ _ _ hb).trans (blk k hk hne)
  have hr1 : SRow w1 b S d.x vo vn vf := h.row.of_block (blk b hbl h.nb)
  refine ⟨⟨hr1.set_notes v', ?_, ?_, ?_, h.ob, hvb, h.fb, ?_, h.of_, ?_⟩, ⟨hg.os, hg.tape, hg.output, by show w.heap.size ≤ (w1.setCell _ _).heap.size; simp [World.setCell]; omega, fun k hk hb _ h2 => blk2 k hk hb h2, Or.inl rfl, hoo⟩⟩
  · exact owns_of_block h.out fun g hgg => blk2 g (h.out.lt g hgg).2 (fun q => h.ob (by rw [hgg, q])) (h.on g hgg)
  · have e : (d.notes ++ [c]).map Value.string = d.notes.map Value.string ++ [.string c] := by simp
    have e2 : (d.notes ++ [c]).length = d.notes.length + 1 := by simp
    show World.ownsRow _ 0 _ 1 v' (d.notes ++ [c]).length ((d.notes ++ [c]).map Value.string)
    rw [e, e2]
    exact owns_of_block hown fun g hgg => Below.heap_setCell _ _ _ _ (fun q => hvb (by rw [hgg, q]))
  · obtain ⟨g, hv, hrow⟩ := h.far
    exact ⟨g, hv, World.rowIs.of_block hrow (blk2 g (World.rowIs.lt hrow) (fun q => h.fb (by rw [hv, ← q]; rfl)) (h.nf g (by rw [hv]; rfl)))⟩
  · intro g hgg
    refine own_new hoo (h.on g hgg) (h.out.lt g hgg).2
  · intro g hgg
    obtain ⟨g1, hv, hrow⟩ := h.far
    have hl := World.rowIs.lt hrow
    refine own_new hoo (h.nf g hgg) ?_
    rw [hv] at hgg
    have : g1 = g := Option.some.inj hgg
    omega
/-- other distances: in a new row -/
theorem DR.set_far {c : Array Value} {f : Nat → Int} (h : DR w b S d vo vn vf) (hc : c.size = 4) (hf : ∀ i, i < 4 → c[i]? = some (.int .i64 (f i))) :
    DR ((w.alloc (.cells c 3)).setCell ⟨b, 6, none⟩ (.slice (some ⟨w.heap.size, 0, none⟩) 4 4)) b S { d with far := f } vo vn (.slice (some ⟨w.heap.size, 0, none⟩) 4 4) ∧
    Stp b vo vn w vo vn ((w.alloc (.cells c 3)).setCell ⟨b, 6, none⟩ (.slice (some ⟨w.heap.size, 0, none⟩) 4 4)) := by
  have hbl := h.row.lt
  have blk : ∀ k, k < w.heap.size → k ≠ b → ((w.alloc (.cells c 3)).setCell ⟨b, 6, none⟩ (.slice (some ⟨w.heap.size, 0, none⟩) 4 4)).heap[k]? = w.heap[k]? := fun k hk hb => (Below.heap_setCell _ _ _ _ hb).trans (Below.heap_alloc _ _ _ hk)
  have hne : ∀ {v : Value} {B : Nat} {e : TypeId} {size n : Nat} {xs : List Value}, w.ownsRow B e size v n xs → ∀ g, (Value.slice (some ⟨w.heap.size, 0, none⟩) 4 4).ownBlock = some g → v.ownBlock ≠ some g := by
    intro v B e size n xs ho g hg q
    have : w.heap.size = g := Option.some.inj hg
    have := (ho.lt g q).2
    omega
  refine ⟨⟨(h.row.alloc _).set_far _, ?_, ?_, ⟨w.heap.size, rfl, ?_⟩, h.ob, h.nb, ?_, h.on, hne h.out, hne h.notes⟩, ⟨rfl, rfl, rfl, by simp [World.setCell], fun k hk hb _ _ => blk k hk hb, Or.inl rfl, Or.inl rfl⟩⟩
  · exact owns_of_block h.out fun g hgg => blk g (h.out.lt g hgg).2 (fun q => h.ob (by rw [hgg, q]))
  · exact owns_of_block h.notes fun g hgg => blk g (h.notes.lt g hgg).2 (fun q => h.nb (by rw [hgg, q]))
  · have hr := World.rowIs_alloc w c 3 (fun i => .int .i64 (f i)) (fun i hi => hf i (by omega))
    rw [hc] at hr
    exact World.rowIs.setOther hr (by show w.heap.size ≠ b; omega) _
  · intro q
    have : w.heap.size = b := Option.some.inj q
    omega
end

/-- the words of a code, apart from all that is written -/
structure WOk (w : World) (v : Value) (ws : List Wd) (b : Nat) (vo vn : Value) : Prop where
  words : Words w v ws
  nb : ∀ g, v.ownBlock = some g → g ≠ b
  ap : 0 < ws.length → ∀ g, v.ownBlock = some g → vo.ownBlock ≠ some g ∧ vn.ownBlock ≠ some g
theorem WOk.stp {w w' : World} {v : Value} {ws : List Wd} {b : Nat} {vo vn vo' vn' : Value} (h : WOk w v ws b vo vn) (hs : Stp b vo vn w vo' vn' w') : WOk w' v ws b vo' vn' := by
  obtain ⟨a, cap, hv, hrow⟩ := h.words
  by_cases h0 : 0 < ws.length
  · obtain ⟨g, ha, hg, hc⟩ := hrow h0
    have hgv : v.ownBlock = some g := by rw [hv, ha]; rfl
    have ap := h.ap h0 g hgv
    have hb := hs.block g hg (h.nb g hgv) ap.1 ap.2
    refine ⟨⟨a, cap, hv, fun _ => ⟨g, ha, Nat.lt_of_lt_of_le hg hs.size, fun i hi => ?_⟩⟩, h.nb, fun _ g2 hg2 => ?_⟩
    · exact ⟨(World.cell?_of_block hb).trans (hc i hi).1, (World.cell?_of_block hb).trans (hc i hi).2⟩
    · rw [hgv] at hg2
      have := Option.some.inj hg2
      subst this
      exact ⟨own_new hs.oo ap.1 hg, own_new hs.nn ap.2 hg⟩
  · exact ⟨⟨a, cap, hv, fun q => absurd q h0⟩, h.nb, fun q => absurd q h0⟩
end Go.Proofs.Ytmpfgdmdnghhgaa

namespace Go.Proofs.Ytmpfgdmdnghhgaa
open Go.RowKit Wr

theorem conv1r (W : World) (u : Int) : (convert 37 9 (.slice (some ⟨W.heap.size, 0, none⟩) 1 1)).run Try.prog (W.alloc (.cells #[.int .u8 u] 5)) = .ok (.string (outStr [u])) (W.alloc (.cells #[.int .u8 u] 5)) :=
  run_out (B := 0) (l := [u]) ⟨rfl, Or.inr ⟨W.heap.size, 1, #[.int .u8 u], rfl, Nat.zero_le _, heap_alloc_new W _, Nat.le_refl _, by unfold maxLen; show 1 ≤ _; omega, rfl, rfl⟩⟩
theorem outStr_push (l : List Int) (c : Int) : outStr l ++ outStr [c] = outStr (l ++ [c]) := by
  apply bytes_ext
  rw [app_list, outStr_list, outStr_list, outStr_list, List.map_append]
theorem outStr_size (l : List Int) : (outStr l).size = l.length := by
  have := congrArg List.length (outStr_list l)
  rw [List.length_map] at this
  rw [← this]
  rfl

theorem bytesGo_stop {S : ByteArray} {x : Sr} (n : Nat) (h : x.state ≠ 0) : bytesGo S n x = ([], x) := by
  cases n with
  | zero => rfl
  | succ n => unfold bytesGo; rw [if_pos h]

set_option maxRecDepth 100000 in
set_option maxHeartbeats 1000000 in
theorem Rbytes_any {w : World} {b : Nat} {S : ByteArray} {x : Sr} {vo vn vf : Value} (h : SRow w b S x vo vn vf) (hs : S.size ≤ 268435456) (ha : okAt S x) (n : Nat) (hn : n ≤ 4096) :
    Calls Try.prog 51 #[.pointer (some ⟨b, 0, none⟩), .int .i64 n] w fun e w' => e = .returned (.string (outStr (bytesGo S n x).1)) ∧ SRow w' b S (bytesGo S n x).2 vo vn vf ∧ On b w w' := by
  go_enter Try.func51, Try.ntmps51
  go_wp2
  go_loopw [5, 6] (fun vs vi wr => ∃ (i : Nat) (l : List Int) (y : Sr), i ≤ n ∧ vs = .string (outStr l) ∧ vi = .int .i64 i ∧ Hid (l ++ (bytesGo S (n - i) y).1 = (bytesGo S n x).1 ∧ (bytesGo S (n - i) y).2 = (bytesGo S n x).2) ∧ l.length ≤ i ∧ okAt S y ∧ SRow wr b S y vo vn vf ∧ On b w wr) (fun _ vi _ => n - (intOf vi).toNat)
  case atStart => exact ⟨0, [], x, by omega, rfl, rfl, ⟨rfl, rfl⟩, by simp, ha, h, On.refl b w⟩
  case round =>
    obtain ⟨i, l, y, hin, rfl, rfl, HF, hl, hoky, hr, hon⟩ := hrel
    have c3 := hr.c_state
    have hfz := hr.free
    have hls := outStr_size l
    by_cases hlt : i < n
    · have HE : Hid (n - i = n - (i + 1) + 1) := by rw [Hid]; omega
      by_cases h0 : y.state = 0
      · have hC := Rnumber_any hr hs hoky 8 (by omega)
        have hvb := numV_bounds S y 8
        rw [show (2 : Int) ^ 8 = 256 from rfl] at hvb
        have hok2 := numS_ok hoky 8
        rw [h0] at c3
        by_cases h2 : (numS S y 8).state = 0
        · have HG : Hid (bytesGo S (n - i) y = (numV S y 8 :: (bytesGo S (n - (i + 1)) (numS S y 8)).1, (bytesGo S (n - (i + 1)) (numS S y 8)).2)) := by
            rw [Hid, HE.out]
            conv => lhs; unfold bytesGo
            rw [if_neg (fun q => q h0), if_neg (fun q => q h2)]
          have HH : Hid (l ++ [numV S y 8] ++ (bytesGo S (n - (i + 1)) (numS S y 8)).1 = (bytesGo S n x).1 ∧ (bytesGo S (n - (i + 1)) (numS S y 8)).2 = (bytesGo S n x).2) := by
            have := HF.out
            rw [HG.out] at this
            rw [List.append_assoc]
            exact this
          clear HG HF HE
          generalize numV S y 8 = v at *
          generalize numS S y 8 = y1 at *
          have hcv := fun (W : World) => conv1r W v
          have hap := outStr_push l v
          have hlp : (l ++ [v]).length = l.length + 1 := by simp
          have HAP : Hid (outStr l ++ outStr [v] = outStr (l ++ [v])) := hap
          have HLP : Hid ((l ++ [v]).length ≤ i + 1) := by rw [Hid]; omega
          have hsv := outStr_size [v]
          clear hap hlp
          generalize outStr l = T at *
          generalize outStr [v] = T1 at *
          go_wp2_with (first
            | (go_at_call 39; refine hC.mono ?_; rintro e w1 ⟨rfl, hr1, hon1⟩; have c4 := hr1.c_state; have hfz4 := hr1.free; rw [h2] at c4))
          go_roundw
          case rel => exact ⟨i + 1, l ++ [v], y1, by omega, by rw [HAP.out], by go_num, HH, HLP, hok2, hr1.alloc _, (hon.trans hon1).alloc _⟩
          case measure => simp [intOf]; omega
        · have HG : Hid (bytesGo S (n - i) y = ([], numS S y 8)) := by
            rw [Hid, HE.out]
            conv => lhs; unfold bytesGo
            rw [if_neg (fun q => q h0), if_pos h2]
          have HH : Hid (l ++ (bytesGo S (n - (i + 1)) (numS S y 8)).1 = (bytesGo S n x).1 ∧ (bytesGo S (n - (i + 1)) (numS S y 8)).2 = (bytesGo S n x).2) := by
            have := HF.out
            rw [HG.out] at this
            rw [bytesGo_stop _ h2]
            exact this
          clear HG HF HE
          generalize numV S y 8 = v at *
          generalize numS S y 8 = y1 at *
          go_wp2_with (first
            | (go_at_call 39; refine hC.mono ?_; rintro e w1 ⟨rfl, hr1, hon1⟩; have c4 := hr1.c_state; have hfz4 := hr1.free))
          go_roundw
          case rel => exact ⟨i + 1, l, y1, by omega, rfl, by go_num, HH, by omega, hok2, hr1, hon.trans hon1⟩
          case measure => simp [intOf]; omega
      · have HG : Hid ((bytesGo S n x).1 = l ∧ (bytesGo S n x).2 = y) := by
          have := HF.out
          rw [bytesGo_stop _ h0, List.append_nil] at this
          exact ⟨this.1.symm, this.2.symm⟩
        clear HF HE
        go_wp2
        go_ret
        rw [HG.out.1, HG.out.2]
        exact ⟨rfl, hr, hon⟩
    · have hi : i = n := by omega
      subst hi
      have HG : Hid ((bytesGo S i x).1 = l ∧ (bytesGo S i x).2 = y) := by
        have := HF.out
        rw [Nat.sub_self] at this
        have e : bytesGo S 0 y = ([], y) := rfl
        rw [e, List.append_nil] at this
        exact ⟨this.1.symm, this.2.symm⟩
      clear HF
      go_wp2
      go_ret
      rw [HG.out.1, HG.out.2]
      exact ⟨rfl, hr, hon⟩
end Go.Proofs.Ytmpfgdmdnghhgaa
