/- WHERE WHAT CAME OUT, THE NOTES AND THE DISTANCES OF THE DOCUMENT's READER LIE. -/
import Derived.Test.YtmpfgdmdnghhgaaR9
import Derived.Test.YtmpfgdmdnghhgaaRefP7
import Derived.Maps.AppendAt
namespace Go.Proofs.Ytmpfgdmdnghhgaa
open Go.RowKit Wr

structure DR (w : World) (b : Nat) (S : ByteArray) (d : Dr) (vo vn vf : Value) : Prop where
  row : SRow w b S d.x vo vn vf
  out : w.ownsRow 0 5 1 vo d.out.length (d.out.map (Value.int .u8))
  notes : w.ownsRow 0 9 1 vn d.notes.length (d.notes.map Value.string)
  far : ∃ g, vf = .slice (some ⟨g, 0, none⟩) 4 4 ∧ w.rowIs g 3 4 (fun i => .int .i64 (d.far i))
  ob : vo.ownBlock ≠ some b
  nb : vn.ownBlock ≠ some b
  fb : vf.ownBlock ≠ some b
  on : ∀ g, vo.ownBlock = some g → vn.ownBlock ≠ some g
  of_ : ∀ g, vf.ownBlock = some g → vo.ownBlock ≠ some g
  nf : ∀ g, vf.ownBlock = some g → vn.ownBlock ≠ some g

/-- all blocks that were there are as they were, but b and those of what came out and of the notes; these go on or are new -/
structure Stp (b : Nat) (vo vn : Value) (w : World) (vo' vn' : Value) (w' : World) : Prop where
  os : w'.os = w.os
  tape : w'.tape = w.tape
  output : w'.output = w.output
  size : w.heap.size ≤ w'.heap.size
  block : ∀ k, k < w.heap.size → k ≠ b → vo.ownBlock ≠ some k → vn.ownBlock ≠ some k → w'.heap[k]? = w.heap[k]?
  oo : vo'.ownBlock = vo.ownBlock ∨ ∃ g, vo'.ownBlock = some g ∧ w.heap.size ≤ g
  nn : vn'.ownBlock = vn.ownBlock ∨ ∃ g, vn'.ownBlock = some g ∧ w.heap.size ≤ g

theorem Stp.refl (b : Nat) (vo vn : Value) (w : World) : Stp b vo vn w vo vn w := ⟨rfl, rfl, rfl, Nat.le_refl _, fun _ _ _ _ _ => rfl, Or.inl rfl, Or.inl rfl⟩
theorem Stp.of_on {b : Nat} (vo vn : Value) {w w' : World} (h : On b w w') : Stp b vo vn w vo vn w' := ⟨h.os, h.tape, h.output, h.size, fun k hk hb _ _ => h.block k hk hb, Or.inl rfl, Or.inl rfl⟩
theorem own_new {v v' : Value} {n k : Nat} (h : v'.ownBlock = v.ownBlock ∨ ∃ g, v'.ownBlock = some g ∧ n ≤ g) (hv : v.ownBlock ≠ some k) (hk : k < n) : v'.ownBlock ≠ some k := by
  rcases h with h | ⟨g, h, hg⟩
  · rw [h]; exact hv
  · rw [h]
    intro q
    have := Option.some.inj q
    omega
theorem own_trans {v v' v'' : Value} {n m : Nat} (h : v'.ownBlock = v.ownBlock ∨ ∃ g, v'.ownBlock = some g ∧ n ≤ g) (k : v''.ownBlock = v'.ownBlock ∨ ∃ g, v''.ownBlock = some g ∧ m ≤ g) (hm : n ≤ m) : v''.ownBlock = v.ownBlock ∨ ∃ g, v''.ownBlock = some g ∧ n ≤ g := by
  rcases k with k | ⟨g, k, hg⟩
  · rw [k]; exact h
  · exact Or.inr ⟨g, k, by omega⟩
theorem Stp.trans {b : Nat} {vo vn vo' vn' vo'' vn'' : Value} {w w' w'' : World} (h : Stp b vo vn w vo' vn' w') (k : Stp b vo' vn' w' vo'' vn'' w'') : Stp b vo vn w vo'' vn'' w'' :=
  ⟨k.os.trans h.os, k.tape.trans h.tape, k.output.trans h.output, Nat.le_trans h.size k.size,
   fun i hi hb h1 h2 => (k.block i (Nat.lt_of_lt_of_le hi h.size) hb (own_new h.oo h1 hi) (own_new h.nn h2 hi)).trans (h.block i hi hb h1 h2),
   own_trans h.oo k.oo h.size, own_trans h.nn k.nn h.size⟩

section
variable {w : World} {b : Nat} {S : ByteArray} {d : Dr} {vo vn vf : Value}
theorem owns_of_block {w' : World} {B : Nat} {e : TypeId} {size : Nat} {v : Value} {n : Nat} {xs : List Value} (h : w.ownsRow B e size v n xs) (hb : ∀ g, v.ownBlock = some g → w'.heap[g]? = w.heap[g]?) : w'.ownsRow B e size v n xs := by
  refine ⟨h.1, ?_⟩
  rcases h.2 with h2 | ⟨g, cap, cur, hv, hg, hh, r⟩
  · exact Or.inl h2
  · exact Or.inr ⟨g, cap, cur, hv, hg, by rw [hb g (by rw [hv]; rfl)]; exact hh, r⟩
theorem DR.on_ {w' : World} {y : Sr} (h : DR w b S d vo vn vf) (ho : On b w w') (hr : SRow w' b S y vo vn vf) : DR w' b S { d with x := y } vo vn vf := by
  refine ⟨hr, ?_, ?_, ?_, h.ob, h.nb, h.fb, h.on, h.of_, h.nf⟩
  · exact owns_of_block h.out fun g hg => ho.block g (h.out.lt g hg).2 (fun q => h.ob (by rw [hg, q]))
  · exact owns_of_block h.notes fun g hg => ho.block g (h.notes.lt g hg).2 (fun q => h.nb (by rw [hg, q]))
  · obtain ⟨g, hv, hrow⟩ := h.far
    refine ⟨g, hv, ho.row (fun q => h.fb (by rw [hv, ← q]; rfl)) hrow⟩

/-- one byte more -/
theorem DR.push {o : Obj} {w1 : World} {v' : Value} {c : Int} (h : DR w b S d vo vn vf)
    (hown : w1.ownsRow 0 5 1 v' (d.out.length + 1) (d.out.map (Value.int .u8) ++ [.int .u8 c])) (hg : (w.alloc o).grownBy w1 vo.ownBlock) (hat : v'.ownBlock = vo.ownBlock ∨ v'.ownBlock = some (w.alloc o).heap.size) :
    DR (w1.setCell ⟨b, 3, none⟩ v') b S { d with out := d.out ++ [c] } v' vn vf ∧ Stp b vo vn w v' vn (w1.setCell ⟨b, 3, none⟩ v') := by
  have hsz : (w.alloc o).heap.size = w.heap.size + 1 := by simp
  have hs1 := hg.size
  have hbl := h.row.lt
  have blk : ∀ k, k < w.heap.size → vo.ownBlock ≠ some k → w1.heap[k]? = w.heap[k]? := fun k hk hne => (hg.block k (by omega) (fun q => hne q.symm)).trans (Below.heap_alloc _ _ _ hk)
  have hoo : v'.ownBlock = vo.ownBlock ∨ ∃ g, v'.ownBlock = some g ∧ w.heap.size ≤ g := by
    rcases hat with q | q
    · exact Or.inl q
    · exact Or.inr ⟨_, q, by omega⟩
  have hvb : v'.ownBlock ≠ some b := own_new hoo h.ob hbl
  have blk2 : ∀ k, k < w.heap.size → k ≠ b → vo.ownBlock ≠ some k → (w1.setCell ⟨b, 3, none⟩ v').heap[k]? = w.heap[k]? := fun k hk hb hne => (Below.heap_setCell _ _ _ _ hb).trans (blk k hk hne)
  have hr1 : SRow w1 b S d.x vo vn vf := h.row.of_block (blk b hbl h.ob)
  refine ⟨⟨hr1.set_out v', ?_, ?_, ?_, hvb, h.nb, h.fb, ?_, ?_, h.nf⟩, ⟨hg.os, hg.tape, hg.output, by show w.heap.size ≤ (w1.setCell _ _).heap.size; simp [World.setCell]; omega, fun k hk hb h1 _ => blk2 k hk hb h1, hoo, Or.inl rfl⟩⟩
  · have e : (d.out ++ [c]).map (Value.int .u8) = d.out.map (Value.int .u8) ++ [.int .u8 c] := by simp
    have e2 : (d.out ++ [c]).length = d.out.length + 1 := by simp
    show World.ownsRow _ 0 _ 1 v' (d.out ++ [c]).length ((d.out ++ [c]).map (Value.int .u8))
    rw [e, e2]
    exact owns_of_block hown fun g hgg => Below.heap_setCell _ _ _ _ (fun q => hvb (by rw [hgg, q]))
  · exact owns_of_block h.notes fun g hgg => blk2 g (h.notes.lt g hgg).2 (fun q => h.nb (by rw [hgg, q])) (fun q => h.on g q hgg)
  · obtain ⟨g, hv, hrow⟩ := h.far
    exact ⟨g, hv, World.rowIs.of_block hrow (blk2 g (World.rowIs.lt hrow) (fun q => h.fb (by rw [hv, ← q]; rfl)) (h.of_ g (by rw [hv]; rfl)))⟩
  · intro g hgg
    rcases hoo with q | ⟨g2, q, hq⟩
    · exact h.on g (by rw [← q]; exact hgg)
    · intro hn
      have := (h.notes.lt g hn).2
      rw [q] at hgg
      have := Option.some.inj hgg
      omega
  · intro g hgg
    obtain ⟨g1, hv, hrow⟩ := h.far
    have hl := World.rowIs.lt hrow
    refine own_new hoo (h.of_ g hgg) ?_
    rw [hv] at hgg
    have : g1 = g := Option.some.inj hgg
    omega
/-- one note more -/
theorem DR.note {o : Obj} {w1 : World} {v' : Value} {c : ByteArray} (h : DR w b S d vo vn vf)
    (hown : w1.ownsRow 0 9 1 v' (d.notes.length + 1) (d.notes.map Value.string ++ [.string c])) (hg : (w.alloc o).grownBy w1 vn.ownBlock) (hat : v'.ownBlock = vn.ownBlock ∨ v'.ownBlock = some (w.alloc o).heap.size) :
    DR (w1.setCell ⟨b, 5, none⟩ v') b S { d with notes := d.notes ++ [c] } vo v' vf ∧ Stp b vo vn w vo v' (w1.setCell ⟨b, 5, none⟩ v') := by
  have hsz : (w.alloc o).heap.size = w.heap.size + 1 := by simp
  have hs1 := hg.size
  have hbl := h.row.lt
  have blk : ∀ k, k < w.heap.size → vn.ownBlock ≠ some k → w1.heap[k]? = w.heap[k]? := fun k hk hne => (hg.block k (by omega) (fun q => hne q.symm)).trans (Below.heap_alloc _ _ _ hk)
  have hoo : v'.ownBlock = vn.ownBlock ∨ ∃ g, v'.ownBlock = some g ∧ w.heap.size ≤ g := by
    rcases hat with q | q
    · exact Or.inl q
    · exact Or.inr ⟨_, q, by omega⟩
  have hvb : v'.ownBlock ≠ some b := own_new hoo h.nb hbl
  have blk2 : ∀ k, k < w.heap.size → k ≠ b → vn.ownBlock ≠ some k → (w1.setCell ⟨b, 5, none⟩ v').heap[k]? = w.heap[k]? := fun k hk hb hne => (Below.heap_setCell _ _ _ _ hb).trans (blk k hk hne)
  have hr1 : SRow w1 b S d.x vo vn vf := h.row.of_block (blk b hbl h.nb)
  refine ⟨⟨hr1.set_notes v', ?_, ?_, ?_, h.ob, hvb, h.fb, ?_, h.of_, ?_⟩, ⟨hg.os, hg.tape, hg.output, by show w.heap.size ≤ (w1.setCell _ _).heap.size; simp [World.setCell]; omega, fun k hk hb _ h2 => blk2 k hk hb h2, Or.inl rfl, hoo⟩⟩
  · exact owns_of_block h.out fun g hgg => blk2 g (h.out.lt g hgg).2 (fun q => h.ob (by rw [hgg, q])) (h.on g hgg)
  · have e : (d.notes ++ [c]).map Value.string = d.notes.map Value.string ++ [.string c] := by simp
    have e2 : (d.notes ++ [c]).length = d.notes.length + 1 := by simp
    show World.ownsRow _ 0 _ 1 v' (d.notes ++ [c]).length ((d.notes ++ [c]).map Value.string)
    rw [e, e2]
    exact owns_of_block hown fun g hgg => Below.heap_setCell _ _ _ _ (fun q => hvb (by rw [hgg, q]))
  · obtain ⟨g, hv, hrow⟩ := h.far
    exact ⟨g, hv, World.rowIs.of_block hrow (blk2 g (World.rowIs.lt hrow) (fun q => h.fb (by rw [hv, ← q]; rfl)) (h.nf g (by rw [hv]; rfl)))⟩
  · intro g hgg
    refine own_new hoo (h.on g hgg) (h.out.lt g hgg).2
  · intro g hgg
    obtain ⟨g1, hv, hrow⟩ := h.far
    have hl := World.rowIs.lt hrow
    refine own_new hoo (h.nf g hgg) ?_
    rw [hv] at hgg
    have : g1 = g := Option.some.inj hgg
    omega
/-- other distances: in a new row -/
theorem DR.set_far {c : Array Value} {f : Nat → Int} (h : DR w b S d vo vn vf) (hc : c.size = 4) (hf : ∀ i, i < 4 → c[i]? = some (.int .i64 (f i))) :
    DR ((w.alloc (.cells c 3)).setCell ⟨b, 6, none⟩ (.slice (some ⟨w.heap.size, 0, none⟩) 4 4)) b S { d with far := f } vo vn (.slice (some ⟨w.heap.size, 0, none⟩) 4 4) ∧
    Stp b vo vn w vo vn ((w.alloc (.cells c 3)).setCell ⟨b, 6, none⟩ (.slice (some ⟨w.heap.size, 0, none⟩) 4 4)) := by
  have hbl := h.row.lt
  have blk : ∀ k, k < w.heap.size → k ≠ b → ((w.alloc (.cells c 3)).setCell ⟨b, 6, none⟩ (.slice (some ⟨w.heap.size, 0, none⟩) 4 4)).heap[k]? = w.heap[k]? := fun k hk hb => (Below.heap_setCell _ _ _ _ hb).trans (Below.heap_alloc _ _ _ hk)
  have hne : ∀ {v : Value} {B : Nat} {e : TypeId} {size n : Nat} {xs : List Value}, w.ownsRow B e size v n xs → ∀ g, (Value.slice (some ⟨w.heap.size, 0, none⟩) 4 4).ownBlock = some g → v.ownBlock ≠ some g := by
    intro v B e size n xs ho g hg q
    have : w.heap.size = g := Option.some.inj hg
    have := (ho.lt g q).2
    omega
  refine ⟨⟨(h.row.alloc _).set_far _, ?_, ?_, ⟨w.heap.size, rfl, ?_⟩, h.ob, h.nb, ?_, h.on, hne h.out, hne h.notes⟩, ⟨rfl, rfl, rfl, by simp [World.setCell], fun k hk hb _ _ => blk k hk hb, Or.inl rfl, Or.inl rfl⟩⟩
  · exact owns_of_block h.out fun g hgg => blk g (h.out.lt g hgg).2 (fun q => h.ob (by rw [hgg, q]))
  · exact owns_of_block h.notes fun g hgg => blk g (h.notes.lt g hgg).2 (fun q => h.nb (by rw [hgg, q]))
  · have hr := World.rowIs_alloc w c 3 (fun i => .int .i64 (f i)) (fun i hi => hf i (by omega))
    rw [hc] at hr
    exact World.rowIs.setOther hr (by show w.heap.size ≠ b; omega) _
  · intro q
    have : w.heap.size = b := Option.some.inj q
    omega
end

/-- the words of a code, apart from all that is written -/
structure WOk (w : World) (v : Value) (ws : List Wd) (b : Nat) (vo vn : Value) : Prop where
  words : Words w v ws
  nb : ∀ g, v.ownBlock = some g → g ≠ b
  ap : 0 < ws.length → ∀ g, v.ownBlock = some g → vo.ownBlock ≠ some g ∧ vn.ownBlock ≠ some g
theorem WOk.stp {w w' : World} {v : Value} {ws : List Wd} {b : Nat} {vo vn vo' vn' : Value} (h : WOk w v ws b vo vn) (hs : Stp b vo vn w vo' vn' w') : WOk w' v ws b vo' vn' := by
  obtain ⟨a, cap, hv, hrow⟩ := h.words
  by_cases h0 : 0 < ws.length
  · obtain ⟨g, ha, hg, hc⟩ := hrow h0
    have hgv : v.ownBlock = some g := by rw [hv, ha]; rfl
    have ap := h.ap h0 g hgv
    have hb := hs.block g hg (h.nb g hgv) ap.1 ap.2
    refine ⟨⟨a, cap, hv, fun _ => ⟨g, ha, Nat.lt_of_lt_of_le hg hs.size, fun i hi => ?_⟩⟩, h.nb, fun _ g2 hg2 => ?_⟩
    · exact ⟨(World.cell?_of_block hb).trans (hc i hi).1, (World.cell?_of_block hb).trans (hc i hi).2⟩
    · rw [hgv] at hg2
      have := Option.some.inj hg2
      subst this
      exact ⟨own_new hs.oo ap.1 hg, own_new hs.nn ap.2 hg⟩
  · exact ⟨⟨a, cap, hv, fun q => absurd q h0⟩, h.nb, fun q => absurd q h0⟩
end Go.Proofs.Ytmpfgdmdnghhgaa
