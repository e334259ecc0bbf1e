import Derived.Test.YtmpfgdmdnghhgaaGreatX3
namespace Go.Proofs.YtmpfgdmdnghhgaaGreat
open Go.RowKit Wr

set_option maxHeartbeats 400000 in
theorem blocks_any (w : World) (n : Int) (h0 : 0 ≤ n) (h1 : n ≤ 1099511627776) : Calls Tryz.prog 18 #[.int .i64 n] w fun e w' => e = .returned (.int .i64 ((n + 4095) / 4096)) ∧ w' = w := by
  go_enter Tryz.func18, Tryz.ntmps18
  go_wp2
  go_ret
  refine ⟨?_, rfl⟩
  rw [show n + 4095 = n + 4096 - 1 by omega]
  rfl

/- the pattern -/
def pat0 (s : ByteArray) : ByteArray := if s.size = 0 then ⟨#[120]⟩ else s
def pat1 (s : ByteArray) : ByteArray := if 16 < (pat0 s).size then (pat0 s).extract 0 16 else pat0 s
def patF (s : ByteArray) (k : Int) : ByteArray := if k = 1 then (pat1 s).extract 0 1 else pat1 s
def eachF (s : ByteArray) (k : Int) : Int := if (patF s k).size = 1 then 12 else 128
theorem pat0_size (s : ByteArray) : 1 ≤ (pat0 s).size := by
  unfold pat0
  split
  · show 1 ≤ 1; omega
  · omega
theorem pat1_size (s : ByteArray) : 1 ≤ (pat1 s).size ∧ (pat1 s).size ≤ 16 := by
  have := pat0_size s
  unfold pat1
  split
  · rw [ByteArray.size_extract]; omega
  · omega
theorem patF_size (s : ByteArray) (k : Int) : 1 ≤ (patF s k).size ∧ (patF s k).size ≤ 16 ∧ (k = 1 → (patF s k).size = 1) := by
  have := pat1_size s
  unfold patF
  split
  · rw [ByteArray.size_extract]; omega
  · rename_i h; exact ⟨this.1, this.2, fun e => absurd e h⟩
theorem lim_of (s : ByteArray) (k x : Int) (hk : k = 1 ∨ k = 2) : Lim (patF s k) (levelP k) (16 * 2 ^ (windowP x).toNat) (8 * eachF s k) := by
  have hp := patF_size s k
  have hl : levelP k = k := if_pos (by omega)
  have hw : (16 : Int) ≤ 16 * 2 ^ (windowP x).toNat := by have := pow_pos2 (windowP x).toNat; omega
  rw [hl]
  unfold eachF
  by_cases h1 : (patF s k).size = 1
  · rw [if_pos h1]
    exact lim_one h1 (by omega)
  · rw [if_neg h1]
    exact lim_many hp.1 hp.2.1 (by have := hp.2.2; omega) hw

theorem no_bytes {x : ByteArray} (h : x.size = 0) : x.toList.isEmpty = true := by
  have h2 : x.toList.length = x.size := by rw [Lib.toList_data]; simp
  cases e : x.toList with
  | nil => rfl
  | cons c l => rw [e, List.length_cons] at h2; omega

/-- a call that is laid down -/
def clCells (T : ByteArray) (j : Nat) : Value := if j = 0 then .int .i64 1 else .string T
theorem cl_row (W : World) (T : ByteArray) : (W.alloc (.cells #[.int .i64 1, .string T] 43)).rowIs W.heap.size 43 2 (clCells T) :=
  World.rowIs_alloc W _ 43 (clCells T) (fun i hi => by
      match i, hi with
      | 0, _ => rfl
      | 1, _ => rfl)
theorem cl_keep {W w3 : World} {T : ByteArray} (h : Below (W.alloc (.cells #[.int .i64 1, .string T] 43)).heap.size (W.alloc (.cells #[.int .i64 1, .string T] 43)) w3) : w3.rowIs W.heap.size 43 2 (clCells T) :=
  World.rowIs.of_block (cl_row W T) (h.block _ (World.rowIs.lt (cl_row W T)))
theorem cl_below {W w3 : World} {T : ByteArray} (h : Below (W.alloc (.cells #[.int .i64 1, .string T] 43)).heap.size (W.alloc (.cells #[.int .i64 1, .string T] 43)) w3) (v : Value) : Below W.heap.size W (w3.setCell ⟨W.heap.size, 1, none⟩ v) :=
  (((Below.refl W.heap.size W).alloc (Nat.le_refl _) _).trans (h.mono (by simp))).setCell (Nat.le_refl _) v
theorem cl_facts {w3 : World} {g : Nat} {T : ByteArray} (h : w3.rowIs g 43 2 (clCells T)) : w3.cell? ⟨g, 0, none⟩ = some (.int .i64 1) ∧ w3.cell? ⟨g, 1, none⟩ = some (.string T) := ⟨World.rowIs.cell h (by omega), World.rowIs.cell h (by omega)⟩

set_option maxRecDepth 100000 in
set_option maxHeartbeats 1000000 in
theorem Shorter_any (w : World) (x l : Int) (a : Option Addr) (len cap : Nat) (c : Nat → Int × ByteArray) (s : ByteArray) (x0 : -9223372036854775808 ≤ x) (x1 : x ≤ 9223372036854775807) (l0 : -9223372036854775808 ≤ l) (l1 : l ≤ 9223372036854775807)
    (hc : IsCalls w a len c) (hb : bulk c len ≤ 2097152) (hs : s.size ≤ 1048576) :
    Calls Tryz.prog 8 #[.int .i64 x, .int .i64 l, .slice a len cap, .string s] w fun e w' => e = .returned (.bool true) ∧ Below w.heap.size w w' := by
  have hPk := fun W => pick_any W l 2 l0 l1 (by omega) (by omega)
  have hpb := pickP_bounds l 2 (by omega)
  generalize pickP l 2 = k0 at *
  have hk12 : 1 + k0 = 1 ∨ 1 + k0 = 2 := by omega
  have hps0 := pat0_size s
  have hps1 := pat1_size s
  have hps := patF_size s (1 + k0)
  have HL := lim_of s (1 + k0) x hk12
  have H0 : Hid (pat0 s = if s.size = 0 then ⟨#[120]⟩ else s) := rfl
  have H1 : Hid (pat1 s = if 16 < (pat0 s).size then (pat0 s).extract 0 16 else pat0 s) := rfl
  have H2 : Hid (patF s (1 + k0) = if (1 + k0) = 1 then (pat1 s).extract 0 1 else pat1 s) := rfl
  have H3 : Hid (eachF s (1 + k0) = if (patF s (1 + k0)).size = 1 then 12 else 128) := rfl
  have hSh := end_shorter (E := eachF s (1 + k0)) c x (1 + k0) len HL
  generalize eachF s (1 + k0) = E at *
  generalize patF s (1 + k0) = p at *
  generalize pat1 s = p1 at *
  generalize pat0 s = p0 at *
  have hcb := cAg_bulk p c
  have hSz : (endOut (runS (cAg p c) (initS x (1 + k0)) len)).size ≤ 268435456 := by
    have := endOut_size (cAg p c) x (1 + k0) len
    rw [hcb] at this
    omega
  go_enter Tryz.func8, Tryz.ntmps8
  go_upto_if 20 with fail
  go_cut [9] (fun s9 wx => s9 = .string p0 ∧ w = wx)
  case first =>
    by_cases h0 : s.size = 0
    · have HE : Hid (p0 = ⟨#[120]⟩) := by rw [Hid, H0.out, if_pos h0]
      have hne : (!s.toList.isEmpty) = false := by rw [no_bytes h0]; rfl
      clear H0 H1 H2 H3 HL hSh hSz
      go_wp2
      · rename_i hq
        rw [hne] at hq
        cases hq
      · go_meet
        case rel => exact ⟨by rw [HE.out], rfl⟩
    · have HE : Hid (p0 = s) := by rw [Hid, H0.out, if_neg h0]
      have hne : (!s.toList.isEmpty) = true := by rw [some_bytes (show 0 < s.size by omega)]; rfl
      clear H0 H1 H2 H3 HL hSh hSz
      go_wp2
      · go_meet
        case rel => exact ⟨by rw [HE.out], rfl⟩
      · rename_i hq
        rw [hne] at hq
        cases hq
  case rest =>
  obtain ⟨rfl, rfl⟩ := hcut
  clear H0
  go_upto_if 24 with fail
  go_cut [9] (fun s9 wx => s9 = .string p1 ∧ w = wx)
  case first =>
    by_cases h0 : 16 < p0.size
    · have HE : Hid (p1 = p0.extract 0 16) := by rw [Hid, H1.out, if_pos h0]
      clear H1 H2 H3 HL hSh hSz
      go_wp2
      go_meet
      case rel => exact ⟨by rw [HE.out], rfl⟩
    · have HE : Hid (p1 = p0) := by rw [Hid, H1.out, if_neg h0]
      clear H1 H2 H3 HL hSh hSz
      go_wp2
      go_meet
      case rel => exact ⟨by rw [HE.out], rfl⟩
  case rest =>
  obtain ⟨rfl, rfl⟩ := hcut
  clear H1 hps0
  go_upto_if 31 with (first | (go_at_call 12; refine (hPk _).mono ?_; rintro e w1 ⟨rfl, hw1⟩; obtain rfl := hw1.symm))
  go_cut [9] (fun s9 wx => s9 = .string p ∧ w = wx)
  case first =>
    by_cases h0 : 1 + k0 = 1
    · have HE : Hid (p = p1.extract 0 1) := by rw [Hid, H2.out, if_pos h0]
      clear H2 H3 HL hSh hSz
      go_wp2
      go_meet
      case rel => exact ⟨by rw [HE.out], rfl⟩
    · have HE : Hid (p = p1) := by rw [Hid, H2.out, if_neg h0]
      clear H2 H3 HL hSh hSz
      go_wp2
      go_meet
      case rel => exact ⟨by rw [HE.out], rfl⟩
  case rest =>
  obtain ⟨rfl, rfl⟩ := hcut
  clear H2 hps1
  go_upto_if 36 with fail
  go_cut [11] (fun s11 wx => s11 = .int .i64 E ∧ w = wx)
  case first =>
    by_cases h0 : p.size = 1
    · have HE : Hid (E = 12) := by rw [Hid, H3.out, if_pos h0]
      clear H3 HL hSh hSz
      go_wp2
      go_meet
      case rel => exact ⟨by rw [HE.out], rfl⟩
    · have HE : Hid (E = 128) := by rw [Hid, H3.out, if_neg h0]
      clear H3 HL hSh hSz
      go_wp2
      go_meet
      case rel => exact ⟨by rw [HE.out], rfl⟩
  case rest =>
  obtain ⟨rfl, rfl⟩ := hcut
  have hBg := kbegin_any w x (1 + k0) x0 x1 (by omega) (by omega)
  have hr0 := init_roomy x (1 + k0) (bulk (cAg p c) len + 8) (by rw [hcb]; omega)
  have HR0 : Hid (runS (cAg p c) (initS x (1 + k0)) 0 = initS x (1 + k0)) := rfl
  have hW0 : ∀ W k q b, Work W k q b (.slice none 0 0) (iniS (windowP x) (levelP (1 + k0))) [] ⟨ByteArray.empty, ByteArray.empty, 0, 0, 0⟩ → Work W k q b (.slice none 0 0) (initS x (1 + k0)).u (initS x (1 + k0)).P (initS x (1 + k0)).k := fun _ _ _ _ h => h
  have hPl := plain_is c p (initS x (1 + k0)) rfl
  have hD := fun W => Decode_any W (endOut (runS (cAg p c) (initS x (1 + k0)) len)) hSz
  have hF : REnc (runS (cAg p c) (initS x (1 + k0)) len) → outStr (feed initRd (endOut (runS (cAg p c) (initS x (1 + k0)) len)).data.toList).out = (runS (cAg p c) (initS x (1 + k0)) len).k.plain ∧ errno (feed initRd (endOut (runS (cAg p c) (initS x (1 + k0)) len)).data.toList) = 0 := fun h => enc_back h
  generalize feed initRd (endOut (runS (cAg p c) (initS x (1 + k0)) len)).data.toList = fd at *
  generalize initS x (1 + k0) = r0 at *
  generalize hrl : runS (cAg p c) r0 len = rl at *
  have HRL : Hid (runS (cAg p c) r0 len = rl) := hrl
  clear hrl
  generalize heo : endOut rl = eo at *
  have HEO : Hid (endOut rl = eo) := heo
  clear heo HL
  have hE12 : E = 12 ∨ E = 128 := by
    rw [H3.out]
    split
    · exact Or.inl rfl
    · exact Or.inr rfl
  clear H3
  go_wp2_with (first
    | (go_at_call 14; refine hBg.mono ?_; rintro e w1 ⟨k, q, b, rfl, hb0, hq0, hk0, hw1, hB1⟩))
  have hw2 := hW0 _ _ _ _ hw1
  clear hw1 hW0 hBg
  go_loopw [13, 14, 15] (fun vi _ _ wr => ∃ n : Nat, n ≤ len ∧ vi = .int .i64 n ∧ (∃ wv, Work wr k q b wv (runS (cAg p c) r0 n).u (runS (cAg p c) r0 n).P (runS (cAg p c) r0 n).k ∧ ∀ g, wv.ownBlock = some g → w.heap.size ≤ g) ∧ Roomy (runS (cAg p c) r0 n) (bulk (cAg p c) len - bulk (cAg p c) n + 8) ∧ Below w.heap.size w wr) (fun vi _ _ _ => len - (intOf vi).toNat)
  case atStart => exact ⟨0, by omega, rfl, by rw [HR0.out]; exact ⟨_, hw2, (fun g hg => by cases hg)⟩, by rw [HR0.out]; exact hr0, hB1⟩
  case round =>
    obtain ⟨n, hn, rfl, ⟨wv, hwn, hvn⟩, hrn, hBn⟩ := hrel
    clear hw2 hr0 HR0 hB1
    by_cases hlt : n < len
    · obtain ⟨cb, co, rfl, hcb2, hcells⟩ := hc.2 (by omega)
      obtain ⟨d1, d2⟩ := hcells n hlt
      have e1 : wr.cell? ⟨cb, co + n * 2, none⟩ = some (.int .i64 (c n).1) := (hBn.cell (p := ⟨cb, co + n * 2, none⟩) hcb2).trans d1
      have e2 : wr.cell? ⟨cb, co + n * 2 + 1, none⟩ = some (.string (c n).2) := (hBn.cell (p := ⟨cb, co + n * 2 + 1, none⟩) hcb2).trans d2
      have hbn : bulk (cAg p c) (n + 1) = bulk (cAg p c) n + ((cAg p c n).2.size + 4) := rfl
      have hbl := bulk_le (cAg p c) (show n + 1 ≤ len by omega)
      have hrc : Roomy (runS (cAg p c) r0 n) ((bulk (cAg p c) len - bulk (cAg p c) (n + 1) + 8) + (cAg p c n).2.size + 4) := by
        rw [show bulk (cAg p c) len - bulk (cAg p c) (n + 1) + 8 + (cAg p c n).2.size + 4 = bulk (cAg p c) len - bulk (cAg p c) n + 8 by omega]
        exact hrn
      have hrc2 := callS_roomy (cAg p c n).1 (cAg p c n).2 hrc
      have HRS : Hid (runS (cAg p c) r0 (n + 1) = callS (cAg p c n).1 (cAg p c n).2 (runS (cAg p c) r0 n)) := rfl
      have hrk : Roomy (runS (cAg p c) r0 n) ((cAg p c n).2.size + 4) := ⟨by have := hrc.phi; omega, by have := hrc.plain; omega, ⟨hrc.f.1, by have := hrc.f.2; omega⟩, ⟨hrc.nt.1, by have := hrc.nt.2; omega⟩, ⟨hrc.by_.1, by have := hrc.by_.2; omega⟩⟩
      have hK := fun W (h : Work W k q b wv (runS (cAg p c) r0 n).u (runS (cAg p c) r0 n).P (runS (cAg p c) r0 n).k) => kcall_any h (cAg p c n).1 (cAg p c n).2 hrk
      have hpn := hPl n
      have hpl2 := plainN_le c n
      have hbl2 := bulk_le c (show n ≤ len by omega)
      have hbl3 := bulk_le c (show n + 1 ≤ len by omega)
      have hbn2 : bulk c (n + 1) = bulk c n + ((c n).2.size + 4) := rfl
      have hln := hc.1
      have hpc : wr.cell? ⟨k, 1, none⟩ = some (.string (runS (cAg p c) r0 n).k.plain) := World.rowIs.cell hwn.row (by omega)
      have hkl := hwn.lts.1
      by_cases hk1 : (c n).1 = 1
      · have hcag : cAg p c n = ((c n).1, agT p (plainN c n) (c n).2.size) := if_pos hk1
        have hag := fun W => again_any W p (plainN c n + (c n).2.size) (by omega) (by omega) (by omega)
        rw [hcag] at hK hrc2 HRS
        have hagt : agT p (plainN c n) (c n).2.size = (outStr (againP p (plainN c n + (c n).2.size))).extract (plainN c n) (plainN c n + (c n).2.size) := rfl
        have hags := again_size p (plainN c n + (c n).2.size)
        rw [hagt] at hK hrc2 HRS
        rw [Int.natCast_add] at hag
        generalize outStr (againP p (plainN c n + (c n).2.size)) = AG at *
        generalize runS (cAg p c) r0 n = rn at *
        clear hcells d1 d2 hc hrk hrc hbn hcag hagt hPl hD hF hSh hcb hrn hSz HEO HRL
        rw [hk1] at e1 hK HRS hrc2
        generalize (c n).2 = T at *
        generalize plainN c n = m at *
        go_wp2_with (first
          | (go_at_call 19; refine (hag _).mono ?_; rintro e w3 ⟨rfl, hb3⟩; have r3 := cl_keep hb3; obtain ⟨g1, g2⟩ := cl_facts r3; have hfz := World.rowIs.frozen r3; have hBX := cl_below hb3 (.string (AG.extract m (m + T.size))); have hBW := hBn.trans (hBX.mono hBn.size))
          | (go_at_call 16; refine (hK _ (hwn.below hBX)).mono ?_; rintro e w4 ⟨rfl, wv', hw4, how4, ho4⟩))
        exact ⟨⟨n + 1, by omega, by go_num, by rw [HRS.out]; exact ⟨wv', hw4, how4.ge hBW.size hvn⟩, by rw [HRS.out]; exact hrc2, below3 hBW ho4 hk0 hq0 hb0 hvn hBW.size⟩, by simp [intOf]; omega⟩
      · have hcag : cAg p c n = c n := if_neg hk1
        rw [hcag] at hK hrc2 HRS
        generalize runS (cAg p c) r0 n = rn at *
        clear hcells d1 d2 hc hrk hrc hbn hcag hPl hD hF hSh hcb hrn hSz HEO HRL
        generalize (c n).1 = kind at *
        generalize (c n).2 = T at *
        have hBX : Below wr.heap.size wr (wr.alloc (.cells #[.int .i64 kind, .string T] 43)) := (Below.refl wr.heap.size wr).alloc (Nat.le_refl _) _
        have hBW := hBn.trans (hBX.mono hBn.size)
        go_wp2_with (first
          | (go_at_call 16; refine (hK _ (hwn.below hBX)).mono ?_; rintro e w4 ⟨rfl, wv', hw4, how4, ho4⟩))
        exact ⟨⟨n + 1, by omega, by go_num, by rw [HRS.out]; exact ⟨wv', hw4, how4.ge hBW.size hvn⟩, by rw [HRS.out]; exact hrc2, below3 hBW ho4 hk0 hq0 hb0 hvn hBW.size⟩, by simp [intOf]; omega⟩
    · have hne : n = len := by omega
      rw [hne, HRL.out] at hwn hrn
      have hE := kend_any hwn (by have := hrn.phi; omega)
      rw [HEO.out] at hE
      have hff := hF hwn.inv
      have ro2 := hrn.plain
      have ro3 := hrn.f
      have ro4 := hrn.nt
      have ro5 := hrn.by_
      have hwr : w.heap.size ≤ wr.heap.size := hBn.size
      have hU : ∀ W, WkRow W k q { rl.k with out := eo } → W.cell? ⟨k, 2, none⟩ = some (.string eo) ∧ W.cell? ⟨k, 1, none⟩ = some (.string rl.k.plain) ∧ W.cell? ⟨k, 3, none⟩ = some (.int .i64 rl.k.flushes) ∧ W.cell? ⟨k, 4, none⟩ = some (.int .i64 rl.k.notes) ∧ W.cell? ⟨k, 5, none⟩ = some (.int .i64 rl.k.bytes) ∧ W.cell? ⟨k, 6, none⟩ = some (.bool true) := fun W h => ⟨World.rowIs.cell h (by omega), World.rowIs.cell h (by omega), World.rowIs.cell h (by omega), World.rowIs.cell h (by omega), World.rowIs.cell h (by omega), World.rowIs.cell h (by omega)⟩
      have hB := fun W => blocks_any W (rl.k.plain.size : Int) (by omega) (by omega)
      clear hwn hrn hF hPl hcb hSz
      subst hne
      go_wp2_with (first
        | (go_at_call 10; refine (hD _).mono ?_; rintro e w4 ⟨rfl, hb4⟩; rw [hff.1, hff.2]; have hcl := fun o => hb4.cell (p := ⟨k, o, none⟩) hkl; have f1 := (hcl 2).trans d1; have f2 := (hcl 1).trans d2; have f3 := (hcl 3).trans d3; have f4 := (hcl 4).trans d4; have f5 := (hcl 5).trans d5; have f6 := (hcl 6).trans d6; clear hcl)
        | (go_at_call 20; refine hE.mono ?_; rintro e w3 ⟨rfl, hr3, ho3⟩; obtain ⟨d1, d2, d3, d4, d5, d6⟩ := hU _ hr3; have hkl : k < w3.heap.size := World.rowIs.lt hr3))
      have HWr : Hid (decide ((eo.size : Int) ≤ IntKind.i64.wrap (IntKind.i64.wrap (rl.k.bytes + IntKind.i64.wrap (E * IntKind.i64.wrap (IntKind.i64.wrap (((rl.k.plain.size : Int) + 4095) / 4096 + rl.k.flushes) + rl.k.notes))) + 8)) = true) := by
        have e2 : IntKind.i64.wrap (((rl.k.plain.size : Int) + 4095) / 4096 + rl.k.flushes) = ((rl.k.plain.size : Int) + 4095) / 4096 + rl.k.flushes := by rw [IntKind.wrap_i64]; omega
        have e3 : IntKind.i64.wrap (((rl.k.plain.size : Int) + 4095) / 4096 + rl.k.flushes + rl.k.notes) = ((rl.k.plain.size : Int) + 4095) / 4096 + rl.k.flushes + rl.k.notes := by rw [IntKind.wrap_i64]; omega
        have e0 : 0 ≤ E * (((rl.k.plain.size : Int) + 4095) / 4096 + rl.k.flushes + rl.k.notes) ∧ E * (((rl.k.plain.size : Int) + 4095) / 4096 + rl.k.flushes + rl.k.notes) ≤ 1000000000000000 := by rcases hE12 with rfl | rfl <;> omega
        have e4 : IntKind.i64.wrap (E * (((rl.k.plain.size : Int) + 4095) / 4096 + rl.k.flushes + rl.k.notes)) = E * (((rl.k.plain.size : Int) + 4095) / 4096 + rl.k.flushes + rl.k.notes) := by rw [IntKind.wrap_i64]; omega
        have e5 : IntKind.i64.wrap (rl.k.bytes + E * (((rl.k.plain.size : Int) + 4095) / 4096 + rl.k.flushes + rl.k.notes)) = rl.k.bytes + E * (((rl.k.plain.size : Int) + 4095) / 4096 + rl.k.flushes + rl.k.notes) := by rw [IntKind.wrap_i64]; omega
        have e6 : IntKind.i64.wrap (rl.k.bytes + E * (((rl.k.plain.size : Int) + 4095) / 4096 + rl.k.flushes + rl.k.notes) + 8) = rl.k.bytes + E * (((rl.k.plain.size : Int) + 4095) / 4096 + rl.k.flushes + rl.k.notes) + 8 := by rw [IntKind.wrap_i64]; omega
        rw [Hid, e2, e3, e4, e5, e6]
        exact decide_eq_true hSh
      have hBe := below3 hBn ho3 hk0 hq0 hb0 hvn hwr
      clear hE hD hU hSh d1 d2 d3 d4 d5 d6 hr3 hc hff HEO HRL ho3 hvn hBn ro2 ro3 ro4 ro5
      go_region_held3 (fun W => W.cell? ⟨k, 2, none⟩ = some (.string eo) ∧ W.cell? ⟨k, 1, none⟩ = some (.string rl.k.plain) ∧ W.cell? ⟨k, 3, none⟩ = some (.int .i64 rl.k.flushes) ∧ W.cell? ⟨k, 4, none⟩ = some (.int .i64 rl.k.notes) ∧ W.cell? ⟨k, 5, none⟩ = some (.int .i64 rl.k.bytes) ∧ W.cell? ⟨k, 6, none⟩ = some (.bool true)) (go_keep)
        (first | (go_at_call 18; refine (hB _).mono ?_; rintro e w5 ⟨rfl, rfl⟩))
      go_wp2
      go_ret
      refine ⟨?_, (hBe.trans (hb4.mono hBe.size)).drew⟩
      rw [← HWr.out]
      rfl
end Go.Proofs.YtmpfgdmdnghhgaaGreat
