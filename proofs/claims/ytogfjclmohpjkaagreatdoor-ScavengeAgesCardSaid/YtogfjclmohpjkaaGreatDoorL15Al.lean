/- A life while it is built: what lay does. Conditions: its classes can be, the object asked for is made of small numbers. -/
import Derived.Deep.Cut
import Derived.Test.YtogfjclmohpjkaaGreatDoorL15Ao
import Derived.Test.YtogfjclmohpjkaaGreatDoorL15L
import Derived.Test.YtogfjclmohpjkaaGreatDoorL15At
namespace Go.Proofs.YtogfjclmohpjkaaGreatDoor.L15
open Go.ChangeShapes Go.WideShapes Go.ChangeAt Go.RowKit
open Go.Proofs.YtogfjclmohpjkaaGreatDoor.L1 (Sl Ar RAr ptr exB)
open Go.Proofs.YtogfjclmohpjkaaGreatDoor.L4 (hdV riB wd)
open Go.Proofs.YtogfjclmohpjkaaGreatDoor.L5 (Cl clV rtB Tb clAt shX shR shD IsCls woV c0)
open Go.Proofs.YtogfjclmohpjkaaGreatDoor.L6 (Th th0 stV St fdT fdX obT obX slX slP slV gw Wk layL)
set_option linter.unusedVariables false
set_option maxRecDepth 100000
/-- A life in memory: its store below z; its own struct, its lists from z on, apart. -/
structure Lf (w : World) (z zl b : Nat) (tp : Option Addr) (g p : Nat) (ca : Option Addr) (cl cp : Nat) (av rv : Value) (pc : Nat) (f : Fx) (xs rs : List Int) (H : Int) : Prop where
  lo : Low w z b tp g xs f.cs
  bl : Blk w p 40 (lfCs b tp f.y av rv pc (.slice ca cl cp))
  bd : Bd f xs H
  ol : OL w zl av f.zs
  rl : OL w zl rv rs
  ap : ∀ k, av.ownBlock = some k → rv.ownBlock ≠ some k
  zw : z ≤ zl ∧ zl ≤ w.heap.size
section
variable {w w' W : World} {z zl b g p cl cp pc k n : Nat} {tp ca : Option Addr} {av rv v' : Value} {f : Fx} {xs ys rs : List Int} {cs : List Cl} {H x l : Int} {c : Cl} {o : Ob} {S : Nat → Prop}
theorem Lf.grow (h : Lf w z zl b tp g p ca cl cp av rv pc f xs rs H) (c : Grow w w') : Lf w' z zl b tp g p ca cl cp av rv pc f xs rs H :=
  ⟨h.lo.grow c, h.bl.chg c id, h.bd, h.ol.grow c, h.rl.grow c, h.ap, h.zw.1, Nat.le_trans h.zw.2 c.size⟩
/-- A change of a block of another kind. -/
theorem Low.ty {t : TypeId} {cells : List Value} (h : Low w z b tp g xs cs) (hb : Blk w p t cells) (h1 : t ≠ 119) (h2 : t ≠ 3) (h3 : t ≠ 115) (h4 : t ≠ 82) (c : Chg (· = p) w w') : Low w' z b tp g xs cs := by
  obtain ⟨base, v, ht, k1, k2, k3, k4⟩ := h.tb
  have ht' : Tb w' base tp v cs := tb_keep ht c (fun k e hS => own_ne ht.1 hb (Ne.symm h4) (by rw [e, hS])) (fun k e hS => by
    rcases ht.2 with ⟨e', _⟩ | ⟨k', e', _, hk'⟩
    · rw [e'] at e; cases e
    · rw [e'] at e; injection e with e; injection e with e; subst e
      exact hk'.ne_ hb (Ne.symm h3) hS)
  have ha : Ar w' b g xs := h.st.open_.chg c (h.st.open_.1.ne_ hb (Ne.symm h1)) (h.st.open_.2.ne_ hb (Ne.symm h2))
  exact ⟨⟨.inr ⟨b, rfl, ha⟩, ⟨base, v, ht', k1, k2⟩, h.st.n, h.st.cl, h.st.rt⟩, h.bz, h.gz, base, v, ht', k1, k2, k3, k4⟩
theorem Low.life {cells : List Value} (h : Low w z b tp g xs cs) (hb : Blk w p 40 cells) (c : Chg (· = p) w w') : Low w' z b tp g xs cs := h.ty hb (by decide) (by decide) (by decide) (by decide) c
theorem get_getD {xs : List Int} {i : Nat} (h : i < xs.length) : xs[i]? = some (xs.getD i 0) := by simp [List.getD_eq_getElem?_getD, h]
/-- What is laid is a new object. -/
theorem lay_at (hc : cs[k]? = some c) (hl : cs.length < 64) (hrt : cs.all Cl.rt = true) (hX : shX (some c) l = 0) {a : Nat} (hn : (n : Int) = 2 + shR (some c) l + shD (some c) l) (h1 : 1 ≤ a) (h : a + n ≤ xs.length) :
    ObAt (layL xs a n ((k : Int) + 1) l c.f) cs (a : Int) (newO ((k : Int) + 1) l c) ∧ (∀ j, j < a ∨ a + n ≤ j → (layL xs a n ((k : Int) + 1) l c.f)[j]? = xs[j]?) ∧ (newO ((k : Int) + 1) l c).sz = n := by
  have hk := (List.getElem?_eq_some_iff.1 hc).1
  have hcl := L5.clAt_at hc
  have hb := L5.sh_bd (o := some c) (fun c' e => by injection e with e; subst e; exact L5.all_rt hrt hc) l
  have hsz : (newO ((k : Int) + 1) l c).sz = n := by simp only [Ob.sz, newO, List.length_replicate]; omega
  have hll := L6.layL_length xs a n ((k : Int) + 1) l c.f
  refine ⟨⟨by omega, ⟨L4.ri_mk (by show (0 : Int) ≤ (k : Int) + 1; omega) (by show (k : Int) + 1 ≤ 63; omega) (by show (0 : Int) ≤ 0; decide) (by show (0 : Int) ≤ 7; decide) (by show (0 : Int) ≤ 0; decide) (by show (0 : Int) ≤ 4095; decide) (by simp [newO]), ⟨c, hcl⟩, by show shX (clAt cs ((k : Int) + 1)) l = 0; rw [hcl]; exact hX, ?_, ?_⟩, fun j hj => ?_⟩, fun j hj => ?_, hsz⟩
  · show shR (clAt cs ((k : Int) + 1)) l = _
    rw [hcl]; simp [newO]; omega
  · show shD (clAt cs ((k : Int) + 1)) l = _
    rw [hcl]; simp [newO]; omega
  · rw [enc_length, hsz] at hj
    rw [show (a : Int).toNat = a by omega, get_getD (by rw [hll]; omega), L6.layL_get _ _ _ _ _ _ _ (by omega) h]
    match j, hj with
    | 0, _ =>
      rw [if_neg (by omega), if_pos (by omega)]
      simp [Ob.enc, newO, wd, L4.b2i]
      by_cases hf : c.f = true <;> simp [hf]
    | 1, _ => rw [if_pos (by omega)]; rfl
    | j + 2, hj =>
      rw [if_neg (by omega), if_neg (by omega), if_pos (by omega)]
      show some 0 = (List.replicate (shR (some c) l).toNat (0 : Int) ++ List.replicate (shD (some c) l).toNat 0)[j]?
      rw [List.replicate_append_replicate, List.getElem?_replicate, if_pos (by omega)]
  · rcases Nat.lt_or_ge j xs.length with hj2 | hj2
    · rw [get_getD (by rw [hll]; exact hj2), get_getD hj2, L6.layL_get _ _ _ _ _ _ _ (by omega) h, if_neg (by omega), if_neg (by omega), if_neg (by omega)]
    · rw [List.getElem?_eq_none (by rw [hll]; exact hj2), List.getElem?_eq_none hj2]
/-- The numbers of an object while they are set. -/
def Tg.dk (t : Tg) (D k : Nat) : List Int := (List.range D).map fun j : Nat => if j < k then t.d + j else 0
theorem Tg.dk_len (t : Tg) (D k : Nat) : (t.dk D k).length = D := by simp [Tg.dk]
theorem Tg.dk_zero (t : Tg) (D : Nat) : t.dk D 0 = List.replicate D 0 := by
  refine List.ext_getElem (by simp [Tg.dk]) fun j h1 h2 => ?_
  simp [Tg.dk]
theorem Tg.dk_all (t : Tg) (D : Nat) : t.dk D D = (List.range D).map fun j : Nat => t.d + j := by
  refine List.ext_getElem (by simp [Tg.dk]) fun j h1 h2 => ?_
  simp [Tg.dk] at h1 ⊢
  omega
theorem Tg.dk_set (t : Tg) {D k : Nat} (hk : k < D) : (t.dk D k).set k (t.d + k) = t.dk D (k + 1) := by
  refine List.ext_getElem (by simp [Tg.dk]) fun j h1 h2 => ?_
  simp [Tg.dk] at h1
  rw [List.getElem_set]
  simp [Tg.dk]
  by_cases e : k = j
  · subst e; simp
  · rw [if_neg e]
    by_cases h : j < k
    · rw [if_pos h, if_pos (by omega)]
    · rw [if_neg h, if_neg (by omega)]
/-- The object while its numbers are set. -/
def Tg.ok_ (t : Tg) (k : Nat) (c : Cl) (m : Nat) : Ob := ⟨(k : Int) + 1, t.a % 8, 0, false, c.f, false, t.l c, List.replicate (shR (some c) (t.l c)).toNat 0, t.dk (shD (some c) (t.l c)).toNat m⟩
theorem Tg.ok_0 (t : Tg) (k : Nat) (c : Cl) : t.ok_ k c 0 = (newO ((k : Int) + 1) (t.l c) c).hd (t.a % 8) 0 false c.f false := by
  simp only [Tg.ok_, newO, Ob.hd, Tg.dk_zero]
theorem Tg.ok_n (t : Tg) (k : Nat) (c : Cl) : t.ok_ k c (shD (some c) (t.l c)).toNat = t.o k c := by
  simp only [Tg.ok_, Tg.o, Tg.dk_all]
theorem u8_id {t : Int} (h : 0 ≤ t ∧ t ≤ 255) : IntKind.u8.wrap t = t := by
  simp [IntKind.wrap, IntKind.bits, IntKind.signed]
  omega
theorem wr_sz {R D : Nat} (h1 : R ≤ 30) (h2 : D ≤ 30) : wrap64 (wrap64 (2 + (R : Int)) + (D : Int)) = ((2 + R + D : Nat) : Int) := by
  rw [wrap64_id (2 + (R : Int)) (by omega), wrap64_id (2 + (R : Int) + (D : Int)) (by omega)]; omega
theorem Tg.off (t : Tg) (b : Bool) : (if t.w % 4 = 3 then 4 else if t.w % 4 = 2 then 10 else 7) = 4 + 3 * t.i := by
  unfold Tg.i
  by_cases h2 : t.w % 4 = 2
  · rw [if_neg (by omega), if_pos h2, if_pos h2]
  · rw [if_neg h2, if_neg h2]
    by_cases h3 : t.w % 4 = 3
    · rw [if_pos h3, if_pos h3]
    · rw [if_neg h3, if_neg h3]
theorem lf_top {w : World} {i : Nat} {y : Yg} {cv : Value} (h : Blk w p 40 (lfCs b tp y av rv pc cv)) (hi : i < 3) : w.cell? ⟨p, 4 + 3 * i + 1, none⟩ = some (.int .i64 (y.tp i)) ∧ w.cell? ⟨p, 4 + 3 * i + 2, none⟩ = some (.int .i64 (y.en i)) := by
  obtain rfl | rfl | rfl : i = 0 ∨ i = 1 ∨ i = 2 := by omega
  · exact ⟨h.cell 5, h.cell 6⟩
  · exact ⟨h.cell 8, h.cell 9⟩
  · exact ⟨h.cell 11, h.cell 12⟩
theorem lf_put {w : World} {i : Nat} {y : Yg} {cv : Value} (h : Blk w p 40 (lfCs b tp y av rv pc cv)) (hi : i < 3) (v : Int) : Blk (w.setCell ⟨p, 4 + 3 * i + 1, none⟩ (.int .i64 v)) p 40 (lfCs b tp (y.st i v) av rv pc cv) := by
  obtain rfl | rfl | rfl : i = 0 ∨ i = 1 ∨ i = 2 := by omega
  · exact h.set_ 5 _
  · exact h.set_ 8 _
  · exact h.set_ 11 _
theorem rem_nat' {t : Int} {m : Nat} (h0 : 0 ≤ t) (hm : 0 < m) : t % (m : Int) = ((t.toNat % m : Nat) : Int) := by
  obtain ⟨T, rfl⟩ := Int.eq_ofNat_of_zero_le h0
  simp
set_option maxHeartbeats 4000000 in
theorem llay_any {t : Tg} (h : Lf w z zl b tp g p ca cl cp av rv pc f xs rs H) (hc : IsCls w ca cl cp f.cs) (ht : t.B) (h0 : 0 < f.cs.length) (hl : f.cs.length < 64) (hz : f.zs.length ≤ 1000) :
    Calls Tryz.prog 31 #[ptr p, .agg #[.int .u8 t.c, .int .u8 t.a, .int .u8 t.w, .int .u8 t.d]] w fun e w' => e = .returned (.tuple #[]) ∧ ∃ av' xs', Lf w' z zl b tp g p ca cl cp av' rv pc (f.lay t) xs' rs H ∧ Chg (fun i => i = g ∨ i = p ∨ av.ownBlock = some i) w w' := by
  have hcl := hc.len
  rw [hcl] at h0 hl
  obtain ⟨K, hK⟩ : ∃ K, t.k f.cs.length = K := ⟨_, rfl⟩
  have hK' : t.c.toNat % cl = K := by rw [← hK, Tg.k, hcl]
  have hKl : K < cl := by rw [← hK']; exact Nat.mod_lt _ h0
  obtain ⟨cb, co, c, hca, hcc, hat, -⟩ := hc.at_ hKl
  have hgc : f.cs.getD K c0 = c := by rw [List.getD_eq_getElem?_getD, hcc]; rfl
  have HLAY := hide (show f.lay t = if f.y.en t.i - f.y.tp t.i < ((t.o K c).sz : Int) then f else f.add t.i (t.o K c) by rw [Fx.lay, hK, hgc])
  obtain ⟨u1, u2, u3, u4⟩ := ht
  have HB := hide (show t.B from ⟨u1, u2, u3, u4⟩)
  have r1 : t.c % (cl : Int) = (K : Int) := by rw [rem_nat' u1.1 h0, hK']
  have p1 : IntKind.i64.wrap t.c = t.c := IntWalk.i64_in _ (by omega)
  have p2 : (cl : Int) ≠ 0 := by omega
  have p3 : (0 : Int) ≤ t.c := u1.1
  have p5 : wrap64 t.c = t.c := wrap64_id _ (by omega)
  have HW1 := hide (show IntKind.i64.wrap (1 + (K : Int)) = 1 + (K : Int) from IntWalk.i64_in _ (by omega))
  have hbx := Blk.new w 76 t.cells
  have g0 := Grow.box w (.cells t.cells.toArray 76)
  dsimp only [Tg.cells] at hbx g0
  have HLF := hide h
  have HCS := hide hc
  have HAT := hide (fun W (c' : Chg (fun i => i = g ∨ i = p ∨ av.ownBlock = some i) w W) => hat)
  have hl1 := HLF.out.bl.chg g0 id
  obtain ⟨-, -, -, -, -, -, -, l20⟩ := lf_cells hl1
  obtain ⟨b0, b1, b2, b3⟩ := hbx.cell4
  obtain ⟨a0, -⟩ := hat
  have a0' := g0.cell a0
  clear h hc hK hK' hgc hl1
  go_enter Tryz.func31, Tryz.ntmps31
  go_wp2_with fail
  go_quiet (fail)
  clear b0 b1 b2 b3 a0 a0' l20 p1 p2 p3 p5 r1
  have gq : Grow w ((w.alloc (.cells #[.int .u8 t.c, .int .u8 t.a, .int .u8 t.w, .int .u8 t.d] 76)).drewN nq) := g0.drewN nq
  replace hbx := hbx.drewN nq
  generalize (w.alloc (.cells #[.int .u8 t.c, .int .u8 t.a, .int .u8 t.w, .int .u8 t.d] 76)).drewN nq = w1 at *
  have HFB : Fresh w w.heap.size := Nat.le_refl _
  generalize hsw : w.heap.size = bx at *
  have hl1 := HLF.out.bl.chg gq id
  obtain ⟨-, -, -, -, -, -, -, l20⟩ := lf_cells hl1
  obtain ⟨b0, b1, b2, b3⟩ := hbx.cell4
  have a0 := gq.cell (HAT.out w (Chg.refl _ _)).1
  have q1 : decide ((K : Int) < (cl : Int)) = true := decide_eq_true (by omega)
  have q2 : K < cl := hKl
  have q3 : (0 : Int) ≤ (K : Int) := by omega
  have HU := hide (And.intro u1 (And.intro u2 (And.intro u3 u4)))
  subst hca
  clear hl1
  go_upto_if 33 with fail
  go_cut [5] from 14 (fun v wx => v = .int .i64 (t.l c) ∧ wx = w1)
  case first =>
    by_cases h2 : c.k = 2
    · have q4 : (c.k == 2) = true := by simpa using h2
      have p3 : (0 : Int) ≤ t.d := u4.1
      have p4 : IntKind.i64.wrap t.d = t.d := IntWalk.i64_in _ (by omega)
      have p5 : wrap64 t.d = t.d := wrap64_id _ (by omega)
      have HL := hide (show t.d % 5 = t.l c by rw [Tg.l, if_pos h2])
      go_wp2_with fail
      go_meet
      case rel => exact ⟨by rw [HL.out], rfl⟩
    · have q4 : (c.k == 2) = false := by simpa using h2
      have HL := hide (show 0 = t.l c by rw [Tg.l, if_neg h2])
      go_wp2_with fail
      go_meet
      case rel => exact ⟨by rw [← HL.out], rfl⟩
  case rest =>
    obtain ⟨rfl, rfl⟩ := hcut
    clear q1 q2 q3 a0 b0 b1 b2 b3
    obtain ⟨L, hL⟩ : ∃ L, t.l c = L := ⟨_, rfl⟩
    rw [hL]
    have hb := L5.sh_bd (o := some c) (fun c' e => by injection e with e; subst e; exact L5.all_rt HLF.out.bd.wf.rt hcc) L
    obtain ⟨R, hR⟩ := Int.eq_ofNat_of_zero_le hb.1
    obtain ⟨D, hD⟩ := Int.eq_ofNat_of_zero_le hb.2.2.1
    have hX : shX (some c) L = 0 := hL ▸ (t.l_ok c u4.1).1
    have HRD := hide (And.intro hR (And.intro hD (And.intro hX hb)))
    have hca1 : clAt f.cs (1 + (K : Int)) = some c := by rw [Int.add_comm]; exact L5.clAt_at hcc
    have HSH := hide (fun W (c' : Grow w W) => show Calls Tryz.prog 61 #[.slice (some ⟨cb, co, none⟩) cl cp, .int .i64 (1 + (K : Int)), .int .i64 L] W fun e w' => e = .returned (.tuple #[.int .i64 (R : Int), .int .i64 (D : Int), .int .i64 0]) ∧ Grow W w' from by
      have := L5.rshape_any (HCS.out.chg c' fun _ _ => id) HLF.out.bd.wf.rt L (1 + (K : Int))
      rw [hca1, hR, hD, hX] at this
      exact this)
    have hRD : R ≤ 30 ∧ D ≤ 30 := by omega
    obtain ⟨N, hN⟩ : ∃ N : Nat, 2 + R + D = N := ⟨_, rfl⟩
    have hso : (t.o K c).sz = N := by
      have := (Tg.ok (k := K) HB.out hcc HLF.out.bd.wf.rt (by rw [hcl]; exact hl)).2
      rw [hL, hR, hD] at this
      omega
    have HSO := hide hso
    have HL := hide hL
    clear hb hR hD hX hca1 hso hL
    go_wp2_with fail
    refine (HSH.out _ gq).mono ?_
    rintro e w2 ⟨rfl, c2⟩
    replace hbx := hbx.chg c2 id
    replace gq := gq.trans c2
    clear c2 HSH l20
    obtain ⟨b0, b1, b2, b3⟩ := hbx.cell4
    have HN := hide (hN ▸ wr_sz hRD.1 hRD.2)
    have HRN := hide (And.intro hRD hN)
    clear hRD hN
    have m0 : (0 : Int) ≤ t.w := u3.1
    go_upto_if 60 with fail
    rw [HN.out]
    go_cut [10] from 14 (fun v wx => v = .pointer (some ⟨p, if t.w % 4 = 2 then 10 else 7, none⟩) ∧ wx = w2)
    case first =>
      by_cases e2 : t.w % 4 = 2
      · have q1 : (t.w % 4 == 2) = true := by simpa using e2
        go_wp2_with fail
        go_meet
        case rel => exact ⟨by rw [if_pos e2], rfl⟩
      · have q1 : (t.w % 4 == 2) = false := by simpa using e2
        go_wp2_with fail
        go_meet
        case rel => exact ⟨by rw [if_neg e2], rfl⟩
    case rest =>
      obtain ⟨rfl, rfl⟩ := hcut
      obtain ⟨O1, hO1⟩ : ∃ O1, (if t.w % 4 = 2 then 10 else 7) = O1 := ⟨_, rfl⟩
      rw [hO1]
      have HO1 := hide hO1
      clear hO1
      go_upto_if 68 with fail
      go_cut [10] from 14 (fun v wx => v = .pointer (some ⟨p, 4 + 3 * t.i, none⟩) ∧ wx = wc)
      case first =>
        by_cases e3 : t.w % 4 = 3
        · have q1 : (t.w % 4 == 3) = true := by simpa using e3
          go_wp2_with fail
          go_meet
          case rel => exact ⟨by rw [← t.off true, if_pos e3], rfl⟩
        · have q1 : (t.w % 4 == 3) = false := by simpa using e3
          go_wp2_with fail
          go_meet
          case rel => exact ⟨by rw [← t.off true, if_neg e3, HO1.out], rfl⟩
      case rest =>
        obtain ⟨rfl, rfl⟩ := hcut
        clear b0 b1 b2 b3 m0
        obtain ⟨OF, hOF⟩ : ∃ OF, 4 + 3 * t.i = OF := ⟨_, rfl⟩
        rw [hOF]
        have hi3 := t.i_lt
        have h13 := HLF.out.bd.i3 hi3
        have HTP : Hid (∀ (W : World) (y : Yg) (a r : Value), Blk W p 40 (lfCs b tp y a r pc (.slice (some ⟨cb, co, none⟩) cl cp)) → W.cell? ⟨p, OF + 1, none⟩ = some (.int .i64 (y.tp t.i)) ∧ W.cell? ⟨p, OF + 2, none⟩ = some (.int .i64 (y.en t.i))) := hide fun W y a r h => by rw [← hOF]; exact lf_top h hi3
        have HPT : Hid (∀ (W : World) (y : Yg) (a r : Value) (v : Int), Blk W p 40 (lfCs b tp y a r pc (.slice (some ⟨cb, co, none⟩) cl cp)) → Blk (W.setCell ⟨p, OF + 1, none⟩ (.int .i64 v)) p 40 (lfCs b tp (y.st t.i v) a r pc (.slice (some ⟨cb, co, none⟩) cl cp))) := hide fun W y a r v h => by rw [← hOF]; exact lf_put h hi3 v
        have hl1 := HLF.out.bl.chg gq id
        obtain ⟨t1, t2⟩ := HTP.out _ _ _ _ hl1
        obtain ⟨-, -, l2, l3, -, -, -, -⟩ := lf_cells hl1
        have hst := HLF.out.lo.st.grow gq
        have hgp : g ≠ p := HLF.out.lo.st.open_.2.ne_ HLF.out.bl (by decide)
        obtain ⟨TP, hTP⟩ : ∃ TP : Nat, f.y.tp t.i = TP := Int.eq_ofNat_of_zero_le (by omega)
        obtain ⟨EN, hEN⟩ : ∃ EN, f.y.en t.i = EN := ⟨_, rfl⟩
        have HI := hide hi3
        rw [hTP] at t1 h13
        rw [hEN] at t2 h13
        have w1' : IntKind.i64.wrap (EN - (TP : Int)) = EN - TP := IntWalk.i64_in _ (by omega)
        by_cases hroom : EN - (TP : Int) < (N : Int)
        · have q1 : decide (EN - (TP : Int) < (N : Int)) = true := decide_eq_true hroom
          have HF := hide (show f.lay t = f by rw [HLAY.out, if_pos (by rw [HSO.out, hEN, hTP]; exact hroom)])
          go_wp2_with fail
          go_region
          go_wp2
          go_returns
          exact ⟨rfl, av, xs, by rw [HF.out]; exact (HLF.out.grow gq).grow (Chg.drew (Chg.refl _ _)), (gq.drew).mono fun _ _ h => h.elim⟩
        · have q1 : decide (EN - (TP : Int) < (N : Int)) = false := decide_eq_false hroom
          have hN2 : 2 ≤ N := by have := HRN.out.2; omega
          have hxl : f.n = xs.length := HLF.out.bd.wf.n.symm
          have HLY := hide (fun W (c' : Grow wc W) => show Calls Tryz.prog 62 #[stV (some ⟨b, 0, none⟩) tp, .int .i64 (TP : Int), .int .i64 (1 + (K : Int)), .int .i64 L] W fun e w' => e = .returned (.int .i64 0) ∧ St w' (some ⟨b, 0, none⟩) tp g (layL xs TP N ((K : Int) + 1) L c.f) f.cs ∧ Chg (· = g) W w' from by
            have hrr := HRD.out
            obtain ⟨ck, cr, cd, cf⟩ := c
            have := L6.lay_ok (a := TP) (n := N) (k := K) (C := 1 + (K : Int)) (l := L) (hst.grow c') hcc (by omega) (by rw [show (1 + (K : Int)) = (K : Int) + 1 by omega, L5.clAt_at hcc]; exact hrr.2.2.1) (by rw [show (1 + (K : Int)) = (K : Int) + 1 by omega, L5.clAt_at hcc, woV, if_pos hrr.2.2.1, hrr.1, hrr.2.1]; have := HRN.out.2; omega) (by rw [hcl]; exact hl) (by omega) (by omega)
            rw [show layL xs TP N (1 + (K : Int)) L cf = layL xs TP N ((K : Int) + 1) L cf by rw [Int.add_comm]] at this
            exact this)
          go_wp2_with fail
          go_region_held3 (fun W => W.cell? ⟨p, 2, none⟩ = some (.pointer (some ⟨b, 0, none⟩)) ∧ W.cell? ⟨p, 3, none⟩ = some (.pointer tp) ∧ W.cell? ⟨p, OF + 1, none⟩ = some (.int .i64 TP) ∧ W.cell? ⟨p, OF + 2, none⟩ = some (.int .i64 EN))
            (first | with_reducible exact ⟨l2, l3, t1, t2⟩ | exact ⟨l2, l3, t1, t2⟩ | with_reducible exact hk3)
            (first | (go_at_call 62; (with_reducible refine (HLY.out _ (Chg.drew (Chg.refl _ _))).mono ?_); rintro e w3 ⟨rfl, hs3, c3⟩; have hk3 := (show w3.cell? ⟨p, 2, none⟩ = some (.pointer (some ⟨b, 0, none⟩)) ∧ w3.cell? ⟨p, 3, none⟩ = some (.pointer tp) ∧ w3.cell? ⟨p, OF + 1, none⟩ = some (.int .i64 TP) ∧ w3.cell? ⟨p, OF + 2, none⟩ = some (.int .i64 EN) from ⟨c3.cell l2 (fun e => hgp e.symm), c3.cell l3 (fun e => hgp e.symm), c3.cell t1 (fun e => hgp e.symm), c3.cell t2 (fun e => hgp e.symm)⟩)) | fail)
          obtain ⟨ho3, he3, hs3z⟩ := lay_at (xs := xs) (a := TP) (n := N) (l := L) hcc (by rw [hcl]; exact hl) HLF.out.bd.wf.rt HRD.out.2.2.1 (by rw [HRD.out.1, HRD.out.2.1]; have := HRN.out.2; omega) (by omega) (by omega)
          have hl3 := (hl1.drew).chg c3 (fun e => hgp e.symm)
          have hb3 := (hbx.drew).chg c3 (fun e => hbx.ne_ (HLF.out.lo.st.open_.2.chg gq id) (by decide) e)
          have gc3 : Chg (· = g) w w3 := (gq.drew.mono (fun _ _ h => h.elim)).trans c3
          have HS3 := hide hs3
          have HO3 := hide (And.intro ho3 he3)
          clear l2 l3 t1 t2 hk3 w1' q1 hst hl1 hs3 c3 ho3 he3 HLY
          obtain ⟨C1, hC1⟩ : ∃ C1, (K : Int) + 1 = C1 := ⟨_, rfl⟩
          obtain ⟨cf, hcf⟩ : ∃ cf, c.f = cf := ⟨_, rfl⟩
          have HHD := hide (fun W (c' : Grow w3 W) => show Calls Tryz.prog 63 #[stV (some ⟨b, 0, none⟩) tp, .int .i64 (TP : Int)] W fun e w' => e = .returned (.tuple #[hdV C1 0 0 false cf false, .int .i64 0]) ∧ Grow W w' from by
            have hoo := HO3.out.1.ob HS3.out.rt
            refine L6.head_is (HS3.out.grow c') (by omega) ?_ hoo.2
            rw [hoo.1, ← hC1, ← hcf]
            rfl)
          obtain ⟨l2, l3⟩ : w3.cell? ⟨p, 2, none⟩ = some (.pointer (some ⟨b, 0, none⟩)) ∧ w3.cell? ⟨p, 3, none⟩ = some (.pointer tp) := ⟨hl3.cell 2, hl3.cell 3⟩
          have t1 := (HTP.out _ _ _ _ hl3).1
          rw [hTP] at t1
          have HKS := hide (fun W (c' : Grow w3 W) => show W.cell? ⟨p, 2, none⟩ = some (.pointer (some ⟨b, 0, none⟩)) ∧ W.cell? ⟨p, 3, none⟩ = some (.pointer tp) ∧ W.cell? ⟨p, OF + 1, none⟩ = some (.int .i64 TP) from ⟨c'.cell l2, c'.cell l3, c'.cell t1⟩)
          go_upto_region 13 with fail
          go_cut [11, 12] from 14 (fun hv ev wx => ∃ hb, hv = ptr hb ∧ ev = .int .i64 0 ∧ Blk wx hb 123 [.int .i64 C1, .int .i64 0, .int .i64 0, .bool false, .bool cf, .bool false] ∧ Grow w3 wx ∧ w3.heap.size ≤ hb)
          case first =>
            have hk0 := HKS.out w3 (Chg.refl _ _)
            have hk1 := HKS.out w3.drew (Chg.drew (Chg.refl _ _))
            have hk2 := HKS.out (w3.alloc (.cells #[.int .i64 0, .int .i64 0, .int .i64 0, .bool false, .bool false, .bool false] 123)).drew (Chg.drew ((Chg.refl _ _).alloc _))
            have hk3 := HKS.out (w3.drew.alloc (.cells #[.int .i64 0, .int .i64 0, .int .i64 0, .bool false, .bool false, .bool false] 123)) ((Chg.drew (Chg.refl _ _)).alloc _)
            go_region_held3 (fun W => W.cell? ⟨p, 2, none⟩ = some (.pointer (some ⟨b, 0, none⟩)) ∧ W.cell? ⟨p, 3, none⟩ = some (.pointer tp) ∧ W.cell? ⟨p, OF + 1, none⟩ = some (.int .i64 TP))
              (first | with_reducible exact hk0 | with_reducible exact hk1 | with_reducible exact hk2 | with_reducible exact hk3 | with_reducible exact hk4 | with_reducible exact hk5 | with_reducible exact hk6)
              (first
                | (go_at_call 63; (with_reducible refine (HHD.out _ (Chg.drew (Chg.refl _ _))).mono ?_); rintro e w4 ⟨rfl, g4⟩; (have hk4 := HKS.out w4 (Chg.trans (Chg.drew (Chg.refl _ _)) g4)); (have hk5 := HKS.out (w4.alloc (.cells #[.int .i64 0, .int .i64 0, .int .i64 0, .bool false, .bool false, .bool false] 123)) ((Chg.trans (Chg.drew (Chg.refl _ _)) g4).alloc _)); (have hk6 := HKS.out (w4.alloc (.cells #[.int .i64 C1, .int .i64 0, .int .i64 0, .bool false, .bool cf, .bool false] 123)) ((Chg.trans (Chg.drew (Chg.refl _ _)) g4).alloc _)); (obtain ⟨f0, f1, f2, f3, f4, f5⟩ := (Blk.new w4 123 [.int .i64 0, .int .i64 0, .int .i64 0, .bool false, .bool false, .bool false]).frozen6); (obtain ⟨z0, z1, z2, z3, z4, z5⟩ := (Blk.new w4 123 [.int .i64 0, .int .i64 0, .int .i64 0, .bool false, .bool false, .bool false]).cell6))
                | (go_at_call 63; (with_reducible refine (HHD.out _ (Chg.drew ((Chg.refl _ _).alloc _))).mono ?_); rintro e w4 ⟨rfl, g4⟩; (have hz6 := ((Blk.new w3 123 [.int .i64 0, .int .i64 0, .int .i64 0, .bool false, .bool false, .bool false]).drew).chg g4 id); (have hk4 := HKS.out w4 (Chg.trans (Chg.drew ((Chg.refl _ _).alloc _)) g4)); (have hk5 := hk4); (have hk6 := HKS.out _ (Fresh.put6 (g := w3.heap.size) (Nat.le_refl _) (Chg.trans (Chg.drew ((Chg.refl _ _).alloc _)) g4) (.int .i64 C1) (.int .i64 0) (.int .i64 0) (.bool false) (.bool cf) (.bool false))); (obtain ⟨f0, f1, f2, f3, f4, f5⟩ := hz6.frozen6); (obtain ⟨z0, z1, z2, z3, z4, z5⟩ := hz6.cell6))
                | fail)
            · have hA := Blk.new w4 123 [.int .i64 C1, .int .i64 0, .int .i64 0, .bool false, .bool cf, .bool false]
              have gA := (Chg.trans (Chg.drew (Chg.refl (fun _ => False) w3)) g4).alloc (.cells #[.int .i64 C1, .int .i64 0, .int .i64 0, .bool false, .bool cf, .bool false] 123)
              have zA : w3.heap.size ≤ w4.heap.size := g4.size
              go_wp2_with fail
              go_meet
              case rel => exact ⟨_, rfl, rfl, hA, gA, zA⟩
            · have hA := hz6.put6 (.int .i64 C1) (.int .i64 0) (.int .i64 0) (.bool false) (.bool cf) (.bool false)
              have gA := Fresh.put6 (w := w3) (g := w3.heap.size) (Nat.le_refl _) (Chg.trans (Chg.drew ((Chg.refl _ _).alloc _)) g4) (.int .i64 C1) (.int .i64 0) (.int .i64 0) (.bool false) (.bool cf) (.bool false)
              go_wp2_with fail
              go_meet
              case rel => exact ⟨_, rfl, rfl, hA, gA, Nat.le_refl _⟩
          case rest =>
            obtain ⟨hb, rfl, rfl, hhb, g4, hbz⟩ := hcut
            clear l2 l3 t1 HKS HHD
            have hl4 := hl3.chg g4 id
            have hb4 := hb3.chg g4 id
            have gc4 : Chg (· = g) w wc := gc3.trans (g4.mono fun _ _ h => h.elim)
            have H4 := hide (HS3.out.grow g4)
            have npb : p ≠ hb := by have := hl3.lt; omega
            have nbb : bx ≠ hb := by have := hb3.lt; omega
            have nbg : bx ≠ g := hbx.ne_ (HLF.out.lo.st.open_.2.chg gq id) (by decide)
            have hbw : w.heap.size ≤ hb := by have := gc3.size; omega
            clear g4 hl3 hb3 HS3
            obtain ⟨A8, hA8⟩ : ∃ A8, t.a % 8 = A8 := ⟨_, rfl⟩
            have p0 : (0 : Int) ≤ t.a := u2.1
            have p1 : IntKind.i64.wrap t.a = t.a := IntWalk.i64_in _ (by omega)
            have p2 : wrap64 t.a = t.a := wrap64_id _ (by omega)
            have f1 := hhb.frozen 1
            have z1 : wc.cell? ⟨hb, 1, none⟩ = some (.int .i64 0) := hhb.cell 1
            obtain ⟨b0, b1, b2, b3⟩ := hb4.cell4
            go_upto_region 15 with fail
            rw [hA8]
            have hhb5 : Blk (wc.setCell ⟨hb, 1, none⟩ (.int .i64 A8)) hb 123 [.int .i64 C1, .int .i64 A8, .int .i64 0, .bool false, .bool cf, .bool false] := hhb.set_ 1 _
            have c5 : Chg (· = hb) wc (wc.setCell ⟨hb, 1, none⟩ (.int .i64 A8)) := (Chg.refl _ _).set1 1 _
            clear f1 z1 b0 b1 b2 b3 p0 p1 p2 hhb
            generalize wc.setCell ⟨hb, 1, none⟩ (.int .i64 A8) = w5 at *
            have hl5 := hl4.chg c5 npb
            have hb5 := hb4.chg c5 nbb
            have gc5 : Chg (· = g) w w5 := gc4.step c5 fun i hi e => by omega
            have hlo5 := (HLF.out.lo.chg (S := fun i => z ≤ i) (Chg.refl _ _) fun _ h => h)
            have H5 : Hid (St w5 (some ⟨b, 0, none⟩) tp g (layL xs TP N ((K : Int) + 1) L c.f) f.cs) := hide (by
              have hlow : Low wc z b tp g (layL xs TP N ((K : Int) + 1) L c.f) f.cs := HLF.out.lo.put H4.out gc4
              have hzb : z ≤ hb := by have := HLF.out.zw; omega
              exact (hlow.chg c5 fun i e => by rw [e]; exact hzb).st)
            clear hl4 hb4 gc4 H4 c5 hlo5
            obtain ⟨l2, l3⟩ : w5.cell? ⟨p, 2, none⟩ = some (.pointer (some ⟨b, 0, none⟩)) ∧ w5.cell? ⟨p, 3, none⟩ = some (.pointer tp) := ⟨hl5.cell 2, hl5.cell 3⟩
            have t1 := (HTP.out _ _ _ _ hl5).1
            rw [hTP] at t1
            have ngp : p ≠ g := hgp.symm
            have nhg : hb ≠ g := hhb5.ne_ H5.out.open_.2 (by decide)
            have hri : riB C1 A8 0 cf false = true := by
              have h8 := Int.emod_nonneg t.a (show (8 : Int) ≠ 0 by decide)
              have h9 := Int.emod_lt_of_pos t.a (show (0 : Int) < 8 by decide)
              exact L4.ri_mk (by omega) (by omega) (by omega) (by omega) (by decide) (by decide) (by simp)
            have HSH := hide (fun W (c' : Grow w5 W) => show Calls Tryz.prog 64 #[stV (some ⟨b, 0, none⟩) tp, .int .i64 (TP : Int), hdV C1 A8 0 false cf false] W fun e w' => e = .returned (.int .i64 0) ∧ St w' (some ⟨b, 0, none⟩) tp g ((layL xs TP N ((K : Int) + 1) L c.f).set TP (wd C1 A8 0 false cf false)) f.cs ∧ Chg (· = g) W w' from by
              have := sethead_ok (m := false) (H5.out.grow c') HO3.out.1 (A := A8) (F := 0) (f := cf) (d := false) (by show riB ((K : Int) + 1) A8 0 cf false = true; rw [hC1]; exact hri)
              rw [show (newO ((K : Int) + 1) L c).C = C1 from hC1] at this
              exact this)
            have hk0 : w5.cell? ⟨p, 2, none⟩ = some (.pointer (some ⟨b, 0, none⟩)) ∧ w5.cell? ⟨p, 3, none⟩ = some (.pointer tp) ∧ w5.cell? ⟨p, OF + 1, none⟩ = some (.int .i64 TP) ∧ w5.cell? ⟨hb, 0, none⟩ = some (.int .i64 C1) ∧ w5.cell? ⟨hb, 1, none⟩ = some (.int .i64 A8) ∧ w5.cell? ⟨hb, 2, none⟩ = some (.int .i64 0) ∧ w5.cell? ⟨hb, 3, none⟩ = some (.bool false) ∧ w5.cell? ⟨hb, 4, none⟩ = some (.bool cf) ∧ w5.cell? ⟨hb, 5, none⟩ = some (.bool false) := ⟨l2, l3, t1, hhb5.cell 0, hhb5.cell 1, hhb5.cell 2, hhb5.cell 3, hhb5.cell 4, hhb5.cell 5⟩
            have HK5 := hide (fun W (c' : Chg (· = g) w5 W) => show W.cell? ⟨p, 2, none⟩ = some (.pointer (some ⟨b, 0, none⟩)) ∧ W.cell? ⟨p, 3, none⟩ = some (.pointer tp) ∧ W.cell? ⟨p, OF + 1, none⟩ = some (.int .i64 TP) ∧ W.cell? ⟨hb, 0, none⟩ = some (.int .i64 C1) ∧ W.cell? ⟨hb, 1, none⟩ = some (.int .i64 A8) ∧ W.cell? ⟨hb, 2, none⟩ = some (.int .i64 0) ∧ W.cell? ⟨hb, 3, none⟩ = some (.bool false) ∧ W.cell? ⟨hb, 4, none⟩ = some (.bool cf) ∧ W.cell? ⟨hb, 5, none⟩ = some (.bool false) from ⟨c'.cell hk0.1 ngp, c'.cell hk0.2.1 ngp, c'.cell hk0.2.2.1 ngp, c'.cell hk0.2.2.2.1 nhg, c'.cell hk0.2.2.2.2.1 nhg, c'.cell hk0.2.2.2.2.2.1 nhg, c'.cell hk0.2.2.2.2.2.2.1 nhg, c'.cell hk0.2.2.2.2.2.2.2.1 nhg, c'.cell hk0.2.2.2.2.2.2.2.2 nhg⟩)
            have hk1 := HK5.out w5.drew (Chg.drew (Chg.refl _ _))
            clear l2 l3 t1 hhb5
            go_region_held3 (fun W => W.cell? ⟨p, 2, none⟩ = some (.pointer (some ⟨b, 0, none⟩)) ∧ W.cell? ⟨p, 3, none⟩ = some (.pointer tp) ∧ W.cell? ⟨p, OF + 1, none⟩ = some (.int .i64 TP) ∧ W.cell? ⟨hb, 0, none⟩ = some (.int .i64 C1) ∧ W.cell? ⟨hb, 1, none⟩ = some (.int .i64 A8) ∧ W.cell? ⟨hb, 2, none⟩ = some (.int .i64 0) ∧ W.cell? ⟨hb, 3, none⟩ = some (.bool false) ∧ W.cell? ⟨hb, 4, none⟩ = some (.bool cf) ∧ W.cell? ⟨hb, 5, none⟩ = some (.bool false))
              (first | with_reducible exact hk0 | with_reducible exact hk1 | with_reducible exact hk2)
              (first
                | (go_at_call 64; (with_reducible refine (HSH.out _ (Chg.drew (Chg.refl _ _))).mono ?_); rintro e w6 ⟨rfl, hs6, c6⟩; (have hk2 := HK5.out w6 (Chg.trans (Chg.drew (Chg.refl _ _)) c6)))
                | fail)
            have c6' : Chg (· = g) w5 w6 := Chg.trans (Chg.drew (Chg.refl _ _)) c6
            have hl6 := hl5.chg c6' ngp
            have hb6 := hb5.chg c6' nbg
            have gc6 := gc5.trans c6'
            have ho6 := HO3.out.1.setH (A := A8) (F := 0) (m := false) (f := cf) (d := false) (by show riB ((K : Int) + 1) A8 0 cf false = true; rw [hC1]; exact hri)
            rw [show (newO ((K : Int) + 1) L c).C = C1 from hC1] at ho6
            rw [show (newO ((K : Int) + 1) L c).hd A8 0 false cf false = t.ok_ K c 0 by rw [t.ok_0, HL.out, hA8, hcf]] at ho6
            rw [show (TP : Int).toNat = TP by omega] at ho6
            have he6 : ∀ j, j < TP ∨ TP + N ≤ j → ((layL xs TP N ((K : Int) + 1) L c.f).set TP (wd C1 A8 0 false cf false))[j]? = xs[j]? := fun j hj => by
              rw [List.getElem?_set_ne (by omega)]
              exact HO3.out.2 j hj
            have hn6 : ((layL xs TP N ((K : Int) + 1) L c.f).set TP (wd C1 A8 0 false cf false)).length = xs.length := by rw [List.length_set, L6.layL_length]
            have H6 := hide (And.intro hs6 (And.intro ho6 (And.intro he6 hn6)))
            clear hk0 hk1 hk2 HK5 HSH H5 HO3 hs6 ho6 he6 hn6 hl5 hb5 gc5 c6 c6' hri
            generalize (layL xs TP N ((K : Int) + 1) L c.f).set TP (wd C1 A8 0 false cf false) = xs6 at *
            have HL6 := hide hl6
            have HB6 := hide hb6
            have HG6 := hide gc6
            have HTP6 := hide (by have := (HTP.out _ _ _ _ hl6).1; rwa [hTP] at this : w6.cell? ⟨p, OF + 1, none⟩ = some (.int .i64 TP))
            clear hl6 hb6 gc6
            go_wp2_with fail
            go_loopw [126] (fun v wr => ∃ (k : Nat) (ys : List Int), k ≤ D ∧ v = .int .i64 k ∧ St wr (some ⟨b, 0, none⟩) tp g ys f.cs ∧ ObAt ys f.cs (TP : Int) (t.ok_ K c k) ∧ (∀ j, j < TP ∨ TP + N ≤ j → ys[j]? = xs[j]?) ∧ ys.length = xs.length ∧ Chg (· = g) w6 wr) (fun v _ => D - (intOf v).toNat)
            case atStart => exact ⟨0, xs6, Nat.zero_le _, rfl, H6.out.1, H6.out.2.1, H6.out.2.2.1, H6.out.2.2.2, Chg.refl _ _⟩
            case round =>
              clear H6
              obtain ⟨k, ys, hk, rfl, hst, hob, hfar, hlen, cc⟩ := hrel
              have hl7 := HL6.out.chg cc ngp
              have hb7 := HB6.out.chg cc nbg
              have t1 := cc.cell HTP6.out ngp
              rcases Nat.eq_or_lt_of_le hk with hke | hlt
              · have q1 : decide ((k : Int) < D) = false := decide_eq_false (by omega)
                subst hke
                have hon : t.ok_ K c k = t.o K c := by rw [← t.ok_n, HL.out, HRD.out.2.1]; congr 1
                rw [hon] at hob
                have gcr : Chg (· = g) w wr := HG6.out.trans cc
                have holr := HLF.out.ol.chg gcr (fun i e h => by have := (HLF.out.ol.lt i e).1; have := HLF.out.lo.gz; have := HLF.out.zw; omega)
                have hzw : zl ≤ wr.heap.size := Nat.le_trans HLF.out.zw.2 gcr.size
                obtain ⟨M, hM⟩ : ∃ M, f.zs.length = M := ⟨_, rfl⟩
                have gl : Grow wr (wr.alloc (.cells #[.int .i64 TP] 3)).drew := (Grow.box wr (.cells #[.int .i64 TP] 3)).drew
                have rl1 : L1.Rd (wr.alloc (.cells #[.int .i64 TP] 3)).drew (some ⟨wr.heap.size, 0, none⟩) 1 [(TP : Int)] := own_rd (OL.lit wr [(TP : Int)] (by simp))
                obtain ⟨v', W', hrr, ho', hgb, hob'⟩ := app_int (c := 1) (holr.grow gl) (by have := gl.size; omega) rl1 (by simp; omega)
                obtain ⟨aa, ac, hav⟩ := own_len holr
                obtain ⟨a4, c4, hv'⟩ := own_len ho'
                have hl8 := (hl7.chg gl id).grownOwn hgb (fun e => OL.ne (holr.grow gl) (hl7.chg gl id) (by decide) e.symm)
                have c8 : Chg (fun i => av.ownBlock = some i) wr W' := (Chg.grown (S := fun i => av.ownBlock = some i) (gl.mono fun _ _ h => h.elim) hgb (fun k _ e => e))
                have HFIN : Hid (∃ av' xs', Lf ((W'.setCell ⟨p, 17, none⟩ v').setCell ⟨p, OF + 1, none⟩ (.int .i64 ((TP : Int) + N))) z zl b tp g p (some ⟨cb, co, none⟩) cl cp av' rv pc (f.lay t) xs' rs H ∧ Chg (fun i => i = g ∨ i = p ∨ av.ownBlock = some i) w ((W'.setCell ⟨p, 17, none⟩ v').setCell ⟨p, OF + 1, none⟩ (.int .i64 ((TP : Int) + N)))) := hide (by
                  have c9 : Chg (· = p) W' ((W'.setCell ⟨p, 17, none⟩ v').setCell ⟨p, OF + 1, none⟩ (.int .i64 ((TP : Int) + N))) := ((Chg.refl _ _).set1 17 _).set1 (OF + 1) _
                  have hl9 : Blk (W'.setCell ⟨p, 17, none⟩ v') p 40 (lfCs b tp f.y v' rv pc (.slice (some ⟨cb, co, none⟩) cl cp)) := hl8.set_ 17 v'
                  have hl10 := HPT.out _ _ _ _ ((TP : Int) + N) hl9
                  have hlow := (((HLF.out.lo.put hst gcr).chg c8 fun i e => Nat.le_trans HLF.out.zw.1 (HLF.out.ol.lt i e).1).life hl8 c9)
                  have hrv1 := HLF.out.rl.chg gcr (fun i e h => by have := (HLF.out.rl.lt i e).1; have := HLF.out.lo.gz; have := HLF.out.zw; omega)
                  have hrv2 := hrv1.chg c8 (fun i e h => HLF.out.ap i h e)
                  have hrv3 := hrv2.chg c9 (fun i e h => OL.ne hrv2 hl8 (by decide) (h ▸ e))
                  have hov3 := ho'.chg c9 (fun i e h => OL.ne ho' hl8 (by decide) (h ▸ e))
                  have hadd : f.lay t = f.add t.i (t.o K c) := by rw [HLAY.out, if_neg (by rw [HSO.out, hEN, hTP]; omega)]
                  refine ⟨v', ys, ⟨by rw [hadd]; exact hlow, ?_, ?_, ?_, hrv3, ?_, HLF.out.zw.1, ?_⟩, ?_⟩
                  · rw [hadd]
                    show Blk _ p _ (lfCs b tp (f.y.st t.i (f.y.tp t.i + ((t.o K c).sz : Int))) v' rv pc _)
                    rw [hTP, HSO.out]
                    exact hl10
                  · rw [hadd]
                    refine HLF.out.bd.add HI.out (by rw [hEN, hTP, HSO.out]; omega) (by rw [hTP]; exact hob) hlen (fun j hj => hfar j ?_) (t.oz K c)
                    rw [hTP, HSO.out] at hj
                    simpa using hj
                  · rw [hadd]
                    show OL _ zl v' (f.zs ++ [f.y.tp t.i])
                    rw [hTP]; exact hov3
                  · intro i e1 e2
                    rcases hob' with h | h
                    · exact HLF.out.ap i (by rw [← h, e1]) e2
                    · rw [h] at e1
                      injection e1 with e1
                      have h1 := (hrv1.lt i e2).2
                      have h2 := gl.size
                      omega
                  · have h1 := c8.size; have h2 := c9.size; omega
                  · exact ((gcr.mono fun i _ e => .inl e : Chg (fun i => i = g ∨ i = p ∨ av.ownBlock = some i) w wr).trans (c8.mono fun i _ e => .inr (.inr e))).trans (c9.mono fun i _ e => .inr (.inl e)))
                rw [List.length_append, hM, List.length_singleton] at hv'
                rw [hM] at hav
                subst hv'
                subst hav
                have KA := hide hrr
                have l17 : wr.cell? ⟨p, 17, none⟩ = some (.slice aa M ac) := hl7.cell 17
                have s1 : wr.drew.cell? ⟨p, 17, none⟩ = some (.slice aa M ac) := l17
                have s2 : (wr.alloc (.cells #[.int .i64 TP] 3)).drew.cell? ⟨p, 17, none⟩ = some (.slice aa M ac) := (hl7.chg gl id).cell 17
                have s3 : wr.drew.cell? ⟨p, OF + 1, none⟩ = some (.int .i64 TP) := t1
                have s4 : W'.cell? ⟨p, 17, none⟩ = some (.slice aa M ac) := hl8.cell 17
                have s5 : W'.frozen? ⟨p, 17, none⟩ = false := hl8.frozen 17
                have hl9 : Blk (W'.setCell ⟨p, 17, none⟩ (.slice a4 (M + 1) c4)) p 40 (lfCs b tp f.y (.slice a4 (M + 1) c4) rv pc (.slice (some ⟨cb, co, none⟩) cl cp)) := hl8.set_ 17 _
                have s6 := (HTP.out _ _ _ _ hl9).1
                rw [hTP] at s6
                have s7 : (W'.setCell ⟨p, 17, none⟩ (.slice a4 (M + 1) c4)).frozen? ⟨p, OF + 1, none⟩ = false := hl9.frozen _
                have p1 : IntKind.i64.wrap ((TP : Int) + (N : Int)) = (TP : Int) + N := IntWalk.i64_in _ (by omega)
                have p2 : wrap64 ((TP : Int) + (N : Int)) = (TP : Int) + N := wrap64_id _ (by omega)
                clear rl1 hst hob hfar hlen cc hl7 hrr ho' hgb hob' hl8 c8 hl9 gcr holr hon
                go_wp2_with fail
                go_region_law (refine step_app (by rfl) _ _ _ (by rfl) (.slice aa M ac) (.slice (some ⟨wr.heap.size, 0, none⟩) 1 1) (.slice a4 (M + 1) c4) W' (by rfl) (by rfl) KA.out ?_)
                all_goals (go_wp2; go_returns; exact ⟨rfl, HFIN.out⟩)
              · have q1 : decide ((k : Int) < D) = true := decide_eq_true (by omega)
                have q2 : k < D := hlt
                have hw : IntKind.i64.wrap ((k : Int) + 1) = ((k + 1 : Nat) : Int) := (IntWalk.i64_in _ (by have := HRN.out.1; omega)).trans (by omega)
                have hdl : (t.ok_ K c k).ds.length = D := by rw [Tg.ok_, Tg.dk_len, HL.out, HRD.out.2.1]; omega
                have hrl : (t.ok_ K c k).rs.length = R := by rw [Tg.ok_, List.length_replicate, HL.out, HRD.out.1]; omega
                have hsl := hob.slD hst.rt (k := k) (by rw [hdl]; exact hlt)
                rw [hrl] at hsl
                obtain ⟨V, hV⟩ : ∃ V, t.d + (k : Int) = V := ⟨_, rfl⟩
                have p1 : IntKind.i64.wrap t.d = t.d := IntWalk.i64_in _ (by omega)
                have p2 : IntKind.i64.wrap (t.d + (k : Int)) = V := (IntWalk.i64_in _ (by have := HRN.out.1; omega)).trans hV
                have p3 : IntKind.i64.wrap (k : Int) = k := IntWalk.i64_in _ (by have := HRN.out.1; omega)
                have hob' := hob.setD (k := k) (by rw [hdl]; exact hlt) V
                rw [hrl, show (TP : Int).toNat = TP by omega] at hob'
                have hset : (t.ok_ K c k).ds.set k V = t.dk (shD (some c) (t.l c)).toNat (k + 1) := by rw [← hV]; exact t.dk_set (by rw [HL.out, HRD.out.2.1]; omega)
                rw [hset] at hob'
                have hfar' : ∀ j, j < TP ∨ TP + N ≤ j → (ys.set (TP + (2 + R + k)) V)[j]? = xs[j]? := fun j hj => by
                  rw [List.getElem?_set_ne (by have := HRN.out.2; omega)]
                  exact hfar j hj
                have HOB := hide (show ObAt (ys.set (TP + (2 + R + k)) V) f.cs (TP : Int) (t.ok_ K c (k + 1)) from hob')
                have HFA := hide (And.intro hfar' (show (ys.set (TP + (2 + R + k)) V).length = xs.length by rw [List.length_set]; exact hlen))
                have HST := hide (fun W (c' : Grow wr W) => show Calls Tryz.prog 65 #[stV (some ⟨b, 0, none⟩) tp, .int .i64 (TP : Int), .int .i64 (k : Int), .int .i64 V] W fun e w' => e = .returned (.int .i64 0) ∧ St w' (some ⟨b, 0, none⟩) tp g (ys.set (TP + (2 + R + k)) V) f.cs ∧ Chg (· = g) W w' from by
                  have := L6.setnum_in (u := V) (hst.grow c') (by omega) hsl.1 hsl.2
                  rwa [show ((TP : Int) + 2 + (R : Int) + (k : Int)).toNat = TP + (2 + R + k) by omega] at this)
                have HC := hide cc
                obtain ⟨l2, l3⟩ : wr.cell? ⟨p, 2, none⟩ = some (.pointer (some ⟨b, 0, none⟩)) ∧ wr.cell? ⟨p, 3, none⟩ = some (.pointer tp) := ⟨hl7.cell 2, hl7.cell 3⟩
                have b3 : wr.cell? ⟨bx, 3, none⟩ = some (.int .u8 t.d) := hb7.cell 3
                have hk0 : wr.cell? ⟨p, 2, none⟩ = some (.pointer (some ⟨b, 0, none⟩)) ∧ wr.cell? ⟨p, 3, none⟩ = some (.pointer tp) ∧ wr.cell? ⟨p, OF + 1, none⟩ = some (.int .i64 TP) ∧ wr.cell? ⟨bx, 3, none⟩ = some (.int .u8 t.d) := ⟨l2, l3, t1, b3⟩
                have HK7 := hide (fun W (c' : Chg (· = g) wr W) => show W.cell? ⟨p, 2, none⟩ = some (.pointer (some ⟨b, 0, none⟩)) ∧ W.cell? ⟨p, 3, none⟩ = some (.pointer tp) ∧ W.cell? ⟨p, OF + 1, none⟩ = some (.int .i64 TP) ∧ W.cell? ⟨bx, 3, none⟩ = some (.int .u8 t.d) from ⟨c'.cell hk0.1 ngp, c'.cell hk0.2.1 ngp, c'.cell hk0.2.2.1 ngp, c'.cell hk0.2.2.2 nbg⟩)
                have hk1 := HK7.out wr.drew (Chg.drew (Chg.refl _ _))
                clear hst hob hob' hfar hfar' hset hsl hdl hrl hl7 hb7 l2 l3 t1 b3 cc hlen hV hk
                go_wp2_with fail
                go_region_held3 (fun W => W.cell? ⟨p, 2, none⟩ = some (.pointer (some ⟨b, 0, none⟩)) ∧ W.cell? ⟨p, 3, none⟩ = some (.pointer tp) ∧ W.cell? ⟨p, OF + 1, none⟩ = some (.int .i64 TP) ∧ W.cell? ⟨bx, 3, none⟩ = some (.int .u8 t.d))
                  (first | with_reducible exact hk0 | with_reducible exact hk1 | with_reducible exact hk2)
                  (first
                    | (go_at_call 65; (with_reducible refine (HST.out _ (Chg.drew (Chg.refl _ _))).mono ?_); rintro e w8 ⟨rfl, hs8, c8⟩; (have hk2 := HK7.out w8 (Chg.trans (Chg.drew (Chg.refl _ _)) c8)))
                    | fail)
                have HS8 := hide (And.intro hs8 (HC.out.trans (Chg.trans (Chg.drew (Chg.refl _ _)) c8)))
                clear hk0 hk1 hk2 HK7 HST hs8 c8 HC
                go_wp2
                go_roundw
                case rel => exact ⟨k + 1, _, q2, rfl, HS8.out.1, HOB.out, HFA.out.1, HFA.out.2, HS8.out.2⟩
                case measure => simp [intOf]; omega
end
end Go.Proofs.YtogfjclmohpjkaaGreatDoor.L15
