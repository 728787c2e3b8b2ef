/- What SetHead and Move do to a store; the memory of a run: its struct, its list of new addresses. Conditions: the address is an object's. -/
import Derived.Test.YtogfjclmohpjkaaGreatDoorL15K
namespace Go.Proofs.YtogfjclmohpjkaaGreatDoor.L15
open Go.ChangeShapes Go.WideShapes Go.ChangeAt Go.RowKit Go.Shelf
open Go.Proofs.YtogfjclmohpjkaaGreatDoor.L1 (Sl Ar ptr exB)
open Go.Proofs.YtogfjclmohpjkaaGreatDoor.L4 (hdV riB wd wdV wdX)
open Go.Proofs.YtogfjclmohpjkaaGreatDoor.L5 (Cl clV rtB Tb clAt shX shR shD)
open Go.Proofs.YtogfjclmohpjkaaGreatDoor.L6 (Th th0 stV St fdT fdX obT obX slX slP slV gw Wk)
open Go.Proofs.YtogfjclmohpjkaaGreatDoor.L2 (spV orZ hasB)
set_option linter.unusedVariables false
set_option maxRecDepth 100000
section
variable {w w' W : World} {tp : Option Addr} {g n m b z : Nat} {xs ys : List Int} {a : Int} {cs : List Cl} {o : Ob} {S : Nat → Prop}
set_option maxHeartbeats 1000000 in
theorem sethead_ok {A F : Int} {m f d : Bool} (h : St w (some ⟨b, 0, none⟩) tp g xs cs) (ho : ObAt xs cs a o) (hr : riB o.C A F f d = true) :
    Calls Tryz.prog 64 #[stV (some ⟨b, 0, none⟩) tp, .int .i64 a, hdV o.C A F m f d] w fun e w' => e = .returned (.int .i64 0) ∧ St w' (some ⟨b, 0, none⟩) tp g (xs.set a.toNat (wd o.C A F m f d)) cs ∧ Chg (· = g) w w' := by
  obtain ⟨hT, hX⟩ := ho.ob h.rt
  have h1 : a ≤ 9223372036854775807 := by have := ho.a64 h.n; omega
  have hlen := ho.len
  have hsz := sz_pos o
  have ha1 := ho.a1
  obtain ⟨K, rfl⟩ := Int.eq_ofNat_of_zero_le (show 0 ≤ a by omega)
  obtain ⟨V, hV⟩ : ∃ V, wd o.C A F m f d = V := ⟨_, rfl⟩
  have HV := hide (show wdV o.C A F m f d = V ∧ wdX o.C A F f d = 0 from ⟨by rw [wdV, if_pos hr, hV], by rw [wdX, if_pos hr]⟩)
  rw [hV]
  have HT := hide hT
  have HX := hide hX
  have HK := hide (show K < xs.length by omega)
  have H := hide h
  have hgw := h.lt
  have ngs : ¬ w.heap.size = g := by omega
  have ngh : ¬ w.heap.size + 1 = g := by omega
  obtain ⟨C, Ao, Fo, mo, fo, do_, lo, rs, ds⟩ := o
  dsimp only [Ob.th] at HT HV
  dsimp only
  clear h ho hr hT hX hlen hsz ha1 hV hgw
  obtain ⟨hs, hh, cc, fs, fh, n_sh⟩ := boxes2 w 32 [.pointer (some ⟨b, 0, none⟩), .pointer tp] 123 [.int .i64 C, .int .i64 A, .int .i64 F, .bool m, .bool f, .bool d]
  go_enter Tryz.func64, Tryz.ntmps64
  go_wp2_with fail
  generalize (w.alloc (.cells #[.pointer (some ⟨b, 0, none⟩), .pointer tp] 32)).alloc (.cells #[.int .i64 C, .int .i64 A, .int .i64 F, .bool m, .bool f, .bool d] 123) = w3 at *
  generalize w.heap.size + 1 = h at *
  generalize w.heap.size = s at *
  refine (L6.object_is (H.out.grow cc) h1 HT.out HX.out).mono ?_
  rintro e w4 ⟨rfl, c_w4⟩
  replace hs := hs.chg c_w4 id
  replace hh := hh.chg c_w4 id
  replace cc := cc.step c_w4 (fun _ _ h => h.elim)
  clear c_w4 
  have hx := Blk.new w4 128 [.int .i64 C, .int .i64 Ao, .int .i64 Fo, .bool mo, .bool fo, .bool do_, .int .i64 (Ob.sz ⟨C, Ao, Fo, mo, fo, do_, lo, rs, ds⟩ : Int), .int .i64 (rs.length : Int), .int .i64 (ds.length : Int)]
  replace hs := hs.alloc (.cells [.int .i64 C, .int .i64 Ao, .int .i64 Fo, .bool mo, .bool fo, .bool do_, .int .i64 (Ob.sz ⟨C, Ao, Fo, mo, fo, do_, lo, rs, ds⟩ : Int), .int .i64 (rs.length : Int), .int .i64 (ds.length : Int)].toArray 128)
  replace hh := hh.alloc (.cells [.int .i64 C, .int .i64 Ao, .int .i64 Fo, .bool mo, .bool fo, .bool do_, .int .i64 (Ob.sz ⟨C, Ao, Fo, mo, fo, do_, lo, rs, ds⟩ : Int), .int .i64 (rs.length : Int), .int .i64 (ds.length : Int)].toArray 128)
  replace cc := cc.alloc (.cells [.int .i64 C, .int .i64 Ao, .int .i64 Fo, .bool mo, .bool fo, .bool do_, .int .i64 (Ob.sz ⟨C, Ao, Fo, mo, fo, do_, lo, rs, ds⟩ : Int), .int .i64 (rs.length : Int), .int .i64 (ds.length : Int)].toArray 128)
  obtain ⟨s0, s1⟩ := hs.cell2
  obtain ⟨b0, b1, b2, b3, b4, b5⟩ := hh.cell6
  obtain ⟨x0, -⟩ := hx.cell9
  go_wp2_with fail
  clear b0 b1 b2 b3 b4 b5 s0 s1 x0
  refine (L6.word_is _ HV.out.1 HV.out.2).mono ?_
  rintro e w6 ⟨rfl, c_w6⟩
  replace hs := hs.chg c_w6 id
  replace hh := hh.chg c_w6 id
  replace hx := hx.chg c_w6 id
  replace cc := cc.step c_w6 (fun _ _ h => h.elim)
  clear c_w6 
  have H6 := hide (H.out.grow cc)
  replace cc := cc.mono (S := (· = g)) (fun _ _ h => h.elim)
  obtain ⟨s0, s1⟩ := hs.cell2
  obtain ⟨b0, -⟩ := hh.cell6
  obtain ⟨x0, -⟩ := hx.cell9
  go_wp2_with fail
  clear s0 s1 b0 x0
  refine (L6.store_is (k := K) H6.out rfl HK.out).mono ?_
  rintro e w7 ⟨rfl, h7, c7⟩
  have H7 := hide h7
  have HC := hide (cc.trans c7)
  clear h7 cc c7
  go_wp2
  go_ret
  exact ⟨rfl, H7.out, HC.out⟩
theorem move_is {x y k : Nat} {i j l : Int} (h : St w (some ⟨b, 0, none⟩) tp g xs cs) (hi : i = (x : Int)) (hj : j = (y : Int)) (hl : l = (k : Int)) (hx : x + k ≤ xs.length) (hy : y + k ≤ xs.length) :
    Calls Tryz.prog 79 #[.pointer (some ⟨b, 0, none⟩), .int .i64 i, .int .i64 j, .int .i64 l] w fun e w' => e = .returned (.int .i64 0) ∧ St w' (some ⟨b, 0, none⟩) tp g (mvW xs x y k) cs ∧ Chg (· = g) w w' := by
  subst hi hj hl
  refine (L1.move_ok b g xs x y k w h.open_ h.n hx hy).mono ?_
  rintro e w' ⟨he, ha, c⟩
  exact ⟨he, h.put ha (mvW_length hx hy) c, c⟩
/-- A store all of whose blocks lie below z. -/
structure Low (w : World) (z b : Nat) (tp : Option Addr) (g : Nat) (xs : List Int) (cs : List Cl) : Prop where
  st : St w (some ⟨b, 0, none⟩) tp g xs cs
  bz : b < z
  gz : g < z
  tb : ∃ base v, Tb w base tp v cs ∧ ¬ v.ownBlock = some g ∧ ¬ tp = some ⟨g, 0, none⟩ ∧ (∀ k, v.ownBlock = some k → k < z) ∧ (∀ k, tp = some ⟨k, 0, none⟩ → k < z)
theorem tb_keep {base : Nat} {v : Value} (h : Tb w base tp v cs) (c : Chg S w w') (h1 : ∀ k, v.ownBlock = some k → ¬ S k) (h2 : ∀ k, tp = some ⟨k, 0, none⟩ → ¬ S k) : Tb w' base tp v cs := by
  obtain ⟨t1, t2⟩ := h
  refine ⟨own_chg t1 c h1, ?_⟩
  rcases t2 with t2 | ⟨k, e, hb, hk⟩
  · exact .inl t2
  · exact .inr ⟨k, e, hb, hk.chg c (h2 k e)⟩
theorem Low.start (h : St w (some ⟨b, 0, none⟩) tp g xs cs) : Low w w.heap.size b tp g xs cs := by
  obtain ⟨base, v, ht, h1, h2⟩ := h.tb
  refine ⟨h, h.open_.1.lt, h.lt, base, v, ht, h1, h2, fun k e => (ht.1.lt k e).2, fun k e => ?_⟩
  rcases ht.2 with ⟨e', _⟩ | ⟨k', e', _, hk⟩
  · rw [e'] at e; cases e
  · rw [e'] at e; injection e with e; injection e with e; subst e; exact hk.lt
theorem Low.chg (h : Low w z b tp g xs cs) (c : Chg S w w') (hs : ∀ i, S i → z ≤ i) : Low w' z b tp g xs cs := by
  obtain ⟨base, v, ht, h1, h2, h3, h4⟩ := h.tb
  have ht' : Tb w' base tp v cs := tb_keep ht c (fun k e hS => by have := h3 k e; have := hs k hS; omega) (fun k e hS => by have := h4 k e; have := hs k hS; omega)
  have ha : Ar w' b g xs := h.st.open_.chg c (fun hS => by have := hs _ hS; have := h.bz; omega) (fun hS => by have := hs _ hS; have := h.gz; omega)
  exact ⟨⟨.inr ⟨b, rfl, ha⟩, ⟨base, v, ht', h1, h2⟩, h.st.n, h.st.cl, h.st.rt⟩, h.bz, h.gz, base, v, ht', h1, h2, h3, h4⟩
theorem Low.grow (h : Low w z b tp g xs cs) (c : Grow w w') : Low w' z b tp g xs cs := h.chg c fun _ h => h.elim
theorem Low.put (h : Low w z b tp g xs cs) (hs : St w' (some ⟨b, 0, none⟩) tp g ys cs) (c : Chg (· = g) w w') : Low w' z b tp g ys cs := by
  obtain ⟨base, v, ht, h1, h2, h3, h4⟩ := h.tb
  exact ⟨hs, h.bz, h.gz, base, v, tb_keep ht c (fun k e hS => h1 (by rw [e, hS])) (fun k e hS => h2 (by rw [e, hS])), h1, h2, h3, h4⟩
end
/-- The cells of a run's struct. -/
abbrev mvCs (b : Nat) (tp : Option Addr) (y : Yg) (ot tt : Int) (mg n : Nat) : List Value :=
  [.pointer (some ⟨b, 0, none⟩), .pointer (some ⟨b, 0, none⟩), .pointer tp, .int .i64 y.OF, .int .i64 y.OT, .int .i64 y.OE, .int .i64 y.EF, .int .i64 y.ET, .int .i64 y.EE, .int .i64 y.FF, .int .i64 y.FT, .int .i64 y.FE, .int .i64 y.TF, .int .i64 y.TT, .int .i64 y.TE, .int .i64 y.th,
   .int .i64 y.OF, .int .i64 ot, .int .i64 y.OE, .int .i64 y.TF, .int .i64 tt, .int .i64 y.TE, .slice (some ⟨mg, 0, none⟩) n n]
structure Mg (w : World) (f : Fx) (s : Mst) (z b : Nat) (tp : Option Addr) (g mb mg : Nat) : Prop where
  lo : Low w z b tp g s.xs f.cs
  bl : Blk w mb 91 (mvCs b tp f.y s.ot s.tt mg f.n)
  mv : Blk w mg 3 (ints s.mv)
  hm : z ≤ mb
  hg : z ≤ mg
section
variable {w w' W : World} {tp : Option Addr} {g n m b z mb mg : Nat} {f : Fx} {s : Mst}
theorem Mg.ne (h : Mg w f s z b tp g mb mg) : mb ≠ mg := h.bl.ne_ h.mv (by decide)
theorem Mg.gm (h : Mg w f s z b tp g mb mg) : mb ≠ g ∧ mg ≠ g ∧ mb ≠ b ∧ mg ≠ b := by
  have := h.lo.gz
  have := h.lo.bz
  have := h.hm
  have := h.hg
  exact ⟨by omega, by omega, by omega, by omega⟩
theorem Mg.grow (h : Mg w f s z b tp g mb mg) (c : Grow w w') : Mg w' f s z b tp g mb mg := ⟨h.lo.grow c, h.bl.chg c id, h.mv.chg c id, h.hm, h.hg⟩
end
end Go.Proofs.YtogfjclmohpjkaaGreatDoor.L15
