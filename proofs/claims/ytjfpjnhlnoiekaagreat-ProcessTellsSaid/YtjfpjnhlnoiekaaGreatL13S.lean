/- Reference processing: the state of the nodes, in memory: its map, its lists; what a store changes in it. Conditions: the numbers fit an int. -/
import Derived.Test.YtjfpjnhlnoiekaaGreatL13P
import Derived.Test.YtjfpjnhlnoiekaaGreatL13Ql
import Derived.Test.YtjfpjnhlnoiekaaGreatL10A
namespace Go.Proofs.YtjfpjnhlnoiekaaGreat.L13
open Go.ChangeShapes Go.WideShapes Go.ChangeAt Go.RowKit Go.Maps
open Go.Proofs.YtjfpjnhlnoiekaaGreat.L9 (Nd nd Srt In64 GS Mn Says ptrE ptrE_mk ptrE_inv keyI pt ptr hldX aimX nd_some nd_none nd_mem own_rd owns_size keys_size)
open Go.Proofs.YtjfpjnhlnoiekaaGreat.L10 (Rc IsRc outs clL fins fnB clL_srt put OL)
open Go.Proofs.YtjfpjnhlnoiekaaGreat.L5 (Cl clAt isRf)
set_option linter.unusedVariables false

theorem zeroPn (w : World) : (zeroValue 71).run Tryz.prog w = .ok (.pointer none) w := by kernel_rfl
section
variable {w w' : World} {m : Nat} {f : Int → Option Nat}
theorem pn_look (h : Mn w m f) {x : Int} (hx : In64 x) :
    (Instr.lookup 111 (.map (some m)) (.int .i64 x) false).run Tryz.prog w = .ok (pt (f x)) w := by
  obtain ⟨D, ho, hk⟩ := h
  have hkey := keyOf_int_mk Tryz.underlying3 hx
  obtain ⟨es, clock, hb, F, hs, rfl⟩ := ho
  rcases Maps.fit_look (w := w) (t := 111) false keyI Tryz.underlying111 (zeroPn w) hb F hkey with ⟨hrun, _, hat⟩ | ⟨e0, y, _, _, hrun, hRv, hat, _⟩
  · rw [hrun]
    cases hf : f x with
    | none => rfl
    | some b =>
      have h1 := ((hk x).1 b hf).2 (.agg [])
      rw [hat] at h1
      cases h1
  · rw [hrun]
    obtain ⟨b', hv, hy⟩ := ptrE_inv hRv
    cases hf : f x with
    | none =>
      have h1 := atKey_of_not_has ((hk x).2 hf) (.agg [])
      rw [hat, hy] at h1
      exact absurd h1 (by simp)
    | some b =>
      have h1 := ((hk x).1 b hf).2 (.agg [])
      rw [hat, hy] at h1
      have h2 : b' = b := by
        simp at h1
        exact Int.ofNat.inj h1
      rw [h2] at hv
      simp [hv, pt]
theorem pn_at (h : Mn w m f) {x : Int} (hx : In64 x) {b : Nat} (hf : f x = some b) :
    (Instr.lookup 111 (.map (some m)) (.int .i64 x) false).run Tryz.prog w = .ok (ptr b) w := by
  rw [pn_look h hx, hf]
  rfl
theorem pn_put (h : Mn w m f) {ids : List Int} (hid : ∀ x, f x ≠ none ↔ x ∈ ids) (hn : ids.Nodup) (hl : ids.length < maxLen) {x : Int} (hx : In64 x) (b : Nat) :
    ∃ w', (Instr.mapUpdate 111 (.map (some m)) (.int .i64 x) (.pointer (some ⟨b, 0, none⟩))).run Tryz.prog w = .ok () w' ∧ Mn w' m (fun y => if y = x then some b else f y) ∧ Chg (· = m) w w' := by
  obtain ⟨D, ho, hk⟩ := h
  have hp := Mn.size_lt ⟨D, ho, hk⟩ hid hn ho hk
  have hsz : size D < maxLen := by rw [← keys_size, ← hp.length_eq]; exact hl
  obtain ⟨w', hrun, ho', hg⟩ := ho.update keyI Tryz.underlying111 hsz (keyOf_int_mk Tryz.underlying3 hx) (ptrE_mk b)
  exact ⟨w', hrun, ⟨_, owns_size ho', hk.put ho.isMap x b⟩, hg.os, hg.tape, hg.output, hg.size, fun i hi hne => hg.block i hi (fun e => hne (by injection e))⟩
end
/-- The cells of a node of the state: q says who lives, c who is cleared. -/
def pnC (cs : List Cl) (L : List Nd) (q c : Int → Bool) (x : Nd) (ra : Option Addr) (rc : Nat) (da : Option Addr) (dc : Nat) : List Value :=
  [.int .i64 x.id, .int .i64 x.c, .slice ra x.refs.length rc, .slice da x.data.length dc, .bool x.fin, .int .i64 (aimX cs L x.id).1, .int .i64 (aimX cs L x.id).2, .bool (q x.id), .bool (c x.id)]
def Pnd (W : World) (b : Nat) (cs : List Cl) (L : List Nd) (q c : Int → Bool) (x : Nd) : Prop := ∃ ra rc da dc, Blk W b 73 (pnC cs L q c x ra rc da dc)
/-- What a call on the state may touch. -/
def Tch (s : Nat) (f : Int → Option Nat) (wv : Value) (k : Nat) : Prop := k = s ∨ (∃ i, f i = some k) ∨ wv.ownBlock = some k
/-- The state at block s, made behind w: the map m, by f; the list of all names; who lives, who is cleared; the list of those who wait, by wq. -/
structure Sn (w W : World) (s p m : Nat) (f : Int → Option Nat) (ia : Option Addr) (ic : Nat) (cs : List Cl) (L : List Nd) (q c : Int → Bool) (wv : Value) (wq : Int → Bool) : Prop where
  gw : Grow w W
  blk : Blk W s 113 [ptr p, .slice ia L.length ic, .map (some m), wv]
  ids : W.ownsRow w.heap.size 3 1 (.slice ia L.length ic) L.length (ints (L.map Nd.id))
  map : Mn W m f
  nds : ∀ x ∈ L, ∃ b, f x.id = some b ∧ Pnd W b cs L q c x
  no : ∀ i, nd L i = none → f i = none
  fb : ∀ i b, f i = some b → w.heap.size ≤ b
  ap : ∀ i j b, f i = some b → f j = some b → i = j
  wl : QL W w.heap.size wv (clL L wq)
  wi : ∀ k, wv.ownBlock = some k → (Value.slice ia L.length ic).ownBlock ≠ some k
  wn : ∀ i, wq i = true → q i = true
  sg : w.heap.size ≤ s
  mg : w.heap.size ≤ m
section
variable {w W W' : World} {s p m z b : Nat} {f : Int → Option Nat} {ia : Option Addr} {ic : Nat} {cs : List Cl} {L : List Nd} {q c : Int → Bool} {wv : Value} {wq : Int → Bool} {S T : Nat → Prop} {x : Nd} {i : Int}
theorem Pnd.chg (h : Pnd W b cs L q c x) (d : Chg T W W') (hb : ¬ T b) : Pnd W' b cs L q c x := by
  obtain ⟨ra, rc, da, dc, h⟩ := h
  exact ⟨ra, rc, da, dc, h.chg d hb⟩
theorem Sn.grow (h : Sn w W s p m f ia ic cs L q c wv wq) (g : Grow W W') : Sn w W' s p m f ia ic cs L q c wv wq :=
  ⟨h.gw.trans g, h.blk.chg g id, own_grow h.ids g, h.map.chg g id, fun x hx => by
    obtain ⟨b, h1, h2⟩ := h.nds x hx
    exact ⟨b, h1, h2.chg g id⟩, h.no, h.fb, h.ap, h.wl.grow g, h.wi, h.wn, h.sg, h.mg⟩
theorem Sn.c0 (h : Sn w W s p m f ia ic cs L q c wv wq) : W.cell? ⟨s, 0, none⟩ = some (ptr p) := h.blk.cell 0
theorem Sn.c1 (h : Sn w W s p m f ia ic cs L q c wv wq) : W.cell? ⟨s, 1, none⟩ = some (.slice ia L.length ic) := h.blk.cell 1
theorem Sn.c2 (h : Sn w W s p m f ia ic cs L q c wv wq) : W.cell? ⟨s, 2, none⟩ = some (.map (some m)) := h.blk.cell 2
theorem Sn.c3 (h : Sn w W s p m f ia ic cs L q c wv wq) : W.cell? ⟨s, 3, none⟩ = some wv := h.blk.cell 3
theorem Sn.gs (h : Sn w W s p m f ia ic cs L q c wv wq) (hg : GS w z S p cs L) : GS W z S p cs L := hg.grow h.gw
theorem Pnd.cells (h : Pnd W b cs L q c x) : W.cell? ⟨b, 4, none⟩ = some (.bool x.fin) ∧ W.cell? ⟨b, 5, none⟩ = some (.int .i64 (aimX cs L x.id).1) ∧ W.cell? ⟨b, 6, none⟩ = some (.int .i64 (aimX cs L x.id).2) ∧
    W.cell? ⟨b, 7, none⟩ = some (.bool (q x.id)) ∧ W.cell? ⟨b, 8, none⟩ = some (.bool (c x.id)) ∧ W.frozen? ⟨b, 7, none⟩ = false ∧ W.frozen? ⟨b, 8, none⟩ = false := by
  obtain ⟨ra, rc, da, dc, h⟩ := h
  exact ⟨h.cell 4, h.cell 5, h.cell 6, h.cell 7, h.cell 8, h.frozen 7, h.frozen 8⟩
theorem Pnd.low (h : Pnd W b cs L q c x) : ∃ ra rc da dc, W.cell? ⟨b, 0, none⟩ = some (.int .i64 x.id) ∧ W.cell? ⟨b, 1, none⟩ = some (.int .i64 x.c) ∧ W.cell? ⟨b, 2, none⟩ = some (.slice ra x.refs.length rc) ∧ W.cell? ⟨b, 3, none⟩ = some (.slice da x.data.length dc) ∧ W.cell? ⟨b, 4, none⟩ = some (.bool x.fin) := by
  obtain ⟨ra, rc, da, dc, h⟩ := h
  exact ⟨ra, rc, da, dc, h.cell 0, h.cell 1, h.cell 2, h.cell 3, h.cell 4⟩
/-- The k-th name. -/
theorem Sn.id_at (h : Sn w W s p m f ia ic cs L q c wv wq) {k : Nat} (hk : L[k]? = some x) : ∃ g, ia = some ⟨g, 0, none⟩ ∧ W.cell? ⟨g, k, none⟩ = some (.int .i64 x.id) := by
  have hkl : k < L.length := (List.getElem?_eq_some_iff.1 hk).1
  obtain ⟨a, e, hr⟩ := (own_rd h.ids).2 (by omega)
  obtain ⟨g, cap, e2, _⟩ := own_form h.ids (by omega)
  injection e2 with e2
  subst e2
  injection e with e
  subst e
  refine ⟨g, rfl, ?_⟩
  have := hr k hkl
  rw [addr_add, Nat.zero_add] at this
  rw [this]
  simp [hk]
/-- Where the map leads. -/
theorem Sn.look (h : Sn w W s p m f ia ic cs L q c wv wq) (hi : In64 i) : (Instr.lookup 111 (.map (some m)) (.int .i64 i) false).run Tryz.prog W = .ok (pt (f i)) W := pn_look h.map hi
theorem Sn.f_nd (h : Sn w W s p m f ia ic cs L q c wv wq) (hn : nd L i = some x) : ∃ b, f i = some b ∧ Pnd W b cs L q c x := by
  obtain ⟨hx, rfl⟩ := nd_some hn
  exact h.nds x hx
/-- A node begins to live. -/
theorem Sn.live (h : Sn w W s p m f ia ic cs L q c wv wq) (hs : Srt L) (hx : x ∈ L) (hb : f x.id = some b) : Sn w (W.setCell ⟨b, 7, none⟩ (.bool true)) s p m f ia ic cs L (put q x.id) c wv wq := by
  have hd : Chg (· = b) W (W.setCell ⟨b, 7, none⟩ (.bool true)) := (Chg.refl _ _).set1 7 _
  obtain ⟨b0, hb0, ra, rc, da, dc, hB⟩ := h.nds x hx
  obtain rfl : b = b0 := by rw [hb] at hb0; injection hb0
  have n1 : s ≠ b := h.blk.ne_ hB (by decide)
  have n2 : m ≠ b := fun e => by
    obtain ⟨D, ⟨es, clock, e1, r⟩, _⟩ := h.map
    unfold Blk at hB
    rw [← e, e1] at hB
    cases hB
  refine ⟨h.gw.step hd fun k hk e => by have := h.fb _ _ hb; omega, h.blk.chg hd n1, own_chg h.ids hd fun k hk e => ?_, h.map.chg hd n2, fun y hy => ?_, h.no, h.fb, h.ap, h.wl.chg hd fun k hk e => ?_, h.wi, fun i hi => by unfold put; rw [h.wn i hi, Bool.or_true], h.sg, h.mg⟩
  · exact L9.own_ne h.ids hB (by decide) (by rw [← e]; exact hk)
  · obtain ⟨b', h1, ra', rc', da', dc', h2⟩ := h.nds y hy
    by_cases e : y.id = x.id
    · obtain rfl : y = x := L9.srt_inj hs hy hx e
      obtain rfl : b' = b := by rw [hb] at h1; injection h1 with h1; exact h1.symm
      refine ⟨b', hb, ra', rc', da', dc', ?_⟩
      have := h2.set_ 7 (.bool true)
      simpa [pnC, put] using this
    · have hne : b' ≠ b := fun e' => e (h.ap _ _ b (by rw [← e']; exact h1) hb)
      refine ⟨b', h1, ra', rc', da', dc', ?_⟩
      have := h2.chg hd hne
      simpa [pnC, put, e] using this
  · exact h.wl.ne hB (by decide) (by rw [← e]; exact hk)
/-- A node is cleared. -/
theorem Sn.clear (h : Sn w W s p m f ia ic cs L q c wv wq) (hs : Srt L) (hx : x ∈ L) (hb : f x.id = some b) : Sn w (W.setCell ⟨b, 8, none⟩ (.bool true)) s p m f ia ic cs L q (put c x.id) wv wq := by
  have hd : Chg (· = b) W (W.setCell ⟨b, 8, none⟩ (.bool true)) := (Chg.refl _ _).set1 8 _
  obtain ⟨b0, hb0, ra, rc, da, dc, hB⟩ := h.nds x hx
  obtain rfl : b = b0 := by rw [hb] at hb0; injection hb0
  have n1 : s ≠ b := h.blk.ne_ hB (by decide)
  have n2 : m ≠ b := fun e => by
    obtain ⟨D, ⟨es, clock, e1, r⟩, _⟩ := h.map
    unfold Blk at hB
    rw [← e, e1] at hB
    cases hB
  refine ⟨h.gw.step hd fun k hk e => by have := h.fb _ _ hb; omega, h.blk.chg hd n1, own_chg h.ids hd fun k hk e => ?_, h.map.chg hd n2, fun y hy => ?_, h.no, h.fb, h.ap, h.wl.chg hd fun k hk e => ?_, h.wi, h.wn, h.sg, h.mg⟩
  · exact L9.own_ne h.ids hB (by decide) (by rw [← e]; exact hk)
  · obtain ⟨b', h1, ra', rc', da', dc', h2⟩ := h.nds y hy
    by_cases e : y.id = x.id
    · obtain rfl : y = x := L9.srt_inj hs hy hx e
      obtain rfl : b' = b := by rw [hb] at h1; injection h1 with h1; exact h1.symm
      refine ⟨b', hb, ra', rc', da', dc', ?_⟩
      have := h2.set_ 8 (.bool true)
      simpa [pnC, put] using this
    · have hne : b' ≠ b := fun e' => e (h.ap _ _ b (by rw [← e']; exact h1) hb)
      refine ⟨b', h1, ra', rc', da', dc', ?_⟩
      have := h2.chg hd hne
      simpa [pnC, put, e] using this
  · exact h.wl.ne hB (by decide) (by rw [← e]; exact hk)
/-- The list of those who wait changes: in memory first, then in the state. -/
theorem Sn.wait {wv' : Value} {wq' : Int → Bool} (h : Sn w W s p m f ia ic cs L q c wv wq) (d : Chg (fun k => wv.ownBlock = some k) W W') (hw : QL W' w.heap.size wv' (clL L wq')) (ho : ∀ k, wv'.ownBlock = some k → wv.ownBlock = some k ∨ W.heap.size ≤ k) (hq : ∀ i, wq' i = true → q i = true) :
    Sn w (W'.setCell ⟨s, 3, none⟩ wv') s p m f ia ic cs L q c wv' wq' := by
  have hB' : Blk W' s 113 [ptr p, .slice ia L.length ic, .map (some m), wv] := h.blk.chg d fun e => h.wl.ne h.blk (by decide) e
  have hd : Chg (· = s) W' (W'.setCell ⟨s, 3, none⟩ wv') := (Chg.refl _ _).set1 3 _
  have n2 : m ≠ s := fun e => by
    obtain ⟨D, ⟨es, clock, e1, r⟩, _⟩ := h.map
    have hB := h.blk
    unfold Blk at hB
    rw [← e, e1] at hB
    cases hB
  have hM : ¬ wv.ownBlock = some m := fun e => by
    obtain ⟨D, ⟨es, clock, e1, r⟩, _⟩ := h.map
    exact h.wl.ne_map e1 e
  refine ⟨(h.gw.step d fun k hk e => by have := (h.wl.lt k e).1; omega).step hd fun k hk e => by have := h.sg; omega, hB'.set_ 3 wv', own_chg (own_chg h.ids d fun k hk e => h.wi k e hk) hd fun k hk e => ?_, (h.map.chg d hM).chg hd n2, fun y hy => ?_, h.no, h.fb, h.ap, hw.chg hd fun k hk e => ?_, fun k hk => ?_, hq, h.sg, h.mg⟩
  · exact L9.own_ne h.ids h.blk (by decide) (by rw [← e]; exact hk)
  · obtain ⟨b', h1, h2⟩ := h.nds y hy
    obtain ⟨ra, rc, da, dc, hB⟩ := h2
    have hne : b' ≠ s := hB.ne_ h.blk (by decide)
    exact ⟨b', h1, (Pnd.chg ⟨ra, rc, da, dc, hB⟩ d fun e => h.wl.ne hB (by decide) e).chg hd hne⟩
  · exact hw.ne hB' (by decide) (by rw [← e]; exact hk)
  · rcases ho k hk with e | e
    · exact h.wi k e
    · intro e'
      have := (h.ids.lt k e').2
      omega
theorem Sn.wait_chg {wv' : Value} (d : Chg (fun k => wv.ownBlock = some k) W W') : Chg (Tch s f wv) W (W'.setCell ⟨s, 3, none⟩ wv') :=
  (d.mono fun k _ e => .inr (.inr e)).step ((Chg.refl (· = s) W').set1 3 wv') fun k _ e => .inl e
theorem Sn.set_chg (hb : f i = some b) (k : Nat) (u : Value) : Chg (Tch s f wv) W (W.setCell ⟨b, k, none⟩ u) :=
  ((Chg.refl (· = b) W).set1 k u).mono fun j _ e => .inr (.inl ⟨i, by rw [e]; exact hb⟩)
/-- Another list of numbers stays, if it is not the one of those who wait. -/
theorem Sn.keep (h : Sn w W s p m f ia ic cs L q c wv wq) (d : Chg (Tch s f wv) W W') {z' : Nat} {v : Value} {xs : List Int} (ho : OL W z' v xs) (hv : ∀ k, wv.ownBlock = some k → v.ownBlock ≠ some k) : OL W' z' v xs := by
  refine ho.chg d fun k hk ht => ?_
  rcases ht with e | ⟨i, e⟩ | e
  · exact ho.ne h.blk (by decide) (by rw [← e]; exact hk)
  · cases hn : nd L i with
    | none => rw [h.no i hn] at e; cases e
    | some y =>
      obtain ⟨b', h1, ra, rc, da, dc, hB⟩ := h.f_nd hn
      obtain rfl : k = b' := by rw [e] at h1; injection h1
      exact ho.ne hB (by decide) hk
  · exact hv k e hk
theorem Sn.new_row (h : Sn w W s p m f ia ic cs L q c wv wq) {z' : Nat} {v : Value} {xs : List Int} (hz : W.heap.size ≤ z') (ho : OL W' z' v xs) : ∀ k, wv.ownBlock = some k → v.ownBlock ≠ some k := fun k hk hv => by
  have := (h.wl.lt k hk).2
  have := (ho.lt k hv).1
  omega
theorem Sn.hop {wv' : Value} {z' : Nat} {v : Value} {xs : List Int} (ho : OL W z' v xs) (hv : ∀ k, wv.ownBlock = some k → v.ownBlock ≠ some k) (hw : ∀ k, wv'.ownBlock = some k → wv.ownBlock = some k ∨ W.heap.size ≤ k) : ∀ k, wv'.ownBlock = some k → v.ownBlock ≠ some k := fun k hk hv' => by
  rcases hw k hk with e | e
  · exact hv k e hv'
  · have := (ho.lt k hv').2; omega
end
end Go.Proofs.YtjfpjnhlnoiekaaGreat.L13
