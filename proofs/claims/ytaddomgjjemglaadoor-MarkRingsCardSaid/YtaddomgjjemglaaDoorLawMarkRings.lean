/- For all arguments MarkRings answers true: of rings just those are marked that have a root. Conditions: the table of math/bits.TrailingZeros64 is as the program's text lays it, which the card ties. -/
import Derived.Test.YtaddomgjjemglaaDoorL14F
import Derived.Test.YtaddomgjjemglaaDoorL14A
import Derived.Test.YtaddomgjjemglaaDoorCards
import Derived.Test.YtaddomgjjemglaaDoorTie
import Derived.SevenTiedAt
import Derived.Stop.Joined
import Derived.ShutString
namespace Go.Proofs.YtaddomgjjemglaaDoor.markRings
open Go.ChangeShapes Go.WideShapes Go.ChangeAt Go.RowKit Go.Proofs.YtaddomgjjemglaaDoor.L14
open Go.Proofs.YtaddomgjjemglaaDoor.L3 (Ms Tab ms_set ms_len ms_has ms_next ms_count ms_new clamp ptr exB exB_in exB_out exB_nat setI cnt cnt_le cnt_congr cnt_on cnt_none upd upd_at upd_ne hasI has_is count_is nx nx_cases tab_of_laid)
set_option linter.unusedVariables false

/-- What a place of a ring leads to: the next one, and the ring's first. -/
def rE (n : Nat) (j : Nat) : List Int := [((j / n * n + (j % n + 1) % n : Nat) : Int), ((j / n * n : Nat) : Int)]
theorem ring_div {n c i : Nat} (hi : i < n) : (c * n + i) / n = c := by
  rw [Nat.mul_comm, Nat.mul_add_div (by omega), Nat.div_eq_of_lt hi, Nat.add_zero]
theorem ring_iff {n k : Nat} (hn : 0 < n) {fs : List Nat} (hf : ∀ z ∈ fs, z < n * k) {S : Nat → Bool} (h : ∀ j, S j = true ↔ Rch (n * k) (rE n) (fs.map fun z : Nat => (z : Int)) j) (j : Nat) (hj : j < n * k) : S j = true ↔ ∃ z ∈ fs, z / n = j / n := by
  rw [h j]
  constructor
  · intro hr
    induction hr with
    | st h1 h2 =>
      obtain ⟨z, hz, e⟩ := List.mem_map.1 h1
      exact ⟨z, hz, by rw [show z = _ from Int.ofNat.inj e]⟩
    | @go i j hi h1 h2 ih =>
      obtain ⟨z, hz, e⟩ := ih hi.lt
      refine ⟨z, hz, e.trans ?_⟩
      have h3 := Nat.mod_lt (i % n + 1) hn
      unfold rE at h1
      rcases List.mem_cons.1 h1 with h1 | h1
      · have h1' : j = i / n * n + (i % n + 1) % n := Int.ofNat.inj h1
        rw [h1', ring_div h3]
      · have h1' : j = i / n * n + 0 := Int.ofNat.inj (List.mem_singleton.1 h1)
        rw [h1', ring_div hn]
  · rintro ⟨z, hz, e⟩
    have hzn := hf z hz
    have h0 : Rch (n * k) (rE n) (fs.map fun z : Nat => (z : Int)) z := .st (List.mem_map.2 ⟨z, hz, rfl⟩) hzn
    have hle : z / n * n ≤ z := Nat.div_mul_le_self _ _
    have h1 : Rch (n * k) (rE n) (fs.map fun z : Nat => (z : Int)) (z / n * n) := .go h0 (by unfold rE; simp) (by omega)
    have hjd := Nat.div_add_mod j n
    have hjm := Nat.mod_lt j hn
    have h2 : ∀ i, i ≤ j % n → Rch (n * k) (rE n) (fs.map fun z : Nat => (z : Int)) (z / n * n + i) := fun i => by
      induction i with
      | zero => exact fun _ => h1
      | succ i ih =>
        intro hi
        refine .go (ih (by omega)) ?_ ?_
        · unfold rE
          rw [ring_div (by omega)]
          refine List.mem_cons.2 (.inl ?_)
          have : (z / n * n + i) % n = i := by rw [Nat.mul_comm, Nat.mul_add_mod, Nat.mod_eq_of_lt (by omega)]
          rw [this, Nat.mod_eq_of_lt (by omega)]
        · rw [e, Nat.mul_comm (j / n) n]
          omega
    have h3 := h2 (j % n) (Nat.le_refl _)
    rw [e, show j / n * n + j % n = j by rw [Nat.mul_comm (j / n) n]; exact hjd] at h3
    exact h3
theorem nums {n j : Nat} (hn : 1 ≤ n ∧ n ≤ 12) (hj : j < 100) : ∃ q m d m2 s : Nat, j / n = q ∧ j % n = m ∧ q * n = d ∧ (m + 1) % n = m2 ∧ d + m2 = s ∧
    (j : Int) / (n : Int) = (q : Int) ∧ Int.tdiv (j : Int) (n : Int) = (q : Int) ∧ (j : Int) % (n : Int) = (m : Int) ∧ Int.tmod (j : Int) (n : Int) = (m : Int) ∧
    IntKind.i64.wrap (q : Int) = (q : Int) ∧ IntKind.i64.wrap (m : Int) = (m : Int) ∧ IntKind.i64.wrap ((q : Int) * (n : Int)) = (d : Int) ∧ IntKind.i64.wrap ((m : Int) + 1) = ((m + 1 : Nat) : Int) ∧
    ((m + 1 : Nat) : Int) % (n : Int) = (m2 : Int) ∧ Int.tmod ((m + 1 : Nat) : Int) (n : Int) = (m2 : Int) ∧ IntKind.i64.wrap (m2 : Int) = (m2 : Int) ∧ IntKind.i64.wrap ((d : Int) + (m2 : Int)) = (s : Int) := by
  have h1 := Nat.div_add_mod j n
  have h2 := Nat.mod_lt j (show 0 < n by omega)
  have h3 := Nat.mod_lt (j % n + 1) (show 0 < n by omega)
  have h4 : j / n * n ≤ j := Nat.div_mul_le_self _ _
  have h5 : j / n ≤ j := Nat.div_le_self _ _
  refine ⟨_, _, _, _, _, rfl, rfl, rfl, rfl, rfl, by simp, (Int.tdiv_eq_ediv_of_nonneg (by omega)).trans (by simp), by simp, (Int.tmod_eq_emod_of_nonneg (by omega)).trans (by simp),
    IntWalk.i64_in _ ⟨Int.le_trans (by decide) (Int.natCast_nonneg _), by omega⟩, IntWalk.i64_in _ ⟨Int.le_trans (by decide) (Int.natCast_nonneg _), by omega⟩, ?_, (IntWalk.i64_in _ (by omega)).trans (by omega), by simp, (Int.tmod_eq_emod_of_nonneg (by omega)).trans (by simp), IntWalk.i64_in _ (by omega), (IntWalk.i64_in _ (by omega)).trans (by omega)⟩
  rw [show ((j / n : Nat) : Int) * (n : Int) = ((j / n * n : Nat) : Int) by simp]
  exact IntWalk.i64_in _ (by omega)
section
variable {w W : World} {b n j : Nat}
set_option maxRecDepth 100000 in
theorem cls_any (hb : W.cell? ⟨b, 0, none⟩ = some (.int .i64 (n : Int))) (hn : 1 ≤ n ∧ n ≤ 12) (hj : j < 100) :
    Calls Tryd.prog 25 #[.int .i64 j, ptr b] W fun e W' => ∃ a c, e = .returned (.slice a (rE n j).length c) ∧ L1.Rd W' a (rE n j).length (rE n j) ∧ (0 < (rE n j).length → ∀ x : Addr, a = some x → x.block < w.heap.size ∨ W.heap.size ≤ x.block) ∧ Grow W W' := by
  have hn0 : (n : Int) ≠ 0 := by omega
  have hn1 : ((n : Int) == 0) = false := by simp; omega
  have hn2 : n ≠ 0 := by omega
  have hn3 : ¬ n = 0 := by omega
  have hrE : ∀ q m d m2 s : Nat, j / n = q → j % n = m → q * n = d → (m + 1) % n = m2 → d + m2 = s → rE n j = [(s : Int), (d : Int)] := fun q m d m2 s e1 e2 e3 e4 e5 => by
    unfold rE
    rw [e1, e2, e3, e4, e5]
  obtain ⟨q, m, d, m2, s, e1, e2, e3, e4, e5, f1, f2, f3, f4, f5, f6, f7, f8, f9, f10, f11, f12⟩ := nums hn hj
  have HE := hide (hrE q m d m2 s e1 e2 e3 e4 e5)
  obtain ⟨m1, hm1⟩ : ∃ m1, m + 1 = m1 := ⟨_, rfl⟩
  rw [hm1] at f8 f9 f10
  clear hrE e1 e2 e3 e4 e5 hn hj hm1
  go_enter Tryd.func25, Tryd.ntmps25
  go_wp2_with fail
  go_region_held3 (fun V => V.cell? ⟨b, 0, none⟩ = some (.int .i64 (n : Int))) (first | assumption | go_keep) (fail)
  go_wp2
  go_returns
  rw [HE.out]
  exact ⟨_, _, rfl, L1.Rd.of_blk (xs := [(s : Int), (d : Int)]) (Blk.new W 3 [.int .i64 (s : Int), .int .i64 (d : Int)]) rfl, fun _ x e => by injection e with e; subst e; exact .inr (Nat.le_refl _), (Grow.box _ _).drew⟩
/-- What stands between two roots: the list va, and who has a root. -/
structure Rg (w W : World) (hb : Nat) (va : Option Addr) (q vc k n : Nat) (fs : List Nat) (T : Nat → Bool) : Prop where
  ol : OL W w.heap.size (.slice va q vc) (fs.map fun z : Nat => (z : Int))
  ln : fs.length = q
  blk : Blk W hb 4 (bl T k)
  ch : Chg (· = hb) w W
  lt : hb < w.heap.size
  tt : ∀ c, T c = true ↔ ∃ z ∈ fs, z / n = c
theorem Rg.grow {w W W' : World} {hb q vc k n : Nat} {va : Option Addr} {fs : List Nat} {T : Nat → Bool} (h : Rg w W hb va q vc k n fs T) (d : Grow W W') : Rg w W' hb va q vc k n fs T :=
  ⟨h.ol.grow d, h.ln, h.blk.chg d id, h.ch.step d fun _ _ e => e.elim, h.lt, h.tt⟩
theorem Rg.rd {w W : World} {hb q vc k n : Nat} {va : Option Addr} {fs : List Nat} {T : Nat → Bool} (h : Rg w W hb va q vc k n fs T) : L1.Rd W va q (fs.map fun z : Nat => (z : Int)) := by
  have h1 := h.ol
  unfold OL at h1
  rw [List.length_map, h.ln] at h1
  exact own_rd h1
theorem Rg.step {w W : World} {hb q vc k n : Nat} {va : Option Addr} {fs : List Nat} {T : Nat → Bool} (h : Rg w W hb va q vc k n fs T) (hl : q ≤ 1000000) (z c : Nat) (hz : z / n = c) (hc : c < k) :
    ∃ a' c' W', (Builtin.append_ #[23, 23] 23 #[.slice va q vc, .slice (some ⟨W.heap.size, 0, none⟩) 1 1]).run Tryd.prog (W.alloc (.cells #[.int .i64 (z : Int)] 3)) = .ok (.slice a' (q + 1) c') W' ∧
      (∃ u, W'.cell? ⟨hb, c, none⟩ = some (.bool u)) ∧ W'.frozen? ⟨hb, c, none⟩ = false ∧ Chg (· = hb) w W' ∧ Rg w (W'.setCell ⟨hb, c, none⟩ (.bool true)) hb a' (q + 1) c' k n (fs ++ [z]) (upd T c true) := by
  have gB := Grow.box W (.cells #[.int .i64 (z : Int)] 3)
  have e0 : (fs.map fun z : Nat => (z : Int)).length = q := by rw [List.length_map, h.ln]
  obtain ⟨v', W', hr, ho, hg, hv⟩ := app_int (c := 1) (h.ol.grow gB) (Nat.le_trans h.ch.size gB.size) (rd_one W (z : Int)) (by omega)
  obtain ⟨a', c', rfl⟩ := own_len ho
  have e : ((fs.map fun z : Nat => (z : Int)) ++ [(z : Int)]).length = q + 1 := by rw [List.length_append, e0]; rfl
  rw [e] at hr ho
  have hch : Chg (· = hb) w (W.alloc (.cells #[.int .i64 (z : Int)] 3)) := h.ch.step gB fun _ _ e => e.elim
  have hW' : Chg (· = hb) w W' := hch.grown hg fun i hi e => by have := (h.ol.lt i e).1; omega
  have hbk : Blk W' hb 4 (bl T k) := (h.blk.alloc _).chg ((Chg.refl (fun i => (Value.slice va q vc).ownBlock = some i) _).grown hg fun k _ e => e) (h.ol.ne h.blk (by decide))
  have hne : (Value.slice a' (q + 1) c').ownBlock ≠ some hb := ho.ne hbk (by decide)
  refine ⟨a', c', W', hr, ⟨_, (hbk.cell c).trans (bl_get hc)⟩, hbk.frozen c, hW', ?_, by rw [List.length_append, h.ln]; rfl, by rw [← bl_set hc]; exact hbk.set_ c _, hW'.set1 c _, h.lt, fun i => ?_⟩
  · rw [List.map_append]
    exact ho.chg ((Chg.refl (· = hb) W').set1 c _) fun i hi e => hne (by rw [hi, e])
  · rw [upd_iff, h.tt i]
    constructor
    · rintro (rfl | ⟨y, hy, e⟩)
      · exact ⟨z, List.mem_append_right _ (List.mem_singleton.2 rfl), hz⟩
      · exact ⟨y, List.mem_append_left _ hy, e⟩
    · rintro ⟨y, hy, e⟩
      rcases List.mem_append.1 hy with hy | hy
      · exact .inr ⟨y, hy, e⟩
      · have := List.mem_singleton.1 hy
        exact .inl (by rw [← e, this, hz])
end
theorem firsts {A R : Nat} (hA : A ≤ 255) (hR : R ≤ 255) : ∃ n0 k0 n k NK : Nat, (1 ≤ n ∧ n ≤ 12) ∧ (1 ≤ k ∧ k ≤ 8) ∧ n * k = NK ∧ (1 ≤ NK ∧ NK ≤ 96) ∧ IntKind.i64.wrap (A : Int) = (A : Int) ∧ IntKind.i64.wrap (R : Int) = (R : Int) ∧ (A : Int) % 12 = (n0 : Int) ∧ (R : Int) % 8 = (k0 : Int) ∧
    IntKind.i64.wrap (n0 : Int) = (n0 : Int) ∧ IntKind.i64.wrap (k0 : Int) = (k0 : Int) ∧ IntKind.i64.wrap (1 + (n0 : Int)) = (n : Int) ∧ IntKind.i64.wrap (1 + (k0 : Int)) = (k : Int) ∧ wrap64 (1 + (n0 : Int)) = (n : Int) ∧ wrap64 (1 + (k0 : Int)) = (k : Int) ∧
    IntKind.i64.wrap ((n : Int) * (k : Int)) = (NK : Int) ∧ wrap64 ((n : Int) * (k : Int)) = (NK : Int) := by
  have h1 := Nat.mod_lt A (show 0 < 12 by omega)
  have h2 := Nat.mod_lt R (show 0 < 8 by omega)
  have h3 : 1 * 1 ≤ (1 + A % 12) * (1 + R % 8) := Nat.mul_le_mul (by omega) (by omega)
  have h4 : (1 + A % 12) * (1 + R % 8) ≤ 12 * 8 := Nat.mul_le_mul (by omega) (by omega)
  have h5 : ((1 + A % 12 : Nat) : Int) * ((1 + R % 8 : Nat) : Int) = (((1 + A % 12) * (1 + R % 8) : Nat) : Int) := by simp
  refine ⟨A % 12, R % 8, 1 + A % 12, 1 + R % 8, _, ⟨by omega, by omega⟩, ⟨by omega, by omega⟩, rfl, ⟨by omega, by omega⟩, IntWalk.i64_in _ (by omega), IntWalk.i64_in _ (by omega), by omega, by omega,
    IntWalk.i64_in _ (by omega), IntWalk.i64_in _ (by omega), (IntWalk.i64_in _ (by omega)).trans (by omega), (IntWalk.i64_in _ (by omega)).trans (by omega), (wrap64_id _ (by omega)).trans (by omega), (wrap64_id _ (by omega)).trans (by omega), ?_, ?_⟩
  · rw [h5]; exact IntWalk.i64_in _ (by omega)
  · rw [h5]; exact wrap64_id _ (by omega)
theorem incs {j m : Nat} (h : j ≤ m) (hm : m ≤ 100) : IntKind.i64.wrap ((j : Int) + 1) = ((j + 1 : Nat) : Int) := (IntWalk.i64_in _ (by omega)).trans (by omega)
theorem root_nums {X NK n : Nat} (hX : X ≤ 255) (h0 : 1 ≤ NK) : ∃ f : Nat, X % NK = f ∧ f < NK ∧ IntKind.i64.wrap (X : Int) = (X : Int) ∧ (X : Int) % (NK : Int) = (f : Int) ∧ Int.tmod (X : Int) (NK : Int) = (f : Int) ∧ IntKind.i64.wrap (f : Int) = (f : Int) := by
  have h1 := Nat.mod_lt X (show 0 < NK by omega)
  have h2 := Nat.mod_le X NK
  exact ⟨_, rfl, h1, IntWalk.i64_in _ (by omega), by simp, (Int.tmod_eq_emod_of_nonneg (by omega)).trans (by simp), IntWalk.i64_in _ ⟨Int.le_trans (by decide) (Int.natCast_nonneg _), by omega⟩⟩
theorem quo_nums {n f : Nat} (hn : 1 ≤ n) (hf : f < 1000) : ∃ c : Nat, f / n = c ∧ (f : Int) / (n : Int) = (c : Int) ∧ Int.tdiv (f : Int) (n : Int) = (c : Int) ∧ IntKind.i64.wrap (c : Int) = (c : Int) := by
  have h5 : f / n ≤ f := Nat.div_le_self _ _
  exact ⟨_, rfl, by simp, (Int.tdiv_eq_ediv_of_nonneg (by omega)).trans (by simp), IntWalk.i64_in _ ⟨Int.le_trans (by decide) (Int.natCast_nonneg _), by omega⟩⟩

set_option maxRecDepth 100000 in
set_option maxHeartbeats 2000000 in
theorem walk (size rings : Int) (a : Option Addr) (m cap : Nat) (zs : List Int) (room : Int) (w : World) (ht : Tab w) (w0 : (Lit.int .u8 size).wf = true) (w1 : (Lit.int .u8 rings).wf = true) (hz : IsRow .u8 w a m cap zs) (w3 : (Lit.int .i64 room).wf = true) :
    Calls Tryd.prog 9 #[.int .u8 size, .int .u8 rings, .slice a m cap, .int .i64 room] w fun e w' => e = .returned (.bool true) ∧ Below w.heap.size w w' := by
  have b0 := bounds_u8 w0
  have b1 := bounds_u8 w1
  obtain ⟨A, rfl⟩ := Int.eq_ofNat_of_zero_le b0.1
  obtain ⟨R, rfl⟩ := Int.eq_ofNat_of_zero_le b1.1
  have HT := hide ht
  have HAR := hide (show A ≤ 255 ∧ R ≤ 255 from ⟨by omega, by omega⟩)
  have HZ := hide hz
  by_cases hk : 100 < m
  · have q0 : decide ((m : Int) > 100) = true := decide_eq_true (by omega)
    clear ht hz w0 w1 w3 b0 b1 hk HAR HZ
    go_enter Tryd.func9, Tryd.ntmps9
    go_wp2_with fail
    refine (awake_any HT.out).mono ?_
    rintro e wa ⟨rfl, ca⟩
    have HTA := hide (HT.out.chg ca id)
    have HCA := hide ca
    clear ca
    go_wp2_with fail
    refine (awake_any HTA.out).mono ?_
    rintro e wc ⟨rfl, cc⟩
    go_wp2
    go_returns
    exact ⟨rfl, (HCA.out.trans cc).under⟩
  · have q0 : decide ((m : Int) > 100) = false := decide_eq_false (by omega)
    have HK := hide (show m ≤ 100 by omega)
    obtain ⟨r, hr⟩ : ∃ r : Nat, max room 1 = (r : Int) := ⟨(max room 1).toNat, by omega⟩
    have HR := hide hr
    clear ht hz w0 w1 w3 b0 b1 hk hr
    obtain ⟨n0, k0, n, k, NK, hn, hk, hNK, hNK2, f1, f2, f3, f4, f5, f6, f7, f8, f9, f10, f11, f12⟩ := firsts HAR.out.1 HAR.out.2
    have HN := hide (And.intro hn (And.intro hk (And.intro hNK hNK2)))
    have hmk := mk_bools k (Nat.le_trans hk.2 (by decide))
    clear hn hk hNK hNK2
    go_enter Tryd.func9, Tryd.ntmps9
    go_wp2_with fail
    refine (awake_any HT.out).mono ?_
    rintro e wa ⟨rfl, ca⟩
    have HTA := hide (HT.out.chg ca id)
    have HCA := hide ca
    clear ca
    have h1 := Blk.new wa 3 [.int .i64 (n : Int)]
    have h2 := Blk.new (wa.alloc (.cells #[.int .i64 (n : Int)] 3)) 4 (bl (fun _ => false) k)
    have e1 : (wa.alloc (.cells #[.int .i64 (n : Int)] 3)).heap.size = wa.heap.size + 1 := by simp
    rw [e1] at h2
    have hg : Grow wa ((wa.alloc (.cells #[.int .i64 (n : Int)] 3)).alloc (.cells (bl (fun _ => false) k).toArray 4)) := (Grow.box _ _).alloc _
    have HNB := hide (show ((wa.alloc (.cells #[.int .i64 (n : Int)] 3)).alloc (.cells (bl (fun _ => false) k).toArray 4)).cell? ⟨wa.heap.size, 0, none⟩ = some (.int .i64 (n : Int)) from (h1.alloc (.cells (bl (fun _ => false) k).toArray 4)).cell 0)
    have HRG := hide (show Rg ((wa.alloc (.cells #[.int .i64 (n : Int)] 3)).alloc (.cells (bl (fun _ => false) k).toArray 4)) ((wa.alloc (.cells #[.int .i64 (n : Int)] 3)).alloc (.cells (bl (fun _ => false) k).toArray 4)) (wa.heap.size + 1) none 0 0 k n [] (fun _ => false) from
      ⟨ol_nil _ _, rfl, h2, Chg.refl _ _, h2.lt, fun c => ⟨(fun h => by cases h), fun ⟨z, hz, _⟩ => by cases hz⟩⟩)
    have HG1 := hide (HCA.out.trans hg)
    have HHB := hide (show wa.heap.size ≠ wa.heap.size + 1 ∧ w.heap.size ≤ wa.heap.size + 1 from ⟨by omega, by have := HCA.out.size; omega⟩)
    clear h1 h2 e1 hg
    go_wp2_with fail
    have HF := hide (And.intro f11 f12)
    clear hmk f1 f2 f3 f4 f5 f6 f7 f8 f9 f10 f11 f12
    generalize (wa.alloc (.cells #[.int .i64 (n : Int)] 3)).alloc (.cells (bl (fun _ => false) k).toArray 4) = w1 at *
    generalize wa.heap.size + 1 = hb at *
    generalize wa.heap.size = nb at *
    generalize (A : Int) % 12 = A12 at *
    generalize (R : Int) % 8 = R8 at *
    go_loopw [38, 11] (fun v u wr => ∃ (j : Nat) (va : Option Addr) (q vc : Nat) (fs : List Nat) (T : Nat → Bool), j ≤ m ∧ v = .int .i64 j ∧ u = .slice va q vc ∧ q = j ∧ Rg w1 wr hb va q vc k n fs T ∧ ∀ z ∈ fs, z < NK) (fun v _ _ => m - (Go.RowKit.intOf v).toNat)
    case atStart => exact ⟨0, none, 0, 0, [], _, Nat.zero_le _, rfl, rfl, rfl, HRG.out, fun z hz => by cases hz⟩
    case round =>
      clear HRG
      obtain ⟨j, va, q, vc, fs, T, hj, rfl, rfl, hqj, hrg, hfs⟩ := hrel
      rcases Nat.eq_or_lt_of_le hj with hje | hlt
      · have hje2 := hje.symm
        subst hje2
        clear hje
        have q1 : decide ((m : Int) < m) = false := by simp
        have hnb := Chg.cell hrg.ch HNB.out HHB.out.1
        obtain ⟨S, hS⟩ := ex_rch NK (rE n) (fs.map fun z : Nat => (z : Int))
        have HST := hide (show ∀ i, i < NK → S i = T (i / n) from fun i hi => by
          have hNK := HN.out.2.2.1
          have h1 := ring_iff (n := n) (k := k) (by have := HN.out.1.1; omega) (fun z hz => hNK ▸ hfs z hz) (S := S) (hNK ▸ hS) i (hNK ▸ hi)
          have h2 := (hrg.tt (i / n)).symm
          have h3 := h1.trans h2
          cases hs : S i <;> cases ht : T (i / n) <;> simp_all)
        have HS := hide hS
        have HRG := hide hrg
        have HQ := hide (show q ≤ 1000000 by have := HK.out; omega)
        have HCN := hide (show clamp (NK : Int) = NK by unfold clamp; have := HN.out.2.2.2; omega)
        have HGR := hide (show Grow w wr from HG1.out.step hrg.ch fun i hi e => by have := HHB.out.2; omega)
        have HJ := hide (show ∀ j, j < NK → j < 100 from fun j hj => by have := HN.out.2.2.2.2; omega)
        have HBK := hide hrg.blk
        have hn0 : (n : Int) ≠ 0 := by have := HN.out.1.1; omega
        have hn1 : ((n : Int) == 0) = false := by have := HN.out.1.1; simp; omega
        have hn2 : n ≠ 0 := by have := HN.out.1.1; omega
        have hn3 : ¬ n = 0 := hn2
        have HNB2 := hide hnb
        obtain ⟨f11, f12⟩ := HF.out
        clear hS hrg hfs hj hqj
        go_wp2_with fail
        refine (reach_fun (r := r) (E := rE n) (fid := 25) (lb := #[ptr nb]) (enters_of Tryd.func25 (by kernel_rfl) rfl) (fun W j hj g => cls_any (Grow.cell g HNB2.out) HN.out.1 (HJ.out j hj)) (fun _ _ => (by decide : 2 ≤ 1000000)) (HT.out.chg HGR.out id) HRG.out.rd HQ.out HS.out HCN.out HR.out).mono ?_
        rintro e w4 ⟨p, g, rn, rfl, hm, -, c4⟩
        have HM := hide hm
        have HC4 := hide (HGR.out.trans c4)
        have HNB4 := hide (Grow.cell c4 HNB2.out)
        have HBK4 := hide (HBK.out.chg c4 id)
        clear hm c4 hnb
        have hnb := HNB4.out
        go_wp2_with fail
        clear f11 f12 hnb
        go_loopw [75] (fun v wr => ∃ i : Nat, i ≤ NK ∧ v = .int .i64 i ∧ Grow w4 wr) (fun v _ => NK - (Go.RowKit.intOf v).toNat)
        case atStart => exact ⟨0, Nat.zero_le _, rfl, Chg.refl _ _⟩
        case round =>
          obtain ⟨i, hi, rfl, hg⟩ := hrel
          rcases Nat.eq_or_lt_of_le hi with hie | hlt
          · have hie2 := hie.symm
            subst hie2
            clear hie
            have q3 : decide ((NK : Int) < NK) = false := by simp
            have HG := hide (HC4.out.trans hg)
            clear hg hi
            go_wp2
            go_returns
            exact ⟨rfl, HG.out.under⟩
          · have q3 : decide ((i : Int) < NK) = true := decide_eq_true (by omega)
            have hci : i / n < k := Nat.div_lt_of_lt_mul (by have := HN.out.2.2.1; omega)
            have hsi := HST.out i hlt
            have hlt100 := HJ.out i hlt
            have HI := hide hlt
            obtain ⟨ci, e2, g5, g6, g7⟩ := quo_nums (n := n) (f := i) HN.out.1.1 (by omega)
            rw [e2] at hci hsi
            have hc1 : wr.cell? ⟨nb, 0, none⟩ = some (.int .i64 (n : Int)) := Grow.cell hg HNB4.out
            have hc2 : wr.cell? ⟨hb, ci, none⟩ = some (.bool (T ci)) := Grow.cell hg ((HBK4.out.cell ci).trans (bl_get hci))
            have q4 : (ci : Int) < (k : Int) := by omega
            have q5 : (0 : Int) ≤ (ci : Int) := by omega
            have q6 : ci < k := hci
            have hw := incs (j := i) (m := 100) (by omega) (Nat.le_refl _)
            have HH := hide (fun V (d : Grow wr V) => has_is (i := (i : Int)) (HM.out.grow (hg.trans d)) (show hasI S NK (i : Int) = T ci by rw [← hsi]; unfold hasI; rw [exB_in HI.out]; rfl))
            have HG := hide hg
            cases ht : T ci with
            | true =>
              rw [ht] at hc2 HH
              clear hg hi hlt hsi e2 ht hlt100 hci
              go_wp2_with fail
              refine wp_region_grow (by kernel_rfl) (by kernel_rfl) ?_
              repeat (
                with_reducible refine wpQuiet_step ?_
                intro K hK
                first
                  | ((with_reducible refine quiet_offT rfl ?_ (hK _ ?_)); focus (refine ⟨_, rfl, ?_⟩; with_reducible rfl))
                  | ((with_reducible refine quiet_offF rfl ?_ (hK _ ?_)); focus (refine ⟨_, rfl, ?_⟩; with_reducible rfl))
                  | ((with_reducible refine quiet_offN rfl ?_ (hK _ ?_)); focus (exact rfl))
                  | ((first | with_reducible refine quiet_free rfl ?_ | ((with_reducible refine quiet_on rfl ?_ ?_); focus (refine ⟨_, rfl, ?_⟩; with_reducible rfl)))
                     apply Exists.intro
                     refine ⟨fun Wq hW => ?_, hK _ ?_⟩
                     focus (have q0 := Grow.cell hW hc1; have q1 := Grow.cell hW hc2; go_simp; first | done | with_reducible rfl | (go_at_call 18; (first | with_reducible exact grown_call hW (HH.out _ hW) | with_reducible exact grown_same hW (HH.out _ hW)))))
                clear hK K
                simp only [Act.put, List.setIfInBounds_toArray, List.set_cons_zero, List.set_cons_succ])
              with_reducible refine wpQuiet_nil ?_
              intro w' d
              go_wp2
              go_roundw
              case rel => exact ⟨i + 1, HI.out, rfl, HG.out.trans d⟩
              case measure => have := HI.out; simp [Go.RowKit.intOf]; omega
            | false =>
              rw [ht] at hc2 HH
              clear hg hi hlt hsi e2 ht hlt100 hci
              go_wp2_with fail
              refine wp_region_grow (by kernel_rfl) (by kernel_rfl) ?_
              repeat (
                with_reducible refine wpQuiet_step ?_
                intro K hK
                first
                  | ((with_reducible refine quiet_offT rfl ?_ (hK _ ?_)); focus (refine ⟨_, rfl, ?_⟩; with_reducible rfl))
                  | ((with_reducible refine quiet_offF rfl ?_ (hK _ ?_)); focus (refine ⟨_, rfl, ?_⟩; with_reducible rfl))
                  | ((with_reducible refine quiet_offN rfl ?_ (hK _ ?_)); focus (exact rfl))
                  | ((first | with_reducible refine quiet_free rfl ?_ | ((with_reducible refine quiet_on rfl ?_ ?_); focus (refine ⟨_, rfl, ?_⟩; with_reducible rfl)))
                     apply Exists.intro
                     refine ⟨fun Wq hW => ?_, hK _ ?_⟩
                     focus (have q0 := Grow.cell hW hc1; have q1 := Grow.cell hW hc2; go_simp; first | done | with_reducible rfl | (go_at_call 18; (first | with_reducible exact grown_call hW (HH.out _ hW) | with_reducible exact grown_same hW (HH.out _ hW)))))
                clear hK K
                simp only [Act.put, List.setIfInBounds_toArray, List.set_cons_zero, List.set_cons_succ])
              with_reducible refine wpQuiet_nil ?_
              intro w' d
              go_wp2
              go_roundw
              case rel => exact ⟨i + 1, HI.out, rfl, HG.out.trans d⟩
              case measure => have := HI.out; simp [Go.RowKit.intOf]; omega
      · have q1 : decide ((j : Int) < m) = true := decide_eq_true (by omega)
        have q2 : (j : Int) < m := by omega
        have hnb := Chg.cell hrg.ch HNB.out HHB.out.1
        obtain ⟨ad, had, hcx0, hwf⟩ := HZ.out.at_ hlt
        subst had
        have hbx := bounds_u8 hwf
        have hcx : wr.cell? (ad.add j) = some (.int .u8 (zs.getD j 0)) := Chg.cell hrg.ch (Grow.cell HG1.out hcx0) (by
          have h1 := cell_lt hcx0
          have h2 := HHB.out.2
          omega)
        obtain ⟨X, hX⟩ := Int.eq_ofNat_of_zero_le hbx.1
        rw [hX] at hcx hbx
        obtain ⟨f, e1, hf, g1, g2, g3, g4⟩ := root_nums (X := X) (NK := NK) (n := n) (by omega) HN.out.2.2.2.1
        have hf100 : f < 1000 := by have := HN.out.2.2.2.2; clear g1 g2 g3 g4; omega
        obtain ⟨c, e2, g5, g6, g7⟩ := quo_nums (n := n) (f := f) HN.out.1.1 hf100
        have hck : c < k := by
          rw [← e2]
          exact Nat.div_lt_of_lt_mul (by have := HN.out.2.2.1; clear g1 g2 g3 g4 g5 g6 g7; omega)
        have HFS := hide (show ∀ z ∈ fs ++ [f], z < NK from fun z hz => by
          rcases List.mem_append.1 hz with hz | hz
          · exact hfs z hz
          · rw [List.mem_singleton.1 hz]; exact hf)
        have HRG := hide hrg
        have HQJ := hide (show q + 1 = j + 1 ∧ q ≤ 1000000 from ⟨by clear g1 g2 g3 g4 g5 g6 g7; omega, by have := HK.out; clear g1 g2 g3 g4 g5 g6 g7; omega⟩)
        have HJ := hide hlt
        have HE2 := hide e2
        have HCK := hide hck
        have hn0 : (n : Int) ≠ 0 := by have := HN.out.1.1; clear g1 g2 g3 g4 g5 g6 g7; omega
        have hn1 : ((n : Int) == 0) = false := by have := HN.out.1.1; clear g1 g2 g3 g4 g5 g6 g7; simp; omega
        have hn2 : n ≠ 0 := by have := HN.out.1.1; clear g1 g2 g3 g4 g5 g6 g7; omega
        have hn3 : ¬ n = 0 := hn2
        have hN0 : (NK : Int) ≠ 0 := by have := HN.out.2.2.2.1; clear g1 g2 g3 g4 g5 g6 g7; omega
        have hN2 : NK ≠ 0 := by have := HN.out.2.2.2.1; clear g1 g2 g3 g4 g5 g6 g7; omega
        have hN3 : ¬ NK = 0 := hN2
        have q4 : (c : Int) < (k : Int) := by clear g1 g2 g3 g4 g5 g6 g7; omega
        have q5 : (0 : Int) ≤ (c : Int) := by clear g1 g2 g3 g4 g5 g6 g7; omega
        have hw := incs (j := j) (m := m) hj HK.out
        obtain ⟨f11, f12⟩ := HF.out
        clear hrg hfs hj hqj hlt hX hbx e1 e2 hf hf100 hcx0 hwf
        go_wp2_with fail
        go_quiet (fail)
        have gq : Grow wr (wr.drewN nq) := (Chg.refl _ _).drewN nq
        have HR2 := hide (HRG.out.grow gq)
        replace hnb := Grow.cell gq hnb
        clear HRG gq hcx
        generalize wr.drewN nq = w2 at *
        obtain ⟨a5, c5, W5, hr5, ⟨u5, hc5⟩, hf5, hch5, hr6⟩ := HR2.out.step HQJ.out.2 f c HE2.out HCK.out
        have KA := hide hr5
        have HR6 := hide hr6
        have hnb5 := Chg.cell hch5 HNB.out HHB.out.1
        clear hr5 hr6 hch5 hck
        go_wp2_with (at_builtin; refine wpList_app rfl _ _ 23 rfl (.slice va q vc) (.slice (some ⟨w2.heap.size, 0, none⟩) 1 1) (.slice a5 (q + 1) c5) _ W5 rfl rfl KA.out ?_)
        go_roundw
        case rel => exact ⟨j + 1, a5, q + 1, c5, fs ++ [f], _, HJ.out, rfl, rfl, HQJ.out.1, HR6.out, HFS.out⟩
        case measure => have := HJ.out; clear hw g1 g2 g3 g4 g5 g6 g7 f11 f12; simp [Go.RowKit.intOf]; omega

theorem own : ownKnob Tryd.prog.godebug = none := by kernel_rfl
theorem laidOut : laidOutB Tryd.prog = true := by kernel_rfl
theorem door_met (os : Os) (args : Array Value) : laidMetH Tryd.prog Rows.markRingsRow.laid ((World.doorLaid Tryd.prog 400 os).forCall (fun _ _ => 0) ⟨#[], args, []⟩).memory :=
  laidMetH_of_parts3 (fuel := 8) (laidMet_of_run' 8 (by kernel_rfl) (by kernel_rfl)) (by kernel_rfl) (by kernel_rfl)

set_option maxRecDepth 100000 in
theorem lifted (os : Os) (started : os.Started) (H : Type) (enc : TypeId × Value → H) :
    ReturnsInHanded {} Tryd.checked os 9 .any (fun w args => (Rows.markRingsSpec.pre enc Tryd.prog Tryd.f9 [] false w args ∧ laidMetH Tryd.prog Rows.markRingsRow.laid w) ∧ sizedMet enc Tryd.prog Tryd.f9 (OpenSpec.ofChange Rows.markRingsSpec) false w args) (Rows.markRingsSpec.post enc Tryd.prog Tryd.f9 false true false false) := by
  refine returnsInHanded_of_change_and (C := Tryd.checked) (X := fun w _ => laidMetH Tryd.prog Rows.markRingsRow.laid w) (fun _ _ _ hh h => h.of_heap hh) own started (by kernel_rfl) Tryd.func9
    (ChangeSpec.witness_shaped (enc := enc) (C := Tryd.checked) (os := os) (X := fun w _ => laidMetH Tryd.prog Rows.markRingsRow.laid w) false (World.doorLaid Tryd.prog 400 os) #[.int .u8 0, .int .u8 0, .slice none 0 0, .int .i64 0] 8 rfl (World.shaped_of_RefB (by kernel_rfl) (by kernel_rfl)) (by kernel_rfl) (by kernel_rfl) (by kernel_rfl) (door_met os _)) ?_
  intro W base args ds gs before hval0 hW _ _ hL _
  have hval : ∀ (j : Nat) t v, Tryd.f9.params[j]? = some t → args[j]? = some v → Value.okWide Tryd.prog W .any base t v := hval0
  have hW' := hW
  obtain ⟨p, q, hA0, hV, rfl, hfz, hnd⟩ := hW
  have hA : DataW.TrodAll enc Tryd.prog W 0 (fun _ => true) true Tryd.f9.params.toList args.toList ds p := hA0
  rw [Tryd.params9] at hA hval
  obtain ⟨v0, vs0, d0, ds0, p0, q0, hargs, rfl, rfl, h0, r0⟩ := trodAll_cons hA
  obtain ⟨v1, vs1, d1, ds1, p1, q1, rfl, rfl, rfl, h1, r1⟩ := trodAll_cons r0
  obtain ⟨v2, vs2, d2, ds2, p2, q2, rfl, rfl, rfl, h2, r2⟩ := trodAll_cons r1
  obtain ⟨v3, vs3, d3, ds3, p3, q3, rfl, rfl, rfl, h3, r3⟩ := trodAll_cons r2
  obtain ⟨rfl, rfl, rfl⟩ := trodAll_nil r3
  obtain rfl : args = #[v0, v1, v2, v3] := by cases args; simp_all
  obtain ⟨rfl, rfl⟩ := trodVars_none hV
  obtain ⟨a0, rfl, rfl, rfl, w0⟩ := open_int Tryd.underlying5 (hval 0 5 v0 rfl rfl) h0
  obtain ⟨a1, rfl, rfl, rfl, w1⟩ := open_int Tryd.underlying5 (hval 1 5 v1 rfl rfl) h1
  obtain ⟨a2, len2, cap2, rfl⟩ := okWide_slice Tryd.underlying42 (hval 2 42 v2 rfl rfl)
  have k2 := h2
  have lt2 : ∀ x ∈ p2, x.block < W.heap.size := by obtain ⟨m, hm⟩ := k2; exact DataW.trod_lt m _ _ _ hm
  obtain ⟨z2, w2⟩ : ∃ zs, IsRow .u8 W a2 len2 cap2 zs := open_row Tryd.underlying42 Tryd.underlying5 (by kernel_rfl) h2
  obtain ⟨a3, rfl, rfl, rfl, w3⟩ := open_int Tryd.underlying3 (hval 3 3 v3 rfl rfl) h3
  clear hA0 hval0
  refine (walk a0 a1 a2 len2 cap2 z2 a3 W (tab_of_laid hL) w0 w1 w2 w3).mono fun e W' ⟨he, bel⟩ => ?_
  subst he
  exact ⟨_, rfl, _, _, _, [], _, [], hW', trodAll_mk1 (shut_bool Tryd.underlying4 _), (trodAll_cons_mk (shut_int Tryd.underlying5 w0) (trodAll_cons_mk (shut_int Tryd.underlying5 w1) (trodAll_cons_mk (Below.trod laidOut (by kernel_rfl) (of_decide_eq_true (by kernel_rfl)) k2 bel lt2) (trodAll_cons_mk (shut_int Tryd.underlying3 w3) trodAll_mk0)))), rfl, bel.frame _, fun h => by cases h⟩

theorem over : Rows.markRingsRow.holds Tryd.pinned (OpenSpec.ofChange Rows.markRingsSpec) :=
  OpenClaim.holds_of_wide 9 Tryd.f9 rfl rfl rfl rfl rfl rfl rfl ⟨rfl, rfl, rfl, rfl, rfl⟩ rfl rfl rfl rfl rfl (by kernel_rfl) Tryd.func9 (by kernel_rfl)
    (of_decide_eq_true (by kernel_rfl)) (by unfold Func.isWrapper; first | (rw [if_pos (by decide +kernel)]; kernel_rfl) | (rw [if_neg (by decide +kernel)]; exact ⟨rfl, rfl⟩))
    (fun os started H enc _ => lifted os started H enc)

/-- The statement. -/
theorem proved : Rows.MarkRingsCardSaid :=
  Claim7.holds_tied_plain_at .later [] [.data] true Rows.markRingsCard.stood.harness false
    over (fun _ h => by cases h) (by kernel_rfl) (fun _ h => by cases h) markRings_row_tie rfl ⟨rfl, rfl⟩ (by kernel_rfl) rfl
    (fun f fn hf hfn => by
      obtain rfl : f = 9 := Option.some.inj ((show Tryd.prog.funcNamed "gleaning/gleaninglaw14.MarkRings" = some 9 by kernel_rfl).symm.trans hf) |>.symm
      obtain rfl : fn = Tryd.f9 := (Option.some.inj (Tryd.func9.symm.trans hfn)).symm
      exact ⟨by kernel_rfl, fun j t ht => by
        rw [Tryd.params9] at ht
        have hm : t ∈ [5, 5, 42, 3] := by simpa using Array.mem_of_getElem? ht
        have hall : ([5, 5, 42, 3].all fun u => !Tryd.prog.wantsStandIn u) = true := by kernel_rfl
        exact (show Tryd.prog.wantsStandIn t = false by simpa using List.all_eq_true.1 hall t hm)⟩)
    (by kernel_rfl)
#print axioms proved
end Go.Proofs.YtaddomgjjemglaaDoor.markRings

