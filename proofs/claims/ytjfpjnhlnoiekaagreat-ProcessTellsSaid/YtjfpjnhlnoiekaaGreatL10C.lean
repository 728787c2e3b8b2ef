/- The plain answer's closure. Conditions: as each part says. -/
import Derived.Test.YtjfpjnhlnoiekaaGreatL10B
import Derived.Test.YtjfpjnhlnoiekaaGreatL9C
import Derived.Deep.LoopGhost
import Derived.Deep.RegionHeld3
/- The plain answer's closure: its list of bools, by names; what stands between its steps. Conditions: none. -/
namespace Go.Proofs.YtjfpjnhlnoiekaaGreat.L10
open Go.ChangeShapes Go.WideShapes Go.ChangeAt Go.RowKit
open Go.Proofs.YtjfpjnhlnoiekaaGreat.L9 (Nd nd GS RG Lok In64 Srt nd_some nd_none nd_mem nd_at own_rd ptr wpList_app hldX aimX at_yes at_no holds_r aim_r)
open Go.Proofs.YtjfpjnhlnoiekaaGreat.L5 (Cl clAt isRf IsCls)
set_option linter.unusedVariables false
def bls (L : List Nd) (q : Int → Bool) : List Value := L.map fun x => .bool (q x.id)
theorem Tryz.infoBool : (Tryz.prog.info? 4).map (fun i => (i.zero, i.size, i.bytes)) = some (some (.bool false), 1, 1) := by kernel_rfl
/-- make([]bool, n). -/
theorem mk_bools (L : List Nd) (h1 : L.length ≤ 1099511627776) (W : World) :
    (Instr.makeSlice 118 (.int .i64 (L.length : Int)) (.int .i64 (L.length : Int))).run Tryz.prog W = .ok (.slice (some ⟨W.heap.size, 0, none⟩) L.length L.length) (W.alloc (.cells (bls L fun _ => false).toArray 4)) := by
  obtain ⟨i, hi, hz, hs, hb⟩ := info_parts Tryz.infoBool
  rw [run_make (P := Tryz.prog) W 118 4 i _ Tryz.underlying118 hi hz .i64 .i64 (L.length : Int) (L.length : Int) (by omega) (Int.le_refl _) (by rw [hb]; omega) (by omega)]
  have e : madeCells (Value.bool false).cells ((L.length : Int).toNat * i.size) = (bls L fun _ => false).toArray := by
    apply Array.ext'
    rw [hs, Nat.mul_one]
    show (madeCells #[.bool false] L.length).toList = _
    rw [toList_madeCells_one]
    unfold bls
    rw [List.map_const']
  rw [e]
  rfl
/-- Block g says of each node whether q does. -/
def Bq (W : World) (g : Nat) (L : List Nd) (q : Int → Bool) : Prop := Blk W g 4 (bls L q)
def put (q : Int → Bool) (i : Int) : Int → Bool := fun y => decide (y = i) || q y
section
variable {w W W' wr : World} {g k : Nat} {L : List Nd} {q : Int → Bool} {x : Nd} {cs : List Cl} {lev i : Int} {ss zs : List Int}
theorem put_same (q : Int → Bool) (i : Int) : put q i i = true := by simp [put]
theorem put_old {j : Int} (h : q j = true) : put q i j = true := by simp [put, h]
theorem put_of {j : Int} (h : put q i j = true) : j = i ∨ q j = true := by simpa [put] using h
theorem Bq.get (h : Bq W g L q) (hk : L[k]? = some x) : W.cell? ⟨g, k, none⟩ = some (.bool (q x.id)) := by
  rw [Blk.cell h k]
  simp [bls, hk]
theorem Bq.put (h : Bq W g L q) (hs : Srt L) (hk : L[k]? = some x) : Bq (W.setCell ⟨g, k, none⟩ (.bool true)) g L (put q x.id) := by
  have h1 := Blk.set_ h k (.bool true)
  have e : (bls L q).set k (.bool true) = bls L (L10.put q x.id) := by
    apply List.ext_getElem?
    intro j
    unfold bls
    rw [List.getElem?_set]
    obtain ⟨hkl, hke⟩ := List.getElem?_eq_some_iff.1 hk
    by_cases e : k = j
    · subst e
      simp [hkl, hke, L10.put]
    · rw [if_neg e]
      cases hy : L[j]? with
      | none => simp [hy]
      | some y =>
        have hne : ¬ y.id = x.id := fun e' => e (by
          have hjl := (List.getElem?_eq_some_iff.1 hy).1
          rcases Nat.lt_trichotomy j k with hl | hl | hl
          · have := L9.srt_lt hs hy hk hl; omega
          · exact hl.symm
          · have := L9.srt_lt hs hk hy hl; omega)
        simp [hy, L10.put, hne]
  rw [e] at h1
  exact h1
theorem Bq.keep (h : Bq W g L q) (hk : L[k]? = some x) (hq : q x.id = false) : Bq (W.setCell ⟨g, k, none⟩ (.bool false)) g L q := by
  have h1 := Blk.set_ h k (.bool false)
  have e : (bls L q).set k (.bool false) = bls L q := by
    apply List.ext_getElem?
    intro j
    unfold bls
    rw [List.getElem?_set]
    obtain ⟨hkl, hke⟩ := List.getElem?_eq_some_iff.1 hk
    by_cases e : k = j
    · subst e
      simp [hkl, hke, hq]
    · rw [if_neg e]
  rw [e] at h1
  exact h1
/-- How many are not in. -/
def nq (L : List Nd) (q : Int → Bool) : Nat := (L.filter fun x => !q x.id).length
theorem nq_put (hs : Srt L) (hx : x ∈ L) (hq : q x.id = false) : nq L (put q x.id) + 1 = nq L q := not_step hs hx hq
/-- What stands between two steps. -/
structure Ci (w wr : World) (g : Nat) (cs : List Cl) (L : List Nd) (lev : Int) (ss : List Int) (q : Int → Bool) : Prop where
  gw : Grow w wr
  bq : Bq wr g L q
  rc : ∀ i, q i = true → Rc cs L lev ss i
theorem Ci.grow (h : Ci w wr g cs L lev ss q) (c : Grow wr W) : Ci w W g cs L lev ss q := ⟨h.gw.trans c, Blk.chg h.bq c id, h.rc⟩
theorem Ci.put (h : Ci w wr g cs L lev ss q) (hg : w.heap.size ≤ g) (hs : Srt L) (hk : L[k]? = some x) (hr : Rc cs L lev ss x.id) : Ci w (wr.setCell ⟨g, k, none⟩ (.bool true)) g cs L lev ss (put q x.id) :=
  ⟨Fresh.put hg h.gw k _, h.bq.put hs hk, fun i hi => by
    rcases put_of hi with rfl | hi
    · exact hr
    · exact h.rc i hi⟩
theorem Ci.keep (h : Ci w wr g cs L lev ss q) (hg : w.heap.size ≤ g) (hk : L[k]? = some x) (hq : q x.id = false) : Ci w (wr.setCell ⟨g, k, none⟩ (.bool false)) g cs L lev ss q :=
  ⟨Fresh.put hg h.gw k _, h.bq.keep hk hq, h.rc⟩
theorem Ci.frozen (h : Ci w wr g cs L lev ss q) (k : Nat) : wr.frozen? ⟨g, k, none⟩ = false := Blk.frozen h.bq k
/-- The plain graph, and its classes. -/
structure Pg (w : World) (z : Nat) (T : Nat → Prop) (qg : Nat) (a : Option Addr) (len cap : Nat) (cs : List Cl) (L : List Nd) : Prop where
  r : RG w z T qg (.slice a len cap) L
  c : IsCls w a len cap cs
  o : Lok cs L
  all : cs.all L5.Cl.rt = true
  l : L.length < 1000000
  cap : len < 1000000
theorem Pg.grow {z qg : Nat} {T : Nat → Prop} {a : Option Addr} {len cap : Nat} (h : Pg w z T qg a len cap cs L) (g : Grow w W) : Pg W z T qg a len cap cs L :=
  ⟨h.r.grow g, h.c.chg g fun _ _ => id, h.o, h.all, h.l, h.cap⟩
/-- The answer of At. -/
theorem at_any {z qg : Nat} {T : Nat → Prop} {a : Option Addr} {len cap : Nat} (h : Pg w z T qg a len cap cs L) (i : Int) :
    ∃ r : Int, (Calls Tryz.prog 41 #[ptr qg, .int .i64 i] w fun e w' => e = .returned (.int .i64 r) ∧ w = w') ∧ ((r = -1 ∧ nd L i = none) ∨ ∃ (k : Nat) (x : Nd), r = k ∧ L[k]? = some x ∧ x.id = i ∧ nd L i = some x ∧ k < L.length) := by
  cases hn : nd L i with
  | none => exact ⟨-1, at_no h.r hn h.l, .inl ⟨rfl, rfl⟩⟩
  | some x =>
    obtain ⟨k, hk, hkl⟩ := nd_at hn
    obtain ⟨_, rfl⟩ := nd_some hn
    exact ⟨k, at_yes h.r h.o.1 hk h.l, .inr ⟨k, x, rfl, hk, rfl, rfl, hkl⟩⟩
end
end Go.Proofs.YtjfpjnhlnoiekaaGreat.L10
/- The plain answer's closure: what Close answers. Conditions: at most 1000000 roots, fewer than 1000000 nodes and classes; the classes can be. -/
namespace Go.Proofs.YtjfpjnhlnoiekaaGreat.L10
open Go.ChangeShapes Go.WideShapes Go.ChangeAt Go.RowKit
open Go.Proofs.YtjfpjnhlnoiekaaGreat.L9 (Nd nd GS RG Rf Lok In64 Srt nd_some nd_none nd_mem nd_at own_rd ptr wpList_app hldX aimX at_yes at_no holds_r aim_r)
open Go.Proofs.YtjfpjnhlnoiekaaGreat.L5 (Cl clAt isRf IsCls)
set_option linter.unusedVariables false
section
variable {w : World} {z qg : Nat} {T : Nat → Prop} {a : Option Addr} {len cap : Nat} {cs : List Cl} {L : List Nd} {lev : Int} {az : Option Addr} {n c : Nat} {zs : List Int} {q : Int → Bool}
theorem take_step {k : Nat} {x : Nd} (hk : L[k]? = some x) : L.take (k + 1) = L.take k ++ [x] := by
  rw [List.take_add_one, hk]
  rfl
theorem clL_step {k : Nat} {x : Nd} (hk : L[k]? = some x) : clL (L.take (k + 1)) q = clL (L.take k) q ++ (if q x.id then [x.id] else []) := by
  unfold clL
  rw [take_step hk, List.filter_append, List.map_append]
  congr 1
  cases hq : q x.id <;> simp [hq]
theorem lo_zero {H0 : List Int} {at1 t : Int} (ho : Lok cs L) (h0 : at1 = 0) (b : Bool) (ht : nd L t ≠ none) : t ∈ H0 ↔ t ∈ H0 ++ (if b then [at1] else []) := by
  constructor
  · exact List.mem_append_left _
  · intro h
    rcases List.mem_append.1 h with h | h
    · exact h
    · split at h
      · rw [List.mem_singleton.1 h, h0] at ht
        obtain ⟨x, hx⟩ := Option.ne_none_iff_exists'.1 ht
        obtain ⟨h1, h2⟩ := nd_some hx
        have := (ho.2 x h1).id1
        omega
      · cases h
theorem clL_le (L : List Nd) (f : Int → Bool) : (clL L f).length ≤ L.length := by unfold clL; rw [List.length_map]; exact List.length_filter_le _ _
theorem Ci.app {W W' : World} {g : Nat} {ss xs : List Int} {v : Value} (h : Ci w W g cs L lev ss q) (ho : OL W w.heap.size v xs) (cg : Grow w W') (hg : W.grownBy W' v.ownBlock) : Ci w W' g cs L lev ss q :=
  ⟨cg, Blk.chg (S := fun k => v.ownBlock = some k) h.bq ((Chg.refl _ _).grown hg fun k _ e => e) (ho.ne h.bq (by decide)), h.rc⟩
/-- The first k nodes lead to nothing that is not in. -/
def P4 (cs : List Cl) (L : List Nd) (lev : Int) (q : Int → Bool) (k : Nat) : Prop := ∀ x ∈ L.take k, q x.id = true → ∀ j ∈ outs cs L lev x.id, nd L j ≠ none → q j = true
def bn (m : Bool) : Nat := if m then 1 else 0
theorem P4.step {k : Nat} {x : Nd} (h : P4 cs L lev q k) (hk : L[k]? = some x) (hx : q x.id = true → ∀ j ∈ outs cs L lev x.id, nd L j ≠ none → q j = true) : P4 cs L lev q (k + 1) := by
  intro y hy
  rw [take_step hk] at hy
  rcases List.mem_append.1 hy with hy | hy
  · exact h y hy
  · obtain rfl := List.mem_singleton.1 hy
    exact hx
theorem P4.all (h : P4 cs L lev q L.length) (hq : ∀ i, q i = true → nd L i ≠ none) : ∀ i j, q i = true → j ∈ outs cs L lev i → nd L j ≠ none → q j = true := by
  intro i j hi hj hn
  obtain ⟨x, hx⟩ := Option.ne_none_iff_exists'.1 (hq i hi)
  obtain ⟨h1, rfl⟩ := nd_some hx
  exact h x (by rw [List.take_length]; exact h1) hi j hj hn

set_option maxRecDepth 100000 in
set_option maxHeartbeats 8000000 in
theorem close_any (h : Pg w z T qg a len cap cs L) (hz : L1.Rd w az n zs) (hn : n ≤ 1000000) {f : Int → Bool} (hf : IsRc cs L lev (srcC L lev zs) f) :
    Calls Tryz.prog 32 #[ptr qg, .int .i64 lev, .slice az n c] w fun e w' => ∃ a' c', e = .returned (.slice a' (clL L f).length c') ∧ OL w' w.heap.size (.slice a' (clL L f).length c') (clL L f) ∧ Grow w w' := by
  obtain ⟨v, r, d, ow, hrf⟩ := h.r
  obtain ⟨va, vc, rfl⟩ := hrf.val
  have HP := hide h
  have HL0 := hide hn
  have HZ := hide hz
  have c1 := hrf.cell1
  have hmk := mk_bools L (by have := h.l; omega)
  have HBN := hide (fun W : World => (Blk.new W 4 (bls L fun _ => false)))
  obtain ⟨N, hN⟩ : ∃ N, L.length = N := ⟨_, rfl⟩
  rw [hN] at c1 hmk hrf
  have HNN := hide hN
  have HL := hide (show N < 1000000 by have := h.l; omega)
  have HRF := hide hrf
  have HC1 := hide c1
  have HF := hide hf
  have HSR := hide h.o.1
  obtain ⟨ss, hss⟩ : ∃ ss, srcC L lev zs = ss := ⟨_, rfl⟩
  rw [hss] at HF
  have HSE := hide hss
  have HZL := hide hz.1
  clear h hz hn hf hN hrf hss
  have hcw := Grow.box w (.cells (bls L fun _ => false).toArray 4)
  have HCI0 := hide (⟨hcw, HBN.out w, fun i hi => by cases hi⟩ : Ci w (w.alloc (.cells (bls L fun _ => false).toArray 4)) w.heap.size cs L lev ss (fun _ => false))
  clear HBN hcw
  go_enter Tryz.func32, Tryz.ntmps32
  go_wp2_with fail
  clear hmk c1
  go_loopw [28] (fun v wr => ∃ (k : Nat) (q : Int → Bool), k ≤ n ∧ v = .int .i64 k ∧ Ci w wr w.heap.size cs L lev ss q ∧ (∀ i ∈ zs.take k, nd L i ≠ none → q i = true)) (fun v _ => n - (Go.RowKit.intOf v).toNat)
  case atStart => exact ⟨0, _, Nat.zero_le _, rfl, HCI0.out, by simp⟩
  case round =>
    clear HCI0
    obtain ⟨k, q, hk, rfl, hci, hzq⟩ := hrel
    rcases Nat.eq_or_lt_of_le hk with hke | hlt
    · have hke2 := hke.symm
      subst hke2
      clear hke
      have q1 : decide ((n : Int) < n) = false := by simp
      have c1 := hci.gw.cell HC1.out
      rw [← HZL.out, List.take_length] at hzq
      have HCI := hide hci
      have HZQ := hide hzq
      clear hci hzq hk
      go_wp2_with fail
      go_loopw [48] (fun v wr => ∃ (k : Nat) (q : Int → Bool), k ≤ N ∧ v = .int .i64 k ∧ Ci w wr w.heap.size cs L lev ss q ∧ (∀ i ∈ zs, nd L i ≠ none → q i = true) ∧ (4 ≤ lev → ∀ x ∈ L.take k, x.fin = true → q x.id = true)) (fun v _ => N - (Go.RowKit.intOf v).toNat)
      case atStart => exact ⟨0, _, Nat.zero_le _, rfl, HCI.out, HZQ.out, by simp⟩
      case round =>
        clear HCI HZQ c1 q
        obtain ⟨k, q, hk, rfl, hci, hzq, hfq⟩ := hrel
        rcases Nat.eq_or_lt_of_le hk with hke | hlt
        · have hke2 := hke.symm
          subst hke2
          clear hke
          have q1 : decide ((N : Int) < N) = false := by simp
          have hss : ∀ i ∈ ss, nd L i ≠ none → q i = true := by
            intro i hi hn
            rw [← HSE.out] at hi
            unfold srcC at hi
            split at hi
            · rename_i h4
              rcases List.mem_append.1 hi with hi | hi
              · exact hzq i hi hn
              · obtain ⟨x, hx, hxf⟩ := (fins_mem HSR.out).1 hi
                obtain ⟨h1, rfl⟩ := nd_some hx
                exact hfq h4 x (by rw [← HNN.out, List.take_length]; exact h1) hxf
            · exact hzq i hi hn
          have HCI := hide hci
          have HSS := hide hss
          clear hci hzq hfq hss hk
          go_wp2_with fail
          go_loopg [11] (2 * nq L q + 1) (fun gg v wr => ∃ (m : Bool) (q : Int → Bool), v = .bool m ∧ Ci w wr w.heap.size cs L lev ss q ∧ (∀ i ∈ ss, nd L i ≠ none → q i = true) ∧ (m = false → ∀ i j, q i = true → j ∈ outs cs L lev i → nd L j ≠ none → q j = true) ∧ 2 * nq L q + bn m ≤ gg)
          case atStart => exact ⟨true, q, rfl, HCI.out, HSS.out, fun h => (by cases h), Nat.le_refl _⟩
          case round =>
            clear HCI HSS q1 q
            obtain ⟨m, q, rfl, hci, hss, hcl, hgk⟩ := hrel
            cases m with
            | false =>
              have HCI := hide hci
              have HSS := hide hss
              have HCL := hide (hcl rfl)
              have c1 := hci.gw.cell HC1.out
              clear hci hss hcl hgk
              go_wp2_with fail
              clear c1
              go_loopw [18, 170] (fun v u wr => ∃ k : Nat, k ≤ N ∧ u = .int .i64 k ∧ OL wr w.heap.size v (clL (L.take k) q) ∧ Ci w wr w.heap.size cs L lev ss q) (fun _ u _ => N - (Go.RowKit.intOf u).toNat)
              case atStart => exact ⟨0, Nat.zero_le _, rfl, ol_nil _ _, HCI.out⟩
              case round =>
                clear HCI
                obtain ⟨k, hk, rfl, ho, hci⟩ := hrel
                rcases Nat.eq_or_lt_of_le hk with rfl | hlt
                · have q1 : decide ((k : Int) < k) = false := by simp
                  have HO := hide ho
                  have HC := hide hci
                  clear ho hci hk
                  go_wp2
                  go_ret
                  have ho := HO.out
                  rw [← HNN.out, List.take_length] at ho
                  obtain ⟨a', c', rfl⟩ := own_len ho
                  have he : q = f := (IsRc.mk HC.out.rc HSS.out HCL.out : IsRc cs L lev ss q).eq HF.out
                  subst he
                  exact ⟨a', c', rfl, ho, HC.out.gw⟩
                · have q1 : decide ((k : Int) < N) = true := decide_eq_true (by omega)
                  obtain ⟨x, hx⟩ : ∃ x, L[k]? = some x := ⟨_, List.getElem?_eq_getElem (by rw [HNN.out]; exact hlt)⟩
                  have hw : IntKind.i64.wrap ((k : Int) + 1) = ((k + 1 : Nat) : Int) := (IntWalk.i64_in _ (by have := HL.out; omega)).trans (by omega)
                  have hb := hci.bq.get hx
                  obtain ⟨gn, rfl, -, -, -, x0, -⟩ := HRF.out.at2 hx
                  have c1 := hci.gw.cell HC1.out
                  replace x0 := hci.gw.cell x0
                  have hst := clL_step (q := q) hx
                  have HLT := hide hlt
                  cases hq : q x.id with
                  | false =>
                    rw [hq] at hb hst
                    rw [if_neg (by simp), List.append_nil] at hst
                    have HO := hide ho
                    have HC := hide hci
                    have HS := hide hst
                    clear ho hci hk hx hst hq
                    go_wp2
                    go_roundw
                    case rel => exact ⟨k + 1, HLT.out, rfl, by rw [HS.out]; exact HO.out, HC.out⟩
                    case measure => have := HLT.out; simp [Go.RowKit.intOf]; omega
                  | true =>
                    rw [hq] at hb hst
                    rw [if_pos rfl] at hst
                    obtain ⟨i, hi⟩ : ∃ i, x.id = i := ⟨_, rfl⟩
                    rw [hi] at x0 hst
                    have gB := Grow.box wr (.cells [.int .i64 i].toArray 3)
                    have hln : (clL (L.take k) q).length ≤ 1000000 := by have h1 := clL_le (L.take k) q; have h2 := HL.out; rw [List.length_take] at h1; omega
                    obtain ⟨v', W', hr, ho', cg', hgr⟩ := app_more (c0 := 1) (hci.gw.trans gB) (ho.grow gB) (L1.Rd.of_blk (Blk.new wr 3 [.int .i64 i]) rfl : L1.Rd _ _ 1 [i]) (by omega)
                    have hci' := (hci.grow gB).app (ho.grow gB) cg' hgr
                    have KA := hide hr
                    have HO := hide ho'
                    have HC := hide hci'
                    have HS := hide hst
                    clear ho hci hk hx hst hq hr ho' cg' hgr hci' gB hln hi
                    go_wp2_with (at_builtin; refine wpList_app rfl _ _ 27 rfl u18 (.slice (some ⟨wr.heap.size, 0, none⟩) 1 1) v' _ W' rfl rfl KA.out ?_)
                    go_roundw
                    case rel => exact ⟨k + 1, HLT.out, rfl, by rw [HS.out]; exact HO.out, HC.out⟩
                    case measure => have := HLT.out; simp [Go.RowKit.intOf]; omega
            | true =>
              have HCI := hide hci
              have HSS := hide hss
              have HGK := hide hgk
              have c1 := hci.gw.cell HC1.out
              clear hci hss hcl hgk
              go_wp2_with fail
              clear c1
              go_loopw [11, 79] (fun v u wr => ∃ (m : Bool) (k : Nat) (q' : Int → Bool), v = .bool m ∧ u = .int .i64 k ∧ k ≤ N ∧ Ci w wr w.heap.size cs L lev ss q' ∧ (∀ i ∈ ss, nd L i ≠ none → q' i = true) ∧ (m = false → q' = q ∧ P4 cs L lev q k) ∧ nq L q' + bn m ≤ nq L q) (fun _ u _ => N - (Go.RowKit.intOf u).toNat)
              case atStart => exact ⟨false, 0, q, rfl, rfl, Nat.zero_le _, HCI.out, HSS.out, fun _ => ⟨rfl, fun x hx => by simp at hx⟩, Nat.le_refl _⟩
              case round =>
                obtain ⟨m, k, q', rfl, rfl, hk, hci, hss, hp4, hnq⟩ := hrel
                rcases Nat.eq_or_lt_of_le hk with hke | hlt
                · have hke2 := hke.symm
                  subst hke2
                  clear hke
                  have q2 : decide ((N : Int) < N) = false := by simp
                  have HM := hide (show 2 * nq L q' + bn m < gk by
                    have h1 := HGK.out
                    have h2 : bn true = 1 := rfl
                    have h3 : bn false = 0 := rfl
                    cases m with
                    | false =>
                      obtain ⟨e, _⟩ := hp4 rfl
                      subst e
                      omega
                    | true => omega)
                  have HR := hide (⟨m, q', rfl, hci, hss, fun hm i j => by
                    obtain ⟨e, h4⟩ := hp4 hm
                    subst e
                    rw [← HNN.out] at h4
                    exact h4.all (fun i hi => (hci.rc i hi).is_) i j, Nat.le_refl _⟩ : ∃ (m' : Bool) (q : Int → Bool), Value.bool m = .bool m' ∧ Ci w wr w.heap.size cs L lev ss q ∧ (∀ i ∈ ss, nd L i ≠ none → q i = true) ∧ (m' = false → ∀ i j, q i = true → j ∈ outs cs L lev i → nd L j ≠ none → q j = true) ∧ 2 * nq L q + bn m' ≤ 2 * nq L q' + bn m)
                  clear hci hss hp4 hnq hk
                  go_wp2
                  go_roundg (2 * nq L q' + bn m)
                  case measure => exact HM.out
                  case rel => exact HR.out
                · have q2 : decide ((k : Int) < N) = true := decide_eq_true (by omega)
                  obtain ⟨x, hx⟩ : ∃ x, L[k]? = some x := ⟨_, List.getElem?_eq_getElem (by rw [HNN.out]; exact hlt)⟩
                  have hw : IntKind.i64.wrap ((k : Int) + 1) = ((k + 1 : Nat) : Int) := (IntWalk.i64_in _ (by have := HL.out; omega)).trans (by omega)
                  have hb := hci.bq.get hx
                  have HLT := hide hlt
                  cases hq : q' x.id with
                  | false =>
                    rw [hq] at hb
                    have HR := hide (⟨hci, hss, fun hm => by
                      obtain ⟨e, h4⟩ := hp4 hm
                      exact ⟨e, h4.step hx fun h => by rw [← e, hq] at h; cases h⟩, hnq⟩ : Ci w wr w.heap.size cs L lev ss q' ∧ (∀ i ∈ ss, nd L i ≠ none → q' i = true) ∧ (m = false → q' = q ∧ P4 cs L lev q (k + 1)) ∧ nq L q' + bn m ≤ nq L q)
                    clear hci hss hp4 hnq hk hx hq hlt
                    go_wp2
                    go_roundw
                    case rel => exact ⟨m, k + 1, q', rfl, rfl, HLT.out, HR.out⟩
                    case measure => have := HLT.out; simp [Go.RowKit.intOf]; omega
                  | true =>
                    rw [hq] at hb
                    obtain ⟨gn, rfl, -, -, -, x0, -⟩ := HRF.out.at2 hx
                    have c1 := hci.gw.cell HC1.out
                    replace x0 := hci.gw.cell x0
                    have HRX := hide (hci.rc _ hq)
                    have HXI := hide (show q' x.id = true → True from fun _ => trivial)
                    have HHO := hide (fun W (g : Grow wr W) => holds_r (i := x.id) ((HP.out.grow hci.gw).grow g).r ((HP.out.grow hci.gw).grow g).c HP.out.o HP.out.all HP.out.l HP.out.cap)
                    have HAI := hide (fun W (g : Grow wr W) => aim_r (i := x.id) ((HP.out.grow hci.gw).grow g).r ((HP.out.grow hci.gw).grow g).c HP.out.o HP.out.all HP.out.l HP.out.cap)
                    have HX := hide hx
                    have HCI4 := hide hci
                    have HS4 := hide hss
                    have H4 := hide hp4
                    have HN4 := hide hnq
                    have hol := outs_len (cs := cs) (lev := lev) (fun y hy => (HP.out.o.2 y hy).rl) x.id
                    obtain ⟨H0, hH0⟩ : ∃ H0, hldX cs L x.id = H0 := ⟨_, rfl⟩
                    obtain ⟨⟨at1, ak1⟩, hax⟩ : ∃ pr : Int × Int, aimX cs L x.id = pr := ⟨_, rfl⟩
                    have hou : outs cs L lev x.id = H0 ++ (if ldB ak1 lev then [at1] else []) := by unfold outs; rw [hH0, hax]
                    rw [hou, List.length_append] at hol
                    have HOL := hide (show H0.length ≤ 31 by omega)
                    have HOU := hide hou
                    rw [hH0] at HHO
                    rw [hax] at HAI
                    have hwf := hide (show ∀ W, Grow wr W → W.cell? ⟨qg, 1, none⟩ = some (.slice (some ⟨gn, 0, none⟩) N vc) ∧ W.cell? ⟨gn, k * 5, none⟩ = some (.int .i64 x.id) from fun W g => ⟨g.cell c1, g.cell x0⟩)
                    obtain ⟨xi, hxi⟩ : ∃ xi, x.id = xi := ⟨_, rfl⟩
                    rw [hxi] at HHO HAI HRX HOU x0 hwf
                    have HXE := hide hxi
                    clear hci hss hp4 hnq hk hx hq hlt hol hou hH0 hax hxi HXI
                    go_wp2_with fail
                    refine (HHO.out _ (Chg.refl _ _)).mono ?_
                    rintro e W5 ⟨ha, hc5, rfl, hrow, c5⟩
                    obtain ⟨d1, d2⟩ := hwf.out _ c5
                    have HROW := hide hrow
                    have HC5 := hide c5
                    clear c1 x0 hb hrow
                    go_wp2_with fail
                    refine (HAI.out _ HC5.out).mono ?_
                    rintro e W6 ⟨rfl, c6⟩
                    have HO6 := hide (show OL W6 w.heap.size (.slice ha H0.length hc5) H0 from OL.lower (OL.grow HROW.out c6) HCI4.out.gw.size)
                    have HC6 := hide (HCI4.out.grow (HC5.out.trans c6))
                    clear c5 c6 d1 d2 HROW HC5 HHO HAI hwf
                    dsimp only
                    by_cases h0 : at1 = 0
                    · as_aux_lemma =>
                      have q5 : (at1 != 0) = false := by simpa using h0
                      have HC := HC6
                      have HO := HO6
                      have HLM := hide (show H0.length = H0.length from rfl)
                      have HMB := hide (show H0.length ≤ 32 by have := HOL.out; omega)
                      have HLO := hide (show ∀ t, nd L t ≠ none → (t ∈ H0 ↔ t ∈ outs cs L lev xi) from fun t ht => by
                        rw [HOU.out]
                        (exact lo_zero HP.out.o h0 _ ht))
                      clear HC6 HO6 HOU h0
                      obtain ⟨M, hM⟩ : ∃ M, H0.length = M := ⟨_, rfl⟩
                      rw [hM] at HO HMB
                      replace HLM := hide hM
                      rw [hM]
                      clear hM
                      go_wp2_with fail
                      go_loopw [11, 142] (fun v u wr => ∃ (m : Bool) (e : Nat) (q5 : Int → Bool), v = .bool m ∧ u = .int .i64 e ∧ e ≤ M ∧ OL wr w.heap.size (.slice ha M hc5) (H0) ∧ Ci w wr w.heap.size cs L lev ss q5 ∧ (∀ i ∈ ss, nd L i ≠ none → q5 i = true) ∧ (m = false → q5 = q ∧ P4 cs L lev q k ∧ ∀ t ∈ (H0).take e, nd L t ≠ none → q t = true) ∧ nq L q5 + bn m ≤ nq L q) (fun _ u _ => M - (Go.RowKit.intOf u).toNat)
                      case atStart => exact ⟨m, 0, q', rfl, rfl, Nat.zero_le _, HO.out, HC.out, HS4.out, fun hm => ⟨(H4.out hm).1, (H4.out hm).2, by simp⟩, HN4.out⟩
                      case round =>
                        clear HO HC HS4 H4 HN4
                        obtain ⟨m5, e, q5, rfl, rfl, he, ho, hci, hss, hp, hnq⟩ := hrel
                        rcases Nat.eq_or_lt_of_le he with heq | hlt
                        · have heq2 := heq.symm
                          subst heq2
                          clear heq
                          have q8 : decide (((M : Nat) : Int) < ((M : Nat) : Int)) = false := by simp
                          have HR := hide (⟨hci, hss, fun hm => by
                            obtain ⟨e1, h4, h5⟩ := hp hm
                            refine ⟨e1, h4.step HX.out fun _ j hj hn => h5 j ?_ hn⟩
                            rw [HXE.out] at hj
                            rw [show (H0).take M = H0 from List.take_of_length_le (by rw [HLM.out]; exact Nat.le_refl _)]
                            exact (HLO.out j hn).2 hj, hnq⟩ : Ci w wr w.heap.size cs L lev ss q5 ∧ (∀ i ∈ ss, nd L i ≠ none → q5 i = true) ∧ (m5 = false → q5 = q ∧ P4 cs L lev q (k + 1)) ∧ nq L q5 + bn m5 ≤ nq L q)
                          clear ho hci hss hp hnq he
                          go_wp2
                          go_roundw
                          case rel => exact ⟨m5, k + 1, q5, rfl, rfl, HLT.out, HR.out⟩
                          case measure => have := HLT.out; simp [Go.RowKit.intOf]; omega
                        · have q8 : decide ((e : Int) < ((M : Nat) : Int)) = true := decide_eq_true (by omega)
                          have hel : e < (H0).length := by rw [HLM.out]; exact hlt
                          obtain ⟨gl, hla, -, -, -, hce⟩ := L9.own_at (L9.own_cast ho HLM.out) hlt
                          have hwe : IntKind.i64.wrap ((e : Int) + 1) = ((e + 1 : Nat) : Int) := (IntWalk.i64_in _ (by have := HMB.out; omega)).trans (by omega)
                          have htk : (H0).take (e + 1) = (H0).take e ++ [(H0).getD e 0] := by
                            rw [List.take_add_one, List.getElem?_eq_getElem hel, List.getD_eq_getElem?_getD, List.getElem?_eq_getElem hel]
                            rfl
                          have hml := getD_mem hel
                          obtain ⟨r0, hat, hr0⟩ := at_any (HP.out.grow hci.gw) ((H0).getD e 0)
                          generalize (H0).getD e 0 = t at *
                          have HAT := hide hat
                          have HLE := hide hlt
                          subst hla
                          rcases hr0 with ⟨rfl, hn⟩ | ⟨j, y, rfl, hj, hyi, hn, hjl⟩
                          · have HR := hide (⟨ho, hci, hss, fun hm => by
                              obtain ⟨e1, h4, h5⟩ := hp hm
                              refine ⟨e1, h4, fun u hu hun => ?_⟩
                              rw [htk] at hu
                              rcases List.mem_append.1 hu with hu | hu
                              · exact h5 u hu hun
                              · rw [List.mem_singleton.1 hu] at hun; exact absurd hn hun, hnq⟩ : OL wr w.heap.size (.slice (some ⟨gl, 0, none⟩) M hc5) (H0) ∧ Ci w wr w.heap.size cs L lev ss q5 ∧ (∀ i ∈ ss, nd L i ≠ none → q5 i = true) ∧ (m5 = false → q5 = q ∧ P4 cs L lev q k ∧ ∀ t ∈ (H0).take (e + 1), nd L t ≠ none → q t = true) ∧ nq L q5 + bn m5 ≤ nq L q)
                            clear ho hci hss hp hnq he hel htk hml hat hn hlt
                            go_wp2_with fail
                            refine HAT.out.mono ?_
                            rintro e' w' ⟨rfl, rfl⟩
                            go_wp2
                            go_roundw
                            case rel => exact ⟨m5, e + 1, q5, rfl, rfl, HLE.out, HR.out⟩
                            case measure => have := HLE.out; simp [Go.RowKit.intOf]; omega
                          · have hb5 := hci.bq.get hj
                            have hfz := hci.frozen j
                            have q9 : decide ((j : Int) ≥ 0) = true := decide_eq_true (by omega)
                            have q10 : j < N := by rw [← HNN.out]; exact hjl
                            cases hq5 : q5 y.id with
                            | true =>
                              rw [hq5] at hb5
                              have HR := hide (⟨ho, hci, hss, fun hm => by
                                obtain ⟨e1, h4, h5⟩ := hp hm
                                refine ⟨e1, h4, fun u hu hun => ?_⟩
                                rw [htk] at hu
                                rcases List.mem_append.1 hu with hu | hu
                                · exact h5 u hu hun
                                · rw [List.mem_singleton.1 hu, ← hyi, ← e1]; exact hq5, hnq⟩ : OL wr w.heap.size (.slice (some ⟨gl, 0, none⟩) M hc5) (H0) ∧ Ci w wr w.heap.size cs L lev ss q5 ∧ (∀ i ∈ ss, nd L i ≠ none → q5 i = true) ∧ (m5 = false → q5 = q ∧ P4 cs L lev q k ∧ ∀ t ∈ (H0).take (e + 1), nd L t ≠ none → q t = true) ∧ nq L q5 + bn m5 ≤ nq L q)
                              clear ho hci hss hp hnq he hel htk hml hat hn hlt hj hyi hjl hq5 hfz
                              go_wp2_with fail
                              refine HAT.out.mono ?_
                              rintro e' w' ⟨rfl, rfl⟩
                              go_wp2
                              go_roundw
                              case rel => exact ⟨m5, e + 1, q5, rfl, rfl, HLE.out, HR.out⟩
                              case measure => have := HLE.out; simp [Go.RowKit.intOf]; omega
                            | false =>
                              rw [hq5] at hb5
                              have HR := hide (⟨ho.chg ((Chg.refl _ _).set1 (g := w.heap.size) j (.bool true)) (fun k hk e => ho.ne hci.bq (by decide) (by rw [hk, e])), hci.put (Nat.le_refl _) HSR.out hj (.go HRX.out ((HLO.out y.id (by rw [hyi, hn]; simp)).1 (by rw [hyi]; exact hml)) (by rw [hyi, hn]; simp)), fun i hi hin => put_old (hss i hi hin), fun hm => (by cases hm), by
                                have h1 := nq_put HSR.out (List.mem_of_getElem? hj) hq5
                                have h2 : bn true = 1 := rfl
                                omega⟩ : OL (wr.setCell ⟨w.heap.size, j, none⟩ (.bool true)) w.heap.size (.slice (some ⟨gl, 0, none⟩) M hc5) (H0) ∧ Ci w (wr.setCell ⟨w.heap.size, j, none⟩ (.bool true)) w.heap.size cs L lev ss (put q5 y.id) ∧ (∀ i ∈ ss, nd L i ≠ none → put q5 y.id i = true) ∧ (true = false → put q5 y.id = q ∧ P4 cs L lev q k ∧ ∀ t ∈ (H0).take (e + 1), nd L t ≠ none → q t = true) ∧ nq L (put q5 y.id) + bn true ≤ nq L q)
                              clear ho hci hss hp hnq he hel htk hml hat hn hlt hj hyi hjl hq5
                              go_wp2_with fail
                              refine HAT.out.mono ?_
                              rintro e' w' ⟨rfl, rfl⟩
                              go_wp2
                              go_roundw
                              case rel => exact ⟨true, e + 1, put q5 y.id, rfl, rfl, HLE.out, HR.out⟩
                              case measure => have := HLE.out; simp [Go.RowKit.intOf]; omega
                    · have q5 : (at1 != 0) = true := by simpa using h0
                      by_cases k3 : ak1 = 3
                      · subst k3
                        by_cases hl : 2 ≤ lev
                        · as_aux_lemma =>
                          have q6 : decide (lev ≥ 2) = true := decide_eq_true hl
                          have gB := Grow.box W6 (.cells [.int .i64 at1].toArray 3)
                          obtain ⟨v', W8, hr, ho', cg', hgr⟩ := app_more (c0 := 1) (HC6.out.gw.trans gB) (OL.grow HO6.out gB) (L1.Rd.of_blk (Blk.new W6 3 [.int .i64 at1]) rfl : L1.Rd _ _ 1 [at1]) (by have := HOL.out; omega)
                          have HC := hide ((HC6.out.grow gB).app (OL.grow HO6.out gB) cg' hgr)
                          obtain ⟨la8, lc8, rfl⟩ := own_len ho'
                          have HO := hide ho'
                          have HMB := hide (show (H0 ++ [at1]).length ≤ 32 by have := HOL.out; simp; omega)
                          have HLO := hide (show ∀ t, nd L t ≠ none → (t ∈ H0 ++ [at1] ↔ t ∈ outs cs L lev xi) from fun t ht => by
                            rw [HOU.out, show ldB 3 lev = true by simp [ldB]; omega]
                            simp)
                          obtain ⟨M, hM⟩ : ∃ M, (H0 ++ [at1]).length = M := ⟨_, rfl⟩
                          rw [hM] at HO HMB hr
                          have HLM := hide hM
                          have KA := hide hr
                          clear HC6 HO6 HOU gB ho' cg' hgr hr hM h0 hl
                          go_wp2_with (at_builtin; refine wpList_app rfl _ _ 27 rfl (.slice ha H0.length hc5) (.slice (some ⟨W6.heap.size, 0, none⟩) 1 1) (.slice la8 M lc8) _ W8 rfl rfl KA.out ?_)
                          clear q5 q6
                          go_wp2_with fail
                          go_loopw [11, 142] (fun v u wr => ∃ (m : Bool) (e : Nat) (q5 : Int → Bool), v = .bool m ∧ u = .int .i64 e ∧ e ≤ M ∧ OL wr w.heap.size (.slice la8 M lc8) (H0 ++ [at1]) ∧ Ci w wr w.heap.size cs L lev ss q5 ∧ (∀ i ∈ ss, nd L i ≠ none → q5 i = true) ∧ (m = false → q5 = q ∧ P4 cs L lev q k ∧ ∀ t ∈ (H0 ++ [at1]).take e, nd L t ≠ none → q t = true) ∧ nq L q5 + bn m ≤ nq L q) (fun _ u _ => M - (Go.RowKit.intOf u).toNat)
                          case atStart => exact ⟨m, 0, q', rfl, rfl, Nat.zero_le _, HO.out, HC.out, HS4.out, fun hm => ⟨(H4.out hm).1, (H4.out hm).2, by simp⟩, HN4.out⟩
                          case round =>
                            clear HO HC HS4 H4 HN4
                            obtain ⟨m5, e, q5, rfl, rfl, he, ho, hci, hss, hp, hnq⟩ := hrel
                            rcases Nat.eq_or_lt_of_le he with heq | hlt
                            · have heq2 := heq.symm
                              subst heq2
                              clear heq
                              have q8 : decide (((M : Nat) : Int) < ((M : Nat) : Int)) = false := by simp
                              have HR := hide (⟨hci, hss, fun hm => by
                                obtain ⟨e1, h4, h5⟩ := hp hm
                                refine ⟨e1, h4.step HX.out fun _ j hj hn => h5 j ?_ hn⟩
                                rw [HXE.out] at hj
                                rw [show (H0 ++ [at1]).take M = H0 ++ [at1] from List.take_of_length_le (by rw [HLM.out]; exact Nat.le_refl _)]
                                exact (HLO.out j hn).2 hj, hnq⟩ : Ci w wr w.heap.size cs L lev ss q5 ∧ (∀ i ∈ ss, nd L i ≠ none → q5 i = true) ∧ (m5 = false → q5 = q ∧ P4 cs L lev q (k + 1)) ∧ nq L q5 + bn m5 ≤ nq L q)
                              clear ho hci hss hp hnq he
                              go_wp2
                              go_roundw
                              case rel => exact ⟨m5, k + 1, q5, rfl, rfl, HLT.out, HR.out⟩
                              case measure => have := HLT.out; simp [Go.RowKit.intOf]; omega
                            · have q8 : decide ((e : Int) < ((M : Nat) : Int)) = true := decide_eq_true (by omega)
                              have hel : e < (H0 ++ [at1]).length := by rw [HLM.out]; exact hlt
                              obtain ⟨gl, hla, -, -, -, hce⟩ := L9.own_at (L9.own_cast ho HLM.out) hlt
                              have hwe : IntKind.i64.wrap ((e : Int) + 1) = ((e + 1 : Nat) : Int) := (IntWalk.i64_in _ (by have := HMB.out; omega)).trans (by omega)
                              have htk : (H0 ++ [at1]).take (e + 1) = (H0 ++ [at1]).take e ++ [(H0 ++ [at1]).getD e 0] := by
                                rw [List.take_add_one, List.getElem?_eq_getElem hel, List.getD_eq_getElem?_getD, List.getElem?_eq_getElem hel]
                                rfl
                              have hml := getD_mem hel
                              obtain ⟨r0, hat, hr0⟩ := at_any (HP.out.grow hci.gw) ((H0 ++ [at1]).getD e 0)
                              generalize (H0 ++ [at1]).getD e 0 = t at *
                              have HAT := hide hat
                              have HLE := hide hlt
                              subst hla
                              rcases hr0 with ⟨rfl, hn⟩ | ⟨j, y, rfl, hj, hyi, hn, hjl⟩
                              · have HR := hide (⟨ho, hci, hss, fun hm => by
                                  obtain ⟨e1, h4, h5⟩ := hp hm
                                  refine ⟨e1, h4, fun u hu hun => ?_⟩
                                  rw [htk] at hu
                                  rcases List.mem_append.1 hu with hu | hu
                                  · exact h5 u hu hun
                                  · rw [List.mem_singleton.1 hu] at hun; exact absurd hn hun, hnq⟩ : OL wr w.heap.size (.slice (some ⟨gl, 0, none⟩) M lc8) (H0 ++ [at1]) ∧ Ci w wr w.heap.size cs L lev ss q5 ∧ (∀ i ∈ ss, nd L i ≠ none → q5 i = true) ∧ (m5 = false → q5 = q ∧ P4 cs L lev q k ∧ ∀ t ∈ (H0 ++ [at1]).take (e + 1), nd L t ≠ none → q t = true) ∧ nq L q5 + bn m5 ≤ nq L q)
                                clear ho hci hss hp hnq he hel htk hml hat hn hlt
                                go_wp2_with fail
                                refine HAT.out.mono ?_
                                rintro e' w' ⟨rfl, rfl⟩
                                go_wp2
                                go_roundw
                                case rel => exact ⟨m5, e + 1, q5, rfl, rfl, HLE.out, HR.out⟩
                                case measure => have := HLE.out; simp [Go.RowKit.intOf]; omega
                              · have hb5 := hci.bq.get hj
                                have hfz := hci.frozen j
                                have q9 : decide ((j : Int) ≥ 0) = true := decide_eq_true (by omega)
                                have q10 : j < N := by rw [← HNN.out]; exact hjl
                                cases hq5 : q5 y.id with
                                | true =>
                                  rw [hq5] at hb5
                                  have HR := hide (⟨ho, hci, hss, fun hm => by
                                    obtain ⟨e1, h4, h5⟩ := hp hm
                                    refine ⟨e1, h4, fun u hu hun => ?_⟩
                                    rw [htk] at hu
                                    rcases List.mem_append.1 hu with hu | hu
                                    · exact h5 u hu hun
                                    · rw [List.mem_singleton.1 hu, ← hyi, ← e1]; exact hq5, hnq⟩ : OL wr w.heap.size (.slice (some ⟨gl, 0, none⟩) M lc8) (H0 ++ [at1]) ∧ Ci w wr w.heap.size cs L lev ss q5 ∧ (∀ i ∈ ss, nd L i ≠ none → q5 i = true) ∧ (m5 = false → q5 = q ∧ P4 cs L lev q k ∧ ∀ t ∈ (H0 ++ [at1]).take (e + 1), nd L t ≠ none → q t = true) ∧ nq L q5 + bn m5 ≤ nq L q)
                                  clear ho hci hss hp hnq he hel htk hml hat hn hlt hj hyi hjl hq5 hfz
                                  go_wp2_with fail
                                  refine HAT.out.mono ?_
                                  rintro e' w' ⟨rfl, rfl⟩
                                  go_wp2
                                  go_roundw
                                  case rel => exact ⟨m5, e + 1, q5, rfl, rfl, HLE.out, HR.out⟩
                                  case measure => have := HLE.out; simp [Go.RowKit.intOf]; omega
                                | false =>
                                  rw [hq5] at hb5
                                  have HR := hide (⟨ho.chg ((Chg.refl _ _).set1 (g := w.heap.size) j (.bool true)) (fun k hk e => ho.ne hci.bq (by decide) (by rw [hk, e])), hci.put (Nat.le_refl _) HSR.out hj (.go HRX.out ((HLO.out y.id (by rw [hyi, hn]; simp)).1 (by rw [hyi]; exact hml)) (by rw [hyi, hn]; simp)), fun i hi hin => put_old (hss i hi hin), fun hm => (by cases hm), by
                                    have h1 := nq_put HSR.out (List.mem_of_getElem? hj) hq5
                                    have h2 : bn true = 1 := rfl
                                    omega⟩ : OL (wr.setCell ⟨w.heap.size, j, none⟩ (.bool true)) w.heap.size (.slice (some ⟨gl, 0, none⟩) M lc8) (H0 ++ [at1]) ∧ Ci w (wr.setCell ⟨w.heap.size, j, none⟩ (.bool true)) w.heap.size cs L lev ss (put q5 y.id) ∧ (∀ i ∈ ss, nd L i ≠ none → put q5 y.id i = true) ∧ (true = false → put q5 y.id = q ∧ P4 cs L lev q k ∧ ∀ t ∈ (H0 ++ [at1]).take (e + 1), nd L t ≠ none → q t = true) ∧ nq L (put q5 y.id) + bn true ≤ nq L q)
                                  clear ho hci hss hp hnq he hel htk hml hat hn hlt hj hyi hjl hq5
                                  go_wp2_with fail
                                  refine HAT.out.mono ?_
                                  rintro e' w' ⟨rfl, rfl⟩
                                  go_wp2
                                  go_roundw
                                  case rel => exact ⟨true, e + 1, put q5 y.id, rfl, rfl, HLE.out, HR.out⟩
                                  case measure => have := HLE.out; simp [Go.RowKit.intOf]; omega
                        · as_aux_lemma =>
                          have q6 : decide (lev ≥ 2) = false := decide_eq_false hl
                          have HC := HC6
                          have HO := HO6
                          have HLM := hide (show H0.length = H0.length from rfl)
                          have HMB := hide (show H0.length ≤ 32 by have := HOL.out; omega)
                          have HLO := hide (show ∀ t, nd L t ≠ none → (t ∈ H0 ↔ t ∈ outs cs L lev xi) from fun t ht => by
                            rw [HOU.out]
                            (rw [show ldB 3 lev = false by simp [ldB]; omega]; simp))
                          clear HC6 HO6 HOU h0 hl
                          obtain ⟨M, hM⟩ : ∃ M, H0.length = M := ⟨_, rfl⟩
                          rw [hM] at HO HMB
                          replace HLM := hide hM
                          rw [hM]
                          clear hM
                          go_wp2_with fail
                          go_loopw [11, 142] (fun v u wr => ∃ (m : Bool) (e : Nat) (q5 : Int → Bool), v = .bool m ∧ u = .int .i64 e ∧ e ≤ M ∧ OL wr w.heap.size (.slice ha M hc5) (H0) ∧ Ci w wr w.heap.size cs L lev ss q5 ∧ (∀ i ∈ ss, nd L i ≠ none → q5 i = true) ∧ (m = false → q5 = q ∧ P4 cs L lev q k ∧ ∀ t ∈ (H0).take e, nd L t ≠ none → q t = true) ∧ nq L q5 + bn m ≤ nq L q) (fun _ u _ => M - (Go.RowKit.intOf u).toNat)
                          case atStart => exact ⟨m, 0, q', rfl, rfl, Nat.zero_le _, HO.out, HC.out, HS4.out, fun hm => ⟨(H4.out hm).1, (H4.out hm).2, by simp⟩, HN4.out⟩
                          case round =>
                            clear HO HC HS4 H4 HN4
                            obtain ⟨m5, e, q5, rfl, rfl, he, ho, hci, hss, hp, hnq⟩ := hrel
                            rcases Nat.eq_or_lt_of_le he with heq | hlt
                            · have heq2 := heq.symm
                              subst heq2
                              clear heq
                              have q8 : decide (((M : Nat) : Int) < ((M : Nat) : Int)) = false := by simp
                              have HR := hide (⟨hci, hss, fun hm => by
                                obtain ⟨e1, h4, h5⟩ := hp hm
                                refine ⟨e1, h4.step HX.out fun _ j hj hn => h5 j ?_ hn⟩
                                rw [HXE.out] at hj
                                rw [show (H0).take M = H0 from List.take_of_length_le (by rw [HLM.out]; exact Nat.le_refl _)]
                                exact (HLO.out j hn).2 hj, hnq⟩ : Ci w wr w.heap.size cs L lev ss q5 ∧ (∀ i ∈ ss, nd L i ≠ none → q5 i = true) ∧ (m5 = false → q5 = q ∧ P4 cs L lev q (k + 1)) ∧ nq L q5 + bn m5 ≤ nq L q)
                              clear ho hci hss hp hnq he
                              go_wp2
                              go_roundw
                              case rel => exact ⟨m5, k + 1, q5, rfl, rfl, HLT.out, HR.out⟩
                              case measure => have := HLT.out; simp [Go.RowKit.intOf]; omega
                            · have q8 : decide ((e : Int) < ((M : Nat) : Int)) = true := decide_eq_true (by omega)
                              have hel : e < (H0).length := by rw [HLM.out]; exact hlt
                              obtain ⟨gl, hla, -, -, -, hce⟩ := L9.own_at (L9.own_cast ho HLM.out) hlt
                              have hwe : IntKind.i64.wrap ((e : Int) + 1) = ((e + 1 : Nat) : Int) := (IntWalk.i64_in _ (by have := HMB.out; omega)).trans (by omega)
                              have htk : (H0).take (e + 1) = (H0).take e ++ [(H0).getD e 0] := by
                                rw [List.take_add_one, List.getElem?_eq_getElem hel, List.getD_eq_getElem?_getD, List.getElem?_eq_getElem hel]
                                rfl
                              have hml := getD_mem hel
                              obtain ⟨r0, hat, hr0⟩ := at_any (HP.out.grow hci.gw) ((H0).getD e 0)
                              generalize (H0).getD e 0 = t at *
                              have HAT := hide hat
                              have HLE := hide hlt
                              subst hla
                              rcases hr0 with ⟨rfl, hn⟩ | ⟨j, y, rfl, hj, hyi, hn, hjl⟩
                              · have HR := hide (⟨ho, hci, hss, fun hm => by
                                  obtain ⟨e1, h4, h5⟩ := hp hm
                                  refine ⟨e1, h4, fun u hu hun => ?_⟩
                                  rw [htk] at hu
                                  rcases List.mem_append.1 hu with hu | hu
                                  · exact h5 u hu hun
                                  · rw [List.mem_singleton.1 hu] at hun; exact absurd hn hun, hnq⟩ : OL wr w.heap.size (.slice (some ⟨gl, 0, none⟩) M hc5) (H0) ∧ Ci w wr w.heap.size cs L lev ss q5 ∧ (∀ i ∈ ss, nd L i ≠ none → q5 i = true) ∧ (m5 = false → q5 = q ∧ P4 cs L lev q k ∧ ∀ t ∈ (H0).take (e + 1), nd L t ≠ none → q t = true) ∧ nq L q5 + bn m5 ≤ nq L q)
                                clear ho hci hss hp hnq he hel htk hml hat hn hlt
                                go_wp2_with fail
                                refine HAT.out.mono ?_
                                rintro e' w' ⟨rfl, rfl⟩
                                go_wp2
                                go_roundw
                                case rel => exact ⟨m5, e + 1, q5, rfl, rfl, HLE.out, HR.out⟩
                                case measure => have := HLE.out; simp [Go.RowKit.intOf]; omega
                              · have hb5 := hci.bq.get hj
                                have hfz := hci.frozen j
                                have q9 : decide ((j : Int) ≥ 0) = true := decide_eq_true (by omega)
                                have q10 : j < N := by rw [← HNN.out]; exact hjl
                                cases hq5 : q5 y.id with
                                | true =>
                                  rw [hq5] at hb5
                                  have HR := hide (⟨ho, hci, hss, fun hm => by
                                    obtain ⟨e1, h4, h5⟩ := hp hm
                                    refine ⟨e1, h4, fun u hu hun => ?_⟩
                                    rw [htk] at hu
                                    rcases List.mem_append.1 hu with hu | hu
                                    · exact h5 u hu hun
                                    · rw [List.mem_singleton.1 hu, ← hyi, ← e1]; exact hq5, hnq⟩ : OL wr w.heap.size (.slice (some ⟨gl, 0, none⟩) M hc5) (H0) ∧ Ci w wr w.heap.size cs L lev ss q5 ∧ (∀ i ∈ ss, nd L i ≠ none → q5 i = true) ∧ (m5 = false → q5 = q ∧ P4 cs L lev q k ∧ ∀ t ∈ (H0).take (e + 1), nd L t ≠ none → q t = true) ∧ nq L q5 + bn m5 ≤ nq L q)
                                  clear ho hci hss hp hnq he hel htk hml hat hn hlt hj hyi hjl hq5 hfz
                                  go_wp2_with fail
                                  refine HAT.out.mono ?_
                                  rintro e' w' ⟨rfl, rfl⟩
                                  go_wp2
                                  go_roundw
                                  case rel => exact ⟨m5, e + 1, q5, rfl, rfl, HLE.out, HR.out⟩
                                  case measure => have := HLE.out; simp [Go.RowKit.intOf]; omega
                                | false =>
                                  rw [hq5] at hb5
                                  have HR := hide (⟨ho.chg ((Chg.refl _ _).set1 (g := w.heap.size) j (.bool true)) (fun k hk e => ho.ne hci.bq (by decide) (by rw [hk, e])), hci.put (Nat.le_refl _) HSR.out hj (.go HRX.out ((HLO.out y.id (by rw [hyi, hn]; simp)).1 (by rw [hyi]; exact hml)) (by rw [hyi, hn]; simp)), fun i hi hin => put_old (hss i hi hin), fun hm => (by cases hm), by
                                    have h1 := nq_put HSR.out (List.mem_of_getElem? hj) hq5
                                    have h2 : bn true = 1 := rfl
                                    omega⟩ : OL (wr.setCell ⟨w.heap.size, j, none⟩ (.bool true)) w.heap.size (.slice (some ⟨gl, 0, none⟩) M hc5) (H0) ∧ Ci w (wr.setCell ⟨w.heap.size, j, none⟩ (.bool true)) w.heap.size cs L lev ss (put q5 y.id) ∧ (∀ i ∈ ss, nd L i ≠ none → put q5 y.id i = true) ∧ (true = false → put q5 y.id = q ∧ P4 cs L lev q k ∧ ∀ t ∈ (H0).take (e + 1), nd L t ≠ none → q t = true) ∧ nq L (put q5 y.id) + bn true ≤ nq L q)
                                  clear ho hci hss hp hnq he hel htk hml hat hn hlt hj hyi hjl hq5
                                  go_wp2_with fail
                                  refine HAT.out.mono ?_
                                  rintro e' w' ⟨rfl, rfl⟩
                                  go_wp2
                                  go_roundw
                                  case rel => exact ⟨true, e + 1, put q5 y.id, rfl, rfl, HLE.out, HR.out⟩
                                  case measure => have := HLE.out; simp [Go.RowKit.intOf]; omega
                      by_cases k4 : ak1 = 4
                      · subst k4
                        by_cases hl : 3 ≤ lev
                        · as_aux_lemma =>
                          have q6 : decide (lev ≥ 3) = true := decide_eq_true hl
                          have gB := Grow.box W6 (.cells [.int .i64 at1].toArray 3)
                          obtain ⟨v', W8, hr, ho', cg', hgr⟩ := app_more (c0 := 1) (HC6.out.gw.trans gB) (OL.grow HO6.out gB) (L1.Rd.of_blk (Blk.new W6 3 [.int .i64 at1]) rfl : L1.Rd _ _ 1 [at1]) (by have := HOL.out; omega)
                          have HC := hide ((HC6.out.grow gB).app (OL.grow HO6.out gB) cg' hgr)
                          obtain ⟨la8, lc8, rfl⟩ := own_len ho'
                          have HO := hide ho'
                          have HMB := hide (show (H0 ++ [at1]).length ≤ 32 by have := HOL.out; simp; omega)
                          have HLO := hide (show ∀ t, nd L t ≠ none → (t ∈ H0 ++ [at1] ↔ t ∈ outs cs L lev xi) from fun t ht => by
                            rw [HOU.out, show ldB 4 lev = true by simp [ldB]; omega]
                            simp)
                          obtain ⟨M, hM⟩ : ∃ M, (H0 ++ [at1]).length = M := ⟨_, rfl⟩
                          rw [hM] at HO HMB hr
                          have HLM := hide hM
                          have KA := hide hr
                          clear HC6 HO6 HOU gB ho' cg' hgr hr hM h0 hl k3
                          go_wp2_with (at_builtin; refine wpList_app rfl _ _ 27 rfl (.slice ha H0.length hc5) (.slice (some ⟨W6.heap.size, 0, none⟩) 1 1) (.slice la8 M lc8) _ W8 rfl rfl KA.out ?_)
                          clear q5 q6
                          go_wp2_with fail
                          go_loopw [11, 142] (fun v u wr => ∃ (m : Bool) (e : Nat) (q5 : Int → Bool), v = .bool m ∧ u = .int .i64 e ∧ e ≤ M ∧ OL wr w.heap.size (.slice la8 M lc8) (H0 ++ [at1]) ∧ Ci w wr w.heap.size cs L lev ss q5 ∧ (∀ i ∈ ss, nd L i ≠ none → q5 i = true) ∧ (m = false → q5 = q ∧ P4 cs L lev q k ∧ ∀ t ∈ (H0 ++ [at1]).take e, nd L t ≠ none → q t = true) ∧ nq L q5 + bn m ≤ nq L q) (fun _ u _ => M - (Go.RowKit.intOf u).toNat)
                          case atStart => exact ⟨m, 0, q', rfl, rfl, Nat.zero_le _, HO.out, HC.out, HS4.out, fun hm => ⟨(H4.out hm).1, (H4.out hm).2, by simp⟩, HN4.out⟩
                          case round =>
                            clear HO HC HS4 H4 HN4
                            obtain ⟨m5, e, q5, rfl, rfl, he, ho, hci, hss, hp, hnq⟩ := hrel
                            rcases Nat.eq_or_lt_of_le he with heq | hlt
                            · have heq2 := heq.symm
                              subst heq2
                              clear heq
                              have q8 : decide (((M : Nat) : Int) < ((M : Nat) : Int)) = false := by simp
                              have HR := hide (⟨hci, hss, fun hm => by
                                obtain ⟨e1, h4, h5⟩ := hp hm
                                refine ⟨e1, h4.step HX.out fun _ j hj hn => h5 j ?_ hn⟩
                                rw [HXE.out] at hj
                                rw [show (H0 ++ [at1]).take M = H0 ++ [at1] from List.take_of_length_le (by rw [HLM.out]; exact Nat.le_refl _)]
                                exact (HLO.out j hn).2 hj, hnq⟩ : Ci w wr w.heap.size cs L lev ss q5 ∧ (∀ i ∈ ss, nd L i ≠ none → q5 i = true) ∧ (m5 = false → q5 = q ∧ P4 cs L lev q (k + 1)) ∧ nq L q5 + bn m5 ≤ nq L q)
                              clear ho hci hss hp hnq he
                              go_wp2
                              go_roundw
                              case rel => exact ⟨m5, k + 1, q5, rfl, rfl, HLT.out, HR.out⟩
                              case measure => have := HLT.out; simp [Go.RowKit.intOf]; omega
                            · have q8 : decide ((e : Int) < ((M : Nat) : Int)) = true := decide_eq_true (by omega)
                              have hel : e < (H0 ++ [at1]).length := by rw [HLM.out]; exact hlt
                              obtain ⟨gl, hla, -, -, -, hce⟩ := L9.own_at (L9.own_cast ho HLM.out) hlt
                              have hwe : IntKind.i64.wrap ((e : Int) + 1) = ((e + 1 : Nat) : Int) := (IntWalk.i64_in _ (by have := HMB.out; omega)).trans (by omega)
                              have htk : (H0 ++ [at1]).take (e + 1) = (H0 ++ [at1]).take e ++ [(H0 ++ [at1]).getD e 0] := by
                                rw [List.take_add_one, List.getElem?_eq_getElem hel, List.getD_eq_getElem?_getD, List.getElem?_eq_getElem hel]
                                rfl
                              have hml := getD_mem hel
                              obtain ⟨r0, hat, hr0⟩ := at_any (HP.out.grow hci.gw) ((H0 ++ [at1]).getD e 0)
                              generalize (H0 ++ [at1]).getD e 0 = t at *
                              have HAT := hide hat
                              have HLE := hide hlt
                              subst hla
                              rcases hr0 with ⟨rfl, hn⟩ | ⟨j, y, rfl, hj, hyi, hn, hjl⟩
                              · have HR := hide (⟨ho, hci, hss, fun hm => by
                                  obtain ⟨e1, h4, h5⟩ := hp hm
                                  refine ⟨e1, h4, fun u hu hun => ?_⟩
                                  rw [htk] at hu
                                  rcases List.mem_append.1 hu with hu | hu
                                  · exact h5 u hu hun
                                  · rw [List.mem_singleton.1 hu] at hun; exact absurd hn hun, hnq⟩ : OL wr w.heap.size (.slice (some ⟨gl, 0, none⟩) M lc8) (H0 ++ [at1]) ∧ Ci w wr w.heap.size cs L lev ss q5 ∧ (∀ i ∈ ss, nd L i ≠ none → q5 i = true) ∧ (m5 = false → q5 = q ∧ P4 cs L lev q k ∧ ∀ t ∈ (H0 ++ [at1]).take (e + 1), nd L t ≠ none → q t = true) ∧ nq L q5 + bn m5 ≤ nq L q)
                                clear ho hci hss hp hnq he hel htk hml hat hn hlt
                                go_wp2_with fail
                                refine HAT.out.mono ?_
                                rintro e' w' ⟨rfl, rfl⟩
                                go_wp2
                                go_roundw
                                case rel => exact ⟨m5, e + 1, q5, rfl, rfl, HLE.out, HR.out⟩
                                case measure => have := HLE.out; simp [Go.RowKit.intOf]; omega
                              · have hb5 := hci.bq.get hj
                                have hfz := hci.frozen j
                                have q9 : decide ((j : Int) ≥ 0) = true := decide_eq_true (by omega)
                                have q10 : j < N := by rw [← HNN.out]; exact hjl
                                cases hq5 : q5 y.id with
                                | true =>
                                  rw [hq5] at hb5
                                  have HR := hide (⟨ho, hci, hss, fun hm => by
                                    obtain ⟨e1, h4, h5⟩ := hp hm
                                    refine ⟨e1, h4, fun u hu hun => ?_⟩
                                    rw [htk] at hu
                                    rcases List.mem_append.1 hu with hu | hu
                                    · exact h5 u hu hun
                                    · rw [List.mem_singleton.1 hu, ← hyi, ← e1]; exact hq5, hnq⟩ : OL wr w.heap.size (.slice (some ⟨gl, 0, none⟩) M lc8) (H0 ++ [at1]) ∧ Ci w wr w.heap.size cs L lev ss q5 ∧ (∀ i ∈ ss, nd L i ≠ none → q5 i = true) ∧ (m5 = false → q5 = q ∧ P4 cs L lev q k ∧ ∀ t ∈ (H0 ++ [at1]).take (e + 1), nd L t ≠ none → q t = true) ∧ nq L q5 + bn m5 ≤ nq L q)
                                  clear ho hci hss hp hnq he hel htk hml hat hn hlt hj hyi hjl hq5 hfz
                                  go_wp2_with fail
                                  refine HAT.out.mono ?_
                                  rintro e' w' ⟨rfl, rfl⟩
                                  go_wp2
                                  go_roundw
                                  case rel => exact ⟨m5, e + 1, q5, rfl, rfl, HLE.out, HR.out⟩
                                  case measure => have := HLE.out; simp [Go.RowKit.intOf]; omega
                                | false =>
                                  rw [hq5] at hb5
                                  have HR := hide (⟨ho.chg ((Chg.refl _ _).set1 (g := w.heap.size) j (.bool true)) (fun k hk e => ho.ne hci.bq (by decide) (by rw [hk, e])), hci.put (Nat.le_refl _) HSR.out hj (.go HRX.out ((HLO.out y.id (by rw [hyi, hn]; simp)).1 (by rw [hyi]; exact hml)) (by rw [hyi, hn]; simp)), fun i hi hin => put_old (hss i hi hin), fun hm => (by cases hm), by
                                    have h1 := nq_put HSR.out (List.mem_of_getElem? hj) hq5
                                    have h2 : bn true = 1 := rfl
                                    omega⟩ : OL (wr.setCell ⟨w.heap.size, j, none⟩ (.bool true)) w.heap.size (.slice (some ⟨gl, 0, none⟩) M lc8) (H0 ++ [at1]) ∧ Ci w (wr.setCell ⟨w.heap.size, j, none⟩ (.bool true)) w.heap.size cs L lev ss (put q5 y.id) ∧ (∀ i ∈ ss, nd L i ≠ none → put q5 y.id i = true) ∧ (true = false → put q5 y.id = q ∧ P4 cs L lev q k ∧ ∀ t ∈ (H0 ++ [at1]).take (e + 1), nd L t ≠ none → q t = true) ∧ nq L (put q5 y.id) + bn true ≤ nq L q)
                                  clear ho hci hss hp hnq he hel htk hml hat hn hlt hj hyi hjl hq5
                                  go_wp2_with fail
                                  refine HAT.out.mono ?_
                                  rintro e' w' ⟨rfl, rfl⟩
                                  go_wp2
                                  go_roundw
                                  case rel => exact ⟨true, e + 1, put q5 y.id, rfl, rfl, HLE.out, HR.out⟩
                                  case measure => have := HLE.out; simp [Go.RowKit.intOf]; omega
                        · as_aux_lemma =>
                          have q6 : decide (lev ≥ 3) = false := decide_eq_false hl
                          have HC := HC6
                          have HO := HO6
                          have HLM := hide (show H0.length = H0.length from rfl)
                          have HMB := hide (show H0.length ≤ 32 by have := HOL.out; omega)
                          have HLO := hide (show ∀ t, nd L t ≠ none → (t ∈ H0 ↔ t ∈ outs cs L lev xi) from fun t ht => by
                            rw [HOU.out]
                            (rw [show ldB 4 lev = false by simp [ldB]; omega]; simp))
                          clear HC6 HO6 HOU h0 hl k3
                          obtain ⟨M, hM⟩ : ∃ M, H0.length = M := ⟨_, rfl⟩
                          rw [hM] at HO HMB
                          replace HLM := hide hM
                          rw [hM]
                          clear hM
                          go_wp2_with fail
                          go_loopw [11, 142] (fun v u wr => ∃ (m : Bool) (e : Nat) (q5 : Int → Bool), v = .bool m ∧ u = .int .i64 e ∧ e ≤ M ∧ OL wr w.heap.size (.slice ha M hc5) (H0) ∧ Ci w wr w.heap.size cs L lev ss q5 ∧ (∀ i ∈ ss, nd L i ≠ none → q5 i = true) ∧ (m = false → q5 = q ∧ P4 cs L lev q k ∧ ∀ t ∈ (H0).take e, nd L t ≠ none → q t = true) ∧ nq L q5 + bn m ≤ nq L q) (fun _ u _ => M - (Go.RowKit.intOf u).toNat)
                          case atStart => exact ⟨m, 0, q', rfl, rfl, Nat.zero_le _, HO.out, HC.out, HS4.out, fun hm => ⟨(H4.out hm).1, (H4.out hm).2, by simp⟩, HN4.out⟩
                          case round =>
                            clear HO HC HS4 H4 HN4
                            obtain ⟨m5, e, q5, rfl, rfl, he, ho, hci, hss, hp, hnq⟩ := hrel
                            rcases Nat.eq_or_lt_of_le he with heq | hlt
                            · have heq2 := heq.symm
                              subst heq2
                              clear heq
                              have q8 : decide (((M : Nat) : Int) < ((M : Nat) : Int)) = false := by simp
                              have HR := hide (⟨hci, hss, fun hm => by
                                obtain ⟨e1, h4, h5⟩ := hp hm
                                refine ⟨e1, h4.step HX.out fun _ j hj hn => h5 j ?_ hn⟩
                                rw [HXE.out] at hj
                                rw [show (H0).take M = H0 from List.take_of_length_le (by rw [HLM.out]; exact Nat.le_refl _)]
                                exact (HLO.out j hn).2 hj, hnq⟩ : Ci w wr w.heap.size cs L lev ss q5 ∧ (∀ i ∈ ss, nd L i ≠ none → q5 i = true) ∧ (m5 = false → q5 = q ∧ P4 cs L lev q (k + 1)) ∧ nq L q5 + bn m5 ≤ nq L q)
                              clear ho hci hss hp hnq he
                              go_wp2
                              go_roundw
                              case rel => exact ⟨m5, k + 1, q5, rfl, rfl, HLT.out, HR.out⟩
                              case measure => have := HLT.out; simp [Go.RowKit.intOf]; omega
                            · have q8 : decide ((e : Int) < ((M : Nat) : Int)) = true := decide_eq_true (by omega)
                              have hel : e < (H0).length := by rw [HLM.out]; exact hlt
                              obtain ⟨gl, hla, -, -, -, hce⟩ := L9.own_at (L9.own_cast ho HLM.out) hlt
                              have hwe : IntKind.i64.wrap ((e : Int) + 1) = ((e + 1 : Nat) : Int) := (IntWalk.i64_in _ (by have := HMB.out; omega)).trans (by omega)
                              have htk : (H0).take (e + 1) = (H0).take e ++ [(H0).getD e 0] := by
                                rw [List.take_add_one, List.getElem?_eq_getElem hel, List.getD_eq_getElem?_getD, List.getElem?_eq_getElem hel]
                                rfl
                              have hml := getD_mem hel
                              obtain ⟨r0, hat, hr0⟩ := at_any (HP.out.grow hci.gw) ((H0).getD e 0)
                              generalize (H0).getD e 0 = t at *
                              have HAT := hide hat
                              have HLE := hide hlt
                              subst hla
                              rcases hr0 with ⟨rfl, hn⟩ | ⟨j, y, rfl, hj, hyi, hn, hjl⟩
                              · have HR := hide (⟨ho, hci, hss, fun hm => by
                                  obtain ⟨e1, h4, h5⟩ := hp hm
                                  refine ⟨e1, h4, fun u hu hun => ?_⟩
                                  rw [htk] at hu
                                  rcases List.mem_append.1 hu with hu | hu
                                  · exact h5 u hu hun
                                  · rw [List.mem_singleton.1 hu] at hun; exact absurd hn hun, hnq⟩ : OL wr w.heap.size (.slice (some ⟨gl, 0, none⟩) M hc5) (H0) ∧ Ci w wr w.heap.size cs L lev ss q5 ∧ (∀ i ∈ ss, nd L i ≠ none → q5 i = true) ∧ (m5 = false → q5 = q ∧ P4 cs L lev q k ∧ ∀ t ∈ (H0).take (e + 1), nd L t ≠ none → q t = true) ∧ nq L q5 + bn m5 ≤ nq L q)
                                clear ho hci hss hp hnq he hel htk hml hat hn hlt
                                go_wp2_with fail
                                refine HAT.out.mono ?_
                                rintro e' w' ⟨rfl, rfl⟩
                                go_wp2
                                go_roundw
                                case rel => exact ⟨m5, e + 1, q5, rfl, rfl, HLE.out, HR.out⟩
                                case measure => have := HLE.out; simp [Go.RowKit.intOf]; omega
                              · have hb5 := hci.bq.get hj
                                have hfz := hci.frozen j
                                have q9 : decide ((j : Int) ≥ 0) = true := decide_eq_true (by omega)
                                have q10 : j < N := by rw [← HNN.out]; exact hjl
                                cases hq5 : q5 y.id with
                                | true =>
                                  rw [hq5] at hb5
                                  have HR := hide (⟨ho, hci, hss, fun hm => by
                                    obtain ⟨e1, h4, h5⟩ := hp hm
                                    refine ⟨e1, h4, fun u hu hun => ?_⟩
                                    rw [htk] at hu
                                    rcases List.mem_append.1 hu with hu | hu
                                    · exact h5 u hu hun
                                    · rw [List.mem_singleton.1 hu, ← hyi, ← e1]; exact hq5, hnq⟩ : OL wr w.heap.size (.slice (some ⟨gl, 0, none⟩) M hc5) (H0) ∧ Ci w wr w.heap.size cs L lev ss q5 ∧ (∀ i ∈ ss, nd L i ≠ none → q5 i = true) ∧ (m5 = false → q5 = q ∧ P4 cs L lev q k ∧ ∀ t ∈ (H0).take (e + 1), nd L t ≠ none → q t = true) ∧ nq L q5 + bn m5 ≤ nq L q)
                                  clear ho hci hss hp hnq he hel htk hml hat hn hlt hj hyi hjl hq5 hfz
                                  go_wp2_with fail
                                  refine HAT.out.mono ?_
                                  rintro e' w' ⟨rfl, rfl⟩
                                  go_wp2
                                  go_roundw
                                  case rel => exact ⟨m5, e + 1, q5, rfl, rfl, HLE.out, HR.out⟩
                                  case measure => have := HLE.out; simp [Go.RowKit.intOf]; omega
                                | false =>
                                  rw [hq5] at hb5
                                  have HR := hide (⟨ho.chg ((Chg.refl _ _).set1 (g := w.heap.size) j (.bool true)) (fun k hk e => ho.ne hci.bq (by decide) (by rw [hk, e])), hci.put (Nat.le_refl _) HSR.out hj (.go HRX.out ((HLO.out y.id (by rw [hyi, hn]; simp)).1 (by rw [hyi]; exact hml)) (by rw [hyi, hn]; simp)), fun i hi hin => put_old (hss i hi hin), fun hm => (by cases hm), by
                                    have h1 := nq_put HSR.out (List.mem_of_getElem? hj) hq5
                                    have h2 : bn true = 1 := rfl
                                    omega⟩ : OL (wr.setCell ⟨w.heap.size, j, none⟩ (.bool true)) w.heap.size (.slice (some ⟨gl, 0, none⟩) M hc5) (H0) ∧ Ci w (wr.setCell ⟨w.heap.size, j, none⟩ (.bool true)) w.heap.size cs L lev ss (put q5 y.id) ∧ (∀ i ∈ ss, nd L i ≠ none → put q5 y.id i = true) ∧ (true = false → put q5 y.id = q ∧ P4 cs L lev q k ∧ ∀ t ∈ (H0).take (e + 1), nd L t ≠ none → q t = true) ∧ nq L (put q5 y.id) + bn true ≤ nq L q)
                                  clear ho hci hss hp hnq he hel htk hml hat hn hlt hj hyi hjl hq5
                                  go_wp2_with fail
                                  refine HAT.out.mono ?_
                                  rintro e' w' ⟨rfl, rfl⟩
                                  go_wp2
                                  go_roundw
                                  case rel => exact ⟨true, e + 1, put q5 y.id, rfl, rfl, HLE.out, HR.out⟩
                                  case measure => have := HLE.out; simp [Go.RowKit.intOf]; omega
                      by_cases k5 : ak1 = 5
                      · subst k5
                        by_cases hl : 5 ≤ lev
                        · as_aux_lemma =>
                          have q6 : decide (lev ≥ 5) = true := decide_eq_true hl
                          have gB := Grow.box W6 (.cells [.int .i64 at1].toArray 3)
                          obtain ⟨v', W8, hr, ho', cg', hgr⟩ := app_more (c0 := 1) (HC6.out.gw.trans gB) (OL.grow HO6.out gB) (L1.Rd.of_blk (Blk.new W6 3 [.int .i64 at1]) rfl : L1.Rd _ _ 1 [at1]) (by have := HOL.out; omega)
                          have HC := hide ((HC6.out.grow gB).app (OL.grow HO6.out gB) cg' hgr)
                          obtain ⟨la8, lc8, rfl⟩ := own_len ho'
                          have HO := hide ho'
                          have HMB := hide (show (H0 ++ [at1]).length ≤ 32 by have := HOL.out; simp; omega)
                          have HLO := hide (show ∀ t, nd L t ≠ none → (t ∈ H0 ++ [at1] ↔ t ∈ outs cs L lev xi) from fun t ht => by
                            rw [HOU.out, show ldB 5 lev = true by simp [ldB]; omega]
                            simp)
                          obtain ⟨M, hM⟩ : ∃ M, (H0 ++ [at1]).length = M := ⟨_, rfl⟩
                          rw [hM] at HO HMB hr
                          have HLM := hide hM
                          have KA := hide hr
                          clear HC6 HO6 HOU gB ho' cg' hgr hr hM h0 hl k3 k4
                          go_wp2_with (at_builtin; refine wpList_app rfl _ _ 27 rfl (.slice ha H0.length hc5) (.slice (some ⟨W6.heap.size, 0, none⟩) 1 1) (.slice la8 M lc8) _ W8 rfl rfl KA.out ?_)
                          clear q5 q6
                          go_wp2_with fail
                          go_loopw [11, 142] (fun v u wr => ∃ (m : Bool) (e : Nat) (q5 : Int → Bool), v = .bool m ∧ u = .int .i64 e ∧ e ≤ M ∧ OL wr w.heap.size (.slice la8 M lc8) (H0 ++ [at1]) ∧ Ci w wr w.heap.size cs L lev ss q5 ∧ (∀ i ∈ ss, nd L i ≠ none → q5 i = true) ∧ (m = false → q5 = q ∧ P4 cs L lev q k ∧ ∀ t ∈ (H0 ++ [at1]).take e, nd L t ≠ none → q t = true) ∧ nq L q5 + bn m ≤ nq L q) (fun _ u _ => M - (Go.RowKit.intOf u).toNat)
                          case atStart => exact ⟨m, 0, q', rfl, rfl, Nat.zero_le _, HO.out, HC.out, HS4.out, fun hm => ⟨(H4.out hm).1, (H4.out hm).2, by simp⟩, HN4.out⟩
                          case round =>
                            clear HO HC HS4 H4 HN4
                            obtain ⟨m5, e, q5, rfl, rfl, he, ho, hci, hss, hp, hnq⟩ := hrel
                            rcases Nat.eq_or_lt_of_le he with heq | hlt
                            · have heq2 := heq.symm
                              subst heq2
                              clear heq
                              have q8 : decide (((M : Nat) : Int) < ((M : Nat) : Int)) = false := by simp
                              have HR := hide (⟨hci, hss, fun hm => by
                                obtain ⟨e1, h4, h5⟩ := hp hm
                                refine ⟨e1, h4.step HX.out fun _ j hj hn => h5 j ?_ hn⟩
                                rw [HXE.out] at hj
                                rw [show (H0 ++ [at1]).take M = H0 ++ [at1] from List.take_of_length_le (by rw [HLM.out]; exact Nat.le_refl _)]
                                exact (HLO.out j hn).2 hj, hnq⟩ : Ci w wr w.heap.size cs L lev ss q5 ∧ (∀ i ∈ ss, nd L i ≠ none → q5 i = true) ∧ (m5 = false → q5 = q ∧ P4 cs L lev q (k + 1)) ∧ nq L q5 + bn m5 ≤ nq L q)
                              clear ho hci hss hp hnq he
                              go_wp2
                              go_roundw
                              case rel => exact ⟨m5, k + 1, q5, rfl, rfl, HLT.out, HR.out⟩
                              case measure => have := HLT.out; simp [Go.RowKit.intOf]; omega
                            · have q8 : decide ((e : Int) < ((M : Nat) : Int)) = true := decide_eq_true (by omega)
                              have hel : e < (H0 ++ [at1]).length := by rw [HLM.out]; exact hlt
                              obtain ⟨gl, hla, -, -, -, hce⟩ := L9.own_at (L9.own_cast ho HLM.out) hlt
                              have hwe : IntKind.i64.wrap ((e : Int) + 1) = ((e + 1 : Nat) : Int) := (IntWalk.i64_in _ (by have := HMB.out; omega)).trans (by omega)
                              have htk : (H0 ++ [at1]).take (e + 1) = (H0 ++ [at1]).take e ++ [(H0 ++ [at1]).getD e 0] := by
                                rw [List.take_add_one, List.getElem?_eq_getElem hel, List.getD_eq_getElem?_getD, List.getElem?_eq_getElem hel]
                                rfl
                              have hml := getD_mem hel
                              obtain ⟨r0, hat, hr0⟩ := at_any (HP.out.grow hci.gw) ((H0 ++ [at1]).getD e 0)
                              generalize (H0 ++ [at1]).getD e 0 = t at *
                              have HAT := hide hat
                              have HLE := hide hlt
                              subst hla
                              rcases hr0 with ⟨rfl, hn⟩ | ⟨j, y, rfl, hj, hyi, hn, hjl⟩
                              · have HR := hide (⟨ho, hci, hss, fun hm => by
                                  obtain ⟨e1, h4, h5⟩ := hp hm
                                  refine ⟨e1, h4, fun u hu hun => ?_⟩
                                  rw [htk] at hu
                                  rcases List.mem_append.1 hu with hu | hu
                                  · exact h5 u hu hun
                                  · rw [List.mem_singleton.1 hu] at hun; exact absurd hn hun, hnq⟩ : OL wr w.heap.size (.slice (some ⟨gl, 0, none⟩) M lc8) (H0 ++ [at1]) ∧ Ci w wr w.heap.size cs L lev ss q5 ∧ (∀ i ∈ ss, nd L i ≠ none → q5 i = true) ∧ (m5 = false → q5 = q ∧ P4 cs L lev q k ∧ ∀ t ∈ (H0 ++ [at1]).take (e + 1), nd L t ≠ none → q t = true) ∧ nq L q5 + bn m5 ≤ nq L q)
                                clear ho hci hss hp hnq he hel htk hml hat hn hlt
                                go_wp2_with fail
                                refine HAT.out.mono ?_
                                rintro e' w' ⟨rfl, rfl⟩
                                go_wp2
                                go_roundw
                                case rel => exact ⟨m5, e + 1, q5, rfl, rfl, HLE.out, HR.out⟩
                                case measure => have := HLE.out; simp [Go.RowKit.intOf]; omega
                              · have hb5 := hci.bq.get hj
                                have hfz := hci.frozen j
                                have q9 : decide ((j : Int) ≥ 0) = true := decide_eq_true (by omega)
                                have q10 : j < N := by rw [← HNN.out]; exact hjl
                                cases hq5 : q5 y.id with
                                | true =>
                                  rw [hq5] at hb5
                                  have HR := hide (⟨ho, hci, hss, fun hm => by
                                    obtain ⟨e1, h4, h5⟩ := hp hm
                                    refine ⟨e1, h4, fun u hu hun => ?_⟩
                                    rw [htk] at hu
                                    rcases List.mem_append.1 hu with hu | hu
                                    · exact h5 u hu hun
                                    · rw [List.mem_singleton.1 hu, ← hyi, ← e1]; exact hq5, hnq⟩ : OL wr w.heap.size (.slice (some ⟨gl, 0, none⟩) M lc8) (H0 ++ [at1]) ∧ Ci w wr w.heap.size cs L lev ss q5 ∧ (∀ i ∈ ss, nd L i ≠ none → q5 i = true) ∧ (m5 = false → q5 = q ∧ P4 cs L lev q k ∧ ∀ t ∈ (H0 ++ [at1]).take (e + 1), nd L t ≠ none → q t = true) ∧ nq L q5 + bn m5 ≤ nq L q)
                                  clear ho hci hss hp hnq he hel htk hml hat hn hlt hj hyi hjl hq5 hfz
                                  go_wp2_with fail
                                  refine HAT.out.mono ?_
                                  rintro e' w' ⟨rfl, rfl⟩
                                  go_wp2
                                  go_roundw
                                  case rel => exact ⟨m5, e + 1, q5, rfl, rfl, HLE.out, HR.out⟩
                                  case measure => have := HLE.out; simp [Go.RowKit.intOf]; omega
                                | false =>
                                  rw [hq5] at hb5
                                  have HR := hide (⟨ho.chg ((Chg.refl _ _).set1 (g := w.heap.size) j (.bool true)) (fun k hk e => ho.ne hci.bq (by decide) (by rw [hk, e])), hci.put (Nat.le_refl _) HSR.out hj (.go HRX.out ((HLO.out y.id (by rw [hyi, hn]; simp)).1 (by rw [hyi]; exact hml)) (by rw [hyi, hn]; simp)), fun i hi hin => put_old (hss i hi hin), fun hm => (by cases hm), by
                                    have h1 := nq_put HSR.out (List.mem_of_getElem? hj) hq5
                                    have h2 : bn true = 1 := rfl
                                    omega⟩ : OL (wr.setCell ⟨w.heap.size, j, none⟩ (.bool true)) w.heap.size (.slice (some ⟨gl, 0, none⟩) M lc8) (H0 ++ [at1]) ∧ Ci w (wr.setCell ⟨w.heap.size, j, none⟩ (.bool true)) w.heap.size cs L lev ss (put q5 y.id) ∧ (∀ i ∈ ss, nd L i ≠ none → put q5 y.id i = true) ∧ (true = false → put q5 y.id = q ∧ P4 cs L lev q k ∧ ∀ t ∈ (H0 ++ [at1]).take (e + 1), nd L t ≠ none → q t = true) ∧ nq L (put q5 y.id) + bn true ≤ nq L q)
                                  clear ho hci hss hp hnq he hel htk hml hat hn hlt hj hyi hjl hq5
                                  go_wp2_with fail
                                  refine HAT.out.mono ?_
                                  rintro e' w' ⟨rfl, rfl⟩
                                  go_wp2
                                  go_roundw
                                  case rel => exact ⟨true, e + 1, put q5 y.id, rfl, rfl, HLE.out, HR.out⟩
                                  case measure => have := HLE.out; simp [Go.RowKit.intOf]; omega
                        · as_aux_lemma =>
                          have q6 : decide (lev ≥ 5) = false := decide_eq_false hl
                          have HC := HC6
                          have HO := HO6
                          have HLM := hide (show H0.length = H0.length from rfl)
                          have HMB := hide (show H0.length ≤ 32 by have := HOL.out; omega)
                          have HLO := hide (show ∀ t, nd L t ≠ none → (t ∈ H0 ↔ t ∈ outs cs L lev xi) from fun t ht => by
                            rw [HOU.out]
                            (rw [show ldB 5 lev = false by simp [ldB]; omega]; simp))
                          clear HC6 HO6 HOU h0 hl k3 k4
                          obtain ⟨M, hM⟩ : ∃ M, H0.length = M := ⟨_, rfl⟩
                          rw [hM] at HO HMB
                          replace HLM := hide hM
                          rw [hM]
                          clear hM
                          go_wp2_with fail
                          go_loopw [11, 142] (fun v u wr => ∃ (m : Bool) (e : Nat) (q5 : Int → Bool), v = .bool m ∧ u = .int .i64 e ∧ e ≤ M ∧ OL wr w.heap.size (.slice ha M hc5) (H0) ∧ Ci w wr w.heap.size cs L lev ss q5 ∧ (∀ i ∈ ss, nd L i ≠ none → q5 i = true) ∧ (m = false → q5 = q ∧ P4 cs L lev q k ∧ ∀ t ∈ (H0).take e, nd L t ≠ none → q t = true) ∧ nq L q5 + bn m ≤ nq L q) (fun _ u _ => M - (Go.RowKit.intOf u).toNat)
                          case atStart => exact ⟨m, 0, q', rfl, rfl, Nat.zero_le _, HO.out, HC.out, HS4.out, fun hm => ⟨(H4.out hm).1, (H4.out hm).2, by simp⟩, HN4.out⟩
                          case round =>
                            clear HO HC HS4 H4 HN4
                            obtain ⟨m5, e, q5, rfl, rfl, he, ho, hci, hss, hp, hnq⟩ := hrel
                            rcases Nat.eq_or_lt_of_le he with heq | hlt
                            · have heq2 := heq.symm
                              subst heq2
                              clear heq
                              have q8 : decide (((M : Nat) : Int) < ((M : Nat) : Int)) = false := by simp
                              have HR := hide (⟨hci, hss, fun hm => by
                                obtain ⟨e1, h4, h5⟩ := hp hm
                                refine ⟨e1, h4.step HX.out fun _ j hj hn => h5 j ?_ hn⟩
                                rw [HXE.out] at hj
                                rw [show (H0).take M = H0 from List.take_of_length_le (by rw [HLM.out]; exact Nat.le_refl _)]
                                exact (HLO.out j hn).2 hj, hnq⟩ : Ci w wr w.heap.size cs L lev ss q5 ∧ (∀ i ∈ ss, nd L i ≠ none → q5 i = true) ∧ (m5 = false → q5 = q ∧ P4 cs L lev q (k + 1)) ∧ nq L q5 + bn m5 ≤ nq L q)
                              clear ho hci hss hp hnq he
                              go_wp2
                              go_roundw
                              case rel => exact ⟨m5, k + 1, q5, rfl, rfl, HLT.out, HR.out⟩
                              case measure => have := HLT.out; simp [Go.RowKit.intOf]; omega
                            · have q8 : decide ((e : Int) < ((M : Nat) : Int)) = true := decide_eq_true (by omega)
                              have hel : e < (H0).length := by rw [HLM.out]; exact hlt
                              obtain ⟨gl, hla, -, -, -, hce⟩ := L9.own_at (L9.own_cast ho HLM.out) hlt
                              have hwe : IntKind.i64.wrap ((e : Int) + 1) = ((e + 1 : Nat) : Int) := (IntWalk.i64_in _ (by have := HMB.out; omega)).trans (by omega)
                              have htk : (H0).take (e + 1) = (H0).take e ++ [(H0).getD e 0] := by
                                rw [List.take_add_one, List.getElem?_eq_getElem hel, List.getD_eq_getElem?_getD, List.getElem?_eq_getElem hel]
                                rfl
                              have hml := getD_mem hel
                              obtain ⟨r0, hat, hr0⟩ := at_any (HP.out.grow hci.gw) ((H0).getD e 0)
                              generalize (H0).getD e 0 = t at *
                              have HAT := hide hat
                              have HLE := hide hlt
                              subst hla
                              rcases hr0 with ⟨rfl, hn⟩ | ⟨j, y, rfl, hj, hyi, hn, hjl⟩
                              · have HR := hide (⟨ho, hci, hss, fun hm => by
                                  obtain ⟨e1, h4, h5⟩ := hp hm
                                  refine ⟨e1, h4, fun u hu hun => ?_⟩
                                  rw [htk] at hu
                                  rcases List.mem_append.1 hu with hu | hu
                                  · exact h5 u hu hun
                                  · rw [List.mem_singleton.1 hu] at hun; exact absurd hn hun, hnq⟩ : OL wr w.heap.size (.slice (some ⟨gl, 0, none⟩) M hc5) (H0) ∧ Ci w wr w.heap.size cs L lev ss q5 ∧ (∀ i ∈ ss, nd L i ≠ none → q5 i = true) ∧ (m5 = false → q5 = q ∧ P4 cs L lev q k ∧ ∀ t ∈ (H0).take (e + 1), nd L t ≠ none → q t = true) ∧ nq L q5 + bn m5 ≤ nq L q)
                                clear ho hci hss hp hnq he hel htk hml hat hn hlt
                                go_wp2_with fail
                                refine HAT.out.mono ?_
                                rintro e' w' ⟨rfl, rfl⟩
                                go_wp2
                                go_roundw
                                case rel => exact ⟨m5, e + 1, q5, rfl, rfl, HLE.out, HR.out⟩
                                case measure => have := HLE.out; simp [Go.RowKit.intOf]; omega
                              · have hb5 := hci.bq.get hj
                                have hfz := hci.frozen j
                                have q9 : decide ((j : Int) ≥ 0) = true := decide_eq_true (by omega)
                                have q10 : j < N := by rw [← HNN.out]; exact hjl
                                cases hq5 : q5 y.id with
                                | true =>
                                  rw [hq5] at hb5
                                  have HR := hide (⟨ho, hci, hss, fun hm => by
                                    obtain ⟨e1, h4, h5⟩ := hp hm
                                    refine ⟨e1, h4, fun u hu hun => ?_⟩
                                    rw [htk] at hu
                                    rcases List.mem_append.1 hu with hu | hu
                                    · exact h5 u hu hun
                                    · rw [List.mem_singleton.1 hu, ← hyi, ← e1]; exact hq5, hnq⟩ : OL wr w.heap.size (.slice (some ⟨gl, 0, none⟩) M hc5) (H0) ∧ Ci w wr w.heap.size cs L lev ss q5 ∧ (∀ i ∈ ss, nd L i ≠ none → q5 i = true) ∧ (m5 = false → q5 = q ∧ P4 cs L lev q k ∧ ∀ t ∈ (H0).take (e + 1), nd L t ≠ none → q t = true) ∧ nq L q5 + bn m5 ≤ nq L q)
                                  clear ho hci hss hp hnq he hel htk hml hat hn hlt hj hyi hjl hq5 hfz
                                  go_wp2_with fail
                                  refine HAT.out.mono ?_
                                  rintro e' w' ⟨rfl, rfl⟩
                                  go_wp2
                                  go_roundw
                                  case rel => exact ⟨m5, e + 1, q5, rfl, rfl, HLE.out, HR.out⟩
                                  case measure => have := HLE.out; simp [Go.RowKit.intOf]; omega
                                | false =>
                                  rw [hq5] at hb5
                                  have HR := hide (⟨ho.chg ((Chg.refl _ _).set1 (g := w.heap.size) j (.bool true)) (fun k hk e => ho.ne hci.bq (by decide) (by rw [hk, e])), hci.put (Nat.le_refl _) HSR.out hj (.go HRX.out ((HLO.out y.id (by rw [hyi, hn]; simp)).1 (by rw [hyi]; exact hml)) (by rw [hyi, hn]; simp)), fun i hi hin => put_old (hss i hi hin), fun hm => (by cases hm), by
                                    have h1 := nq_put HSR.out (List.mem_of_getElem? hj) hq5
                                    have h2 : bn true = 1 := rfl
                                    omega⟩ : OL (wr.setCell ⟨w.heap.size, j, none⟩ (.bool true)) w.heap.size (.slice (some ⟨gl, 0, none⟩) M hc5) (H0) ∧ Ci w (wr.setCell ⟨w.heap.size, j, none⟩ (.bool true)) w.heap.size cs L lev ss (put q5 y.id) ∧ (∀ i ∈ ss, nd L i ≠ none → put q5 y.id i = true) ∧ (true = false → put q5 y.id = q ∧ P4 cs L lev q k ∧ ∀ t ∈ (H0).take (e + 1), nd L t ≠ none → q t = true) ∧ nq L (put q5 y.id) + bn true ≤ nq L q)
                                  clear ho hci hss hp hnq he hel htk hml hat hn hlt hj hyi hjl hq5
                                  go_wp2_with fail
                                  refine HAT.out.mono ?_
                                  rintro e' w' ⟨rfl, rfl⟩
                                  go_wp2
                                  go_roundw
                                  case rel => exact ⟨true, e + 1, put q5 y.id, rfl, rfl, HLE.out, HR.out⟩
                                  case measure => have := HLE.out; simp [Go.RowKit.intOf]; omega
                      · as_aux_lemma =>
                        have p3 : (ak1 == 3) = false := by simpa using k3
                        have p4 : (ak1 == 4) = false := by simpa using k4
                        have p5 : (ak1 == 5) = false := by simpa using k5
                        have HC := HC6
                        have HO := HO6
                        have HLM := hide (show H0.length = H0.length from rfl)
                        have HMB := hide (show H0.length ≤ 32 by have := HOL.out; omega)
                        have HLO := hide (show ∀ t, nd L t ≠ none → (t ∈ H0 ↔ t ∈ outs cs L lev xi) from fun t ht => by
                          rw [HOU.out]
                          (rw [show ldB ak1 lev = false by simp [ldB, k3, k4, k5]]; simp))
                        clear HC6 HO6 HOU h0
                        obtain ⟨M, hM⟩ : ∃ M, H0.length = M := ⟨_, rfl⟩
                        rw [hM] at HO HMB
                        replace HLM := hide hM
                        rw [hM]
                        clear hM
                        go_wp2_with fail
                        go_loopw [11, 142] (fun v u wr => ∃ (m : Bool) (e : Nat) (q5 : Int → Bool), v = .bool m ∧ u = .int .i64 e ∧ e ≤ M ∧ OL wr w.heap.size (.slice ha M hc5) (H0) ∧ Ci w wr w.heap.size cs L lev ss q5 ∧ (∀ i ∈ ss, nd L i ≠ none → q5 i = true) ∧ (m = false → q5 = q ∧ P4 cs L lev q k ∧ ∀ t ∈ (H0).take e, nd L t ≠ none → q t = true) ∧ nq L q5 + bn m ≤ nq L q) (fun _ u _ => M - (Go.RowKit.intOf u).toNat)
                        case atStart => exact ⟨m, 0, q', rfl, rfl, Nat.zero_le _, HO.out, HC.out, HS4.out, fun hm => ⟨(H4.out hm).1, (H4.out hm).2, by simp⟩, HN4.out⟩
                        case round =>
                          clear HO HC HS4 H4 HN4
                          obtain ⟨m5, e, q5, rfl, rfl, he, ho, hci, hss, hp, hnq⟩ := hrel
                          rcases Nat.eq_or_lt_of_le he with heq | hlt
                          · have heq2 := heq.symm
                            subst heq2
                            clear heq
                            have q8 : decide (((M : Nat) : Int) < ((M : Nat) : Int)) = false := by simp
                            have HR := hide (⟨hci, hss, fun hm => by
                              obtain ⟨e1, h4, h5⟩ := hp hm
                              refine ⟨e1, h4.step HX.out fun _ j hj hn => h5 j ?_ hn⟩
                              rw [HXE.out] at hj
                              rw [show (H0).take M = H0 from List.take_of_length_le (by rw [HLM.out]; exact Nat.le_refl _)]
                              exact (HLO.out j hn).2 hj, hnq⟩ : Ci w wr w.heap.size cs L lev ss q5 ∧ (∀ i ∈ ss, nd L i ≠ none → q5 i = true) ∧ (m5 = false → q5 = q ∧ P4 cs L lev q (k + 1)) ∧ nq L q5 + bn m5 ≤ nq L q)
                            clear ho hci hss hp hnq he
                            go_wp2
                            go_roundw
                            case rel => exact ⟨m5, k + 1, q5, rfl, rfl, HLT.out, HR.out⟩
                            case measure => have := HLT.out; simp [Go.RowKit.intOf]; omega
                          · have q8 : decide ((e : Int) < ((M : Nat) : Int)) = true := decide_eq_true (by omega)
                            have hel : e < (H0).length := by rw [HLM.out]; exact hlt
                            obtain ⟨gl, hla, -, -, -, hce⟩ := L9.own_at (L9.own_cast ho HLM.out) hlt
                            have hwe : IntKind.i64.wrap ((e : Int) + 1) = ((e + 1 : Nat) : Int) := (IntWalk.i64_in _ (by have := HMB.out; omega)).trans (by omega)
                            have htk : (H0).take (e + 1) = (H0).take e ++ [(H0).getD e 0] := by
                              rw [List.take_add_one, List.getElem?_eq_getElem hel, List.getD_eq_getElem?_getD, List.getElem?_eq_getElem hel]
                              rfl
                            have hml := getD_mem hel
                            obtain ⟨r0, hat, hr0⟩ := at_any (HP.out.grow hci.gw) ((H0).getD e 0)
                            generalize (H0).getD e 0 = t at *
                            have HAT := hide hat
                            have HLE := hide hlt
                            subst hla
                            rcases hr0 with ⟨rfl, hn⟩ | ⟨j, y, rfl, hj, hyi, hn, hjl⟩
                            · have HR := hide (⟨ho, hci, hss, fun hm => by
                                obtain ⟨e1, h4, h5⟩ := hp hm
                                refine ⟨e1, h4, fun u hu hun => ?_⟩
                                rw [htk] at hu
                                rcases List.mem_append.1 hu with hu | hu
                                · exact h5 u hu hun
                                · rw [List.mem_singleton.1 hu] at hun; exact absurd hn hun, hnq⟩ : OL wr w.heap.size (.slice (some ⟨gl, 0, none⟩) M hc5) (H0) ∧ Ci w wr w.heap.size cs L lev ss q5 ∧ (∀ i ∈ ss, nd L i ≠ none → q5 i = true) ∧ (m5 = false → q5 = q ∧ P4 cs L lev q k ∧ ∀ t ∈ (H0).take (e + 1), nd L t ≠ none → q t = true) ∧ nq L q5 + bn m5 ≤ nq L q)
                              clear ho hci hss hp hnq he hel htk hml hat hn hlt
                              go_wp2_with fail
                              refine HAT.out.mono ?_
                              rintro e' w' ⟨rfl, rfl⟩
                              go_wp2
                              go_roundw
                              case rel => exact ⟨m5, e + 1, q5, rfl, rfl, HLE.out, HR.out⟩
                              case measure => have := HLE.out; simp [Go.RowKit.intOf]; omega
                            · have hb5 := hci.bq.get hj
                              have hfz := hci.frozen j
                              have q9 : decide ((j : Int) ≥ 0) = true := decide_eq_true (by omega)
                              have q10 : j < N := by rw [← HNN.out]; exact hjl
                              cases hq5 : q5 y.id with
                              | true =>
                                rw [hq5] at hb5
                                have HR := hide (⟨ho, hci, hss, fun hm => by
                                  obtain ⟨e1, h4, h5⟩ := hp hm
                                  refine ⟨e1, h4, fun u hu hun => ?_⟩
                                  rw [htk] at hu
                                  rcases List.mem_append.1 hu with hu | hu
                                  · exact h5 u hu hun
                                  · rw [List.mem_singleton.1 hu, ← hyi, ← e1]; exact hq5, hnq⟩ : OL wr w.heap.size (.slice (some ⟨gl, 0, none⟩) M hc5) (H0) ∧ Ci w wr w.heap.size cs L lev ss q5 ∧ (∀ i ∈ ss, nd L i ≠ none → q5 i = true) ∧ (m5 = false → q5 = q ∧ P4 cs L lev q k ∧ ∀ t ∈ (H0).take (e + 1), nd L t ≠ none → q t = true) ∧ nq L q5 + bn m5 ≤ nq L q)
                                clear ho hci hss hp hnq he hel htk hml hat hn hlt hj hyi hjl hq5 hfz
                                go_wp2_with fail
                                refine HAT.out.mono ?_
                                rintro e' w' ⟨rfl, rfl⟩
                                go_wp2
                                go_roundw
                                case rel => exact ⟨m5, e + 1, q5, rfl, rfl, HLE.out, HR.out⟩
                                case measure => have := HLE.out; simp [Go.RowKit.intOf]; omega
                              | false =>
                                rw [hq5] at hb5
                                have HR := hide (⟨ho.chg ((Chg.refl _ _).set1 (g := w.heap.size) j (.bool true)) (fun k hk e => ho.ne hci.bq (by decide) (by rw [hk, e])), hci.put (Nat.le_refl _) HSR.out hj (.go HRX.out ((HLO.out y.id (by rw [hyi, hn]; simp)).1 (by rw [hyi]; exact hml)) (by rw [hyi, hn]; simp)), fun i hi hin => put_old (hss i hi hin), fun hm => (by cases hm), by
                                  have h1 := nq_put HSR.out (List.mem_of_getElem? hj) hq5
                                  have h2 : bn true = 1 := rfl
                                  omega⟩ : OL (wr.setCell ⟨w.heap.size, j, none⟩ (.bool true)) w.heap.size (.slice (some ⟨gl, 0, none⟩) M hc5) (H0) ∧ Ci w (wr.setCell ⟨w.heap.size, j, none⟩ (.bool true)) w.heap.size cs L lev ss (put q5 y.id) ∧ (∀ i ∈ ss, nd L i ≠ none → put q5 y.id i = true) ∧ (true = false → put q5 y.id = q ∧ P4 cs L lev q k ∧ ∀ t ∈ (H0).take (e + 1), nd L t ≠ none → q t = true) ∧ nq L (put q5 y.id) + bn true ≤ nq L q)
                                clear ho hci hss hp hnq he hel htk hml hat hn hlt hj hyi hjl hq5
                                go_wp2_with fail
                                refine HAT.out.mono ?_
                                rintro e' w' ⟨rfl, rfl⟩
                                go_wp2
                                go_roundw
                                case rel => exact ⟨true, e + 1, put q5 y.id, rfl, rfl, HLE.out, HR.out⟩
                                case measure => have := HLE.out; simp [Go.RowKit.intOf]; omega
        · have q1 : decide ((k : Int) < N) = true := decide_eq_true (by omega)
          obtain ⟨x, hx⟩ : ∃ x, L[k]? = some x := ⟨_, List.getElem?_eq_getElem (by rw [HNN.out]; exact hlt)⟩
          have hw : IntKind.i64.wrap ((k : Int) + 1) = ((k + 1 : Nat) : Int) := (IntWalk.i64_in _ (by have := HL.out; omega)).trans (by omega)
          have hb := hci.bq.get hx
          have hfz := hci.frozen k
          obtain ⟨gn, rfl, -, -, -, -, -, -, -, x4⟩ := HRF.out.at2 hx
          have c1 := hci.gw.cell HC1.out
          replace x4 := hci.gw.cell x4
          have HLT := hide hlt
          have hst := take_step hx
          have hyes : (q x.id = true ∨ (4 ≤ lev ∧ x.fin = true)) → Ci w (wr.setCell ⟨w.heap.size, k, none⟩ (.bool true)) w.heap.size cs L lev ss (put q x.id) ∧ (∀ i ∈ zs, nd L i ≠ none → put q x.id i = true) ∧ (4 ≤ lev → ∀ y ∈ L.take (k + 1), y.fin = true → put q x.id y.id = true) := fun hor => by
            have hnx : nd L x.id ≠ none := by rw [nd_mem HSR.out (List.mem_of_getElem? hx)]; simp
            refine ⟨hci.put (Nat.le_refl _) HSR.out hx ?_, fun i hi hn => put_old (hzq i hi hn), fun h4 y hy hyf => ?_⟩
            · rcases hor with h1 | ⟨h4, h1⟩
              · exact hci.rc _ h1
              · refine .st ?_ hnx
                rw [← HSE.out]
                unfold srcC
                rw [if_pos h4]
                exact List.mem_append_right _ ((fins_mem HSR.out).2 ⟨x, nd_mem HSR.out (List.mem_of_getElem? hx), h1⟩)
            · rw [hst] at hy
              rcases List.mem_append.1 hy with hy | hy
              · exact put_old (hfq h4 y hy hyf)
              · rw [List.mem_singleton.1 hy]; exact put_same _ _
          have hno : q x.id = false → (4 ≤ lev → x.fin = false) → Ci w (wr.setCell ⟨w.heap.size, k, none⟩ (.bool false)) w.heap.size cs L lev ss q ∧ (∀ i ∈ zs, nd L i ≠ none → q i = true) ∧ (4 ≤ lev → ∀ y ∈ L.take (k + 1), y.fin = true → q y.id = true) := fun h1 h2 => by
            refine ⟨hci.keep (Nat.le_refl _) hx h1, hzq, fun h4 y hy hyf => ?_⟩
            rw [hst] at hy
            rcases List.mem_append.1 hy with hy | hy
            · exact hfq h4 y hy hyf
            · rw [List.mem_singleton.1 hy, h2 h4] at hyf; cases hyf
          cases hq : q x.id with
          | true =>
            have HY := hide (hyes (.inl hq))
            rw [hq] at hb
            clear hci hzq hfq hyes hno hx hst hk hq
            go_wp2
            go_roundw
            case rel => exact ⟨k + 1, _, HLT.out, rfl, HY.out⟩
            case measure => have := HLT.out; simp [Go.RowKit.intOf]; omega
          | false =>
            rw [hq] at hb
            by_cases h4 : 4 ≤ lev
            · have q2 : decide (lev ≥ 4) = true := decide_eq_true h4
              cases hf : x.fin with
              | true =>
                have HY := hide (hyes (.inr ⟨h4, hf⟩))
                rw [hf] at x4
                clear hci hzq hfq hyes hno hx hst hk hq hf h4
                go_wp2
                go_roundw
                case rel => exact ⟨k + 1, _, HLT.out, rfl, HY.out⟩
                case measure => have := HLT.out; simp [Go.RowKit.intOf]; omega
              | false =>
                have HY := hide (hno hq fun _ => hf)
                rw [hf] at x4
                clear hci hzq hfq hyes hno hx hst hk hq hf h4
                go_wp2
                go_roundw
                case rel => exact ⟨k + 1, _, HLT.out, rfl, HY.out⟩
                case measure => have := HLT.out; simp [Go.RowKit.intOf]; omega
            · have q2 : decide (lev ≥ 4) = false := decide_eq_false h4
              have HY := hide (hno hq fun h => absurd h h4)
              clear hci hzq hfq hyes hno hx hst hk hq h4 x4
              go_wp2
              go_roundw
              case rel => exact ⟨k + 1, _, HLT.out, rfl, HY.out⟩
              case measure => have := HLT.out; simp [Go.RowKit.intOf]; omega
    · have q1 : decide ((k : Int) < n) = true := decide_eq_true (by omega)
      obtain ⟨xz, rfl, hcz⟩ := HZ.out.at_ hlt
      replace hcz := hci.gw.cell hcz
      have hw : IntKind.i64.wrap ((k : Int) + 1) = ((k + 1 : Nat) : Int) := (IntWalk.i64_in _ (by have := HL0.out; omega)).trans (by omega)
      have hkz : k < zs.length := by rw [HZL.out]; exact hlt
      have hzs : zs.take (k + 1) = zs.take k ++ [zs.getD k 0] := by
        rw [List.take_add_one, List.getElem?_eq_getElem hkz, List.getD_eq_getElem?_getD, List.getElem?_eq_getElem hkz]
        rfl
      have hmem : zs.getD k 0 ∈ ss := by
        rw [← HSE.out]
        unfold srcC
        split
        · exact List.mem_append_left _ (getD_mem hkz)
        · exact getD_mem hkz
      have HLT := hide hlt
      obtain ⟨r0, hat, hr0⟩ := at_any (HP.out.grow hci.gw) (zs.getD k 0)
      generalize zs.getD k 0 = t at *
      have HAT := hide hat
      rcases hr0 with ⟨rfl, hn⟩ | ⟨j, x, rfl, hj, hxi, hn, hjl⟩
      · have HC := hide hci
        have HQ := hide (show ∀ i ∈ zs.take (k + 1), nd L i ≠ none → q i = true from fun i hi hni => by
          rw [hzs] at hi
          rcases List.mem_append.1 hi with hi | hi
          · exact hzq i hi hni
          · rw [List.mem_singleton.1 hi] at hni; exact absurd hn hni)
        clear hci hzq hk hkz hzs hmem hat hn hlt
        go_wp2_with fail
        refine HAT.out.mono ?_
        rintro e w1 ⟨rfl, rfl⟩
        go_wp2
        go_roundw
        case rel => exact ⟨k + 1, q, HLT.out, rfl, HC.out, HQ.out⟩
        case measure => have := HLT.out; simp [Go.RowKit.intOf]; omega
      · have hb := hci.bq.get hj
        have hfz := hci.frozen j
        have q2 : decide ((j : Int) ≥ 0) = true := decide_eq_true (by omega)
        have q3 : j < N := by rw [← HNN.out]; exact hjl
        have HC := hide (hci.put (Nat.le_refl _) HSR.out hj (.st (by rw [hxi]; exact hmem) (by rw [hxi, hn]; simp)))
        have HQ := hide (show ∀ i ∈ zs.take (k + 1), nd L i ≠ none → put q x.id i = true from fun i hi hni => by
          rw [hzs] at hi
          rcases List.mem_append.1 hi with hi | hi
          · exact put_old (hzq i hi hni)
          · rw [List.mem_singleton.1 hi, ← hxi]; exact put_same _ _)
        clear hci hzq hk hkz hzs hmem hat hn hlt hxi hj hjl
        go_wp2_with fail
        refine HAT.out.mono ?_
        rintro e w1 ⟨rfl, rfl⟩
        go_wp2
        go_roundw
        case rel => exact ⟨k + 1, _, HLT.out, rfl, HC.out, HQ.out⟩
        case measure => have := HLT.out; simp [Go.RowKit.intOf]; omega
end
end Go.Proofs.YtjfpjnhlnoiekaaGreat.L10
