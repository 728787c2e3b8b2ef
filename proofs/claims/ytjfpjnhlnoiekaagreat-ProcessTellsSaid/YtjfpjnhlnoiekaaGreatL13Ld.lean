/- The plain answer of reference processing: what its Run answers. Conditions: at most 40 nodes, at most 1000000 roots. -/
import Derived.Test.YtjfpjnhlnoiekaaGreatL13Le
namespace Go.Proofs.YtjfpjnhlnoiekaaGreat.L13
open Go.ChangeShapes Go.WideShapes Go.ChangeAt Go.RowKit
open Go.Proofs.YtjfpjnhlnoiekaaGreat.L9 (Nd nd GS RG Rf Lok In64 Srt nd_some nd_none nd_mem own_rd own_cast ptr hasB hldX aimX aim_r wpList_app)
open Go.Proofs.YtjfpjnhlnoiekaaGreat.L10 (Rc IsRc outs clL fins fnB OL clL_srt close_any clL_le rc_nil srcC Pg nq bn ol_nil app_int app_more)
open Go.Proofs.YtjfpjnhlnoiekaaGreat.graphKeeps (Clo nd_ne)
open Go.Proofs.YtjfpjnhlnoiekaaGreat.L5 (Cl clAt isRf IsCls)
set_option linter.unusedVariables false
section
variable {w W W' wr : World} {z qg len cap bk kn kc zn zc : Nat} {a ka za : Option Addr} {ks zs ws : List Int} {T : Nat → Prop} {cs : List Cl} {L : List Nd} {K p1 p2 q q' : Int → Bool} {va vl : Value} {i : Int}
/-- The first loop in memory: vl the live, va who were asked. -/
structure Fw (w wr : World) (cs : List Cl) (L : List Nd) (K : Int → Bool) (zs : List Int) (vl va : Value) (q : Int → Bool) (ws : List Int) : Prop where
  g : Grow w wr
  l : OL wr w.heap.size vl (clL L q)
  o : OL wr w.heap.size va ws
  ne : ∀ k, va.ownBlock = some k → vl.ownBlock ≠ some k
  f : Fa cs L K zs q ws
  b : Blk wr w.heap.size 44 [.slice none 0 0, .slice none 0 0, .slice none 0 0]
theorem Fw.grow (h : Fw w wr cs L K zs vl va q ws) (c : Grow wr W) : Fw w W cs L K zs vl va q ws := ⟨h.g.trans c, h.l.grow c, h.o.grow c, h.ne, h.f, h.b.chg c id⟩
theorem Fw.wl (h : Fw w wr cs L K zs vl va q ws) : ws.length ≤ L.length := by have := h.f.n; omega
theorem Fw.in_ (h : Fw w wr cs L K zs vl va q ws) (ho : Lok cs L) : ∀ i ∈ ws, In64 i := fun i hi => by
  obtain ⟨x, hx⟩ := Option.ne_none_iff_exists'.1 (h.f.nd_ (h.f.a i hi).1)
  obtain ⟨hxL, rfl⟩ := nd_some hx
  exact (ho.2 x hxL).id2
/-- What every round leaves behind it. -/
def Asd (cs : List Cl) (L : List Nd) (q : Int → Bool) (ws l : List Int) : Prop := ∀ i ∈ l, (aimX cs L i).2 = 3 → nd L (aimX cs L i).1 ≠ none → q (aimX cs L i).1 = false → hasB ws i = true
/-- One more is asked. -/
theorem Fw.ask (h : Fw w wr cs L K zs vl va q ws) (ho : Lok cs L) (h40 : L.length ≤ 40) (hi : q i = true) (hn : hasB ws i = false) {y : Addr} {yc : Nat} (hy : L1.Rd wr (some y) 1 [i]) :
    ∃ v' W', (Builtin.append_ #[27, 27] 27 #[va, .slice (some y) 1 yc]).run Tryz.prog wr = .ok v' W' ∧ Grow w W' ∧ OL W' w.heap.size v' (ws ++ [i]) ∧ OL W' w.heap.size vl (clL L q) ∧ (∀ k, v'.ownBlock = some k → vl.ownBlock ≠ some k) ∧ Blk W' w.heap.size 44 [.slice none 0 0, .slice none 0 0, .slice none 0 0] := by
  have hws := h.wl
  obtain ⟨v', W', hr, ho', hg, hv⟩ := app_int (c := yc) h.o h.g.size hy (by omega)
  refine ⟨v', W', hr, Chg.grownOwn h.g h.o (Nat.le_refl _) hg, ho', World.ownsRow.kept h.l hg (own_apart h.ne), fun k hk => ?_, h.b.grownOwn hg fun e => (h.o.ne h.b (by decide)) e.symm⟩
  rcases hv with e | e
  · exact h.ne k (by rw [← e]; exact hk)
  · intro e2
    have := ol_lt h.l e2
    rw [e] at hk
    injection hk with hk
    omega
theorem Asd.step {l : List Int} (h : Asd cs L q ws l) (hi : (aimX cs L i).2 = 3 → nd L (aimX cs L i).1 ≠ none → q (aimX cs L i).1 = false → hasB ws i = true) : Asd cs L q ws (l ++ [i]) := fun j hj => by
  rcases List.mem_append.1 hj with hj | hj
  · exact h j hj
  · rw [List.mem_singleton.1 hj]; exact hi
theorem Asd.more {l : List Int} (h : Asd cs L q ws l) (i : Int) : Asd cs L q (ws ++ [i]) l := fun j hj h1 h2 h3 => by
  rw [has_snoc]
  exact L10.put_old (h j hj h1 h2 h3)
/-- The outer loop. -/
def Fo (w : World) (cs : List Cl) (L : List Nd) (K : Int → Bool) (zs : List Int) (gg : Nat) (vl va vm : Value) (wr : World) : Prop :=
  ∃ (m : Bool) (q : Int → Bool) (ws : List Int), vm = .bool m ∧ Fw w wr cs L K zs vl va q ws ∧ (m = false → Asd cs L q ws (clL L q)) ∧ 2 * nq L q + bn m ≤ gg
/-- A copy of a list, and one number more. -/
theorem cat2 {n c : Nat} {xs : List Int} (hs : L1.Rd W a n xs) (hn : n ≤ 1000) (t : Int) :
    ∃ v1 W1 a2 c2 W2, (Builtin.append_ #[27, 27] 27 #[.slice (some ⟨W.heap.size, 0, none⟩) 0 0, .slice a n c]).run Tryz.prog (W.alloc (.cells #[] 3)) = .ok v1 W1 ∧
      (Builtin.append_ #[27, 27] 27 #[v1, .slice (some ⟨W1.heap.size, 0, none⟩) 1 1]).run Tryz.prog (W1.alloc (.cells #[.int .i64 t] 3)) = .ok (.slice a2 (n + 1) c2) W2 ∧ Grow W W2 ∧ L1.Rd W2 a2 (n + 1) (xs ++ [t]) := by
  have hbN := Grow.box W (.cells (ints []).toArray 3)
  obtain ⟨v1, W1, hr1, ho1, cg1, -⟩ := app_more (c0 := c) hbN (OL.lit W [] (by simp)) (L9.L1.Rd.chg hs hbN fun _ _ => id) (by simp; omega)
  rw [List.nil_append] at ho1
  have hbM := Grow.box W1 (.cells [.int .i64 t].toArray 3)
  obtain ⟨v2, W2, hr2, ho2, cg2, -⟩ := app_more (c0 := 1) (cg1.trans hbM) (OL.grow ho1 hbM) (L1.Rd.of_blk (Blk.new W1 3 [.int .i64 t]) rfl : L1.Rd _ _ 1 [t]) (by have := hs.1; omega)
  obtain ⟨a2, c2, rfl⟩ := own_len ho2
  have hln : (xs ++ [t]).length = n + 1 := by rw [List.length_append, hs.1]; rfl
  have hrd2 := own_rd ho2
  rw [hln] at hr2 hrd2
  exact ⟨v1, W1, a2, c2, W2, hr1, hr2, cg2, hrd2⟩
theorem cp1 {n c : Nat} {xs : List Int} (hs : L1.Rd W a n xs) (hn : n ≤ 1000) :
    ∃ a1 c1 W1, (Builtin.append_ #[27, 27] 27 #[.slice (some ⟨W.heap.size, 0, none⟩) 0 0, .slice a n c]).run Tryz.prog (W.alloc (.cells #[] 3)) = .ok (.slice a1 n c1) W1 ∧ Grow W W1 ∧ OL W1 W.heap.size (.slice a1 n c1) xs := by
  have hbN := Grow.box W (.cells (ints []).toArray 3)
  obtain ⟨v1, W1, hr1, ho1, cg1, -⟩ := app_more (c0 := c) hbN (OL.lit W [] (by simp)) (L9.L1.Rd.chg hs hbN fun _ _ => id) (by simp; omega)
  rw [List.nil_append] at ho1
  obtain ⟨a2, c2, rfl⟩ := own_len ho1
  have hl := hs.1
  subst hl
  exact ⟨a2, c2, W1, hr1, cg1, ho1⟩
set_option maxRecDepth 100000 in
set_option maxHeartbeats 8000000 in
theorem rrun_any {l1 l2 l3 : List Int} {n1 n2 n3 : Nat} (h : Pg w z T qg a len cap cs L) (hcl : Clo L) (h40 : L.length ≤ 40) (hk : Nl w bk ka kn kc ks) (hK : ∀ i, nd L i ≠ none → hasB ks i = K i) (hz : L1.Rd w za zn zs) (hzn : zn ≤ 1000000) (hR : Rs cs L K zs p1 p2)
    (e1 : clL L p2 = l1) (e2 : ces cs L p1 p2 = l2) (e3 : clL L (fi L p1) = l3) (m1 : l1.length = n1) (m2 : l2.length = n2) (m3 : l3.length = n3) :
    Calls Tryz.prog 9 #[ptr qg, .slice ka kn kc, .slice za zn zc] w (RanL w l1 l2 l3 n1 n2 n3) := by
  have gB := Grow.box w (.cells [.slice none 0 0, .slice none 0 0, .slice none 0 0].toArray 44)
  have hbx := Blk.new w 44 [.slice none 0 0, .slice none 0 0, .slice none 0 0]
  obtain ⟨q0, hq0⟩ := L10.ex_rc cs L 1 zs
  obtain ⟨vN, rN, dN, owN, hrf⟩ := h.r
  obtain ⟨gv, gc, rfl⟩ := hrf.val
  have HRF := hide hrf
  obtain ⟨G, hG⟩ : ∃ G, L.length = G := ⟨_, rfl⟩
  have HG := hide hG
  have HN1C := hide (show w.cell? ⟨qg, 1, none⟩ = some (.slice gv G gc) by rw [← hG]; exact hrf.cell1)
  clear hrf hG
  have HP := hide h
  have HH := hide (⟨hcl, h40⟩ : Clo L ∧ L.length ≤ 40)
  have HKL := hide hk
  have HK := hide hK
  have HR := hide hR
  have HEM := hide (⟨e1, e2, e3, m1, m2, m3⟩ : clL L p2 = l1 ∧ ces cs L p1 p2 = l2 ∧ clL L (fi L p1) = l3 ∧ l1.length = n1 ∧ l2.length = n2 ∧ l3.length = n3)
  have HBX := hide hbx
  have HGB := hide gB
  have HC0 := hide (close_any (c := zc) (h.grow gB) (L9.L1.Rd.chg hz gB fun _ _ => id) hzn (show IsRc cs L 1 (srcC L 1 zs) q0 from hq0))
  have HF0 := hide (Fa.first (K := K) hq0)
  clear h hcl h40 hk hK hz hzn hR e1 e2 e3 m1 m2 m3 gB hbx hq0
  go_enter Tryz.func9, Tryz.ntmps9
  go_wp2_with fail
  generalize w.alloc (.cells #[.slice none 0 0, .slice none 0 0, .slice none 0 0] 44) = wB at *
  refine HC0.out.mono ?_
  rintro e w1 ⟨a1, c1, rfl, o1, g1⟩
  have HFW := hide (⟨HGB.out.trans g1, o1.lower HGB.out.size, ol_nil _ _, fun k hk => (by cases hk), HF0.out, HBX.out.chg g1 id⟩ : Fw w w1 cs L K zs (.slice a1 (clL L q0).length c1) (.slice none 0 0) q0 [])
  clear o1 g1 HC0 HF0 HBX HGB
  go_wp2_with fail
  go_loopg [7, 8, 9] (2 * nq L q0 + 1) (fun gg vl va vm wr => Fo w cs L K zs gg vl va vm wr)
  case atStart => exact ⟨true, q0, [], rfl, HFW.out, fun h => (by cases h), Nat.le_refl _⟩
  case round =>
    clear HFW
    obtain ⟨m, q, ws, rfl, hfw, has, hgk⟩ := hrel
    obtain ⟨N, hN⟩ : ∃ N, (clL L q).length = N := ⟨_, rfl⟩
    have hN40 : N ≤ 40 := by have := clL_le L q; have := HH.out.2; omega
    obtain ⟨al, cl2, hv, -⟩ := hfw.l.form
    rw [hN] at hv
    subst hv
    obtain ⟨aa, ca, rfl, -⟩ := hfw.o.form
    have HN := hide (⟨hN, hN40⟩ : (clL L q).length = N ∧ N ≤ 40)
    have HGK := hide hgk
    have HFW := hide hfw
    cases m with
    | false =>
      have hp := (hfw.f.done fun i hi h3 hn hq => has rfl i ((clL_iff HP.out.o.1).2 ⟨hfw.f.nd_ hi, hi⟩) h3 hn hq).eq HR.out.a
      subst hp
      have gX := Grow.box wr (.cells [.slice none 0 0, .slice none 0 0, .slice none 0 0].toArray 44)
      have HBX := hide (⟨hfw.g.trans gX, hfw.b.chg gX id, hfw.b.lt, Blk.new wr _ _, ol_nil _ _, ol_nil _ _, Pt.nil⟩ : Bx w wr.heap.size (wr.alloc (.cells [.slice none 0 0, .slice none 0 0, .slice none 0 0].toArray 44)) (.slice none 0 0) (.slice none 0 0) [] [])
      have HOL := hide (⟨hfw.l.grow gX, Pt.nil, Pt.nil⟩ : Ot w (wr.alloc (.cells [.slice none 0 0, .slice none 0 0, .slice none 0 0].toArray 44)) (.slice none 0 0) (.slice none 0 0) (.slice al N cl2) (clL L q))
      have HNI := hide (fun i (hi : q i = true) => hfw.f.nd_ hi)
      clear has hfw hgk hN hN40 gX HFW
      go_wp2_with fail
      generalize wr.alloc (.cells #[.slice none 0 0, .slice none 0 0, .slice none 0 0] 44) = wX at *
      generalize wr.heap.size = B at *
      go_loopw [84] (fun vi wr => ∃ (k : Nat) (v2 : Value), k ≤ N ∧ vi = .int .i64 k ∧ Bx w B wr v2 (.slice none 0 0) (((clL L q).take k).filter (e1 cs L q)) [] ∧ Ot w wr v2 (.slice none 0 0) (.slice al N cl2) (clL L q)) (fun u _ => N - (Go.RowKit.intOf u).toNat)
      case atStart => exact ⟨0, _, Nat.zero_le _, rfl, HBX.out, HOL.out⟩
      case round =>
        clear HBX HOL
        obtain ⟨k, v2, hk, rfl, hb, ho⟩ := hrel
        rcases Nat.eq_or_lt_of_le hk with hke | hlt
        · have hke2 := hke.symm
          subst hke2
          clear hke
          have q2 : decide ((N : Int) < N) = false := by simp
          rw [← HN.out.1, List.take_length] at hb
          have hrl := own_rd (own_cast ho.o HN.out.1)
          obtain ⟨a4, c4, W4, hr4, hg4, ho4⟩ := cp1 (c := cl2) hrl (by have := HN.out.2; omega)
          have HB := hide (hb.grow hg4)
          have HO := hide (ho.grow hg4)
          have HA := hide (⟨ho4.lower hb.g.size, fun kk h1 h2 => by have h3 := ol_lt hb.o2 h1; have h4 := ol_ge ho4 h2; omega, Pt.nil⟩ : Ot w W4 v2 (.slice none 0 0) (.slice a4 N c4) (clL L q))
          have HAL := hide (fun kk h1 h2 => by have h3 := ol_lt ho.o h2; have h4 := ol_ge ho4 h1; omega : Pt (.slice a4 N c4) (.slice al N cl2))
          have KA := hide hr4
          have n1c := Grow.cell (hb.g.trans hg4) HN1C.out
          obtain ⟨E1, hE1⟩ : ∃ E1, (clL L q).filter (e1 cs L q) = E1 := ⟨_, rfl⟩
          have HE1 := hide hE1
          rw [hE1] at HB
          clear hb ho hk hr4 hg4 ho4 hrl hE1
          go_wp2_with (at_builtin; refine wpList_app rfl _ _ 27 rfl (.slice (some ⟨wr.heap.size, 0, none⟩) 0 0) (.slice al N cl2) (.slice a4 N c4) _ W4 rfl rfl KA.out ?_)
          clear n1c KA
          go_loopw [20, 120] (fun va vi wr => ∃ (k : Nat) (v3 : Value), k ≤ G ∧ vi = .int .i64 k ∧ Bx w B wr v2 v3 E1 (clL (L.take k) (fi L q)) ∧ Ot w wr v2 v3 (.slice al N cl2) (clL L q) ∧ Ot w wr v2 v3 va (clL L q ++ clL (L.take k) (fi L q)) ∧ Pt va (.slice al N cl2)) (fun _ u _ => G - (Go.RowKit.intOf u).toNat)
          case atStart => exact ⟨0, _, Nat.zero_le _, rfl, HB.out, HO.out, by simpa [clL] using HA.out, HAL.out⟩
          case round =>
            clear HB HO HA HAL
            obtain ⟨k, v3, hk, rfl, hb, ho, ha, hal⟩ := hrel
            rcases Nat.eq_or_lt_of_le hk with hke | hlt
            · have hke2 := hke.symm
              subst hke2
              clear hke
              have q4 : decide ((G : Int) < G) = false := by simp
              have htk : L.take G = L := by rw [← HG.out, List.take_length]
              rw [htk] at hb ha
              obtain ⟨F, hF⟩ : ∃ F, clL L (fi L q) = F := ⟨_, rfl⟩
              rw [hF] at hb ha
              have HF := hide hF
              obtain ⟨A, hA⟩ : ∃ A, (clL L q ++ F).length = A := ⟨_, rfl⟩
              have hA80 : A ≤ 1000 := by
                have h1 := clL_le L (fi L q)
                have h2 := HN.out.1
                have h3 := HN.out.2
                have h4 := HH.out.2
                rw [List.length_append] at hA
                rw [← hF] at hA
                omega
              obtain ⟨av, ac, hv, -⟩ := ha.o.form
              rw [hA] at hv
              subst hv
              have hrb : IsRc cs L 1 (srcC L 1 (clL L q ++ F)) p2 := by rw [← hF]; exact HR.out.b
              have hcls := close_any (c := ac) (HP.out.grow hb.g) (own_rd (own_cast ha.o hA)) (by omega) hrb
              obtain ⟨N2, hN2⟩ : ∃ N2, (clL L p2).length = N2 := ⟨_, rfl⟩
              rw [hN2] at hcls
              have HN2 := hide (⟨hN2, by rw [← hN2]; have := clL_le L p2; have := HH.out.2; omega⟩ : (clL L p2).length = N2 ∧ N2 ≤ 40)
              have HCL := hide hcls
              have HB := hide hb
              clear hb ho ha hal hk htk hF hA hA80 hrb hcls hN2
              go_wp2_with fail
              refine HCL.out.mono ?_
              rintro e w5 ⟨al5, cl5, rfl, o5, g5⟩
              have HB5 := hide (HB.out.grow g5)
              have HO5 := hide (⟨o5.lower HB.out.g.size, fun kk h1 h2 => by have h3 := ol_lt HB.out.o2 h1; have h4 := ol_ge o5 h2; omega, fun kk h1 h2 => by have h3 := ol_lt HB.out.o3 h1; have h4 := ol_ge o5 h2; omega⟩ : Ot w w5 v2 v3 (.slice al5 N2 cl5) (clL L p2))
              have HN5 := hide (fun i (hi : p2 i = true) => HR.out.n2 hi)
              clear o5 g5 HCL HB
              go_wp2_with fail
              go_loopw [174] (fun vi wr => ∃ (k : Nat) (v2 : Value), k ≤ N2 ∧ vi = .int .i64 k ∧ Bx w B wr v2 v3 (E1 ++ ((clL L p2).take k).filter (e2 cs L q p2)) F ∧ Ot w wr v2 v3 (.slice al5 N2 cl5) (clL L p2)) (fun u _ => N2 - (Go.RowKit.intOf u).toNat)
              case atStart => exact ⟨0, v2, Nat.zero_le _, rfl, by rw [List.take_zero, List.filter_nil, List.append_nil]; exact HB5.out, HO5.out⟩
              case round =>
                clear HB5 HO5
                obtain ⟨k, v2, hk, rfl, hb, ho⟩ := hrel
                rcases Nat.eq_or_lt_of_le hk with hke | hlt
                · have hke2 := hke.symm
                  subst hke2
                  clear hke
                  have q2 : decide ((N2 : Int) < N2) = false := by simp
                  rw [← HN2.out.1, List.take_length] at hb
                  obtain ⟨E2, hE2⟩ : ∃ E2, E1 ++ (clL L p2).filter (e2 cs L q p2) = E2 := ⟨_, rfl⟩
                  rw [hE2] at hb
                  have HE2 := hide hE2
                  have HB := hide hb
                  have HO := hide ho
                  clear hb ho hk hE2
                  go_wp2_with fail
                  go_loopw [214] (fun vi wr => ∃ (k : Nat) (v2 : Value), k ≤ N2 ∧ vi = .int .i64 k ∧ Bx w B wr v2 v3 (E2 ++ ((clL L p2).take k).filter (e3 cs L p2)) F ∧ Ot w wr v2 v3 (.slice al5 N2 cl5) (clL L p2)) (fun u _ => N2 - (Go.RowKit.intOf u).toNat)
                  case atStart => exact ⟨0, v2, Nat.zero_le _, rfl, by rw [List.take_zero, List.filter_nil, List.append_nil]; exact HB.out, HO.out⟩
                  case round =>
                    clear HB HO
                    obtain ⟨k, v2, hk, rfl, hb, ho⟩ := hrel
                    rcases Nat.eq_or_lt_of_le hk with hke | hlt
                    · have hke2 := hke.symm
                      subst hke2
                      clear hke
                      have q2 : decide ((N2 : Int) < N2) = false := by simp
                      rw [← HN2.out.1, List.take_length] at hb
                      obtain ⟨e1', e2', e3', m1, m2, m3⟩ := HEM.out
                      have hCC : E2 ++ (clL L p2).filter (e3 cs L p2) = l2 := by
                        rw [← HE2.out, ← HE1.out, fil_sub HP.out.o.1 (fun i h => (e1_iff.1 h).1.1), fil_sub HP.out.o.1 (fun i h => (e2_iff.1 h).1.1), fil_sub HP.out.o.1 (fun i h => (e3_iff.1 h).1.1), ← e2']
                        rfl
                      have hFF : F = l3 := by rw [← HF.out, e3']
                      rw [hCC, hFF] at hb
                      have hoo := ho.o
                      have hN1 : N2 = n1 := by rw [← HN2.out.1, e1', m1]
                      have hm1 : l1.length = N2 := by rw [hN1, m1]
                      rw [e1'] at hoo
                      obtain ⟨a2, c2, hv, -⟩ := hb.o2.form
                      rw [m2] at hv
                      subst hv
                      obtain ⟨a3, c3, hv, -⟩ := hb.o3.form
                      rw [m3] at hv
                      subst hv
                      have hend := fun (WF : World) hW => rr_end (WF := WF) hb hoo hm1 m2 m3 (by rw [← e1']; exact cl_in64 HP.out.o.2 _) (by rw [← e2']; exact ces_in HP.out.o.2) (by rw [← e3']; exact cl_in64 HP.out.o.2 _) (by have := HN2.out.2; omega) (by rw [← m2, ← e2']; have := ces_len cs L q p2; have := HH.out.2; omega) (by rw [← m3, ← e3']; have := clL_le L (fi L q); have := HH.out.2; omega) hW
                      have HEN := hide hend
                      have hB0 := hb.b.set_ 0 (.slice al5 N2 cl5)
                      have k0 := hb.b.cell 0
                      have f0 := hb.b.frozen 0
                      have j0 := hB0.cell 0
                      have j1 := hB0.cell 1
                      have j2 := hB0.cell 2
                      have hne : w.heap.size ≠ B := by have := hb.lt; omega
                      have hr0 := hb.r.far (p := ⟨B, 0, none⟩) hne (.slice al5 N2 cl5)
                      have t0 := hr0.cell 0
                      have t1 := hr0.cell 1
                      have t2 := hr0.cell 2
                      have u0 := hr0.frozen 0
                      have u1 := hr0.frozen 1
                      have u2 := hr0.frozen 2
                      have HN1 := hide hN1
                      clear hb ho hoo hend hCC hFF hm1 m1 m2 m3 e1' e2' e3' hk hN1
                      go_wp2
                      obtain ⟨⟨z0, z1, z2⟩, hran⟩ := HEN.out _ rfl
                      first
                        | (go_returns; rw [← HN1.out]; exact hran)
                        | (refine bodyPost_ret (by simp [results, Tryz.results9, go_sem, z0, z1, z2]; try rfl) rfl ?_; rw [← HN1.out]; exact hran)
                    · have q2 : decide ((k : Int) < N2) = true := decide_eq_true (by omega)
                      have hw : IntKind.i64.wrap ((k : Int) + 1) = ((k + 1 : Nat) : Int) := (IntWalk.i64_in _ (by have := HN2.out.2; omega)).trans (by omega)
                      have hnl : Nl wr w.heap.size al5 N2 cl5 (clL L p2) := ⟨ho.o, HN2.out.1, cl_in64 HP.out.o.2 _, by have := HN2.out.2; omega⟩
                      have hfl : (E2 ++ ((clL L p2).take k).filter (e3 cs L p2)).length ≤ 1000 := by
                        have h1 := List.length_filter_le (e3 cs L p2) ((clL L p2).take k)
                        have h2 := HN2.out.1
                        have h3 := HN2.out.2
                        have h4 := List.length_filter_le (e1 cs L q) (clL L q)
                        rw [HE1.out, HN.out.1] at h4
                        have h5 := HN.out.2
                        have h6 := List.length_filter_le (e2 cs L q p2) (clL L p2)
                        have h7 := congrArg List.length HE2.out
                        rw [List.length_append] at h7
                        rw [List.length_take] at h1
                        rw [List.length_append]
                        omega
                      obtain ⟨M, hM⟩ : ∃ M, (E2 ++ ((clL L p2).take k).filter (e3 cs L p2)).length = M := ⟨_, rfl⟩
                      obtain ⟨a2, c2, hv, -⟩ := hb.o2.form
                      rw [hM] at hv
                      subst hv
                      obtain ⟨g, rfl, hx, hi64, hmem⟩ := hnl.at_ hlt
                      have htk := take_snoc' (xs := clL L p2) (k := k) (by rw [HN2.out.1]; exact hlt)
                      have hLO := lost_any (HP.out.grow hb.g) hnl ((clL L p2).getD k 0)
                      generalize (clL L p2).getD k 0 = i at *
                      have hqi := ((clL_iff HP.out.o.1).1 hmem).2
                      have hls := lsB_los HP.out.o HH.out.1 (fun i hi => HN5.out i hi) hqi
                      have HST := hide (fil_step (e3 cs L p2) htk)
                      have hp2 := fun (W : World) (c : Grow wr W) => (hb.grow c).put2 hfl i
                      rw [hM] at hp2
                      obtain ⟨kd, hkd⟩ : ∃ kd, (aimX cs L i).2 = kd := ⟨_, rfl⟩
                      obtain ⟨u, hu⟩ : ∃ u, lsB cs L (clL L p2) i = u := ⟨_, rfl⟩
                      have he3 : e3 cs L p2 i = (u && decide (kd = 5)) := by unfold e3; rw [← hls, hu, hkd]
                      rw [hu, hkd] at hLO
                      have HLT := hide hlt
                      have HB := hide hb
                      have HO := hide ho
                      have HE3 := hide he3
                      have HLO := hide hLO
                      have HP2 := hide hp2
                      have HCC := hide (fun (W : World) (c : Grow wr W) => (⟨(hb.grow c).b.cell 1, Grow.cell c hx⟩ : W.cell? ⟨B, 1, none⟩ = some (.slice a2 M c2) ∧ W.cell? ⟨g, k, none⟩ = some (.int .i64 i)))
                      clear hb ho hk hnl hfl hM hmem hi64 htk hLO hqi hls hp2 hkd hu he3
                      go_wp2_with fail
                      refine HLO.out.mono ?_
                      rintro e w6 ⟨rfl, g6⟩
                      by_cases hc : u = true ∧ kd = 5
                      · obtain ⟨hu, h5⟩ := hc
                        subst hu
                        have q3 : (kd == 5) = true := by simp [h5]
                        rw [HE3.out, if_pos (by simp [h5])] at HST
                        have gd : Grow wr w6.drew := g6.trans (Chg.refl _ w6).drew
                        have gb : Grow wr (w6.alloc (.cells #[.int .i64 i] 3)) := g6.trans (Grow.box w6 (.cells [.int .i64 i].toArray 3))
                        obtain ⟨a3, c3, W3, hr, ⟨hc3, hf3⟩, hb3, ho3⟩ := HP2.out _ gd
                        obtain ⟨kb1, hy1⟩ := HCC.out _ gd
                        obtain ⟨kb2, hy2⟩ := HCC.out _ gb
                        have KA := hide hr
                        obtain ⟨k3, o3⟩ := ho3 _ _ (HO.out.grow gd)
                        have HO3 := hide o3
                        rw [List.append_assoc, ← HST.out] at hb3
                        have HB3 := hide hb3
                        clear hr hb3 ho3 k3 o3 HB HO HP2 HCC g6 gd gb hx HLO h5
                        go_wp2_with fail
                        go_region_law (refine L9.step_app (by rfl) _ _ _ (by rfl) (.slice a2 M c2) (.slice (some ⟨w6.heap.size, 0, none⟩) 1 1) (.slice a3 (M + 1) c3) W3 (by rfl) (by rfl) KA.out ?_)
                        all_goals (
                          go_wp2
                          go_roundw
                          case rel => exact ⟨k + 1, _, HLT.out, rfl, HB3.out, HO3.out⟩
                          case measure => have := HLT.out; simp [Go.RowKit.intOf]; omega)
                      · have hz : (u && decide (kd = 5)) = false := by
                          cases u with
                          | false => rfl
                          | true => simpa using hc
                        rw [HE3.out, hz, if_neg (by simp), List.append_nil] at HST
                        have HN1 := hide (⟨HB.out.grow g6, HO.out.grow g6⟩ : Bx w B w6 (.slice a2 M c2) v3 (E2 ++ ((clL L p2).take k).filter (e3 cs L p2)) F ∧ Ot w w6 (.slice a2 M c2) v3 (.slice (some ⟨g, 0, none⟩) N2 cl5) (clL L p2))
                        rw [← HST.out] at HN1
                        have q3 : u = true → (kd == 5) = false := fun e => by
                          have : kd ≠ 5 := fun h => hc ⟨e, h⟩
                          simpa using this
                        clear hx HB HO HP2 HLO HCC g6 hc hz
                        cases u with
                        | false =>
                          clear q3
                          go_wp2
                          go_roundw
                          case rel => exact ⟨k + 1, _, HLT.out, rfl, HN1.out.1, HN1.out.2⟩
                          case measure => have := HLT.out; simp [Go.RowKit.intOf]; omega
                        | true =>
                          replace q3 := q3 rfl
                          go_wp2
                          go_roundw
                          case rel => exact ⟨k + 1, _, HLT.out, rfl, HN1.out.1, HN1.out.2⟩
                          case measure => have := HLT.out; simp [Go.RowKit.intOf]; omega
                · have q2 : decide ((k : Int) < N2) = true := decide_eq_true (by omega)
                  have hw : IntKind.i64.wrap ((k : Int) + 1) = ((k + 1 : Nat) : Int) := (IntWalk.i64_in _ (by have := HN2.out.2; omega)).trans (by omega)
                  have hnl : Nl wr w.heap.size al5 N2 cl5 (clL L p2) := ⟨ho.o, HN2.out.1, cl_in64 HP.out.o.2 _, by have := HN2.out.2; omega⟩
                  have hfl : (E1 ++ ((clL L p2).take k).filter (e2 cs L q p2)).length ≤ 1000 := by
                    have h1 := List.length_filter_le (e2 cs L q p2) ((clL L p2).take k)
                    have h2 := HN2.out.1
                    have h3 := HN2.out.2
                    have h4 := List.length_filter_le (e1 cs L q) (clL L q)
                    rw [HE1.out, HN.out.1] at h4
                    have h5 := HN.out.2
                    rw [List.length_take] at h1
                    rw [List.length_append]
                    omega
                  have hi2 : ∀ i ∈ E1 ++ ((clL L p2).take k).filter (e2 cs L q p2), In64 i := fun i hi => by
                    rcases List.mem_append.1 hi with hi | hi
                    · rw [← HE1.out] at hi; exact cl_in64 HP.out.o.2 _ i (List.mem_filter.1 hi).1
                    · exact cl_in64 HP.out.o.2 _ i (List.mem_of_mem_take (List.mem_filter.1 hi).1)
                  obtain ⟨M, hM⟩ : ∃ M, (E1 ++ ((clL L p2).take k).filter (e2 cs L q p2)).length = M := ⟨_, rfl⟩
                  obtain ⟨a2, c2, hv, -⟩ := hb.o2.form
                  rw [hM] at hv
                  subst hv
                  obtain ⟨g, rfl, hx, hi64, hmem⟩ := hnl.at_ hlt
                  have htk := take_snoc' (xs := clL L p2) (k := k) (by rw [HN2.out.1]; exact hlt)
                  have hnt := not_take (L10.clL_srt (f := p2) HP.out.o.1) (show k < (clL L p2).length by rw [HN2.out.1]; exact hlt)
                  have hLO := lost_any (HP.out.grow hb.g) hnl ((clL L p2).getD k 0)
                  generalize hgi : (clL L p2).getD k 0 = i at *
                  have HGI := hide hgi
                  have hqi := ((clL_iff HP.out.o.1).1 hmem).2
                  have hls := lsB_los HP.out.o HH.out.1 (fun i hi => HN5.out i hi) hqi
                  have hha : hasB (E1 ++ ((clL L p2).take k).filter (e2 cs L q p2)) i = e1 cs L q i := by
                    rw [Bool.eq_iff_iff, L10.hasB_iff, List.mem_append, ← HE1.out, List.mem_filter]
                    constructor
                    · rintro (h | h)
                      · exact h.2
                      · exact absurd (List.mem_filter.1 h).1 hnt
                    · intro h
                      have h1 := (e1_iff.1 h).1.1
                      exact .inl ⟨(clL_iff HP.out.o.1).2 ⟨HNI.out i h1, h1⟩, h⟩
                  have hnl2 : Nl wr w.heap.size a2 M c2 (E1 ++ ((clL L p2).take k).filter (e2 cs L q p2)) := ⟨hb.o2, hM, hi2, by omega⟩
                  have HST := hide (fil_step (e2 cs L q p2) htk)
                  have hp2 := fun (W : World) (c : Grow wr W) => (hb.grow c).put2 hfl i
                  rw [hM] at hp2
                  obtain ⟨kd, hkd⟩ : ∃ kd, (aimX cs L i).2 = kd := ⟨_, rfl⟩
                  obtain ⟨u, hu⟩ : ∃ u, lsB cs L (clL L p2) i = u := ⟨_, rfl⟩
                  obtain ⟨hv1, hhv⟩ : ∃ hv1, e1 cs L q i = hv1 := ⟨_, rfl⟩
                  have he2 : e2 cs L q p2 i = (u && (!hv1 && sw kd)) := by unfold e2; rw [← hls, hu, hkd, hhv]
                  rw [hu, hkd] at hLO
                  have hhc := fun (W : World) (c : Grow wr W) => (hnl2.grow c).has i
                  rw [hha, hhv] at hhc
                  have hkd3 : u = true → kd = 3 ∨ kd = 4 ∨ kd = 5 := fun e => by rw [← hkd]; exact kd_of HP.out.o (by rw [← hls, hu]; exact e)
                  have HLT := hide hlt
                  have HB := hide hb
                  have HO := hide ho
                  have HE2 := hide he2
                  have HKD := hide hkd3
                  have HLO := hide hLO
                  have HP2 := hide hp2
                  have HHC := hide hhc
                  have HCC := hide (fun (W : World) (c : Grow wr W) => (⟨(hb.grow c).b.cell 1, Grow.cell c hx⟩ : W.cell? ⟨B, 1, none⟩ = some (.slice a2 M c2) ∧ W.cell? ⟨g, k, none⟩ = some (.int .i64 i)))
                  clear hb ho hk hnl hfl hM hmem hi64 htk hLO hqi hls hp2 hkd hu he2 hkd3 hgi hi2 hnt hha hnl2 hhc hhv
                  go_wp2_with fail
                  refine HLO.out.mono ?_
                  rintro e w2 ⟨rfl, g2⟩
                  have gdr : Grow wr w2.drew := g2.trans (Chg.refl _ w2).drew
                  obtain ⟨kb, hx2⟩ := HCC.out _ gdr
                  by_cases hc : (u && sw kd) = true
                  · obtain ⟨hu, hs⟩ := Bool.and_eq_true_iff.1 hc
                    subst hu
                    have q3 : (kd != 5) = true := by
                      have h1 := sw_iff.1 hs
                      rcases h1 with h1 | h1 <;> simp [h1]
                    rw [hs] at HE2
                    have HC2 := hide (fun (Q : Ending → World → Prop) (hQ : ∀ w6, Grow w2.drew w6 → Q (.returned (.bool hv1)) w6) => (HHC.out _ gdr).mono (R' := Q) (fun e w' h => by obtain ⟨rfl, c⟩ := h; exact hQ _ c))
                    have HK6 := hide (fun (W : World) (c : Grow w2.drew W) => HCC.out W (gdr.trans c))
                    have HG2 := hide gdr
                    clear hc hs HLO HHC g2 gdr hx
                    go_wp2_with fail
                    go_region_held3 (fun W => W.cell? ⟨B, 1, none⟩ = some (.slice a2 M c2) ∧ W.cell? ⟨g, k, none⟩ = some (.int .i64 i)) (first | exact ⟨kb, hx2⟩ | exact HK6.out _ g6) (first | (go_at_call 34; with_reducible refine HC2.out _ ?_; intro w6 g6))
                    cases hv1 with
                    | true =>
                      rw [HE2.out, if_neg (by simp), List.append_nil] at HST
                      have HN1 := hide (⟨HB.out.grow (HG2.out.trans g6), HO.out.grow (HG2.out.trans g6)⟩ : Bx w B w6 (.slice a2 M c2) v3 (E1 ++ ((clL L p2).take k).filter (e2 cs L q p2)) F ∧ Ot w w6 (.slice a2 M c2) v3 (.slice (some ⟨g, 0, none⟩) N2 cl5) (clL L p2))
                      rw [← HST.out] at HN1
                      clear HB HO HP2 HCC HC2 HK6 HG2 kb hx2 g6
                      go_wp2
                      go_roundw
                      case rel => exact ⟨k + 1, _, HLT.out, rfl, HN1.out.1, HN1.out.2⟩
                      case measure => have := HLT.out; simp [Go.RowKit.intOf]; omega
                    | false =>
                      rw [HE2.out, if_pos (by simp)] at HST
                      have gw6 := HG2.out.trans g6
                      have gd : Grow wr w6.drew := gw6.trans (Chg.refl _ w6).drew
                      have gb : Grow wr (w6.alloc (.cells #[.int .i64 i] 3)) := gw6.trans (Grow.box w6 (.cells [.int .i64 i].toArray 3))
                      obtain ⟨a3, c3, W3, hr, ⟨hc3, hf3⟩, hb3, ho3⟩ := HP2.out _ gd
                      obtain ⟨kb1, hy1⟩ := HCC.out _ gd
                      obtain ⟨kb2, hy2⟩ := HCC.out _ gb
                      have KA := hide hr
                      obtain ⟨k3, o3⟩ := ho3 _ _ (HO.out.grow gd)
                      have HO3 := hide o3
                      rw [List.append_assoc, ← HST.out] at hb3
                      have HB3 := hide hb3
                      clear hr hb3 ho3 k3 o3 HB HO HP2 HCC HC2 HK6 HG2 kb hx2 g6 gw6 gd gb
                      go_wp2_with fail
                      go_region_law (refine L9.step_app (by rfl) _ _ _ (by rfl) (.slice a2 M c2) (.slice (some ⟨w6.heap.size, 0, none⟩) 1 1) (.slice a3 (M + 1) c3) W3 (by rfl) (by rfl) KA.out ?_)
                      all_goals (
                        go_wp2
                        go_roundw
                        case rel => exact ⟨k + 1, _, HLT.out, rfl, HB3.out, HO3.out⟩
                        case measure => have := HLT.out; simp [Go.RowKit.intOf]; omega)
                  · have hz : (u && (!hv1 && sw kd)) = false := by
                      have h := Bool.eq_false_iff.2 hc
                      cases u with
                      | false => rfl
                      | true =>
                        have h2 : sw kd = false := h
                        rw [h2]
                        cases hv1 <;> rfl
                    rw [HE2.out, hz, if_neg (by simp), List.append_nil] at HST
                    have HN1 := hide (⟨HB.out.grow gdr, HO.out.grow gdr⟩ : Bx w B w2.drew (.slice a2 M c2) v3 (E1 ++ ((clL L p2).take k).filter (e2 cs L q p2)) F ∧ Ot w w2.drew (.slice a2 M c2) v3 (.slice (some ⟨g, 0, none⟩) N2 cl5) (clL L p2))
                    rw [← HST.out] at HN1
                    have q3 : u = true → (kd != 5) = false := fun e => by
                      rcases HKD.out e with h | h | h
                      · exact absurd (by rw [h, e]; rfl) hc
                      · exact absurd (by rw [h, e]; rfl) hc
                      · simp [h]
                    clear hx HB HO HP2 HHC HLO HCC g2 gdr hc hz
                    cases u with
                    | false =>
                      clear q3
                      go_wp2_with fail
                      go_region
                      all_goals (
                        go_wp2
                        go_roundw
                        case rel => exact ⟨k + 1, _, HLT.out, rfl, HN1.out.1, HN1.out.2⟩
                        case measure => have := HLT.out; simp [Go.RowKit.intOf]; omega)
                    | true =>
                      replace q3 := q3 rfl
                      go_wp2_with fail
                      go_region
                      all_goals (
                        go_wp2
                        go_roundw
                        case rel => exact ⟨k + 1, _, HLT.out, rfl, HN1.out.1, HN1.out.2⟩
                        case measure => have := HLT.out; simp [Go.RowKit.intOf]; omega)
            · have q4 : decide ((k : Int) < G) = true := decide_eq_true (by omega)
              have hw : IntKind.i64.wrap ((k : Int) + 1) = ((k + 1 : Nat) : Int) := (IntWalk.i64_in _ (by have := HG.out; have := HH.out.2; omega)).trans (by omega)
              obtain ⟨x, hxk⟩ : ∃ x, L[k]? = some x := ⟨_, List.getElem?_eq_getElem (by rw [HG.out]; exact hlt)⟩
              obtain ⟨gg, rfl, -, -, -, x0, -, -, -, x4⟩ := HRF.out.at2 hxk
              have hst := L10.clL_step (q := fi L q) hxk
              have hxm := List.mem_of_getElem? hxk
              have hfn : fi L q x.id = (x.fin && !q x.id) := by unfold fi; rw [L10.fnB_nd HP.out.o.1 hxm]
              have hnl : Nl wr w.heap.size al N cl2 (clL L q) := ⟨ho.o, HN.out.1, cl_in64 HP.out.o.2 _, by have := HN.out.2; omega⟩
              have hhl : hasB (clL L q) x.id = q x.id := has_cl HP.out.o.1 (fun i hi => HNI.out i hi) _
              obtain ⟨id, hid⟩ : ∃ id, x.id = id := ⟨_, rfl⟩
              obtain ⟨f4, hf4⟩ : ∃ f4, x.fin = f4 := ⟨_, rfl⟩
              obtain ⟨qi, hqi⟩ : ∃ qi, q id = qi := ⟨_, rfl⟩
              rw [hid] at x0 hst hfn hhl
              rw [hf4] at x4 hfn
              rw [hqi] at hfn hhl
              have hxi := hnl.has id
              rw [hhl] at hxi
              have HHA := hide hxi
              have HX0 := hide x0
              have HLT := hide hlt
              have HB := hide hb
              have HO := hide ho
              have HA := hide ha
              have HAL := hide hal
              have n1 := Grow.cell hb.g HN1C.out
              have y0 := Grow.cell hb.g x0
              have y4 := Grow.cell hb.g x4
              rw [hfn] at hst
              cases f4 with
              | false =>
                rw [if_neg (by simp), List.append_nil] at hst
                have HST := hide hst
                clear hb ho ha hal hk hxk x0 x4 hst hxm hfn hnl hhl hid hf4 hqi hxi HHA HX0 hlt
                go_wp2
                go_roundw
                case rel => exact ⟨k + 1, v3, HLT.out, rfl, by rw [HST.out]; exact HB.out, HO.out, by rw [HST.out]; exact HA.out, HAL.out⟩
                case measure => have := HLT.out; simp [Go.RowKit.intOf]; omega
              | true =>
                cases qi with
                | true =>
                  rw [if_neg (by simp), List.append_nil] at hst
                  have HST := hide hst
                  clear hb ho ha hal hk hxk x0 x4 hst hxm hfn hnl hhl hid hf4 hqi hxi HX0 hlt
                  go_wp2_with fail
                  refine HHA.out.mono ?_
                  rintro e w5 ⟨rfl, g5⟩
                  have HN5 := hide (⟨HB.out.grow g5, HO.out.grow g5, HA.out.grow g5⟩ : Bx w B w5 v2 v3 E1 (clL (L.take k) (fi L q)) ∧ Ot w w5 v2 v3 (.slice al N cl2) (clL L q) ∧ Ot w w5 v2 v3 _ (clL L q ++ clL (L.take k) (fi L q)))
                  clear HB HO HA HHA g5 n1 y0 y4
                  go_wp2
                  go_roundw
                  case rel => exact ⟨k + 1, v3, HLT.out, rfl, by rw [HST.out]; exact HN5.out.1, HN5.out.2.1, by rw [HST.out]; exact HN5.out.2.2, HAL.out⟩
                  case measure => have := HLT.out; simp [Go.RowKit.intOf]; omega
                | false =>
                  rw [if_pos (by simp)] at hst
                  have hlA : (clL L q ++ clL (L.take k) (fi L q)).length ≤ 1000 := by
                    have h1 := clL_le (L.take k) (fi L q)
                    have h2 := HN.out.1
                    have h3 := HN.out.2
                    have h4 := HH.out.2
                    have h5 := HG.out
                    rw [List.length_take] at h1
                    rw [List.length_append]
                    omega
                  have hl3 : (clL (L.take k) (fi L q)).length ≤ 1000 := by rw [List.length_append] at hlA; omega
                  obtain ⟨M, hM⟩ : ∃ M, (clL (L.take k) (fi L q)).length = M := ⟨_, rfl⟩
                  obtain ⟨a3, c3, hv, -⟩ := hb.o3.form
                  rw [hM] at hv
                  subst hv
                  obtain ⟨A, hA⟩ : ∃ A, (clL L q ++ clL (L.take k) (fi L q)).length = A := ⟨_, rfl⟩
                  obtain ⟨av, ac, hv, -⟩ := ha.o.form
                  rw [hA] at hv
                  subst hv
                  have HP3 := hide (fun (W : World) (c : Grow wr W) => (hb.grow c).put3 hl3 id)
                  rw [hM] at HP3
                  have HLA := hide hlA
                  have HAE := hide hA
                  have KB1 := hide (fun (W : World) (c : Grow wr W) => (hb.grow c).b.cell 2)
                  have HCC := hide (fun (W : World) (c : Grow wr W) => (⟨Grow.cell c n1, Grow.cell c y0⟩ : W.cell? ⟨qg, 1, none⟩ = some (.slice (some ⟨gg, 0, none⟩) G gc) ∧ W.cell? ⟨gg, k * 5, none⟩ = some (.int .i64 id)))
                  have HST2 := hide (show clL L q ++ clL (L.take (k + 1)) (fi L q) = clL L q ++ clL (L.take k) (fi L q) ++ [id] by rw [hst, List.append_assoc])
                  have HST := hide hst
                  clear hb ho ha hal hk hxk x0 x4 hst hxm hfn hnl hhl hid hf4 hqi hxi hlt hlA hl3 hM hA
                  go_wp2_with fail
                  refine HHA.out.mono ?_
                  rintro e w5 ⟨rfl, g5⟩
                  have gd : Grow wr w5.drew := g5.trans (Chg.refl _ w5).drew
                  have gb : Grow wr (w5.alloc (.cells #[.int .i64 id] 3)) := g5.trans (Grow.box w5 (.cells [.int .i64 id].toArray 3))
                  obtain ⟨a6, c6, W3, hr, ⟨hc3, hf3⟩, hb3, ho3⟩ := HP3.out _ gd
                  have kb1 := KB1.out _ gd
                  have kb2 := KB1.out _ gb
                  obtain ⟨n2, y2⟩ := HCC.out _ gd
                  obtain ⟨n3', y3⟩ := HCC.out _ gb
                  have KA := hide hr
                  obtain ⟨a7, c7, W5, hr5, hb5, ha5, hk5⟩ := Ot.more hb3 (ho3 _ _ (HA.out.grow gd)).2 HLA.out id
                  obtain ⟨ho5, hal5⟩ := hk5 _ _ (ho3 _ _ (HO.out.grow gd)).2 HAL.out
                  rw [HAE.out, World.size_setCell] at hr5
                  rw [HAE.out] at ha5 hal5
                  rw [← HST.out] at hb5
                  rw [← HST2.out] at ha5
                  have KA5 := hide hr5
                  have HN5 := hide (⟨hb5, ho5, ha5, hal5⟩ : Bx w B W5 v2 (.slice a6 (M + 1) c6) E1 (clL (L.take (k + 1)) (fi L q)) ∧ Ot w W5 v2 (.slice a6 (M + 1) c6) (.slice al N cl2) (clL L q) ∧ Ot w W5 v2 (.slice a6 (M + 1) c6) (.slice a7 (A + 1) c7) (clL L q ++ clL (L.take (k + 1)) (fi L q)) ∧ Pt (.slice a7 (A + 1) c7) (.slice al N cl2))
                  have hst31 : (W3.cell? ⟨qg, 1, none⟩ = some (.slice (some ⟨gg, 0, none⟩) G gc) ∧ W3.cell? ⟨gg, k * 5, none⟩ = some (.int .i64 id)) ∨ True := .inr trivial
                  have nq := Grow.cell hb3.g HN1C.out
                  have yq := Grow.cell hb3.g HX0.out
                  clear hr hb3 ho3 hr5 hb5 ho5 ha5 hal5 hk5 hst31 HHA HB HO HA HAL HP3 KB1 HCC n1 y0 y4 gd gb g5
                  go_wp2_with fail
                  go_region_law (refine L9.step_app (by rfl) _ _ _ (by rfl) (.slice a3 M c3) (.slice (some ⟨w5.heap.size, 0, none⟩) 1 1) (.slice a6 (M + 1) c6) W3 (by rfl) (by rfl) KA.out ?_)
                  all_goals (
                    clear kb1 kb2 n2 y2 n3' y3 hc3 hf3 KA
                    go_wp2_with (at_builtin; refine wpList_app rfl _ _ 27 rfl (.slice av A ac) (.slice (some ⟨W3.heap.size, 0, none⟩) 1 1) (.slice a7 (A + 1) c7) _ W5 rfl rfl KA5.out ?_)
                    go_roundw
                    case rel => exact ⟨k + 1, _, HLT.out, rfl, HN5.out⟩
                    case measure => have := HLT.out; simp [Go.RowKit.intOf]; omega)
        · have q2 : decide ((k : Int) < N) = true := decide_eq_true (by omega)
          have hw : IntKind.i64.wrap ((k : Int) + 1) = ((k + 1 : Nat) : Int) := (IntWalk.i64_in _ (by have := HN.out.2; omega)).trans (by omega)
          have hnl : Nl wr w.heap.size al N cl2 (clL L q) := ⟨ho.o, HN.out.1, cl_in64 HP.out.o.2 _, by have := HN.out.2; omega⟩
          have hfl : (((clL L q).take k).filter (e1 cs L q)).length ≤ 1000 := by have h1 := List.length_filter_le (e1 cs L q) ((clL L q).take k); have h2 := HN.out.1; have h3 := HN.out.2; rw [List.length_take] at h1; omega
          obtain ⟨M, hM⟩ : ∃ M, (((clL L q).take k).filter (e1 cs L q)).length = M := ⟨_, rfl⟩
          obtain ⟨a2, c2, hv, -⟩ := hb.o2.form
          rw [hM] at hv
          subst hv
          obtain ⟨g, rfl, hx, hi64, hmem⟩ := hnl.at_ hlt
          have htk := take_snoc' (xs := clL L q) (k := k) (by rw [HN.out.1]; exact hlt)
          have hLO := lost_any (HP.out.grow hb.g) hnl ((clL L q).getD k 0)
          generalize hgi : (clL L q).getD k 0 = i at *
          have HGI := hide hgi
          have hqi := ((clL_iff HP.out.o.1).1 hmem).2
          have hls := lsB_los HP.out.o HH.out.1 (fun i hi => HNI.out i hi) hqi
          have HST := hide (fil_step (e1 cs L q) htk)
          have hp2 := fun (W : World) (c : Grow wr W) => (hb.grow c).put2 hfl i
          rw [hM] at hp2
          obtain ⟨kd, hkd⟩ : ∃ kd, (aimX cs L i).2 = kd := ⟨_, rfl⟩
          obtain ⟨u, hu⟩ : ∃ u, lsB cs L (clL L q) i = u := ⟨_, rfl⟩
          have he1 : e1 cs L q i = (u && sw kd) := by unfold e1; rw [← hls, hu, hkd]
          rw [hu, hkd] at hLO
          have hkd3 : u = true → kd = 3 ∨ kd = 4 ∨ kd = 5 := fun e => by rw [← hkd]; exact kd_of HP.out.o (by rw [← hls, hu]; exact e)
          have HLT := hide hlt
          have HB := hide hb
          have HO := hide ho
          have HX := hide hx
          have HE1 := hide he1
          have HKD := hide hkd3
          have HLO := hide hLO
          have HP2 := hide hp2
          have KB1 := hide (fun (W : World) (c : Grow wr W) => (hb.grow c).b.cell 1)
          clear hb ho hk hnl hfl hM hmem hi64 htk hLO hqi hls hp2 hkd hu he1 hkd3 hgi
          go_wp2_with fail
          refine HLO.out.mono ?_
          rintro e w2 ⟨rfl, g2⟩
          by_cases hc : (u && sw kd) = true
          · rw [HE1.out, if_pos hc] at HST
            obtain ⟨hu, hs⟩ := Bool.and_eq_true_iff.1 hc
            subst hu
            have q3 : (kd != 5) = true := by
              have h1 := sw_iff.1 hs
              rcases h1 with h1 | h1 <;> simp [h1]
            have gd : Grow wr w2.drew := g2.trans (Chg.refl _ w2).drew
            obtain ⟨a3, c3, W3, hr, ⟨hc3, hf3⟩, hb3, ho3⟩ := HP2.out _ gd
            have kb1 := KB1.out _ gd
            have kb2 : (w2.alloc (.cells #[.int .i64 i] 3)).cell? ⟨B, 1, none⟩ = some (.slice a2 M c2) := KB1.out _ (g2.trans (Grow.box w2 (.cells [.int .i64 i].toArray 3)))
            have HS2 := hide (fun (W : World) (c : Grow w2 W) => Grow.cell (g2.trans c) HX.out)
            have hx2 := HS2.out _ (Chg.refl _ w2).drew
            have hx4 : (w2.alloc (.cells #[.int .i64 i] 3)).cell? ⟨g, k, none⟩ = some (.int .i64 i) := HS2.out _ (Grow.box w2 (.cells [.int .i64 i].toArray 3))
            have KA := hide hr
            have HB3 := hide hb3
            obtain ⟨k3, o3⟩ := ho3 _ _ (HO.out.grow gd)
            have HO3 := hide o3
            have HX3 := hide (⟨(ol_cell k3 HN.out.1 HLT.out).trans (by rw [HGI.out]), (ol_cell o3.o HN.out.1 HLT.out).trans (by rw [HGI.out])⟩ : W3.cell? ⟨g, k, none⟩ = some (.int .i64 i) ∧ (W3.setCell ⟨B, 1, none⟩ (.slice a3 (M + 1) c3)).cell? ⟨g, k, none⟩ = some (.int .i64 i))
            rw [← HST.out] at HB3
            clear hx hr hb3 ho3 k3 o3 hc hs HB HP2 KB1 HLO HX
            go_wp2_with fail
            go_region_law (refine L9.step_app (by rfl) _ _ _ (by rfl) (.slice a2 M c2) (.slice (some ⟨w2.heap.size, 0, none⟩) 1 1) (.slice a3 (M + 1) c3) W3 (by rfl) (by rfl) KA.out ?_)
            all_goals (
              go_wp2
              go_roundw
              case rel => exact ⟨k + 1, _, HLT.out, rfl, HB3.out, HO3.out⟩
              case measure => have := HLT.out; simp [Go.RowKit.intOf]; omega)
          · rw [HE1.out, if_neg hc, List.append_nil] at HST
            have HN1 := hide (⟨HB.out.grow g2, HO.out.grow g2⟩ : Bx w B w2 (.slice a2 M c2) (.slice none 0 0) (((clL L q).take k).filter (e1 cs L q)) [] ∧ Ot w w2 (.slice a2 M c2) (.slice none 0 0) (.slice (some ⟨g, 0, none⟩) N cl2) (clL L q))
            rw [← HST.out] at HN1
            clear hx HB HO HP2 KB1 HLO HX g2
            cases u with
            | false =>
              go_wp2
              go_roundw
              case rel => exact ⟨k + 1, _, HLT.out, rfl, HN1.out.1, HN1.out.2⟩
              case measure => have := HLT.out; simp [Go.RowKit.intOf]; omega
            | true =>
              have q3 : (kd != 5) = false := by
                rcases HKD.out rfl with h | h | h
                · exact absurd (by rw [h]; rfl) hc
                · exact absurd (by rw [h]; rfl) hc
                · simp [h]
              clear hc
              go_wp2
              go_roundw
              case rel => exact ⟨k + 1, _, HLT.out, rfl, HN1.out.1, HN1.out.2⟩
              case measure => have := HLT.out; simp [Go.RowKit.intOf]; omega
    | true =>
      clear has hfw hgk hN hN40
      go_wp2_with fail
      go_loopw [7, 8, 9, 34] (fun vl va vm vi wr => vl = .slice al N cl2 ∧ vm = .bool false ∧ ∃ (k : Nat) (ws : List Int), k ≤ N ∧ vi = .int .i64 k ∧ Fw w wr cs L K zs (.slice al N cl2) va q ws ∧ Asd cs L q ws ((clL L q).take k)) (fun _ _ _ u _ => N - (Go.RowKit.intOf u).toNat)
      case atStart => exact ⟨rfl, rfl, 0, ws, Nat.zero_le _, rfl, HFW.out, fun i hi => by simp at hi⟩
      case round =>
        clear HFW ws
        obtain ⟨rfl, rfl, k, ws, hk, rfl, hfw, has⟩ := hrel
        obtain ⟨na, hna⟩ : ∃ na, ws.length = na := ⟨_, rfl⟩
        obtain ⟨aa, ca, hv, -⟩ := hfw.o.form
        rw [hna] at hv
        subst hv
        rcases Nat.eq_or_lt_of_le hk with hke | hlt
        · have hke2 := hke.symm
          subst hke2
          clear hke
          have q2 : decide ((N : Int) < N) = false := by simp
          have HR2 := hide (⟨false, q, ws, rfl, hfw, fun _ => by rw [← HN.out.1, List.take_length] at has; exact has, Nat.le_refl _⟩ : Fo w cs L K zs (2 * nq L q + bn false) (.slice al N cl2) (.slice aa na ca) (.bool false) wr)
          have HM := hide (show 2 * nq L q + bn false < gk by
            have h1 := HGK.out
            have h2 : bn true = 1 := rfl
            have h3 : bn false = 0 := rfl
            omega)
          clear hfw has hk
          go_wp2
          go_roundg (2 * nq L q + bn false)
          case measure => exact HM.out
          case rel => exact HR2.out
        · have q2 : decide ((k : Int) < N) = true := decide_eq_true (by omega)
          have hw : IntKind.i64.wrap ((k : Int) + 1) = ((k + 1 : Nat) : Int) := (IntWalk.i64_in _ (by have := HN.out.2; omega)).trans (by omega)
          have hnl : Nl wr w.heap.size al N cl2 (clL L q) := ⟨hfw.l, HN.out.1, cl_in64 HP.out.o.2 _, by have := HN.out.2; omega⟩
          obtain ⟨g, rfl, hx, hi64, hmem⟩ := hnl.at_ hlt
          have htk := take_snoc' (xs := clL L q) (k := k) (by rw [HN.out.1]; exact hlt)
          have hLO := lost_any (HP.out.grow hfw.g) hnl ((clL L q).getD k 0)
          generalize (clL L q).getD k 0 = i at *
          have hqi := ((clL_iff HP.out.o.1).1 hmem).2
          have hls := lsB_los HP.out.o HH.out.1 (fun i hi => hfw.f.nd_ hi) hqi
          have hwl := hfw.wl
          have hin := hfw.in_ HP.out.o
          rw [hna] at hwl
          have hna2 : Nl wr w.heap.size aa na ca ws := ⟨hfw.o, hna, hin, by have := HH.out.2; omega⟩
          have HHA := hide (fun (W : World) (c : Grow wr W) => (hna2.grow c).has i)
          have HTK := hide htk
          have HLT := hide hlt
          have HFW := hide hfw
          have HAS := hide has
          have HQI := hide hqi
          have HLO := hide hLO
          have HX := hide hx
          have HLS := hide hls
          obtain ⟨kd, hkd⟩ : ∃ kd, (aimX cs L i).2 = kd := ⟨_, rfl⟩
          have HKD := hide hkd
          rw [hkd] at HLO
          obtain ⟨u, hu⟩ : ∃ u, lsB cs L (clL L q) i = u := ⟨_, rfl⟩
          rw [hu] at HLO HLS
          clear hfw has hk hlt hnl hmem hi64 htk hLO hqi hls hwl hin hna2 hkd hu
          go_wp2_with fail
          refine HLO.out.mono ?_
          rintro e w2 ⟨rfl, g2⟩
          by_cases h3 : kd = 3
          · have q3 : (kd != 3) = false := by simp [h3]
            cases u with
            | false =>
              clear hx HLO
              have HN1 := hide (⟨HFW.out.grow g2, HAS.out.step fun h1 h2 h3 => (by have := los_iff.2 ⟨HQI.out, h2, h3⟩; rw [← HLS.out] at this; cases this)⟩ : Fw w w2 cs L K zs (.slice (some ⟨g, 0, none⟩) N cl2) (.slice aa na ca) q ws ∧ Asd cs L q ws ((clL L q).take k ++ [i]))
              rw [← HTK.out] at HN1
              clear g2 HAS HFW
              go_wp2
              go_roundw
              case rel => exact ⟨rfl, rfl, k + 1, ws, HLT.out, rfl, HN1.out.1, HN1.out.2⟩
              case measure => have := HLT.out; simp [Go.RowKit.intOf]; omega
            | true =>
              have hHA := HHA.out w2 g2
              obtain ⟨hb, hhb⟩ : ∃ hb, hasB ws i = hb := ⟨_, rfl⟩
              rw [hhb] at hHA
              have HHB := hide hhb
              have HH2 := hide hHA
              clear HLO hHA hhb hx HHA
              go_wp2_with fail
              refine HH2.out.mono ?_
              rintro e w3 ⟨rfl, g3⟩
              have g23 := g2.trans g3
              clear g2 g3 HH2
              cases hb with
              | true =>
                have HN1 := hide (⟨HFW.out.grow g23, HAS.out.step fun h1 h2 h3 => HHB.out⟩ : Fw w w3 cs L K zs (.slice (some ⟨g, 0, none⟩) N cl2) (.slice aa na ca) q ws ∧ Asd cs L q ws ((clL L q).take k ++ [i]))
                rw [← HTK.out] at HN1
                clear g23 HAS HFW
                go_wp2
                go_roundw
                case rel => exact ⟨rfl, rfl, k + 1, ws, HLT.out, rfl, HN1.out.1, HN1.out.2⟩
                case measure => have := HLT.out; simp [Go.RowKit.intOf]; omega
              | false =>
                have gB := Grow.box w3 (.cells [.int .i64 i].toArray 3)
                obtain ⟨v', W', hr, cg, ho', hl', hne', hb'⟩ := ((HFW.out.grow g23).grow gB).ask (yc := 1) HP.out.o HH.out.2 HQI.out HHB.out (L1.Rd.of_blk (Blk.new w3 3 [.int .i64 i]) rfl)
                obtain ⟨aa2, ca2, hv, -⟩ := ho'.form
                rw [show (ws ++ [i]).length = na + 1 by rw [List.length_append, hna]; rfl] at hv
                subst hv
                have HNA := hide (show (ws ++ [i]).length = na + 1 by rw [List.length_append, hna]; rfl)
                have KA := hide hr
                have HCG := hide cg
                have HO2 := hide ho'
                have HL2 := hide hl'
                have HE2 := hide hne'
                have HB2 := hide hb'
                obtain ⟨hlt1, hlt2, hlt3⟩ := los_iff.1 HLS.out.symm
                have hke := (HKL.out.grow cg).has i
                rw [HK.out i ((HFW.out.f).nd_ HQI.out)] at hke
                obtain ⟨ki, hki⟩ : ∃ ki, K i = ki := ⟨_, rfl⟩
                rw [hki] at hke
                have HKI := hide hki
                have HKE := hide hke
                have HT1 := hide hlt2
                have HT2 := hide hlt3
                clear gB hr cg ho' hl' hne' hb' hlt1 hlt2 hlt3 hke hki g23
                go_wp2_with (at_builtin; refine wpList_app rfl _ _ 27 rfl (.slice aa na ca) (.slice (some ⟨w3.heap.size, 0, none⟩) 1 1) (.slice aa2 (na + 1) ca2) _ W' rfl rfl KA.out ?_)
                refine HKE.out.mono ?_
                rintro e w4 ⟨rfl, g4⟩
                cases ki with
                | false =>
                  have HN1 := hide (⟨⟨HCG.out.trans g4, HL2.out.grow g4, HO2.out.grow g4, HE2.out, HFW.out.f.no HP.out.o.1 HQI.out HHB.out HKI.out, HB2.out.chg g4 id⟩, (HAS.out.more i).step fun _ _ _ => by rw [has_snoc]; exact L10.put_same _ _⟩ : Fw w w4 cs L K zs (.slice (some ⟨g, 0, none⟩) N cl2) (.slice aa2 (na + 1) ca2) q (ws ++ [i]) ∧ Asd cs L q (ws ++ [i]) ((clL L q).take k ++ [i]))
                  rw [← HTK.out] at HN1
                  clear g4 HKE KA
                  go_wp2
                  go_roundw
                  case rel => exact ⟨rfl, rfl, k + 1, ws ++ [i], HLT.out, rfl, HN1.out.1, HN1.out.2⟩
                  case measure => have := HLT.out; simp [Go.RowKit.intOf]; omega
                | true =>
                  have hAI := aim_r (HP.out.grow (HCG.out.trans g4)).r (HP.out.grow (HCG.out.trans g4)).c HP.out.o HP.out.all HP.out.l HP.out.cap (i := i)
                  rw [HKD.out, h3] at hAI
                  obtain ⟨t, ht⟩ : ∃ t, (aimX cs L i).1 = t := ⟨_, rfl⟩
                  rw [ht] at hAI HT1 HT2
                  have HAT := hide ht
                  have HAI := hide hAI
                  have HG4 := hide (HCG.out.trans g4)
                  have HL4 := hide (HL2.out.grow g4)
                  have HO4 := hide (HO2.out.grow g4)
                  have HB4 := hide (HB2.out.chg g4 id)
                  clear hAI ht g4 HKE KA
                  go_wp2_with fail
                  refine HAI.out.mono ?_
                  rintro e w5 ⟨rfl, g5⟩
                  obtain ⟨v1, W1, a2, c2, W2, hr1, hr2, cg2, hrd⟩ := cat2 (c := cl2) (own_rd (own_cast (HL4.out.grow g5) HN.out.1)) (by have := HN.out.2; omega) t
                  obtain ⟨q', hq'⟩ := L10.ex_rc cs L 1 (clL L q ++ [t])
                  have HCL := hide (close_any (c := c2) (HP.out.grow (HG4.out.trans (g5.trans cg2))) hrd (by have := HN.out.2; omega) (show IsRc cs L 1 (srcC L 1 (clL L q ++ [t])) q' from hq'))
                  have hyes := HFW.out.f.yes HP.out.o.1 HQI.out HHB.out HKI.out (HKD.out.trans h3) (by rw [HAT.out]; exact HT1.out) (by rw [HAT.out]; exact HT2.out) (by rw [HAT.out]; exact hq')
                  have HYE := hide hyes
                  have KA1 := hide hr1
                  have KA2 := hide hr2
                  have HG52 := hide (g5.trans cg2)
                  clear hyes hr1 hr2 g5 cg2 hrd hq' HAI
                  go_wp2_with (at_builtin; first | (refine wpList_app rfl _ _ 27 rfl (.slice (some ⟨w5.heap.size, 0, none⟩) 0 0) (.slice (some ⟨g, 0, none⟩) N cl2) v1 _ W1 rfl rfl KA1.out ?_) | (refine wpList_app rfl _ _ 27 rfl v1 (.slice (some ⟨W1.heap.size, 0, none⟩) 1 1) (.slice a2 (N + 1) c2) _ W2 rfl rfl KA2.out ?_))
                  refine HCL.out.mono ?_
                  rintro e w6 ⟨a6, c6, rfl, o6, g6⟩
                  have HR2 := hide (⟨true, q', ws ++ [i], rfl, ⟨HG4.out.trans (HG52.out.trans g6), o6.lower (HG4.out.trans HG52.out).size, HO4.out.grow (HG52.out.trans g6), fun kk hkk e => by have h1 := ol_lt HO4.out hkk; have h2 := ol_ge o6 e; have h3 := HG52.out.size; omega, HYE.out.1, HB4.out.chg (HG52.out.trans g6) id⟩, fun h => (by cases h), Nat.le_refl _⟩ : Fo w cs L K zs (2 * nq L q' + bn true) (.slice a6 (clL L q').length c6) (.slice aa2 (na + 1) ca2) (.bool true) w6)
                  have HM := hide (show 2 * nq L q' + bn true < gk by
                    have h1 := HGK.out
                    have h2 : bn true = 1 := rfl
                    have h3 := HYE.out.2
                    omega)
                  clear o6 g6 HCL KA1 KA2
                  go_wp2
                  go_roundg (2 * nq L q' + bn true)
                  case measure => exact HM.out
                  case rel => exact HR2.out
          · have q3 : (kd != 3) = true := by simp [h3]
            have HNE := hide h3
            clear hx HLO h3
            dsimp only
            have HN1 := hide (⟨HFW.out.grow g2, HAS.out.step fun h1 h2 h3 => (absurd (HKD.out.symm.trans h1) HNE.out)⟩ : Fw w w2 cs L K zs (.slice (some ⟨g, 0, none⟩) N cl2) (.slice aa na ca) q ws ∧ Asd cs L q ws ((clL L q).take k ++ [i]))
            rw [← HTK.out] at HN1
            clear g2 HAS HFW
            go_wp2
            go_roundw
            case rel => exact ⟨rfl, rfl, k + 1, ws, HLT.out, rfl, HN1.out.1, HN1.out.2⟩
            case measure => have := HLT.out; simp [Go.RowKit.intOf]; omega
end
end Go.Proofs.YtjfpjnhlnoiekaaGreat.L13
