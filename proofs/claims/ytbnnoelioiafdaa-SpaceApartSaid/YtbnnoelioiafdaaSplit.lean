/- What Split of package space, and of package gleaningref02, answer. Conditions: at most 200 sizes. -/
import Derived.Test.YtbnnoelioiafdaaAwake
import Derived.Test.YtbnnoelioiafdaaOwn
import Derived.ShutString
namespace Go.Proofs.Ytbnnoelioiafdaa
open Go.ChangeShapes Go.WideShapes Go.ChangeAt Go.RowKit
set_option linter.unusedVariables false

/-- The spaces: their beginnings and ends; none where one can't be. -/
def spl : Int → List Int → Option (List (Int × Int))
  | _, [] => some []
  | f, n :: ns => if nwB f n then (spl (f + n) ns).map ((f, f + n) :: ·) else none
def spCells (l : List (Int × Int)) : List Value := l.flatMap fun p => [.int .i64 p.1, .int .i64 p.1, .int .i64 p.2]
theorem spCells_append (l m : List (Int × Int)) : spCells (l ++ m) = spCells l ++ spCells m := by simp [spCells]
theorem spCells_length (l : List (Int × Int)) : (spCells l).length = l.length * 3 := by
  induction l with
  | nil => rfl
  | cons a l ih => simp only [spCells, List.flatMap_cons, List.length_append, List.length_cons, List.length_nil] at ih ⊢; omega
theorem spCells_get (l : List (Int × Int)) (i : Nat) (a b : Int) (h : l[i]? = some (a, b)) : (spCells l)[i * 3]? = some (.int .i64 a) ∧ (spCells l)[i * 3 + 1]? = some (.int .i64 a) ∧ (spCells l)[i * 3 + 2]? = some (.int .i64 b) := by
  induction l generalizing i with
  | nil => simp at h
  | cons p l ih =>
    cases i with
    | zero => simp at h; subst h; simp [spCells]
    | succ i =>
      have := ih i (by simpa using h)
      simp only [spCells, List.flatMap_cons] at this ⊢
      have e : ∀ j, (i + 1) * 3 + j = (i * 3 + j) + 3 := fun j => by omega
      rw [show (i + 1) * 3 = i * 3 + 3 by omega, show i * 3 + 3 + 1 = i * 3 + 1 + 3 by omega, show i * 3 + 3 + 2 = i * 3 + 2 + 3 by omega]
      simpa using this
theorem spl_step (f n : Int) (ns : List Int) (h : nwB f n = true) : spl f (n :: ns) = (spl (f + n) ns).map ((f, f + n) :: ·) := by simp [spl, h]
theorem spl_no (f n : Int) (ns : List Int) (h : nwB f n = false) : spl f (n :: ns) = none := by simp [spl, h]
theorem spl_next {f fr : Int} {zs : List Int} {k : Nat} {l : List (Int × Int)} (hk : k < zs.length) (h : spl f zs = (spl fr (zs.drop k)).map (l ++ ·)) (hn : nwB fr (zs.getD k 0) = true) :
    spl f zs = (spl (fr + zs.getD k 0) (zs.drop (k + 1))).map ((l ++ [(fr, fr + zs.getD k 0)]) ++ ·) := by
  have e : zs.drop k = zs.getD k 0 :: zs.drop (k + 1) := by
    rw [List.drop_eq_getElem_cons hk]; simp [List.getD_eq_getElem?_getD, hk]
  rw [h, e, spl_step _ _ _ hn, Option.map_map]
  congr 1
  funext x
  simp
theorem spl_stop {f fr : Int} {zs : List Int} {k : Nat} {l : List (Int × Int)} (hk : k < zs.length) (h : spl f zs = (spl fr (zs.drop k)).map (l ++ ·)) (hn : nwB fr (zs.getD k 0) = false) : spl f zs = none := by
  have e : zs.drop k = zs.getD k 0 :: zs.drop (k + 1) := by
    rw [List.drop_eq_getElem_cons hk]; simp [List.getD_eq_getElem?_getD, hk]
  rw [h, e, spl_no _ _ _ hn]; rfl

/-- What Split comes to. -/
def SplitPost (T : TypeId) (f : Int) (zs : List Int) (w : World) (e : Ending) (w' : World) : Prop :=
  (∃ l v, spl f zs = some l ∧ e = .returned (.tuple #[v, .int .i64 0]) ∧ w'.ownsRow w.heap.size T 3 v zs.length (spCells l) ∧ Grow w w') ∨
  (spl f zs = none ∧ e = .returned (.tuple #[.slice none 0 0, .int .i64 1]) ∧ Grow w w')
/-- Where its loop stands. -/
def SplitAt (T : TypeId) (f : Int) (zs : List Int) (w : World) (k : Nat) (fr : Int) (v : Value) (wr : World) : Prop :=
  ∃ l, spl f zs = (spl fr (zs.drop k)).map (l ++ ·) ∧ wr.ownsRow w.heap.size T 3 v k (spCells l) ∧ Grow w wr

theorem Try.infoSp : (Try.prog.info? 25).map (fun i => (i.zero, i.size, i.bytes)) = some (some (spV 0 0 0), 3, 24) := by kernel_rfl
theorem Try.infoRSp : (Try.prog.info? 23).map (fun i => (i.zero, i.size, i.bytes)) = some (some (spV 0 0 0), 3, 24) := by kernel_rfl

theorem new_ok' (f n : Int) (w : World) (h1 : 0 ≤ f) (h2 : 0 ≤ n) (h3 : f + n ≤ 4096) :
    Calls Try.prog 13 #[.int .i64 f, .int .i64 n] w fun e w' => e = .returned (.tuple #[spV f f (f + n), .int .i64 0]) ∧ Grow w w' := new_ok f n w h1 h2 h3
theorem rnew_ok' (f n : Int) (w : World) (h1 : 0 ≤ f) (h2 : 0 ≤ n) (h3 : f + n ≤ 4096) :
    Calls Try.prog 14 #[.int .i64 f, .int .i64 n] w fun e w' => e = .returned (.tuple #[spV f f (f + n), .int .i64 0]) ∧ Grow w w' :=
  (rnew_any f n w (by omega) (by omega)).mono fun _ _ ⟨he, hg⟩ => ⟨by
    have e : nwB f n = true := by simp [nwB]; omega
    rw [he]; simp [nwF, nwE, nwX, e], hg⟩
theorem rnew_no (f n : Int) (w : World) (h0 : f ≤ 9223372036854775807) (h1 : n ≤ 9223372036854775807) (h : nwB f n = false) :
    Calls Try.prog 14 #[.int .i64 f, .int .i64 n] w fun e w' => e = .returned (.tuple #[spV 0 0 0, .int .i64 1]) ∧ Grow w w' :=
  (rnew_any f n w h0 h1).mono fun _ _ ⟨he, hg⟩ => ⟨by rw [he]; simp [nwF, nwE, nwX, h], hg⟩

set_option maxHeartbeats 2000000 in
set_option maxRecDepth 100000 in
theorem split_any (f : Int) (a : Option Addr) (len cap : Nat) (zs : List Int) (w : World) (hf : f ≤ 9223372036854775807) (h0 : IsRow .i64 w a len cap zs) (hl : len ≤ 200) :
    Calls Try.prog 21 #[.int .i64 f, .slice a len cap] w (SplitPost 25 f zs w) := by
  have H0 := hide h0
  obtain ⟨hzl, -, -, -, -⟩ := h0
  have HZL := hide hzl
  clear hzl
  obtain ⟨i0, hi0, hz0, hz1, hz2⟩ := info_parts Try.infoSp
  have HI := hide hi0
  have HZ0 := hide hz0
  have HZ1 := hide hz1
  have HZ2 := hide hz2
  clear hi0 hz0 hz1 hz2
  go_enter Try.func21, Try.ntmps21
  go_wp2
  go_loopw [0, 6, 13] (fun fv v i wr => ∃ (k : Nat) (fr : Int), k ≤ len ∧ i = .int .i64 k ∧ fv = .int .i64 fr ∧ fr ≤ 9223372036854775807 ∧ SplitAt 25 f zs w k fr v wr) (fun _ _ i _ => len - (intOf i).toNat)
  case atStart => exact ⟨0, f, Nat.zero_le _, rfl, rfl, hf, [], by simp, World.ownsRow_nil _ _ _ _, Chg.refl _ _⟩
  case round =>
    obtain ⟨k, fr, hk, rfl, rfl, hfr, l, hsp, hown, cc⟩ := hrel
    have HSP := hide hsp
    clear hsp
    by_cases hlt : k < len
    · obtain ⟨ad, rfl, hcell, hwf⟩ := (H0.out.chg cc (fun i hi => id)).at_ hlt
      have bz := bounds_i64 hwf
      obtain ⟨z, hz⟩ : ∃ z : Int, z = zs.getD k 0 := ⟨_, rfl⟩
      rw [← hz] at hcell bz
      have HZ := hide hz
      clear hz hwf
      by_cases hnw : nwB fr z = true
      · have hnw' : 0 ≤ fr ∧ 0 ≤ z ∧ z ≤ 4096 - fr := by simpa [nwB] using hnw
        have HNW := hide hnw
        clear hnw
        go_wp2_with fail
        refine (new_ok' fr z _ (by omega) (by omega) (by omega)).mono ?_
        rintro e w2 ⟨rfl, c2⟩
        have hs := (Blk.new w2 25 [.int .i64 fr, .int .i64 fr, .int .i64 (fr + z)]).alloc (.cells [.int .i64 fr, .int .i64 fr, .int .i64 (fr + z)].toArray 25)
        have hb := Blk.new (w2.alloc (.cells [.int .i64 fr, .int .i64 fr, .int .i64 (fr + z)].toArray 25)) 25 [.int .i64 fr, .int .i64 fr, .int .i64 (fr + z)]
        rw [World.size_alloc] at hb
        have ho := hown
        replace ho := ((own_grow ho c2).alloc (.cells [.int .i64 fr, .int .i64 fr, .int .i64 (fr + z)].toArray 25)).alloc (.cells [.int .i64 fr, .int .i64 fr, .int .i64 (fr + z)].toArray 25)
        have c3 := ((cc.trans c2).alloc (.cells [.int .i64 fr, .int .i64 fr, .int .i64 (fr + z)].toArray 25)).alloc (.cells [.int .i64 fr, .int .i64 fr, .int .i64 (fr + z)].toArray 25)
        have HNO := hide (own_old (own_grow hown c2) (Nat.le_refl _))
        have HS := hide hs
        have HB := hide hb
        have HO := hide ho
        have HC := hide c3
        clear hs hb ho c3 hown
        go_wp2_with (at_builtin; refine wpList_append_own _ rfl _ _ 45 rfl w.heap.size 25 i0 (spV 0 0 0) 3 24 Try.underlying45 HI.out HZ0.out HZ1.out HZ2.out rfl (by decide) _ _ _ rfl HO.out ⟨w2.heap.size + 1, 0, none⟩ 1 1 [.int .i64 fr, .int .i64 fr, .int .i64 (fr + z)] rfl rfl ?c1 ?c2 ?c3 ?c4 ?c5 ?_)
        case c1 => intro j u hj; rw [addr_add, Nat.zero_add, HB.out.cell]; exact hj
        case c2 => intro u hu; simp at hu; rcases hu with rfl | rfl <;> rfl
        case c3 => unfold maxLen; omega
        case c4 => omega
        case c5 => exact HC.out.size
        intro v' w3 hown3 hgrow _
        have c3 := Chg.grownOwn HC.out HO.out (Nat.le_refl _) hgrow
        have hs := HS.out.grownOwn hgrow HNO.out
        have HO3 := hide hown3
        have HC3 := hide c3
        clear hgrow hown3 c3 HC HO HNO HB HS cc c2
        obtain ⟨s0, s1, s2⟩ := hs.cell3
        clear hs
        go_wp2
        go_roundw
        case rel =>
          refine ⟨k + 1, fr + z, by omega, by go_num, rfl, by omega, l ++ [(fr, fr + z)], ?_, ?_, HC3.out⟩
          · have := spl_next (by rw [HZL.out]; exact hlt) HSP.out (by rw [← HZ.out]; exact HNW.out)
            rw [← HZ.out] at this
            exact this
          · rw [spCells_append]; exact HO3.out
        case measure => simp [intOf]; omega
      · have HNW := hide (show nwB fr z = false by simpa using hnw)
        clear hnw
        go_wp2_with fail
        refine (new_no fr z _ (by omega) (by omega) HNW.out).mono ?_
        rintro e w2 ⟨rfl, c2⟩
        go_wp2
        go_returns
        exact .inr ⟨spl_stop (by rw [HZL.out]; exact hlt) HSP.out (by rw [← HZ.out]; exact HNW.out), rfl, (cc.trans c2).alloc _⟩
    · obtain rfl : len = k := by omega
      have HO := hide hown
      clear hown
      go_wp2
      go_returns
      refine .inl ⟨l, _, ?_, rfl, by rw [HZL.out]; exact HO.out, cc⟩
      have := HSP.out
      rw [List.drop_eq_nil_of_le (by rw [HZL.out]; exact Nat.le_refl _)] at this
      simpa [spl] using this
set_option maxHeartbeats 2000000 in
set_option maxRecDepth 100000 in
theorem rsplit_any (f : Int) (a : Option Addr) (len cap : Nat) (zs : List Int) (w : World) (hf : f ≤ 9223372036854775807) (h0 : IsRow .i64 w a len cap zs) (hl : len ≤ 200) :
    Calls Try.prog 22 #[.int .i64 f, .slice a len cap] w (SplitPost 23 f zs w) := by
  have H0 := hide h0
  obtain ⟨hzl, -, -, -, -⟩ := h0
  have HZL := hide hzl
  clear hzl
  obtain ⟨i0, hi0, hz0, hz1, hz2⟩ := info_parts Try.infoRSp
  have HI := hide hi0
  have HZ0 := hide hz0
  have HZ1 := hide hz1
  have HZ2 := hide hz2
  clear hi0 hz0 hz1 hz2
  go_enter Try.func22, Try.ntmps22
  go_wp2
  go_loopw [0, 6, 12] (fun fv v i wr => ∃ (k : Nat) (fr : Int), k ≤ len ∧ i = .int .i64 k ∧ fv = .int .i64 fr ∧ fr ≤ 9223372036854775807 ∧ SplitAt 23 f zs w k fr v wr) (fun _ _ i _ => len - (intOf i).toNat)
  case atStart => exact ⟨0, f, Nat.zero_le _, rfl, rfl, hf, [], by simp, World.ownsRow_nil _ _ _ _, Chg.refl _ _⟩
  case round =>
    obtain ⟨k, fr, hk, rfl, rfl, hfr, l, hsp, hown, cc⟩ := hrel
    have HSP := hide hsp
    clear hsp
    by_cases hlt : k < len
    · obtain ⟨ad, rfl, hcell, hwf⟩ := (H0.out.chg cc (fun i hi => id)).at_ hlt
      have bz := bounds_i64 hwf
      obtain ⟨z, hz⟩ : ∃ z : Int, z = zs.getD k 0 := ⟨_, rfl⟩
      rw [← hz] at hcell bz
      have HZ := hide hz
      clear hz hwf
      by_cases hnw : nwB fr z = true
      · have hnw' : 0 ≤ fr ∧ 0 ≤ z ∧ z ≤ 4096 - fr := by simpa [nwB] using hnw
        have HNW := hide hnw
        clear hnw
        go_wp2_with fail
        refine (rnew_ok' fr z _ (by omega) (by omega) (by omega)).mono ?_
        rintro e w2 ⟨rfl, c2⟩
        have hs := (Blk.new w2 23 [.int .i64 fr, .int .i64 fr, .int .i64 (fr + z)]).alloc (.cells [.int .i64 fr, .int .i64 fr, .int .i64 (fr + z)].toArray 23)
        have hb := Blk.new (w2.alloc (.cells [.int .i64 fr, .int .i64 fr, .int .i64 (fr + z)].toArray 23)) 23 [.int .i64 fr, .int .i64 fr, .int .i64 (fr + z)]
        rw [World.size_alloc] at hb
        have ho := hown
        replace ho := ((own_grow ho c2).alloc (.cells [.int .i64 fr, .int .i64 fr, .int .i64 (fr + z)].toArray 23)).alloc (.cells [.int .i64 fr, .int .i64 fr, .int .i64 (fr + z)].toArray 23)
        have c3 := ((cc.trans c2).alloc (.cells [.int .i64 fr, .int .i64 fr, .int .i64 (fr + z)].toArray 23)).alloc (.cells [.int .i64 fr, .int .i64 fr, .int .i64 (fr + z)].toArray 23)
        have HNO := hide (own_old (own_grow hown c2) (Nat.le_refl _))
        have HS := hide hs
        have HB := hide hb
        have HO := hide ho
        have HC := hide c3
        clear hs hb ho c3 hown
        go_wp2_with (at_builtin; refine wpList_append_own _ rfl _ _ 48 rfl w.heap.size 23 i0 (spV 0 0 0) 3 24 Try.underlying48 HI.out HZ0.out HZ1.out HZ2.out rfl (by decide) _ _ _ rfl HO.out ⟨w2.heap.size + 1, 0, none⟩ 1 1 [.int .i64 fr, .int .i64 fr, .int .i64 (fr + z)] rfl rfl ?c1 ?c2 ?c3 ?c4 ?c5 ?_)
        case c1 => intro j u hj; rw [addr_add, Nat.zero_add, HB.out.cell]; exact hj
        case c2 => intro u hu; simp at hu; rcases hu with rfl | rfl <;> rfl
        case c3 => unfold maxLen; omega
        case c4 => omega
        case c5 => exact HC.out.size
        intro v' w3 hown3 hgrow _
        have c3 := Chg.grownOwn HC.out HO.out (Nat.le_refl _) hgrow
        have hs := HS.out.grownOwn hgrow HNO.out
        have HO3 := hide hown3
        have HC3 := hide c3
        clear hgrow hown3 c3 HC HO HNO HB HS cc c2
        obtain ⟨s0, s1, s2⟩ := hs.cell3
        clear hs
        go_wp2
        go_roundw
        case rel =>
          refine ⟨k + 1, fr + z, by omega, by go_num, rfl, by omega, l ++ [(fr, fr + z)], ?_, ?_, HC3.out⟩
          · have := spl_next (by rw [HZL.out]; exact hlt) HSP.out (by rw [← HZ.out]; exact HNW.out)
            rw [← HZ.out] at this
            exact this
          · rw [spCells_append]; exact HO3.out
        case measure => simp [intOf]; omega
      · have HNW := hide (show nwB fr z = false by simpa using hnw)
        clear hnw
        go_wp2_with fail
        refine (rnew_no fr z _ (by omega) (by omega) HNW.out).mono ?_
        rintro e w2 ⟨rfl, c2⟩
        go_wp2
        go_returns
        exact .inr ⟨spl_stop (by rw [HZL.out]; exact hlt) HSP.out (by rw [← HZ.out]; exact HNW.out), rfl, (cc.trans c2).alloc _⟩
    · obtain rfl : len = k := by omega
      have HO := hide hown
      clear hown
      go_wp2
      go_returns
      refine .inl ⟨l, _, ?_, rfl, by rw [HZL.out]; exact HO.out, cc⟩
      have := HSP.out
      rw [List.drop_eq_nil_of_le (by rw [HZL.out]; exact Nat.le_refl _)] at this
      simpa [spl] using this
end Go.Proofs.Ytbnnoelioiafdaa
