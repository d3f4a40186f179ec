/-
  The walk of the reference's Parse, its loop.
-/
import Derived.Test.YtihaggghmanamaaDoorSvQ
namespace Go.Proofs.YtihaggghmanamaaDoor
open Go.RowKit

theorem dropB (s : ByteArray) (j k : Nat) (x y z : Int) (hj : j < s.size) (h : M.refLoop 0 0 0 0 s.data.toList = M.refLoop k x y z (s.data.toList.drop j)) :
    M.refLoop 0 0 0 0 s.data.toList = M.refLoop k x y z (s[j] :: s.data.toList.drop (j + 1)) :=
  M.ref_snoc_none _ j k x y z s[j] (by rw [List.getElem?_eq_getElem (by rw [← Lib.size_eq]; exact hj)]; rfl) h

theorem hid_or (b : Bool) : Hid (b = false) ∨ Hid (b = true) := by cases b; exact .inl rfl; exact .inr rfl
theorem st_dot0 {l r : List UInt8} {x y z : Int} {c : UInt8} (h : M.refLoop 0 0 0 0 l = M.refLoop 0 x y z (c :: r)) (hc : ((c.toNat : Int) == 46) = true) : M.refLoop 0 0 0 0 l = M.refLoop 1 x y z r := by
  rw [h]; simp only [M.refLoop]; rw [if_pos (by simpa using hc)]; rfl
theorem st_dot1 {l r : List UInt8} {x y z : Int} {c : UInt8} (h : M.refLoop 0 0 0 0 l = M.refLoop 1 x y z (c :: r)) (hc : ((c.toNat : Int) == 46) = true) : M.refLoop 0 0 0 0 l = M.refLoop 2 x y z r := by
  rw [h]; simp only [M.refLoop]; rw [if_pos (by simpa using hc)]; rfl
theorem st_dot2 {l r : List UInt8} {x y z : Int} {c : UInt8} (h : M.refLoop 0 0 0 0 l = M.refLoop 2 x y z (c :: r)) (hc : ((c.toNat : Int) == 46) = true) : M.refLoop 0 0 0 0 l = none := by
  rw [h]; simp only [M.refLoop]; rw [if_pos (by simpa using hc)]; rfl
theorem st_bad {l r : List UInt8} {k : Nat} {x y z : Int} {c : UInt8} (h : M.refLoop 0 0 0 0 l = M.refLoop k x y z (c :: r)) (hc : ((c.toNat : Int) == 46) = false) (hb : (c.toNat : Int) < 48 ∨ 57 < (c.toNat : Int) ∨ 99999999 < M.cur k x y z) : M.refLoop 0 0 0 0 l = none := by
  have hc' : ¬ (c.toNat : Int) = 46 := by simpa using hc
  rw [h]; simp only [M.refLoop]; rw [if_neg hc', if_neg (by omega)]
theorem st_ok {l r : List UInt8} {k : Nat} {x y z : Int} {c : UInt8} (h : M.refLoop 0 0 0 0 l = M.refLoop k x y z (c :: r)) (hc : ((c.toNat : Int) == 46) = false) (h1 : 48 ≤ (c.toNat : Int)) (h2 : (c.toNat : Int) ≤ 57) (h3 : M.cur k x y z ≤ 99999999) :
    M.refLoop 0 0 0 0 l = if k = 0 then M.refLoop k (10 * x + (c.toNat : Int) - 48) y z r else if k = 1 then M.refLoop k x (10 * y + (c.toNat : Int) - 48) z r else M.refLoop k x y (10 * z + (c.toNat : Int) - 48) r := by
  have hc' : ¬ (c.toNat : Int) = 46 := by simpa using hc
  rw [h]; simp only [M.refLoop]; rw [if_neg hc', if_pos ⟨h1, h2, h3⟩]
  simp only [Int.add_sub_assoc]
theorem RW.drew {w wr : World} {x y z : Int} (h : RW w wr x y z) : RW w wr.drew x y z := by
  obtain ⟨hb, hl, c0, c1, c2, f0, f1, f2, r0, r1, r2, g0, g1, g2⟩ := h
  exact ⟨hb.drew, hl, c0, c1, c2, f0, f1, f2, r0, r1, r2, g0, g1, g2⟩

set_option maxHeartbeats 4000000 in
theorem refParse_any (s : ByteArray) (w : World) (hs : s.size ≤ 9223372036854775807) (hp : Pow w) :
    Calls Tryd.prog 12 #[.string s] w fun e w' => e = .returned (.tuple #[.agg #[.int .i64 (rA s.data.toList), .int .i64 (rB s.data.toList), .int .i64 (rC s.data.toList)], .bool (isVer s.data.toList)]) ∧ Below w.heap.size w w' := by
  have hlen : s.data.toList.length = s.size := (Lib.size_eq s).symm
  have HL := Lib.hid hlen; clear hlen
  by_cases hbig : 40 < s.size
  · rw [← ret_read (read_long (by rw [HL.out]; exact hbig))]
    go_enter Tryd.func12, Tryd.ntmps12
    go_wp2
    refine bodyPost_ret (v := .tuple #[.agg #[.int .i64 0, .int .i64 0, .int .i64 0], .bool false]) (by simp [results, Tryd.results12, go_sem]) rfl ⟨rfl, ?_⟩
    repeat (first | exact Below.refl _ _ | refine Below.drew ?_ | refine below_drewN ?_ _ | refine below_new ?_ _ | refine below_put ?_ (by simp) _ | refine below_over ?_ (by assumption))
  · have hR := RW.start w
    go_enter Tryd.func12, Tryd.ntmps12
    go_wp2
    go_loopw [5, 6] (fun kv i wr => ∃ (j k : Nat) (x y z : Int), j ≤ s.size ∧ i = .int .i64 j ∧ kv = .int .i64 k ∧ k ≤ 2 ∧ 0 ≤ x ∧ x ≤ 999999999 ∧ 0 ≤ y ∧ y ≤ 999999999 ∧ 0 ≤ z ∧ z ≤ 999999999 ∧ RW w wr x y z ∧ Hid (M.refLoop 0 0 0 0 s.data.toList = M.refLoop k x y z (s.data.toList.drop j))) (fun _ i _ => s.size - (intOf i).toNat)
    case atStart => exact ⟨0, 0, 0, 0, 0, Nat.zero_le _, rfl, rfl, by omega, by omega, by omega, by omega, by omega, by omega, by omega, hR, rfl⟩
    case round =>
      obtain ⟨j, k, x, y, z, hj, rfl, rfl, hk, hx0, hx1, hy0, hy1, hz0, hz1, hW, HQ⟩ := hrel
      have hW' := hW
      obtain ⟨hb, hl, c0, c1, c2, f0, f1, f2, r0, r1, r2, g0, g1, g2⟩ := hW
      by_cases hlt : j < s.size
      · have hq := dropB s j k x y z hlt HQ.out
        have HD := Lib.hid hq; clear hq HQ
        have hcs : k = 0 ∨ k = 1 ∨ k = 2 := by omega
        rcases hcs with rfl | rfl | rfl
        · have hc255 : (s[j].toNat : Int) ≤ 255 := by have := s[j].toNat_lt; omega
          have hc0 : 0 ≤ (s[j].toNat : Int) := by omega
          have q1 : IntKind.i64.wrap (10 * x) = 10 * x := IntWalk.i64_in _ (by omega)
          have q2 : IntKind.i64.wrap (10 * x + (s[j].toNat : Int)) = 10 * x + (s[j].toNat : Int) := IntWalk.i64_in _ (by omega)
          have q3 : IntKind.i64.wrap (10 * x + (s[j].toNat : Int) - 48) = 10 * x + (s[j].toNat : Int) - 48 := IntWalk.i64_in _ (by omega)
          have hjj : (0 : Int) ≤ (j : Int) := by omega
          have hjs : (j : Int) < (s.size : Int) := by omega
          go_wp2
          all_goals first
          | (go_roundw
             case rel => exact ⟨j + 1, 1, x, y, z, by omega, by go_num, rfl, by omega, by omega, by omega, by omega, by omega, by omega, by omega, hW', st_dot0 HD.out (by assumption)⟩
             case measure => simp [intOf]; omega)
          | (refine bodyPost_ret (v := .tuple #[.agg #[.int .i64 0, .int .i64 0, .int .i64 0], .bool false]) (by simp [results, Tryd.results12, go_sem, r0, r1, r2]) rfl ⟨ret_read (read_none (st_bad HD.out (by assumption) (by first | exact .inl ‹_› | exact .inr (.inl ‹_›) | exact .inr (.inr ‹_›)))), ?_⟩
             repeat (first | exact hW'.below | refine Below.drew ?_ | refine below_put ?_ (by simp) _))
          | (go_region
             go_wp2
             go_roundw
             case rel => exact ⟨j + 1, 0, _, y, z, by omega, by go_num, rfl, by omega, by omega, by omega, by omega, by omega, by omega, by omega, (RW.put _ _ _ _ _ _ hW'.drew).1, st_ok (k := 0) HD.out (by assumption) (by assumption) (by assumption) (by assumption)⟩
             case measure => simp [intOf]; omega)
        · have hc255 : (s[j].toNat : Int) ≤ 255 := by have := s[j].toNat_lt; omega
          have hc0 : 0 ≤ (s[j].toNat : Int) := by omega
          have q1 : IntKind.i64.wrap (10 * y) = 10 * y := IntWalk.i64_in _ (by omega)
          have q2 : IntKind.i64.wrap (10 * y + (s[j].toNat : Int)) = 10 * y + (s[j].toNat : Int) := IntWalk.i64_in _ (by omega)
          have q3 : IntKind.i64.wrap (10 * y + (s[j].toNat : Int) - 48) = 10 * y + (s[j].toNat : Int) - 48 := IntWalk.i64_in _ (by omega)
          have hjj : (0 : Int) ≤ (j : Int) := by omega
          have hjs : (j : Int) < (s.size : Int) := by omega
          go_wp2
          all_goals first
          | (go_roundw
             case rel => exact ⟨j + 1, 2, x, y, z, by omega, by go_num, rfl, by omega, by omega, by omega, by omega, by omega, by omega, by omega, hW', st_dot1 HD.out (by assumption)⟩
             case measure => simp [intOf]; omega)
          | (refine bodyPost_ret (v := .tuple #[.agg #[.int .i64 0, .int .i64 0, .int .i64 0], .bool false]) (by simp [results, Tryd.results12, go_sem, r0, r1, r2]) rfl ⟨ret_read (read_none (st_bad HD.out (by assumption) (by first | exact .inl ‹_› | exact .inr (.inl ‹_›) | exact .inr (.inr ‹_›)))), ?_⟩
             repeat (first | exact hW'.below | refine Below.drew ?_ | refine below_put ?_ (by simp) _))
          | (go_region
             go_wp2
             go_roundw
             case rel => exact ⟨j + 1, 1, x, _, z, by omega, by go_num, rfl, by omega, by omega, by omega, by omega, by omega, by omega, by omega, (RW.put _ _ _ _ _ _ hW'.drew).2.1, st_ok (k := 1) HD.out (by assumption) (by assumption) (by assumption) (by assumption)⟩
             case measure => simp [intOf]; omega)
        · have hc255 : (s[j].toNat : Int) ≤ 255 := by have := s[j].toNat_lt; omega
          have hc0 : 0 ≤ (s[j].toNat : Int) := by omega
          have q1 : IntKind.i64.wrap (10 * z) = 10 * z := IntWalk.i64_in _ (by omega)
          have q2 : IntKind.i64.wrap (10 * z + (s[j].toNat : Int)) = 10 * z + (s[j].toNat : Int) := IntWalk.i64_in _ (by omega)
          have q3 : IntKind.i64.wrap (10 * z + (s[j].toNat : Int) - 48) = 10 * z + (s[j].toNat : Int) - 48 := IntWalk.i64_in _ (by omega)
          have hjj : (0 : Int) ≤ (j : Int) := by omega
          have hjs : (j : Int) < (s.size : Int) := by omega
          go_wp2
          all_goals first
          | (refine bodyPost_ret (v := .tuple #[.agg #[.int .i64 0, .int .i64 0, .int .i64 0], .bool false]) (by simp [results, Tryd.results12, go_sem, r0, r1, r2]) rfl ⟨ret_read (read_none (st_dot2 HD.out (by assumption))), ?_⟩
             repeat (first | exact hW'.below | refine Below.drew ?_ | refine below_put ?_ (by simp) _))
          | (refine bodyPost_ret (v := .tuple #[.agg #[.int .i64 0, .int .i64 0, .int .i64 0], .bool false]) (by simp [results, Tryd.results12, go_sem, r0, r1, r2]) rfl ⟨ret_read (read_none (st_bad HD.out (by assumption) (by first | exact .inl ‹_› | exact .inr (.inl ‹_›) | exact .inr (.inr ‹_›)))), ?_⟩
             repeat (first | exact hW'.below | refine Below.drew ?_ | refine below_put ?_ (by simp) _))
          | (go_region
             go_wp2
             go_roundw
             case rel => exact ⟨j + 1, 2, x, y, _, by omega, by go_num, rfl, by omega, by omega, by omega, by omega, by omega, by omega, by omega, (RW.put _ _ _ _ _ _ hW'.drew).2.2, st_ok (k := 2) HD.out (by assumption) (by assumption) (by assumption) (by assumption)⟩
             case measure => simp [intOf]; omega)
      · obtain rfl : j = s.size := by omega
        have hq : M.refLoop 0 0 0 0 s.data.toList = some (x, y, z) := by
          rw [HQ.out, List.drop_of_length_le (by rw [HL.out]; exact Nat.le_refl _)]; rfl
        have HE := Lib.hid hq; clear hq HQ
        have hl' : w.heap.size < wr.heap.size := by omega
        rcases hid_or (okVer x y z) with H | H
        · skip
          go_wp2
          go_region
          go_wp2_with fail
          refine (refMay_any _ _ _ _).mono ?_; rintro e w1 ⟨rfl, hb1⟩; rw [H.out]
          obtain ⟨hc1, hf1⟩ := bcell hb1
          have hz1 : w.heap.size + 1 < w1.heap.size := by have := hb1.size; (try simp at this); omega
          have hz1' : w.heap.size < w1.heap.size := by omega
          have hz1w : wr.heap.size < w1.heap.size := by have := hb1.size; (try simp at this); omega
          have hx1 : Below wr.heap.size wr w1 := by repeat (first | exact Below.refl _ _ | refine Below.drew ?_ | refine below_new ?_ _ | refine below_over ?_ (by assumption))
          have k0 := (hx1.cell (p := ⟨w.heap.size, 0, none⟩) hl').trans r0
          have k1 := (hx1.cell (p := ⟨w.heap.size, 1, none⟩) hl').trans r1
          have k2 := (hx1.cell (p := ⟨w.heap.size, 2, none⟩) hl').trans r2
          go_wp2
          refine bodyPost_ret (v := .tuple #[.agg #[.int .i64 0, .int .i64 0, .int .i64 0], .bool false]) (by simp [results, Tryd.results12, go_sem, k0, k1, k2]) rfl ⟨ret_read (read_not HE.out (.inl H.out)), ?_⟩
          repeat (first | exact hW'.below | refine Below.drew ?_ | refine below_put ?_ (by simp) _ | refine below_new ?_ _ | refine below_over ?_ (by assumption))
        · rcases hid_or ((verText x y z).toList == s.toList) with E | E
          · have e1 := E.out
            have e2 : (!((verText x y z).toList == s.toList)) = true := by rw [e1]; rfl
            have hne : M.vt x y z ≠ s.data.toList := by
              intro e
              have := verText_eq e.symm
              rw [← this] at e1
              simp at e1
            have HN := Lib.hid hne; clear hne
            go_wp2
            go_region
            go_wp2_with fail
            refine (refMay_any _ _ _ _).mono ?_; rintro e w1 ⟨rfl, hb1⟩; rw [H.out]
            obtain ⟨hc1, hf1⟩ := bcell hb1
            have hz1 : w.heap.size + 1 < w1.heap.size := by have := hb1.size; (try simp at this); omega
            have hz1' : w.heap.size < w1.heap.size := by omega
            have hz1w : wr.heap.size < w1.heap.size := by have := hb1.size; (try simp at this); omega
            go_wp2_with fail
            refine (refPrint_any _ _ _ _ ⟨by omega, by omega⟩ ⟨by omega, by omega⟩ ⟨by omega, by omega⟩ (hp.on (by repeat (first | exact hW'.below | refine Below.drew ?_ | refine below_put ?_ (by simp) _ | refine below_new ?_ _ | refine below_over ?_ (by assumption))))).mono ?_; rintro e w2 ⟨rfl, hb2⟩
            obtain ⟨hc2, hf2⟩ := bcell hb2
            have hz2 : w.heap.size + 1 < w2.heap.size := by have := hb2.size; (try simp at this); omega
            have hz2' : w.heap.size < w2.heap.size := by omega
            have hz2w : wr.heap.size < w2.heap.size := by have := hb2.size; (try simp at this); omega
            have hx2 : Below wr.heap.size wr w2 := by repeat (first | exact Below.refl _ _ | refine Below.drew ?_ | refine below_new ?_ _ | refine below_over ?_ (by assumption))
            have k0 := (hx2.cell (p := ⟨w.heap.size, 0, none⟩) hl').trans r0
            have k1 := (hx2.cell (p := ⟨w.heap.size, 1, none⟩) hl').trans r1
            have k2 := (hx2.cell (p := ⟨w.heap.size, 2, none⟩) hl').trans r2
            go_wp2
            refine bodyPost_ret (v := .tuple #[.agg #[.int .i64 0, .int .i64 0, .int .i64 0], .bool false]) (by simp [results, Tryd.results12, go_sem, k0, k1, k2]) rfl ⟨ret_read (read_not HE.out (.inr HN.out)), ?_⟩
            repeat (first | exact hW'.below | refine Below.drew ?_ | refine below_put ?_ (by simp) _ | refine below_new ?_ _ | refine below_over ?_ (by assumption))
          · have e1 := E.out
            have e2 : (!((verText x y z).toList == s.toList)) = false := by rw [e1]; rfl
            have heq : M.vt x y z = s.data.toList := by
              have := eq_of_beq e1
              rw [Lib.toList_data, Lib.toList_data, verText_list] at this
              exact this
            have HN := Lib.hid heq; clear heq
            go_wp2
            go_region
            go_wp2_with fail
            refine (refMay_any _ _ _ _).mono ?_; rintro e w1 ⟨rfl, hb1⟩; rw [H.out]
            obtain ⟨hc1, hf1⟩ := bcell hb1
            have hz1 : w.heap.size + 1 < w1.heap.size := by have := hb1.size; (try simp at this); omega
            have hz1' : w.heap.size < w1.heap.size := by omega
            have hz1w : wr.heap.size < w1.heap.size := by have := hb1.size; (try simp at this); omega
            go_wp2_with fail
            refine (refPrint_any _ _ _ _ ⟨by omega, by omega⟩ ⟨by omega, by omega⟩ ⟨by omega, by omega⟩ (hp.on (by repeat (first | exact hW'.below | refine Below.drew ?_ | refine below_put ?_ (by simp) _ | refine below_new ?_ _ | refine below_over ?_ (by assumption))))).mono ?_; rintro e w2 ⟨rfl, hb2⟩
            obtain ⟨hc2, hf2⟩ := bcell hb2
            have hz2 : w.heap.size + 1 < w2.heap.size := by have := hb2.size; (try simp at this); omega
            have hz2' : w.heap.size < w2.heap.size := by omega
            have hz2w : wr.heap.size < w2.heap.size := by have := hb2.size; (try simp at this); omega
            have hx2 : Below wr.heap.size wr w2 := by repeat (first | exact Below.refl _ _ | refine Below.drew ?_ | refine below_new ?_ _ | refine below_over ?_ (by assumption))
            have k0 := (hx2.cell (p := ⟨w.heap.size, 0, none⟩) hl').trans r0
            have k1 := (hx2.cell (p := ⟨w.heap.size, 1, none⟩) hl').trans r1
            have k2 := (hx2.cell (p := ⟨w.heap.size, 2, none⟩) hl').trans r2
            go_wp2
            refine bodyPost_ret (v := .tuple #[.agg #[.int .i64 x, .int .i64 y, .int .i64 z], .bool true]) (by simp [results, Tryd.results12, go_sem, k0, k1, k2]) rfl ⟨ret_read (read_yes H.out HN.out), ?_⟩
            repeat (first | exact hW'.below | refine Below.drew ?_ | refine below_put ?_ (by simp) _ | refine below_new ?_ _ | refine below_over ?_ (by assumption))

end Go.Proofs.YtihaggghmanamaaDoor
