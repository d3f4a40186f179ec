/-
  Several texts in one:  · 
-/
import Derived.Test.YtkgmdbkcldojnaaGreatDoorK23
import Derived.Test.YtkgmdbkcldojnaaGreatDoorK26
import Derived.Test.YtkgmdbkcldojnaaGreatDoorK21
/-  -/
namespace Go.Proofs.YtkgmdbkcldojnaaGreatDoor
open Go Go.RowKit Go.Shelf
open Go.Sort Go.Maps
open M
def exC (s : UInt8) : List Value := [.int .i64 8, .string ⟨#[]⟩, .int .i64 0, .string ⟨#[]⟩, .string ⟨#[s]⟩, .slice none 0 0, .slice none 0 0]
def exL (s : UInt8) : Ty := .mk 8 ⟨#[]⟩ 0 ⟨#[]⟩ ⟨#[s]⟩ [] []
def exLi : Ty := .mk 4 ⟨#[]⟩ 0 ⟨#[]⟩ ⟨#[]⟩ [] [exL 84]
def exM : Mo := ⟨⟨#[109]⟩, [], [⟨3, ⟨#[65]⟩, exLi⟩, ⟨1, ⟨#[84]⟩, noT⟩]⟩
def exU : Ty := .mk 4 ⟨#[]⟩ 0 ⟨#[]⟩ ⟨#[]⟩ [] [.mk 9 ⟨#[112]⟩ 1 ⟨#[109]⟩ ⟨#[84]⟩ [] []]
theorem exA_may : mayT (exL 65) = true := by decide +kernel
theorem exM_may : mayM exM = true := by decide +kernel
theorem exU_may : mayT exU = true := by decide +kernel
theorem exU_text : tB exU = ⟨#[76, 105, 115, 116, 40, 60, 112, 32, 49, 32, 109, 32, 84, 62, 41]⟩ := by decide +kernel
theorem exT_at : typAt exM ⟨#[84]⟩ = some 1 := by decide +kernel
theorem exA_at : typAt exM ⟨#[65]⟩ = some 0 := by decide +kernel
theorem exLi_said : saidT exM exLi = [1] := by decide +kernel
theorem exN_said : saidT exM noT = [] := by decide +kernel
theorem ex_reach {i : Nat} (h : Reach (entries exM) [1] i) : i = 1 := by
  induction h with
  | one h => simpa using h
  | step _ hx hi ih =>
    subst ih
    have h1 := entries_at (m := exM) (i := 1) (d := ⟨1, ⟨#[84]⟩, noT⟩) rfl
    rw [h1] at hx
    cases hx
    rw [exN_said] at hi
    cases hi
theorem ex_none {i : Nat} (h : Reach (entries exM) [] i) : False := by
  induction h with
  | one h => cases h
  | step _ _ _ ih => exact ih
theorem exM_ok : Ok7 exM := by
  have two : ∀ (i : Nat) (d : De), exM.decs[i]? = some d → (i = 0 ∧ d = ⟨3, ⟨#[65]⟩, exLi⟩) ∨ (i = 1 ∧ d = ⟨1, ⟨#[84]⟩, noT⟩) := fun i d h => by
    match i, h with
    | 0, h => simp [exM] at h; exact .inl ⟨rfl, h.symm⟩
    | 1, h => simp [exM] at h; exact .inr ⟨rfl, h.symm⟩
    | i + 2, h => simp [exM] at h
  refine ⟨fun i h => by simp [exM] at h, fun i h => ?_, fun i d h => ?_, fun i d h hr => ?_, fun i j d e h h' _ => ?_⟩
  · match i, h with
    | 0, _ => decide +kernel
    | 1, _ => decide +kernel
    | i + 2, h => simp [exM] at h; omega
  · rcases two i d h with ⟨-, rfl⟩ | ⟨-, rfl⟩ <;> decide +kernel
  · rcases two i d h with ⟨rfl, rfl⟩ | ⟨rfl, rfl⟩
    · rw [show (De.mk 3 ⟨#[65]⟩ exLi).typ = exLi from rfl, exLi_said] at hr
      have := ex_reach hr
      omega
    · rw [show (De.mk 1 ⟨#[84]⟩ noT).typ = noT from rfl, exN_said] at hr
      exact ex_none hr
  · rcases two j e h' with ⟨-, rfl⟩ | ⟨-, rfl⟩ <;> decide
theorem ex_mayN : MayN exM ⟨#[112]⟩ 1 [] := ⟨⟨exM_may, exM_ok⟩, by decide +kernel, by decide⟩
theorem ex_known : (locT (exL 65)).all (knoN exM) = true := by decide +kernel
theorem exLi_loc : locT exLi = [exL 84] := by rfl
theorem exA_loc : locT (exL 65) = [exL 65] := by rfl
theorem ex_lacks : ((allK exM (exL 65) exM.decs.length).any fun s => lacksN exM [] (locT s)) = false := by
  rw [List.any_eq_false]
  intro s hs
  rcases allK_mem hs with rfl | ⟨k, d, hd, h3, -, rfl⟩
  · rw [exA_loc]; decide
  · match k, hd with
    | 0, hd => simp [exM] at hd; subst hd; rw [show (De.mk 3 ⟨#[65]⟩ exLi).typ = exLi from rfl, exLi_loc]; decide
    | 1, hd => simp [exM] at hd; subst hd; simp at h3
    | k + 2, hd => simp [exM] at hd
theorem ex_exp : ExpH (meanT exM ⟨#[112]⟩ 1 []) 5 (exL 65) exU := by
  have hA : meanT exM ⟨#[112]⟩ 1 [] (exL 65) = some exLi := by
    unfold meanT
    rw [if_pos (show (exL 65).mod.size = 0 from rfl), show (exL 65).name = ⟨#[65]⟩ from rfl, exA_at]
    rfl
  have hT : meanT exM ⟨#[112]⟩ 1 [] (exL 84) = some (.mk 9 ⟨#[112]⟩ 1 ⟨#[109]⟩ ⟨#[84]⟩ [] []) := by
    unfold meanT
    rw [if_pos (show (exL 84).mod.size = 0 from rfl), show (exL 84).name = ⟨#[84]⟩ from rfl, exT_at]
    rfl
  refine .inl ⟨rfl, _, hA, .inr ⟨by decide, [.mk 9 ⟨#[112]⟩ 1 ⟨#[109]⟩ ⟨#[84]⟩ [] []], rfl, rfl, fun i s v hs hv => ?_⟩⟩
  match i, hs, hv with
  | 0, hs, hv =>
    simp [exLi, Ty.subs] at hs hv
    subst hs hv
    exact .inl ⟨rfl, _, hT, .inr ⟨by decide, [], rfl, rfl, fun i s v hs _ => by simp [Ty.subs] at hs⟩⟩
  | i + 1, hs, hv => simp [exLi, Ty.subs] at hs
theorem ex_is {c : Int} {u : Ty} (h : EpIs exM ⟨#[112]⟩ 1 [] (exL 65) c u) : c = 0 ∧ u = exU := by
  rcases h with ⟨-, -, h⟩ | ⟨-, -, h⟩
  · exact absurd ⟨ex_mayN, exA_may⟩ h
  · rcases h with ⟨-, -, h⟩ | ⟨-, h⟩
    · rw [ex_known] at h; cases h
    · rcases h with ⟨-, -, h⟩ | ⟨-, hh, x, hx, h⟩
      · rw [ex_lacks] at h; cases h
      · obtain rfl := exp_one _ _ _ _ _ hx ex_exp
        rcases h with ⟨-, -, h⟩ | ⟨hc, hu, -⟩
        · rcases h with h | h
          · exact absurd h (by decide +kernel)
          · exact absurd h (by decide +kernel)
        · exact ⟨hc, hu⟩
theorem exC_at (w : World) (s : UInt8) : TyAt w (exC s) (exL s) :=
  .mk 8 ⟨#[]⟩ 0 ⟨#[]⟩ ⟨#[s]⟩ [] [] none 0 none 0 (fun _ => exC 0) (by decide) (by decide) (by show (1 : Nat) ≤ _; decide) (by decide) (by decide) (by decide) (fun i s h => by simp at h) (fun _ => rfl) (fun i t h => by simp at h) (fun i t h => by simp at h)
def exLiC (g : Nat) : List Value := [.int .i64 4, .string ⟨#[]⟩, .int .i64 0, .string ⟨#[]⟩, .string ⟨#[]⟩, .slice none 0 0, .slice (some ⟨g, 0, none⟩) 1 1]
theorem li_at (w : World) (g : Nat) (t : Ty) (l : List Value) (hT : TyAt w l t) (hc : w.heap[g]? = some (.cells l.toArray 30 (0, 0))) : TyAt w (exLiC g) (.mk 4 ⟨#[]⟩ 0 ⟨#[]⟩ ⟨#[]⟩ [] [t]) := by
  refine .mk 4 ⟨#[]⟩ 0 ⟨#[]⟩ ⟨#[]⟩ [] [t] none 0 (some ⟨g, 0, none⟩) 1 (fun _ => l) (by decide) (by decide) (by decide) (by decide) (by simp) (by simp) (fun i s h => by simp at h) (fun i => hT.len) (fun i t h => ?_) (fun i t h => ?_)
  · refine ⟨g, 0, rfl, (Array.getElem?_eq_some_iff.1 hc).1, fun j v hv => ?_⟩
    have hi : i = 0 := by have := (List.getElem?_eq_some_iff.1 h).1; simp at this; exact this
    subst hi
    rw [Lib.cell_of_heap hc, List.getElem?_toArray, show 0 + 0 * 7 + j = j by omega]
    exact hv
  · have hi : i = 0 := by have := (List.getElem?_eq_some_iff.1 h).1; simp at this; exact this
    subst hi
    cases h
    exact hT
def exDC (g : Nat) : List Value := [.int .i64 3, .string ⟨#[65]⟩, .int .i64 4, .string ⟨#[]⟩, .int .i64 0, .string ⟨#[]⟩, .string ⟨#[]⟩, .slice none 0 0, .slice (some ⟨g, 0, none⟩) 1 1, .int .i64 1, .string ⟨#[84]⟩, .int .i64 0, .string ⟨#[]⟩, .int .i64 0, .string ⟨#[]⟩, .string ⟨#[]⟩, .slice none 0 0, .slice none 0 0]
theorem exM_at (w : World) (g d : Nat) (hc : w.heap[g]? = some (.cells (exC 84).toArray 30 (0, 0))) (hd : w.heap[d]? = some (.cells (exDC g).toArray 63 (0, 0))) :
    MoAt w [.string ⟨#[109]⟩, .slice none 0 0, .slice (some ⟨d, 0, none⟩) 2 2] exM := by
  refine ⟨none, 0, some ⟨d, 0, none⟩, 2, rfl, by decide, by decide, by decide, fun i x h => by simp [exM] at h, fun i x h => ?_⟩
  have hdl := (Array.getElem?_eq_some_iff.1 hd).1
  match i, h with
  | 0, h =>
    simp [exM] at h
    subst h
    refine ⟨d, 0, .int .i64 3 :: .string ⟨#[65]⟩ :: exLiC g, rfl, hdl, fun j v hv => ?_, by show (1 : Nat) ≤ _; decide, exLiC g, rfl, li_at w g (exL 84) _ (exC_at w 84) hc⟩
    have hj := (List.getElem?_eq_some_iff.1 hv).1
    rw [Lib.cell_of_heap hd, List.getElem?_toArray, show 0 + 0 * deR.k + j = j by omega, ← hv]
    exact List.getElem?_append_left (l₁ := .int .i64 3 :: .string ⟨#[65]⟩ :: exLiC g) (l₂ := [.int .i64 1, .string ⟨#[84]⟩, .int .i64 0, .string ⟨#[]⟩, .int .i64 0, .string ⟨#[]⟩, .string ⟨#[]⟩, .slice none 0 0, .slice none 0 0]) hj
  | 1, h =>
    simp [exM] at h
    subst h
    refine ⟨d, 0, [.int .i64 1, .string ⟨#[84]⟩, .int .i64 0, .string ⟨#[]⟩, .int .i64 0, .string ⟨#[]⟩, .string ⟨#[]⟩, .slice none 0 0, .slice none 0 0], rfl, hdl, fun j v hv => ?_, by show (1 : Nat) ≤ _; decide, [.int .i64 0, .string ⟨#[]⟩, .int .i64 0, .string ⟨#[]⟩, .string ⟨#[]⟩, .slice none 0 0, .slice none 0 0], rfl, zero_at w⟩
    have hj := (List.getElem?_eq_some_iff.1 hv).1
    rw [Lib.cell_of_heap hd, List.getElem?_toArray, show 0 + 1 * deR.k + j = 9 + j by show 0 + 1 * 9 + j = 9 + j; omega, ← hv]
    exact (List.getElem?_append_right (l₁ := .int .i64 3 :: .string ⟨#[65]⟩ :: exLiC g) (l₂ := [.int .i64 1, .string ⟨#[84]⟩, .int .i64 0, .string ⟨#[]⟩, .int .i64 0, .string ⟨#[]⟩, .string ⟨#[]⟩, .slice none 0 0, .slice none 0 0]) (by show 9 ≤ 9 + j; omega)).trans (by show _[9 + j - 9]? = _; rw [Nat.add_sub_cancel_left])
  | i + 2, h => simp [exM] at h
set_option maxRecDepth 100000 in
set_option maxHeartbeats 8000000 in
theorem up8_any (w : World) (hP : Pow w) : Calls Tryz.prog 6 #[] w fun e w' => e = .returned (.bool true) ∧ Below w.heap.size w w' := by
  have HP := Lib.hid hP
  obtain ⟨w1, hw1⟩ : ∃ w1, w1 = w.alloc (.cells #[.int .i64 8, .string ⟨#[]⟩, .int .i64 0, .string ⟨#[]⟩, .string ⟨#[65]⟩, .slice none 0 0, .slice none 0 0] 30) := ⟨_, rfl⟩
  obtain ⟨w2, hw2⟩ : ∃ w2, w2 = w1.alloc (.cells #[.int .i64 8, .string ⟨#[]⟩, .int .i64 0, .string ⟨#[]⟩, .string ⟨#[84]⟩, .slice none 0 0, .slice none 0 0] 30) := ⟨_, rfl⟩
  obtain ⟨w3, hw3⟩ : ∃ w3, w3 = w2.alloc (.cells #[.int .i64 3, .string ⟨#[65]⟩, .int .i64 4, .string ⟨#[]⟩, .int .i64 0, .string ⟨#[]⟩, .string ⟨#[]⟩, .slice none 0 0, .slice (some ⟨w.heap.size + 1, 0, none⟩) 1 1, .int .i64 1, .string ⟨#[84]⟩, .int .i64 0, .string ⟨#[]⟩, .int .i64 0, .string ⟨#[]⟩, .string ⟨#[]⟩, .slice none 0 0, .slice none 0 0] 63) := ⟨_, rfl⟩
  obtain ⟨w4, hw4⟩ : ∃ w4, w4 = w3.alloc (.cells #[.string ⟨#[109]⟩, .slice none 0 0, .slice (some ⟨w.heap.size + 1 + 1, 0, none⟩) 2 2] 25) := ⟨_, rfl⟩
  have s1 : w1.heap.size = w.heap.size + 1 := by rw [hw1]; simp
  have s2 : w2.heap.size = w.heap.size + 1 + 1 := by rw [hw2]; simp [s1]
  have s3 : w3.heap.size = w.heap.size + 1 + 1 + 1 := by rw [hw3]; simp [s2]
  have s4 : w4.heap.size = w.heap.size + 1 + 1 + 1 + 1 := by rw [hw4]; simp [s3]
  have B1 : Below w.heap.size w w1 := by rw [hw1]; exact below_new (Below.refl _ _) _
  have B2 : Below w1.heap.size w1 w2 := by rw [hw2]; exact below_new (Below.refl _ _) _
  have B3 : Below w2.heap.size w2 w3 := by rw [hw3]; exact below_new (Below.refl _ _) _
  have B4 : Below w3.heap.size w3 w4 := by rw [hw4]; exact below_new (Below.refl _ _) _
  have X1 : w1.heap[w.heap.size]? = some (.cells (exC 65).toArray 30 (0, 0)) := by rw [hw1]; exact heap_alloc_new w _
  have X2 : w2.heap[w.heap.size + 1]? = some (.cells (exC 84).toArray 30 (0, 0)) := by rw [hw2, ← s1]; exact heap_alloc_new w1 _
  have X3 : w3.heap[w.heap.size + 1 + 1]? = some (.cells (exDC (w.heap.size + 1)).toArray 63 (0, 0)) := by rw [hw3, ← s2]; exact heap_alloc_new w2 _
  have X4 : w4.heap[w.heap.size + 1 + 1 + 1]? = some (.cells #[.string ⟨#[109]⟩, .slice none 0 0, .slice (some ⟨w.heap.size + 1 + 1, 0, none⟩) 2 2] 25 (0, 0)) := by rw [hw4, ← s3]; exact heap_alloc_new w3 _
  have B24 := below_over B3 B4
  have B14 := below_over B2 B24
  have HB4 := Lib.hid (below_over B1 B14)
  have EC := Lib.hid (expand8_any exM ⟨#[112]⟩ 1 [] none 0 (some ⟨w.heap.size + 1 + 1, 0, none⟩) 2 none 0 (exL 65) (exC 65) w4 (exM_at w4 (w.heap.size + 1) (w.heap.size + 1 + 1) ((B24.block _ (by omega)).trans X2) ((B4.block _ (by omega)).trans X3)) (CapsAt.of (m := exM) (Nat.le_refl _) (Nat.le_refl _) rfl)
    (by decide) (fun i x h => by simp at h) (by decide) (exC_at w4 65) (fun d hd => by simp [exM] at hd; rcases hd with rfl | rfl <;> decide +kernel))
  have X1' : w4.heap[w.heap.size]? = some (.cells #[.int .i64 8, .string ⟨#[]⟩, .int .i64 0, .string ⟨#[]⟩, .string ⟨#[65]⟩, .slice none 0 0, .slice none 0 0] 30 (0, 0)) := (B14.block w.heap.size (by omega)).trans X1
  have HW : Hid ((((w.alloc (.cells #[.int .i64 8, .string ⟨#[]⟩, .int .i64 0, .string ⟨#[]⟩, .string ⟨#[65]⟩, .slice none 0 0, .slice none 0 0] 30)).alloc (.cells #[.int .i64 8, .string ⟨#[]⟩, .int .i64 0, .string ⟨#[]⟩, .string ⟨#[84]⟩, .slice none 0 0, .slice none 0 0] 30)).alloc (.cells #[.int .i64 3, .string ⟨#[65]⟩, .int .i64 4, .string ⟨#[]⟩, .int .i64 0, .string ⟨#[]⟩, .string ⟨#[]⟩, .slice none 0 0, .slice (some ⟨w.heap.size + 1, 0, none⟩) 1 1, .int .i64 1, .string ⟨#[84]⟩, .int .i64 0, .string ⟨#[]⟩, .int .i64 0, .string ⟨#[]⟩, .string ⟨#[]⟩, .slice none 0 0, .slice none 0 0] 63)).alloc (.cells #[.string ⟨#[109]⟩, .slice none 0 0, .slice (some ⟨w.heap.size + 1 + 1, 0, none⟩) 2 2] 25) = w4) := Lib.hid (by rw [hw4, hw3, hw2, hw1])
  have a0 := Lib.cell_of_heap X1' 0
  have a1 := Lib.cell_of_heap X1' 1
  have a2 := Lib.cell_of_heap X1' 2
  have a3 := Lib.cell_of_heap X1' 3
  have a4 := Lib.cell_of_heap X1' 4
  have a5 := Lib.cell_of_heap X1' 5
  have a6 := Lib.cell_of_heap X1' 6
  have b0 := Lib.cell_of_heap X4 0
  have b1 := Lib.cell_of_heap X4 1
  have b2 := Lib.cell_of_heap X4 2
  simp at a0 a1 a2 a3 a4 a5 a6 b0 b1 b2
  clear hw1 hw2 hw3 hw4 s1 s2 s3 s4 B1 B2 B3 B4 X1 X2 X3 X4 X1' B24 B14 hP
  go_enter Tryz.func6, Tryz.ntmps6
  go_upto_region 3 with fail
  rw [HW.out]
  go_wp2_with fail
  refine EC.out.mono ?_; rintro e w5 ⟨c, u, l, hep, rfl, hT, hb5⟩
  obtain ⟨rfl, rfl⟩ := ex_is hep
  obtain ⟨Cn, cC, Cs, dC, rfl, -⟩ := hT.parts
  have ev : errV 0 = .nilIface := rfl
  rw [ev]
  obtain ⟨w6, hw6⟩ : ∃ w6, w6 = w5.alloc (.cells #[.int .i64 exU.kind, .string exU.pkg, .int .i64 exU.major, .string exU.mod, .string exU.name, .slice Cn exU.names.length cC, .slice Cs exU.subs.length dC] 30) := ⟨_, rfl⟩
  have B6 : Below w5.heap.size w5 w6 := by rw [hw6]; exact below_new (Below.refl _ _) _
  have Y6 : w6.heap[w5.heap.size]? = some (.cells #[.int .i64 exU.kind, .string exU.pkg, .int .i64 exU.major, .string exU.mod, .string exU.name, .slice Cn exU.names.length cC, .slice Cs exU.subs.length dC] 30 (0, 0)) := by rw [hw6]; exact heap_alloc_new w5 _
  have HB6 : Hid (Below w.heap.size w w6) := Lib.hid (below_over (below_over HB4.out hb5) B6)
  have PC := Lib.hid (printK_yes exU exU_may (by decide +kernel) (.agg #[.int .i64 exU.kind, .string exU.pkg, .int .i64 exU.major, .string exU.mod, .string exU.name, .slice Cn exU.names.length cC, .slice Cs exU.subs.length dC]) w6 ⟨_, rfl, hT.free.keep B6⟩ (HP.out.on HB6.out))
  have HW6 := Lib.hid hw6
  clear a0 a1 a2 a3 a4 a5 a6 b0 b1 b2 hep hT hb5 B6 hw6 EC ev
  go_upto_region 4 with fail
  rw [← HW6.out]
  have y0 := Lib.cell_of_heap Y6 0
  have y1 := Lib.cell_of_heap Y6 1
  have y2 := Lib.cell_of_heap Y6 2
  have y3 := Lib.cell_of_heap Y6 3
  have y4 := Lib.cell_of_heap Y6 4
  have y5 := Lib.cell_of_heap Y6 5
  have y6 := Lib.cell_of_heap Y6 6
  simp at y0 y1 y2 y3 y4 y5 y6
  clear Y6 HW6
  go_wp2_with fail
  refine PC.out.mono ?_; rintro e w7 ⟨rfl, hb7⟩
  rw [exU_text]
  have FIN := Lib.hid (below_over HB6.out hb7)
  clear PC hb7 y0 y1 y2 y3 y4 y5 y6
  go_wp2_with fail
  go_ret
  exact ⟨rfl, FIN.out⟩
end Go.Proofs.YtkgmdbkcldojnaaGreatDoor

/-  -/
namespace Go.Proofs.YtkgmdbkcldojnaaGreatDoor
open Go Go.RowKit Go.Shelf
open Go.Sort Go.Maps
open M
theorem ep_code {m : Mo} {pkg : ByteArray} {major : Int} {env : List If} {t u : Ty} {c : Int} (h : EpIs m pkg major env t c u) : (c = 0 ∨ c = 1 ∨ c = 3 ∨ c = 4 ∨ c = 9) ∧ (c ≠ 0 → u = zTy) := by
  rcases h with ⟨hc, hu, -⟩ | ⟨-, -, h⟩
  · exact ⟨.inr (.inl hc), fun _ => hu⟩
  · rcases h with ⟨hc, hu, -⟩ | ⟨-, h⟩
    · exact ⟨.inr (.inr (.inr (.inl hc))), fun _ => hu⟩
    · rcases h with ⟨hc, hu, -⟩ | ⟨-, hh, x, hx, h⟩
      · exact ⟨.inr (.inr (.inr (.inr hc))), fun _ => hu⟩
      · rcases h with ⟨hc, hu, -⟩ | ⟨hc, hu, -⟩
        · exact ⟨.inr (.inr (.inl hc)), fun _ => hu⟩
        · exact ⟨.inl hc, fun h => absurd hc h⟩
end Go.Proofs.YtkgmdbkcldojnaaGreatDoor
