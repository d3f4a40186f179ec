/-
  Several texts in one: The reference's reader of types, all in all. · The reference's At: the type that begins at a token. · Plain mathematics for layer 3: what stands at a place of a text (a blank, a remark, a word, a number, a sign, or nothing), and what all of it comes to. Nothing of any program. · Plain mathematics for layer 3, second part: texts of one byte, pieces of a text, a line's end, the signs, as the library's own functions tell them.
-/
import Derived.Test.YtbknmokamcjgpaaGreatDoorJ20
import Derived.Test.YtbknmokamcjgpaaGreatDoorJ19
import Derived.Test.YtbknmokamcjgpaaGreatDoorJ00
import Derived.Lib.IndexAny
import Derived.Lib.IndexLaws
import Derived.Lib.IndexBytes
import Derived.Lib.Strings
import GoSem.Op.String
/- The reference's reader of types, all in all. -/
namespace Go.Proofs.YtbknmokamcjgpaaGreatDoor
open Go.RowKit
open Go.Sort
open M

set_option maxRecDepth 100000 in
set_option maxHeartbeats 4000000 in
theorem type_bad {W : World} {r : Nat} {A : Option Addr} {S : Toks} {cn : Nat} (d i c b : Nat) (w : World) (hc5 : c ≤ 500) (hc : RdCtx W r A S w) (h : Rd r A S.n cn i c b w) (hb : b ≠ 0) (res : Res Ty) (hres : res = .err b i) :
    Calls Tryz.prog 33 #[.pointer (some ⟨r, 0, none⟩), .int .i64 d] w (TyOut w r A S.n cn res) := by
  have hr := h.lt
  obtain ⟨W1, hW1⟩ : ∃ W1, W1 = w.alloc (.cells #[.int .i64 0, .string ⟨#[]⟩, .int .i64 0, .string ⟨#[]⟩, .string ⟨#[]⟩, .slice none 0 0, .slice none 0 0] 26) := ⟨_, rfl⟩
  have B1 : Below w.heap.size w W1 := by rw [hW1]; exact below_new (Below.refl _ _) _
  have s1 : W1.heap.size = w.heap.size + 1 := by rw [hW1]; simp
  have X1 : W1.heap[w.heap.size]? = some (.cells #[.int .i64 0, .string ⟨#[]⟩, .int .i64 0, .string ⟨#[]⟩, .string ⟨#[]⟩, .slice none 0 0, .slice none 0 0] 26 (0, 0)) := by rw [hW1]; exact heap_alloc_new w _
  have C1 := hc.on (Kp.of_below B1) hr
  have R1 := h.on B1
  have BG := Lib.hid (begins_any C1 R1)
  have HX1 := Lib.hid X1
  have HC1 := Lib.hid C1
  have HR1 := Lib.hid R1
  have HB1 := Lib.hid B1
  have HW1 := Lib.hid hW1
  clear hc h B1 X1 C1 R1 hW1
  go_enter Tryz.func33, Tryz.ntmps33
  go_wp2_with fail
  rw [← HW1.out]
  refine BG.out.mono ?_; rintro e w2 ⟨rfl, hb2⟩
  have K2 : Kp r w w2 := (Kp.of_below HB1.out).trans (Kp.of_below hb2)
  have C2 := HC1.out.on (Kp.of_below hb2) HR1.out.lt
  have R2 := HR1.out.on hb2
  have s2 := hb2.size
  have X2 : w2.heap[w.heap.size]? = _ := (hb2.block _ (by omega)).trans HX1.out
  have hs2 : w.heap.size < w2.heap.size := by omega
  have HX2 := Lib.hid X2
  have HK2 := Lib.hid K2
  have HR2 := Lib.hid R2
  clear hb2 K2 C2 X2 BG HX1 HC1 HB1 HW1 s1 s2 HR1
  have e0 : (decide (b = 0) && S.begins i) = false := by simp [hb]
  have HRES := Lib.hid hres
  rw [e0]
  clear e0 hres
  go_wp2_with fail
  refine (wrong_any HR2.out).mono ?_; rintro e w3 ⟨rfl, R3, k3⟩
  have X3 : w3.heap[w.heap.size]? = _ := (k3.blk hs2 (by omega)).trans HX2.out
  have s3 := k3.size
  rw [wrB_ne hb] at R3
  have SEAL := Lib.hid (TyOut.seal (res := res) (A := A) (n := S.n) (cn := cn) (Nat.le_refl _) X3 (HK2.out.trans k3) (TyAt.zero (strike (· < w.heap.size + 1) w3)) (Nat.lt_succ_self _) hr (by rw [HRES.out]; exact RdRes.bad hb hc5 R3))
  clear k3 R3
  go_wp2_with (first | ((with_reducible refine wpList_putRow 26 (w.heap.size) #[.int .i64 0, .string ⟨#[]⟩, .int .i64 0, .string ⟨#[]⟩, .string ⟨#[]⟩, .slice none 0 0, .slice none 0 0] _ _ X3 ?_ ?_ ?_ ?_ ?_ ?_); exact tySize; rfl; exact tyOne; (focus (first | (go_simp; done) | rfl)); (focus (first | (go_simp; done) | rfl))))
  exact ret_agg1 (fn := Tryz.f33) (vs := [.int .i64 0, .string ⟨#[]⟩, .int .i64 0, .string ⟨#[]⟩, .string ⟨#[]⟩, .slice none 0 0, .slice none 0 0]) (b := w.heap.size) rfl rfl Tryz.underlying26 (by kernel_rfl) SEAL.out.1 rfl SEAL.out.2

theorem type_ok {W : World} {r : Nat} {A : Option Addr} {S : Toks} {cn : Nat} : ∀ f, TypeOk W r A S cn f := by
  intro f
  induction f using Nat.strongRecOn with
  | ind f ih =>
    cases f with
    | zero =>
      intro d i c b w hd hc5 hc h hne
      by_cases hb : b = 0
      · exact absurd (by unfold pT; rfl) (hne hb 0)
      · exact type_bad d i c b w hc5 hc h hb _ (badR_ne _ _ hb)
    | succ f => exact type_step (ih f (Nat.lt_succ_self f)) (parts_ok fun g hg => ih g (by omega)) (fn_ok fun g hg => ih g (by omega))
end Go.Proofs.YtbknmokamcjgpaaGreatDoor

/- The reference's At: the type that begins at a token. -/
namespace Go.Proofs.YtbknmokamcjgpaaGreatDoor
open Go.RowKit
open Go.Sort
open M

set_option maxRecDepth 100000 in
set_option maxHeartbeats 4000000 in
theorem rat_out (A : Option Addr) (n cn : Nat) (x : Int) (hx : x < 0 ∨ (n : Int) < x) (w : World) : Calls Tryz.prog 14 #[.slice A n cn, .int .i64 x] w fun e w' =>
    e = .returned (.tuple #[.agg #[.int .i64 0, .string ⟨#[]⟩, .int .i64 0, .string ⟨#[]⟩, .string ⟨#[]⟩, .slice none 0 0, .slice none 0 0], .int .i64 0, .int .i64 2, .int .i64 x]) ∧ Below w.heap.size w w' := by
  obtain ⟨w0, hw0⟩ : ∃ w0, w0 = w.alloc (.cells #[.int .i64 0, .string ⟨#[]⟩, .int .i64 0, .string ⟨#[]⟩, .string ⟨#[]⟩, .slice none 0 0, .slice none 0 0] 26) := ⟨_, rfl⟩
  have B0 : Below w.heap.size w w0 := by rw [hw0]; exact below_new (Below.refl _ _) _
  have X0 : Bx w.heap.size w0 := by rw [hw0]; exact heap_alloc_new w _
  have FIN : Hid (Below w.heap.size w (w0.setRow w.heap.size #[.int .i64 0, .string ⟨#[]⟩, .int .i64 0, .string ⟨#[]⟩, .string ⟨#[]⟩, .slice none 0 0, .slice none 0 0])) := Lib.hid (setRow_below B0 (Nat.le_refl _) _)
  have HX0 := Lib.hid X0
  have HW0 := Lib.hid hw0
  have hx1 : x < 0 ∨ ((decide (x < 0) = false) ∧ (decide ((n : Int) < x) = true)) := by
    rcases hx with h | h
    · exact .inl h
    · by_cases h0 : x < 0
      · exact .inl h0
      · exact .inr ⟨by simpa using h0, by simpa using h⟩
  clear hw0 B0 hx
  unfold Bx at X0
  rcases hx1 with h0 | ⟨h0, h1⟩
  · have h0' : decide (x < 0) = true := by simpa using h0
    clear h0
    go_enter Tryz.func14, Tryz.ntmps14
    go_upto_region 1 with fail
    rw [← HW0.out]
    go_upto_region 2 with fail
    go_wp2_with (first | ((with_reducible refine wpList_putRow 26 (w.heap.size) #[.int .i64 0, .string ⟨#[]⟩, .int .i64 0, .string ⟨#[]⟩, .string ⟨#[]⟩, .slice none 0 0, .slice none 0 0] _ _ X0 ?_ ?_ ?_ ?_ ?_ ?_); exact tySize; rfl; exact tyOne; (focus (first | (go_simp; done) | rfl)); (focus (first | (go_simp; done) | rfl))))
    exact ret_agg4 (fn := Tryz.f14) (vs := [.int .i64 0, .string ⟨#[]⟩, .int .i64 0, .string ⟨#[]⟩, .string ⟨#[]⟩, .slice none 0 0, .slice none 0 0]) (b := w.heap.size) rfl rfl rfl rfl rfl Tryz.underlying26 (by kernel_rfl) (cell7 (setRow_heap w0 w.heap.size _ _ _ _ HX0.out)) rfl ⟨rfl, FIN.out⟩
  · go_enter Tryz.func14, Tryz.ntmps14
    go_upto_region 1 with fail
    rw [← HW0.out]
    go_upto_region 2 with fail
    go_wp2_with (first | ((with_reducible refine wpList_putRow 26 (w.heap.size) #[.int .i64 0, .string ⟨#[]⟩, .int .i64 0, .string ⟨#[]⟩, .string ⟨#[]⟩, .slice none 0 0, .slice none 0 0] _ _ X0 ?_ ?_ ?_ ?_ ?_ ?_); exact tySize; rfl; exact tyOne; (focus (first | (go_simp; done) | rfl)); (focus (first | (go_simp; done) | rfl))))
    exact ret_agg4 (fn := Tryz.f14) (vs := [.int .i64 0, .string ⟨#[]⟩, .int .i64 0, .string ⟨#[]⟩, .string ⟨#[]⟩, .slice none 0 0, .slice none 0 0]) (b := w.heap.size) rfl rfl rfl rfl rfl Tryz.underlying26 (by kernel_rfl) (cell7 (setRow_heap w0 w.heap.size _ _ _ _ HX0.out)) rfl ⟨rfl, FIN.out⟩

/-- What the reference's At leaves, of a token that is there, or behind all. -/
def RtOut (w : World) (S : Toks) (i : Nat) (e : Ending) (w' : World) : Prop :=
  Below w.heap.size w w' ∧
  ((∃ (l : List Value) (t : Ty) (j c : Nat), atR S i = .ok t j c ∧ e = .returned (.tuple #[.agg l.toArray, .int .i64 j, .int .i64 0, .int .i64 (-1)]) ∧ TyAt (strike (· < w.heap.size) w') l t) ∨
   (∃ (b j : Nat), atR S i = .err b j ∧ b ≠ 0 ∧ e = .returned (.tuple #[.agg #[.int .i64 0, .string ⟨#[]⟩, .int .i64 0, .string ⟨#[]⟩, .string ⟨#[]⟩, .slice none 0 0, .slice none 0 0], .int .i64 0, .int .i64 b, .int .i64 j])))

set_option maxRecDepth 100000 in
set_option maxHeartbeats 4000000 in
theorem rat_in {A : Option Addr} {S : Toks} {cn : Nat} {w : World} (hT : TokAt w A S) (hbig : S.n ≤ 9223372036854775806) (i : Nat) (hi : i ≤ S.n) :
    Calls Tryz.prog 14 #[.slice A S.n cn, .int .i64 i] w (RtOut w S i) := by
  obtain ⟨w0, hw0⟩ : ∃ w0, w0 = w.alloc (.cells #[.int .i64 0, .string ⟨#[]⟩, .int .i64 0, .string ⟨#[]⟩, .string ⟨#[]⟩, .slice none 0 0, .slice none 0 0] 26) := ⟨_, rfl⟩
  have B0 : Below w.heap.size w w0 := by rw [hw0]; exact below_new (Below.refl _ _) _
  have X0 : Bx w.heap.size w0 := by rw [hw0]; exact heap_alloc_new w _
  have s0 : w0.heap.size = w.heap.size + 1 := by rw [hw0]; simp
  obtain ⟨w2, hw2⟩ : ∃ w2, w2 = w0.alloc (.cells #[.slice A S.n cn, .int .i64 i, .int .i64 0, .int .i64 0] 78) := ⟨_, rfl⟩
  have B2 : Below w0.heap.size w0 w2 := by rw [hw2]; exact below_new (Below.refl _ _) _
  have R2 : Rd w0.heap.size A S.n cn i 0 0 w2 := by rw [hw2]; exact heap_alloc_new w0 _
  have s2 : w2.heap.size = w0.heap.size + 1 := by rw [hw2]; simp
  have B02 : Below w.heap.size w w2 := below_over B0 B2
  have C2 : RdCtx w w0.heap.size A S w2 := ⟨hT, B02, by omega, hbig⟩
  have RE := type_ok (W := w) (r := w0.heap.size) (A := A) (S := S) (cn := cn) (2 * S.n + 3) 1 i 0 0 w2 (by omega) (by omega) C2 R2 (fun _ j => atR_far S i j)
  rw [badR_0] at RE
  have HRE : Hid (Calls Tryz.prog 33 #[.pointer (some ⟨w0.heap.size, 0, none⟩), .int .i64 1] w2 (TyOut w2 w0.heap.size A S.n cn (atR S i))) := Lib.hid RE
  have HX2 : Hid (Bx w.heap.size w2) := Lib.hid ((B2.block _ (by omega)).trans X0)
  have HB02 := Lib.hid B02
  have SS := Lib.hid (⟨s0, s2⟩ : w0.heap.size = w.heap.size + 1 ∧ w2.heap.size = w0.heap.size + 1)
  have HW0 := Lib.hid hw0
  have HW2 := Lib.hid hw2
  have hi0 : ¬ (i : Int) < 0 := by omega
  have hi1 : ¬ S.n < i := by omega
  clear hT hi hw0 hw2 B0 B2 X0 R2 B02 C2 RE s0 s2
  go_enter Tryz.func14, Tryz.ntmps14
  go_upto_region 1 with fail
  rw [← HW0.out]
  go_upto_region 3 with fail
  clear hi0 hi1
  go_upto_region 4 with fail
  rw [← HW2.out]
  go_wp2_with fail
  refine HRE.out.mono ?_
  rintro e w3 ⟨l, t, rfl, hT3, k3, i3, c3, b3, hres, hc3, h3⟩
  obtain ⟨An, cA, As, cS, rfl, -⟩ := hT3.parts
  have ss := SS.out
  have hw0s : w.heap.size < w0.heap.size := by omega
  have hs3 := k3.size
  have hw3s : w.heap.size < w3.heap.size := by omega
  obtain ⟨w4, hw4⟩ : ∃ w4, w4 = w3.alloc (.cells #[.int .i64 t.kind, .string t.pkg, .int .i64 t.major, .string t.mod, .string t.name, .slice An t.names.length cA, .slice As t.subs.length cS] 26) := ⟨_, rfl⟩
  have B4 : Below w3.heap.size w3 w4 := by rw [hw4]; exact below_new (Below.refl _ _) _
  have O4 : w4.heap[w3.heap.size]? = some (.cells #[.int .i64 t.kind, .string t.pkg, .int .i64 t.major, .string t.mod, .string t.name, .slice An t.names.length cA, .slice As t.subs.length cS] 26 (0, 0)) := by rw [hw4]; exact heap_alloc_new w3 _
  have h4 := h3.on B4
  have X4 : Bx w.heap.size w4 := (B4.block _ (by omega)).trans ((k3.blk (by omega) (by omega)).trans HX2.out)
  have k24 := k3.trans (Kp.of_below B4)
  have B24 : Below w.heap.size w w4 := HB02.out.trans ((k24.below (by omega)).mono (by omega))
  have T4 : TyAt (strike (· < w.heap.size + 1) w4) [.int .i64 t.kind, .string t.pkg, .int .i64 t.major, .string t.mod, .string t.name, .slice An t.names.length cA, .slice As t.subs.length cS] t := hT3.move (by have := B4.size; omega) fun b hb hS => ⟨by omega, B4.block b hb⟩
  have r3 := h4.c3
  have r1 := h4.c1
  have HW4 := Lib.hid hw4
  have HT4 := Lib.hid T4
  have HB24 := Lib.hid B24
  have HX4 := Lib.hid X4
  have HO4 := Lib.hid O4
  have HRS := Lib.hid hres
  have hr4 := h4.lt
  clear hT3 k3 h3 hres B4 O4 h4 k24 B24 T4 hw4 ss hs3 HRE HX2 HB02 SS
  go_upto_region 5 with fail
  rw [← HW4.out]
  have HXD : Hid (Bx w.heap.size w4.drew) := Lib.hid X4
  clear X4
  by_cases hb : b3 = 0
  · subst hb
    have hok : atR S i = .ok t i3 c3 := by rw [HRS.out]; rfl
    have O4 := HO4.out
    have x0 := Lib.cell_of_heap O4 0
    have x1 := Lib.cell_of_heap O4 1
    have x2 := Lib.cell_of_heap O4 2
    have x3 := Lib.cell_of_heap O4 3
    have x4 := Lib.cell_of_heap O4 4
    have x5 := Lib.cell_of_heap O4 5
    have x6 := Lib.cell_of_heap O4 6
    simp at x0 x1 x2 x3 x4 x5 x6
    simp at r3
    have FIN : Hid (RtOut w S i (.returned (.tuple #[.agg #[.int .i64 t.kind, .string t.pkg, .int .i64 t.major, .string t.mod, .string t.name, .slice An t.names.length cA, .slice As t.subs.length cS], .int .i64 i3, .int .i64 0, .int .i64 (-1)])) (w4.drew.setRow w.heap.size #[.int .i64 t.kind, .string t.pkg, .int .i64 t.major, .string t.mod, .string t.name, .slice An t.names.length cA, .slice As t.subs.length cS])) := Lib.hid
      ⟨setRow_below ((HB24.out).trans (Below.drew (Below.refl _ _))) (Nat.le_refl _) _, .inl ⟨[.int .i64 t.kind, .string t.pkg, .int .i64 t.major, .string t.mod, .string t.name, .slice An t.names.length cA, .slice As t.subs.length cS], t, i3, c3, hok, rfl, HT4.out.move (by simp) fun b hb hS => ⟨fun e => hS (Nat.lt_succ_of_lt e), (setRow_other w4.drew w.heap.size b _ (fun e => by subst e; exact hS (Nat.lt_succ_self _))).trans rfl⟩⟩⟩
    clear hok O4
    go_upto_region 7 with fail
    refine AnyX.start (fun wx => wx.cell? ⟨w0.heap.size, 1, none⟩ = some (.int .i64 i3) ∧ wx.cell? ⟨w3.heap.size, 0, none⟩ = some (.int .i64 t.kind) ∧ wx.cell? ⟨w3.heap.size, 1, none⟩ = some (.string t.pkg) ∧ wx.cell? ⟨w3.heap.size, 2, none⟩ = some (.int .i64 t.major) ∧ wx.cell? ⟨w3.heap.size, 3, none⟩ = some (.string t.mod) ∧ wx.cell? ⟨w3.heap.size, 4, none⟩ = some (.string t.name) ∧ wx.cell? ⟨w3.heap.size, 5, none⟩ = some (.slice An t.names.length cA) ∧ wx.cell? ⟨w3.heap.size, 6, none⟩ = some (.slice As t.subs.length cS)) (fun _ => false) (by kernel_rfl) ?_
    have hH0 : w4.drew.cell? ⟨w3.heap.size, 0, none⟩ = some (.int .i64 t.kind) ∧ w4.drew.cell? ⟨w3.heap.size, 1, none⟩ = some (.string t.pkg) ∧ w4.drew.cell? ⟨w3.heap.size, 2, none⟩ = some (.int .i64 t.major) ∧ w4.drew.cell? ⟨w3.heap.size, 3, none⟩ = some (.string t.mod) ∧ w4.drew.cell? ⟨w3.heap.size, 4, none⟩ = some (.string t.name) ∧ w4.drew.cell? ⟨w3.heap.size, 5, none⟩ = some (.slice An t.names.length cA) ∧ w4.drew.cell? ⟨w3.heap.size, 6, none⟩ = some (.slice As t.subs.length cS) := ⟨x0, x1, x2, x3, x4, x5, x6⟩
    have hH1 : w4.drew.cell? ⟨w0.heap.size, 1, none⟩ = some (.int .i64 i3) := r1
    have hC : ∀ (b o : Nat) (v : Value), b ≠ w.heap.size → w4.drew.cell? ⟨b, o, none⟩ = some v → (w4.drew.setRow w.heap.size #[.int .i64 t.kind, .string t.pkg, .int .i64 t.major, .string t.mod, .string t.name, .slice An t.names.length cA, .slice As t.subs.length cS]).cell? ⟨b, o, none⟩ = some v := fun b o v hb h => (World.cell?_of_block (a := ⟨b, o, none⟩) (setRow_other w4.drew w.heap.size b _ hb)).trans h
    refine AnyX.take (i := 0) (v := ?_) rfl (by kernel_rfl) (by kernel_rfl) (by kernel_rfl) (by kernel_rfl) (by kernel_rfl) (fun _ _ _ h => h) ⟨hH1, hH0⟩ (Or.inl ⟨by rfl, ?_⟩) ?_
    rotate_left
    · (intro wS hS; (try obtain ⟨hS0, hS1, hS2, hS3, hS4, hS5, hS6, hS7⟩ := hS); go_simp; try with_reducible rfl)
    simp only [List.getElem_toArray, List.getElem_cons_succ, List.getElem_cons_zero]
    simp only [Act.put, List.setIfInBounds_toArray]
    simp only [List.set_cons_zero, List.set_cons_succ]
    refine AnyX.move (i := 1) (v := ?_) rfl (by kernel_rfl) (by kernel_rfl) (by kernel_rfl) (by kernel_rfl) (fun _ _ _ h => h) (Or.inl ⟨by rfl, ?_⟩) ?_
    rotate_left
    · (intro wS _; go_simp; try with_reducible rfl)
    simp only [List.getElem_toArray, List.getElem_cons_succ, List.getElem_cons_zero]
    simp only [Act.put, List.setIfInBounds_toArray]
    simp only [List.set_cons_zero, List.set_cons_succ]
    refine AnyX.move (i := 2) (v := ?_) rfl (by kernel_rfl) (by kernel_rfl) (by kernel_rfl) (by kernel_rfl) (fun _ _ _ h => h) (Or.inl ⟨by rfl, ?_⟩) ?_
    rotate_left
    · (intro wS _; go_simp; try with_reducible rfl)
    simp only [List.getElem_toArray, List.getElem_cons_succ, List.getElem_cons_zero]
    simp only [Act.put, List.setIfInBounds_toArray]
    simp only [List.set_cons_zero, List.set_cons_succ]
    refine AnyX.move (i := 3) (v := ?_) rfl (by kernel_rfl) (by kernel_rfl) (by kernel_rfl) (by kernel_rfl) (fun _ _ _ h => h) (Or.inl ⟨by rfl, ?_⟩) ?_
    rotate_left
    · (intro wS _; go_simp; try with_reducible rfl)
    simp only [List.getElem_toArray, List.getElem_cons_succ, List.getElem_cons_zero]
    simp only [Act.put, List.setIfInBounds_toArray]
    simp only [List.set_cons_zero, List.set_cons_succ]
    refine AnyX.take (i := 4) (v := ?_) rfl (by kernel_rfl) (by kernel_rfl) (by kernel_rfl) (by kernel_rfl) (by kernel_rfl) (fun _ _ _ h => h) ⟨hH1, hH0⟩ (Or.inl ⟨by rfl, ?_⟩) ?_
    rotate_left
    · (intro wS hS; (try obtain ⟨hS0, hS1, hS2, hS3, hS4, hS5, hS6, hS7⟩ := hS); go_simp; try with_reducible rfl)
    simp only [List.getElem_toArray, List.getElem_cons_succ, List.getElem_cons_zero]
    simp only [Act.put, List.setIfInBounds_toArray]
    simp only [List.set_cons_zero, List.set_cons_succ]
    refine AnyX.go 5 (by kernel_rfl) rfl rfl (fun K hK => ?_)
    simp only [List.getElem_toArray, List.getElem_cons_succ, List.getElem_cons_zero]
    refine wp_store_row 26 (.tmp 4) (.tmp 40) rfl w.heap.size #[.int .i64 t.kind, .string t.pkg, .int .i64 t.major, .string t.mod, .string t.name, .slice An t.names.length cA, .slice As t.subs.length cS] rfl rfl _ _ HXD.out tySize rfl tyOne ?_
    refine hK.out _ _ (fun hoff _ => ⟨hC _ _ _ (by omega) hH1, hC _ _ _ (by omega) x0, hC _ _ _ (by omega) x1, hC _ _ _ (by omega) x2, hC _ _ _ (by omega) x3, hC _ _ _ (by omega) x4, hC _ _ _ (by omega) x5, hC _ _ _ (by omega) x6⟩) ?_
    clear hK
    try simp only [Act.put, List.setIfInBounds_toArray]
    try simp only [List.set_cons_zero, List.set_cons_succ]
    refine AnyX.move (i := 6) (v := ?_) rfl (by kernel_rfl) (by kernel_rfl) (by kernel_rfl) (by kernel_rfl) (fun _ _ _ h => h) (Or.inl ⟨by rfl, ?_⟩) ?_
    rotate_left
    · (intro wS _; go_simp; try with_reducible rfl)
    simp only [List.getElem_toArray, List.getElem_cons_succ, List.getElem_cons_zero]
    simp only [Act.put, List.setIfInBounds_toArray]
    simp only [List.set_cons_zero, List.set_cons_succ]
    refine AnyX.move (i := 7) (v := ?_) rfl (by kernel_rfl) (by kernel_rfl) (by kernel_rfl) (by kernel_rfl) (fun _ _ _ h => h) (Or.inl ⟨by rfl, ?_⟩) ?_
    rotate_left
    · (intro wS _; go_simp; try with_reducible rfl)
    simp only [List.getElem_toArray, List.getElem_cons_succ, List.getElem_cons_zero]
    simp only [Act.put, List.setIfInBounds_toArray]
    simp only [List.set_cons_zero, List.set_cons_succ]
    refine AnyX.move (i := 8) (v := ?_) rfl (by kernel_rfl) (by kernel_rfl) (by kernel_rfl) (by kernel_rfl) (fun _ _ _ h => h) (Or.inl ⟨by rfl, ?_⟩) ?_
    rotate_left
    · (intro wS _; go_simp; try with_reducible rfl)
    simp only [List.getElem_toArray, List.getElem_cons_succ, List.getElem_cons_zero]
    simp only [Act.put, List.setIfInBounds_toArray]
    simp only [List.set_cons_zero, List.set_cons_succ]
    refine AnyX.done (by kernel_rfl) ?_ _
    go_wp2_with fail
    exact ret_agg4 (fn := Tryz.f14) (vs := [.int .i64 t.kind, .string t.pkg, .int .i64 t.major, .string t.mod, .string t.name, .slice An t.names.length cA, .slice As t.subs.length cS]) (b := w.heap.size) rfl rfl rfl rfl rfl Tryz.underlying26 (by kernel_rfl) (cell7 (setRow_heap w4.drew w.heap.size _ _ _ _ HXD.out)) rfl FIN.out
  · have herr : atR S i = .err b3 i3 := by rw [HRS.out]; exact badR_ne _ _ hb
    have FIN : Hid (RtOut w S i (.returned (.tuple #[.agg #[.int .i64 0, .string ⟨#[]⟩, .int .i64 0, .string ⟨#[]⟩, .string ⟨#[]⟩, .slice none 0 0, .slice none 0 0], .int .i64 0, .int .i64 b3, .int .i64 i3])) (w4.drew.setRow w.heap.size #[.int .i64 0, .string ⟨#[]⟩, .int .i64 0, .string ⟨#[]⟩, .string ⟨#[]⟩, .slice none 0 0, .slice none 0 0])) := Lib.hid
      ⟨setRow_below ((HB24.out).trans (Below.drew (Below.refl _ _))) (Nat.le_refl _) _, .inr ⟨b3, i3, herr, hb, rfl⟩⟩
    have hb1 : (((b3 : Nat) : Int) == 0) = false := by simp; omega
    have hb2 : (((b3 : Nat) : Int) != 0) = true := by simp; omega
    clear herr hb
    go_upto_region 6 with fail
    refine AnyX.start (fun wx => wx.cell? ⟨w0.heap.size, 1, none⟩ = some (.int .i64 i3) ∧ wx.cell? ⟨w0.heap.size, 3, none⟩ = some (.int .i64 b3)) (fun _ => false) (by kernel_rfl) ?_
    have hH1 : w4.drew.cell? ⟨w0.heap.size, 1, none⟩ = some (.int .i64 i3) := r1
    have hH3 : w4.drew.cell? ⟨w0.heap.size, 3, none⟩ = some (.int .i64 b3) := r3
    have hC : ∀ (b o : Nat) (v : Value), b ≠ w.heap.size → w4.drew.cell? ⟨b, o, none⟩ = some v → (w4.drew.setRow w.heap.size #[.int .i64 0, .string ⟨#[]⟩, .int .i64 0, .string ⟨#[]⟩, .string ⟨#[]⟩, .slice none 0 0, .slice none 0 0]).cell? ⟨b, o, none⟩ = some v := fun b o v hb h => (World.cell?_of_block (a := ⟨b, o, none⟩) (setRow_other w4.drew w.heap.size b _ hb)).trans h
    refine AnyX.move (i := 0) (v := ?_) rfl (by kernel_rfl) (by kernel_rfl) (by kernel_rfl) (by kernel_rfl) (fun _ _ _ h => h) (Or.inl ⟨by rfl, ?_⟩) ?_
    rotate_left
    · (intro wS _; go_simp; try with_reducible rfl)
    simp only [List.getElem_toArray, List.getElem_cons_succ, List.getElem_cons_zero]
    simp only [Act.put, List.setIfInBounds_toArray]
    simp only [List.set_cons_zero, List.set_cons_succ]
    refine AnyX.move (i := 1) (v := ?_) rfl (by kernel_rfl) (by kernel_rfl) (by kernel_rfl) (by kernel_rfl) (fun _ _ _ h => h) (Or.inl ⟨by rfl, ?_⟩) ?_
    rotate_left
    · (intro wS _; go_simp; try with_reducible rfl)
    simp only [List.getElem_toArray, List.getElem_cons_succ, List.getElem_cons_zero]
    simp only [Act.put, List.setIfInBounds_toArray]
    simp only [List.set_cons_zero, List.set_cons_succ]
    refine AnyX.move (i := 2) (v := ?_) rfl (by kernel_rfl) (by kernel_rfl) (by kernel_rfl) (by kernel_rfl) (fun _ _ _ h => h) (Or.inl ⟨by rfl, ?_⟩) ?_
    rotate_left
    · (intro wS _; go_simp; try with_reducible rfl)
    simp only [List.getElem_toArray, List.getElem_cons_succ, List.getElem_cons_zero]
    simp only [Act.put, List.setIfInBounds_toArray]
    simp only [List.set_cons_zero, List.set_cons_succ]
    refine AnyX.move (i := 3) (v := ?_) rfl (by kernel_rfl) (by kernel_rfl) (by kernel_rfl) (by kernel_rfl) (fun _ _ _ h => h) (Or.inl ⟨by rfl, ?_⟩) ?_
    rotate_left
    · (intro wS _; go_simp; try with_reducible rfl)
    simp only [List.getElem_toArray, List.getElem_cons_succ, List.getElem_cons_zero]
    simp only [Act.put, List.setIfInBounds_toArray]
    simp only [List.set_cons_zero, List.set_cons_succ]
    refine AnyX.take (i := 4) (v := ?_) rfl (by kernel_rfl) (by kernel_rfl) (by kernel_rfl) (by kernel_rfl) (by kernel_rfl) (fun _ _ _ h => h) ⟨hH1, hH3⟩ (Or.inl ⟨by rfl, ?_⟩) ?_
    rotate_left
    · (intro wS hS; (try obtain ⟨hS0, hS1⟩ := hS); go_simp; try with_reducible rfl)
    simp only [List.getElem_toArray, List.getElem_cons_succ, List.getElem_cons_zero]
    simp only [Act.put, List.setIfInBounds_toArray]
    simp only [List.set_cons_zero, List.set_cons_succ]
    refine AnyX.move (i := 5) (v := ?_) rfl (by kernel_rfl) (by kernel_rfl) (by kernel_rfl) (by kernel_rfl) (fun _ _ _ h => h) (Or.inl ⟨by rfl, ?_⟩) ?_
    rotate_left
    · (intro wS _; go_simp; try with_reducible rfl)
    simp only [List.getElem_toArray, List.getElem_cons_succ, List.getElem_cons_zero]
    simp only [Act.put, List.setIfInBounds_toArray]
    simp only [List.set_cons_zero, List.set_cons_succ]
    refine AnyX.move (i := 6) (v := ?_) rfl (by kernel_rfl) (by kernel_rfl) (by kernel_rfl) (by kernel_rfl) (fun _ _ _ h => h) (Or.inl ⟨by rfl, ?_⟩) ?_
    rotate_left
    · (intro wS _; go_simp; try with_reducible rfl)
    simp only [List.getElem_toArray, List.getElem_cons_succ, List.getElem_cons_zero]
    simp only [Act.put, List.setIfInBounds_toArray]
    simp only [List.set_cons_zero, List.set_cons_succ]
    refine AnyX.move (i := 7) (v := ?_) rfl (by kernel_rfl) (by kernel_rfl) (by kernel_rfl) (by kernel_rfl) (fun _ _ _ h => h) (Or.inl ⟨by rfl, ?_⟩) ?_
    rotate_left
    · (intro wS _; go_simp; try with_reducible rfl)
    simp only [List.getElem_toArray, List.getElem_cons_succ, List.getElem_cons_zero]
    simp only [Act.put, List.setIfInBounds_toArray]
    simp only [List.set_cons_zero, List.set_cons_succ]
    refine AnyX.take (i := 8) (v := ?_) rfl (by kernel_rfl) (by kernel_rfl) (by kernel_rfl) (by kernel_rfl) (by kernel_rfl) (fun _ _ _ h => h) ⟨hH1, hH3⟩ (Or.inl ⟨by rfl, ?_⟩) ?_
    rotate_left
    · (intro wS hS; (try obtain ⟨hS0, hS1⟩ := hS); go_simp; try with_reducible rfl)
    simp only [List.getElem_toArray, List.getElem_cons_succ, List.getElem_cons_zero]
    simp only [Act.put, List.setIfInBounds_toArray]
    simp only [List.set_cons_zero, List.set_cons_succ]
    refine AnyX.go 9 (by kernel_rfl) rfl rfl (fun K hK => ?_)
    simp only [List.getElem_toArray, List.getElem_cons_succ, List.getElem_cons_zero]
    refine wp_store_row 26 (.tmp 4) (.tmp 31) rfl w.heap.size #[.int .i64 0, .string ⟨#[]⟩, .int .i64 0, .string ⟨#[]⟩, .string ⟨#[]⟩, .slice none 0 0, .slice none 0 0] rfl rfl _ _ HXD.out tySize rfl tyOne ?_
    refine hK.out _ _ (fun hoff _ => ⟨hC _ _ _ (by omega) hH1, hC _ _ _ (by omega) hH3⟩) ?_
    clear hK
    try simp only [Act.put, List.setIfInBounds_toArray]
    try simp only [List.set_cons_zero, List.set_cons_succ]
    refine AnyX.move (i := 10) (v := ?_) rfl (by kernel_rfl) (by kernel_rfl) (by kernel_rfl) (by kernel_rfl) (fun _ _ _ h => h) (Or.inl ⟨by rfl, ?_⟩) ?_
    rotate_left
    · (intro wS _; go_simp; try with_reducible rfl)
    simp only [List.getElem_toArray, List.getElem_cons_succ, List.getElem_cons_zero]
    simp only [Act.put, List.setIfInBounds_toArray]
    simp only [List.set_cons_zero, List.set_cons_succ]
    refine AnyX.move (i := 11) (v := ?_) rfl (by kernel_rfl) (by kernel_rfl) (by kernel_rfl) (by kernel_rfl) (fun _ _ _ h => h) (Or.inl ⟨by rfl, ?_⟩) ?_
    rotate_left
    · (intro wS _; go_simp; try with_reducible rfl)
    simp only [List.getElem_toArray, List.getElem_cons_succ, List.getElem_cons_zero]
    simp only [Act.put, List.setIfInBounds_toArray]
    simp only [List.set_cons_zero, List.set_cons_succ]
    refine AnyX.move (i := 12) (v := ?_) rfl (by kernel_rfl) (by kernel_rfl) (by kernel_rfl) (by kernel_rfl) (fun _ _ _ h => h) (Or.inl ⟨by rfl, ?_⟩) ?_
    rotate_left
    · (intro wS _; go_simp; try with_reducible rfl)
    simp only [List.getElem_toArray, List.getElem_cons_succ, List.getElem_cons_zero]
    simp only [Act.put, List.setIfInBounds_toArray]
    simp only [List.set_cons_zero, List.set_cons_succ]
    refine AnyX.done (by kernel_rfl) ?_ _
    go_wp2_with fail
    exact ret_agg4 (fn := Tryz.f14) (vs := [.int .i64 0, .string ⟨#[]⟩, .int .i64 0, .string ⟨#[]⟩, .string ⟨#[]⟩, .slice none 0 0, .slice none 0 0]) (b := w.heap.size) rfl rfl rfl rfl rfl Tryz.underlying26 (by kernel_rfl) (cell7 (setRow_heap w4.drew w.heap.size _ _ _ _ HXD.out)) rfl FIN.out

end Go.Proofs.YtbknmokamcjgpaaGreatDoor

/- Plain mathematics for layer 3: what stands at a place of a text (a blank, a remark, a word, a number, a sign, or nothing), and what all of it comes to. Nothing of any program. -/
namespace Go.Proofs.YtbknmokamcjgpaaGreatDoor.M

def blankC (n : Int) : Bool := n == 32 || n == 9 || n == 10
def lineC (n : Int) : Bool := !(n == 10)
def signs : List Int := [123, 125, 40, 41, 91, 93, 60, 62, 44, 58, 46, 61]
def signC (n : Int) : Bool := signs.contains n

/-- The first place from i on, of which the byte is not of that kind. -/
def stop (g : Int → Bool) (l : List UInt8) (i : Nat) : Nat := i + ((l.drop i).takeWhile fun c => g (c.toNat : Int)).length

/-- Do the two bytes at a place make a sign of two? -/
def twoC (a b : Int) : Bool := (a == 45 && b == 62) || (a == 46 && b == 46)

/-- What stands at a place, by its first byte: its kind (0: passed by; 1 to 4: a token's; 5: nothing), and the place behind it. -/
def item (l : List UInt8) (i : Nat) : Nat × Nat :=
  if blankC (bt l i) = true then (0, i + 1)
  else if bt l i = 35 then (0, stop lineC l (i + 1))
  else if lowC (bt l i) = true then (1, stop anyC l (i + 1))
  else if upC (bt l i) = true then (2, stop anyC l (i + 1))
  else if digC (bt l i) = true then (3, stop digC l (i + 1))
  else if twoC (bt l i) (bt l (i + 1)) = true then (4, i + 2)
  else if signC (bt l i) = true then (4, i + 1)
  else (5, i)

structure Tok where
  kind : Nat
  place : Nat
  text : ByteArray

/-- What all from a place on comes to, with the tokens ahead of it; -1: nothing is at fault. -/
def finN (s : ByteArray) : Nat → Nat → List Tok → List Tok × Int
  | 0, _, acc => (acc, -1)
  | n + 1, i, acc =>
    if s.size ≤ i then (acc, -1)
    else if (item s.data.toList i).1 = 5 then ([], (i : Int))
    else if (item s.data.toList i).1 = 0 then finN s n (item s.data.toList i).2 acc
    else finN s n (item s.data.toList i).2 (acc ++ [⟨(item s.data.toList i).1, i, s.extract i (item s.data.toList i).2⟩])
def fin (s : ByteArray) (i : Nat) (acc : List Tok) : List Tok × Int := finN s (s.size - i) i acc

theorem bt_drop (l : List UInt8) (i j : Nat) : bt (l.drop i) j = bt l (i + j) := by
  unfold bt
  simp [List.getD_eq_getElem?_getD]
theorem bt_past (l : List UInt8) (j : Nat) (h : l.length ≤ j) : bt l j = 0 := by
  unfold bt
  rw [List.getD_eq_getElem?_getD, List.getElem?_eq_none h]
  rfl

theorem takeWhile_at (g : Int → Bool) (l : List UInt8) (n : Nat) (hn : n ≤ l.length) (h : ∀ j, j < n → g (bt l j) = true) (he : n = l.length ∨ g (bt l n) = false) :
    (l.takeWhile fun c => g (c.toNat : Int)).length = n := by
  induction l generalizing n with
  | nil => simp at hn; subst hn; rfl
  | cons c r ih =>
    rcases n with _ | n
    · rcases he with he | he
      · simp at he
      · have : g (c.toNat : Int) = false := he
        simp [this]
    · have h0 : g (c.toNat : Int) = true := h 0 (by omega)
      have e : ∀ j, bt (c :: r) (j + 1) = bt r j := fun j => by unfold bt; simp
      have he' : n = r.length ∨ g (bt r n) = false := by
        rw [← e]
        rcases he with he | he
        · left; simpa using he
        · right; exact he
      rw [List.takeWhile_cons, if_pos h0, List.length_cons, ih n (by simpa using hn) (fun j hj => by rw [← e]; exact h (j + 1) (by omega)) he']
theorem stop_eq (g : Int → Bool) (l : List UInt8) (i k : Nat) (hi : i ≤ k) (hk : k ≤ l.length) (h : ∀ j, i ≤ j → j < k → g (bt l j) = true) (he : k = l.length ∨ g (bt l k) = false) : stop g l i = k := by
  unfold stop
  rw [takeWhile_at g (l.drop i) (k - i) (by simp; omega) (fun j hj => by rw [bt_drop]; exact h _ (by omega) (by omega)) (by
    rcases he with he | he
    · left; simp; omega
    · right; rw [bt_drop, show i + (k - i) = k by omega]; exact he)]
  omega
theorem stop_ge (g : Int → Bool) (l : List UInt8) (i : Nat) : i ≤ stop g l i := by unfold stop; omega
theorem stop_le (g : Int → Bool) (l : List UInt8) (i : Nat) (h : i ≤ l.length) : stop g l i ≤ l.length := by
  unfold stop
  have := (List.takeWhile_sublist (fun c : UInt8 => g (c.toNat : Int)) (l := l.drop i)).length_le
  simp at this
  omega
theorem stop_step (g : Int → Bool) (l : List UInt8) (i : Nat) (h : i < l.length) (hg : g (bt l i) = true) : stop g l i = stop g l (i + 1) := by
  unfold stop
  rw [List.drop_eq_getElem_cons h, List.takeWhile_cons]
  have : g (l[i].toNat : Int) = true := by
    unfold bt at hg
    rwa [List.getD_eq_getElem?_getD, List.getElem?_eq_getElem h] at hg
  rw [if_pos this]
  simp
  omega
theorem stop_drop (g : Int → Bool) (l : List UInt8) (i j : Nat) : i + stop g (l.drop i) j = stop g l (i + j) := by
  unfold stop
  rw [List.drop_drop]
  omega

/-- What stands at a place, seen from there. -/
theorem item_drop (l : List UInt8) (i : Nat) : item l i = ((item (l.drop i) 0).1, i + (item (l.drop i) 0).2) := by
  unfold item
  simp only [bt_drop, Nat.add_zero, Nat.zero_add]
  have e : ∀ g, stop g l (i + 1) = i + stop g (l.drop i) 1 := fun g => (stop_drop g l i 1).symm
  simp only [e]
  (repeat' split) <;> simp

theorem item_gt (l : List UInt8) (i : Nat) (h : (item l i).1 ≠ 5) : i < (item l i).2 := by
  unfold item at *
  have h1 := stop_ge lineC l (i + 1)
  have h2 := stop_ge anyC l (i + 1)
  have h3 := stop_ge digC l (i + 1)
  revert h
  (repeat' split) <;> simp <;> omega
theorem item_le (l : List UInt8) (i : Nat) (hi : i < l.length) : (item l i).2 ≤ l.length := by
  unfold item
  have h1 := stop_le lineC l (i + 1) (by omega)
  have h2 := stop_le anyC l (i + 1) (by omega)
  have h3 := stop_le digC l (i + 1) (by omega)
  (repeat' split) <;> try (simp; omega)
  rename_i h
  have : i + 1 < l.length := by
    rcases Nat.lt_or_ge (i + 1) l.length with a | a
    · exact a
    · rw [bt_past l (i + 1) a] at h
      simp [twoC] at h
  simp; omega
theorem item_kind (l : List UInt8) (i : Nat) : (item l i).1 ≤ 5 := by
  unfold item
  (repeat' split) <;> simp

theorem finN_same (s : ByteArray) : ∀ (n m i : Nat) (acc : List Tok), s.size - i ≤ n → s.size - i ≤ m → finN s n i acc = finN s m i acc
  | 0, 0, _, _, _, _ => rfl
  | 0, m + 1, i, acc, h, _ => by
    have : s.size ≤ i := by omega
    simp [finN, this]
  | n + 1, 0, i, acc, _, h => by
    have : s.size ≤ i := by omega
    simp [finN, this]
  | n + 1, m + 1, i, acc, h1, h2 => by
    unfold finN
    by_cases a : s.size ≤ i
    · simp [a]
    · by_cases b : (item s.data.toList i).1 = 5
      · simp [a, b]
      · have g := item_gt s.data.toList i b
        by_cases c : (item s.data.toList i).1 = 0
        · simp only [a, c, if_false, if_true]
          exact finN_same s n m _ _ (by omega) (by omega)
        · simp only [a, b, c, if_false]
          exact finN_same s n m _ _ (by omega) (by omega)
theorem fin_end (s : ByteArray) (i : Nat) (acc : List Tok) (h : s.size ≤ i) : fin s i acc = (acc, -1) := by
  unfold fin
  rw [show s.size - i = 0 by omega]
  rfl
theorem fin_step (s : ByteArray) (i : Nat) (acc : List Tok) (h : i < s.size) :
    fin s i acc = if (item s.data.toList i).1 = 5 then ([], (i : Int)) else if (item s.data.toList i).1 = 0 then fin s (item s.data.toList i).2 acc
      else fin s (item s.data.toList i).2 (acc ++ [⟨(item s.data.toList i).1, i, s.extract i (item s.data.toList i).2⟩]) := by
  have e : s.size - i = (s.size - i - 1) + 1 := by omega
  unfold fin
  rw [e]
  conv => lhs; unfold finN
  rw [if_neg (by omega)]
  by_cases b : (item s.data.toList i).1 = 5
  · simp [b]
  · have g := item_gt s.data.toList i b
    by_cases c : (item s.data.toList i).1 = 0
    · simp only [c, if_true]
      rw [if_neg (by omega), if_neg (by omega)]
      exact finN_same s _ _ _ _ (by omega) (by omega)
    · simp only [b, c, if_false]
      exact finN_same s _ _ _ _ (by omega) (by omega)
theorem fin_skip {s : ByteArray} {i k : Nat} (acc : List Tok) (h : i < s.size) (e : item s.data.toList i = (0, k)) : fin s i acc = fin s k acc := by
  rw [fin_step s i acc h, e]; simp
theorem fin_bad {s : ByteArray} {i k : Nat} (acc : List Tok) (h : i < s.size) (e : item s.data.toList i = (5, k)) : fin s i acc = ([], (i : Int)) := by
  rw [fin_step s i acc h, e]; simp
theorem fin_tok {s : ByteArray} {i k c : Nat} (acc : List Tok) (h : i < s.size) (e : item s.data.toList i = (c, k)) (c0 : c ≠ 0) (c5 : c ≠ 5) : fin s i acc = fin s k (acc ++ [⟨c, i, s.extract i k⟩]) := by
  rw [fin_step s i acc h, e]; simp [c0, c5]
theorem fin_at (s : ByteArray) (n : Nat) : ∀ (i : Nat) (acc : List Tok), s.size - i ≤ n → (fin s i acc).2 = -1 ∨ ∃ k : Nat, k < s.size ∧ fin s i acc = ([], (k : Int)) := by
  induction n with
  | zero => intro i acc h; left; rw [fin_end s i acc (by omega)]
  | succ n ih =>
    intro i acc h
    rcases Nat.lt_or_ge i s.size with a | a
    · rw [fin_step s i acc a]
      by_cases b : (item s.data.toList i).1 = 5
      · right; exact ⟨i, a, by simp [b]⟩
      · have g := item_gt s.data.toList i b
        by_cases c : (item s.data.toList i).1 = 0
        · simp only [c, if_true]
          rw [if_neg (by omega)]
          exact ih _ _ (by omega)
        · simp only [b, c, if_false]
          exact ih _ _ (by omega)
    · left; rw [fin_end s i acc a]

end Go.Proofs.YtbknmokamcjgpaaGreatDoor.M

/- Plain mathematics for layer 3, second part: texts of one byte, pieces of a text, a line's end, the signs, as the library's own functions tell them. -/
namespace Go.Proofs.YtbknmokamcjgpaaGreatDoor.M
open Go

theorem list_one {l : List UInt8} (h : l.length = 1) : ∃ c, l = [c] := by
  match l, h with
  | [c], _ => exact ⟨c, rfl⟩
theorem arr_one {s : ByteArray} (h : s.size = 1) : ∃ c : UInt8, s = ⟨#[c]⟩ := by
  obtain ⟨c, hc⟩ := list_one (l := s.data.toList) (by simpa using h)
  refine ⟨c, ?_⟩
  cases s with
  | mk d => cases d with
    | mk l => simp at hc; subst hc; rfl
theorem bt_one (c : UInt8) : bt [c] 0 = (c.toNat : Int) := rfl

theorem key_one (c : UInt8) : keyB [c] = false := by
  unfold keyB keys
  simp
theorem word_one (c : UInt8) : wordB [c] = false := by
  unfold wordB words
  simp
theorem small_one {s : ByteArray} (h : s.size = 1) : smallB s.data.toList = lowC (bt s.data.toList 0) := by
  obtain ⟨c, rfl⟩ := arr_one h
  simp [smallB, key_one, spell, bt]
theorem great_one {s : ByteArray} (h : s.size = 1) : greatB s.data.toList = upC (bt s.data.toList 0) := by
  obtain ⟨c, rfl⟩ := arr_one h
  simp [greatB, word_one, spell, bt]

/-- One byte of a text, cut out. -/
theorem piece_size (s : ByteArray) (k : Nat) (h : k < s.size) : (s.extract k (k + 1)).size = 1 := by
  simp
  omega
theorem piece_bt (s : ByteArray) (k : Nat) : bt (s.extract k (k + 1)).data.toList 0 = bt s.data.toList k := by
  unfold bt
  simp only [List.getD_eq_getElem?_getD, ByteArray.data_extract, Array.toList_extract, List.extract]
  rw [List.getElem?_take_of_lt (by omega), List.getElem?_drop]
  simp
theorem tail_list (s : ByteArray) (k : Nat) : (s.extract k s.size).data.toList = s.data.toList.drop k := Lib.extract_to_end s k
theorem tail_size (s : ByteArray) (k : Nat) : (s.extract k s.size).size = s.size - k := by
  simp

theorem line_iff (c : UInt8) : lineC (c.toNat : Int) = !(c == 10) := by
  unfold lineC
  congr 1
  rw [Bool.eq_iff_iff]
  simp [← UInt8.toNat_inj]
  omega
theorem bt_get (l : List UInt8) (j : Nat) (c : UInt8) (h : l[j]? = some c) : bt l j = (c.toNat : Int) := by
  unfold bt; rw [List.getD_eq_getElem?_getD, h]; rfl
theorem line_none (l : List UInt8) (k : Nat) (hk : k ≤ l.length) (h : Lib.indexByte (l.drop k) 10 = -1) : stop lineC l k = l.length := by
  refine stop_eq _ _ _ _ hk (Nat.le_refl _) (fun j h1 h2 => ?_) (.inl rfl)
  have := Lib.indexByte_none h (j - k)
  rw [List.getElem?_drop, show k + (j - k) = j by omega, List.getElem?_eq_getElem h2] at this
  rw [bt_get l j _ (List.getElem?_eq_getElem h2), line_iff]
  simpa using this
theorem line_some (l : List UInt8) (k o : Nat) (h : Lib.indexByte (l.drop k) 10 = o) : stop lineC l k = k + o ∧ k + o < l.length := by
  obtain ⟨h1, h2⟩ := Lib.indexByte_some h
  rw [List.getElem?_drop] at h1
  have hlt : k + o < l.length := by
    rcases Nat.lt_or_ge (k + o) l.length with a | a
    · exact a
    · rw [List.getElem?_eq_none a] at h1; cases h1
  refine ⟨stop_eq _ _ _ _ (by omega) (by omega) (fun j h3 h4 => ?_) (.inr ?_), hlt⟩
  · have := h2 (j - k) (by omega)
    rw [List.getElem?_drop, show k + (j - k) = j by omega, List.getElem?_eq_getElem (by omega)] at this
    rw [bt_get l j _ (List.getElem?_eq_getElem (by omega)), line_iff]
    simpa using this
  · rw [bt_get l _ _ h1, line_iff]; rfl
theorem index_cases (l : List UInt8) (c : UInt8) : Lib.indexByte l c = -1 ∨ ∃ o : Nat, Lib.indexByte l c = o := by
  have := Lib.indexByte_ge l c
  rcases Int.lt_or_le (Lib.indexByte l c) 0 with a | a
  · left; omega
  · right; exact ⟨(Lib.indexByte l c).toNat, by omega⟩

theorem pre_two (a b : UInt8) (hb : b ≠ 0) (ha : a ≠ 0) (l : List UInt8) : Lib.hasPrefix l [a, b] = (bt l 0 == (a.toNat : Int) && bt l 1 == (b.toNat : Int)) := by
  unfold Lib.hasPrefix bt
  have e : ∀ x y : UInt8, (x == y) = ((y.toNat : Int) == (x.toNat : Int)) := fun x y => by
    rw [Bool.eq_iff_iff]; simp [← UInt8.toNat_inj]; omega
  match l with
  | [] => simp [List.isPrefixOf]; intro h; exact absurd (UInt8.toNat_inj.1 (by simpa using h.symm)) ha
  | [x] => simp [List.isPrefixOf]; intro _ h; exact absurd (UInt8.toNat_inj.1 (by simpa using h.symm)) hb
  | x :: y :: r => simp [List.isPrefixOf, e a x, e b y]
theorem sign_iff (c : UInt8) : ([123, 125, 40, 41, 91, 93, 60, 62, 44, 58, 46, 61] : List UInt8).contains c = signC (c.toNat : Int) := by
  unfold signC signs
  rw [Bool.eq_iff_iff]
  simp [← UInt8.toNat_inj]
  omega

end Go.Proofs.YtbknmokamcjgpaaGreatDoor.M
