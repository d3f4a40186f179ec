/-
  Several texts in one:  ·  · 
-/
import Derived.Test.YtcdmgcgjonndpaaK10
import Derived.Test.YtcdmgcgjonndpaaK19
/-  -/
namespace Go.Proofs.Ytcdmgcgjonndpaa
open Go Go.RowKit Go.Shelf
open Go.Sort
open M
def TdOutH (up : Bool) (a b : Ty) (w : World) (e : Ending) (w' : World) : Prop :=
  ∃ (l : List Value) (q : Bool), e = .returned (.tuple #[.agg l.toArray, .bool q]) ∧ Below w.heap.size w w' ∧ ((q = true ∧ okT a = true ∧ okT b = true ∧ ∃ t, IsBnd up a b t ∧ mayT t = true ∧ TyAt (strikeH (· < w.heap.size) w') l t) ∨ (q = false ∧ l = [.int .i64 0, .string ⟨#[]⟩, .int .i64 0, .string ⟨#[]⟩, .string ⟨#[]⟩, .slice none 0 0, .slice none 0 0] ∧ (okT a = true → okT b = true → ∀ t, IsBnd up a b t → mayT t = false)))
theorem td_shapeH {up q : Bool} {a b : Ty} {w : World} {S : Nat → Prop} {l : List Value} (h : (q = true ∧ okT a = true ∧ okT b = true ∧ ∃ t, IsBnd up a b t ∧ mayT t = true ∧ TyAt (strikeH S w) l t) ∨ (q = false ∧ l = [.int .i64 0, .string ⟨#[]⟩, .int .i64 0, .string ⟨#[]⟩, .string ⟨#[]⟩, .slice none 0 0, .slice none 0 0] ∧ (okT a = true → okT b = true → ∀ t, IsBnd up a b t → mayT t = false))) : ∃ v, ShL l v := by
  rcases h with ⟨-, -, -, t, -, -, hT⟩ | ⟨-, rfl, -⟩
  · obtain ⟨Fn, cF, Fs, dF, rfl, -⟩ := hT.parts
    exact ⟨t, Fn, cF, Fs, dF, rfl⟩
  · exact ⟨zTy, none, 0, none, 0, rfl⟩
set_option maxRecDepth 100000 in
set_option maxHeartbeats 16000000 in
theorem told9_anyH (f : FuncId) (up : Bool) (hff : FnIn f) (hall : BdAll f up) (a b : Ty) (la lb : List Value) (w : World) (hTa : TyAt w la a) (hTb : TyAt w lb b) :
    Calls Try.prog 26 #[.agg la.toArray, .agg lb.toArray, .func (.func f) #[] #[]] w (TdOutH up a b w) := by
  have HTa := Lib.hid hTa
  have HTb := Lib.hid hTb
  obtain ⟨An, cA, As, cS, rfl, -⟩ := hTa.parts
  obtain ⟨Bn, cB, Bs, cD, rfl, -⟩ := hTb.parts
  obtain ⟨W2, hW2, B2, O0, O1, hl2⟩ := two_boxes w #[.int .i64 a.kind, .string a.pkg, .int .i64 a.major, .string a.mod, .string a.name, .slice An a.names.length cA, .slice As a.subs.length cS] #[.int .i64 b.kind, .string b.pkg, .int .i64 b.major, .string b.mod, .string b.name, .slice Bn b.names.length cB, .slice Bs b.subs.length cD] 25 25
  have s2 : W2.heap.size = w.heap.size + 1 + 1 := by rw [hW2]; simp
  obtain ⟨W3, hW3⟩ : ∃ W3, W3 = W2.alloc (.cells #[.int .i64 0, .string ⟨#[]⟩, .int .i64 0, .string ⟨#[]⟩, .string ⟨#[]⟩, .slice none 0 0, .slice none 0 0] 25) := ⟨_, rfl⟩
  have B3 : Below W2.heap.size W2 W3 := by rw [hW3]; exact below_new (Below.refl _ _) _
  have s3 : W3.heap.size = w.heap.size + 1 + 1 + 1 := by rw [hW3]; simp [s2]
  have O2 : W3.heap[w.heap.size + 1 + 1]? = some (.cells #[.int .i64 0, .string ⟨#[]⟩, .int .i64 0, .string ⟨#[]⟩, .string ⟨#[]⟩, .slice none 0 0, .slice none 0 0] 25 (0, 0)) := by rw [hW3, ← s2]; exact heap_alloc_new W2 _
  have HB3 : Hid (Below w.heap.size w W3) := Lib.hid (below_over B2 B3)
  have HX0 : Hid (∀ wx, Below W3.heap.size W3 wx → wx.heap[w.heap.size]? = some (.cells #[.int .i64 a.kind, .string a.pkg, .int .i64 a.major, .string a.mod, .string a.name, .slice An a.names.length cA, .slice As a.subs.length cS] 25 (0, 0))) := Lib.hid (fun wx hb => (hb.block _ (by omega)).trans ((B3.block _ (by omega)).trans O0))
  have HX1 : Hid (∀ wx, Below W3.heap.size W3 wx → wx.heap[w.heap.size + 1]? = some (.cells #[.int .i64 b.kind, .string b.pkg, .int .i64 b.major, .string b.mod, .string b.name, .slice Bn b.names.length cB, .slice Bs b.subs.length cD] 25 (0, 0))) := Lib.hid (fun wx hb => (hb.block _ (by omega)).trans ((B3.block _ (by omega)).trans O1))
  have HR : Hid (∀ wx, Below W3.heap.size W3 wx → wx.heap[w.heap.size + 1 + 1]? = some (.cells #[.int .i64 0, .string ⟨#[]⟩, .int .i64 0, .string ⟨#[]⟩, .string ⟨#[]⟩, .slice none 0 0, .slice none 0 0] 25 (0, 0))) := Lib.hid (fun wx hb => (hb.block _ (by omega)).trans O2)
  have HW : Hid (((w.alloc (.cells #[.int .i64 a.kind, .string a.pkg, .int .i64 a.major, .string a.mod, .string a.name, .slice An a.names.length cA, .slice As a.subs.length cS] 25)).alloc (.cells #[.int .i64 b.kind, .string b.pkg, .int .i64 b.major, .string b.mod, .string b.name, .slice Bn b.names.length cB, .slice Bs b.subs.length cD] 25)).alloc (.cells #[.int .i64 0, .string ⟨#[]⟩, .int .i64 0, .string ⟨#[]⟩, .string ⟨#[]⟩, .slice none 0 0, .slice none 0 0] 25) = W3) := Lib.hid (by rw [hW3, hW2])
  have HS3 := Lib.hid s3
  have HAW : Hid (∀ wx, Below W3.heap.size W3 wx → TyAt wx [.int .i64 a.kind, .string a.pkg, .int .i64 a.major, .string a.mod, .string a.name, .slice An a.names.length cA, .slice As a.subs.length cS] a) := Lib.hid (fun wx hb => HTa.out.keep (below_over HB3.out hb))
  have HBW : Hid (∀ wx, Below W3.heap.size W3 wx → TyAt wx [.int .i64 b.kind, .string b.pkg, .int .i64 b.major, .string b.mod, .string b.name, .slice Bn b.names.length cB, .slice Bs b.subs.length cD] b) := Lib.hid (fun wx hb => HTb.out.keep (below_over HB3.out hb))
  have hrb : w.heap.size ≤ w.heap.size + 1 + 1 := by omega
  have X0 := HX0.out W3 (Below.refl _ _)
  have m0 := Lib.cell_of_heap X0 0
  have m1 := Lib.cell_of_heap X0 1
  have m2 := Lib.cell_of_heap X0 2
  have m3 := Lib.cell_of_heap X0 3
  have m4 := Lib.cell_of_heap X0 4
  have m5 := Lib.cell_of_heap X0 5
  have m6 := Lib.cell_of_heap X0 6
  simp at m0 m1 m2 m3 m4 m5 m6
  have CA := Lib.hid (ofPlain_any f up hff hall a b [.int .i64 a.kind, .string a.pkg, .int .i64 a.major, .string a.mod, .string a.name, .slice An a.names.length cA, .slice As a.subs.length cS] [.int .i64 b.kind, .string b.pkg, .int .i64 b.major, .string b.mod, .string b.name, .slice Bn b.names.length cB, .slice Bs b.subs.length cD] W3 (HAW.out W3 (Below.refl _ _)) (HBW.out W3 (Below.refl _ _)))
  have X1 := HX1.out W3 (Below.refl _ _)
  have n0 := Lib.cell_of_heap X1 0
  have n1 := Lib.cell_of_heap X1 1
  have n2 := Lib.cell_of_heap X1 2
  have n3 := Lib.cell_of_heap X1 3
  have n4 := Lib.cell_of_heap X1 4
  have n5 := Lib.cell_of_heap X1 5
  have n6 := Lib.cell_of_heap X1 6
  simp at n0 n1 n2 n3 n4 n5 n6
  clear hW2 hW3 B2 B3 O0 O1 O2 s2 s3 hl2 hTa hTb X0 hff hall X1
  go_enter Try.func26, Try.ntmps26
  go_upto_region 1 with fail
  rw [HW.out]
  clear HW
  go_wp2_with fail
  refine CA.out.mono ?_; rintro e w4 ⟨l, q, rfl, hb4, hcase⟩
  obtain ⟨v, Hn, cH, Hs, dH, rfl⟩ := op_shape hcase
  clear m0 m1 m2 m3 m4 m5 m6 n0 n1 n2 n3 n4 n5 n6 CA
  obtain ⟨w5, hw5⟩ : ∃ w5, w5 = w4.alloc (.cells #[.int .i64 v.kind, .string v.pkg, .int .i64 v.major, .string v.mod, .string v.name, .slice Hn v.names.length cH, .slice Hs v.subs.length dH] 25) := ⟨_, rfl⟩
  have B45 : Below w4.heap.size w4 w5 := by rw [hw5]; exact below_new (Below.refl _ _) _
  have B5 : Below W3.heap.size W3 w5 := by rw [hw5]; exact below_new hb4 _
  have s5 : w5.heap.size = w4.heap.size + 1 := by rw [hw5]; simp
  have Y5 : w5.heap[w4.heap.size]? = some (.cells #[.int .i64 v.kind, .string v.pkg, .int .i64 v.major, .string v.mod, .string v.name, .slice Hn v.names.length cH, .slice Hs v.subs.length dH] 25 (0, 0)) := by rw [hw5]; exact heap_alloc_new w4 _
  have HW5 := Lib.hid hw5
  have HB5 := Lib.hid B5
  have HY5 : Hid (∀ wx, Below w5.heap.size w5 wx → wx.heap[w4.heap.size]? = some (.cells #[.int .i64 v.kind, .string v.pkg, .int .i64 v.major, .string v.mod, .string v.name, .slice Hn v.names.length cH, .slice Hs v.subs.length dH] 25 (0, 0))) := Lib.hid (fun wx hb => (hb.block _ (by omega)).trans Y5)
  have HC := Lib.hid hcase
  have HB45 := Lib.hid B45
  clear hw5 hb4 hcase B45 B5 Y5 s5
  cases q with
  | false =>
    have hno : okT a = true → okT b = true → NoBnd up a b := by
      rcases HC.out with ⟨h, -⟩ | ⟨-, -, h⟩
      · cases h
      · exact h
    have X7 := HR.out w5 HB5.out
    have HX7 := Lib.hid X7
    have FIN : Hid (TdOutH up a b w (.returned (.tuple #[.agg #[.int .i64 0, .string ⟨#[]⟩, .int .i64 0, .string ⟨#[]⟩, .string ⟨#[]⟩, .slice none 0 0, .slice none 0 0], .bool false])) (w5.setRow (w.heap.size + 1 + 1) #[.int .i64 0, .string ⟨#[]⟩, .int .i64 0, .string ⟨#[]⟩, .string ⟨#[]⟩, .slice none 0 0, .slice none 0 0])) := Lib.hid
      ⟨[.int .i64 0, .string ⟨#[]⟩, .int .i64 0, .string ⟨#[]⟩, .string ⟨#[]⟩, .slice none 0 0, .slice none 0 0], false, rfl, setRow_below (below_over HB3.out HB5.out) hrb _, .inr ⟨rfl, rfl, fun h1 h2 t ht => (ht.not (hno h1 h2)).elim⟩⟩
    clear hno
    go_upto_region 3 with fail
    rw [← HW5.out]
    clear HW5
    go_wp2_with (first | ((with_reducible refine wpList_putRow 25 (w.heap.size + 1 + 1) #[.int .i64 0, .string ⟨#[]⟩, .int .i64 0, .string ⟨#[]⟩, .string ⟨#[]⟩, .slice none 0 0, .slice none 0 0] _ _ X7 ?_ ?_ ?_ ?_ ?_ ?_); exact tySize; rfl; exact tyOne; (focus (first | (go_simp; done) | rfl)); (focus (first | (go_simp; done) | rfl))))
    exact ret_agg (fn := Try.f26) (vs := [.int .i64 0, .string ⟨#[]⟩, .int .i64 0, .string ⟨#[]⟩, .string ⟨#[]⟩, .slice none 0 0, .slice none 0 0]) (b := w.heap.size + 1 + 1) rfl rfl rfl Try.underlying25 (by kernel_rfl) (cell7 (setRow_heap _ (w.heap.size + 1 + 1) _ _ _ _ HX7.out)) rfl FIN.out
  | true =>
    obtain ⟨ha, hb, t, hbd, hTt⟩ : okT a = true ∧ okT b = true ∧ ∃ t, IsBnd up a b t ∧ TyAt w4 [.int .i64 v.kind, .string v.pkg, .int .i64 v.major, .string v.mod, .string v.name, .slice Hn v.names.length cH, .slice Hs v.subs.length dH] t := by
      rcases HC.out with ⟨-, h1, h2, h3⟩ | ⟨h, -⟩
      · exact ⟨h1, h2, h3⟩
      · cases h
    have HOK := Lib.hid (And.intro ha hb)
    have HBD := Lib.hid hbd
    have HTT : Hid (∀ wx, Below w5.heap.size w5 wx → TyAt wx [.int .i64 v.kind, .string v.pkg, .int .i64 v.major, .string v.mod, .string v.name, .slice Hn v.names.length cH, .slice Hs v.subs.length dH] t) := Lib.hid (fun wx hw => hTt.keep (below_over HB45.out hw))
    obtain ⟨p, hp⟩ : ∃ p, p = mayT t := ⟨_, rfl⟩
    have HP := Lib.hid hp
    have CM := Lib.hid (mayK_any t (.agg #[.int .i64 v.kind, .string v.pkg, .int .i64 v.major, .string v.mod, .string v.name, .slice Hn v.names.length cH, .slice Hs v.subs.length dH]) w5 ⟨_, rfl, HTT.out w5 (Below.refl _ _)⟩)
    rw [← hp] at CM
    have Y5 := HY5.out w5 (Below.refl _ _)
    have m0 := Lib.cell_of_heap Y5 0
    have m1 := Lib.cell_of_heap Y5 1
    have m2 := Lib.cell_of_heap Y5 2
    have m3 := Lib.cell_of_heap Y5 3
    have m4 := Lib.cell_of_heap Y5 4
    have m5 := Lib.cell_of_heap Y5 5
    have m6 := Lib.cell_of_heap Y5 6
    simp at m0 m1 m2 m3 m4 m5 m6
    clear hp ha hb hbd hTt Y5
    go_upto_region 2 with fail
    rw [← HW5.out]
    clear HW5
    go_wp2_with fail
    refine CM.out.mono ?_; rintro e w6 ⟨rfl, hb6⟩
    have HB6 := Lib.hid hb6
    clear m0 m1 m2 m3 m4 m5 m6 hb6 CM
    cases p with
    | false =>
      have X7 := HR.out w6 (below_over HB5.out HB6.out)
      have HX7 := Lib.hid X7
      have FIN : Hid (TdOutH up a b w (.returned (.tuple #[.agg #[.int .i64 0, .string ⟨#[]⟩, .int .i64 0, .string ⟨#[]⟩, .string ⟨#[]⟩, .slice none 0 0, .slice none 0 0], .bool false])) (w6.setRow (w.heap.size + 1 + 1) #[.int .i64 0, .string ⟨#[]⟩, .int .i64 0, .string ⟨#[]⟩, .string ⟨#[]⟩, .slice none 0 0, .slice none 0 0])) := Lib.hid
        ⟨[.int .i64 0, .string ⟨#[]⟩, .int .i64 0, .string ⟨#[]⟩, .string ⟨#[]⟩, .slice none 0 0, .slice none 0 0], false, rfl, setRow_below (below_over HB3.out (below_over HB5.out HB6.out)) hrb _, .inr ⟨rfl, rfl, fun _ _ t' ht' => by rw [← HBD.out.one ht']; exact HP.out.symm⟩⟩
      go_upto_region 3 with fail
      go_wp2_with (first | ((with_reducible refine wpList_putRow 25 (w.heap.size + 1 + 1) #[.int .i64 0, .string ⟨#[]⟩, .int .i64 0, .string ⟨#[]⟩, .string ⟨#[]⟩, .slice none 0 0, .slice none 0 0] _ _ X7 ?_ ?_ ?_ ?_ ?_ ?_); exact tySize; rfl; exact tyOne; (focus (first | (go_simp; done) | rfl)); (focus (first | (go_simp; done) | rfl))))
      exact ret_agg (fn := Try.f26) (vs := [.int .i64 0, .string ⟨#[]⟩, .int .i64 0, .string ⟨#[]⟩, .string ⟨#[]⟩, .slice none 0 0, .slice none 0 0]) (b := w.heap.size + 1 + 1) rfl rfl rfl Try.underlying25 (by kernel_rfl) (cell7 (setRow_heap _ (w.heap.size + 1 + 1) _ _ _ _ HX7.out)) rfl FIN.out
    | true =>
      have hmt := HP.out.symm
      have CF := Lib.hid (fresh_anyH t (by have := mayT_many hmt; omega) (fit_ok9 _ t (Nat.le_refl _) (by unfold mayT at hmt; simp only [Bool.and_eq_true] at hmt; exact hmt.1.1)) [.int .i64 v.kind, .string v.pkg, .int .i64 v.major, .string v.mod, .string v.name, .slice Hn v.names.length cH, .slice Hs v.subs.length dH] w6 (HTT.out w6 HB6.out))
      have Y5 := HY5.out w6 HB6.out
      have m0 := Lib.cell_of_heap Y5 0
      have m1 := Lib.cell_of_heap Y5 1
      have m2 := Lib.cell_of_heap Y5 2
      have m3 := Lib.cell_of_heap Y5 3
      have m4 := Lib.cell_of_heap Y5 4
      have m5 := Lib.cell_of_heap Y5 5
      have m6 := Lib.cell_of_heap Y5 6
      simp at m0 m1 m2 m3 m4 m5 m6
      clear hmt Y5
      go_wp2_with fail
      refine CF.out.mono ?_; rintro e w7 ⟨l, rfl, hT7, hb7⟩
      obtain ⟨Fn, cF, Fs, dF, rfl, -⟩ := hT7.parts
      have HB7 := Lib.hid (below_over HB5.out (below_over HB6.out hb7))
      have X7 := HR.out w7 HB7.out
      have HX7 := Lib.hid X7
      have FIN : Hid (TdOutH up a b w (.returned (.tuple #[.agg #[.int .i64 t.kind, .string t.pkg, .int .i64 t.major, .string t.mod, .string t.name, .slice Fn t.names.length cF, .slice Fs t.subs.length dF], .bool true])) (w7.setRow (w.heap.size + 1 + 1) #[.int .i64 t.kind, .string t.pkg, .int .i64 t.major, .string t.mod, .string t.name, .slice Fn t.names.length cF, .slice Fs t.subs.length dF])) := Lib.hid (by
        have h6 := (below_over HB3.out (below_over HB5.out HB6.out)).size
        have h5 := (below_over HB5.out HB6.out).size
        have h3 := HS3.out
        exact ⟨[.int .i64 t.kind, .string t.pkg, .int .i64 t.major, .string t.mod, .string t.name, .slice Fn t.names.length cF, .slice Fs t.subs.length dF], true, rfl, setRow_below (below_over HB3.out HB7.out) hrb _, .inl ⟨rfl, HOK.out.1, HOK.out.2, t, HBD.out, HP.out.symm, hT7.moveH (by rw [size_setRow]; exact Nat.le_refl _) fun k hk hS => ⟨fun e => hS (by show k < w6.heap.size; have : k < w.heap.size := e; omega), setRow_other _ _ _ _ (fun e => hS (by show k < w6.heap.size; omega))⟩⟩⟩)
      clear m0 m1 m2 m3 m4 m5 m6 CF hT7 hb7
      go_wp2_with (first | ((with_reducible refine wpList_putRow 25 (w.heap.size + 1 + 1) #[.int .i64 t.kind, .string t.pkg, .int .i64 t.major, .string t.mod, .string t.name, .slice Fn t.names.length cF, .slice Fs t.subs.length dF] _ _ X7 ?_ ?_ ?_ ?_ ?_ ?_); exact tySize; rfl; exact tyOne; (focus (first | (go_simp; done) | rfl)); (focus (first | (go_simp; done) | rfl))))
      exact ret_agg (fn := Try.f26) (vs := [.int .i64 t.kind, .string t.pkg, .int .i64 t.major, .string t.mod, .string t.name, .slice Fn t.names.length cF, .slice Fs t.subs.length dF]) (b := w.heap.size + 1 + 1) rfl rfl rfl Try.underlying25 (by kernel_rfl) (cell7 (setRow_heap _ (w.heap.size + 1 + 1) _ _ _ _ HX7.out)) rfl FIN.out
set_option maxRecDepth 100000 in
set_option maxHeartbeats 16000000 in
theorem Join_any9H (a b : Ty) (la lb : List Value) (w : World) (hTa : TyAt w la a) (hTb : TyAt w lb b) :
    Calls Try.prog 13 #[.agg la.toArray, .agg lb.toArray] w (TdOutH true a b w) := by
  have HTa := Lib.hid hTa
  have HTb := Lib.hid hTb
  obtain ⟨An, cA, As, cS, rfl, -⟩ := hTa.parts
  obtain ⟨Bn, cB, Bs, cD, rfl, -⟩ := hTb.parts
  obtain ⟨W2, hW2, B2, O0, O1, hl2⟩ := two_boxes w #[.int .i64 a.kind, .string a.pkg, .int .i64 a.major, .string a.mod, .string a.name, .slice An a.names.length cA, .slice As a.subs.length cS] #[.int .i64 b.kind, .string b.pkg, .int .i64 b.major, .string b.mod, .string b.name, .slice Bn b.names.length cB, .slice Bs b.subs.length cD] 25 25
  have s2 : W2.heap.size = w.heap.size + 1 + 1 := by rw [hW2]; simp
  obtain ⟨W3, hW3⟩ : ∃ W3, W3 = W2.alloc (.cells #[.int .i64 0, .string ⟨#[]⟩, .int .i64 0, .string ⟨#[]⟩, .string ⟨#[]⟩, .slice none 0 0, .slice none 0 0] 25) := ⟨_, rfl⟩
  have B3 : Below W2.heap.size W2 W3 := by rw [hW3]; exact below_new (Below.refl _ _) _
  have s3 : W3.heap.size = w.heap.size + 1 + 1 + 1 := by rw [hW3]; simp [s2]
  have O2 : W3.heap[w.heap.size + 1 + 1]? = some (.cells #[.int .i64 0, .string ⟨#[]⟩, .int .i64 0, .string ⟨#[]⟩, .string ⟨#[]⟩, .slice none 0 0, .slice none 0 0] 25 (0, 0)) := by rw [hW3, ← s2]; exact heap_alloc_new W2 _
  have HB3 : Hid (Below w.heap.size w W3) := Lib.hid (below_over B2 B3)
  have HX0 : Hid (∀ wx, Below W3.heap.size W3 wx → wx.heap[w.heap.size]? = some (.cells #[.int .i64 a.kind, .string a.pkg, .int .i64 a.major, .string a.mod, .string a.name, .slice An a.names.length cA, .slice As a.subs.length cS] 25 (0, 0))) := Lib.hid (fun wx hb => (hb.block _ (by omega)).trans ((B3.block _ (by omega)).trans O0))
  have HX1 : Hid (∀ wx, Below W3.heap.size W3 wx → wx.heap[w.heap.size + 1]? = some (.cells #[.int .i64 b.kind, .string b.pkg, .int .i64 b.major, .string b.mod, .string b.name, .slice Bn b.names.length cB, .slice Bs b.subs.length cD] 25 (0, 0))) := Lib.hid (fun wx hb => (hb.block _ (by omega)).trans ((B3.block _ (by omega)).trans O1))
  have HR : Hid (∀ wx, Below W3.heap.size W3 wx → wx.heap[w.heap.size + 1 + 1]? = some (.cells #[.int .i64 0, .string ⟨#[]⟩, .int .i64 0, .string ⟨#[]⟩, .string ⟨#[]⟩, .slice none 0 0, .slice none 0 0] 25 (0, 0))) := Lib.hid (fun wx hb => (hb.block _ (by omega)).trans O2)
  have HW : Hid (((w.alloc (.cells #[.int .i64 a.kind, .string a.pkg, .int .i64 a.major, .string a.mod, .string a.name, .slice An a.names.length cA, .slice As a.subs.length cS] 25)).alloc (.cells #[.int .i64 b.kind, .string b.pkg, .int .i64 b.major, .string b.mod, .string b.name, .slice Bn b.names.length cB, .slice Bs b.subs.length cD] 25)).alloc (.cells #[.int .i64 0, .string ⟨#[]⟩, .int .i64 0, .string ⟨#[]⟩, .string ⟨#[]⟩, .slice none 0 0, .slice none 0 0] 25) = W3) := Lib.hid (by rw [hW3, hW2])
  have HS3 := Lib.hid s3
  have HAW : Hid (∀ wx, Below W3.heap.size W3 wx → TyAt wx [.int .i64 a.kind, .string a.pkg, .int .i64 a.major, .string a.mod, .string a.name, .slice An a.names.length cA, .slice As a.subs.length cS] a) := Lib.hid (fun wx hb => HTa.out.keep (below_over HB3.out hb))
  have HBW : Hid (∀ wx, Below W3.heap.size W3 wx → TyAt wx [.int .i64 b.kind, .string b.pkg, .int .i64 b.major, .string b.mod, .string b.name, .slice Bn b.names.length cB, .slice Bs b.subs.length cD] b) := Lib.hid (fun wx hb => HTb.out.keep (below_over HB3.out hb))
  have hrb : w.heap.size ≤ w.heap.size + 1 + 1 := by omega
  have X0 := HX0.out W3 (Below.refl _ _)
  have m0 := Lib.cell_of_heap X0 0
  have m1 := Lib.cell_of_heap X0 1
  have m2 := Lib.cell_of_heap X0 2
  have m3 := Lib.cell_of_heap X0 3
  have m4 := Lib.cell_of_heap X0 4
  have m5 := Lib.cell_of_heap X0 5
  have m6 := Lib.cell_of_heap X0 6
  simp at m0 m1 m2 m3 m4 m5 m6
  have CA := Lib.hid (told9_anyH _ true fnin_join join_all a b [.int .i64 a.kind, .string a.pkg, .int .i64 a.major, .string a.mod, .string a.name, .slice An a.names.length cA, .slice As a.subs.length cS] [.int .i64 b.kind, .string b.pkg, .int .i64 b.major, .string b.mod, .string b.name, .slice Bn b.names.length cB, .slice Bs b.subs.length cD] W3 (HAW.out W3 (Below.refl _ _)) (HBW.out W3 (Below.refl _ _)))
  have X1 := HX1.out W3 (Below.refl _ _)
  have n0 := Lib.cell_of_heap X1 0
  have n1 := Lib.cell_of_heap X1 1
  have n2 := Lib.cell_of_heap X1 2
  have n3 := Lib.cell_of_heap X1 3
  have n4 := Lib.cell_of_heap X1 4
  have n5 := Lib.cell_of_heap X1 5
  have n6 := Lib.cell_of_heap X1 6
  simp at n0 n1 n2 n3 n4 n5 n6
  clear hW2 hW3 B2 B3 O0 O1 O2 s2 s3 hl2 hTa hTb X0 X1
  go_enter Try.func13, Try.ntmps13
  go_upto_region 1 with fail
  rw [HW.out]
  clear HW
  go_wp2_with fail
  refine CA.out.mono ?_; rintro e w4 ⟨l, q, rfl, hb4, hcase⟩
  obtain ⟨v, Hn, cH, Hs, dH, rfl⟩ := td_shapeH hcase
  have X7 := HR.out w4 hb4
  have HX7 := Lib.hid X7
  have FIN : Hid (TdOutH true a b w (.returned (.tuple #[.agg #[.int .i64 v.kind, .string v.pkg, .int .i64 v.major, .string v.mod, .string v.name, .slice Hn v.names.length cH, .slice Hs v.subs.length dH], .bool q])) (w4.setRow (w.heap.size + 1 + 1) #[.int .i64 v.kind, .string v.pkg, .int .i64 v.major, .string v.mod, .string v.name, .slice Hn v.names.length cH, .slice Hs v.subs.length dH])) := Lib.hid (by
    have h3 := HS3.out
    refine ⟨[.int .i64 v.kind, .string v.pkg, .int .i64 v.major, .string v.mod, .string v.name, .slice Hn v.names.length cH, .slice Hs v.subs.length dH], q, rfl, setRow_below (below_over HB3.out hb4) hrb _, ?_⟩
    rcases hcase with ⟨h1, h2, h4, t, h5, h6, hT⟩ | h
    · exact .inl ⟨h1, h2, h4, t, h5, h6, hT.moveH (by rw [size_setRow]; exact Nat.le_refl _) fun k hk hS => ⟨fun e => hS (by show k < W3.heap.size; have : k < w.heap.size := e; omega), setRow_other _ _ _ _ (fun e => hS (by show k < W3.heap.size; omega))⟩⟩
    · exact .inr h)
  clear m0 m1 m2 m3 m4 m5 m6 n0 n1 n2 n3 n4 n5 n6 CA hb4 hcase
  go_wp2_with (first | ((with_reducible refine wpList_putRow 25 (w.heap.size + 1 + 1) #[.int .i64 v.kind, .string v.pkg, .int .i64 v.major, .string v.mod, .string v.name, .slice Hn v.names.length cH, .slice Hs v.subs.length dH] _ _ X7 ?_ ?_ ?_ ?_ ?_ ?_); exact tySize; rfl; exact tyOne; (focus (first | (go_simp; done) | rfl)); (focus (first | (go_simp; done) | rfl))))
  exact ret_agg (fn := Try.f13) (vs := [.int .i64 v.kind, .string v.pkg, .int .i64 v.major, .string v.mod, .string v.name, .slice Hn v.names.length cH, .slice Hs v.subs.length dH]) (b := w.heap.size + 1 + 1) rfl rfl rfl Try.underlying25 (by kernel_rfl) (cell7 (setRow_heap _ (w.heap.size + 1 + 1) _ _ _ _ HX7.out)) rfl FIN.out
set_option maxRecDepth 100000 in
set_option maxHeartbeats 16000000 in
theorem Meet_any9H (a b : Ty) (la lb : List Value) (w : World) (hTa : TyAt w la a) (hTb : TyAt w lb b) :
    Calls Try.prog 14 #[.agg la.toArray, .agg lb.toArray] w (TdOutH false a b w) := by
  have HTa := Lib.hid hTa
  have HTb := Lib.hid hTb
  obtain ⟨An, cA, As, cS, rfl, -⟩ := hTa.parts
  obtain ⟨Bn, cB, Bs, cD, rfl, -⟩ := hTb.parts
  obtain ⟨W2, hW2, B2, O0, O1, hl2⟩ := two_boxes w #[.int .i64 a.kind, .string a.pkg, .int .i64 a.major, .string a.mod, .string a.name, .slice An a.names.length cA, .slice As a.subs.length cS] #[.int .i64 b.kind, .string b.pkg, .int .i64 b.major, .string b.mod, .string b.name, .slice Bn b.names.length cB, .slice Bs b.subs.length cD] 25 25
  have s2 : W2.heap.size = w.heap.size + 1 + 1 := by rw [hW2]; simp
  obtain ⟨W3, hW3⟩ : ∃ W3, W3 = W2.alloc (.cells #[.int .i64 0, .string ⟨#[]⟩, .int .i64 0, .string ⟨#[]⟩, .string ⟨#[]⟩, .slice none 0 0, .slice none 0 0] 25) := ⟨_, rfl⟩
  have B3 : Below W2.heap.size W2 W3 := by rw [hW3]; exact below_new (Below.refl _ _) _
  have s3 : W3.heap.size = w.heap.size + 1 + 1 + 1 := by rw [hW3]; simp [s2]
  have O2 : W3.heap[w.heap.size + 1 + 1]? = some (.cells #[.int .i64 0, .string ⟨#[]⟩, .int .i64 0, .string ⟨#[]⟩, .string ⟨#[]⟩, .slice none 0 0, .slice none 0 0] 25 (0, 0)) := by rw [hW3, ← s2]; exact heap_alloc_new W2 _
  have HB3 : Hid (Below w.heap.size w W3) := Lib.hid (below_over B2 B3)
  have HX0 : Hid (∀ wx, Below W3.heap.size W3 wx → wx.heap[w.heap.size]? = some (.cells #[.int .i64 a.kind, .string a.pkg, .int .i64 a.major, .string a.mod, .string a.name, .slice An a.names.length cA, .slice As a.subs.length cS] 25 (0, 0))) := Lib.hid (fun wx hb => (hb.block _ (by omega)).trans ((B3.block _ (by omega)).trans O0))
  have HX1 : Hid (∀ wx, Below W3.heap.size W3 wx → wx.heap[w.heap.size + 1]? = some (.cells #[.int .i64 b.kind, .string b.pkg, .int .i64 b.major, .string b.mod, .string b.name, .slice Bn b.names.length cB, .slice Bs b.subs.length cD] 25 (0, 0))) := Lib.hid (fun wx hb => (hb.block _ (by omega)).trans ((B3.block _ (by omega)).trans O1))
  have HR : Hid (∀ wx, Below W3.heap.size W3 wx → wx.heap[w.heap.size + 1 + 1]? = some (.cells #[.int .i64 0, .string ⟨#[]⟩, .int .i64 0, .string ⟨#[]⟩, .string ⟨#[]⟩, .slice none 0 0, .slice none 0 0] 25 (0, 0))) := Lib.hid (fun wx hb => (hb.block _ (by omega)).trans O2)
  have HW : Hid (((w.alloc (.cells #[.int .i64 a.kind, .string a.pkg, .int .i64 a.major, .string a.mod, .string a.name, .slice An a.names.length cA, .slice As a.subs.length cS] 25)).alloc (.cells #[.int .i64 b.kind, .string b.pkg, .int .i64 b.major, .string b.mod, .string b.name, .slice Bn b.names.length cB, .slice Bs b.subs.length cD] 25)).alloc (.cells #[.int .i64 0, .string ⟨#[]⟩, .int .i64 0, .string ⟨#[]⟩, .string ⟨#[]⟩, .slice none 0 0, .slice none 0 0] 25) = W3) := Lib.hid (by rw [hW3, hW2])
  have HS3 := Lib.hid s3
  have HAW : Hid (∀ wx, Below W3.heap.size W3 wx → TyAt wx [.int .i64 a.kind, .string a.pkg, .int .i64 a.major, .string a.mod, .string a.name, .slice An a.names.length cA, .slice As a.subs.length cS] a) := Lib.hid (fun wx hb => HTa.out.keep (below_over HB3.out hb))
  have HBW : Hid (∀ wx, Below W3.heap.size W3 wx → TyAt wx [.int .i64 b.kind, .string b.pkg, .int .i64 b.major, .string b.mod, .string b.name, .slice Bn b.names.length cB, .slice Bs b.subs.length cD] b) := Lib.hid (fun wx hb => HTb.out.keep (below_over HB3.out hb))
  have hrb : w.heap.size ≤ w.heap.size + 1 + 1 := by omega
  have X0 := HX0.out W3 (Below.refl _ _)
  have m0 := Lib.cell_of_heap X0 0
  have m1 := Lib.cell_of_heap X0 1
  have m2 := Lib.cell_of_heap X0 2
  have m3 := Lib.cell_of_heap X0 3
  have m4 := Lib.cell_of_heap X0 4
  have m5 := Lib.cell_of_heap X0 5
  have m6 := Lib.cell_of_heap X0 6
  simp at m0 m1 m2 m3 m4 m5 m6
  have CA := Lib.hid (told9_anyH _ false fnin_meet meet_all a b [.int .i64 a.kind, .string a.pkg, .int .i64 a.major, .string a.mod, .string a.name, .slice An a.names.length cA, .slice As a.subs.length cS] [.int .i64 b.kind, .string b.pkg, .int .i64 b.major, .string b.mod, .string b.name, .slice Bn b.names.length cB, .slice Bs b.subs.length cD] W3 (HAW.out W3 (Below.refl _ _)) (HBW.out W3 (Below.refl _ _)))
  have X1 := HX1.out W3 (Below.refl _ _)
  have n0 := Lib.cell_of_heap X1 0
  have n1 := Lib.cell_of_heap X1 1
  have n2 := Lib.cell_of_heap X1 2
  have n3 := Lib.cell_of_heap X1 3
  have n4 := Lib.cell_of_heap X1 4
  have n5 := Lib.cell_of_heap X1 5
  have n6 := Lib.cell_of_heap X1 6
  simp at n0 n1 n2 n3 n4 n5 n6
  clear hW2 hW3 B2 B3 O0 O1 O2 s2 s3 hl2 hTa hTb X0 X1
  go_enter Try.func14, Try.ntmps14
  go_upto_region 1 with fail
  rw [HW.out]
  clear HW
  go_wp2_with fail
  refine CA.out.mono ?_; rintro e w4 ⟨l, q, rfl, hb4, hcase⟩
  obtain ⟨v, Hn, cH, Hs, dH, rfl⟩ := td_shapeH hcase
  have X7 := HR.out w4 hb4
  have HX7 := Lib.hid X7
  have FIN : Hid (TdOutH false a b w (.returned (.tuple #[.agg #[.int .i64 v.kind, .string v.pkg, .int .i64 v.major, .string v.mod, .string v.name, .slice Hn v.names.length cH, .slice Hs v.subs.length dH], .bool q])) (w4.setRow (w.heap.size + 1 + 1) #[.int .i64 v.kind, .string v.pkg, .int .i64 v.major, .string v.mod, .string v.name, .slice Hn v.names.length cH, .slice Hs v.subs.length dH])) := Lib.hid (by
    have h3 := HS3.out
    refine ⟨[.int .i64 v.kind, .string v.pkg, .int .i64 v.major, .string v.mod, .string v.name, .slice Hn v.names.length cH, .slice Hs v.subs.length dH], q, rfl, setRow_below (below_over HB3.out hb4) hrb _, ?_⟩
    rcases hcase with ⟨h1, h2, h4, t, h5, h6, hT⟩ | h
    · exact .inl ⟨h1, h2, h4, t, h5, h6, hT.moveH (by rw [size_setRow]; exact Nat.le_refl _) fun k hk hS => ⟨fun e => hS (by show k < W3.heap.size; have : k < w.heap.size := e; omega), setRow_other _ _ _ _ (fun e => hS (by show k < W3.heap.size; omega))⟩⟩
    · exact .inr h)
  clear m0 m1 m2 m3 m4 m5 m6 n0 n1 n2 n3 n4 n5 n6 CA hb4 hcase
  go_wp2_with (first | ((with_reducible refine wpList_putRow 25 (w.heap.size + 1 + 1) #[.int .i64 v.kind, .string v.pkg, .int .i64 v.major, .string v.mod, .string v.name, .slice Hn v.names.length cH, .slice Hs v.subs.length dH] _ _ X7 ?_ ?_ ?_ ?_ ?_ ?_); exact tySize; rfl; exact tyOne; (focus (first | (go_simp; done) | rfl)); (focus (first | (go_simp; done) | rfl))))
  exact ret_agg (fn := Try.f14) (vs := [.int .i64 v.kind, .string v.pkg, .int .i64 v.major, .string v.mod, .string v.name, .slice Hn v.names.length cH, .slice Hs v.subs.length dH]) (b := w.heap.size + 1 + 1) rfl rfl rfl Try.underlying25 (by kernel_rfl) (cell7 (setRow_heap _ (w.heap.size + 1 + 1) _ _ _ _ HX7.out)) rfl FIN.out
end Go.Proofs.Ytcdmgcgjonndpaa

/-  -/
namespace Go.Proofs.Ytcdmgcgjonndpaa
open Go Go.RowKit Go.Shelf
open Go.Sort
open M
def likeV (v v' : Value) : Prop := v' = v ∨ (∃ s s' : ByteArray, v = .string s ∧ v' = .string s' ∧ s'.size ≤ 9223372036854775807) ∨ ∃ k k' : Int, v = .int .i64 k ∧ v' = .int .i64 k'
theorem likeV.refl (v : Value) : likeV v v := .inl rfl
theorem likeV.trans {a b c : Value} (h : likeV a b) (h' : likeV b c) : likeV a c := by
  rcases h with rfl | ⟨s, s', rfl, rfl, hz⟩ | ⟨k, k', rfl, rfl⟩
  · exact h'
  · rcases h' with rfl | ⟨t, t', e, rfl, hz'⟩ | ⟨t, t', e, -⟩
    · exact .inr (.inl ⟨s, s', rfl, rfl, hz⟩)
    · exact .inr (.inl ⟨s, t', rfl, rfl, hz'⟩)
    · cases e
  · rcases h' with rfl | ⟨t, t', e, -⟩ | ⟨t, t', e, rfl⟩
    · exact .inr (.inr ⟨k, k', rfl, rfl⟩)
    · cases e
    · exact .inr (.inr ⟨k, t', rfl, rfl⟩)
structure Spo (B : Nat) (w w' : World) : Prop where
  below : Below B w w'
  rows : ∀ (b : Nat) (c : Array Value) (T : TypeId), w.heap[b]? = some (.cells c T (0, 0)) → ∃ c' : Array Value, w'.heap[b]? = some (.cells c' T (0, 0)) ∧ ∀ (i : Nat) (v : Value), c[i]? = some v → ∃ v', c'[i]? = some v' ∧ likeV v v'
  size : w.heap.size ≤ w'.heap.size
theorem Spo.refl (B : Nat) (w : World) : Spo B w w := ⟨Below.refl _ _, fun b c T h => ⟨c, h, fun i v hv => ⟨v, hv, likeV.refl v⟩⟩, Nat.le_refl _⟩
theorem Spo.trans {B : Nat} {a b c : World} (h : Spo B a b) (h' : Spo B b c) : Spo B a c := by
  refine ⟨h.below.trans h'.below, fun d x T hd => ?_, Nat.le_trans h.size h'.size⟩
  obtain ⟨y, hy, hl⟩ := h.rows d x T hd
  obtain ⟨z, hz, hl'⟩ := h'.rows d y T hy
  refine ⟨z, hz, fun i v hv => ?_⟩
  obtain ⟨v1, h1, k1⟩ := hl i v hv
  obtain ⟨v2, h2, k2⟩ := hl' i v1 h1
  exact ⟨v2, h2, k1.trans k2⟩
theorem Spo.of {B : Nat} {w w' : World} (hb : Below w.heap.size w w') (hB : B ≤ w.heap.size) : Spo B w w' :=
  ⟨hb.mono hB, fun b c T h => ⟨c, (hb.block b (Array.getElem?_eq_some_iff.1 h).1).trans h, fun i v hv => ⟨v, hv, likeV.refl v⟩⟩, hb.size⟩
theorem Spo.cell {B : Nat} {w w' : World} (h : Spo B w w') {b o : Nat} {v : Value} (hf : ¬ frz w b) (hc : w.cell? ⟨b, o, none⟩ = some v) : ∃ v', w'.cell? ⟨b, o, none⟩ = some v' ∧ likeV v v' ∧ w'.frozen? ⟨b, o, none⟩ = false := by
  obtain ⟨c, T, hb⟩ := Classical.not_not.1 hf
  obtain ⟨c', hb', hl⟩ := h.rows b c T hb
  rw [Lib.cell_of_heap hb] at hc
  obtain ⟨v', h1, h2⟩ := hl o v hc
  exact ⟨v', by rw [Lib.cell_of_heap hb', h1], h2, Lib.frozen_of_heap hb' o⟩
theorem Spo.hot {B : Nat} {w w' : World} (h : Spo B w w') {b : Nat} (hf : ¬ frz w b) : ¬ frz w' b := by
  obtain ⟨c, T, hb⟩ := Classical.not_not.1 hf
  obtain ⟨c', hb', -⟩ := h.rows b c T hb
  exact fun hn => hn ⟨c', T, hb'⟩
theorem Spo.put {B : Nat} {w : World} {b o : Nat} {v v' : Value} (hB : B ≤ b) (hf : ¬ frz w b) (hc : w.cell? ⟨b, o, none⟩ = some v) (hl : likeV v v') : Spo B w (w.setCell ⟨b, o, none⟩ v') := by
  refine ⟨⟨rfl, rfl, rfl, by simp, fun k hk => Below.heap_setCell _ _ _ _ (by show k ≠ b; omega)⟩, fun d c T hd => ?_, by simp⟩
  by_cases e : d = b
  · subst e
    refine ⟨_, Joins.block_setCell (i := o) hd v', fun i x hx => ?_⟩
    by_cases ei : i = o
    · subst ei
      have hlt := (Array.getElem?_eq_some_iff.1 hx).1
      rw [Lib.cell_of_heap hd, hx] at hc
      cases hc
      exact ⟨v', by rw [Array.getElem?_setIfInBounds_self, if_pos hlt], hl⟩
    · exact ⟨x, by rw [Array.getElem?_setIfInBounds_ne (Ne.symm ei)]; exact hx, likeV.refl x⟩
  · exact ⟨c, (Below.heap_setCell _ _ _ _ (by show d ≠ b; exact e)).trans hd, fun i x hx => ⟨x, hx, likeV.refl x⟩⟩
theorem like_str {s : ByteArray} {v' : Value} (h : likeV (.string s) v') : ∃ s', v' = .string s' ∧ (s' = s ∨ s'.size ≤ 9223372036854775807) := by
  rcases h with rfl | ⟨s0, s', -, rfl, hz⟩ | ⟨k, k', e, -⟩
  · exact ⟨s, rfl, .inl rfl⟩
  · exact ⟨s', rfl, .inr hz⟩
  · cases e
theorem like_int {k : Int} {v' : Value} (h : likeV (.int .i64 k) v') : ∃ k', v' = .int .i64 k' := by
  rcases h with rfl | ⟨s0, s', e, -⟩ | ⟨k0, k', -, rfl⟩
  · exact ⟨k, rfl⟩
  · cases e
  · exact ⟨k', rfl⟩
theorem like_slice {A : Option Addr} {n c : Nat} {v' : Value} (h : likeV (.slice A n c) v') : v' = .slice A n c := by
  rcases h with rfl | ⟨s0, s', e, -⟩ | ⟨k0, k', e, -⟩
  · rfl
  · cases e
  · cases e
theorem relabel {w : World} {t : Ty} {An As : Option Addr} {cn cs : Nat} (h : TyAt w [.int .i64 t.kind, .string t.pkg, .int .i64 t.major, .string t.mod, .string t.name, .slice An t.names.length cn, .slice As t.subs.length cs] t) {k j : Int} {p d n : ByteArray} (hp : p.size ≤ 9223372036854775807) (hd : d.size ≤ 9223372036854775807) (hn : n.size ≤ 9223372036854775807) :
    TyAt w [.int .i64 k, .string p, .int .i64 j, .string d, .string n, .slice An t.names.length cn, .slice As t.subs.length cs] (.mk k p j d n t.names t.subs) := by
  generalize hl : [Value.int .i64 t.kind, .string t.pkg, .int .i64 t.major, .string t.mod, .string t.name, .slice An t.names.length cn, .slice As t.subs.length cs] = l at h
  cases h with
  | mk kind pkg major mod name names subs An' cn' As' cs' C hp' hm' hn' hln hls hcs hN hl7 hS hT =>
    simp only [List.cons.injEq, Value.slice.injEq, and_true] at hl
    obtain ⟨-, -, -, -, -, ⟨rfl, -, rfl⟩, rfl, -, rfl⟩ := hl
    exact .mk k p j d n names subs An cn As cs C hp hd hn hln hls hcs hN hl7 hS hT
theorem many_label (t : Ty) (k j : Int) (p d n : ByteArray) : many (.mk k p j d n t.names t.subs) = many t := by cases t; rfl
theorem choose_nat {α : Type} {P : Nat → α → Prop} (h : ∀ i, ∃ y, P i y) : ∃ f : Nat → α, ∀ i, P i (f i) := Classical.axiomOfChoice h
theorem manyL_eqv : ∀ (a b : List Ty), a.length = b.length → (∀ (i : Nat) (x y : Ty), a[i]? = some x → b[i]? = some y → many x = many y) → manyL a = manyL b
  | [], [], _, _ => rfl
  | x :: a, y :: b, h, hm => by
    have h1 := hm 0 x y rfl rfl
    have h2 := manyL_eqv a b (by simpa using h) (fun i u v hu hv => hm (i + 1) u v (by simpa using hu) (by simpa using hv))
    show many x + manyL a = many y + manyL b
    omega
  | [], _ :: _, h, _ => by simp at h
  | _ :: _, [], h, _ => by simp at h
theorem spo_ty {B : Nat} {w w' : World} (hs : Spo B w w') {l : List Value} {t : Ty} (h : TyAt (strikeH (· < B) w) l t) : ∃ t' : Ty, many t' = many t ∧ t'.names.length = t.names.length ∧ t'.subs.length = t.subs.length ∧ TyAt (strikeH (· < B) w') l t' := by
  generalize hW : strikeH (· < B) w = W at h
  induction h with
  | mk kind pkg major mod name names subs An cn As cs C hp hm hn hln hls hcs hN hl hS hT ih =>
    subst hW
    have cell : ∀ {b o : Nat} {v : Value}, (strikeH (· < B) w).cell? ⟨b, o, none⟩ = some v → ∃ v', (strikeH (· < B) w').cell? ⟨b, o, none⟩ = some v' ∧ likeV v v' := fun {b o v} hc => by
      obtain ⟨h1, h2⟩ := strike_cell.1 hc
      obtain ⟨v', h3, h4, -⟩ := hs.cell (fun e => h1 (.inr e)) h2
      exact ⟨v', strike_cell.2 ⟨fun e => e.elim (fun e => h1 (.inl e)) (hs.hot (fun e => h1 (.inr e))), h3⟩, h4⟩
    have hz : (strikeH (· < B) w).heap.size ≤ (strikeH (· < B) w').heap.size := by rw [strikeH_size, strikeH_size]; exact hs.size
    obtain ⟨F, hF⟩ : ∃ F : Nat → ByteArray, ∀ i, ∀ s, names[i]? = some s → ∃ g o, An = some ⟨g, o, none⟩ ∧ g < (strikeH (· < B) w').heap.size ∧ (strikeH (· < B) w').cell? ⟨g, o + i, none⟩ = some (.string (F i)) ∧ (F i).size ≤ 9223372036854775807 := choose_nat (P := fun (i : Nat) (y : ByteArray) => ∀ s, names[i]? = some s → ∃ g o, An = some ⟨g, o, none⟩ ∧ g < (strikeH (· < B) w').heap.size ∧ (strikeH (· < B) w').cell? ⟨g, o + i, none⟩ = some (.string y) ∧ y.size ≤ 9223372036854775807) fun i => by
      cases hi : names[i]? with
      | none => exact ⟨⟨#[]⟩, fun s h => by cases h⟩
      | some s =>
        obtain ⟨g, o, hA, hg, hc, hsz⟩ := hN i s hi
        obtain ⟨v', h1, h2⟩ := cell hc
        obtain ⟨s', rfl, h3⟩ := like_str h2
        exact ⟨s', fun s0 h0 => by cases h0; exact ⟨g, o, hA, Nat.lt_of_lt_of_le hg hz, h1, by rcases h3 with rfl | h3; exact hsz; exact h3⟩⟩
    obtain ⟨G, hG⟩ : ∃ G : Nat → List Value × Ty, ∀ i, (G i).1.length = 7 ∧ ∀ s, subs[i]? = some s → many (G i).2 = many s ∧ TyAt (strikeH (· < B) w') (G i).1 (G i).2 ∧ ∃ g o, As = some ⟨g, o, none⟩ ∧ g < (strikeH (· < B) w').heap.size ∧ ∀ j v, (G i).1[j]? = some v → (strikeH (· < B) w').cell? ⟨g, o + i * 7 + j, none⟩ = some v := choose_nat (P := fun (i : Nat) (y : List Value × Ty) => y.1.length = 7 ∧ ∀ s, subs[i]? = some s → many y.2 = many s ∧ TyAt (strikeH (· < B) w') y.1 y.2 ∧ ∃ g o, As = some ⟨g, o, none⟩ ∧ g < (strikeH (· < B) w').heap.size ∧ ∀ j v, y.1[j]? = some v → (strikeH (· < B) w').cell? ⟨g, o + i * 7 + j, none⟩ = some v) fun i => by
      cases hi : subs[i]? with
      | none => exact ⟨([.int .i64 0, .int .i64 0, .int .i64 0, .int .i64 0, .int .i64 0, .int .i64 0, .int .i64 0], zTy), rfl, fun s h => by cases h⟩
      | some s =>
        obtain ⟨g, o, hA, hg, hc⟩ := hS i s hi
        obtain ⟨s', hm', hn', hs', hT'⟩ := ih i s hi
        obtain ⟨Pn, cP, Ps, dP, he, -⟩ := hT'.parts
        rw [he] at hc hT'
        obtain ⟨u0, k0, l0⟩ := cell (hc 0 _ rfl)
        obtain ⟨u1, k1, l1⟩ := cell (hc 1 _ rfl)
        obtain ⟨u2, k2, l2⟩ := cell (hc 2 _ rfl)
        obtain ⟨u3, k3, l3⟩ := cell (hc 3 _ rfl)
        obtain ⟨u4, k4, l4⟩ := cell (hc 4 _ rfl)
        obtain ⟨u5, k5, l5⟩ := cell (hc 5 _ rfl)
        obtain ⟨u6, k6, l6⟩ := cell (hc 6 _ rfl)
        obtain ⟨-, -, -, -, -, z1, z3, z4, -⟩ := hT'.parts
        obtain ⟨x0, rfl⟩ := like_int l0
        obtain ⟨x1, rfl, e1⟩ := like_str l1
        obtain ⟨x2, rfl⟩ := like_int l2
        obtain ⟨x3, rfl, e3⟩ := like_str l3
        obtain ⟨x4, rfl, e4⟩ := like_str l4
        obtain rfl := like_slice l5
        obtain rfl := like_slice l6
        have hnew := relabel hT' (k := x0) (j := x2) (p := x1) (d := x3) (n := x4) (by rcases e1 with rfl | e; exact z1; exact e) (by rcases e3 with rfl | e; exact z3; exact e) (by rcases e4 with rfl | e; exact z4; exact e)
        refine ⟨(_, _), rfl, fun s0 h0 => by
          cases h0
          refine ⟨(many_label s' _ _ _ _ _).trans hm', hnew, g, o, hA, Nat.lt_of_lt_of_le hg hz, fun j v hv => ?_⟩
          match j, hv with
          | 0, hv => cases hv; exact k0
          | 1, hv => cases hv; exact k1
          | 2, hv => cases hv; exact k2
          | 3, hv => cases hv; exact k3
          | 4, hv => cases hv; exact k4
          | 5, hv => cases hv; exact k5
          | 6, hv => cases hv; exact k6
          | (j + 7), hv => simp at hv⟩
    have hat : ∀ (i : Nat) (y : Ty), ((List.range subs.length).map fun i => (G i).2)[i]? = some y → i < subs.length ∧ y = (G i).2 := fun i y hy => by
      have hi := (List.getElem?_eq_some_iff.1 hy).1
      simp at hi
      rw [List.getElem?_map, List.getElem?_range hi] at hy
      simp at hy
      exact ⟨hi, hy.symm⟩
    refine ⟨.mk kind pkg major mod name ((List.range names.length).map F) ((List.range subs.length).map fun i => (G i).2), ?_, by simp [Ty.names], by simp [Ty.subs], ?_⟩
    · show 1 + manyL _ = 1 + manyL subs
      rw [manyL_eqv _ subs (by simp) (fun i x y hx hy => by
        obtain ⟨hi, rfl⟩ := hat i x hx
        exact ((hG i).2 y hy).1)]
    · have hl1 : ((List.range names.length).map F).length = names.length := by simp
      have hl2 : ((List.range subs.length).map fun i => (G i).2).length = subs.length := by simp
      have key := TyAt.mk (w := strikeH (· < B) w') kind pkg major mod name ((List.range names.length).map F) ((List.range subs.length).map fun i => (G i).2) An cn As cs (fun i => (G i).1) hp hm hn (by rw [hl1]; exact hln) (by rw [hl2]; exact hls) (by rw [hl2]; exact hcs) (fun i s hi => by
        have hlt := (List.getElem?_eq_some_iff.1 hi).1
        simp at hlt
        rw [List.getElem?_map, List.getElem?_range hlt] at hi
        simp at hi
        subst hi
        exact hF i _ (List.getElem?_eq_getElem hlt)) (fun i => (hG i).1) (fun i y hy => by
        obtain ⟨hi, rfl⟩ := hat i y hy
        exact ((hG i).2 _ (List.getElem?_eq_getElem hi)).2.2) (fun i y hy => by
        obtain ⟨hi, rfl⟩ := hat i y hy
        exact ((hG i).2 _ (List.getElem?_eq_getElem hi)).2.1)
      rw [hl1, hl2] at key
      exact key
end Go.Proofs.Ytcdmgcgjonndpaa

/-  -/
namespace Go.Proofs.Ytcdmgcgjonndpaa
open Go Go.RowKit Go.Shelf
open Go.Sort
open M
set_option maxRecDepth 100000 in
set_option maxHeartbeats 8000000 in
theorem spoil_any (B : Nat) (N : Nat) : ∀ (t : Ty), many t ≤ N → ∀ (l : List Value) (w : World), B ≤ w.heap.size → TyAt (strikeH (· < B) w) l t →
    Calls Try.prog 20 #[.agg l.toArray] w fun e w' => e = .returned (.tuple #[]) ∧ Spo B w w' := by
  induction N with
  | zero => intro t h; have := many_pos t; omega
  | succ N ih =>
  intro t hN l w hB hT
  have HT0 := Lib.hid hT
  obtain ⟨An, cA, As, cS, rfl, -, -, -, zn, zm, hNa, -⟩ := hT.parts
  obtain ⟨n, hn⟩ : ∃ n, n = t.names.length := ⟨_, rfl⟩
  obtain ⟨m, hm⟩ : ∃ m, m = t.subs.length := ⟨_, rfl⟩
  have HN := Lib.hid hn
  have HM := Lib.hid hm
  obtain ⟨W1, hW1⟩ : ∃ W1, W1 = w.alloc (.cells #[.int .i64 t.kind, .string t.pkg, .int .i64 t.major, .string t.mod, .string t.name, .slice An t.names.length cA, .slice As t.subs.length cS] 25) := ⟨_, rfl⟩
  have B1 : Below w.heap.size w W1 := by rw [hW1]; exact below_new (Below.refl _ _) _
  have X1 : W1.heap[w.heap.size]? = some (.cells #[.int .i64 t.kind, .string t.pkg, .int .i64 t.major, .string t.mod, .string t.name, .slice An t.names.length cA, .slice As t.subs.length cS] 25 (0, 0)) := by rw [hW1]; exact heap_alloc_new w _
  have HW := Lib.hid hW1
  have S1 : Hid (Spo B w W1) := Lib.hid (Spo.of B1 hB)
  have HT1 : Hid (TyAt (strikeH (· < B) W1) [.int .i64 t.kind, .string t.pkg, .int .i64 t.major, .string t.mod, .string t.name, .slice An t.names.length cA, .slice As t.subs.length cS] t) := Lib.hid (hT.moveH B1.size fun b hb hS => ⟨hS, B1.block b hb⟩)
  have HNA := Lib.hid hNa
  have HB1 := Lib.hid B1
  have HX : Hid (∀ wx, Spo B W1 wx → wx.cell? ⟨w.heap.size, 5, none⟩ = some (.slice An n cA) ∧ wx.cell? ⟨w.heap.size, 6, none⟩ = some (.slice As m cS)) := Lib.hid (fun wx hs => by
    have hh : ¬ frz W1 w.heap.size := fun h => h ⟨_, _, X1⟩
    obtain ⟨v5, h5, k5, -⟩ := hs.cell hh (Lib.cell_of_heap X1 5)
    obtain ⟨v6, h6, k6, -⟩ := hs.cell hh (Lib.cell_of_heap X1 6)
    rw [hn, hm]
    rw [like_slice k5] at h5
    rw [like_slice k6] at h6
    exact ⟨h5, h6⟩)
  have IH := Lib.hid ih
  have HMT := Lib.hid hN
  have hB1 : Hid (B ≤ W1.heap.size) := Lib.hid (Nat.le_trans hB B1.size)
  rw [← hn] at zn
  rw [← hm] at zm
  clear hT hW1 B1 X1 hNa hn hm ih hN hB
  go_enter Try.func20, Try.ntmps20
  go_upto_region 1 with fail
  rw [← HW.out]
  clear HW
  go_wp2_with fail
  go_loopw [2] (fun s2 wr => ∃ k : Nat, k ≤ n ∧ s2 = .int .i64 k ∧ Hid (Spo B W1 wr)) (fun s2 _ => n - (intOf s2).toNat)
  case atStart => exact ⟨0, by omega, rfl, Lib.hid (Spo.refl _ _)⟩
  case round =>
    obtain ⟨k, hk, rfl, HS⟩ := hrel
    obtain ⟨wo, rfl⟩ : ∃ wo : World, wo = wr := ⟨_, rfl⟩
    obtain ⟨x5, x6⟩ := HX.out wo HS.out
    by_cases hlt : k < n
    · obtain ⟨s, hs⟩ : ∃ s, t.names[k]? = some s := at_some (by rw [← HN.out]; exact hlt)
      obtain ⟨g, o, rfl, hg, hc, -⟩ := HNA.out k s hs
      obtain ⟨hc1, hc2⟩ := strike_cell.1 hc
      have hgl : g < w.heap.size := by rw [strikeH_size] at hg; exact hg
      have hgB : B ≤ g := by rcases Nat.lt_or_ge g B with h | h; exact absurd (.inl h) hc1; exact h
      have hot1 : ¬ frz W1 g := frz_same (HB1.out.block g hgl) (fun h => hc1 (.inr h))
      obtain ⟨v', c0, k0, f0⟩ := HS.out.cell hot1 ((HB1.out.cell (p := ⟨g, _, none⟩) hgl).trans hc2)
      obtain ⟨s', rfl, -⟩ := like_str k0
      have NEW : Hid (Spo B W1 (wo.setCell ⟨g, o + k, none⟩ (.string ⟨#[33]⟩))) := Lib.hid (HS.out.trans (Spo.put hgB (HS.out.hot hot1) c0 (.inr (.inl ⟨s', _, rfl, rfl, by decide⟩))))
      have hk0 : (0 : Int) ≤ k := by omega
      have hk1 : (k : Int) < n := by omega
      clear hs hg hc hc1 hc2 hot1 k0 x6
      go_wp2_with fail
      go_roundw
      case rel => exact ⟨k + 1, by omega, by go_num, NEW⟩
      case measure => simp [intOf]; omega
    · have HS0 := HS
      go_wp2_with fail
      clear x5 x6
      obtain ⟨wq, rfl⟩ : ∃ wq : World, wq = wo := ⟨_, rfl⟩
      go_loopw [3] (fun s3 wr => ∃ k : Nat, k ≤ m ∧ s3 = .int .i64 k ∧ Hid (Spo B W1 wr)) (fun s3 _ => m - (intOf s3).toNat)
      case atStart => exact ⟨0, by omega, rfl, HS0⟩
      case round =>
        obtain ⟨k, hk, rfl, HS⟩ := hrel
        obtain ⟨wo, rfl⟩ : ∃ wo : World, wo = wr := ⟨_, rfl⟩
        obtain ⟨x5, x6⟩ := HX.out wo HS.out
        by_cases hlt : k < m
        · obtain ⟨t1, hm1, -, hl1, hT1⟩ := spo_ty HS.out HT1.out
          obtain ⟨An', cA', As', cS', e, -, -, -, -, -, -, hSs⟩ := hT1.parts
          simp only [List.cons.injEq, Value.slice.injEq, and_true] at e
          obtain ⟨-, -, -, -, -, -, rfl, -, -⟩ := e
          obtain ⟨y, hy⟩ : ∃ y, t1.subs[k]? = some y := at_some (by rw [hl1, ← HM.out]; exact hlt)
          obtain ⟨g, o, v0, v1, v2, v3, v4, v5, v6, rfl, hg, h0, h1, h2, h3, h4, h5, h6, hy7⟩ := hSs k y hy
          obtain ⟨Gn, cG, Gs, dG, rfl, rfl, rfl, rfl, rfl, rfl, rfl⟩ := hy7.seven
          obtain ⟨hc1, d0⟩ := strike_cell.1 h0
          have d1 := (strike_cell.1 h1).2
          have d2 := (strike_cell.1 h2).2
          have d3 := (strike_cell.1 h3).2
          have d4 := (strike_cell.1 h4).2
          have d5 := (strike_cell.1 h5).2
          have d6 := (strike_cell.1 h6).2
          have hgB : B ≤ g := by rcases Nat.lt_or_ge g B with h | h; exact absurd (.inl h) hc1; exact h
          have HOT : Hid (¬ frz wo g ∧ B ≤ g ∧ wo.cell? ⟨g, o + k * 7, none⟩ = some (.int .i64 y.kind)) := Lib.hid ⟨fun h => hc1 (.inr h), hgB, d0⟩
          have hls := sub_lt_at hy
          have CT := Lib.hid (IH.out y (by have := HMT.out; omega) _ wo (Nat.le_trans hB1.out HS.out.size) hy7)
          have hk0 : (0 : Int) ≤ k := by omega
          have hk1 : (k : Int) < m := by omega
          clear hm1 hl1 hT1 hSs hy hg h0 h1 h2 h3 h4 h5 h6 hy7 hc1 hgB hls x5
          go_wp2_with fail
          refine CT.out.mono ?_; rintro e w2 ⟨rfl, hs2⟩
          obtain ⟨v', c0, k0, f0⟩ := hs2.cell HOT.out.1 HOT.out.2.2
          obtain ⟨x', rfl⟩ := like_int k0
          have x6' := (HX.out w2 (HS.out.trans hs2)).2
          have NEW : Hid (Spo B W1 (w2.setCell ⟨g, o + k * 7, none⟩ (.int .i64 99))) := Lib.hid ((HS.out.trans hs2).trans (Spo.put HOT.out.2.1 (hs2.hot HOT.out.1) c0 (.inr (.inr ⟨x', 99, rfl, rfl⟩))))
          clear d0 d1 d2 d3 d4 d5 d6 x6 hs2 k0 CT
          go_wp2_with fail
          go_roundw
          case rel => exact ⟨k + 1, by omega, by go_num, NEW⟩
          case measure => simp [intOf]; omega
        · have FIN := Lib.hid (S1.out.trans HS.out)
          go_wp2_with fail
          go_end0
          exact ⟨rfl, FIN.out⟩
end Go.Proofs.Ytcdmgcgjonndpaa
