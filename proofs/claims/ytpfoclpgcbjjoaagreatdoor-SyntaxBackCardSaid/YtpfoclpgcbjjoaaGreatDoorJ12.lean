/-
  The code's At: the type that begins at a token.
-/
import Derived.Test.YtpfoclpgcbjjoaaGreatDoorJ11
namespace Go.Proofs.YtpfoclpgcbjjoaaGreatDoor
open Go.RowKit
open Go.Sort
open M

section
variable {P : Program}
theorem results_three {fn : Func} {p u u2 : Tmp} {ty : TypeId} (h : fn.results = #[.cell p ty, .tmp u, .tmp u2]) (tmps : Array Value) (w : World) :
    (results fn tmps).run P w = ((asAddr (tmps.getD p undef)).run P w).andThen fun a w₁ => ((loadVar ty a).run P w₁).andThen fun v w₂ => .ok (.tuple #[v, tmps.getD u undef, tmps.getD u2 undef]) w₂ := by
  simp only [results, h]
  simp [Sem.run_bind, Result.andThen]
theorem results_four {fn : Func} {p u u2 u3 : Tmp} {ty : TypeId} (h : fn.results = #[.cell p ty, .tmp u, .tmp u2, .tmp u3]) (tmps : Array Value) (w : World) :
    (results fn tmps).run P w = ((asAddr (tmps.getD p undef)).run P w).andThen fun a w₁ => ((loadVar ty a).run P w₁).andThen fun v w₂ => .ok (.tuple #[v, tmps.getD u undef, tmps.getD u2 undef, tmps.getD u3 undef]) w₂ := by
  simp only [results, h]
  simp [Sem.run_bind, Result.andThen]
theorem ret_agg3 {fn : Func} {R : Ending → World → Prop} {a : Act} {w : World} {p u u2 : Tmp} {ty : TypeId} {ds : Array Field} {vs : List Value} {b : Nat} {x y : Value}
    (h : fn.results = #[.cell p ty, .tmp u, .tmp u2]) (hp : a.tmps.getD p undef = .pointer (some ⟨b, 0, none⟩)) (hx : a.tmps.getD u undef = x) (hy : a.tmps.getD u2 undef = y)
    (hty : P.underlying ty = some (.struct ds)) (hi : (P.info? ty).map (·.size) = some vs.length) (hc : ∀ i v, vs[i]? = some v → w.cell? ⟨b, i, none⟩ = some v)
    (hd : a.defers = []) (hR : R (.returned (.tuple #[.agg vs.toArray, x, y])) w) : bodyPost P fn R .ret a w := by
  refine bodyPost_ret (v := .tuple #[.agg vs.toArray, x, y]) ?_ hd hR
  rw [results_three h, hp, hx, hy]
  simp [asAddr, Result.andThen, run_loadVar_struct w b ty vs ds hty hi hc, Sem.run_pure]
theorem ret_agg4 {fn : Func} {R : Ending → World → Prop} {a : Act} {w : World} {p u u2 u3 : Tmp} {ty : TypeId} {ds : Array Field} {vs : List Value} {b : Nat} {x y z : Value}
    (h : fn.results = #[.cell p ty, .tmp u, .tmp u2, .tmp u3]) (hp : a.tmps.getD p undef = .pointer (some ⟨b, 0, none⟩)) (hx : a.tmps.getD u undef = x) (hy : a.tmps.getD u2 undef = y) (hz : a.tmps.getD u3 undef = z)
    (hty : P.underlying ty = some (.struct ds)) (hi : (P.info? ty).map (·.size) = some vs.length) (hc : ∀ i v, vs[i]? = some v → w.cell? ⟨b, i, none⟩ = some v)
    (hd : a.defers = []) (hR : R (.returned (.tuple #[.agg vs.toArray, x, y, z])) w) : bodyPost P fn R .ret a w := by
  refine bodyPost_ret (v := .tuple #[.agg vs.toArray, x, y, z]) ?_ hd hR
  rw [results_four h, hp, hx, hy, hz]
  simp [asAddr, Result.andThen, run_loadVar_struct w b ty vs ds hty hi hc, Sem.run_pure]
end

/-- A Spot at block g. -/
def SpAt (g : Nat) (x : Int) (b : Nat) (w : World) : Prop := w.heap[g]? = some (.cells #[.int .i64 x, .iface 32 (.int .i64 b)] 91 (0, 0))
/-- The type that begins at a token, or what is amiss. -/
def atR (S : Toks) (i : Nat) : Res Ty := pT S (2 * S.n + 3) 1 i 0
theorem atR_far (S : Toks) (i : Nat) : ∀ j, atR S i ≠ .err 99 j := fun j e => by
  have := (steps S (2 * S.n + 3)).1 1 i 0 (by omega)
  unfold atR at e
  rw [e] at this
  exact this rfl

set_option maxRecDepth 100000 in
set_option maxHeartbeats 4000000 in
theorem new_any (A : Option Addr) (n cn i : Nat) (w : World) : Calls Tryz.prog 43 #[.slice A n cn, .int .i64 i] w fun e w' => e = .returned (.pointer (some ⟨w.heap.size, 0, none⟩)) ∧ w' = w.alloc (.cells #[.slice A n cn, .int .i64 i, .nilIface] 126) := by
  go_enter Tryz.func43, Tryz.ntmps43
  go_wp2_with fail
  go_ret
  exact ⟨rfl, rfl⟩

theorem setRow_below {w wk : World} (h : Below w.heap.size w wk) {b : Nat} (hb : w.heap.size ≤ b) (vs : Array Value) : Below w.heap.size w (wk.setRow b vs) :=
  ⟨h.os, h.tape, h.output, by have := h.size; simpa using this, fun j hj => (setRow_other wk b j _ (by omega)).trans (h.block j hj)⟩

set_option maxRecDepth 100000 in
set_option maxHeartbeats 4000000 in
theorem cat_out (A : Option Addr) (n cn : Nat) (x : Int) (hx : x < 0 ∨ (n : Int) < x) (w : World) : Calls Tryz.prog 136 #[.slice A n cn, .int .i64 x] w fun e w' =>
    ∃ g, e = .returned (.tuple #[.agg #[.int .i64 0, .string ⟨#[]⟩, .int .i64 0, .string ⟨#[]⟩, .string ⟨#[]⟩, .slice none 0 0, .slice none 0 0], .int .i64 0, .iface 99 (.pointer (some ⟨g, 0, none⟩))]) ∧ SpAt g x 2 w' ∧ w.heap.size ≤ g ∧ Below w.heap.size w w' := by
  obtain ⟨w0, hw0⟩ : ∃ w0, w0 = w.alloc (.cells #[.int .i64 0, .string ⟨#[]⟩, .int .i64 0, .string ⟨#[]⟩, .string ⟨#[]⟩, .slice none 0 0, .slice none 0 0] 42) := ⟨_, rfl⟩
  have B0 : Below w.heap.size w w0 := by rw [hw0]; exact below_new (Below.refl _ _) _
  have X0 : Bx w.heap.size w0 := by rw [hw0]; exact heap_alloc_new w _
  have s0 : w0.heap.size = w.heap.size + 1 := by rw [hw0]; simp
  obtain ⟨w1, hw1⟩ : ∃ w1, w1 = w0.alloc (.cells #[.int .i64 x, .iface 32 (.int .i64 2)] 91) := ⟨_, rfl⟩
  have B1 : Below w0.heap.size w0 w1 := by rw [hw1]; exact below_new (Below.refl _ _) _
  have G1 : SpAt w0.heap.size x 2 w1 := by rw [hw1]; exact heap_alloc_new w0 _
  have X1 : Bx w.heap.size w1 := (B1.block _ (by omega)).trans X0
  have FIN : Hid (SpAt w0.heap.size x 2 (w1.setRow w.heap.size #[.int .i64 0, .string ⟨#[]⟩, .int .i64 0, .string ⟨#[]⟩, .string ⟨#[]⟩, .slice none 0 0, .slice none 0 0]) ∧ w.heap.size ≤ w0.heap.size ∧ Below w.heap.size w (w1.setRow w.heap.size #[.int .i64 0, .string ⟨#[]⟩, .int .i64 0, .string ⟨#[]⟩, .string ⟨#[]⟩, .slice none 0 0, .slice none 0 0])) := Lib.hid
    ⟨(setRow_other w1 w.heap.size w0.heap.size _ (by omega)).trans G1, by omega, setRow_below (below_over B0 B1) (Nat.le_refl _) _⟩
  have HX1 := Lib.hid X1
  have HW0 := Lib.hid hw0
  have HW1 := Lib.hid hw1
  have hx1 : x < 0 ∨ ((decide (x < 0) = false) ∧ (decide ((n : Int) < x) = true)) := by
    rcases hx with h | h
    · exact .inl h
    · by_cases h0 : x < 0
      · exact .inl h0
      · exact .inr ⟨by simpa using h0, by simpa using h⟩
  clear hw0 hw1 B0 B1 X0 G1 X1 s0 hx
  have X1 := HX1.out
  unfold Bx at X1
  rw [HW1.out] at X1
  rcases hx1 with h0 | ⟨h0, h1⟩
  · have h0' : decide (x < 0) = true := by simpa using h0
    clear h0
    go_enter Tryz.func136, Tryz.ntmps136
    go_upto_region 1 with fail
    rw [← HW0.out]
    go_upto_region 2 with fail
    go_wp2_with (first | ((with_reducible refine wpList_putRow 42 (w.heap.size) #[.int .i64 0, .string ⟨#[]⟩, .int .i64 0, .string ⟨#[]⟩, .string ⟨#[]⟩, .slice none 0 0, .slice none 0 0] _ _ X1 ?_ ?_ ?_ ?_ ?_ ?_); exact tySize; rfl; exact tyOne; (focus (first | (go_simp; done) | rfl)); (focus (first | (go_simp; done) | rfl))))
    rw [← HW1.out]
    exact ret_agg3 (fn := Tryz.f136) (vs := [.int .i64 0, .string ⟨#[]⟩, .int .i64 0, .string ⟨#[]⟩, .string ⟨#[]⟩, .slice none 0 0, .slice none 0 0]) (b := w.heap.size) rfl rfl rfl rfl Tryz.underlying42 (by kernel_rfl) (cell7 (setRow_heap w1 w.heap.size _ _ _ _ HX1.out)) rfl ⟨_, rfl, FIN.out⟩
  · go_enter Tryz.func136, Tryz.ntmps136
    go_upto_region 1 with fail
    rw [← HW0.out]
    go_upto_region 2 with fail
    go_wp2_with (first | ((with_reducible refine wpList_putRow 42 (w.heap.size) #[.int .i64 0, .string ⟨#[]⟩, .int .i64 0, .string ⟨#[]⟩, .string ⟨#[]⟩, .slice none 0 0, .slice none 0 0] _ _ X1 ?_ ?_ ?_ ?_ ?_ ?_); exact tySize; rfl; exact tyOne; (focus (first | (go_simp; done) | rfl)); (focus (first | (go_simp; done) | rfl))))
    rw [← HW1.out]
    exact ret_agg3 (fn := Tryz.f136) (vs := [.int .i64 0, .string ⟨#[]⟩, .int .i64 0, .string ⟨#[]⟩, .string ⟨#[]⟩, .slice none 0 0, .slice none 0 0]) (b := w.heap.size) rfl rfl rfl rfl Tryz.underlying42 (by kernel_rfl) (cell7 (setRow_heap w1 w.heap.size _ _ _ _ HX1.out)) rfl ⟨_, rfl, FIN.out⟩

/-- What At leaves, of a token that is there, or behind all. -/
def AtOut (w : World) (S : Toks) (i : Nat) (e : Ending) (w' : World) : Prop :=
  Below w.heap.size w w' ∧
  ((∃ (l : List Value) (t : Ty) (j c : Nat), atR S i = .ok t j c ∧ e = .returned (.tuple #[.agg l.toArray, .int .i64 j, .nilIface]) ∧ TyAt (strike (· < w.heap.size) w') l t) ∨
   (∃ (b j g : Nat), atR S i = .err b j ∧ b ≠ 0 ∧ e = .returned (.tuple #[.agg #[.int .i64 0, .string ⟨#[]⟩, .int .i64 0, .string ⟨#[]⟩, .string ⟨#[]⟩, .slice none 0 0, .slice none 0 0], .int .i64 0, .iface 99 (.pointer (some ⟨g, 0, none⟩))]) ∧ SpAt g j b w'))

set_option maxRecDepth 100000 in
set_option maxHeartbeats 4000000 in
theorem cat_in {A : Option Addr} {S : Toks} {cn : Nat} {w : World} (hT : TokAt w A S) (he : CEnv w) (hbig : S.n ≤ 9223372036854775806) (hsm : ∀ i, i < S.n → (S.T i).size ≤ 281474976710656) (i : Nat) (hi : i ≤ S.n) :
    Calls Tryz.prog 136 #[.slice A S.n cn, .int .i64 i] w (AtOut w S i) := by
  obtain ⟨w0, hw0⟩ : ∃ w0, w0 = w.alloc (.cells #[.int .i64 0, .string ⟨#[]⟩, .int .i64 0, .string ⟨#[]⟩, .string ⟨#[]⟩, .slice none 0 0, .slice none 0 0] 42) := ⟨_, rfl⟩
  have B0 : Below w.heap.size w w0 := by rw [hw0]; exact below_new (Below.refl _ _) _
  have X0 : Bx w.heap.size w0 := by rw [hw0]; exact heap_alloc_new w _
  have s0 : w0.heap.size = w.heap.size + 1 := by rw [hw0]; simp
  have NW := Lib.hid (new_any A S.n cn i w0)
  obtain ⟨w1, hw1⟩ : ∃ w1, w1 = w0.alloc (.cells #[.slice A S.n cn, .int .i64 i, .nilIface] 126) := ⟨_, rfl⟩
  have B1 : Below w0.heap.size w0 w1 := by rw [hw1]; exact below_new (Below.refl _ _) _
  have G1 : w1.heap[w0.heap.size]? = some (.cells #[.slice A S.n cn, .int .i64 i, .nilIface] 126 (0, 0)) := by rw [hw1]; exact heap_alloc_new w0 _
  have s1 : w1.heap.size = w0.heap.size + 1 := by rw [hw1]; simp
  obtain ⟨w2, hw2⟩ : ∃ w2, w2 = w1.alloc (.cells #[.pointer (some ⟨w0.heap.size, 0, none⟩), .int .i64 0] 203) := ⟨_, rfl⟩
  have B2 : Below w1.heap.size w1 w2 := by rw [hw2]; exact below_new (Below.refl _ _) _
  have G2 : w2.heap[w1.heap.size]? = some (.cells #[.pointer (some ⟨w0.heap.size, 0, none⟩), .int .i64 0] 203 (0, 0)) := by rw [hw2]; exact heap_alloc_new w1 _
  have s2 : w2.heap.size = w1.heap.size + 1 := by rw [hw2]; simp
  have G12 : w2.heap[w0.heap.size]? = some (.cells #[.slice A S.n cn, .int .i64 i, .nilIface] 126 (0, 0)) := (B2.block _ (by omega)).trans G1
  have B02 : Below w.heap.size w w2 := below_over (below_over B0 B1) B2
  have R2 : RSt w0.heap.size w1.heap.size A S.n cn i 0 0 w2 := ⟨.inl ⟨rfl, G12⟩, 0, fun _ => rfl, G2⟩
  have C2 : RCtx w w0.heap.size w1.heap.size A S w2 := ⟨⟨hT, B02, by omega, hbig, hsm⟩, by omega⟩
  have RE := cread_ok (cu := w0.heap.size) (r := w1.heap.size) (A := A) (S := S) (cn := cn) he (2 * S.n + 3) 1 1 i 0 0 w2 C2 R2 (by omega) (by omega) (by omega) (fun _ j => by rw [readR_one]; exact atR_far S i j)
  rw [badR_0, readR_one] at RE
  have HRE : Hid (Calls Tryz.prog 161 #[.pointer (some ⟨w1.heap.size, 0, none⟩), .int .i64 1, .int .i64 1] w2 (COut w2 w0.heap.size w1.heap.size A S.n cn (atR S i))) := Lib.hid RE
  have HX2 : Hid (Bx w.heap.size w2) := Lib.hid ((B2.block _ (by omega)).trans ((B1.block _ (by omega)).trans X0))
  have HB02 := Lib.hid B02
  have SS := Lib.hid (⟨s0, s1, s2⟩ : w0.heap.size = w.heap.size + 1 ∧ w1.heap.size = w0.heap.size + 1 ∧ w2.heap.size = w1.heap.size + 1)
  have HW0 := Lib.hid hw0
  have HW1 := Lib.hid hw1
  have HW2 := Lib.hid hw2
  have hi0 : ¬ (i : Int) < 0 := by omega
  have hi1 : ¬ S.n < i := by omega
  clear hT he hsm hi hw0 hw1 hw2 B0 B1 B2 X0 G1 G2 G12 B02 R2 C2 RE s0 s1 s2
  go_enter Tryz.func136, Tryz.ntmps136
  go_upto_region 1 with fail
  rw [← HW0.out]
  go_upto_region 3 with fail
  clear hi0 hi1
  go_wp2_with fail
  refine NW.out.mono ?_
  rintro e wz ⟨rfl, rfl⟩
  rw [← HW1.out]
  go_upto_region 4 with fail
  rw [← HW2.out]
  go_wp2_with fail
  refine HRE.out.mono ?_
  rintro e w3 ⟨l, t, i3, c3, b3, rfl, hT3, k3, h3, hc3, hres⟩
  obtain ⟨An, cA, As, cS, rfl, -⟩ := hT3.parts
  have ss := SS.out
  have hs3 := k3.size
  obtain ⟨w4, hw4⟩ : ∃ w4, w4 = w3.alloc (.cells #[.int .i64 t.kind, .string t.pkg, .int .i64 t.major, .string t.mod, .string t.name, .slice An t.names.length cA, .slice As t.subs.length cS] 42) := ⟨_, rfl⟩
  have B4 : Below w3.heap.size w3 w4 := by rw [hw4]; exact below_new (Below.refl _ _) _
  have O4 : w4.heap[w3.heap.size]? = some (.cells #[.int .i64 t.kind, .string t.pkg, .int .i64 t.major, .string t.mod, .string t.name, .slice An t.names.length cA, .slice As t.subs.length cS] 42 (0, 0)) := by rw [hw4]; exact heap_alloc_new w3 _
  have h4 := h3.below B4
  have p4 := h4.p
  have X4 : Bx w.heap.size w4 := (B4.block _ (by omega)).trans ((k3.blk (by omega) ⟨by omega, by omega⟩).trans HX2.out)
  have k24 := k3.trans (KQ.of_below (q := w0.heap.size) (r := w1.heap.size) B4)
  have B24 : Below w.heap.size w w4 := HB02.out.trans (k24.below (by omega) (by omega) (by omega))
  have T4 : TyAt (strike (· < w.heap.size + 1) w4) [.int .i64 t.kind, .string t.pkg, .int .i64 t.major, .string t.mod, .string t.name, .slice An t.names.length cA, .slice As t.subs.length cS] t := hT3.move (by have := B4.size; omega) fun b hb hS => ⟨by omega, B4.block b hb⟩
  have HW4 := Lib.hid hw4
  have HT4 := Lib.hid T4
  have HB24 := Lib.hid B24
  have H4 := Lib.hid h4
  have HX4 := Lib.hid X4
  have HO4 := Lib.hid O4
  have HRS := Lib.hid hres
  clear hT3 k3 h3 hres B4 O4 h4 X4 k24 B24 T4 hw4 ss hs3 HRE HX2 HB02 SS NW
  go_upto_region 5 with fail
  rw [← HW4.out]
  by_cases hb : b3 = 0
  · subst hb
    have CE := Lib.hid (cerr_no H4.out.cur)
    have hok : atR S i = .ok t i3 c3 := by rw [← HRS.out]; rfl
    have O4 := HO4.out
    have x0 := Lib.cell_of_heap O4 0
    have x1 := Lib.cell_of_heap O4 1
    have x2 := Lib.cell_of_heap O4 2
    have x3 := Lib.cell_of_heap O4 3
    have x4 := Lib.cell_of_heap O4 4
    have x5 := Lib.cell_of_heap O4 5
    have x6 := Lib.cell_of_heap O4 6
    simp at x0 x1 x2 x3 x4 x5 x6
    have X4 := HX4.out
    have FIN : Hid (AtOut w S i (.returned (.tuple #[.agg #[.int .i64 t.kind, .string t.pkg, .int .i64 t.major, .string t.mod, .string t.name, .slice An t.names.length cA, .slice As t.subs.length cS], .int .i64 i3, .nilIface])) (w4.drew.setRow w.heap.size #[.int .i64 t.kind, .string t.pkg, .int .i64 t.major, .string t.mod, .string t.name, .slice An t.names.length cA, .slice As t.subs.length cS])) := Lib.hid
      ⟨setRow_below ((HB24.out).trans (Below.drew (Below.refl _ _))) (Nat.le_refl _) _, .inl ⟨[.int .i64 t.kind, .string t.pkg, .int .i64 t.major, .string t.mod, .string t.name, .slice An t.names.length cA, .slice As t.subs.length cS], t, i3, c3, hok, rfl, HT4.out.move (by simp) fun b hb hS => ⟨fun e => hS (Nat.lt_succ_of_lt e), (setRow_other w4.drew w.heap.size b _ (fun e => by subst e; exact hS (Nat.lt_succ_self _))).trans rfl⟩⟩⟩
    have CA := Lib.hid (cat_any (H4.out.cur.below (w' := w4.drew) (Below.drew (Below.refl _ _))))
    have HXD : Hid (Bx w.heap.size w4.drew) := Lib.hid X4
    clear hok O4 X4
    go_wp2_with fail
    refine CE.out.mono ?_; rintro e w5 ⟨rfl, rfl⟩
    go_upto_region 8 with fail
    refine AnyX.start (fun wx => wx.cell? ⟨w1.heap.size, 0, none⟩ = some (.pointer (some ⟨w0.heap.size, 0, none⟩)) ∧ wx.cell? ⟨w3.heap.size, 0, none⟩ = some (.int .i64 t.kind) ∧ wx.cell? ⟨w3.heap.size, 1, none⟩ = some (.string t.pkg) ∧ wx.cell? ⟨w3.heap.size, 2, none⟩ = some (.int .i64 t.major) ∧ wx.cell? ⟨w3.heap.size, 3, none⟩ = some (.string t.mod) ∧ wx.cell? ⟨w3.heap.size, 4, none⟩ = some (.string t.name) ∧ wx.cell? ⟨w3.heap.size, 5, none⟩ = some (.slice An t.names.length cA) ∧ wx.cell? ⟨w3.heap.size, 6, none⟩ = some (.slice As t.subs.length cS)) (fun k => k == 4) (by kernel_rfl) ?_
    have hH0 : w4.drew.cell? ⟨w3.heap.size, 0, none⟩ = some (.int .i64 t.kind) ∧ w4.drew.cell? ⟨w3.heap.size, 1, none⟩ = some (.string t.pkg) ∧ w4.drew.cell? ⟨w3.heap.size, 2, none⟩ = some (.int .i64 t.major) ∧ w4.drew.cell? ⟨w3.heap.size, 3, none⟩ = some (.string t.mod) ∧ w4.drew.cell? ⟨w3.heap.size, 4, none⟩ = some (.string t.name) ∧ w4.drew.cell? ⟨w3.heap.size, 5, none⟩ = some (.slice An t.names.length cA) ∧ w4.drew.cell? ⟨w3.heap.size, 6, none⟩ = some (.slice As t.subs.length cS) := ⟨x0, x1, x2, x3, x4, x5, x6⟩
    have hH1 : w4.drew.cell? ⟨w1.heap.size, 0, none⟩ = some (.pointer (some ⟨w0.heap.size, 0, none⟩)) := p4
    refine AnyX.take (i := 0) (v := ?_) rfl (by kernel_rfl) (by kernel_rfl) (by kernel_rfl) (by kernel_rfl) (by kernel_rfl) (fun _ _ _ h => h) ⟨hH1, hH0⟩ (Or.inl ⟨by rfl, ?_⟩) ?_
    rotate_left
    · (intro wS hS; (try obtain ⟨hS0, hS1, hS2, hS3, hS4, hS5, hS6, hS7⟩ := hS); go_simp; try with_reducible rfl)
    simp only [List.getElem_toArray, List.getElem_cons_succ, List.getElem_cons_zero]
    simp only [Act.put, List.setIfInBounds_toArray]
    simp only [List.set_cons_zero, List.set_cons_succ]
    refine AnyX.move (i := 1) (v := ?_) rfl (by kernel_rfl) (by kernel_rfl) (by kernel_rfl) (by kernel_rfl) (fun _ _ _ h => h) (Or.inl ⟨by rfl, ?_⟩) ?_
    rotate_left
    · (intro wS _; go_simp; try with_reducible rfl)
    simp only [List.getElem_toArray, List.getElem_cons_succ, List.getElem_cons_zero]
    simp only [Act.put, List.setIfInBounds_toArray]
    simp only [List.set_cons_zero, List.set_cons_succ]
    refine AnyX.take (i := 2) (v := ?_) rfl (by kernel_rfl) (by kernel_rfl) (by kernel_rfl) (by kernel_rfl) (by kernel_rfl) (fun _ _ _ h => h) ⟨hH1, hH0⟩ (Or.inl ⟨by rfl, ?_⟩) ?_
    rotate_left
    · (intro wS hS; (try obtain ⟨hS0, hS1, hS2, hS3, hS4, hS5, hS6, hS7⟩ := hS); go_simp; try with_reducible rfl)
    simp only [List.getElem_toArray, List.getElem_cons_succ, List.getElem_cons_zero]
    simp only [Act.put, List.setIfInBounds_toArray]
    simp only [List.set_cons_zero, List.set_cons_succ]
    refine AnyX.go 3 (by kernel_rfl) rfl rfl (fun K hK => ?_)
    simp only [List.getElem_toArray, List.getElem_cons_succ, List.getElem_cons_zero]
    go_simp
    refine (CA.out).mono ?_
    rintro e w5 ⟨rfl, rfl⟩
    simp only []
    refine hK.out _ _ (fun hoff _ => ⟨hH1, hH0⟩) ?_
    clear hK
    try simp only [Act.put, List.setIfInBounds_toArray]
    try simp only [List.set_cons_zero, List.set_cons_succ]
    refine AnyX.go 4 (by kernel_rfl) rfl rfl (fun K hK => ?_)
    simp only [List.getElem_toArray, List.getElem_cons_succ, List.getElem_cons_zero]
    refine wp_store_row 42 (.tmp 4) (.tmp 36) rfl w.heap.size #[.int .i64 t.kind, .string t.pkg, .int .i64 t.major, .string t.mod, .string t.name, .slice An t.names.length cA, .slice As t.subs.length cS] rfl rfl _ _ HXD.out tySize rfl tyOne ?_
    refine hK.out _ _ (fun hoff _ => absurd hoff (by decide)) ?_
    clear hK
    try simp only [Act.put, List.setIfInBounds_toArray]
    try simp only [List.set_cons_zero, List.set_cons_succ]
    refine AnyX.move (i := 5) (v := ?_) rfl (by kernel_rfl) (by kernel_rfl) (by kernel_rfl) (by kernel_rfl) (fun _ _ _ h => h) (Or.inl ⟨by rfl, ?_⟩) ?_
    rotate_left
    · (intro wS _; go_simp; try with_reducible rfl)
    simp only [List.getElem_toArray, List.getElem_cons_succ, List.getElem_cons_zero]
    simp only [Act.put, List.setIfInBounds_toArray]
    simp only [List.set_cons_zero, List.set_cons_succ]
    refine AnyX.move (i := 6) (v := ?_) rfl (by kernel_rfl) (by kernel_rfl) (by kernel_rfl) (by kernel_rfl) (fun _ _ _ h => h) (Or.inl ⟨by rfl, ?_⟩) ?_
    rotate_left
    · (intro wS _; go_simp; try with_reducible rfl)
    simp only [List.getElem_toArray, List.getElem_cons_succ, List.getElem_cons_zero]
    simp only [Act.put, List.setIfInBounds_toArray]
    simp only [List.set_cons_zero, List.set_cons_succ]
    refine AnyX.done (by kernel_rfl) ?_ _
    go_wp2_with fail
    exact ret_agg3 (fn := Tryz.f136) (vs := [.int .i64 t.kind, .string t.pkg, .int .i64 t.major, .string t.mod, .string t.name, .slice An t.names.length cA, .slice As t.subs.length cS]) (b := w.heap.size) rfl rfl rfl rfl Tryz.underlying42 (by kernel_rfl) (cell7 (setRow_heap w4.drew w.heap.size _ _ _ _ HXD.out)) rfl FIN.out
  · have CE := Lib.hid (cerr_yes H4.out.cur hb)
    have herr : atR S i = .err b3 i3 := by rw [← HRS.out]; exact badR_ne _ _ hb
    have X4 := HX4.out
    have FIN : Hid (∀ g, w4.heap[g]? = some (.cells #[.int .i64 i3, .iface 32 (.int .i64 b3)] 91 (0, 0)) → AtOut w S i (.returned (.tuple #[.agg #[.int .i64 0, .string ⟨#[]⟩, .int .i64 0, .string ⟨#[]⟩, .string ⟨#[]⟩, .slice none 0 0, .slice none 0 0], .int .i64 0, .iface 99 (.pointer (some ⟨g, 0, none⟩))])) (w4.setRow w.heap.size #[.int .i64 0, .string ⟨#[]⟩, .int .i64 0, .string ⟨#[]⟩, .string ⟨#[]⟩, .slice none 0 0, .slice none 0 0])) := Lib.hid (fun g hg =>
      ⟨setRow_below HB24.out (Nat.le_refl _) _, .inr ⟨b3, i3, g, herr, hb, rfl, (setRow_other w4 w.heap.size g _ (fun e => by
        subst e
        exact absurd hg (by rw [HX4.out]; simp))).trans hg⟩⟩)
    clear herr
    go_wp2_with fail
    refine CE.out.mono ?_; rintro e w5 ⟨g, rfl, rfl, hg⟩
    have HFG := Lib.hid (FIN.out g hg)
    unfold Bx at X4
    clear hg FIN CE
    go_upto_region 7 with fail
    go_wp2_with (first | ((with_reducible refine wpList_putRow 42 (w.heap.size) #[.int .i64 0, .string ⟨#[]⟩, .int .i64 0, .string ⟨#[]⟩, .string ⟨#[]⟩, .slice none 0 0, .slice none 0 0] _ _ X4 ?_ ?_ ?_ ?_ ?_ ?_); exact tySize; rfl; exact tyOne; (focus (first | (go_simp; done) | rfl)); (focus (first | (go_simp; done) | rfl))))
    exact ret_agg3 (fn := Tryz.f136) (vs := [.int .i64 0, .string ⟨#[]⟩, .int .i64 0, .string ⟨#[]⟩, .string ⟨#[]⟩, .slice none 0 0, .slice none 0 0]) (b := w.heap.size) rfl rfl rfl rfl Tryz.underlying42 (by kernel_rfl) (cell7 (setRow_heap w4 w.heap.size _ _ _ _ HX4.out)) rfl HFG.out

end Go.Proofs.YtpfoclpgcbjjoaaGreatDoor
