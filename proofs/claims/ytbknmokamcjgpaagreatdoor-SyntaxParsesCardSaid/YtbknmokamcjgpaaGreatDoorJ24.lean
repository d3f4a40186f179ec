/-
  Parse of the code, and of the reference: the type of a text.
-/
import Derived.Test.YtbknmokamcjgpaaGreatDoorJ21
import Derived.Test.YtbknmokamcjgpaaGreatDoorJ23
namespace Go.Proofs.YtbknmokamcjgpaaGreatDoor
open Go.RowKit
open Go.Sort
open M

theorem finN_size (s : ByteArray) : ∀ (n i : Nat) (acc : List Tok), (∀ t ∈ acc, t.text.size ≤ s.size) → ∀ t ∈ (finN s n i acc).1, t.text.size ≤ s.size
  | 0, _, acc, h => h
  | n + 1, i, acc, h => by
    unfold finN
    split
    · exact h
    split
    · intro t ht; simp at ht
    split
    · exact finN_size s n _ acc h
    · refine finN_size s n _ _ fun t ht => ?_
      rcases List.mem_append.1 ht with ht | ht
      · exact h t ht
      · rw [List.mem_singleton.1 ht]
        simp only [ByteArray.size_extract]
        omega
theorem fin_size (s : ByteArray) {ts : List Tok} (h : fin s 0 [] = (ts, -1)) : ∀ t ∈ ts, t.text.size ≤ s.size := by
  have := finN_size s (s.size - 0) 0 [] (fun t ht => by simp at ht)
  unfold fin at h
  rw [h] at this
  exact this
theorem finN_len (s : ByteArray) : ∀ (n i : Nat) (acc : List Tok), (finN s n i acc).1.length ≤ acc.length + n
  | 0, _, acc => by unfold finN; exact Nat.le_refl _
  | n + 1, i, acc => by
    unfold finN
    split
    · show acc.length ≤ _; omega
    split
    · show 0 ≤ _; omega
    split
    · have := finN_len s n (item s.data.toList i).2 acc; omega
    · have := finN_len s n (item s.data.toList i).2 (acc ++ [⟨(item s.data.toList i).1, i, s.extract i (item s.data.toList i).2⟩])
      simp at this; omega
theorem fin_len (s : ByteArray) {ts : List Tok} (h : fin s 0 [] = (ts, -1)) : ts.length ≤ s.size := by
  have := finN_len s (s.size - 0) 0 []
  unfold fin at h
  rw [h] at this
  simpa using this
/-- Tokens by place. -/
def tkS (ts : List Tok) : Toks := ⟨ts.length, fun i => ((ts[i]?).map (fun t => (t.kind : Int))).getD 0, fun i => ((ts[i]?).map (fun t => t.text)).getD ⟨#[]⟩⟩
theorem RowAt.toks {w : World} {A : Option Addr} {ts : List Tok} (h : RowAt w A ts) (hs : ∀ t ∈ ts, t.text.size ≤ 20000) : TokAt w A (tkS ts) := by
  intro i hi
  have hi' : i < ts.length := hi
  have ht : ts[i]? = some ts[i] := List.getElem?_eq_getElem hi'
  obtain ⟨g, hA, hg, h0, h1, h2⟩ := h i _ ht
  have eK : (tkS ts).K i = (ts[i].kind : Int) := by unfold tkS; simp [ht]
  have eT : (tkS ts).T i = ts[i].text := by unfold tkS; simp [ht]
  refine ⟨g, 0, _, hA, hg, by rw [Nat.zero_add, eK]; exact h0, by rw [Nat.zero_add]; exact h1, by rw [Nat.zero_add, eT]; exact h2, ?_⟩
  rw [eT]
  have := hs _ (List.getElem_mem hi')
  omega
theorem tkS_small {ts : List Tok} (hs : ∀ t ∈ ts, t.text.size ≤ 20000) : ∀ i, i < (tkS ts).n → ((tkS ts).T i).size ≤ 281474976710656 := fun i hi => by
  have hi' : i < ts.length := hi
  have ht : ts[i]? = some ts[i] := List.getElem?_eq_getElem hi'
  have eT : (tkS ts).T i = ts[i].text := by unfold tkS; simp [ht]
  rw [eT]
  have := hs _ (List.getElem_mem hi')
  omega
/-- What stands behind a type is amiss. -/
def endR (n : Nat) : Res Ty → Res Ty
  | .err b j => .err b j
  | .ok t j c => if j < n then .err 2 j else .ok t j c
/-- The type of a text that isn't too long. -/
def parR (s : ByteArray) : Res Ty := if (fin s 0 []).2 < 0 then endR (fin s 0 []).1.length (atR (tkS (fin s 0 []).1) 0) else .err 2 (fin s 0 []).2.toNat
theorem parR_yes {s : ByteArray} {ts : List Tok} (h : fin s 0 [] = (ts, -1)) : parR s = endR ts.length (atR (tkS ts) 0) := by unfold parR; rw [h]; rfl
theorem parR_no {s : ByteArray} {k : Nat} (h : fin s 0 [] = ([], (k : Int))) : parR s = .err 2 k := by unfold parR; rw [h]; rw [if_neg (by show ¬ (k : Int) < 0; omega)]; rfl

/-- A Spot's two cells. -/
def SpC (g : Nat) (x : Int) (b : Nat) (w : World) : Prop := g < w.heap.size ∧ w.cell? ⟨g, 0, none⟩ = some (.int .i64 x) ∧ w.cell? ⟨g, 1, none⟩ = some (.iface 31 (.int .i64 b))
theorem SpAt.cells {g : Nat} {x : Int} {b : Nat} {w : World} (h : SpAt g x b w) : SpC g x b w := ⟨(Array.getElem?_eq_some_iff.1 h).1, by have := Lib.cell_of_heap h 0; simpa using this, by have := Lib.cell_of_heap h 1; simpa using this⟩
theorem SpC.below {g : Nat} {x : Int} {b : Nat} {w w' : World} (h : SpC g x b w) (hb : Below w.heap.size w w') : SpC g x b w' := ⟨Nat.lt_of_lt_of_le h.1 hb.size, (hb.cell (p := ⟨g, 0, none⟩) h.1).trans h.2.1, (hb.cell (p := ⟨g, 1, none⟩) h.1).trans h.2.2⟩
theorem SpC.row {g r : Nat} {x : Int} {b : Nat} {w : World} (h : SpC g x b w) (hne : g ≠ r) (vs : Array Value) : SpC g x b (w.setRow r vs) :=
  ⟨by have := h.1; simpa using this, (World.cell?_of_block (a := ⟨g, 0, none⟩) (setRow_other w r g vs hne)).trans h.2.1, (World.cell?_of_block (a := ⟨g, 1, none⟩) (setRow_other w r g vs hne)).trans h.2.2⟩

/-- What Parse leaves. -/
def PrOut (w : World) (R : Res Ty) (e : Ending) (w' : World) : Prop :=
  Below w.heap.size w w' ∧
  ((∃ (l : List Value) (t : Ty) (j c : Nat), R = .ok t j c ∧ e = .returned (.tuple #[.agg l.toArray, .nilIface]) ∧ TyAt (strike (· < w.heap.size) w') l t) ∨
   (∃ (b j g : Nat), R = .err b j ∧ b ≠ 0 ∧ e = .returned (.tuple #[.agg #[.int .i64 0, .string ⟨#[]⟩, .int .i64 0, .string ⟨#[]⟩, .string ⟨#[]⟩, .slice none 0 0, .slice none 0 0], .iface 63 (.pointer (some ⟨g, 0, none⟩))]) ∧ SpC g j b w'))
theorem toks_cases (s : ByteArray) : (∃ ts, fin s 0 [] = (ts, -1)) ∨ ∃ k : Nat, fin s 0 [] = ([], (k : Int)) := by
  rcases fin_at s s.size 0 [] (by omega) with h | ⟨k, -, h⟩
  · exact .inl ⟨(fin s 0 []).1, by rw [← h]⟩
  · exact .inr ⟨k, h⟩

set_option maxRecDepth 100000 in
set_option maxHeartbeats 4000000 in
theorem cparse_large (s : ByteArray) (w : World) (hs : 20000 < s.size) : Calls Tryz.prog 9 #[.string s] w fun e w' => e = .returned (.tuple #[.agg #[.int .i64 0, .string ⟨#[]⟩, .int .i64 0, .string ⟨#[]⟩, .string ⟨#[]⟩, .slice none 0 0, .slice none 0 0], .iface 31 (.int .i64 3)]) ∧ Below w.heap.size w w' := by
  obtain ⟨w0, hw0⟩ : ∃ w0, w0 = w.alloc (.cells #[.int .i64 0, .string ⟨#[]⟩, .int .i64 0, .string ⟨#[]⟩, .string ⟨#[]⟩, .slice none 0 0, .slice none 0 0] 26) := ⟨_, rfl⟩
  have B0 : Below w.heap.size w w0 := by rw [hw0]; exact below_new (Below.refl _ _) _
  have X0 : Bx w.heap.size w0 := by rw [hw0]; exact heap_alloc_new w _
  have FIN : Hid (Below w.heap.size w (w0.setRow w.heap.size #[.int .i64 0, .string ⟨#[]⟩, .int .i64 0, .string ⟨#[]⟩, .string ⟨#[]⟩, .slice none 0 0, .slice none 0 0])) := Lib.hid (setRow_below B0 (Nat.le_refl _) _)
  have HX0 := Lib.hid X0
  have HW0 := Lib.hid hw0
  have TK := Lib.hid (tokens_large s w0 hs)
  clear hw0 B0
  unfold Bx at X0
  go_enter Tryz.func9, Tryz.ntmps9
  go_upto_region 1 with fail
  rw [← HW0.out]
  go_wp2_with fail
  refine TK.out.mono ?_; rintro e w1 ⟨rfl, rfl⟩
  go_upto_region 3 with fail
  go_wp2_with (first | ((with_reducible refine wpList_putRow 26 (w.heap.size) #[.int .i64 0, .string ⟨#[]⟩, .int .i64 0, .string ⟨#[]⟩, .string ⟨#[]⟩, .slice none 0 0, .slice none 0 0] _ _ X0 ?_ ?_ ?_ ?_ ?_ ?_); exact tySize; rfl; exact tyOne; (focus (first | (go_simp; done) | rfl)); (focus (first | (go_simp; done) | rfl))))
  exact ret_agg (fn := Tryz.f9) (vs := [.int .i64 0, .string ⟨#[]⟩, .int .i64 0, .string ⟨#[]⟩, .string ⟨#[]⟩, .slice none 0 0, .slice none 0 0]) (b := w.heap.size) rfl rfl rfl Tryz.underlying26 (by kernel_rfl) (cell7 (setRow_heap w0 w.heap.size _ _ _ _ HX0.out)) rfl ⟨rfl, FIN.out⟩

set_option maxRecDepth 100000 in
set_option maxHeartbeats 4000000 in
theorem cparse_any (s : ByteArray) (w : World) (hs : s.size ≤ 20000) (he : CEnv w) : Calls Tryz.prog 9 #[.string s] w (PrOut w (parR s)) := by
  obtain ⟨w0, hw0⟩ : ∃ w0, w0 = w.alloc (.cells #[.int .i64 0, .string ⟨#[]⟩, .int .i64 0, .string ⟨#[]⟩, .string ⟨#[]⟩, .slice none 0 0, .slice none 0 0] 26) := ⟨_, rfl⟩
  have B0 : Below w.heap.size w w0 := by rw [hw0]; exact below_new (Below.refl _ _) _
  have X0 : Bx w.heap.size w0 := by rw [hw0]; exact heap_alloc_new w _
  have s0 : w.heap.size < w0.heap.size := by rw [hw0]; simp
  have HX0 := Lib.hid X0
  have HB0 := Lib.hid B0
  have HW0 := Lib.hid hw0
  have HE := Lib.hid he
  clear hw0 B0 X0 he
  rcases toks_cases s with ⟨ts, hf⟩ | ⟨k, hf⟩
  rotate_left
  · have TK := Lib.hid (tokens_no s k w0 hs hf)
    have HP := Lib.hid (parR_no hf)
    clear hf
    go_enter Tryz.func9, Tryz.ntmps9
    go_upto_region 1 with fail
    rw [← HW0.out]
    go_wp2_with fail
    refine TK.out.mono ?_; rintro e w1 ⟨b, rfl, hb0, hb1, c0, c1, B1⟩
    have X1 : Bx w.heap.size w1 := (B1.block _ s0).trans HX0.out
    have FIN : Hid (PrOut w (parR s) (.returned (.tuple #[.agg #[.int .i64 0, .string ⟨#[]⟩, .int .i64 0, .string ⟨#[]⟩, .string ⟨#[]⟩, .slice none 0 0, .slice none 0 0], .iface 63 (.pointer (some ⟨b, 0, none⟩))])) (w1.setRow w.heap.size #[.int .i64 0, .string ⟨#[]⟩, .int .i64 0, .string ⟨#[]⟩, .string ⟨#[]⟩, .slice none 0 0, .slice none 0 0])) := Lib.hid
      ⟨setRow_below (below_over HB0.out B1) (Nat.le_refl _) _, .inr ⟨2, k, b, HP.out, by decide, rfl, SpC.row (show SpC b (k : Int) 2 w1 from ⟨hb1, c0, c1⟩) (by omega) _⟩⟩
    have HX1 := Lib.hid X1
    unfold Bx at X1
    clear hb0 hb1 c0 c1 B1 TK
    go_upto_region 3 with fail
    go_wp2_with (first | ((with_reducible refine wpList_putRow 26 (w.heap.size) #[.int .i64 0, .string ⟨#[]⟩, .int .i64 0, .string ⟨#[]⟩, .string ⟨#[]⟩, .slice none 0 0, .slice none 0 0] _ _ X1 ?_ ?_ ?_ ?_ ?_ ?_); exact tySize; rfl; exact tyOne; (focus (first | (go_simp; done) | rfl)); (focus (first | (go_simp; done) | rfl))))
    exact ret_agg (fn := Tryz.f9) (vs := [.int .i64 0, .string ⟨#[]⟩, .int .i64 0, .string ⟨#[]⟩, .string ⟨#[]⟩, .slice none 0 0, .slice none 0 0]) (b := w.heap.size) rfl rfl rfl Tryz.underlying26 (by kernel_rfl) (cell7 (setRow_heap w1 w.heap.size _ _ _ _ HX1.out)) rfl FIN.out
  have hsz : ∀ t ∈ ts, t.text.size ≤ 20000 := fun t ht => Nat.le_trans (fin_size s hf t ht) hs
  have TK := Lib.hid (tokens_yes s ts w0 hs hf)
  have HP := Lib.hid (parR_yes hf)
  have HSZ := Lib.hid hsz
  clear hf hsz
  go_enter Tryz.func9, Tryz.ntmps9
  go_upto_region 1 with fail
  rw [← HW0.out]
  go_wp2_with fail
  refine TK.out.mono ?_; rintro e w1 ⟨A, cn, rfl, hlen, hrow, B1⟩
  have B01 := below_over HB0.out B1
  have AT0 := cat_in (cn := cn) (hrow.toks HSZ.out) (HE.out.on B01) (by show ts.length ≤ _; omega) (tkS_small HSZ.out) 0 (Nat.zero_le _)
  have AT : Hid (Calls Tryz.prog 13 #[.slice A ts.length cn, .int .i64 0] w1 (AtOut w1 (tkS ts) 0)) := Lib.hid AT0
  have HX1 : Hid (Bx w.heap.size w1) := Lib.hid ((B1.block _ s0).trans HX0.out)
  have s1 : w.heap.size < w1.heap.size := Nat.lt_of_lt_of_le s0 B1.size
  have HB01 := Lib.hid B01
  clear hrow B1 B01 AT0 TK HX0 HB0
  go_upto_region 4 with fail
  go_wp2_with fail
  refine AT.out.mono ?_
  rintro e w2 ⟨B2, ⟨l, t, j, c, hok, rfl, hT⟩ | ⟨b, j, g, herr, hb, rfl, hsp⟩⟩
  rotate_left
  · obtain ⟨w3, hw3⟩ : ∃ w3, w3 = w2.alloc (.cells #[.int .i64 0, .string ⟨#[]⟩, .int .i64 0, .string ⟨#[]⟩, .string ⟨#[]⟩, .slice none 0 0, .slice none 0 0] 26) := ⟨_, rfl⟩
    have B3 : Below w2.heap.size w2 w3 := by rw [hw3]; exact below_new (Below.refl _ _) _
    have X3 : Bx w.heap.size w3 := (B3.block _ (Nat.lt_of_lt_of_le s1 B2.size)).trans ((B2.block _ s1).trans HX1.out)
    have hgw : g ≠ w.heap.size := fun e => by
      have X2 : Bx w.heap.size w2 := (B2.block _ s1).trans HX1.out
      subst e
      exact two_types hsp X2 (by decide) rfl
    have FIN : Hid (PrOut w (parR s) (.returned (.tuple #[.agg #[.int .i64 0, .string ⟨#[]⟩, .int .i64 0, .string ⟨#[]⟩, .string ⟨#[]⟩, .slice none 0 0, .slice none 0 0], .iface 63 (.pointer (some ⟨g, 0, none⟩))])) (w3.setRow w.heap.size #[.int .i64 0, .string ⟨#[]⟩, .int .i64 0, .string ⟨#[]⟩, .string ⟨#[]⟩, .slice none 0 0, .slice none 0 0])) := Lib.hid
      ⟨setRow_below (below_over (below_over HB01.out B2) B3) (Nat.le_refl _) _, .inr ⟨b, j, g, by rw [HP.out, herr]; rfl, hb, rfl, (hsp.cells.below B3).row hgw _⟩⟩
    have HX3 := Lib.hid X3
    have HW3 := Lib.hid hw3
    unfold Bx at X3
    clear hw3 B3 B2 hsp herr hb hgw HX1 HB01 AT
    go_upto_region 5 with fail
    rw [← HW3.out]
    go_upto_region 6 with fail
    go_wp2_with (first | ((with_reducible refine wpList_putRow 26 (w.heap.size) #[.int .i64 0, .string ⟨#[]⟩, .int .i64 0, .string ⟨#[]⟩, .string ⟨#[]⟩, .slice none 0 0, .slice none 0 0] _ _ X3 ?_ ?_ ?_ ?_ ?_ ?_); exact tySize; rfl; exact tyOne; (focus (first | (go_simp; done) | rfl)); (focus (first | (go_simp; done) | rfl))))
    exact ret_agg (fn := Tryz.f9) (vs := [.int .i64 0, .string ⟨#[]⟩, .int .i64 0, .string ⟨#[]⟩, .string ⟨#[]⟩, .slice none 0 0, .slice none 0 0]) (b := w.heap.size) rfl rfl rfl Tryz.underlying26 (by kernel_rfl) (cell7 (setRow_heap w3 w.heap.size _ _ _ _ HX3.out)) rfl FIN.out
  obtain ⟨An, cA, As, cS, rfl, -⟩ := hT.parts
  obtain ⟨w3, hw3⟩ : ∃ w3, w3 = w2.alloc (.cells #[.int .i64 t.kind, .string t.pkg, .int .i64 t.major, .string t.mod, .string t.name, .slice An t.names.length cA, .slice As t.subs.length cS] 26) := ⟨_, rfl⟩
  have B3 : Below w2.heap.size w2 w3 := by rw [hw3]; exact below_new (Below.refl _ _) _
  have O3 : w3.heap[w2.heap.size]? = some (.cells #[.int .i64 t.kind, .string t.pkg, .int .i64 t.major, .string t.mod, .string t.name, .slice An t.names.length cA, .slice As t.subs.length cS] 26 (0, 0)) := by rw [hw3]; exact heap_alloc_new w2 _
  have s2 := B2.size
  have X3 : Bx w.heap.size w3 := (B3.block _ (by omega)).trans ((B2.block _ s1).trans HX1.out)
  have B03 := below_over (below_over HB01.out B2) B3
  have HX3 := Lib.hid X3
  have HW3 := Lib.hid hw3
  by_cases hlt : j < ts.length
  · obtain ⟨w4, hw4⟩ : ∃ w4, w4 = w3.alloc (.cells #[.int .i64 j, .iface 31 (.int .i64 2)] 65) := ⟨_, rfl⟩
    have B4 : Below w3.heap.size w3 w4 := by rw [hw4]; exact below_new (Below.refl _ _) _
    have G4 : SpAt w3.heap.size j 2 w4 := by rw [hw4]; exact heap_alloc_new w3 _
    have hs3 : w.heap.size < w3.heap.size := (Array.getElem?_eq_some_iff.1 X3).1
    have X4 : Bx w.heap.size w4 := (B4.block _ hs3).trans X3
    have FIN : Hid (PrOut w (parR s) (.returned (.tuple #[.agg #[.int .i64 0, .string ⟨#[]⟩, .int .i64 0, .string ⟨#[]⟩, .string ⟨#[]⟩, .slice none 0 0, .slice none 0 0], .iface 63 (.pointer (some ⟨w3.heap.size, 0, none⟩))])) (w4.setRow w.heap.size #[.int .i64 0, .string ⟨#[]⟩, .int .i64 0, .string ⟨#[]⟩, .string ⟨#[]⟩, .slice none 0 0, .slice none 0 0])) := Lib.hid
      ⟨setRow_below (below_over B03 B4) (Nat.le_refl _) _, .inr ⟨2, j, w3.heap.size, by rw [HP.out, hok]; exact if_pos hlt, by decide, rfl, G4.cells.row (by omega) _⟩⟩
    have HX4 := Lib.hid X4
    have HW4 := Lib.hid hw4
    unfold Bx at X4
    rw [hw4] at X4
    clear hw3 hw4 B3 B4 G4 B2 hok hT O3 X3 B03 HX1 HB01 AT HX3
    go_upto_region 5 with fail
    rw [← HW3.out]
    go_upto_region 8 with fail
    go_wp2_with (first | ((with_reducible refine wpList_putRow 26 (w.heap.size) #[.int .i64 0, .string ⟨#[]⟩, .int .i64 0, .string ⟨#[]⟩, .string ⟨#[]⟩, .slice none 0 0, .slice none 0 0] _ _ X4 ?_ ?_ ?_ ?_ ?_ ?_); exact tySize; rfl; exact tyOne; (focus (first | (go_simp; done) | rfl)); (focus (first | (go_simp; done) | rfl))))
    rw [← HW4.out]
    exact ret_agg (fn := Tryz.f9) (vs := [.int .i64 0, .string ⟨#[]⟩, .int .i64 0, .string ⟨#[]⟩, .string ⟨#[]⟩, .slice none 0 0, .slice none 0 0]) (b := w.heap.size) rfl rfl rfl Tryz.underlying26 (by kernel_rfl) (cell7 (setRow_heap w4 w.heap.size _ _ _ _ HX4.out)) rfl FIN.out
  · have T3 : TyAt (strike (· < w.heap.size + 1) w3) [.int .i64 t.kind, .string t.pkg, .int .i64 t.major, .string t.mod, .string t.name, .slice An t.names.length cA, .slice As t.subs.length cS] t := hT.move (by have := B3.size; omega) fun b hb hS => ⟨by omega, B3.block b hb⟩
    have FIN : Hid (PrOut w (parR s) (.returned (.tuple #[.agg #[.int .i64 t.kind, .string t.pkg, .int .i64 t.major, .string t.mod, .string t.name, .slice An t.names.length cA, .slice As t.subs.length cS], .nilIface])) (w3.setRow w.heap.size #[.int .i64 t.kind, .string t.pkg, .int .i64 t.major, .string t.mod, .string t.name, .slice An t.names.length cA, .slice As t.subs.length cS])) := Lib.hid
      ⟨setRow_below B03 (Nat.le_refl _) _, .inl ⟨[.int .i64 t.kind, .string t.pkg, .int .i64 t.major, .string t.mod, .string t.name, .slice An t.names.length cA, .slice As t.subs.length cS], t, j, c, by rw [HP.out, hok]; exact if_neg hlt, rfl, T3.move (by simp) fun b hb hS => ⟨fun e => hS (Nat.lt_succ_of_lt e), setRow_other w3 w.heap.size b _ (fun e => by subst e; exact hS (Nat.lt_succ_self _))⟩⟩⟩
    have x0 := Lib.cell_of_heap O3 0
    have x1 := Lib.cell_of_heap O3 1
    have x2 := Lib.cell_of_heap O3 2
    have x3 := Lib.cell_of_heap O3 3
    have x4 := Lib.cell_of_heap O3 4
    have x5 := Lib.cell_of_heap O3 5
    have x6 := Lib.cell_of_heap O3 6
    simp at x0 x1 x2 x3 x4 x5 x6
    unfold Bx at X3
    clear hw3 B3 B2 hok hT O3 B03 HX1 HB01 AT T3
    go_upto_region 5 with fail
    rw [← HW3.out]
    go_upto_region 9 with fail
    go_wp2_with (first | ((with_reducible refine wpList_putRow 26 (w.heap.size) #[.int .i64 t.kind, .string t.pkg, .int .i64 t.major, .string t.mod, .string t.name, .slice An t.names.length cA, .slice As t.subs.length cS] _ _ X3 ?_ ?_ ?_ ?_ ?_ ?_); exact tySize; rfl; exact tyOne; (focus (first | (go_simp; done) | rfl)); (focus (first | (go_simp; done) | rfl))))
    exact ret_agg (fn := Tryz.f9) (vs := [.int .i64 t.kind, .string t.pkg, .int .i64 t.major, .string t.mod, .string t.name, .slice An t.names.length cA, .slice As t.subs.length cS]) (b := w.heap.size) rfl rfl rfl Tryz.underlying26 (by kernel_rfl) (cell7 (setRow_heap w3 w.heap.size _ _ _ _ HX3.out)) rfl FIN.out

/-- What the reference's Parse leaves. -/
def RrOut (w : World) (R : Res Ty) (e : Ending) (w' : World) : Prop :=
  Below w.heap.size w w' ∧
  ((∃ (l : List Value) (t : Ty) (j c : Nat), R = .ok t j c ∧ e = .returned (.tuple #[.agg l.toArray, .int .i64 0, .int .i64 (-1)]) ∧ TyAt (strike (· < w.heap.size) w') l t) ∨
   (∃ (b j : Nat), R = .err b j ∧ b ≠ 0 ∧ e = .returned (.tuple #[.agg #[.int .i64 0, .string ⟨#[]⟩, .int .i64 0, .string ⟨#[]⟩, .string ⟨#[]⟩, .slice none 0 0, .slice none 0 0], .int .i64 b, .int .i64 j])))

set_option maxRecDepth 100000 in
set_option maxHeartbeats 4000000 in
theorem rparse_any (s : ByteArray) (w : World) (hs : s.size ≤ 20000) : Calls Tryz.prog 11 #[.string s] w (RrOut w (parR s)) := by
  obtain ⟨w0, hw0⟩ : ∃ w0, w0 = w.alloc (.cells #[.int .i64 0, .string ⟨#[]⟩, .int .i64 0, .string ⟨#[]⟩, .string ⟨#[]⟩, .slice none 0 0, .slice none 0 0] 26) := ⟨_, rfl⟩
  have B0 : Below w.heap.size w w0 := by rw [hw0]; exact below_new (Below.refl _ _) _
  have X0 : Bx w.heap.size w0 := by rw [hw0]; exact heap_alloc_new w _
  have s0 : w.heap.size < w0.heap.size := by rw [hw0]; simp
  have HX0 := Lib.hid X0
  have HB0 := Lib.hid B0
  have HW0 := Lib.hid hw0
  clear hw0 B0 X0
  rcases toks_cases s with ⟨ts, hf⟩ | ⟨k, hf⟩
  rotate_left
  · have TK := Lib.hid (ref_no s k w0 hs hf)
    have HP := Lib.hid (parR_no hf)
    clear hf
    go_enter Tryz.func11, Tryz.ntmps11
    go_upto_region 1 with fail
    rw [← HW0.out]
    go_wp2_with fail
    refine TK.out.mono ?_; rintro e w1 ⟨rfl, B1⟩
    have X1 : Bx w.heap.size w1 := (B1.block _ s0).trans HX0.out
    have FIN : Hid (RrOut w (parR s) (.returned (.tuple #[.agg #[.int .i64 0, .string ⟨#[]⟩, .int .i64 0, .string ⟨#[]⟩, .string ⟨#[]⟩, .slice none 0 0, .slice none 0 0], .int .i64 2, .int .i64 k])) (w1.setRow w.heap.size #[.int .i64 0, .string ⟨#[]⟩, .int .i64 0, .string ⟨#[]⟩, .string ⟨#[]⟩, .slice none 0 0, .slice none 0 0])) := Lib.hid
      ⟨setRow_below (below_over HB0.out B1) (Nat.le_refl _) _, .inr ⟨2, k, HP.out, by decide, rfl⟩⟩
    have HX1 := Lib.hid X1
    have hk0 : (0 : Int) ≤ (k : Int) := by omega
    unfold Bx at X1
    clear B1 TK
    go_upto_region 3 with fail
    go_wp2_with (first | ((with_reducible refine wpList_putRow 26 (w.heap.size) #[.int .i64 0, .string ⟨#[]⟩, .int .i64 0, .string ⟨#[]⟩, .string ⟨#[]⟩, .slice none 0 0, .slice none 0 0] _ _ X1 ?_ ?_ ?_ ?_ ?_ ?_); exact tySize; rfl; exact tyOne; (focus (first | (go_simp; done) | rfl)); (focus (first | (go_simp; done) | rfl))))
    exact ret_agg3 (fn := Tryz.f11) (vs := [.int .i64 0, .string ⟨#[]⟩, .int .i64 0, .string ⟨#[]⟩, .string ⟨#[]⟩, .slice none 0 0, .slice none 0 0]) (b := w.heap.size) rfl rfl rfl rfl Tryz.underlying26 (by kernel_rfl) (cell7 (setRow_heap w1 w.heap.size _ _ _ _ HX1.out)) rfl FIN.out
  have hsz : ∀ t ∈ ts, t.text.size ≤ 20000 := fun t ht => Nat.le_trans (fin_size s hf t ht) hs
  have TK := Lib.hid (ref_yes s ts w0 hs hf)
  have hlen : ts.length ≤ 20000 := Nat.le_trans (fin_len s hf) hs
  have HP := Lib.hid (parR_yes hf)
  have HSZ := Lib.hid hsz
  clear hf hsz
  go_enter Tryz.func11, Tryz.ntmps11
  go_upto_region 1 with fail
  rw [← HW0.out]
  go_wp2_with fail
  refine TK.out.mono ?_; rintro e w1 ⟨A, cn, rfl, hrow, B1⟩
  have B01 := below_over HB0.out B1
  have AT0 := rat_in (cn := cn) (hrow.toks HSZ.out) (by show ts.length ≤ _; omega) 0 (Nat.zero_le _)
  have AT : Hid (Calls Tryz.prog 14 #[.slice A ts.length cn, .int .i64 0] w1 (RtOut w1 (tkS ts) 0)) := Lib.hid AT0
  have HX1 : Hid (Bx w.heap.size w1) := Lib.hid ((B1.block _ s0).trans HX0.out)
  have s1 : w.heap.size < w1.heap.size := Nat.lt_of_lt_of_le s0 B1.size
  have HB01 := Lib.hid B01
  clear hrow B1 B01 AT0 TK HX0 HB0
  go_upto_region 4 with fail
  go_wp2_with fail
  refine AT.out.mono ?_
  rintro e w2 ⟨B2, ⟨l, t, j, c, hok, rfl, hT⟩ | ⟨b, j, herr, hb, rfl⟩⟩
  rotate_left
  · obtain ⟨w3, hw3⟩ : ∃ w3, w3 = w2.alloc (.cells #[.int .i64 0, .string ⟨#[]⟩, .int .i64 0, .string ⟨#[]⟩, .string ⟨#[]⟩, .slice none 0 0, .slice none 0 0] 26) := ⟨_, rfl⟩
    have B3 : Below w2.heap.size w2 w3 := by rw [hw3]; exact below_new (Below.refl _ _) _
    have X3 : Bx w.heap.size w3 := (B3.block _ (Nat.lt_of_lt_of_le s1 B2.size)).trans ((B2.block _ s1).trans HX1.out)
    have FIN : Hid (RrOut w (parR s) (.returned (.tuple #[.agg #[.int .i64 0, .string ⟨#[]⟩, .int .i64 0, .string ⟨#[]⟩, .string ⟨#[]⟩, .slice none 0 0, .slice none 0 0], .int .i64 b, .int .i64 j])) (w3.setRow w.heap.size #[.int .i64 0, .string ⟨#[]⟩, .int .i64 0, .string ⟨#[]⟩, .string ⟨#[]⟩, .slice none 0 0, .slice none 0 0])) := Lib.hid
      ⟨setRow_below (below_over (below_over HB01.out B2) B3) (Nat.le_refl _) _, .inr ⟨b, j, by rw [HP.out, herr]; rfl, hb, rfl⟩⟩
    have HX3 := Lib.hid X3
    have HW3 := Lib.hid hw3
    have hb1 : (((b : Nat) : Int) == 0) = false := by simp; omega
    have hb2 : (((b : Nat) : Int) != 0) = true := by simp; omega
    unfold Bx at X3
    clear hw3 B3 B2 herr hb HX1 HB01 AT
    go_upto_region 5 with fail
    rw [← HW3.out]
    go_upto_region 6 with fail
    go_wp2_with (first | ((with_reducible refine wpList_putRow 26 (w.heap.size) #[.int .i64 0, .string ⟨#[]⟩, .int .i64 0, .string ⟨#[]⟩, .string ⟨#[]⟩, .slice none 0 0, .slice none 0 0] _ _ X3 ?_ ?_ ?_ ?_ ?_ ?_); exact tySize; rfl; exact tyOne; (focus (first | (go_simp; done) | rfl)); (focus (first | (go_simp; done) | rfl))))
    exact ret_agg3 (fn := Tryz.f11) (vs := [.int .i64 0, .string ⟨#[]⟩, .int .i64 0, .string ⟨#[]⟩, .string ⟨#[]⟩, .slice none 0 0, .slice none 0 0]) (b := w.heap.size) rfl rfl rfl rfl Tryz.underlying26 (by kernel_rfl) (cell7 (setRow_heap w3 w.heap.size _ _ _ _ HX3.out)) rfl FIN.out
  obtain ⟨An, cA, As, cS, rfl, -⟩ := hT.parts
  obtain ⟨w3, hw3⟩ : ∃ w3, w3 = w2.alloc (.cells #[.int .i64 t.kind, .string t.pkg, .int .i64 t.major, .string t.mod, .string t.name, .slice An t.names.length cA, .slice As t.subs.length cS] 26) := ⟨_, rfl⟩
  have B3 : Below w2.heap.size w2 w3 := by rw [hw3]; exact below_new (Below.refl _ _) _
  have O3 : w3.heap[w2.heap.size]? = some (.cells #[.int .i64 t.kind, .string t.pkg, .int .i64 t.major, .string t.mod, .string t.name, .slice An t.names.length cA, .slice As t.subs.length cS] 26 (0, 0)) := by rw [hw3]; exact heap_alloc_new w2 _
  have s2 := B2.size
  have X3 : Bx w.heap.size w3 := (B3.block _ (by omega)).trans ((B2.block _ s1).trans HX1.out)
  have B03 := below_over (below_over HB01.out B2) B3
  have HX3 := Lib.hid X3
  have HW3 := Lib.hid hw3
  by_cases hlt : j < ts.length
  · have FIN : Hid (RrOut w (parR s) (.returned (.tuple #[.agg #[.int .i64 0, .string ⟨#[]⟩, .int .i64 0, .string ⟨#[]⟩, .string ⟨#[]⟩, .slice none 0 0, .slice none 0 0], .int .i64 2, .int .i64 j])) (w3.setRow w.heap.size #[.int .i64 0, .string ⟨#[]⟩, .int .i64 0, .string ⟨#[]⟩, .string ⟨#[]⟩, .slice none 0 0, .slice none 0 0])) := Lib.hid
      ⟨setRow_below B03 (Nat.le_refl _) _, .inr ⟨2, j, by rw [HP.out, hok]; exact if_pos hlt, by decide, rfl⟩⟩
    unfold Bx at X3
    clear hw3 B3 B2 hok hT O3 B03 HX1 HB01 AT
    go_upto_region 5 with fail
    rw [← HW3.out]
    go_upto_region 8 with fail
    go_wp2_with (first | ((with_reducible refine wpList_putRow 26 (w.heap.size) #[.int .i64 0, .string ⟨#[]⟩, .int .i64 0, .string ⟨#[]⟩, .string ⟨#[]⟩, .slice none 0 0, .slice none 0 0] _ _ X3 ?_ ?_ ?_ ?_ ?_ ?_); exact tySize; rfl; exact tyOne; (focus (first | (go_simp; done) | rfl)); (focus (first | (go_simp; done) | rfl))))
    exact ret_agg3 (fn := Tryz.f11) (vs := [.int .i64 0, .string ⟨#[]⟩, .int .i64 0, .string ⟨#[]⟩, .string ⟨#[]⟩, .slice none 0 0, .slice none 0 0]) (b := w.heap.size) rfl rfl rfl rfl Tryz.underlying26 (by kernel_rfl) (cell7 (setRow_heap w3 w.heap.size _ _ _ _ HX3.out)) rfl FIN.out
  · have T3 : TyAt (strike (· < w.heap.size + 1) w3) [.int .i64 t.kind, .string t.pkg, .int .i64 t.major, .string t.mod, .string t.name, .slice An t.names.length cA, .slice As t.subs.length cS] t := hT.move (by have := B3.size; omega) fun b hb hS => ⟨by omega, B3.block b hb⟩
    have FIN : Hid (RrOut w (parR s) (.returned (.tuple #[.agg #[.int .i64 t.kind, .string t.pkg, .int .i64 t.major, .string t.mod, .string t.name, .slice An t.names.length cA, .slice As t.subs.length cS], .int .i64 0, .int .i64 (-1)])) (w3.setRow w.heap.size #[.int .i64 t.kind, .string t.pkg, .int .i64 t.major, .string t.mod, .string t.name, .slice An t.names.length cA, .slice As t.subs.length cS])) := Lib.hid
      ⟨setRow_below B03 (Nat.le_refl _) _, .inl ⟨[.int .i64 t.kind, .string t.pkg, .int .i64 t.major, .string t.mod, .string t.name, .slice An t.names.length cA, .slice As t.subs.length cS], t, j, c, by rw [HP.out, hok]; exact if_neg hlt, rfl, T3.move (by simp) fun b hb hS => ⟨fun e => hS (Nat.lt_succ_of_lt e), setRow_other w3 w.heap.size b _ (fun e => by subst e; exact hS (Nat.lt_succ_self _))⟩⟩⟩
    have x0 := Lib.cell_of_heap O3 0
    have x1 := Lib.cell_of_heap O3 1
    have x2 := Lib.cell_of_heap O3 2
    have x3 := Lib.cell_of_heap O3 3
    have x4 := Lib.cell_of_heap O3 4
    have x5 := Lib.cell_of_heap O3 5
    have x6 := Lib.cell_of_heap O3 6
    simp at x0 x1 x2 x3 x4 x5 x6
    unfold Bx at X3
    clear hw3 B3 B2 hok hT O3 B03 HX1 HB01 AT T3
    go_upto_region 5 with fail
    rw [← HW3.out]
    go_upto_region 9 with fail
    go_wp2_with (first | ((with_reducible refine wpList_putRow 26 (w.heap.size) #[.int .i64 t.kind, .string t.pkg, .int .i64 t.major, .string t.mod, .string t.name, .slice An t.names.length cA, .slice As t.subs.length cS] _ _ X3 ?_ ?_ ?_ ?_ ?_ ?_); exact tySize; rfl; exact tyOne; (focus (first | (go_simp; done) | rfl)); (focus (first | (go_simp; done) | rfl))))
    exact ret_agg3 (fn := Tryz.f11) (vs := [.int .i64 t.kind, .string t.pkg, .int .i64 t.major, .string t.mod, .string t.name, .slice An t.names.length cA, .slice As t.subs.length cS]) (b := w.heap.size) rfl rfl rfl rfl Tryz.underlying26 (by kernel_rfl) (cell7 (setRow_heap w3 w.heap.size _ _ _ _ HX3.out)) rfl FIN.out

end Go.Proofs.YtbknmokamcjgpaaGreatDoor
