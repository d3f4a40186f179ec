/-
  
-/
import Derived.Test.YtcdmgcgjonndpaaK18
namespace Go.Proofs.Ytcdmgcgjonndpaa
open Go Go.RowKit Go.Shelf
open Go.Sort
open M
structure RbW (w0 w W3 : World) (t : Ty) (l : List Value) (wr : World) : Prop where
 below : Below W3.heap.size W3 wr
 size : w.heap.size + 1 + 1 + 1 + 1 ≤ wr.heap.size
 box : wr.heap[w.heap.size + 1 + 1 + 1]? = some (.cells l.toArray 25 (0, 0))
 typ : TyAt (strike (fun k => w0.heap.size ≤ k ∧ k < w.heap.size + 1 + 1 + 1 + 1) wr) l t
theorem RbW.keep {w0 w W3 wr wr' : World} {t : Ty} {l : List Value} (h : RbW w0 w W3 t l wr) (hb : Below wr.heap.size wr wr') : RbW w0 w W3 t l wr' :=
 ⟨below_over h.below hb, Nat.le_trans h.size hb.size, (hb.block _ (by have := h.size; omega)).trans h.box, h.typ.move hb.size fun b hlt hS => ⟨hS, hb.block b hlt⟩⟩
theorem RbW.put {w0 w W3 wr w' : World} {t t' : Ty} {l l' : List Value} (h : RbW w0 w W3 t l wr) (h3 : W3.heap.size = w.heap.size + 1 + 1 + 1) (hb : Below wr.heap.size wr w') (hT : TyAt (strike (fun k => w0.heap.size ≤ k ∧ k < w.heap.size + 1 + 1 + 1 + 1) w') l' t') (h0 : w0.heap.size ≤ w.heap.size) : RbW w0 w W3 t' l' (w'.setRow (w.heap.size + 1 + 1 + 1) l'.toArray) := by
 have h2 := h.keep hb
 refine ⟨setRow_below h2.below (by omega) _, by rw [size_setRow]; exact h2.size, setRow_heap _ _ _ _ _ _ h2.box, hT.move (by rw [size_setRow]; exact Nat.le_refl _) fun b hlt hS => ⟨hS, setRow_other _ _ _ _ (fun e => hS ⟨by omega, by omega⟩)⟩⟩
theorem RbW.done {w0 w W3 wr : World} {up : Bool} {a b t : Ty} {l : List Value} (h : RbW w0 w W3 t l wr) (hb3 : Below w.heap.size w W3) (h0 : w0.heap.size ≤ w.heap.size) (q : Bool) (h1 : q = true → IsBnd up a b t) (h2 : q = false → NoBnd up a b) : RbOut w0 up a b w (.returned (.tuple #[.agg l.toArray, .bool q])) (wr.setRow (w.heap.size + 1 + 1) l.toArray) := by
 obtain ⟨Fn, cF, Fs, dF, rfl, -⟩ := h.typ.parts
 refine ⟨_, q, rfl, setRow_below (below_over hb3 h.below) (by omega) _, ⟨t, Fn, cF, Fs, dF, rfl⟩, ?_⟩
 cases q with
 | true => exact .inl ⟨rfl, t, h1 rfl, h.typ.move (by rw [size_setRow]; exact Nat.le_refl _) fun b hlt hS => ⟨fun e => hS ⟨e.1, by omega⟩, setRow_other _ _ _ _ (fun e => hS ⟨by omega, by omega⟩)⟩⟩
 | false => exact .inr ⟨rfl, h2 rfl⟩
set_option maxRecDepth 100000 in
set_option maxHeartbeats 32000000 in
theorem rbound_row5 (up : Bool) (w0 : World) (a b : Ty) (la lb : List Value) (w : World) (ga : GoodT a) (gb : GoodT b) (hk : a.kind = b.kind) (hkk : a.kind =  5) (h9a : many a ≤ 9000) (h9b : many b ≤ 9000) (hTa : TyAt w0 la a) (hTb : TyAt w0 lb b) (hw0 : Below w0.heap.size w0 w)
    (IH : ∀ x y, x ∈ a.subs → y ∈ b.subs → ∀ up', RbCall w0 up' x y) :
    Calls Try.prog 17 #[.agg la.toArray, .agg lb.toArray, .bool up] w (RbOut w0 up a b w) := by
  have h56 : a.kind = 5 ∨ a.kind = 6 := by omega
  have HKK := Lib.hid hkk
  clear hkk
  have h56b : b.kind = 5 ∨ b.kind = 6 := by rw [← hk]; exact h56
  have HIH := Lib.hid IH
  have H56 := Lib.hid h56
  obtain ⟨n, hn⟩ : ∃ n, n = a.names.length := ⟨_, rfl⟩
  obtain ⟨r, hr⟩ : ∃ r, r = b.names.length := ⟨_, rfl⟩
  have hn9 : n ≤ 9000 := by rw [hn]; exact row_small ga h56 h9a
  have hr9 : r ≤ 9000 := by rw [hr]; exact row_small gb h56b h9b
  have hns : n = a.subs.length := by rw [hn, (ga.row h56).2.1]
  have hrs : r = b.subs.length := by rw [hr, (gb.row h56b).2.1]
  have HN := Lib.hid (And.intro hn hns)
  have HRR := Lib.hid (And.intro hr hrs)
  have q4 : (a.kind == 4) = false := by rcases h56 with e | e <;> rw [e] <;> rfl
  have q7 : (a.kind == 7) = false := by rcases h56 with e | e <;> rw [e] <;> rfl
  clear hn hr hns hrs IH h9a h9b h56b
  have HTa := Lib.hid hTa
  have HTb := Lib.hid hTb
  have HW0 := Lib.hid hw0
  have GA := Lib.hid ga
  have GB := Lib.hid gb
  have HK := Lib.hid hk
  obtain ⟨An, cA, As, cS, rfl, -, -, -, -, -, hNa, hSa⟩ := hTa.parts
  obtain ⟨Bn, cB, Bs, cD, rfl, -, -, -, -, -, hNb, hSb⟩ := hTb.parts
  have HNA := Lib.hid hNa
  have HNB := Lib.hid hNb
  have HSA := Lib.hid hSa
  have HSB := Lib.hid hSb
  obtain ⟨W2, hW2, B2, O0, O1, hl2⟩ := two_boxes w #[.int .i64 a.kind, .string a.pkg, .int .i64 a.major, .string a.mod, .string a.name, .slice An a.names.length cA, .slice As a.subs.length cS] #[.int .i64 b.kind, .string b.pkg, .int .i64 b.major, .string b.mod, .string b.name, .slice Bn b.names.length cB, .slice Bs b.subs.length cD] 25 25
  have s2 : W2.heap.size = w.heap.size + 1 + 1 := by rw [hW2]; simp
  obtain ⟨W3, hW3⟩ : ∃ W3, W3 = W2.alloc (.cells #[.int .i64 0, .string ⟨#[]⟩, .int .i64 0, .string ⟨#[]⟩, .string ⟨#[]⟩, .slice none 0 0, .slice none 0 0] 25) := ⟨_, rfl⟩
  have B3 : Below W2.heap.size W2 W3 := by rw [hW3]; exact below_new (Below.refl _ _) _
  have s3 : W3.heap.size = w.heap.size + 1 + 1 + 1 := by rw [hW3]; simp [s2]
  have O2 : W3.heap[w.heap.size + 1 + 1]? = some (.cells #[.int .i64 0, .string ⟨#[]⟩, .int .i64 0, .string ⟨#[]⟩, .string ⟨#[]⟩, .slice none 0 0, .slice none 0 0] 25 (0, 0)) := by rw [hW3, ← s2]; exact heap_alloc_new W2 _
  have HB3 : Hid (Below w.heap.size w W3) := Lib.hid (below_over B2 B3)
  have HXA : Hid (∀ wx, Below W3.heap.size W3 wx → wx.heap[w.heap.size]? = some (.cells #[.int .i64 a.kind, .string a.pkg, .int .i64 a.major, .string a.mod, .string a.name, .slice An a.names.length cA, .slice As a.subs.length cS] 25 (0, 0))) := Lib.hid (fun wx hb => (hb.block _ (by omega)).trans ((B3.block _ (by omega)).trans O0))
  have HXB : Hid (∀ wx, Below W3.heap.size W3 wx → wx.heap[w.heap.size + 1]? = some (.cells #[.int .i64 b.kind, .string b.pkg, .int .i64 b.major, .string b.mod, .string b.name, .slice Bn b.names.length cB, .slice Bs b.subs.length cD] 25 (0, 0))) := Lib.hid (fun wx hb => (hb.block _ (by omega)).trans ((B3.block _ (by omega)).trans O1))
  have HR : Hid (∀ wx, Below W3.heap.size W3 wx → wx.heap[w.heap.size + 1 + 1]? = some (.cells #[.int .i64 0, .string ⟨#[]⟩, .int .i64 0, .string ⟨#[]⟩, .string ⟨#[]⟩, .slice none 0 0, .slice none 0 0] 25 (0, 0))) := Lib.hid (fun wx hb => (hb.block _ (by omega)).trans O2)
  have HW : Hid (((w.alloc (.cells #[.int .i64 a.kind, .string a.pkg, .int .i64 a.major, .string a.mod, .string a.name, .slice An a.names.length cA, .slice As a.subs.length cS] 25)).alloc (.cells #[.int .i64 b.kind, .string b.pkg, .int .i64 b.major, .string b.mod, .string b.name, .slice Bn b.names.length cB, .slice Bs b.subs.length cD] 25)).alloc (.cells #[.int .i64 0, .string ⟨#[]⟩, .int .i64 0, .string ⟨#[]⟩, .string ⟨#[]⟩, .slice none 0 0, .slice none 0 0] 25) = W3) := Lib.hid (by rw [hW3, hW2])
  have HS3 := Lib.hid s3
  have hrb : w.heap.size ≤ w.heap.size + 1 + 1 := by omega
  have X4 : (W3.alloc (.cells #[.int .i64 0, .string ⟨#[]⟩, .int .i64 0, .string ⟨#[]⟩, .string ⟨#[]⟩, .slice none 0 0, .slice none 0 0] 25)).heap[W3.heap.size]? = some (.cells #[.int .i64 0, .string ⟨#[]⟩, .int .i64 0, .string ⟨#[]⟩, .string ⟨#[]⟩, .slice none 0 0, .slice none 0 0] 25 (0, 0)) := heap_alloc_new W3 _
  obtain ⟨W4, hW4⟩ : ∃ W4, W4 = (W3.alloc (.cells #[.int .i64 0, .string ⟨#[]⟩, .int .i64 0, .string ⟨#[]⟩, .string ⟨#[]⟩, .slice none 0 0, .slice none 0 0] 25)).setRow W3.heap.size #[.int .i64 a.kind, .string ⟨#[]⟩, .int .i64 0, .string ⟨#[]⟩, .string ⟨#[]⟩, .slice none 0 0, .slice none 0 0] := ⟨_, rfl⟩
  have B4 : Below W3.heap.size W3 W4 := by rw [hW4]; exact setRow_below (below_new (Below.refl _ _) _) (Nat.le_refl _) _
  have s4 : W4.heap.size = w.heap.size + 1 + 1 + 1 + 1 := by rw [hW4, size_setRow]; simp [s3]
  have O4 : W4.heap[w.heap.size + 1 + 1 + 1]? = some (.cells #[.int .i64 a.kind, .string ⟨#[]⟩, .int .i64 0, .string ⟨#[]⟩, .string ⟨#[]⟩, .slice none 0 0, .slice none 0 0] 25 (0, 0)) := by rw [hW4, ← s3]; exact setRow_heap _ _ _ _ _ _ X4
  have HB4 := Lib.hid B4
  have HW4 := Lib.hid hW4
  have HS4 := Lib.hid s4
  have HO4 := Lib.hid O4
  have HCA : Hid (∀ wx, Below W3.heap.size W3 wx → wx.cell? ⟨w.heap.size, 5, none⟩ = some (.slice An n cA) ∧ wx.cell? ⟨w.heap.size, 6, none⟩ = some (.slice As n cS)) := Lib.hid (fun wx hb => by
    refine ⟨?_, ?_⟩
    · rw [HN.out.1]; exact Lib.cell_of_heap (HXA.out wx hb) 5
    · rw [HN.out.2]; exact Lib.cell_of_heap (HXA.out wx hb) 6)
  have HCB : Hid (∀ wx, Below W3.heap.size W3 wx → wx.cell? ⟨w.heap.size + 1, 5, none⟩ = some (.slice Bn r cB) ∧ wx.cell? ⟨w.heap.size + 1, 6, none⟩ = some (.slice Bs r cD)) := Lib.hid (fun wx hb => by
    refine ⟨?_, ?_⟩
    · rw [HRR.out.1]; exact Lib.cell_of_heap (HXB.out wx hb) 5
    · rw [HRR.out.2]; exact Lib.cell_of_heap (HXB.out wx hb) 6)
  have HXK : Hid (∀ wx, Below W3.heap.size W3 wx → wx.cell? ⟨w.heap.size, 0, none⟩ = some (.int .i64 a.kind)) := Lib.hid (fun wx hb => Lib.cell_of_heap (HXA.out wx hb) 0)
  have START : Hid (RbW w0 w W3 (.mk a.kind ⟨#[]⟩ 0 ⟨#[]⟩ ⟨#[]⟩ [] []) [.int .i64 a.kind, .string ⟨#[]⟩, .int .i64 0, .string ⟨#[]⟩, .string ⟨#[]⟩, .slice none 0 0, .slice none 0 0] W4) := Lib.hid ⟨B4, by omega, O4, ty_made (t := .mk a.kind ⟨#[]⟩ 0 ⟨#[]⟩ ⟨#[]⟩ [] []) (by show (0 : Nat) ≤ _; decide) (by show (0 : Nat) ≤ _; decide) (by show (0 : Nat) ≤ _; decide) (by show (0 : Nat) ≤ _; decide) (by show (0 : Nat) ≤ _; decide) (by show (0 : Nat) ≤ _; decide) (fun i s h => by simp [Ty.names] at h) (fun i s h => by simp [Ty.subs] at h)⟩
  have hw00 : w0.heap.size ≤ w.heap.size := hw0.size
  obtain ⟨q5, hq5⟩ : ∃ q5, q5 = (a.kind == 5) := ⟨_, rfl⟩
  obtain ⟨q6, hq6⟩ : ∃ q6, q6 = (a.kind == 6) := ⟨_, rfl⟩
  have HQ5 := Lib.hid hq5
  have HQ6 := Lib.hid hq6
  have q56 : Hid ((q5 = true ∧ q6 = false) ∨ (q5 = false ∧ q6 = true)) := Lib.hid (by
    rcases h56 with e | e <;> rw [hq5, hq6, e]
    · exact .inl ⟨rfl, rfl⟩
    · exact .inr ⟨rfl, rfl⟩)
  have hq5' := hq5.symm
  have hq6' := hq6.symm
  clear hW2 hW3 hW4 B2 B3 B4 O0 O1 O2 O4 s2 s3 s4 hl2 hTa hTb ga gb hk hw0 hNa hSa hNb hSb h56 hq5 hq6
  have e1 : (a.kind != b.kind) = false := by rw [HK.out]; simp
  have x0 := Lib.cell_of_heap (HXA.out W3 (Below.refl _ _)) 0
  have y0 := Lib.cell_of_heap (HXB.out W3 (Below.refl _ _)) 0
  simp at x0 y0
  go_enter Try.func17, Try.ntmps17
  go_upto_region 1 with fail
  rw [HW.out]
  clear HW
  go_upto_region 4 with (first | (((with_reducible refine wpList_putRow 25 (W3.heap.size) #[.int .i64 a.kind, .string ⟨#[]⟩, .int .i64 0, .string ⟨#[]⟩, .string ⟨#[]⟩, .slice none 0 0, .slice none 0 0] _ _ X4 ?_ ?_ ?_ ?_ ?_ ?_); exact tySize; rfl; exact tyOne; (focus (first | (go_simp; done) | rfl)); (focus (first | (go_simp; done) | rfl)))))
  rw [← HW4.out, HS3.out]
  clear X4 HW4 x0 y0
  simp only [Act.put]
  obtain ⟨al, hal⟩ : ∃ al, al = (q6 == up) := ⟨_, rfl⟩
  have HAL : Hid ((al = true → wins a.kind up) ∧ (al = false → loses a.kind up)) := Lib.hid (by
    have hk5 : q5 = true → a.kind = 5 := fun e => by rw [HQ5.out] at e; simpa using e
    have hk6 : q6 = true → a.kind = 6 := fun e => by rw [HQ6.out] at e; simpa using e
    rcases q56.out with ⟨h5, h6⟩ | ⟨h5, h6⟩
    · rw [h6] at hal
      have e5 := hk5 h5
      cases up with
      | true => exact ⟨fun e => (by rw [hal] at e; cases e), fun _ => .inl ⟨e5, rfl⟩⟩
      | false => exact ⟨fun _ => .inr ⟨e5, rfl⟩, fun e => (by rw [hal] at e; cases e)⟩
    · rw [h6] at hal
      have e6 := hk6 h6
      cases up with
      | true => exact ⟨fun _ => .inl ⟨e6, rfl⟩, fun e => (by rw [hal] at e; cases e)⟩
      | false => exact ⟨fun e => (by rw [hal] at e; cases e), fun _ => .inr ⟨e6, rfl⟩⟩)
  have HALE := Lib.hid hal
  have x0 := HXK.out W4 HB4.out
  go_upto_region 5 with fail
  have h5 : q5 = true := by rw [HQ5.out, HKK.out]; rfl
  have h6 : q6 = false := by rw [HQ6.out, HKK.out]; rfl
  subst h5
  subst h6
  go_upto_region 20 with fail
  clear x0
  have x0 := HXK.out W4 HB4.out
  go_cut [13] (fun s13 wx => s13 = .bool al ∧ wx = W4)
  case first =>
    cases up with
    | true =>
      go_wp2_with fail
      go_meet
      exact ⟨by rw [HALE.out]; try rfl, rfl⟩
    | false =>
      go_wp2_with fail
      go_meet
      exact ⟨by rw [HALE.out]; try rfl, rfl⟩
  case rest =>
    obtain ⟨rfl, rfl⟩ := hcut
    clear x0
    clear HALE hal
    go_wp2_with fail
    go_loopw [14] (fun s14 wr => ∃ (k : Nat) (t : Ty) (l : List Value), k ≤ n ∧ s14 = .int .i64 k ∧ Hid (RbW w0 w W3 t l wr) ∧ Hid (RbI up al a b k t)) (fun s14 _ => n - (intOf s14).toNat)
    case atStart => exact ⟨0, _, _, by omega, rfl, START, Lib.hid (RbI.start up al a b)⟩
    case round =>
      obtain ⟨k, t, l, hkn, rfl, HI, HP⟩ := hrel
      obtain ⟨wo, rfl⟩ : ∃ wo : World, wo = wr := ⟨_, rfl⟩
      obtain ⟨x5, x6⟩ := HCA.out wo HI.out.below
      obtain ⟨y5, y6⟩ := HCB.out wo HI.out.below
      by_cases hlt : k < n
      · obtain ⟨s, hs⟩ : ∃ s, a.names[k]? = some s := at_some (by rw [← HN.out.1]; exact hlt)
        obtain ⟨x, hx⟩ : ∃ x, a.subs[k]? = some x := at_some (by rw [← HN.out.2]; exact hlt)
        have HS := Lib.hid hs
        have HXI := Lib.hid hx
        have HAX : Hid (AtN a s x) := Lib.hid ⟨k, hs, hx⟩
        have HB0 : Hid (Below w0.heap.size w0 wo) := Lib.hid (below_over HW0.out (below_over HB3.out HI.out.below))
        have HGR : Hid (Gro a.kind k t) := Lib.hid HP.out.gro
        obtain ⟨gn, on, rfl, hgn, hcn, hzs⟩ := HNA.out k s hs
        have HZ := Lib.hid hzs
        obtain ⟨g1, o1, v0, v1, v2, v3, v4, v5, v6, rfl, hg1, h0, h1, h2, h3, h4, h5, h6, hx7⟩ := HSA.out k x hx
        obtain ⟨Fn, cF, Fs, dF, rfl, rfl, rfl, rfl, rfl, rfl, rfl⟩ := hx7.seven
        have HX7 := Lib.hid hx7
        have HEL : Hid (∀ wx, Below wo.heap.size wo wx → wx.cell? ⟨gn, on + k, none⟩ = some (.string s) ∧ wx.cell? ⟨g1, o1 + k * 7, none⟩ = some (.int .i64 x.kind) ∧ wx.cell? ⟨g1, o1 + k * 7 + 1, none⟩ = some (.string x.pkg) ∧ wx.cell? ⟨g1, o1 + k * 7 + 2, none⟩ = some (.int .i64 x.major) ∧ wx.cell? ⟨g1, o1 + k * 7 + 3, none⟩ = some (.string x.mod) ∧ wx.cell? ⟨g1, o1 + k * 7 + 4, none⟩ = some (.string x.name) ∧ wx.cell? ⟨g1, o1 + k * 7 + 5, none⟩ = some (.slice Fn x.names.length cF) ∧ wx.cell? ⟨g1, o1 + k * 7 + 6, none⟩ = some (.slice Fs x.subs.length dF)) := Lib.hid (fun wx hb => by
          have hb0 := below_over HB0.out hb
          have t1 := fun (q : Nat) (v : Value) (hv : w0.cell? ⟨g1, q, none⟩ = some v) => (hb0.cell (p := ⟨g1, q, none⟩) hg1).trans hv
          exact ⟨(hb0.cell (p := ⟨gn, _, none⟩) hgn).trans hcn, t1 _ _ h0, t1 _ _ h1, t1 _ _ h2, t1 _ _ h3, t1 _ _ h4, t1 _ _ h5, t1 _ _ h6⟩)
        obtain ⟨Pn, cP, Ps, dP, rfl, -⟩ := HI.out.typ.parts
        obtain ⟨J, hJ⟩ : ∃ J, J = optN (ofB b.names s) := ⟨_, rfl⟩
        have HJ := Lib.hid hJ
        have hk0 : (0 : Int) ≤ k := by omega
        have hk1 : (k : Int) < n := by omega
        have cnm := (HEL.out wo (Below.refl _ _)).1
        clear h0 h1 h2 h3 h4 h5 h6 hx7 hx hs hg1 hgn hcn hzs hJ x6 y6
        have cO : ∀ dd os, Calls Try.prog 25 #[.slice Bn r cB, .string s] (Sort.grow (redrawn wo dd) os) fun e w'' => e = .returned (.int .i64 J) ∧ ∃ pp : Regrown, w'' = Sort.grow (redrawn wo pp.d) pp.os := fun dd os => Calls.regrown_of (by
          rw [HJ.out]; exact rof9_any Bn r cB b.names s _ HRR.out.1 (by omega) (HNB.out.below (below_over HB0.out (below_regrown wo dd os))))
        go_upto_region 24 with fail
        have e1 := cell_regrown x5
        have e2 := cell_regrown y5
        have e3 := cell_regrown cnm
        clear x5 y5 cnm
        refine wp_region_quiet_below (by kernel_rfl) (by kernel_rfl) ?_
        repeat (any_goals (first | go_big_quiet_step (with_reducible exact cO _ _) | quiet_step (with_reducible exact cO _ _)))
        refine wpQuiet_nil ?_
        intro wp hw'
        have HIP := Lib.hid (HI.out.keep (wr' := wp) (by
          obtain ⟨⟨dq, osq⟩, hw''⟩ := hw'
          rw [hw'']
          exact below_regrown wo dq osq))
        have HBP : Hid (Below wo.heap.size wo wp) := Lib.hid (by
          obtain ⟨⟨dq, osq⟩, hw''⟩ := hw'
          rw [hw'']
          exact below_regrown wo dq osq)
        clear hw' cO
        clear e1 e2 e3
        cases hj : ofB b.names s with
        | none =>
          as_aux_lemma =>
            have hno : ∀ y, ¬ AtN b s y := fun y hy => ofB_none hj hy.name
            have HNOY := Lib.hid hno
            obtain rfl : J = -1 := by rw [HJ.out, hj]; rfl
            clear hj hno
            cases al with
            | true =>
              have KEEP : Hid (∀ wx : World, Below wp.heap.size wp wx → wx.cell? ⟨w.heap.size + 1 + 1 + 1, 0, none⟩ = some (.int .i64 t.kind) ∧ wx.cell? ⟨w.heap.size + 1 + 1 + 1, 1, none⟩ = some (.string t.pkg) ∧ wx.cell? ⟨w.heap.size + 1 + 1 + 1, 2, none⟩ = some (.int .i64 t.major) ∧ wx.cell? ⟨w.heap.size + 1 + 1 + 1, 3, none⟩ = some (.string t.mod) ∧ wx.cell? ⟨w.heap.size + 1 + 1 + 1, 4, none⟩ = some (.string t.name) ∧ wx.cell? ⟨w.heap.size + 1 + 1 + 1, 5, none⟩ = some (.slice Pn t.names.length cP) ∧ wx.cell? ⟨w.heap.size + 1 + 1 + 1, 6, none⟩ = some (.slice Ps t.subs.length dP) ∧ wx.cell? ⟨w.heap.size, 5, none⟩ = some (.slice (some ⟨gn, on, none⟩) n cA) ∧ wx.cell? ⟨w.heap.size, 6, none⟩ = some (.slice (some ⟨g1, o1, none⟩) n cS) ∧ wx.cell? ⟨gn, on + k, none⟩ = some (.string s) ∧ wx.cell? ⟨g1, o1 + k * 7, none⟩ = some (.int .i64 x.kind) ∧ wx.cell? ⟨g1, o1 + k * 7 + 1, none⟩ = some (.string x.pkg) ∧ wx.cell? ⟨g1, o1 + k * 7 + 2, none⟩ = some (.int .i64 x.major) ∧ wx.cell? ⟨g1, o1 + k * 7 + 3, none⟩ = some (.string x.mod) ∧ wx.cell? ⟨g1, o1 + k * 7 + 4, none⟩ = some (.string x.name) ∧ wx.cell? ⟨g1, o1 + k * 7 + 5, none⟩ = some (.slice Fn x.names.length cF) ∧ wx.cell? ⟨g1, o1 + k * 7 + 6, none⟩ = some (.slice Fs x.subs.length dF)) := Lib.hid (fun wx hb => by
                have hI := HIP.out.keep hb
                have hE := HEL.out wx (below_over HBP.out hb)
                have hA := HCA.out wx hI.below
                have z0 := Lib.cell_of_heap hI.box 0
                have z1 := Lib.cell_of_heap hI.box 1
                have z2 := Lib.cell_of_heap hI.box 2
                have z3 := Lib.cell_of_heap hI.box 3
                have z4 := Lib.cell_of_heap hI.box 4
                have z5 := Lib.cell_of_heap hI.box 5
                have z6 := Lib.cell_of_heap hI.box 6
                exact ⟨z0, z1, z2, z3, z4, z5, z6, hA.1, hA.2, hE⟩)
              have CT := Lib.hid (fun (w' : World) (hb' : Below wp.heap.size wp w') => put_any (fun k => w0.heap.size ≤ k ∧ k < w.heap.size + 1 + 1 + 1 + 1) t s x [.int .i64 t.kind, .string t.pkg, .int .i64 t.major, .string t.mod, .string t.name, .slice Pn t.names.length cP, .slice Ps t.subs.length dP] [.int .i64 x.kind, .string x.pkg, .int .i64 x.major, .string x.mod, .string x.name, .slice Fn x.names.length cF, .slice Fs x.subs.length dF] w' (fun k hk => by have h1 := HIP.out.size; have h2 := hb'.size; omega) (HIP.out.keep hb').typ ((HX7.out.base (below_over HB0.out (below_over HBP.out hb')) (fun k hk => hk.1))) HGR.out.len (by have := HGR.out.cnt; have h1 := HN.out.1; have h2 := HRR.out.1; omega) HZ.out)
              go_upto_region 27 with fail
              have hH0 := KEEP.out wp.drew (Below.drew (Below.refl _ _))
              refine AnyX.start (fun wx => wx.cell? ⟨w.heap.size + 1 + 1 + 1, 0, none⟩ = some (.int .i64 t.kind) ∧ wx.cell? ⟨w.heap.size + 1 + 1 + 1, 1, none⟩ = some (.string t.pkg) ∧ wx.cell? ⟨w.heap.size + 1 + 1 + 1, 2, none⟩ = some (.int .i64 t.major) ∧ wx.cell? ⟨w.heap.size + 1 + 1 + 1, 3, none⟩ = some (.string t.mod) ∧ wx.cell? ⟨w.heap.size + 1 + 1 + 1, 4, none⟩ = some (.string t.name) ∧ wx.cell? ⟨w.heap.size + 1 + 1 + 1, 5, none⟩ = some (.slice Pn t.names.length cP) ∧ wx.cell? ⟨w.heap.size + 1 + 1 + 1, 6, none⟩ = some (.slice Ps t.subs.length dP) ∧ wx.cell? ⟨w.heap.size, 5, none⟩ = some (.slice (some ⟨gn, on, none⟩) n cA) ∧ wx.cell? ⟨w.heap.size, 6, none⟩ = some (.slice (some ⟨g1, o1, none⟩) n cS) ∧ wx.cell? ⟨gn, on + k, none⟩ = some (.string s) ∧ wx.cell? ⟨g1, o1 + k * 7, none⟩ = some (.int .i64 x.kind) ∧ wx.cell? ⟨g1, o1 + k * 7 + 1, none⟩ = some (.string x.pkg) ∧ wx.cell? ⟨g1, o1 + k * 7 + 2, none⟩ = some (.int .i64 x.major) ∧ wx.cell? ⟨g1, o1 + k * 7 + 3, none⟩ = some (.string x.mod) ∧ wx.cell? ⟨g1, o1 + k * 7 + 4, none⟩ = some (.string x.name) ∧ wx.cell? ⟨g1, o1 + k * 7 + 5, none⟩ = some (.slice Fn x.names.length cF) ∧ wx.cell? ⟨g1, o1 + k * 7 + 6, none⟩ = some (.slice Fs x.subs.length dF)) (fun k => k == 12) (by kernel_rfl) ?_
              refine AnyX.take (i := 0) (v := ?_) rfl (by kernel_rfl) (by kernel_rfl) (by kernel_rfl) (by kernel_rfl) (by kernel_rfl) (fun _ _ _ h => h) hH0 (Or.inl ⟨by rfl, ?_⟩) ?_
              rotate_left
              · (intro wS hS; (try obtain ⟨b0, b1, b2, b3, b4, b5, b6, m0, m1, n0, c0, c1, c2, c3, c4, c5', c6'⟩ := hS); go_simp; try with_reducible rfl)
              simp only [List.getElem_toArray, List.getElem_cons_succ, List.getElem_cons_zero]
              simp only [Act.put, List.setIfInBounds_toArray]
              simp only [List.set_cons_zero, List.set_cons_succ]
              refine AnyX.move (i := 1) (v := ?_) rfl (by kernel_rfl) (by kernel_rfl) (by kernel_rfl) (by kernel_rfl) (fun _ _ _ h => h) (Or.inl ⟨by rfl, ?_⟩) ?_
              rotate_left
              · (intro wS _; go_simp; try with_reducible rfl)
              simp only [List.getElem_toArray, List.getElem_cons_succ, List.getElem_cons_zero]
              simp only [Act.put, List.setIfInBounds_toArray]
              simp only [List.set_cons_zero, List.set_cons_succ]
              refine AnyX.take (i := 2) (v := ?_) rfl (by kernel_rfl) (by kernel_rfl) (by kernel_rfl) (by kernel_rfl) (by kernel_rfl) (fun _ _ _ h => h) hH0 (Or.inl ⟨by rfl, ?_⟩) ?_
              rotate_left
              · (intro wS hS; (try obtain ⟨b0, b1, b2, b3, b4, b5, b6, m0, m1, n0, c0, c1, c2, c3, c4, c5', c6'⟩ := hS); go_simp; try with_reducible rfl)
              simp only [List.getElem_toArray, List.getElem_cons_succ, List.getElem_cons_zero]
              simp only [Act.put, List.setIfInBounds_toArray]
              simp only [List.set_cons_zero, List.set_cons_succ]
              refine AnyX.move (i := 3) (v := ?_) rfl (by kernel_rfl) (by kernel_rfl) (by kernel_rfl) (by kernel_rfl) (fun _ _ _ h => h) (Or.inl ⟨by rfl, ?_⟩) ?_
              rotate_left
              · (intro wS _; go_simp; try with_reducible rfl)
              simp only [List.getElem_toArray, List.getElem_cons_succ, List.getElem_cons_zero]
              simp only [Act.put, List.setIfInBounds_toArray]
              simp only [List.set_cons_zero, List.set_cons_succ]
              refine AnyX.move (i := 4) (v := ?_) rfl (by kernel_rfl) (by kernel_rfl) (by kernel_rfl) (by kernel_rfl) (fun _ _ _ h => h) (Or.inl ⟨by rfl, ?_⟩) ?_
              rotate_left
              · (intro wS _; go_simp; try with_reducible rfl)
              simp only [List.getElem_toArray, List.getElem_cons_succ, List.getElem_cons_zero]
              simp only [Act.put, List.setIfInBounds_toArray]
              simp only [List.set_cons_zero, List.set_cons_succ]
              refine AnyX.take (i := 5) (v := ?_) rfl (by kernel_rfl) (by kernel_rfl) (by kernel_rfl) (by kernel_rfl) (by kernel_rfl) (fun _ _ _ h => h) hH0 (Or.inl ⟨by rfl, ?_⟩) ?_
              rotate_left
              · (intro wS hS; (try obtain ⟨b0, b1, b2, b3, b4, b5, b6, m0, m1, n0, c0, c1, c2, c3, c4, c5', c6'⟩ := hS); go_simp; try with_reducible rfl)
              simp only [List.getElem_toArray, List.getElem_cons_succ, List.getElem_cons_zero]
              simp only [Act.put, List.setIfInBounds_toArray]
              simp only [List.set_cons_zero, List.set_cons_succ]
              refine AnyX.move (i := 6) (v := ?_) rfl (by kernel_rfl) (by kernel_rfl) (by kernel_rfl) (by kernel_rfl) (fun _ _ _ h => h) (Or.inl ⟨by rfl, ?_⟩) ?_
              rotate_left
              · (intro wS _; go_simp; try with_reducible rfl)
              simp only [List.getElem_toArray, List.getElem_cons_succ, List.getElem_cons_zero]
              simp only [Act.put, List.setIfInBounds_toArray]
              simp only [List.set_cons_zero, List.set_cons_succ]
              refine AnyX.take (i := 7) (v := ?_) rfl (by kernel_rfl) (by kernel_rfl) (by kernel_rfl) (by kernel_rfl) (by kernel_rfl) (fun _ _ _ h => h) hH0 (Or.inl ⟨by rfl, ?_⟩) ?_
              rotate_left
              · (intro wS hS; (try obtain ⟨b0, b1, b2, b3, b4, b5, b6, m0, m1, n0, c0, c1, c2, c3, c4, c5', c6'⟩ := hS); go_simp; try with_reducible rfl)
              simp only [List.getElem_toArray, List.getElem_cons_succ, List.getElem_cons_zero]
              simp only [Act.put, List.setIfInBounds_toArray]
              simp only [List.set_cons_zero, List.set_cons_succ]
              refine AnyX.move (i := 8) (v := ?_) rfl (by kernel_rfl) (by kernel_rfl) (by kernel_rfl) (by kernel_rfl) (fun _ _ _ h => h) (Or.inl ⟨by rfl, ?_⟩) ?_
              rotate_left
              · (intro wS _; go_simp; try with_reducible rfl)
              simp only [List.getElem_toArray, List.getElem_cons_succ, List.getElem_cons_zero]
              simp only [Act.put, List.setIfInBounds_toArray]
              simp only [List.set_cons_zero, List.set_cons_succ]
              refine AnyX.move (i := 9) (v := ?_) rfl (by kernel_rfl) (by kernel_rfl) (by kernel_rfl) (by kernel_rfl) (fun _ _ _ h => h) (Or.inl ⟨by rfl, ?_⟩) ?_
              rotate_left
              · (intro wS _; go_simp; try with_reducible rfl)
              simp only [List.getElem_toArray, List.getElem_cons_succ, List.getElem_cons_zero]
              simp only [Act.put, List.setIfInBounds_toArray]
              simp only [List.set_cons_zero, List.set_cons_succ]
              refine AnyX.take (i := 10) (v := ?_) rfl (by kernel_rfl) (by kernel_rfl) (by kernel_rfl) (by kernel_rfl) (by kernel_rfl) (fun _ _ _ h => h) hH0 (Or.inl ⟨by rfl, ?_⟩) ?_
              rotate_left
              · (intro wS hS; (try obtain ⟨b0, b1, b2, b3, b4, b5, b6, m0, m1, n0, c0, c1, c2, c3, c4, c5', c6'⟩ := hS); go_simp; try with_reducible rfl)
              simp only [List.getElem_toArray, List.getElem_cons_succ, List.getElem_cons_zero]
              simp only [Act.put, List.setIfInBounds_toArray]
              simp only [List.set_cons_zero, List.set_cons_succ]
              refine AnyX.go 11 (by kernel_rfl) rfl rfl (fun K hK => ?_)
              simp only [List.getElem_toArray, List.getElem_cons_succ, List.getElem_cons_zero]
              go_simp
              refine (CT.out wp.drew (Below.drew (Below.refl _ _))).mono ?_
              rintro e w2 ⟨l2, rfl, hT2, hb2⟩
              have hB2 : Below wp.heap.size wp w2 := Below.trans (Below.drew (Below.refl wp.heap.size wp)) hb2
              have X2 := (HIP.out.keep hB2).box
              have NEW := Lib.hid (HIP.out.put HS3.out hB2 hT2 hw00)
              obtain ⟨Qn, cQ, Qs, dQ, rfl, -⟩ := hT2.parts
              simp only []
              refine hK.out _ _ (fun hoff _ => KEEP.out w2 hB2) ?_
              clear hK
              try simp only [Act.put, List.setIfInBounds_toArray]
              try simp only [List.set_cons_zero, List.set_cons_succ]
              refine AnyX.go 12 (by kernel_rfl) rfl rfl (fun K hK => ?_)
              simp only [List.getElem_toArray, List.getElem_cons_succ, List.getElem_cons_zero]
              refine wp_store_row 25 (.tmp 8) (.tmp 124) rfl (w.heap.size + 1 + 1 + 1) #[.int .i64 (putT t s x).kind, .string (putT t s x).pkg, .int .i64 (putT t s x).major, .string (putT t s x).mod, .string (putT t s x).name, .slice Qn (putT t s x).names.length cQ, .slice Qs (putT t s x).subs.length dQ] rfl rfl _ _ X2 tySize rfl tyOne ?_
              refine hK.out _ _ (fun hoff _ => absurd hoff (by decide)) ?_
              clear hK
              try simp only [Act.put, List.setIfInBounds_toArray]
              try simp only [List.set_cons_zero, List.set_cons_succ]
              refine AnyX.done (by kernel_rfl) ?_ _
              clear CT KEEP X2 hH0
              have HPN := Lib.hid (HP.out.put GA.out HS.out (.inr ⟨rfl, HAX.out, HNOY.out⟩))
              go_wp2_with fail
              go_roundw
              case rel => exact ⟨k + 1, _, _, by omega, by go_num, NEW, HPN⟩
              case measure => simp [intOf]; omega
            | false =>
              have HPN := Lib.hid (HP.out.skip HS.out rfl (fun x' y' _ hy' => absurd hy' (HNOY.out y')))
              go_wp2_with fail
              go_roundw
              case rel => exact ⟨k + 1, t, _, by omega, by go_num, HIP, HPN⟩
              case measure => simp [intOf]; omega
        | some j =>
          as_aux_lemma =>
            have hjs := ofB_some hj
            have hjl := (List.getElem?_eq_some_iff.1 hjs).1
            have hj1N : j < r := by rw [HRR.out.1]; exact hjl
            obtain ⟨y, hy⟩ : ∃ y, b.subs[j]? = some y := at_some (by rw [← HRR.out.2]; exact hj1N)
            have HAY : Hid (AtN b s y) := Lib.hid ⟨j, hjs, hy⟩
            obtain rfl : J = (j : Int) := by rw [HJ.out, hj]; rfl
            obtain ⟨g2, o2, u0, u1, u2, u3, u4, u5, u6, rfl, hg2, k0, k1, k2, k3, k4, k5, k6, hy7⟩ := HSB.out j y hy
            obtain ⟨Gn, cG, Gs, dG, rfl, rfl, rfl, rfl, rfl, rfl, rfl⟩ := hy7.seven
            have HY7 := Lib.hid hy7
            have hj0 : (0 : Int) ≤ j := by omega
            have hj1 : (j : Int) < r := by omega
            have hj2 : ¬ (j : Int) < 0 := by omega
            have KEEP : Hid (∀ wx : World, Below wp.heap.size wp wx → (wx.cell? ⟨w.heap.size, 6, none⟩ = some (.slice (some ⟨g1, o1, none⟩) n cS) ∧ wx.cell? ⟨w.heap.size + 1, 6, none⟩ = some (.slice (some ⟨g2, o2, none⟩) r cD)) ∧ (wx.cell? ⟨g1, o1 + k * 7, none⟩ = some (.int .i64 x.kind) ∧ wx.cell? ⟨g1, o1 + k * 7 + 1, none⟩ = some (.string x.pkg) ∧ wx.cell? ⟨g1, o1 + k * 7 + 2, none⟩ = some (.int .i64 x.major) ∧ wx.cell? ⟨g1, o1 + k * 7 + 3, none⟩ = some (.string x.mod) ∧ wx.cell? ⟨g1, o1 + k * 7 + 4, none⟩ = some (.string x.name) ∧ wx.cell? ⟨g1, o1 + k * 7 + 5, none⟩ = some (.slice Fn x.names.length cF) ∧ wx.cell? ⟨g1, o1 + k * 7 + 6, none⟩ = some (.slice Fs x.subs.length dF)) ∧ wx.cell? ⟨g2, o2 + j * 7, none⟩ = some (.int .i64 y.kind) ∧ wx.cell? ⟨g2, o2 + j * 7 + 1, none⟩ = some (.string y.pkg) ∧ wx.cell? ⟨g2, o2 + j * 7 + 2, none⟩ = some (.int .i64 y.major) ∧ wx.cell? ⟨g2, o2 + j * 7 + 3, none⟩ = some (.string y.mod) ∧ wx.cell? ⟨g2, o2 + j * 7 + 4, none⟩ = some (.string y.name) ∧ wx.cell? ⟨g2, o2 + j * 7 + 5, none⟩ = some (.slice Gn y.names.length cG) ∧ wx.cell? ⟨g2, o2 + j * 7 + 6, none⟩ = some (.slice Gs y.subs.length dG)) := Lib.hid (fun wx hb => by
              have hI := HIP.out.keep hb
              have hE := HEL.out wx (below_over HBP.out hb)
              have hb0 := below_over HB0.out (below_over HBP.out hb)
              have t2 := fun (q : Nat) (v : Value) (hv : w0.cell? ⟨g2, q, none⟩ = some v) => (hb0.cell (p := ⟨g2, q, none⟩) hg2).trans hv
              exact ⟨⟨(HCA.out wx hI.below).2, (HCB.out wx hI.below).2⟩, hE.2, t2 _ _ k0, t2 _ _ k1, t2 _ _ k2, t2 _ _ k3, t2 _ _ k4, t2 _ _ k5, t2 _ _ k6⟩)
            have CT := Lib.hid (fun (w' : World) (hb' : Below wp.heap.size wp w') => HIH.out x y HAX.out.sub HAY.out.sub up _ _ w' HX7.out HY7.out (below_over HB0.out (below_over HBP.out hb')))
            clear hj hjs hjl hy hg2 k0 k1 k2 k3 k4 k5 k6 hy7
            go_upto_region 28 with fail
            go_cut [16, 17] (fun s16 s17 wx => ∃ (b0 : Nat) (l1 : List Value) (q : Bool), s16 = .pointer (some ⟨b0, 0, none⟩) ∧ s17 = .bool q ∧ PwR w0 wp up x y b0 l1 q wx)
            case first =>
              have hH0 := KEEP.out wp.drew (Below.drew (Below.refl _ _))
              refine AnyX.start (fun wx => (wx.cell? ⟨w.heap.size, 6, none⟩ = some (.slice (some ⟨g1, o1, none⟩) n cS) ∧ wx.cell? ⟨w.heap.size + 1, 6, none⟩ = some (.slice (some ⟨g2, o2, none⟩) r cD)) ∧ (wx.cell? ⟨g1, o1 + k * 7, none⟩ = some (.int .i64 x.kind) ∧ wx.cell? ⟨g1, o1 + k * 7 + 1, none⟩ = some (.string x.pkg) ∧ wx.cell? ⟨g1, o1 + k * 7 + 2, none⟩ = some (.int .i64 x.major) ∧ wx.cell? ⟨g1, o1 + k * 7 + 3, none⟩ = some (.string x.mod) ∧ wx.cell? ⟨g1, o1 + k * 7 + 4, none⟩ = some (.string x.name) ∧ wx.cell? ⟨g1, o1 + k * 7 + 5, none⟩ = some (.slice Fn x.names.length cF) ∧ wx.cell? ⟨g1, o1 + k * 7 + 6, none⟩ = some (.slice Fs x.subs.length dF)) ∧ wx.cell? ⟨g2, o2 + j * 7, none⟩ = some (.int .i64 y.kind) ∧ wx.cell? ⟨g2, o2 + j * 7 + 1, none⟩ = some (.string y.pkg) ∧ wx.cell? ⟨g2, o2 + j * 7 + 2, none⟩ = some (.int .i64 y.major) ∧ wx.cell? ⟨g2, o2 + j * 7 + 3, none⟩ = some (.string y.mod) ∧ wx.cell? ⟨g2, o2 + j * 7 + 4, none⟩ = some (.string y.name) ∧ wx.cell? ⟨g2, o2 + j * 7 + 5, none⟩ = some (.slice Gn y.names.length cG) ∧ wx.cell? ⟨g2, o2 + j * 7 + 6, none⟩ = some (.slice Gs y.subs.length dG)) (fun _ => false) (by kernel_rfl) ?_
              refine AnyX.move (i := 0) (v := ?_) rfl (by kernel_rfl) (by kernel_rfl) (by kernel_rfl) (by kernel_rfl) (fun _ _ _ h => h) (Or.inl ⟨by rfl, ?_⟩) ?_
              rotate_left
              · (intro wS _; go_simp; try with_reducible rfl)
              simp only [List.getElem_toArray, List.getElem_cons_succ, List.getElem_cons_zero]
              simp only [Act.put, List.setIfInBounds_toArray]
              simp only [List.set_cons_zero, List.set_cons_succ]
              refine AnyX.take (i := 1) (v := ?_) rfl (by kernel_rfl) (by kernel_rfl) (by kernel_rfl) (by kernel_rfl) (by kernel_rfl) (fun _ _ _ h => h) hH0 (Or.inl ⟨by rfl, ?_⟩) ?_
              rotate_left
              · (intro wS hS; (try obtain ⟨⟨m0, m1⟩, ⟨c0, c1, c2, c3, c4, c5', c6'⟩, d0, d1, d2, d3, d4, d5, d6⟩ := hS); go_simp; try with_reducible rfl)
              simp only [List.getElem_toArray, List.getElem_cons_succ, List.getElem_cons_zero]
              simp only [Act.put, List.setIfInBounds_toArray]
              simp only [List.set_cons_zero, List.set_cons_succ]
              refine AnyX.move (i := 2) (v := ?_) rfl (by kernel_rfl) (by kernel_rfl) (by kernel_rfl) (by kernel_rfl) (fun _ _ _ h => h) (Or.inl ⟨by rfl, ?_⟩) ?_
              rotate_left
              · (intro wS _; go_simp; try with_reducible rfl)
              simp only [List.getElem_toArray, List.getElem_cons_succ, List.getElem_cons_zero]
              simp only [Act.put, List.setIfInBounds_toArray]
              simp only [List.set_cons_zero, List.set_cons_succ]
              refine AnyX.move (i := 3) (v := ?_) rfl (by kernel_rfl) (by kernel_rfl) (by kernel_rfl) (by kernel_rfl) (fun _ _ _ h => h) (Or.inl ⟨by rfl, ?_⟩) ?_
              rotate_left
              · (intro wS _; go_simp; try with_reducible rfl)
              simp only [List.getElem_toArray, List.getElem_cons_succ, List.getElem_cons_zero]
              simp only [Act.put, List.setIfInBounds_toArray]
              simp only [List.set_cons_zero, List.set_cons_succ]
              refine AnyX.take (i := 4) (v := ?_) rfl (by kernel_rfl) (by kernel_rfl) (by kernel_rfl) (by kernel_rfl) (by kernel_rfl) (fun _ _ _ h => h) hH0 (Or.inl ⟨by rfl, ?_⟩) ?_
              rotate_left
              · (intro wS hS; (try obtain ⟨⟨m0, m1⟩, ⟨c0, c1, c2, c3, c4, c5', c6'⟩, d0, d1, d2, d3, d4, d5, d6⟩ := hS); go_simp; try with_reducible rfl)
              simp only [List.getElem_toArray, List.getElem_cons_succ, List.getElem_cons_zero]
              simp only [Act.put, List.setIfInBounds_toArray]
              simp only [List.set_cons_zero, List.set_cons_succ]
              refine AnyX.move (i := 5) (v := ?_) rfl (by kernel_rfl) (by kernel_rfl) (by kernel_rfl) (by kernel_rfl) (fun _ _ _ h => h) (Or.inl ⟨by rfl, ?_⟩) ?_
              rotate_left
              · (intro wS _; go_simp; try with_reducible rfl)
              simp only [List.getElem_toArray, List.getElem_cons_succ, List.getElem_cons_zero]
              simp only [Act.put, List.setIfInBounds_toArray]
              simp only [List.set_cons_zero, List.set_cons_succ]
              refine AnyX.take (i := 6) (v := ?_) rfl (by kernel_rfl) (by kernel_rfl) (by kernel_rfl) (by kernel_rfl) (by kernel_rfl) (fun _ _ _ h => h) hH0 (Or.inl ⟨by rfl, ?_⟩) ?_
              rotate_left
              · (intro wS hS; (try obtain ⟨⟨m0, m1⟩, ⟨c0, c1, c2, c3, c4, c5', c6'⟩, d0, d1, d2, d3, d4, d5, d6⟩ := hS); go_simp; try with_reducible rfl)
              simp only [List.getElem_toArray, List.getElem_cons_succ, List.getElem_cons_zero]
              simp only [Act.put, List.setIfInBounds_toArray]
              simp only [List.set_cons_zero, List.set_cons_succ]
              refine AnyX.move (i := 7) (v := ?_) rfl (by kernel_rfl) (by kernel_rfl) (by kernel_rfl) (by kernel_rfl) (fun _ _ _ h => h) (Or.inl ⟨by rfl, ?_⟩) ?_
              rotate_left
              · (intro wS _; go_simp; try with_reducible rfl)
              simp only [List.getElem_toArray, List.getElem_cons_succ, List.getElem_cons_zero]
              simp only [Act.put, List.setIfInBounds_toArray]
              simp only [List.set_cons_zero, List.set_cons_succ]
              refine AnyX.move (i := 8) (v := ?_) rfl (by kernel_rfl) (by kernel_rfl) (by kernel_rfl) (by kernel_rfl) (fun _ _ _ h => h) (Or.inl ⟨by rfl, ?_⟩) ?_
              rotate_left
              · (intro wS _; go_simp; try with_reducible rfl)
              simp only [List.getElem_toArray, List.getElem_cons_succ, List.getElem_cons_zero]
              simp only [Act.put, List.setIfInBounds_toArray]
              simp only [List.set_cons_zero, List.set_cons_succ]
              refine AnyX.take (i := 9) (v := ?_) rfl (by kernel_rfl) (by kernel_rfl) (by kernel_rfl) (by kernel_rfl) (by kernel_rfl) (fun _ _ _ h => h) hH0 (Or.inl ⟨by rfl, ?_⟩) ?_
              rotate_left
              · (intro wS hS; (try obtain ⟨⟨m0, m1⟩, ⟨c0, c1, c2, c3, c4, c5', c6'⟩, d0, d1, d2, d3, d4, d5, d6⟩ := hS); go_simp; try with_reducible rfl)
              simp only [List.getElem_toArray, List.getElem_cons_succ, List.getElem_cons_zero]
              simp only [Act.put, List.setIfInBounds_toArray]
              simp only [List.set_cons_zero, List.set_cons_succ]
              refine AnyX.move (i := 10) (v := ?_) rfl (by kernel_rfl) (by kernel_rfl) (by kernel_rfl) (by kernel_rfl) (fun _ _ _ h => h) (Or.inl ⟨by rfl, ?_⟩) ?_
              rotate_left
              · (intro wS _; go_simp; try with_reducible rfl)
              simp only [List.getElem_toArray, List.getElem_cons_succ, List.getElem_cons_zero]
              simp only [Act.put, List.setIfInBounds_toArray]
              simp only [List.set_cons_zero, List.set_cons_succ]
              refine AnyX.go2 11 15 (by kernel_rfl) rfl rfl rfl rfl (fun K hK => ?_) (fun K hK => ?_)
              · simp only [List.getElem_toArray, List.getElem_cons_succ, List.getElem_cons_zero]
                go_simp
                refine (CT.out wp.drew (Below.drew (Below.refl _ _))).mono ?_
                rintro e w2 ⟨l1, q1, rfl, hb2, ⟨v, Hn, cH, Hs, dH, rfl⟩, hres⟩
                have hB2 : Below wp.heap.size wp w2 := Below.trans (Below.drew (Below.refl wp.heap.size wp)) hb2
                simp only []
                refine hK.out _ _ (fun hoff _ => KEEP.out w2 hB2) ?_
                clear hK
                try simp only [Act.put, List.setIfInBounds_toArray]
                try simp only [List.set_cons_zero, List.set_cons_succ]
                refine AnyX.move (i := 12) (v := ?_) rfl (by kernel_rfl) (by kernel_rfl) (by kernel_rfl) (by kernel_rfl) (fun _ _ _ h => h) (Or.inl ⟨by rfl, ?_⟩) ?_
                rotate_left
                · (intro wS _; go_simp; try with_reducible rfl)
                simp only [List.getElem_toArray, List.getElem_cons_succ, List.getElem_cons_zero]
                simp only [Act.put, List.setIfInBounds_toArray]
                simp only [List.set_cons_zero, List.set_cons_succ]
                refine AnyX.move (i := 13) (v := ?_) rfl (by kernel_rfl) (by kernel_rfl) (by kernel_rfl) (by kernel_rfl) (fun _ _ _ h => h) (Or.inl ⟨by rfl, ?_⟩) ?_
                rotate_left
                · (intro wS _; go_simp; try with_reducible rfl)
                simp only [List.getElem_toArray, List.getElem_cons_succ, List.getElem_cons_zero]
                simp only [Act.put, List.setIfInBounds_toArray]
                simp only [List.set_cons_zero, List.set_cons_succ]
                refine AnyX.move (i := 14) (v := ?_) rfl (by kernel_rfl) (by kernel_rfl) (by kernel_rfl) (by kernel_rfl) (fun _ _ _ h => h) (Or.inl ⟨by rfl, ?_⟩) ?_
                rotate_left
                · (intro wS _; go_simp; try with_reducible rfl)
                simp only [List.getElem_toArray, List.getElem_cons_succ, List.getElem_cons_zero]
                simp only [Act.put, List.setIfInBounds_toArray]
                simp only [List.set_cons_zero, List.set_cons_succ]
                refine AnyX.go 15 (by kernel_rfl) rfl rfl (fun K hK => ?_)
                simp only [List.getElem_toArray, List.getElem_cons_succ, List.getElem_cons_zero]
                go_simp
                refine hK.out _ _ (fun hoff _ => KEEP.out _ (below_new hB2 _)) ?_
                clear hK
                try simp only [Act.put, List.setIfInBounds_toArray]
                try simp only [List.set_cons_zero, List.set_cons_succ]
                refine AnyX.go 16 (by kernel_rfl) rfl rfl (fun K hK => ?_)
                simp only [List.getElem_toArray, List.getElem_cons_succ, List.getElem_cons_zero]
                refine wp_store_row 25 (.tmp 16) (.tmp 138) rfl w2.heap.size #[.int .i64 v.kind, .string v.pkg, .int .i64 v.major, .string v.mod, .string v.name, .slice Hn v.names.length cH, .slice Hs v.subs.length dH] rfl rfl _ _ (heap_alloc_new w2 _) tySize rfl tyOne ?_
                refine hK.out _ _ (fun hoff _ => KEEP.out _ (setRow_below (below_new hB2 _) hB2.size _)) ?_
                clear hK
                try simp only [Act.put, List.setIfInBounds_toArray]
                try simp only [List.set_cons_zero, List.set_cons_succ]
                refine AnyX.move (i := 17) (v := ?_) rfl (by kernel_rfl) (by kernel_rfl) (by kernel_rfl) (by kernel_rfl) (fun _ _ _ h => h) (Or.inl ⟨by rfl, ?_⟩) ?_
                rotate_left
                · (intro wS _; go_simp; try with_reducible rfl)
                simp only [List.getElem_toArray, List.getElem_cons_succ, List.getElem_cons_zero]
                simp only [Act.put, List.setIfInBounds_toArray]
                simp only [List.set_cons_zero, List.set_cons_succ]
                refine AnyX.done (by kernel_rfl) ?_ _
                go_wp2_with fail
                go_meet
                exact ⟨_, _, _, rfl, rfl, PwR.made2 (wa := wp.drew) hres ⟨v, Hn, cH, Hs, dH, rfl⟩ (below_over HB0.out HBP.out).size (Nat.le_refl _) hB2.size (.inr (Nat.le_refl _)) (setRow_heap _ _ _ _ _ _ (heap_alloc_new w2 _)) (setRow_below (below_new hB2 _) hB2.size _) (fun y hy hne => (setRow_other _ _ _ _ hne).trans (Lib.alloc_old _ _ _ hy)) (by rw [size_setRow]; simp)⟩
              · simp only [List.getElem_toArray, List.getElem_cons_succ, List.getElem_cons_zero]
                go_simp
                obtain ⟨wa, hwa⟩ : ∃ wa, wa = (wp.alloc (.cells #[.int .i64 0, .string ⟨#[]⟩, .int .i64 0, .string ⟨#[]⟩, .string ⟨#[]⟩, .slice none 0 0, .slice none 0 0] 25)).drew := ⟨_, rfl⟩
                have Ba : Below wp.heap.size wp wa := by rw [hwa]; exact Below.drew (below_new (Below.refl _ _) _)
                have Xa : wa.heap[wp.heap.size]? = some (.cells #[.int .i64 0, .string ⟨#[]⟩, .int .i64 0, .string ⟨#[]⟩, .string ⟨#[]⟩, .slice none 0 0, .slice none 0 0] 25 (0, 0)) := by rw [hwa]; exact heap_alloc_new wp _
                have sa : wp.heap.size < wa.heap.size := by rw [hwa]; simp
                have hHa := KEEP.out wa Ba
                refine hK.out _ _ (fun _ _ => by rw [hwa] at hHa; exact hHa) ?_
                clear hK
                try simp only [Act.put, List.setIfInBounds_toArray]
                try simp only [List.set_cons_zero, List.set_cons_succ]
                rw [← hwa]
                clear hwa
                refine AnyX.go 11 (by kernel_rfl) rfl rfl (fun K hK => ?_)
                simp only [List.getElem_toArray, List.getElem_cons_succ, List.getElem_cons_zero]
                go_simp
                refine (CT.out wa Ba).mono ?_
                rintro e w2 ⟨l1, q1, rfl, hb2, ⟨v, Hn, cH, Hs, dH, rfl⟩, hres⟩
                have hB2 : Below wp.heap.size wp w2 := below_over Ba hb2
                have X2 := (hb2.block _ sa).trans Xa
                simp only []
                refine hK.out _ _ (fun hoff _ => KEEP.out w2 hB2) ?_
                clear hK
                try simp only [Act.put, List.setIfInBounds_toArray]
                try simp only [List.set_cons_zero, List.set_cons_succ]
                refine AnyX.move (i := 12) (v := ?_) rfl (by kernel_rfl) (by kernel_rfl) (by kernel_rfl) (by kernel_rfl) (fun _ _ _ h => h) (Or.inl ⟨by rfl, ?_⟩) ?_
                rotate_left
                · (intro wS _; go_simp; try with_reducible rfl)
                simp only [List.getElem_toArray, List.getElem_cons_succ, List.getElem_cons_zero]
                simp only [Act.put, List.setIfInBounds_toArray]
                simp only [List.set_cons_zero, List.set_cons_succ]
                refine AnyX.move (i := 13) (v := ?_) rfl (by kernel_rfl) (by kernel_rfl) (by kernel_rfl) (by kernel_rfl) (fun _ _ _ h => h) (Or.inl ⟨by rfl, ?_⟩) ?_
                rotate_left
                · (intro wS _; go_simp; try with_reducible rfl)
                simp only [List.getElem_toArray, List.getElem_cons_succ, List.getElem_cons_zero]
                simp only [Act.put, List.setIfInBounds_toArray]
                simp only [List.set_cons_zero, List.set_cons_succ]
                refine AnyX.move (i := 14) (v := ?_) rfl (by kernel_rfl) (by kernel_rfl) (by kernel_rfl) (by kernel_rfl) (fun _ _ _ h => h) (Or.inl ⟨by rfl, ?_⟩) ?_
                rotate_left
                · (intro wS _; go_simp; try with_reducible rfl)
                simp only [List.getElem_toArray, List.getElem_cons_succ, List.getElem_cons_zero]
                simp only [Act.put, List.setIfInBounds_toArray]
                simp only [List.set_cons_zero, List.set_cons_succ]
                refine AnyX.go 16 (by kernel_rfl) rfl rfl (fun K hK => ?_)
                simp only [List.getElem_toArray, List.getElem_cons_succ, List.getElem_cons_zero]
                refine wp_store_row 25 (.tmp 16) (.tmp 138) rfl wp.heap.size #[.int .i64 v.kind, .string v.pkg, .int .i64 v.major, .string v.mod, .string v.name, .slice Hn v.names.length cH, .slice Hs v.subs.length dH] rfl rfl _ _ X2 tySize rfl tyOne ?_
                refine hK.out _ _ (fun hoff _ => KEEP.out _ (setRow_below hB2 (Nat.le_refl _) _)) ?_
                clear hK
                try simp only [Act.put, List.setIfInBounds_toArray]
                try simp only [List.set_cons_zero, List.set_cons_succ]
                refine AnyX.move (i := 17) (v := ?_) rfl (by kernel_rfl) (by kernel_rfl) (by kernel_rfl) (by kernel_rfl) (fun _ _ _ h => h) (Or.inl ⟨by rfl, ?_⟩) ?_
                rotate_left
                · (intro wS _; go_simp; try with_reducible rfl)
                simp only [List.getElem_toArray, List.getElem_cons_succ, List.getElem_cons_zero]
                simp only [Act.put, List.setIfInBounds_toArray]
                simp only [List.set_cons_zero, List.set_cons_succ]
                refine AnyX.done (by kernel_rfl) ?_ _
                go_wp2_with fail
                go_meet
                exact ⟨_, _, _, rfl, rfl, PwR.made2 hres ⟨v, Hn, cH, Hs, dH, rfl⟩ (below_over HB0.out HBP.out).size Ba.size (Nat.le_refl _) (.inl sa) (setRow_heap _ _ _ _ _ _ X2) (setRow_below hB2 (Nat.le_refl _) _) (fun y hy hne => setRow_other _ _ _ _ hne) (by rw [size_setRow]; exact Nat.le_refl _)⟩
            case rest =>
              obtain ⟨b0, l1, q, rfl, rfl, hXb, hbb, hBx, ⟨v, Hn, cH, Hs, dH, rfl⟩, hres⟩ := hcut
              obtain ⟨wy, rfl⟩ : ∃ wy : World, wy = wc := ⟨_, rfl⟩
              have HIY := Lib.hid (HIP.out.keep hBx)
              have HBY := Lib.hid (below_over HBP.out hBx)
              have HBX := Lib.hid hBx
              have hps := HIP.out.size
              clear CT KEEP
              cases q with
              | true =>
                obtain ⟨z, hbz, hTz⟩ : ∃ z, IsBnd up x y z ∧ TyAt (strike (fun k => w0.heap.size ≤ k ∧ k < wp.heap.size) wy) [.int .i64 v.kind, .string v.pkg, .int .i64 v.major, .string v.mod, .string v.name, .slice Hn v.names.length cH, .slice Hs v.subs.length dH] z := by
                  rcases hres with ⟨-, z, h1, h2⟩ | ⟨h, -⟩
                  · exact ⟨z, h1, h2⟩
                  · cases h
                have HBZ := Lib.hid hbz
                have HTZ : Hid (TyAt (strike (fun k => w0.heap.size ≤ k ∧ k < w.heap.size + 1 + 1 + 1 + 1) wy) [.int .i64 v.kind, .string v.pkg, .int .i64 v.major, .string v.mod, .string v.name, .slice Hn v.names.length cH, .slice Hs v.subs.length dH] z) := Lib.hid (hTz.move (Nat.le_refl _) fun k hk hS => ⟨fun e => hS ⟨e.1, by omega⟩, rfl⟩)
                obtain ⟨Hn', cH', Hs', dH', hlz, -⟩ := hTz.parts
                have KEEP : Hid (∀ wx : World, Below wy.heap.size wy wx → wx.cell? ⟨w.heap.size + 1 + 1 + 1, 0, none⟩ = some (.int .i64 t.kind) ∧ wx.cell? ⟨w.heap.size + 1 + 1 + 1, 1, none⟩ = some (.string t.pkg) ∧ wx.cell? ⟨w.heap.size + 1 + 1 + 1, 2, none⟩ = some (.int .i64 t.major) ∧ wx.cell? ⟨w.heap.size + 1 + 1 + 1, 3, none⟩ = some (.string t.mod) ∧ wx.cell? ⟨w.heap.size + 1 + 1 + 1, 4, none⟩ = some (.string t.name) ∧ wx.cell? ⟨w.heap.size + 1 + 1 + 1, 5, none⟩ = some (.slice Pn t.names.length cP) ∧ wx.cell? ⟨w.heap.size + 1 + 1 + 1, 6, none⟩ = some (.slice Ps t.subs.length dP) ∧ wx.cell? ⟨w.heap.size, 5, none⟩ = some (.slice (some ⟨gn, on, none⟩) n cA) ∧ wx.cell? ⟨gn, on + k, none⟩ = some (.string s) ∧ wx.cell? ⟨b0, 0, none⟩ = some (.int .i64 v.kind) ∧ wx.cell? ⟨b0, 1, none⟩ = some (.string v.pkg) ∧ wx.cell? ⟨b0, 2, none⟩ = some (.int .i64 v.major) ∧ wx.cell? ⟨b0, 3, none⟩ = some (.string v.mod) ∧ wx.cell? ⟨b0, 4, none⟩ = some (.string v.name) ∧ wx.cell? ⟨b0, 5, none⟩ = some (.slice Hn v.names.length cH) ∧ wx.cell? ⟨b0, 6, none⟩ = some (.slice Hs v.subs.length dH)) := Lib.hid (fun wx hb => by
                  have hI := HIY.out.keep hb
                  have hE := HEL.out wx (below_over HBY.out hb)
                  have z0 := Lib.cell_of_heap hI.box 0
                  have z1 := Lib.cell_of_heap hI.box 1
                  have z2 := Lib.cell_of_heap hI.box 2
                  have z3 := Lib.cell_of_heap hI.box 3
                  have z4 := Lib.cell_of_heap hI.box 4
                  have z5 := Lib.cell_of_heap hI.box 5
                  have z6 := Lib.cell_of_heap hI.box 6
                  have hbl : b0 < wy.heap.size := (Array.getElem?_eq_some_iff.1 hXb).1
                  have hX := (hb.block b0 hbl).trans hXb
                  have u0 := Lib.cell_of_heap hX 0
                  have u1 := Lib.cell_of_heap hX 1
                  have u2 := Lib.cell_of_heap hX 2
                  have u3 := Lib.cell_of_heap hX 3
                  have u4 := Lib.cell_of_heap hX 4
                  have u5 := Lib.cell_of_heap hX 5
                  have u6 := Lib.cell_of_heap hX 6
                  exact ⟨z0, z1, z2, z3, z4, z5, z6, (HCA.out wx hI.below).1, hE.1, u0, u1, u2, u3, u4, u5, u6⟩)
                clear hXb hbb hres hbz hTz hlz hBx
                have CT := Lib.hid (fun (w' : World) (hb' : Below wy.heap.size wy w') => put_any (fun k => w0.heap.size ≤ k ∧ k < w.heap.size + 1 + 1 + 1 + 1) t s z [.int .i64 t.kind, .string t.pkg, .int .i64 t.major, .string t.mod, .string t.name, .slice Pn t.names.length cP, .slice Ps t.subs.length dP] [.int .i64 v.kind, .string v.pkg, .int .i64 v.major, .string v.mod, .string v.name, .slice Hn v.names.length cH, .slice Hs v.subs.length dH] w' (fun k hk => by have h1 := HIY.out.size; have h2 := hb'.size; omega) (HIY.out.keep hb').typ ((HTZ.out.move hb'.size fun k hk hS => ⟨hS, hb'.block k hk⟩)) HGR.out.len (by have := HGR.out.cnt; have h1 := HN.out.1; have h2 := HRR.out.1; omega) HZ.out)
                go_upto_region 32 with fail
                have hH0 := KEEP.out wy.drew (Below.drew (Below.refl _ _))
                refine AnyX.start (fun wx => wx.cell? ⟨w.heap.size + 1 + 1 + 1, 0, none⟩ = some (.int .i64 t.kind) ∧ wx.cell? ⟨w.heap.size + 1 + 1 + 1, 1, none⟩ = some (.string t.pkg) ∧ wx.cell? ⟨w.heap.size + 1 + 1 + 1, 2, none⟩ = some (.int .i64 t.major) ∧ wx.cell? ⟨w.heap.size + 1 + 1 + 1, 3, none⟩ = some (.string t.mod) ∧ wx.cell? ⟨w.heap.size + 1 + 1 + 1, 4, none⟩ = some (.string t.name) ∧ wx.cell? ⟨w.heap.size + 1 + 1 + 1, 5, none⟩ = some (.slice Pn t.names.length cP) ∧ wx.cell? ⟨w.heap.size + 1 + 1 + 1, 6, none⟩ = some (.slice Ps t.subs.length dP) ∧ wx.cell? ⟨w.heap.size, 5, none⟩ = some (.slice (some ⟨gn, on, none⟩) n cA) ∧ wx.cell? ⟨gn, on + k, none⟩ = some (.string s) ∧ wx.cell? ⟨b0, 0, none⟩ = some (.int .i64 v.kind) ∧ wx.cell? ⟨b0, 1, none⟩ = some (.string v.pkg) ∧ wx.cell? ⟨b0, 2, none⟩ = some (.int .i64 v.major) ∧ wx.cell? ⟨b0, 3, none⟩ = some (.string v.mod) ∧ wx.cell? ⟨b0, 4, none⟩ = some (.string v.name) ∧ wx.cell? ⟨b0, 5, none⟩ = some (.slice Hn v.names.length cH) ∧ wx.cell? ⟨b0, 6, none⟩ = some (.slice Hs v.subs.length dH)) (fun k => k == 8) (by kernel_rfl) ?_
                refine AnyX.take (i := 0) (v := ?_) rfl (by kernel_rfl) (by kernel_rfl) (by kernel_rfl) (by kernel_rfl) (by kernel_rfl) (fun _ _ _ h => h) hH0 (Or.inl ⟨by rfl, ?_⟩) ?_
                rotate_left
                · (intro wS hS; (try obtain ⟨b0', b1, b2, b3, b4, b5, b6, m0, n0, c0, c1, c2, c3, c4, c5', c6'⟩ := hS); go_simp; try with_reducible rfl)
                simp only [List.getElem_toArray, List.getElem_cons_succ, List.getElem_cons_zero]
                simp only [Act.put, List.setIfInBounds_toArray]
                simp only [List.set_cons_zero, List.set_cons_succ]
                refine AnyX.move (i := 1) (v := ?_) rfl (by kernel_rfl) (by kernel_rfl) (by kernel_rfl) (by kernel_rfl) (fun _ _ _ h => h) (Or.inl ⟨by rfl, ?_⟩) ?_
                rotate_left
                · (intro wS _; go_simp; try with_reducible rfl)
                simp only [List.getElem_toArray, List.getElem_cons_succ, List.getElem_cons_zero]
                simp only [Act.put, List.setIfInBounds_toArray]
                simp only [List.set_cons_zero, List.set_cons_succ]
                refine AnyX.take (i := 2) (v := ?_) rfl (by kernel_rfl) (by kernel_rfl) (by kernel_rfl) (by kernel_rfl) (by kernel_rfl) (fun _ _ _ h => h) hH0 (Or.inl ⟨by rfl, ?_⟩) ?_
                rotate_left
                · (intro wS hS; (try obtain ⟨b0', b1, b2, b3, b4, b5, b6, m0, n0, c0, c1, c2, c3, c4, c5', c6'⟩ := hS); go_simp; try with_reducible rfl)
                simp only [List.getElem_toArray, List.getElem_cons_succ, List.getElem_cons_zero]
                simp only [Act.put, List.setIfInBounds_toArray]
                simp only [List.set_cons_zero, List.set_cons_succ]
                refine AnyX.move (i := 3) (v := ?_) rfl (by kernel_rfl) (by kernel_rfl) (by kernel_rfl) (by kernel_rfl) (fun _ _ _ h => h) (Or.inl ⟨by rfl, ?_⟩) ?_
                rotate_left
                · (intro wS _; go_simp; try with_reducible rfl)
                simp only [List.getElem_toArray, List.getElem_cons_succ, List.getElem_cons_zero]
                simp only [Act.put, List.setIfInBounds_toArray]
                simp only [List.set_cons_zero, List.set_cons_succ]
                refine AnyX.move (i := 4) (v := ?_) rfl (by kernel_rfl) (by kernel_rfl) (by kernel_rfl) (by kernel_rfl) (fun _ _ _ h => h) (Or.inl ⟨by rfl, ?_⟩) ?_
                rotate_left
                · (intro wS _; go_simp; try with_reducible rfl)
                simp only [List.getElem_toArray, List.getElem_cons_succ, List.getElem_cons_zero]
                simp only [Act.put, List.setIfInBounds_toArray]
                simp only [List.set_cons_zero, List.set_cons_succ]
                refine AnyX.take (i := 5) (v := ?_) rfl (by kernel_rfl) (by kernel_rfl) (by kernel_rfl) (by kernel_rfl) (by kernel_rfl) (fun _ _ _ h => h) hH0 (Or.inl ⟨by rfl, ?_⟩) ?_
                rotate_left
                · (intro wS hS; (try obtain ⟨b0', b1, b2, b3, b4, b5, b6, m0, n0, c0, c1, c2, c3, c4, c5', c6'⟩ := hS); go_simp; try with_reducible rfl)
                simp only [List.getElem_toArray, List.getElem_cons_succ, List.getElem_cons_zero]
                simp only [Act.put, List.setIfInBounds_toArray]
                simp only [List.set_cons_zero, List.set_cons_succ]
                refine AnyX.take (i := 6) (v := ?_) rfl (by kernel_rfl) (by kernel_rfl) (by kernel_rfl) (by kernel_rfl) (by kernel_rfl) (fun _ _ _ h => h) hH0 (Or.inl ⟨by rfl, ?_⟩) ?_
                rotate_left
                · (intro wS hS; (try obtain ⟨b0', b1, b2, b3, b4, b5, b6, m0, n0, c0, c1, c2, c3, c4, c5', c6'⟩ := hS); go_simp; try with_reducible rfl)
                simp only [List.getElem_toArray, List.getElem_cons_succ, List.getElem_cons_zero]
                simp only [Act.put, List.setIfInBounds_toArray]
                simp only [List.set_cons_zero, List.set_cons_succ]
                refine AnyX.go 7 (by kernel_rfl) rfl rfl (fun K hK => ?_)
                simp only [List.getElem_toArray, List.getElem_cons_succ, List.getElem_cons_zero]
                go_simp
                refine (CT.out wy.drew (Below.drew (Below.refl _ _))).mono ?_
                rintro e w2 ⟨l2, rfl, hT2, hb2⟩
                have hB2 : Below wy.heap.size wy w2 := Below.trans (Below.drew (Below.refl wy.heap.size wy)) hb2
                have X2 := (HIY.out.keep hB2).box
                have NEW := Lib.hid (HIY.out.put HS3.out hB2 hT2 hw00)
                obtain ⟨Qn, cQ, Qs, dQ, rfl, -⟩ := hT2.parts
                simp only []
                refine hK.out _ _ (fun hoff _ => KEEP.out w2 hB2) ?_
                clear hK
                try simp only [Act.put, List.setIfInBounds_toArray]
                try simp only [List.set_cons_zero, List.set_cons_succ]
                refine AnyX.go 8 (by kernel_rfl) rfl rfl (fun K hK => ?_)
                simp only [List.getElem_toArray, List.getElem_cons_succ, List.getElem_cons_zero]
                refine wp_store_row 25 (.tmp 8) (.tmp 154) rfl (w.heap.size + 1 + 1 + 1) #[.int .i64 (putT t s z).kind, .string (putT t s z).pkg, .int .i64 (putT t s z).major, .string (putT t s z).mod, .string (putT t s z).name, .slice Qn (putT t s z).names.length cQ, .slice Qs (putT t s z).subs.length dQ] rfl rfl _ _ X2 tySize rfl tyOne ?_
                refine hK.out _ _ (fun hoff _ => absurd hoff (by decide)) ?_
                clear hK
                try simp only [Act.put, List.setIfInBounds_toArray]
                try simp only [List.set_cons_zero, List.set_cons_succ]
                refine AnyX.done (by kernel_rfl) ?_ _
                clear CT KEEP X2 hH0
                have HPN := Lib.hid (HP.out.put GA.out HS.out (.inl ⟨x, y, HAX.out, HAY.out, HBZ.out⟩))
                go_wp2_with fail
                go_roundw
                case rel => exact ⟨k + 1, _, _, by omega, by go_num, NEW, HPN⟩
                case measure => simp [intOf]; omega
              | false =>
                have HNO : Hid (NoBnd up x y) := Lib.hid (by
                  rcases hres with ⟨h, -⟩ | ⟨-, h⟩
                  · cases h
                  · exact h)
                clear hXb hbb hres hBx
                cases al with
                | true =>
                  have FIN := Lib.hid (RbOut.zero (w0 := w0) (b := w.heap.size + 1 + 1) (below_over HB3.out HIY.out.below) hrb (no_union (HAL.out.1 rfl) HK.out HAX.out HAY.out HNO.out))
                  have X7 := HR.out wy HIY.out.below
                  have HX8 := Lib.hid X7
                  go_upto_region 30 with fail
                  go_wp2_with (first | ((with_reducible refine wpList_putRow 25 (w.heap.size + 1 + 1) #[.int .i64 0, .string ⟨#[]⟩, .int .i64 0, .string ⟨#[]⟩, .string ⟨#[]⟩, .slice none 0 0, .slice none 0 0] _ _ X7 ?_ ?_ ?_ ?_ ?_ ?_); exact tySize; rfl; exact tyOne; (focus (first | (go_simp; done) | rfl)); (focus (first | (go_simp; done) | rfl))))
                  exact ret_agg (fn := Try.f17) (vs := [.int .i64 0, .string ⟨#[]⟩, .int .i64 0, .string ⟨#[]⟩, .string ⟨#[]⟩, .slice none 0 0, .slice none 0 0]) (b := w.heap.size + 1 + 1) rfl rfl rfl Try.underlying25 (by kernel_rfl) (cell7 (setRow_heap _ (w.heap.size + 1 + 1) _ _ _ _ HX8.out)) rfl FIN.out
                | false =>
                  have HPN := Lib.hid (HP.out.skip HS.out rfl (fun x' y' hx' hy' => by
                    obtain rfl := GA.out.one hx' HAX.out
                    obtain rfl := GB.out.one hy' HAY.out
                    exact HNO.out))
                  go_wp2_with fail
                  go_roundw
                  case rel => exact ⟨k + 1, t, _, by omega, by go_num, HIY, HPN⟩
                  case measure => simp [intOf]; omega
      · have HKN : Hid (RbI up al a b a.names.length t) := Lib.hid (by have e : k = n := by omega
                                                                       rw [← HN.out.1, ← e]; exact HP.out)
        have HJ0 := Lib.hid HKN.out.next
        clear HP HKN
        obtain ⟨wq, rfl⟩ : ∃ wq : World, wq = wo := ⟨_, rfl⟩
        clear x6 y6
        go_wp2_with fail
        clear x5 y5
        go_loopw [18] (fun s18 wr => ∃ (k : Nat) (t : Ty) (l : List Value), k ≤ r ∧ s18 = .int .i64 k ∧ Hid (RbW w0 w W3 t l wr) ∧ Hid (RbJ up al a b k t)) (fun s18 _ => r - (intOf s18).toNat)
        case atStart => exact ⟨0, t, l, by omega, rfl, HI, HJ0⟩
        case round =>
          obtain ⟨k, t, l, hkn, rfl, HI, HP⟩ := hrel
          obtain ⟨wo, rfl⟩ : ∃ wo : World, wo = wr := ⟨_, rfl⟩
          obtain ⟨x5, x6⟩ := HCA.out wo HI.out.below
          obtain ⟨y5, y6⟩ := HCB.out wo HI.out.below
          by_cases hlt : k < r
          · obtain ⟨s, hs⟩ : ∃ s, b.names[k]? = some s := at_some (by rw [← HRR.out.1]; exact hlt)
            obtain ⟨y, hy⟩ : ∃ y, b.subs[k]? = some y := at_some (by rw [← HRR.out.2]; exact hlt)
            have HS := Lib.hid hs
            have HYI := Lib.hid hy
            have HB0 : Hid (Below w0.heap.size w0 wo) := Lib.hid (below_over HW0.out (below_over HB3.out HI.out.below))
            have HGR : Hid (Gro a.kind (a.names.length + k) t) := Lib.hid HP.out.gro
            obtain ⟨gn, on, rfl, hgn, hcn, hzs⟩ := HNB.out k s hs
            have HZ := Lib.hid hzs
            obtain ⟨g1, o1, v0, v1, v2, v3, v4, v5, v6, rfl, hg1, h0, h1, h2, h3, h4, h5, h6, hx7⟩ := HSB.out k y hy
            obtain ⟨Gn, cG, Gs, dG, rfl, rfl, rfl, rfl, rfl, rfl, rfl⟩ := hx7.seven
            have HY7 := Lib.hid hx7
            have HEL : Hid (∀ wx, Below wo.heap.size wo wx → wx.cell? ⟨gn, on + k, none⟩ = some (.string s) ∧ wx.cell? ⟨g1, o1 + k * 7, none⟩ = some (.int .i64 y.kind) ∧ wx.cell? ⟨g1, o1 + k * 7 + 1, none⟩ = some (.string y.pkg) ∧ wx.cell? ⟨g1, o1 + k * 7 + 2, none⟩ = some (.int .i64 y.major) ∧ wx.cell? ⟨g1, o1 + k * 7 + 3, none⟩ = some (.string y.mod) ∧ wx.cell? ⟨g1, o1 + k * 7 + 4, none⟩ = some (.string y.name) ∧ wx.cell? ⟨g1, o1 + k * 7 + 5, none⟩ = some (.slice Gn y.names.length cG) ∧ wx.cell? ⟨g1, o1 + k * 7 + 6, none⟩ = some (.slice Gs y.subs.length dG)) := Lib.hid (fun wx hb => by
              have hb0 := below_over HB0.out hb
              have t1 := fun (q : Nat) (v : Value) (hv : w0.cell? ⟨g1, q, none⟩ = some v) => (hb0.cell (p := ⟨g1, q, none⟩) hg1).trans hv
              exact ⟨(hb0.cell (p := ⟨gn, _, none⟩) hgn).trans hcn, t1 _ _ h0, t1 _ _ h1, t1 _ _ h2, t1 _ _ h3, t1 _ _ h4, t1 _ _ h5, t1 _ _ h6⟩)
            obtain ⟨Pn, cP, Ps, dP, rfl, -⟩ := HI.out.typ.parts
            obtain ⟨J, hJ⟩ : ∃ J, J = optN (ofB a.names s) := ⟨_, rfl⟩
            have HJ := Lib.hid hJ
            have hk0 : (0 : Int) ≤ k := by omega
            have hk1 : (k : Int) < r := by omega
            have cnm := (HEL.out wo (Below.refl _ _)).1
            clear h0 h1 h2 h3 h4 h5 h6 hx7 hy hs hg1 hgn hcn hzs hJ x6 y6
            cases al with
            | false =>
              have HPN := Lib.hid (HP.out.skip HS.out (fun h => by cases h))
              have cO : ∀ dd os, Calls Try.prog 25 #[.slice An n cA, .string s] (Sort.grow (redrawn wo dd) os) fun e w'' => e = .returned (.int .i64 J) ∧ ∃ pp : Regrown, w'' = Sort.grow (redrawn wo pp.d) pp.os := fun dd os => Calls.regrown_of (by
                rw [HJ.out]; exact rof9_any An n cA a.names s _ HN.out.1 (by omega) (HNA.out.below (below_over HB0.out (below_regrown wo dd os))))
              go_upto_region 36 with fail
              have e1 := cell_regrown x5
              have e2 := cell_regrown y5
              have e3 := cell_regrown cnm
              clear x5 y5 cnm
              refine wp_region_quiet_below (by kernel_rfl) (by kernel_rfl) ?_
              repeat (any_goals (first | go_big_quiet_step (with_reducible exact cO _ _) | quiet_step (with_reducible exact cO _ _)))
              refine wpQuiet_nil ?_
              intro wp hw'
              have HIP := Lib.hid (HI.out.keep (wr' := wp) (by
                obtain ⟨⟨dq, osq⟩, hw''⟩ := hw'
                rw [hw'']
                exact below_regrown wo dq osq))
              have HBP : Hid (Below wo.heap.size wo wp) := Lib.hid (by
                obtain ⟨⟨dq, osq⟩, hw''⟩ := hw'
                rw [hw'']
                exact below_regrown wo dq osq)
              clear hw' cO
              clear e1 e2 e3
              go_wp2_with fail
              go_roundw
              case rel => exact ⟨k + 1, t, _, by omega, by go_num, HIP, HPN⟩
              case measure => simp [intOf]; omega
            | true =>
              have cO : ∀ dd os, Calls Try.prog 25 #[.slice An n cA, .string s] (Sort.grow (redrawn wo dd) os) fun e w'' => e = .returned (.int .i64 J) ∧ ∃ pp : Regrown, w'' = Sort.grow (redrawn wo pp.d) pp.os := fun dd os => Calls.regrown_of (by
                rw [HJ.out]; exact rof9_any An n cA a.names s _ HN.out.1 (by omega) (HNA.out.below (below_over HB0.out (below_regrown wo dd os))))
              go_upto_region 36 with fail
              have e1 := cell_regrown x5
              have e2 := cell_regrown y5
              have e3 := cell_regrown cnm
              clear x5 y5 cnm
              refine wp_region_quiet_below (by kernel_rfl) (by kernel_rfl) ?_
              repeat (any_goals (first | go_big_quiet_step (with_reducible exact cO _ _) | quiet_step (with_reducible exact cO _ _)))
              refine wpQuiet_nil ?_
              intro wp hw'
              have HIP := Lib.hid (HI.out.keep (wr' := wp) (by
                obtain ⟨⟨dq, osq⟩, hw''⟩ := hw'
                rw [hw'']
                exact below_regrown wo dq osq))
              have HBP : Hid (Below wo.heap.size wo wp) := Lib.hid (by
                obtain ⟨⟨dq, osq⟩, hw''⟩ := hw'
                rw [hw'']
                exact below_regrown wo dq osq)
              clear hw' cO
              clear e1 e2 e3
              cases hj : ofB a.names s with
              | none =>
                as_aux_lemma =>
                  have HNOX : Hid (∀ x, ¬ AtN a s x) := Lib.hid (fun x hx => ofB_none hj hx.name)
                  obtain rfl : J = -1 := by rw [HJ.out, hj]; rfl
                  clear hj
                  have KEEP : Hid (∀ wx : World, Below wp.heap.size wp wx → wx.cell? ⟨w.heap.size + 1 + 1 + 1, 0, none⟩ = some (.int .i64 t.kind) ∧ wx.cell? ⟨w.heap.size + 1 + 1 + 1, 1, none⟩ = some (.string t.pkg) ∧ wx.cell? ⟨w.heap.size + 1 + 1 + 1, 2, none⟩ = some (.int .i64 t.major) ∧ wx.cell? ⟨w.heap.size + 1 + 1 + 1, 3, none⟩ = some (.string t.mod) ∧ wx.cell? ⟨w.heap.size + 1 + 1 + 1, 4, none⟩ = some (.string t.name) ∧ wx.cell? ⟨w.heap.size + 1 + 1 + 1, 5, none⟩ = some (.slice Pn t.names.length cP) ∧ wx.cell? ⟨w.heap.size + 1 + 1 + 1, 6, none⟩ = some (.slice Ps t.subs.length dP) ∧ wx.cell? ⟨w.heap.size + 1, 5, none⟩ = some (.slice (some ⟨gn, on, none⟩) r cB) ∧ wx.cell? ⟨w.heap.size + 1, 6, none⟩ = some (.slice (some ⟨g1, o1, none⟩) r cD) ∧ wx.cell? ⟨gn, on + k, none⟩ = some (.string s) ∧ wx.cell? ⟨g1, o1 + k * 7, none⟩ = some (.int .i64 y.kind) ∧ wx.cell? ⟨g1, o1 + k * 7 + 1, none⟩ = some (.string y.pkg) ∧ wx.cell? ⟨g1, o1 + k * 7 + 2, none⟩ = some (.int .i64 y.major) ∧ wx.cell? ⟨g1, o1 + k * 7 + 3, none⟩ = some (.string y.mod) ∧ wx.cell? ⟨g1, o1 + k * 7 + 4, none⟩ = some (.string y.name) ∧ wx.cell? ⟨g1, o1 + k * 7 + 5, none⟩ = some (.slice Gn y.names.length cG) ∧ wx.cell? ⟨g1, o1 + k * 7 + 6, none⟩ = some (.slice Gs y.subs.length dG)) := Lib.hid (fun wx hb => by
                    have hI := HIP.out.keep hb
                    have hE := HEL.out wx (below_over HBP.out hb)
                    have hA := HCB.out wx hI.below
                    have z0 := Lib.cell_of_heap hI.box 0
                    have z1 := Lib.cell_of_heap hI.box 1
                    have z2 := Lib.cell_of_heap hI.box 2
                    have z3 := Lib.cell_of_heap hI.box 3
                    have z4 := Lib.cell_of_heap hI.box 4
                    have z5 := Lib.cell_of_heap hI.box 5
                    have z6 := Lib.cell_of_heap hI.box 6
                    exact ⟨z0, z1, z2, z3, z4, z5, z6, hA.1, hA.2, hE⟩)
                  have CT := Lib.hid (fun (w' : World) (hb' : Below wp.heap.size wp w') => put_any (fun k => w0.heap.size ≤ k ∧ k < w.heap.size + 1 + 1 + 1 + 1) t s y [.int .i64 t.kind, .string t.pkg, .int .i64 t.major, .string t.mod, .string t.name, .slice Pn t.names.length cP, .slice Ps t.subs.length dP] [.int .i64 y.kind, .string y.pkg, .int .i64 y.major, .string y.mod, .string y.name, .slice Gn y.names.length cG, .slice Gs y.subs.length dG] w' (fun k hk => by have h1 := HIP.out.size; have h2 := hb'.size; omega) (HIP.out.keep hb').typ ((HY7.out.base (below_over HB0.out (below_over HBP.out hb')) (fun k hk => hk.1))) HGR.out.len (by have := HGR.out.cnt; have h1 := HN.out.1; have h2 := HRR.out.1; omega) HZ.out)
                  go_upto_region 37 with fail
                  have hH0 := KEEP.out wp.drew (Below.drew (Below.refl _ _))
                  refine AnyX.start (fun wx => wx.cell? ⟨w.heap.size + 1 + 1 + 1, 0, none⟩ = some (.int .i64 t.kind) ∧ wx.cell? ⟨w.heap.size + 1 + 1 + 1, 1, none⟩ = some (.string t.pkg) ∧ wx.cell? ⟨w.heap.size + 1 + 1 + 1, 2, none⟩ = some (.int .i64 t.major) ∧ wx.cell? ⟨w.heap.size + 1 + 1 + 1, 3, none⟩ = some (.string t.mod) ∧ wx.cell? ⟨w.heap.size + 1 + 1 + 1, 4, none⟩ = some (.string t.name) ∧ wx.cell? ⟨w.heap.size + 1 + 1 + 1, 5, none⟩ = some (.slice Pn t.names.length cP) ∧ wx.cell? ⟨w.heap.size + 1 + 1 + 1, 6, none⟩ = some (.slice Ps t.subs.length dP) ∧ wx.cell? ⟨w.heap.size + 1, 5, none⟩ = some (.slice (some ⟨gn, on, none⟩) r cB) ∧ wx.cell? ⟨w.heap.size + 1, 6, none⟩ = some (.slice (some ⟨g1, o1, none⟩) r cD) ∧ wx.cell? ⟨gn, on + k, none⟩ = some (.string s) ∧ wx.cell? ⟨g1, o1 + k * 7, none⟩ = some (.int .i64 y.kind) ∧ wx.cell? ⟨g1, o1 + k * 7 + 1, none⟩ = some (.string y.pkg) ∧ wx.cell? ⟨g1, o1 + k * 7 + 2, none⟩ = some (.int .i64 y.major) ∧ wx.cell? ⟨g1, o1 + k * 7 + 3, none⟩ = some (.string y.mod) ∧ wx.cell? ⟨g1, o1 + k * 7 + 4, none⟩ = some (.string y.name) ∧ wx.cell? ⟨g1, o1 + k * 7 + 5, none⟩ = some (.slice Gn y.names.length cG) ∧ wx.cell? ⟨g1, o1 + k * 7 + 6, none⟩ = some (.slice Gs y.subs.length dG)) (fun k => k == 12) (by kernel_rfl) ?_
                  refine AnyX.take (i := 0) (v := ?_) rfl (by kernel_rfl) (by kernel_rfl) (by kernel_rfl) (by kernel_rfl) (by kernel_rfl) (fun _ _ _ h => h) hH0 (Or.inl ⟨by rfl, ?_⟩) ?_
                  rotate_left
                  · (intro wS hS; (try obtain ⟨b0, b1, b2, b3, b4, b5, b6, m0, m1, n0, c0, c1, c2, c3, c4, c5', c6'⟩ := hS); go_simp; try with_reducible rfl)
                  simp only [List.getElem_toArray, List.getElem_cons_succ, List.getElem_cons_zero]
                  simp only [Act.put, List.setIfInBounds_toArray]
                  simp only [List.set_cons_zero, List.set_cons_succ]
                  refine AnyX.move (i := 1) (v := ?_) rfl (by kernel_rfl) (by kernel_rfl) (by kernel_rfl) (by kernel_rfl) (fun _ _ _ h => h) (Or.inl ⟨by rfl, ?_⟩) ?_
                  rotate_left
                  · (intro wS _; go_simp; try with_reducible rfl)
                  simp only [List.getElem_toArray, List.getElem_cons_succ, List.getElem_cons_zero]
                  simp only [Act.put, List.setIfInBounds_toArray]
                  simp only [List.set_cons_zero, List.set_cons_succ]
                  refine AnyX.take (i := 2) (v := ?_) rfl (by kernel_rfl) (by kernel_rfl) (by kernel_rfl) (by kernel_rfl) (by kernel_rfl) (fun _ _ _ h => h) hH0 (Or.inl ⟨by rfl, ?_⟩) ?_
                  rotate_left
                  · (intro wS hS; (try obtain ⟨b0, b1, b2, b3, b4, b5, b6, m0, m1, n0, c0, c1, c2, c3, c4, c5', c6'⟩ := hS); go_simp; try with_reducible rfl)
                  simp only [List.getElem_toArray, List.getElem_cons_succ, List.getElem_cons_zero]
                  simp only [Act.put, List.setIfInBounds_toArray]
                  simp only [List.set_cons_zero, List.set_cons_succ]
                  refine AnyX.move (i := 3) (v := ?_) rfl (by kernel_rfl) (by kernel_rfl) (by kernel_rfl) (by kernel_rfl) (fun _ _ _ h => h) (Or.inl ⟨by rfl, ?_⟩) ?_
                  rotate_left
                  · (intro wS _; go_simp; try with_reducible rfl)
                  simp only [List.getElem_toArray, List.getElem_cons_succ, List.getElem_cons_zero]
                  simp only [Act.put, List.setIfInBounds_toArray]
                  simp only [List.set_cons_zero, List.set_cons_succ]
                  refine AnyX.move (i := 4) (v := ?_) rfl (by kernel_rfl) (by kernel_rfl) (by kernel_rfl) (by kernel_rfl) (fun _ _ _ h => h) (Or.inl ⟨by rfl, ?_⟩) ?_
                  rotate_left
                  · (intro wS _; go_simp; try with_reducible rfl)
                  simp only [List.getElem_toArray, List.getElem_cons_succ, List.getElem_cons_zero]
                  simp only [Act.put, List.setIfInBounds_toArray]
                  simp only [List.set_cons_zero, List.set_cons_succ]
                  refine AnyX.take (i := 5) (v := ?_) rfl (by kernel_rfl) (by kernel_rfl) (by kernel_rfl) (by kernel_rfl) (by kernel_rfl) (fun _ _ _ h => h) hH0 (Or.inl ⟨by rfl, ?_⟩) ?_
                  rotate_left
                  · (intro wS hS; (try obtain ⟨b0, b1, b2, b3, b4, b5, b6, m0, m1, n0, c0, c1, c2, c3, c4, c5', c6'⟩ := hS); go_simp; try with_reducible rfl)
                  simp only [List.getElem_toArray, List.getElem_cons_succ, List.getElem_cons_zero]
                  simp only [Act.put, List.setIfInBounds_toArray]
                  simp only [List.set_cons_zero, List.set_cons_succ]
                  refine AnyX.move (i := 6) (v := ?_) rfl (by kernel_rfl) (by kernel_rfl) (by kernel_rfl) (by kernel_rfl) (fun _ _ _ h => h) (Or.inl ⟨by rfl, ?_⟩) ?_
                  rotate_left
                  · (intro wS _; go_simp; try with_reducible rfl)
                  simp only [List.getElem_toArray, List.getElem_cons_succ, List.getElem_cons_zero]
                  simp only [Act.put, List.setIfInBounds_toArray]
                  simp only [List.set_cons_zero, List.set_cons_succ]
                  refine AnyX.take (i := 7) (v := ?_) rfl (by kernel_rfl) (by kernel_rfl) (by kernel_rfl) (by kernel_rfl) (by kernel_rfl) (fun _ _ _ h => h) hH0 (Or.inl ⟨by rfl, ?_⟩) ?_
                  rotate_left
                  · (intro wS hS; (try obtain ⟨b0, b1, b2, b3, b4, b5, b6, m0, m1, n0, c0, c1, c2, c3, c4, c5', c6'⟩ := hS); go_simp; try with_reducible rfl)
                  simp only [List.getElem_toArray, List.getElem_cons_succ, List.getElem_cons_zero]
                  simp only [Act.put, List.setIfInBounds_toArray]
                  simp only [List.set_cons_zero, List.set_cons_succ]
                  refine AnyX.move (i := 8) (v := ?_) rfl (by kernel_rfl) (by kernel_rfl) (by kernel_rfl) (by kernel_rfl) (fun _ _ _ h => h) (Or.inl ⟨by rfl, ?_⟩) ?_
                  rotate_left
                  · (intro wS _; go_simp; try with_reducible rfl)
                  simp only [List.getElem_toArray, List.getElem_cons_succ, List.getElem_cons_zero]
                  simp only [Act.put, List.setIfInBounds_toArray]
                  simp only [List.set_cons_zero, List.set_cons_succ]
                  refine AnyX.move (i := 9) (v := ?_) rfl (by kernel_rfl) (by kernel_rfl) (by kernel_rfl) (by kernel_rfl) (fun _ _ _ h => h) (Or.inl ⟨by rfl, ?_⟩) ?_
                  rotate_left
                  · (intro wS _; go_simp; try with_reducible rfl)
                  simp only [List.getElem_toArray, List.getElem_cons_succ, List.getElem_cons_zero]
                  simp only [Act.put, List.setIfInBounds_toArray]
                  simp only [List.set_cons_zero, List.set_cons_succ]
                  refine AnyX.take (i := 10) (v := ?_) rfl (by kernel_rfl) (by kernel_rfl) (by kernel_rfl) (by kernel_rfl) (by kernel_rfl) (fun _ _ _ h => h) hH0 (Or.inl ⟨by rfl, ?_⟩) ?_
                  rotate_left
                  · (intro wS hS; (try obtain ⟨b0, b1, b2, b3, b4, b5, b6, m0, m1, n0, c0, c1, c2, c3, c4, c5', c6'⟩ := hS); go_simp; try with_reducible rfl)
                  simp only [List.getElem_toArray, List.getElem_cons_succ, List.getElem_cons_zero]
                  simp only [Act.put, List.setIfInBounds_toArray]
                  simp only [List.set_cons_zero, List.set_cons_succ]
                  refine AnyX.go 11 (by kernel_rfl) rfl rfl (fun K hK => ?_)
                  simp only [List.getElem_toArray, List.getElem_cons_succ, List.getElem_cons_zero]
                  go_simp
                  refine (CT.out wp.drew (Below.drew (Below.refl _ _))).mono ?_
                  rintro e w2 ⟨l2, rfl, hT2, hb2⟩
                  have hB2 : Below wp.heap.size wp w2 := Below.trans (Below.drew (Below.refl wp.heap.size wp)) hb2
                  have X2 := (HIP.out.keep hB2).box
                  have NEW := Lib.hid (HIP.out.put HS3.out hB2 hT2 hw00)
                  obtain ⟨Qn, cQ, Qs, dQ, rfl, -⟩ := hT2.parts
                  simp only []
                  refine hK.out _ _ (fun hoff _ => KEEP.out w2 hB2) ?_
                  clear hK
                  try simp only [Act.put, List.setIfInBounds_toArray]
                  try simp only [List.set_cons_zero, List.set_cons_succ]
                  refine AnyX.go 12 (by kernel_rfl) rfl rfl (fun K hK => ?_)
                  simp only [List.getElem_toArray, List.getElem_cons_succ, List.getElem_cons_zero]
                  refine wp_store_row 25 (.tmp 8) (.tmp 185) rfl (w.heap.size + 1 + 1 + 1) #[.int .i64 (putT t s y).kind, .string (putT t s y).pkg, .int .i64 (putT t s y).major, .string (putT t s y).mod, .string (putT t s y).name, .slice Qn (putT t s y).names.length cQ, .slice Qs (putT t s y).subs.length dQ] rfl rfl _ _ X2 tySize rfl tyOne ?_
                  refine hK.out _ _ (fun hoff _ => absurd hoff (by decide)) ?_
                  clear hK
                  try simp only [Act.put, List.setIfInBounds_toArray]
                  try simp only [List.set_cons_zero, List.set_cons_succ]
                  refine AnyX.done (by kernel_rfl) ?_ _
                  clear CT KEEP X2 hH0
                  have HPN := Lib.hid (HP.out.put GB.out HS.out HYI.out rfl HNOX.out)
                  go_wp2_with fail
                  go_roundw
                  case rel => exact ⟨k + 1, _, _, by omega, by go_num, NEW, HPN⟩
                  case measure => simp [intOf]; omega
              | some j =>
                as_aux_lemma =>
                  have hjs := ofB_some hj
                  have hjl := (List.getElem?_eq_some_iff.1 hjs).1
                  obtain ⟨x', hx'⟩ : ∃ x', a.subs[j]? = some x' := at_some (by rw [← HN.out.2, HN.out.1]; exact hjl)
                  have HPN := Lib.hid (HP.out.skip HS.out (fun _ => ⟨x', j, hjs, hx'⟩))
                  obtain rfl : J = (j : Int) := by rw [HJ.out, hj]; rfl
                  have hj2 : ¬ (j : Int) < 0 := by omega
                  clear hj hjs hjl hx'
                  go_wp2_with fail
                  go_roundw
                  case rel => exact ⟨k + 1, t, _, by omega, by go_num, HIP, HPN⟩
                  case measure => simp [intOf]; omega
          · have HJE : Hid (RbJ up al a b b.names.length t) := Lib.hid (by have e : k = r := by omega
                                                                           rw [← HRR.out.1, ← e]; exact HP.out)
            have HEND := Lib.hid (HJE.out.end_ GA.out GB.out H56.out HK.out HAL.out.1 HAL.out.2)
            obtain ⟨Pn, cP, Ps, dP, rfl, -⟩ := HI.out.typ.parts
            clear HP HJE x5 x6 y6
            have HQT : Hid (RbOut w0 up a b w (.returned (.tuple #[.agg #[.int .i64 t.kind, .string t.pkg, .int .i64 t.major, .string t.mod, .string t.name, .slice Pn t.names.length cP, .slice Ps t.subs.length dP], .bool true])) (wo.drew.setRow (w.heap.size + 1 + 1) #[.int .i64 t.kind, .string t.pkg, .int .i64 t.major, .string t.mod, .string t.name, .slice Pn t.names.length cP, .slice Ps t.subs.length dP])) := Lib.hid ((HI.out.keep (Below.drew (Below.refl _ _))).done HB3.out hw00 true (fun _ => HEND.out.1 (.inl (by have := HQ5.out; simpa using this.symm))) (fun h => by cases h))
            have X7 := HR.out wo.drew (below_over HI.out.below (Below.drew (Below.refl _ _)))
            have hH0 : (fun wx : World => wx.cell? ⟨w.heap.size + 1 + 1 + 1, 0, none⟩ = some (.int .i64 t.kind) ∧ wx.cell? ⟨w.heap.size + 1 + 1 + 1, 1, none⟩ = some (.string t.pkg) ∧ wx.cell? ⟨w.heap.size + 1 + 1 + 1, 2, none⟩ = some (.int .i64 t.major) ∧ wx.cell? ⟨w.heap.size + 1 + 1 + 1, 3, none⟩ = some (.string t.mod) ∧ wx.cell? ⟨w.heap.size + 1 + 1 + 1, 4, none⟩ = some (.string t.name) ∧ wx.cell? ⟨w.heap.size + 1 + 1 + 1, 5, none⟩ = some (.slice Pn t.names.length cP) ∧ wx.cell? ⟨w.heap.size + 1 + 1 + 1, 6, none⟩ = some (.slice Ps t.subs.length dP) ∧ wx.cell? ⟨w.heap.size, 0, none⟩ = some (.int .i64 a.kind)) wo.drew := by
              have hI := HI.out.keep (Below.drew (Below.refl _ _))
              have z0 := Lib.cell_of_heap hI.box 0
              have z1 := Lib.cell_of_heap hI.box 1
              have z2 := Lib.cell_of_heap hI.box 2
              have z3 := Lib.cell_of_heap hI.box 3
              have z4 := Lib.cell_of_heap hI.box 4
              have z5 := Lib.cell_of_heap hI.box 5
              have z6 := Lib.cell_of_heap hI.box 6
              exact ⟨z0, z1, z2, z3, z4, z5, z6, HXK.out _ hI.below⟩
            have hB38 : (fun wx : World => wx.cell? ⟨w.heap.size + 1 + 1 + 1, 0, none⟩ = some (.int .i64 t.kind) ∧ wx.cell? ⟨w.heap.size + 1 + 1 + 1, 1, none⟩ = some (.string t.pkg) ∧ wx.cell? ⟨w.heap.size + 1 + 1 + 1, 2, none⟩ = some (.int .i64 t.major) ∧ wx.cell? ⟨w.heap.size + 1 + 1 + 1, 3, none⟩ = some (.string t.mod) ∧ wx.cell? ⟨w.heap.size + 1 + 1 + 1, 4, none⟩ = some (.string t.name) ∧ wx.cell? ⟨w.heap.size + 1 + 1 + 1, 5, none⟩ = some (.slice Pn t.names.length cP) ∧ wx.cell? ⟨w.heap.size + 1 + 1 + 1, 6, none⟩ = some (.slice Ps t.subs.length dP) ∧ wx.cell? ⟨w.heap.size, 0, none⟩ = some (.int .i64 a.kind)) (wo.drew.setRow (w.heap.size + 1 + 1) #[.int .i64 t.kind, .string t.pkg, .int .i64 t.major, .string t.mod, .string t.name, .slice Pn t.names.length cP, .slice Ps t.subs.length dP]) := by
              have hI := (HI.out.keep (Below.drew (Below.refl _ _)))
              have hx : (wo.drew.setRow (w.heap.size + 1 + 1) #[.int .i64 t.kind, .string t.pkg, .int .i64 t.major, .string t.mod, .string t.name, .slice Pn t.names.length cP, .slice Ps t.subs.length dP]).heap[w.heap.size + 1 + 1 + 1]? = some (.cells #[.int .i64 t.kind, .string t.pkg, .int .i64 t.major, .string t.mod, .string t.name, .slice Pn t.names.length cP, .slice Ps t.subs.length dP] 25 (0, 0)) := (setRow_other _ _ _ _ (by omega)).trans hI.box
              have hy : (wo.drew.setRow (w.heap.size + 1 + 1) #[.int .i64 t.kind, .string t.pkg, .int .i64 t.major, .string t.mod, .string t.name, .slice Pn t.names.length cP, .slice Ps t.subs.length dP]).heap[w.heap.size]? = wo.drew.heap[w.heap.size]? := setRow_other _ _ _ _ (by omega)
              exact ⟨Lib.cell_of_heap hx 0, Lib.cell_of_heap hx 1, Lib.cell_of_heap hx 2, Lib.cell_of_heap hx 3, Lib.cell_of_heap hx 4, Lib.cell_of_heap hx 5, Lib.cell_of_heap hx 6, (World.cell?_of_block (a := ⟨w.heap.size, 0, none⟩) hy).trans (HXK.out _ hI.below)⟩
            have HX8 := Lib.hid X7
            go_upto_region 38 with fail
            clear y5
            go_cut [7] (fun s7 wx => s7 = .bool true ∧ wx = wo.drew.setRow (w.heap.size + 1 + 1) #[.int .i64 t.kind, .string t.pkg, .int .i64 t.major, .string t.mod, .string t.name, .slice Pn t.names.length cP, .slice Ps t.subs.length dP])
            case first =>
              refine AnyX.start (fun wx => wx.cell? ⟨w.heap.size + 1 + 1 + 1, 0, none⟩ = some (.int .i64 t.kind) ∧ wx.cell? ⟨w.heap.size + 1 + 1 + 1, 1, none⟩ = some (.string t.pkg) ∧ wx.cell? ⟨w.heap.size + 1 + 1 + 1, 2, none⟩ = some (.int .i64 t.major) ∧ wx.cell? ⟨w.heap.size + 1 + 1 + 1, 3, none⟩ = some (.string t.mod) ∧ wx.cell? ⟨w.heap.size + 1 + 1 + 1, 4, none⟩ = some (.string t.name) ∧ wx.cell? ⟨w.heap.size + 1 + 1 + 1, 5, none⟩ = some (.slice Pn t.names.length cP) ∧ wx.cell? ⟨w.heap.size + 1 + 1 + 1, 6, none⟩ = some (.slice Ps t.subs.length dP) ∧ wx.cell? ⟨w.heap.size, 0, none⟩ = some (.int .i64 a.kind)) (fun _ => false) (by kernel_rfl) ?_
              refine AnyX.take (i := 0) (v := ?_) rfl (by kernel_rfl) (by kernel_rfl) (by kernel_rfl) (by kernel_rfl) (by kernel_rfl) (fun _ _ _ h => h) hH0 (Or.inl ⟨by rfl, ?_⟩) ?_
              rotate_left
              · (intro wS hS; (try obtain ⟨b0, b1, b2, b3, b4, b5, b6, m0⟩ := hS); go_simp; try with_reducible rfl)
              simp only [List.getElem_toArray, List.getElem_cons_succ, List.getElem_cons_zero]
              simp only [Act.put, List.setIfInBounds_toArray]
              simp only [List.set_cons_zero, List.set_cons_succ]
              refine AnyX.move (i := 1) (v := ?_) rfl (by kernel_rfl) (by kernel_rfl) (by kernel_rfl) (by kernel_rfl) (fun _ _ _ h => h) (Or.inl ⟨by rfl, ?_⟩) ?_
              rotate_left
              · (intro wS _; go_simp; try with_reducible rfl)
              simp only [List.getElem_toArray, List.getElem_cons_succ, List.getElem_cons_zero]
              simp only [Act.put, List.setIfInBounds_toArray]
              simp only [List.set_cons_zero, List.set_cons_succ]
              refine AnyX.take (i := 2) (v := ?_) rfl (by kernel_rfl) (by kernel_rfl) (by kernel_rfl) (by kernel_rfl) (by kernel_rfl) (fun _ _ _ h => h) hH0 (Or.inl ⟨by rfl, ?_⟩) ?_
              rotate_left
              · (intro wS hS; (try obtain ⟨b0, b1, b2, b3, b4, b5, b6, m0⟩ := hS); go_simp; try with_reducible rfl)
              simp only [List.getElem_toArray, List.getElem_cons_succ, List.getElem_cons_zero]
              simp only [Act.put, List.setIfInBounds_toArray]
              simp only [List.set_cons_zero, List.set_cons_succ]
              refine AnyX.move (i := 3) (v := ?_) rfl (by kernel_rfl) (by kernel_rfl) (by kernel_rfl) (by kernel_rfl) (fun _ _ _ h => h) (Or.inl ⟨by rfl, ?_⟩) ?_
              rotate_left
              · (intro wS _; go_simp; try with_reducible rfl)
              simp only [List.getElem_toArray, List.getElem_cons_succ, List.getElem_cons_zero]
              simp only [Act.put, List.setIfInBounds_toArray]
              simp only [List.set_cons_zero, List.set_cons_succ]
              refine AnyX.move (i := 4) (v := ?_) rfl (by kernel_rfl) (by kernel_rfl) (by kernel_rfl) (by kernel_rfl) (fun _ _ _ h => h) (Or.inl ⟨by rfl, ?_⟩) ?_
              rotate_left
              · (intro wS _; go_simp; try with_reducible rfl)
              simp only [List.getElem_toArray, List.getElem_cons_succ, List.getElem_cons_zero]
              simp only [Act.put, List.setIfInBounds_toArray]
              simp only [List.set_cons_zero, List.set_cons_succ]
              refine AnyX.move (i := 5) (v := undef) rfl (by kernel_rfl) (by kernel_rfl) (by kernel_rfl) (by kernel_rfl) (fun _ _ _ h => h) (Or.inr ⟨by rfl, rfl⟩) ?_
              simp only [List.getElem_toArray, List.getElem_cons_succ, List.getElem_cons_zero]
              simp only [Act.put, List.setIfInBounds_toArray]
              simp only [List.set_cons_zero, List.set_cons_succ]
              refine AnyX.move (i := 6) (v := undef) rfl (by kernel_rfl) (by kernel_rfl) (by kernel_rfl) (by kernel_rfl) (fun _ _ _ h => h) (Or.inr ⟨by rfl, rfl⟩) ?_
              simp only [List.getElem_toArray, List.getElem_cons_succ, List.getElem_cons_zero]
              simp only [Act.put, List.setIfInBounds_toArray]
              simp only [List.set_cons_zero, List.set_cons_succ]
              refine AnyX.move (i := 7) (v := undef) rfl (by kernel_rfl) (by kernel_rfl) (by kernel_rfl) (by kernel_rfl) (fun _ _ _ h => h) (Or.inr ⟨by rfl, rfl⟩) ?_
              simp only [List.getElem_toArray, List.getElem_cons_succ, List.getElem_cons_zero]
              simp only [Act.put, List.setIfInBounds_toArray]
              simp only [List.set_cons_zero, List.set_cons_succ]
              refine AnyX.move (i := 8) (v := undef) rfl (by kernel_rfl) (by kernel_rfl) (by kernel_rfl) (by kernel_rfl) (fun _ _ _ h => h) (Or.inr ⟨by rfl, rfl⟩) ?_
              simp only [List.getElem_toArray, List.getElem_cons_succ, List.getElem_cons_zero]
              simp only [Act.put, List.setIfInBounds_toArray]
              simp only [List.set_cons_zero, List.set_cons_succ]
              refine AnyX.move (i := 9) (v := ?_) rfl (by kernel_rfl) (by kernel_rfl) (by kernel_rfl) (by kernel_rfl) (fun _ _ _ h => h) (Or.inl ⟨by rfl, ?_⟩) ?_
              rotate_left
              · (intro wS _; go_simp; try with_reducible rfl)
              simp only [List.getElem_toArray, List.getElem_cons_succ, List.getElem_cons_zero]
              simp only [Act.put, List.setIfInBounds_toArray]
              simp only [List.set_cons_zero, List.set_cons_succ]
              refine AnyX.go 10 (by kernel_rfl) rfl rfl (fun K hK => ?_)
              simp only [List.getElem_toArray, List.getElem_cons_succ, List.getElem_cons_zero]
              refine wp_store_row 25 (.tmp 6) (.tmp 186) rfl (w.heap.size + 1 + 1) #[.int .i64 t.kind, .string t.pkg, .int .i64 t.major, .string t.mod, .string t.name, .slice Pn t.names.length cP, .slice Ps t.subs.length dP] rfl rfl _ _ X7 tySize rfl tyOne ?_
              refine hK.out _ _ (fun hoff _ => hB38) ?_
              clear hK
              try simp only [Act.put, List.setIfInBounds_toArray]
              try simp only [List.set_cons_zero, List.set_cons_succ]
              refine AnyX.move (i := 11) (v := ?_) rfl (by kernel_rfl) (by kernel_rfl) (by kernel_rfl) (by kernel_rfl) (fun _ _ _ h => h) (Or.inl ⟨by rfl, ?_⟩) ?_
              rotate_left
              · (intro wS _; go_simp; try with_reducible rfl)
              simp only [List.getElem_toArray, List.getElem_cons_succ, List.getElem_cons_zero]
              simp only [Act.put, List.setIfInBounds_toArray]
              simp only [List.set_cons_zero, List.set_cons_succ]
              refine AnyX.done (by kernel_rfl) ?_ _
              go_wp2_with fail
              go_meet
              exact ⟨by first | rfl | rw [HQQ.out], rfl⟩
            case rest =>
              obtain ⟨rfl, rfl⟩ := hcut
              go_wp2_with fail
              exact ret_agg (fn := Try.f17) (vs := [.int .i64 t.kind, .string t.pkg, .int .i64 t.major, .string t.mod, .string t.name, .slice Pn t.names.length cP, .slice Ps t.subs.length dP]) (b := w.heap.size + 1 + 1) rfl rfl rfl Try.underlying25 (by kernel_rfl) (cell7 (setRow_heap _ (w.heap.size + 1 + 1) _ _ _ _ HX8.out)) rfl HQT.out
set_option maxRecDepth 100000 in
set_option maxHeartbeats 32000000 in
theorem rbound_row6 (up : Bool) (w0 : World) (a b : Ty) (la lb : List Value) (w : World) (ga : GoodT a) (gb : GoodT b) (hk : a.kind = b.kind) (hkk : a.kind =  6) (h9a : many a ≤ 9000) (h9b : many b ≤ 9000) (hTa : TyAt w0 la a) (hTb : TyAt w0 lb b) (hw0 : Below w0.heap.size w0 w)
    (IH : ∀ x y, x ∈ a.subs → y ∈ b.subs → ∀ up', RbCall w0 up' x y) :
    Calls Try.prog 17 #[.agg la.toArray, .agg lb.toArray, .bool up] w (RbOut w0 up a b w) := by
  have h56 : a.kind = 5 ∨ a.kind = 6 := by omega
  have HKK := Lib.hid hkk
  clear hkk
  have h56b : b.kind = 5 ∨ b.kind = 6 := by rw [← hk]; exact h56
  have HIH := Lib.hid IH
  have H56 := Lib.hid h56
  obtain ⟨n, hn⟩ : ∃ n, n = a.names.length := ⟨_, rfl⟩
  obtain ⟨r, hr⟩ : ∃ r, r = b.names.length := ⟨_, rfl⟩
  have hn9 : n ≤ 9000 := by rw [hn]; exact row_small ga h56 h9a
  have hr9 : r ≤ 9000 := by rw [hr]; exact row_small gb h56b h9b
  have hns : n = a.subs.length := by rw [hn, (ga.row h56).2.1]
  have hrs : r = b.subs.length := by rw [hr, (gb.row h56b).2.1]
  have HN := Lib.hid (And.intro hn hns)
  have HRR := Lib.hid (And.intro hr hrs)
  have q4 : (a.kind == 4) = false := by rcases h56 with e | e <;> rw [e] <;> rfl
  have q7 : (a.kind == 7) = false := by rcases h56 with e | e <;> rw [e] <;> rfl
  clear hn hr hns hrs IH h9a h9b h56b
  have HTa := Lib.hid hTa
  have HTb := Lib.hid hTb
  have HW0 := Lib.hid hw0
  have GA := Lib.hid ga
  have GB := Lib.hid gb
  have HK := Lib.hid hk
  obtain ⟨An, cA, As, cS, rfl, -, -, -, -, -, hNa, hSa⟩ := hTa.parts
  obtain ⟨Bn, cB, Bs, cD, rfl, -, -, -, -, -, hNb, hSb⟩ := hTb.parts
  have HNA := Lib.hid hNa
  have HNB := Lib.hid hNb
  have HSA := Lib.hid hSa
  have HSB := Lib.hid hSb
  obtain ⟨W2, hW2, B2, O0, O1, hl2⟩ := two_boxes w #[.int .i64 a.kind, .string a.pkg, .int .i64 a.major, .string a.mod, .string a.name, .slice An a.names.length cA, .slice As a.subs.length cS] #[.int .i64 b.kind, .string b.pkg, .int .i64 b.major, .string b.mod, .string b.name, .slice Bn b.names.length cB, .slice Bs b.subs.length cD] 25 25
  have s2 : W2.heap.size = w.heap.size + 1 + 1 := by rw [hW2]; simp
  obtain ⟨W3, hW3⟩ : ∃ W3, W3 = W2.alloc (.cells #[.int .i64 0, .string ⟨#[]⟩, .int .i64 0, .string ⟨#[]⟩, .string ⟨#[]⟩, .slice none 0 0, .slice none 0 0] 25) := ⟨_, rfl⟩
  have B3 : Below W2.heap.size W2 W3 := by rw [hW3]; exact below_new (Below.refl _ _) _
  have s3 : W3.heap.size = w.heap.size + 1 + 1 + 1 := by rw [hW3]; simp [s2]
  have O2 : W3.heap[w.heap.size + 1 + 1]? = some (.cells #[.int .i64 0, .string ⟨#[]⟩, .int .i64 0, .string ⟨#[]⟩, .string ⟨#[]⟩, .slice none 0 0, .slice none 0 0] 25 (0, 0)) := by rw [hW3, ← s2]; exact heap_alloc_new W2 _
  have HB3 : Hid (Below w.heap.size w W3) := Lib.hid (below_over B2 B3)
  have HXA : Hid (∀ wx, Below W3.heap.size W3 wx → wx.heap[w.heap.size]? = some (.cells #[.int .i64 a.kind, .string a.pkg, .int .i64 a.major, .string a.mod, .string a.name, .slice An a.names.length cA, .slice As a.subs.length cS] 25 (0, 0))) := Lib.hid (fun wx hb => (hb.block _ (by omega)).trans ((B3.block _ (by omega)).trans O0))
  have HXB : Hid (∀ wx, Below W3.heap.size W3 wx → wx.heap[w.heap.size + 1]? = some (.cells #[.int .i64 b.kind, .string b.pkg, .int .i64 b.major, .string b.mod, .string b.name, .slice Bn b.names.length cB, .slice Bs b.subs.length cD] 25 (0, 0))) := Lib.hid (fun wx hb => (hb.block _ (by omega)).trans ((B3.block _ (by omega)).trans O1))
  have HR : Hid (∀ wx, Below W3.heap.size W3 wx → wx.heap[w.heap.size + 1 + 1]? = some (.cells #[.int .i64 0, .string ⟨#[]⟩, .int .i64 0, .string ⟨#[]⟩, .string ⟨#[]⟩, .slice none 0 0, .slice none 0 0] 25 (0, 0))) := Lib.hid (fun wx hb => (hb.block _ (by omega)).trans O2)
  have HW : Hid (((w.alloc (.cells #[.int .i64 a.kind, .string a.pkg, .int .i64 a.major, .string a.mod, .string a.name, .slice An a.names.length cA, .slice As a.subs.length cS] 25)).alloc (.cells #[.int .i64 b.kind, .string b.pkg, .int .i64 b.major, .string b.mod, .string b.name, .slice Bn b.names.length cB, .slice Bs b.subs.length cD] 25)).alloc (.cells #[.int .i64 0, .string ⟨#[]⟩, .int .i64 0, .string ⟨#[]⟩, .string ⟨#[]⟩, .slice none 0 0, .slice none 0 0] 25) = W3) := Lib.hid (by rw [hW3, hW2])
  have HS3 := Lib.hid s3
  have hrb : w.heap.size ≤ w.heap.size + 1 + 1 := by omega
  have X4 : (W3.alloc (.cells #[.int .i64 0, .string ⟨#[]⟩, .int .i64 0, .string ⟨#[]⟩, .string ⟨#[]⟩, .slice none 0 0, .slice none 0 0] 25)).heap[W3.heap.size]? = some (.cells #[.int .i64 0, .string ⟨#[]⟩, .int .i64 0, .string ⟨#[]⟩, .string ⟨#[]⟩, .slice none 0 0, .slice none 0 0] 25 (0, 0)) := heap_alloc_new W3 _
  obtain ⟨W4, hW4⟩ : ∃ W4, W4 = (W3.alloc (.cells #[.int .i64 0, .string ⟨#[]⟩, .int .i64 0, .string ⟨#[]⟩, .string ⟨#[]⟩, .slice none 0 0, .slice none 0 0] 25)).setRow W3.heap.size #[.int .i64 a.kind, .string ⟨#[]⟩, .int .i64 0, .string ⟨#[]⟩, .string ⟨#[]⟩, .slice none 0 0, .slice none 0 0] := ⟨_, rfl⟩
  have B4 : Below W3.heap.size W3 W4 := by rw [hW4]; exact setRow_below (below_new (Below.refl _ _) _) (Nat.le_refl _) _
  have s4 : W4.heap.size = w.heap.size + 1 + 1 + 1 + 1 := by rw [hW4, size_setRow]; simp [s3]
  have O4 : W4.heap[w.heap.size + 1 + 1 + 1]? = some (.cells #[.int .i64 a.kind, .string ⟨#[]⟩, .int .i64 0, .string ⟨#[]⟩, .string ⟨#[]⟩, .slice none 0 0, .slice none 0 0] 25 (0, 0)) := by rw [hW4, ← s3]; exact setRow_heap _ _ _ _ _ _ X4
  have HB4 := Lib.hid B4
  have HW4 := Lib.hid hW4
  have HS4 := Lib.hid s4
  have HO4 := Lib.hid O4
  have HCA : Hid (∀ wx, Below W3.heap.size W3 wx → wx.cell? ⟨w.heap.size, 5, none⟩ = some (.slice An n cA) ∧ wx.cell? ⟨w.heap.size, 6, none⟩ = some (.slice As n cS)) := Lib.hid (fun wx hb => by
    refine ⟨?_, ?_⟩
    · rw [HN.out.1]; exact Lib.cell_of_heap (HXA.out wx hb) 5
    · rw [HN.out.2]; exact Lib.cell_of_heap (HXA.out wx hb) 6)
  have HCB : Hid (∀ wx, Below W3.heap.size W3 wx → wx.cell? ⟨w.heap.size + 1, 5, none⟩ = some (.slice Bn r cB) ∧ wx.cell? ⟨w.heap.size + 1, 6, none⟩ = some (.slice Bs r cD)) := Lib.hid (fun wx hb => by
    refine ⟨?_, ?_⟩
    · rw [HRR.out.1]; exact Lib.cell_of_heap (HXB.out wx hb) 5
    · rw [HRR.out.2]; exact Lib.cell_of_heap (HXB.out wx hb) 6)
  have HXK : Hid (∀ wx, Below W3.heap.size W3 wx → wx.cell? ⟨w.heap.size, 0, none⟩ = some (.int .i64 a.kind)) := Lib.hid (fun wx hb => Lib.cell_of_heap (HXA.out wx hb) 0)
  have START : Hid (RbW w0 w W3 (.mk a.kind ⟨#[]⟩ 0 ⟨#[]⟩ ⟨#[]⟩ [] []) [.int .i64 a.kind, .string ⟨#[]⟩, .int .i64 0, .string ⟨#[]⟩, .string ⟨#[]⟩, .slice none 0 0, .slice none 0 0] W4) := Lib.hid ⟨B4, by omega, O4, ty_made (t := .mk a.kind ⟨#[]⟩ 0 ⟨#[]⟩ ⟨#[]⟩ [] []) (by show (0 : Nat) ≤ _; decide) (by show (0 : Nat) ≤ _; decide) (by show (0 : Nat) ≤ _; decide) (by show (0 : Nat) ≤ _; decide) (by show (0 : Nat) ≤ _; decide) (by show (0 : Nat) ≤ _; decide) (fun i s h => by simp [Ty.names] at h) (fun i s h => by simp [Ty.subs] at h)⟩
  have hw00 : w0.heap.size ≤ w.heap.size := hw0.size
  obtain ⟨q5, hq5⟩ : ∃ q5, q5 = (a.kind == 5) := ⟨_, rfl⟩
  obtain ⟨q6, hq6⟩ : ∃ q6, q6 = (a.kind == 6) := ⟨_, rfl⟩
  have HQ5 := Lib.hid hq5
  have HQ6 := Lib.hid hq6
  have q56 : Hid ((q5 = true ∧ q6 = false) ∨ (q5 = false ∧ q6 = true)) := Lib.hid (by
    rcases h56 with e | e <;> rw [hq5, hq6, e]
    · exact .inl ⟨rfl, rfl⟩
    · exact .inr ⟨rfl, rfl⟩)
  have hq5' := hq5.symm
  have hq6' := hq6.symm
  clear hW2 hW3 hW4 B2 B3 B4 O0 O1 O2 O4 s2 s3 s4 hl2 hTa hTb ga gb hk hw0 hNa hSa hNb hSb h56 hq5 hq6
  have e1 : (a.kind != b.kind) = false := by rw [HK.out]; simp
  have x0 := Lib.cell_of_heap (HXA.out W3 (Below.refl _ _)) 0
  have y0 := Lib.cell_of_heap (HXB.out W3 (Below.refl _ _)) 0
  simp at x0 y0
  go_enter Try.func17, Try.ntmps17
  go_upto_region 1 with fail
  rw [HW.out]
  clear HW
  go_upto_region 4 with (first | (((with_reducible refine wpList_putRow 25 (W3.heap.size) #[.int .i64 a.kind, .string ⟨#[]⟩, .int .i64 0, .string ⟨#[]⟩, .string ⟨#[]⟩, .slice none 0 0, .slice none 0 0] _ _ X4 ?_ ?_ ?_ ?_ ?_ ?_); exact tySize; rfl; exact tyOne; (focus (first | (go_simp; done) | rfl)); (focus (first | (go_simp; done) | rfl)))))
  rw [← HW4.out, HS3.out]
  clear X4 HW4 x0 y0
  simp only [Act.put]
  obtain ⟨al, hal⟩ : ∃ al, al = (q6 == up) := ⟨_, rfl⟩
  have HAL : Hid ((al = true → wins a.kind up) ∧ (al = false → loses a.kind up)) := Lib.hid (by
    have hk5 : q5 = true → a.kind = 5 := fun e => by rw [HQ5.out] at e; simpa using e
    have hk6 : q6 = true → a.kind = 6 := fun e => by rw [HQ6.out] at e; simpa using e
    rcases q56.out with ⟨h5, h6⟩ | ⟨h5, h6⟩
    · rw [h6] at hal
      have e5 := hk5 h5
      cases up with
      | true => exact ⟨fun e => (by rw [hal] at e; cases e), fun _ => .inl ⟨e5, rfl⟩⟩
      | false => exact ⟨fun _ => .inr ⟨e5, rfl⟩, fun e => (by rw [hal] at e; cases e)⟩
    · rw [h6] at hal
      have e6 := hk6 h6
      cases up with
      | true => exact ⟨fun _ => .inl ⟨e6, rfl⟩, fun e => (by rw [hal] at e; cases e)⟩
      | false => exact ⟨fun e => (by rw [hal] at e; cases e), fun _ => .inr ⟨e6, rfl⟩⟩)
  have HALE := Lib.hid hal
  have x0 := HXK.out W4 HB4.out
  go_upto_region 5 with fail
  have h5 : q5 = false := by rw [HQ5.out, HKK.out]; rfl
  have h6 : q6 = true := by rw [HQ6.out, HKK.out]; rfl
  subst h5
  subst h6
  go_upto_region 20 with fail
  clear x0
  have x0 := HXK.out W4 HB4.out
  go_cut [13] (fun s13 wx => s13 = .bool al ∧ wx = W4)
  case first =>
    cases up with
    | true =>
      go_wp2_with fail
      go_meet
      exact ⟨by rw [HALE.out]; try rfl, rfl⟩
    | false =>
      go_wp2_with fail
      go_meet
      exact ⟨by rw [HALE.out]; try rfl, rfl⟩
  case rest =>
    obtain ⟨rfl, rfl⟩ := hcut
    clear x0
    clear HALE hal
    go_wp2_with fail
    go_loopw [14] (fun s14 wr => ∃ (k : Nat) (t : Ty) (l : List Value), k ≤ n ∧ s14 = .int .i64 k ∧ Hid (RbW w0 w W3 t l wr) ∧ Hid (RbI up al a b k t)) (fun s14 _ => n - (intOf s14).toNat)
    case atStart => exact ⟨0, _, _, by omega, rfl, START, Lib.hid (RbI.start up al a b)⟩
    case round =>
      obtain ⟨k, t, l, hkn, rfl, HI, HP⟩ := hrel
      obtain ⟨wo, rfl⟩ : ∃ wo : World, wo = wr := ⟨_, rfl⟩
      obtain ⟨x5, x6⟩ := HCA.out wo HI.out.below
      obtain ⟨y5, y6⟩ := HCB.out wo HI.out.below
      by_cases hlt : k < n
      · obtain ⟨s, hs⟩ : ∃ s, a.names[k]? = some s := at_some (by rw [← HN.out.1]; exact hlt)
        obtain ⟨x, hx⟩ : ∃ x, a.subs[k]? = some x := at_some (by rw [← HN.out.2]; exact hlt)
        have HS := Lib.hid hs
        have HXI := Lib.hid hx
        have HAX : Hid (AtN a s x) := Lib.hid ⟨k, hs, hx⟩
        have HB0 : Hid (Below w0.heap.size w0 wo) := Lib.hid (below_over HW0.out (below_over HB3.out HI.out.below))
        have HGR : Hid (Gro a.kind k t) := Lib.hid HP.out.gro
        obtain ⟨gn, on, rfl, hgn, hcn, hzs⟩ := HNA.out k s hs
        have HZ := Lib.hid hzs
        obtain ⟨g1, o1, v0, v1, v2, v3, v4, v5, v6, rfl, hg1, h0, h1, h2, h3, h4, h5, h6, hx7⟩ := HSA.out k x hx
        obtain ⟨Fn, cF, Fs, dF, rfl, rfl, rfl, rfl, rfl, rfl, rfl⟩ := hx7.seven
        have HX7 := Lib.hid hx7
        have HEL : Hid (∀ wx, Below wo.heap.size wo wx → wx.cell? ⟨gn, on + k, none⟩ = some (.string s) ∧ wx.cell? ⟨g1, o1 + k * 7, none⟩ = some (.int .i64 x.kind) ∧ wx.cell? ⟨g1, o1 + k * 7 + 1, none⟩ = some (.string x.pkg) ∧ wx.cell? ⟨g1, o1 + k * 7 + 2, none⟩ = some (.int .i64 x.major) ∧ wx.cell? ⟨g1, o1 + k * 7 + 3, none⟩ = some (.string x.mod) ∧ wx.cell? ⟨g1, o1 + k * 7 + 4, none⟩ = some (.string x.name) ∧ wx.cell? ⟨g1, o1 + k * 7 + 5, none⟩ = some (.slice Fn x.names.length cF) ∧ wx.cell? ⟨g1, o1 + k * 7 + 6, none⟩ = some (.slice Fs x.subs.length dF)) := Lib.hid (fun wx hb => by
          have hb0 := below_over HB0.out hb
          have t1 := fun (q : Nat) (v : Value) (hv : w0.cell? ⟨g1, q, none⟩ = some v) => (hb0.cell (p := ⟨g1, q, none⟩) hg1).trans hv
          exact ⟨(hb0.cell (p := ⟨gn, _, none⟩) hgn).trans hcn, t1 _ _ h0, t1 _ _ h1, t1 _ _ h2, t1 _ _ h3, t1 _ _ h4, t1 _ _ h5, t1 _ _ h6⟩)
        obtain ⟨Pn, cP, Ps, dP, rfl, -⟩ := HI.out.typ.parts
        obtain ⟨J, hJ⟩ : ∃ J, J = optN (ofB b.names s) := ⟨_, rfl⟩
        have HJ := Lib.hid hJ
        have hk0 : (0 : Int) ≤ k := by omega
        have hk1 : (k : Int) < n := by omega
        have cnm := (HEL.out wo (Below.refl _ _)).1
        clear h0 h1 h2 h3 h4 h5 h6 hx7 hx hs hg1 hgn hcn hzs hJ x6 y6
        have cO : ∀ dd os, Calls Try.prog 25 #[.slice Bn r cB, .string s] (Sort.grow (redrawn wo dd) os) fun e w'' => e = .returned (.int .i64 J) ∧ ∃ pp : Regrown, w'' = Sort.grow (redrawn wo pp.d) pp.os := fun dd os => Calls.regrown_of (by
          rw [HJ.out]; exact rof9_any Bn r cB b.names s _ HRR.out.1 (by omega) (HNB.out.below (below_over HB0.out (below_regrown wo dd os))))
        go_upto_region 24 with fail
        have e1 := cell_regrown x5
        have e2 := cell_regrown y5
        have e3 := cell_regrown cnm
        clear x5 y5 cnm
        refine wp_region_quiet_below (by kernel_rfl) (by kernel_rfl) ?_
        repeat (any_goals (first | go_big_quiet_step (with_reducible exact cO _ _) | quiet_step (with_reducible exact cO _ _)))
        refine wpQuiet_nil ?_
        intro wp hw'
        have HIP := Lib.hid (HI.out.keep (wr' := wp) (by
          obtain ⟨⟨dq, osq⟩, hw''⟩ := hw'
          rw [hw'']
          exact below_regrown wo dq osq))
        have HBP : Hid (Below wo.heap.size wo wp) := Lib.hid (by
          obtain ⟨⟨dq, osq⟩, hw''⟩ := hw'
          rw [hw'']
          exact below_regrown wo dq osq)
        clear hw' cO
        clear e1 e2 e3
        cases hj : ofB b.names s with
        | none =>
          as_aux_lemma =>
            have hno : ∀ y, ¬ AtN b s y := fun y hy => ofB_none hj hy.name
            have HNOY := Lib.hid hno
            obtain rfl : J = -1 := by rw [HJ.out, hj]; rfl
            clear hj hno
            cases al with
            | true =>
              have KEEP : Hid (∀ wx : World, Below wp.heap.size wp wx → wx.cell? ⟨w.heap.size + 1 + 1 + 1, 0, none⟩ = some (.int .i64 t.kind) ∧ wx.cell? ⟨w.heap.size + 1 + 1 + 1, 1, none⟩ = some (.string t.pkg) ∧ wx.cell? ⟨w.heap.size + 1 + 1 + 1, 2, none⟩ = some (.int .i64 t.major) ∧ wx.cell? ⟨w.heap.size + 1 + 1 + 1, 3, none⟩ = some (.string t.mod) ∧ wx.cell? ⟨w.heap.size + 1 + 1 + 1, 4, none⟩ = some (.string t.name) ∧ wx.cell? ⟨w.heap.size + 1 + 1 + 1, 5, none⟩ = some (.slice Pn t.names.length cP) ∧ wx.cell? ⟨w.heap.size + 1 + 1 + 1, 6, none⟩ = some (.slice Ps t.subs.length dP) ∧ wx.cell? ⟨w.heap.size, 5, none⟩ = some (.slice (some ⟨gn, on, none⟩) n cA) ∧ wx.cell? ⟨w.heap.size, 6, none⟩ = some (.slice (some ⟨g1, o1, none⟩) n cS) ∧ wx.cell? ⟨gn, on + k, none⟩ = some (.string s) ∧ wx.cell? ⟨g1, o1 + k * 7, none⟩ = some (.int .i64 x.kind) ∧ wx.cell? ⟨g1, o1 + k * 7 + 1, none⟩ = some (.string x.pkg) ∧ wx.cell? ⟨g1, o1 + k * 7 + 2, none⟩ = some (.int .i64 x.major) ∧ wx.cell? ⟨g1, o1 + k * 7 + 3, none⟩ = some (.string x.mod) ∧ wx.cell? ⟨g1, o1 + k * 7 + 4, none⟩ = some (.string x.name) ∧ wx.cell? ⟨g1, o1 + k * 7 + 5, none⟩ = some (.slice Fn x.names.length cF) ∧ wx.cell? ⟨g1, o1 + k * 7 + 6, none⟩ = some (.slice Fs x.subs.length dF)) := Lib.hid (fun wx hb => by
                have hI := HIP.out.keep hb
                have hE := HEL.out wx (below_over HBP.out hb)
                have hA := HCA.out wx hI.below
                have z0 := Lib.cell_of_heap hI.box 0
                have z1 := Lib.cell_of_heap hI.box 1
                have z2 := Lib.cell_of_heap hI.box 2
                have z3 := Lib.cell_of_heap hI.box 3
                have z4 := Lib.cell_of_heap hI.box 4
                have z5 := Lib.cell_of_heap hI.box 5
                have z6 := Lib.cell_of_heap hI.box 6
                exact ⟨z0, z1, z2, z3, z4, z5, z6, hA.1, hA.2, hE⟩)
              have CT := Lib.hid (fun (w' : World) (hb' : Below wp.heap.size wp w') => put_any (fun k => w0.heap.size ≤ k ∧ k < w.heap.size + 1 + 1 + 1 + 1) t s x [.int .i64 t.kind, .string t.pkg, .int .i64 t.major, .string t.mod, .string t.name, .slice Pn t.names.length cP, .slice Ps t.subs.length dP] [.int .i64 x.kind, .string x.pkg, .int .i64 x.major, .string x.mod, .string x.name, .slice Fn x.names.length cF, .slice Fs x.subs.length dF] w' (fun k hk => by have h1 := HIP.out.size; have h2 := hb'.size; omega) (HIP.out.keep hb').typ ((HX7.out.base (below_over HB0.out (below_over HBP.out hb')) (fun k hk => hk.1))) HGR.out.len (by have := HGR.out.cnt; have h1 := HN.out.1; have h2 := HRR.out.1; omega) HZ.out)
              go_upto_region 27 with fail
              have hH0 := KEEP.out wp.drew (Below.drew (Below.refl _ _))
              refine AnyX.start (fun wx => wx.cell? ⟨w.heap.size + 1 + 1 + 1, 0, none⟩ = some (.int .i64 t.kind) ∧ wx.cell? ⟨w.heap.size + 1 + 1 + 1, 1, none⟩ = some (.string t.pkg) ∧ wx.cell? ⟨w.heap.size + 1 + 1 + 1, 2, none⟩ = some (.int .i64 t.major) ∧ wx.cell? ⟨w.heap.size + 1 + 1 + 1, 3, none⟩ = some (.string t.mod) ∧ wx.cell? ⟨w.heap.size + 1 + 1 + 1, 4, none⟩ = some (.string t.name) ∧ wx.cell? ⟨w.heap.size + 1 + 1 + 1, 5, none⟩ = some (.slice Pn t.names.length cP) ∧ wx.cell? ⟨w.heap.size + 1 + 1 + 1, 6, none⟩ = some (.slice Ps t.subs.length dP) ∧ wx.cell? ⟨w.heap.size, 5, none⟩ = some (.slice (some ⟨gn, on, none⟩) n cA) ∧ wx.cell? ⟨w.heap.size, 6, none⟩ = some (.slice (some ⟨g1, o1, none⟩) n cS) ∧ wx.cell? ⟨gn, on + k, none⟩ = some (.string s) ∧ wx.cell? ⟨g1, o1 + k * 7, none⟩ = some (.int .i64 x.kind) ∧ wx.cell? ⟨g1, o1 + k * 7 + 1, none⟩ = some (.string x.pkg) ∧ wx.cell? ⟨g1, o1 + k * 7 + 2, none⟩ = some (.int .i64 x.major) ∧ wx.cell? ⟨g1, o1 + k * 7 + 3, none⟩ = some (.string x.mod) ∧ wx.cell? ⟨g1, o1 + k * 7 + 4, none⟩ = some (.string x.name) ∧ wx.cell? ⟨g1, o1 + k * 7 + 5, none⟩ = some (.slice Fn x.names.length cF) ∧ wx.cell? ⟨g1, o1 + k * 7 + 6, none⟩ = some (.slice Fs x.subs.length dF)) (fun k => k == 12) (by kernel_rfl) ?_
              refine AnyX.take (i := 0) (v := ?_) rfl (by kernel_rfl) (by kernel_rfl) (by kernel_rfl) (by kernel_rfl) (by kernel_rfl) (fun _ _ _ h => h) hH0 (Or.inl ⟨by rfl, ?_⟩) ?_
              rotate_left
              · (intro wS hS; (try obtain ⟨b0, b1, b2, b3, b4, b5, b6, m0, m1, n0, c0, c1, c2, c3, c4, c5', c6'⟩ := hS); go_simp; try with_reducible rfl)
              simp only [List.getElem_toArray, List.getElem_cons_succ, List.getElem_cons_zero]
              simp only [Act.put, List.setIfInBounds_toArray]
              simp only [List.set_cons_zero, List.set_cons_succ]
              refine AnyX.move (i := 1) (v := ?_) rfl (by kernel_rfl) (by kernel_rfl) (by kernel_rfl) (by kernel_rfl) (fun _ _ _ h => h) (Or.inl ⟨by rfl, ?_⟩) ?_
              rotate_left
              · (intro wS _; go_simp; try with_reducible rfl)
              simp only [List.getElem_toArray, List.getElem_cons_succ, List.getElem_cons_zero]
              simp only [Act.put, List.setIfInBounds_toArray]
              simp only [List.set_cons_zero, List.set_cons_succ]
              refine AnyX.take (i := 2) (v := ?_) rfl (by kernel_rfl) (by kernel_rfl) (by kernel_rfl) (by kernel_rfl) (by kernel_rfl) (fun _ _ _ h => h) hH0 (Or.inl ⟨by rfl, ?_⟩) ?_
              rotate_left
              · (intro wS hS; (try obtain ⟨b0, b1, b2, b3, b4, b5, b6, m0, m1, n0, c0, c1, c2, c3, c4, c5', c6'⟩ := hS); go_simp; try with_reducible rfl)
              simp only [List.getElem_toArray, List.getElem_cons_succ, List.getElem_cons_zero]
              simp only [Act.put, List.setIfInBounds_toArray]
              simp only [List.set_cons_zero, List.set_cons_succ]
              refine AnyX.move (i := 3) (v := ?_) rfl (by kernel_rfl) (by kernel_rfl) (by kernel_rfl) (by kernel_rfl) (fun _ _ _ h => h) (Or.inl ⟨by rfl, ?_⟩) ?_
              rotate_left
              · (intro wS _; go_simp; try with_reducible rfl)
              simp only [List.getElem_toArray, List.getElem_cons_succ, List.getElem_cons_zero]
              simp only [Act.put, List.setIfInBounds_toArray]
              simp only [List.set_cons_zero, List.set_cons_succ]
              refine AnyX.move (i := 4) (v := ?_) rfl (by kernel_rfl) (by kernel_rfl) (by kernel_rfl) (by kernel_rfl) (fun _ _ _ h => h) (Or.inl ⟨by rfl, ?_⟩) ?_
              rotate_left
              · (intro wS _; go_simp; try with_reducible rfl)
              simp only [List.getElem_toArray, List.getElem_cons_succ, List.getElem_cons_zero]
              simp only [Act.put, List.setIfInBounds_toArray]
              simp only [List.set_cons_zero, List.set_cons_succ]
              refine AnyX.take (i := 5) (v := ?_) rfl (by kernel_rfl) (by kernel_rfl) (by kernel_rfl) (by kernel_rfl) (by kernel_rfl) (fun _ _ _ h => h) hH0 (Or.inl ⟨by rfl, ?_⟩) ?_
              rotate_left
              · (intro wS hS; (try obtain ⟨b0, b1, b2, b3, b4, b5, b6, m0, m1, n0, c0, c1, c2, c3, c4, c5', c6'⟩ := hS); go_simp; try with_reducible rfl)
              simp only [List.getElem_toArray, List.getElem_cons_succ, List.getElem_cons_zero]
              simp only [Act.put, List.setIfInBounds_toArray]
              simp only [List.set_cons_zero, List.set_cons_succ]
              refine AnyX.move (i := 6) (v := ?_) rfl (by kernel_rfl) (by kernel_rfl) (by kernel_rfl) (by kernel_rfl) (fun _ _ _ h => h) (Or.inl ⟨by rfl, ?_⟩) ?_
              rotate_left
              · (intro wS _; go_simp; try with_reducible rfl)
              simp only [List.getElem_toArray, List.getElem_cons_succ, List.getElem_cons_zero]
              simp only [Act.put, List.setIfInBounds_toArray]
              simp only [List.set_cons_zero, List.set_cons_succ]
              refine AnyX.take (i := 7) (v := ?_) rfl (by kernel_rfl) (by kernel_rfl) (by kernel_rfl) (by kernel_rfl) (by kernel_rfl) (fun _ _ _ h => h) hH0 (Or.inl ⟨by rfl, ?_⟩) ?_
              rotate_left
              · (intro wS hS; (try obtain ⟨b0, b1, b2, b3, b4, b5, b6, m0, m1, n0, c0, c1, c2, c3, c4, c5', c6'⟩ := hS); go_simp; try with_reducible rfl)
              simp only [List.getElem_toArray, List.getElem_cons_succ, List.getElem_cons_zero]
              simp only [Act.put, List.setIfInBounds_toArray]
              simp only [List.set_cons_zero, List.set_cons_succ]
              refine AnyX.move (i := 8) (v := ?_) rfl (by kernel_rfl) (by kernel_rfl) (by kernel_rfl) (by kernel_rfl) (fun _ _ _ h => h) (Or.inl ⟨by rfl, ?_⟩) ?_
              rotate_left
              · (intro wS _; go_simp; try with_reducible rfl)
              simp only [List.getElem_toArray, List.getElem_cons_succ, List.getElem_cons_zero]
              simp only [Act.put, List.setIfInBounds_toArray]
              simp only [List.set_cons_zero, List.set_cons_succ]
              refine AnyX.move (i := 9) (v := ?_) rfl (by kernel_rfl) (by kernel_rfl) (by kernel_rfl) (by kernel_rfl) (fun _ _ _ h => h) (Or.inl ⟨by rfl, ?_⟩) ?_
              rotate_left
              · (intro wS _; go_simp; try with_reducible rfl)
              simp only [List.getElem_toArray, List.getElem_cons_succ, List.getElem_cons_zero]
              simp only [Act.put, List.setIfInBounds_toArray]
              simp only [List.set_cons_zero, List.set_cons_succ]
              refine AnyX.take (i := 10) (v := ?_) rfl (by kernel_rfl) (by kernel_rfl) (by kernel_rfl) (by kernel_rfl) (by kernel_rfl) (fun _ _ _ h => h) hH0 (Or.inl ⟨by rfl, ?_⟩) ?_
              rotate_left
              · (intro wS hS; (try obtain ⟨b0, b1, b2, b3, b4, b5, b6, m0, m1, n0, c0, c1, c2, c3, c4, c5', c6'⟩ := hS); go_simp; try with_reducible rfl)
              simp only [List.getElem_toArray, List.getElem_cons_succ, List.getElem_cons_zero]
              simp only [Act.put, List.setIfInBounds_toArray]
              simp only [List.set_cons_zero, List.set_cons_succ]
              refine AnyX.go 11 (by kernel_rfl) rfl rfl (fun K hK => ?_)
              simp only [List.getElem_toArray, List.getElem_cons_succ, List.getElem_cons_zero]
              go_simp
              refine (CT.out wp.drew (Below.drew (Below.refl _ _))).mono ?_
              rintro e w2 ⟨l2, rfl, hT2, hb2⟩
              have hB2 : Below wp.heap.size wp w2 := Below.trans (Below.drew (Below.refl wp.heap.size wp)) hb2
              have X2 := (HIP.out.keep hB2).box
              have NEW := Lib.hid (HIP.out.put HS3.out hB2 hT2 hw00)
              obtain ⟨Qn, cQ, Qs, dQ, rfl, -⟩ := hT2.parts
              simp only []
              refine hK.out _ _ (fun hoff _ => KEEP.out w2 hB2) ?_
              clear hK
              try simp only [Act.put, List.setIfInBounds_toArray]
              try simp only [List.set_cons_zero, List.set_cons_succ]
              refine AnyX.go 12 (by kernel_rfl) rfl rfl (fun K hK => ?_)
              simp only [List.getElem_toArray, List.getElem_cons_succ, List.getElem_cons_zero]
              refine wp_store_row 25 (.tmp 8) (.tmp 124) rfl (w.heap.size + 1 + 1 + 1) #[.int .i64 (putT t s x).kind, .string (putT t s x).pkg, .int .i64 (putT t s x).major, .string (putT t s x).mod, .string (putT t s x).name, .slice Qn (putT t s x).names.length cQ, .slice Qs (putT t s x).subs.length dQ] rfl rfl _ _ X2 tySize rfl tyOne ?_
              refine hK.out _ _ (fun hoff _ => absurd hoff (by decide)) ?_
              clear hK
              try simp only [Act.put, List.setIfInBounds_toArray]
              try simp only [List.set_cons_zero, List.set_cons_succ]
              refine AnyX.done (by kernel_rfl) ?_ _
              clear CT KEEP X2 hH0
              have HPN := Lib.hid (HP.out.put GA.out HS.out (.inr ⟨rfl, HAX.out, HNOY.out⟩))
              go_wp2_with fail
              go_roundw
              case rel => exact ⟨k + 1, _, _, by omega, by go_num, NEW, HPN⟩
              case measure => simp [intOf]; omega
            | false =>
              have HPN := Lib.hid (HP.out.skip HS.out rfl (fun x' y' _ hy' => absurd hy' (HNOY.out y')))
              go_wp2_with fail
              go_roundw
              case rel => exact ⟨k + 1, t, _, by omega, by go_num, HIP, HPN⟩
              case measure => simp [intOf]; omega
        | some j =>
          as_aux_lemma =>
            have hjs := ofB_some hj
            have hjl := (List.getElem?_eq_some_iff.1 hjs).1
            have hj1N : j < r := by rw [HRR.out.1]; exact hjl
            obtain ⟨y, hy⟩ : ∃ y, b.subs[j]? = some y := at_some (by rw [← HRR.out.2]; exact hj1N)
            have HAY : Hid (AtN b s y) := Lib.hid ⟨j, hjs, hy⟩
            obtain rfl : J = (j : Int) := by rw [HJ.out, hj]; rfl
            obtain ⟨g2, o2, u0, u1, u2, u3, u4, u5, u6, rfl, hg2, k0, k1, k2, k3, k4, k5, k6, hy7⟩ := HSB.out j y hy
            obtain ⟨Gn, cG, Gs, dG, rfl, rfl, rfl, rfl, rfl, rfl, rfl⟩ := hy7.seven
            have HY7 := Lib.hid hy7
            have hj0 : (0 : Int) ≤ j := by omega
            have hj1 : (j : Int) < r := by omega
            have hj2 : ¬ (j : Int) < 0 := by omega
            have KEEP : Hid (∀ wx : World, Below wp.heap.size wp wx → (wx.cell? ⟨w.heap.size, 6, none⟩ = some (.slice (some ⟨g1, o1, none⟩) n cS) ∧ wx.cell? ⟨w.heap.size + 1, 6, none⟩ = some (.slice (some ⟨g2, o2, none⟩) r cD)) ∧ (wx.cell? ⟨g1, o1 + k * 7, none⟩ = some (.int .i64 x.kind) ∧ wx.cell? ⟨g1, o1 + k * 7 + 1, none⟩ = some (.string x.pkg) ∧ wx.cell? ⟨g1, o1 + k * 7 + 2, none⟩ = some (.int .i64 x.major) ∧ wx.cell? ⟨g1, o1 + k * 7 + 3, none⟩ = some (.string x.mod) ∧ wx.cell? ⟨g1, o1 + k * 7 + 4, none⟩ = some (.string x.name) ∧ wx.cell? ⟨g1, o1 + k * 7 + 5, none⟩ = some (.slice Fn x.names.length cF) ∧ wx.cell? ⟨g1, o1 + k * 7 + 6, none⟩ = some (.slice Fs x.subs.length dF)) ∧ wx.cell? ⟨g2, o2 + j * 7, none⟩ = some (.int .i64 y.kind) ∧ wx.cell? ⟨g2, o2 + j * 7 + 1, none⟩ = some (.string y.pkg) ∧ wx.cell? ⟨g2, o2 + j * 7 + 2, none⟩ = some (.int .i64 y.major) ∧ wx.cell? ⟨g2, o2 + j * 7 + 3, none⟩ = some (.string y.mod) ∧ wx.cell? ⟨g2, o2 + j * 7 + 4, none⟩ = some (.string y.name) ∧ wx.cell? ⟨g2, o2 + j * 7 + 5, none⟩ = some (.slice Gn y.names.length cG) ∧ wx.cell? ⟨g2, o2 + j * 7 + 6, none⟩ = some (.slice Gs y.subs.length dG)) := Lib.hid (fun wx hb => by
              have hI := HIP.out.keep hb
              have hE := HEL.out wx (below_over HBP.out hb)
              have hb0 := below_over HB0.out (below_over HBP.out hb)
              have t2 := fun (q : Nat) (v : Value) (hv : w0.cell? ⟨g2, q, none⟩ = some v) => (hb0.cell (p := ⟨g2, q, none⟩) hg2).trans hv
              exact ⟨⟨(HCA.out wx hI.below).2, (HCB.out wx hI.below).2⟩, hE.2, t2 _ _ k0, t2 _ _ k1, t2 _ _ k2, t2 _ _ k3, t2 _ _ k4, t2 _ _ k5, t2 _ _ k6⟩)
            have CT := Lib.hid (fun (w' : World) (hb' : Below wp.heap.size wp w') => HIH.out x y HAX.out.sub HAY.out.sub up _ _ w' HX7.out HY7.out (below_over HB0.out (below_over HBP.out hb')))
            clear hj hjs hjl hy hg2 k0 k1 k2 k3 k4 k5 k6 hy7
            go_upto_region 28 with fail
            go_cut [16, 17] (fun s16 s17 wx => ∃ (b0 : Nat) (l1 : List Value) (q : Bool), s16 = .pointer (some ⟨b0, 0, none⟩) ∧ s17 = .bool q ∧ PwR w0 wp up x y b0 l1 q wx)
            case first =>
              have hH0 := KEEP.out wp.drew (Below.drew (Below.refl _ _))
              refine AnyX.start (fun wx => (wx.cell? ⟨w.heap.size, 6, none⟩ = some (.slice (some ⟨g1, o1, none⟩) n cS) ∧ wx.cell? ⟨w.heap.size + 1, 6, none⟩ = some (.slice (some ⟨g2, o2, none⟩) r cD)) ∧ (wx.cell? ⟨g1, o1 + k * 7, none⟩ = some (.int .i64 x.kind) ∧ wx.cell? ⟨g1, o1 + k * 7 + 1, none⟩ = some (.string x.pkg) ∧ wx.cell? ⟨g1, o1 + k * 7 + 2, none⟩ = some (.int .i64 x.major) ∧ wx.cell? ⟨g1, o1 + k * 7 + 3, none⟩ = some (.string x.mod) ∧ wx.cell? ⟨g1, o1 + k * 7 + 4, none⟩ = some (.string x.name) ∧ wx.cell? ⟨g1, o1 + k * 7 + 5, none⟩ = some (.slice Fn x.names.length cF) ∧ wx.cell? ⟨g1, o1 + k * 7 + 6, none⟩ = some (.slice Fs x.subs.length dF)) ∧ wx.cell? ⟨g2, o2 + j * 7, none⟩ = some (.int .i64 y.kind) ∧ wx.cell? ⟨g2, o2 + j * 7 + 1, none⟩ = some (.string y.pkg) ∧ wx.cell? ⟨g2, o2 + j * 7 + 2, none⟩ = some (.int .i64 y.major) ∧ wx.cell? ⟨g2, o2 + j * 7 + 3, none⟩ = some (.string y.mod) ∧ wx.cell? ⟨g2, o2 + j * 7 + 4, none⟩ = some (.string y.name) ∧ wx.cell? ⟨g2, o2 + j * 7 + 5, none⟩ = some (.slice Gn y.names.length cG) ∧ wx.cell? ⟨g2, o2 + j * 7 + 6, none⟩ = some (.slice Gs y.subs.length dG)) (fun _ => false) (by kernel_rfl) ?_
              refine AnyX.move (i := 0) (v := ?_) rfl (by kernel_rfl) (by kernel_rfl) (by kernel_rfl) (by kernel_rfl) (fun _ _ _ h => h) (Or.inl ⟨by rfl, ?_⟩) ?_
              rotate_left
              · (intro wS _; go_simp; try with_reducible rfl)
              simp only [List.getElem_toArray, List.getElem_cons_succ, List.getElem_cons_zero]
              simp only [Act.put, List.setIfInBounds_toArray]
              simp only [List.set_cons_zero, List.set_cons_succ]
              refine AnyX.take (i := 1) (v := ?_) rfl (by kernel_rfl) (by kernel_rfl) (by kernel_rfl) (by kernel_rfl) (by kernel_rfl) (fun _ _ _ h => h) hH0 (Or.inl ⟨by rfl, ?_⟩) ?_
              rotate_left
              · (intro wS hS; (try obtain ⟨⟨m0, m1⟩, ⟨c0, c1, c2, c3, c4, c5', c6'⟩, d0, d1, d2, d3, d4, d5, d6⟩ := hS); go_simp; try with_reducible rfl)
              simp only [List.getElem_toArray, List.getElem_cons_succ, List.getElem_cons_zero]
              simp only [Act.put, List.setIfInBounds_toArray]
              simp only [List.set_cons_zero, List.set_cons_succ]
              refine AnyX.move (i := 2) (v := ?_) rfl (by kernel_rfl) (by kernel_rfl) (by kernel_rfl) (by kernel_rfl) (fun _ _ _ h => h) (Or.inl ⟨by rfl, ?_⟩) ?_
              rotate_left
              · (intro wS _; go_simp; try with_reducible rfl)
              simp only [List.getElem_toArray, List.getElem_cons_succ, List.getElem_cons_zero]
              simp only [Act.put, List.setIfInBounds_toArray]
              simp only [List.set_cons_zero, List.set_cons_succ]
              refine AnyX.move (i := 3) (v := ?_) rfl (by kernel_rfl) (by kernel_rfl) (by kernel_rfl) (by kernel_rfl) (fun _ _ _ h => h) (Or.inl ⟨by rfl, ?_⟩) ?_
              rotate_left
              · (intro wS _; go_simp; try with_reducible rfl)
              simp only [List.getElem_toArray, List.getElem_cons_succ, List.getElem_cons_zero]
              simp only [Act.put, List.setIfInBounds_toArray]
              simp only [List.set_cons_zero, List.set_cons_succ]
              refine AnyX.take (i := 4) (v := ?_) rfl (by kernel_rfl) (by kernel_rfl) (by kernel_rfl) (by kernel_rfl) (by kernel_rfl) (fun _ _ _ h => h) hH0 (Or.inl ⟨by rfl, ?_⟩) ?_
              rotate_left
              · (intro wS hS; (try obtain ⟨⟨m0, m1⟩, ⟨c0, c1, c2, c3, c4, c5', c6'⟩, d0, d1, d2, d3, d4, d5, d6⟩ := hS); go_simp; try with_reducible rfl)
              simp only [List.getElem_toArray, List.getElem_cons_succ, List.getElem_cons_zero]
              simp only [Act.put, List.setIfInBounds_toArray]
              simp only [List.set_cons_zero, List.set_cons_succ]
              refine AnyX.move (i := 5) (v := ?_) rfl (by kernel_rfl) (by kernel_rfl) (by kernel_rfl) (by kernel_rfl) (fun _ _ _ h => h) (Or.inl ⟨by rfl, ?_⟩) ?_
              rotate_left
              · (intro wS _; go_simp; try with_reducible rfl)
              simp only [List.getElem_toArray, List.getElem_cons_succ, List.getElem_cons_zero]
              simp only [Act.put, List.setIfInBounds_toArray]
              simp only [List.set_cons_zero, List.set_cons_succ]
              refine AnyX.take (i := 6) (v := ?_) rfl (by kernel_rfl) (by kernel_rfl) (by kernel_rfl) (by kernel_rfl) (by kernel_rfl) (fun _ _ _ h => h) hH0 (Or.inl ⟨by rfl, ?_⟩) ?_
              rotate_left
              · (intro wS hS; (try obtain ⟨⟨m0, m1⟩, ⟨c0, c1, c2, c3, c4, c5', c6'⟩, d0, d1, d2, d3, d4, d5, d6⟩ := hS); go_simp; try with_reducible rfl)
              simp only [List.getElem_toArray, List.getElem_cons_succ, List.getElem_cons_zero]
              simp only [Act.put, List.setIfInBounds_toArray]
              simp only [List.set_cons_zero, List.set_cons_succ]
              refine AnyX.move (i := 7) (v := ?_) rfl (by kernel_rfl) (by kernel_rfl) (by kernel_rfl) (by kernel_rfl) (fun _ _ _ h => h) (Or.inl ⟨by rfl, ?_⟩) ?_
              rotate_left
              · (intro wS _; go_simp; try with_reducible rfl)
              simp only [List.getElem_toArray, List.getElem_cons_succ, List.getElem_cons_zero]
              simp only [Act.put, List.setIfInBounds_toArray]
              simp only [List.set_cons_zero, List.set_cons_succ]
              refine AnyX.move (i := 8) (v := ?_) rfl (by kernel_rfl) (by kernel_rfl) (by kernel_rfl) (by kernel_rfl) (fun _ _ _ h => h) (Or.inl ⟨by rfl, ?_⟩) ?_
              rotate_left
              · (intro wS _; go_simp; try with_reducible rfl)
              simp only [List.getElem_toArray, List.getElem_cons_succ, List.getElem_cons_zero]
              simp only [Act.put, List.setIfInBounds_toArray]
              simp only [List.set_cons_zero, List.set_cons_succ]
              refine AnyX.take (i := 9) (v := ?_) rfl (by kernel_rfl) (by kernel_rfl) (by kernel_rfl) (by kernel_rfl) (by kernel_rfl) (fun _ _ _ h => h) hH0 (Or.inl ⟨by rfl, ?_⟩) ?_
              rotate_left
              · (intro wS hS; (try obtain ⟨⟨m0, m1⟩, ⟨c0, c1, c2, c3, c4, c5', c6'⟩, d0, d1, d2, d3, d4, d5, d6⟩ := hS); go_simp; try with_reducible rfl)
              simp only [List.getElem_toArray, List.getElem_cons_succ, List.getElem_cons_zero]
              simp only [Act.put, List.setIfInBounds_toArray]
              simp only [List.set_cons_zero, List.set_cons_succ]
              refine AnyX.move (i := 10) (v := ?_) rfl (by kernel_rfl) (by kernel_rfl) (by kernel_rfl) (by kernel_rfl) (fun _ _ _ h => h) (Or.inl ⟨by rfl, ?_⟩) ?_
              rotate_left
              · (intro wS _; go_simp; try with_reducible rfl)
              simp only [List.getElem_toArray, List.getElem_cons_succ, List.getElem_cons_zero]
              simp only [Act.put, List.setIfInBounds_toArray]
              simp only [List.set_cons_zero, List.set_cons_succ]
              refine AnyX.go2 11 15 (by kernel_rfl) rfl rfl rfl rfl (fun K hK => ?_) (fun K hK => ?_)
              · simp only [List.getElem_toArray, List.getElem_cons_succ, List.getElem_cons_zero]
                go_simp
                refine (CT.out wp.drew (Below.drew (Below.refl _ _))).mono ?_
                rintro e w2 ⟨l1, q1, rfl, hb2, ⟨v, Hn, cH, Hs, dH, rfl⟩, hres⟩
                have hB2 : Below wp.heap.size wp w2 := Below.trans (Below.drew (Below.refl wp.heap.size wp)) hb2
                simp only []
                refine hK.out _ _ (fun hoff _ => KEEP.out w2 hB2) ?_
                clear hK
                try simp only [Act.put, List.setIfInBounds_toArray]
                try simp only [List.set_cons_zero, List.set_cons_succ]
                refine AnyX.move (i := 12) (v := ?_) rfl (by kernel_rfl) (by kernel_rfl) (by kernel_rfl) (by kernel_rfl) (fun _ _ _ h => h) (Or.inl ⟨by rfl, ?_⟩) ?_
                rotate_left
                · (intro wS _; go_simp; try with_reducible rfl)
                simp only [List.getElem_toArray, List.getElem_cons_succ, List.getElem_cons_zero]
                simp only [Act.put, List.setIfInBounds_toArray]
                simp only [List.set_cons_zero, List.set_cons_succ]
                refine AnyX.move (i := 13) (v := ?_) rfl (by kernel_rfl) (by kernel_rfl) (by kernel_rfl) (by kernel_rfl) (fun _ _ _ h => h) (Or.inl ⟨by rfl, ?_⟩) ?_
                rotate_left
                · (intro wS _; go_simp; try with_reducible rfl)
                simp only [List.getElem_toArray, List.getElem_cons_succ, List.getElem_cons_zero]
                simp only [Act.put, List.setIfInBounds_toArray]
                simp only [List.set_cons_zero, List.set_cons_succ]
                refine AnyX.move (i := 14) (v := ?_) rfl (by kernel_rfl) (by kernel_rfl) (by kernel_rfl) (by kernel_rfl) (fun _ _ _ h => h) (Or.inl ⟨by rfl, ?_⟩) ?_
                rotate_left
                · (intro wS _; go_simp; try with_reducible rfl)
                simp only [List.getElem_toArray, List.getElem_cons_succ, List.getElem_cons_zero]
                simp only [Act.put, List.setIfInBounds_toArray]
                simp only [List.set_cons_zero, List.set_cons_succ]
                refine AnyX.go 15 (by kernel_rfl) rfl rfl (fun K hK => ?_)
                simp only [List.getElem_toArray, List.getElem_cons_succ, List.getElem_cons_zero]
                go_simp
                refine hK.out _ _ (fun hoff _ => KEEP.out _ (below_new hB2 _)) ?_
                clear hK
                try simp only [Act.put, List.setIfInBounds_toArray]
                try simp only [List.set_cons_zero, List.set_cons_succ]
                refine AnyX.go 16 (by kernel_rfl) rfl rfl (fun K hK => ?_)
                simp only [List.getElem_toArray, List.getElem_cons_succ, List.getElem_cons_zero]
                refine wp_store_row 25 (.tmp 16) (.tmp 138) rfl w2.heap.size #[.int .i64 v.kind, .string v.pkg, .int .i64 v.major, .string v.mod, .string v.name, .slice Hn v.names.length cH, .slice Hs v.subs.length dH] rfl rfl _ _ (heap_alloc_new w2 _) tySize rfl tyOne ?_
                refine hK.out _ _ (fun hoff _ => KEEP.out _ (setRow_below (below_new hB2 _) hB2.size _)) ?_
                clear hK
                try simp only [Act.put, List.setIfInBounds_toArray]
                try simp only [List.set_cons_zero, List.set_cons_succ]
                refine AnyX.move (i := 17) (v := ?_) rfl (by kernel_rfl) (by kernel_rfl) (by kernel_rfl) (by kernel_rfl) (fun _ _ _ h => h) (Or.inl ⟨by rfl, ?_⟩) ?_
                rotate_left
                · (intro wS _; go_simp; try with_reducible rfl)
                simp only [List.getElem_toArray, List.getElem_cons_succ, List.getElem_cons_zero]
                simp only [Act.put, List.setIfInBounds_toArray]
                simp only [List.set_cons_zero, List.set_cons_succ]
                refine AnyX.done (by kernel_rfl) ?_ _
                go_wp2_with fail
                go_meet
                exact ⟨_, _, _, rfl, rfl, PwR.made2 (wa := wp.drew) hres ⟨v, Hn, cH, Hs, dH, rfl⟩ (below_over HB0.out HBP.out).size (Nat.le_refl _) hB2.size (.inr (Nat.le_refl _)) (setRow_heap _ _ _ _ _ _ (heap_alloc_new w2 _)) (setRow_below (below_new hB2 _) hB2.size _) (fun y hy hne => (setRow_other _ _ _ _ hne).trans (Lib.alloc_old _ _ _ hy)) (by rw [size_setRow]; simp)⟩
              · simp only [List.getElem_toArray, List.getElem_cons_succ, List.getElem_cons_zero]
                go_simp
                obtain ⟨wa, hwa⟩ : ∃ wa, wa = (wp.alloc (.cells #[.int .i64 0, .string ⟨#[]⟩, .int .i64 0, .string ⟨#[]⟩, .string ⟨#[]⟩, .slice none 0 0, .slice none 0 0] 25)).drew := ⟨_, rfl⟩
                have Ba : Below wp.heap.size wp wa := by rw [hwa]; exact Below.drew (below_new (Below.refl _ _) _)
                have Xa : wa.heap[wp.heap.size]? = some (.cells #[.int .i64 0, .string ⟨#[]⟩, .int .i64 0, .string ⟨#[]⟩, .string ⟨#[]⟩, .slice none 0 0, .slice none 0 0] 25 (0, 0)) := by rw [hwa]; exact heap_alloc_new wp _
                have sa : wp.heap.size < wa.heap.size := by rw [hwa]; simp
                have hHa := KEEP.out wa Ba
                refine hK.out _ _ (fun _ _ => by rw [hwa] at hHa; exact hHa) ?_
                clear hK
                try simp only [Act.put, List.setIfInBounds_toArray]
                try simp only [List.set_cons_zero, List.set_cons_succ]
                rw [← hwa]
                clear hwa
                refine AnyX.go 11 (by kernel_rfl) rfl rfl (fun K hK => ?_)
                simp only [List.getElem_toArray, List.getElem_cons_succ, List.getElem_cons_zero]
                go_simp
                refine (CT.out wa Ba).mono ?_
                rintro e w2 ⟨l1, q1, rfl, hb2, ⟨v, Hn, cH, Hs, dH, rfl⟩, hres⟩
                have hB2 : Below wp.heap.size wp w2 := below_over Ba hb2
                have X2 := (hb2.block _ sa).trans Xa
                simp only []
                refine hK.out _ _ (fun hoff _ => KEEP.out w2 hB2) ?_
                clear hK
                try simp only [Act.put, List.setIfInBounds_toArray]
                try simp only [List.set_cons_zero, List.set_cons_succ]
                refine AnyX.move (i := 12) (v := ?_) rfl (by kernel_rfl) (by kernel_rfl) (by kernel_rfl) (by kernel_rfl) (fun _ _ _ h => h) (Or.inl ⟨by rfl, ?_⟩) ?_
                rotate_left
                · (intro wS _; go_simp; try with_reducible rfl)
                simp only [List.getElem_toArray, List.getElem_cons_succ, List.getElem_cons_zero]
                simp only [Act.put, List.setIfInBounds_toArray]
                simp only [List.set_cons_zero, List.set_cons_succ]
                refine AnyX.move (i := 13) (v := ?_) rfl (by kernel_rfl) (by kernel_rfl) (by kernel_rfl) (by kernel_rfl) (fun _ _ _ h => h) (Or.inl ⟨by rfl, ?_⟩) ?_
                rotate_left
                · (intro wS _; go_simp; try with_reducible rfl)
                simp only [List.getElem_toArray, List.getElem_cons_succ, List.getElem_cons_zero]
                simp only [Act.put, List.setIfInBounds_toArray]
                simp only [List.set_cons_zero, List.set_cons_succ]
                refine AnyX.move (i := 14) (v := ?_) rfl (by kernel_rfl) (by kernel_rfl) (by kernel_rfl) (by kernel_rfl) (fun _ _ _ h => h) (Or.inl ⟨by rfl, ?_⟩) ?_
                rotate_left
                · (intro wS _; go_simp; try with_reducible rfl)
                simp only [List.getElem_toArray, List.getElem_cons_succ, List.getElem_cons_zero]
                simp only [Act.put, List.setIfInBounds_toArray]
                simp only [List.set_cons_zero, List.set_cons_succ]
                refine AnyX.go 16 (by kernel_rfl) rfl rfl (fun K hK => ?_)
                simp only [List.getElem_toArray, List.getElem_cons_succ, List.getElem_cons_zero]
                refine wp_store_row 25 (.tmp 16) (.tmp 138) rfl wp.heap.size #[.int .i64 v.kind, .string v.pkg, .int .i64 v.major, .string v.mod, .string v.name, .slice Hn v.names.length cH, .slice Hs v.subs.length dH] rfl rfl _ _ X2 tySize rfl tyOne ?_
                refine hK.out _ _ (fun hoff _ => KEEP.out _ (setRow_below hB2 (Nat.le_refl _) _)) ?_
                clear hK
                try simp only [Act.put, List.setIfInBounds_toArray]
                try simp only [List.set_cons_zero, List.set_cons_succ]
                refine AnyX.move (i := 17) (v := ?_) rfl (by kernel_rfl) (by kernel_rfl) (by kernel_rfl) (by kernel_rfl) (fun _ _ _ h => h) (Or.inl ⟨by rfl, ?_⟩) ?_
                rotate_left
                · (intro wS _; go_simp; try with_reducible rfl)
                simp only [List.getElem_toArray, List.getElem_cons_succ, List.getElem_cons_zero]
                simp only [Act.put, List.setIfInBounds_toArray]
                simp only [List.set_cons_zero, List.set_cons_succ]
                refine AnyX.done (by kernel_rfl) ?_ _
                go_wp2_with fail
                go_meet
                exact ⟨_, _, _, rfl, rfl, PwR.made2 hres ⟨v, Hn, cH, Hs, dH, rfl⟩ (below_over HB0.out HBP.out).size Ba.size (Nat.le_refl _) (.inl sa) (setRow_heap _ _ _ _ _ _ X2) (setRow_below hB2 (Nat.le_refl _) _) (fun y hy hne => setRow_other _ _ _ _ hne) (by rw [size_setRow]; exact Nat.le_refl _)⟩
            case rest =>
              obtain ⟨b0, l1, q, rfl, rfl, hXb, hbb, hBx, ⟨v, Hn, cH, Hs, dH, rfl⟩, hres⟩ := hcut
              obtain ⟨wy, rfl⟩ : ∃ wy : World, wy = wc := ⟨_, rfl⟩
              have HIY := Lib.hid (HIP.out.keep hBx)
              have HBY := Lib.hid (below_over HBP.out hBx)
              have HBX := Lib.hid hBx
              have hps := HIP.out.size
              clear CT KEEP
              cases q with
              | true =>
                obtain ⟨z, hbz, hTz⟩ : ∃ z, IsBnd up x y z ∧ TyAt (strike (fun k => w0.heap.size ≤ k ∧ k < wp.heap.size) wy) [.int .i64 v.kind, .string v.pkg, .int .i64 v.major, .string v.mod, .string v.name, .slice Hn v.names.length cH, .slice Hs v.subs.length dH] z := by
                  rcases hres with ⟨-, z, h1, h2⟩ | ⟨h, -⟩
                  · exact ⟨z, h1, h2⟩
                  · cases h
                have HBZ := Lib.hid hbz
                have HTZ : Hid (TyAt (strike (fun k => w0.heap.size ≤ k ∧ k < w.heap.size + 1 + 1 + 1 + 1) wy) [.int .i64 v.kind, .string v.pkg, .int .i64 v.major, .string v.mod, .string v.name, .slice Hn v.names.length cH, .slice Hs v.subs.length dH] z) := Lib.hid (hTz.move (Nat.le_refl _) fun k hk hS => ⟨fun e => hS ⟨e.1, by omega⟩, rfl⟩)
                obtain ⟨Hn', cH', Hs', dH', hlz, -⟩ := hTz.parts
                have KEEP : Hid (∀ wx : World, Below wy.heap.size wy wx → wx.cell? ⟨w.heap.size + 1 + 1 + 1, 0, none⟩ = some (.int .i64 t.kind) ∧ wx.cell? ⟨w.heap.size + 1 + 1 + 1, 1, none⟩ = some (.string t.pkg) ∧ wx.cell? ⟨w.heap.size + 1 + 1 + 1, 2, none⟩ = some (.int .i64 t.major) ∧ wx.cell? ⟨w.heap.size + 1 + 1 + 1, 3, none⟩ = some (.string t.mod) ∧ wx.cell? ⟨w.heap.size + 1 + 1 + 1, 4, none⟩ = some (.string t.name) ∧ wx.cell? ⟨w.heap.size + 1 + 1 + 1, 5, none⟩ = some (.slice Pn t.names.length cP) ∧ wx.cell? ⟨w.heap.size + 1 + 1 + 1, 6, none⟩ = some (.slice Ps t.subs.length dP) ∧ wx.cell? ⟨w.heap.size, 5, none⟩ = some (.slice (some ⟨gn, on, none⟩) n cA) ∧ wx.cell? ⟨gn, on + k, none⟩ = some (.string s) ∧ wx.cell? ⟨b0, 0, none⟩ = some (.int .i64 v.kind) ∧ wx.cell? ⟨b0, 1, none⟩ = some (.string v.pkg) ∧ wx.cell? ⟨b0, 2, none⟩ = some (.int .i64 v.major) ∧ wx.cell? ⟨b0, 3, none⟩ = some (.string v.mod) ∧ wx.cell? ⟨b0, 4, none⟩ = some (.string v.name) ∧ wx.cell? ⟨b0, 5, none⟩ = some (.slice Hn v.names.length cH) ∧ wx.cell? ⟨b0, 6, none⟩ = some (.slice Hs v.subs.length dH)) := Lib.hid (fun wx hb => by
                  have hI := HIY.out.keep hb
                  have hE := HEL.out wx (below_over HBY.out hb)
                  have z0 := Lib.cell_of_heap hI.box 0
                  have z1 := Lib.cell_of_heap hI.box 1
                  have z2 := Lib.cell_of_heap hI.box 2
                  have z3 := Lib.cell_of_heap hI.box 3
                  have z4 := Lib.cell_of_heap hI.box 4
                  have z5 := Lib.cell_of_heap hI.box 5
                  have z6 := Lib.cell_of_heap hI.box 6
                  have hbl : b0 < wy.heap.size := (Array.getElem?_eq_some_iff.1 hXb).1
                  have hX := (hb.block b0 hbl).trans hXb
                  have u0 := Lib.cell_of_heap hX 0
                  have u1 := Lib.cell_of_heap hX 1
                  have u2 := Lib.cell_of_heap hX 2
                  have u3 := Lib.cell_of_heap hX 3
                  have u4 := Lib.cell_of_heap hX 4
                  have u5 := Lib.cell_of_heap hX 5
                  have u6 := Lib.cell_of_heap hX 6
                  exact ⟨z0, z1, z2, z3, z4, z5, z6, (HCA.out wx hI.below).1, hE.1, u0, u1, u2, u3, u4, u5, u6⟩)
                clear hXb hbb hres hbz hTz hlz hBx
                have CT := Lib.hid (fun (w' : World) (hb' : Below wy.heap.size wy w') => put_any (fun k => w0.heap.size ≤ k ∧ k < w.heap.size + 1 + 1 + 1 + 1) t s z [.int .i64 t.kind, .string t.pkg, .int .i64 t.major, .string t.mod, .string t.name, .slice Pn t.names.length cP, .slice Ps t.subs.length dP] [.int .i64 v.kind, .string v.pkg, .int .i64 v.major, .string v.mod, .string v.name, .slice Hn v.names.length cH, .slice Hs v.subs.length dH] w' (fun k hk => by have h1 := HIY.out.size; have h2 := hb'.size; omega) (HIY.out.keep hb').typ ((HTZ.out.move hb'.size fun k hk hS => ⟨hS, hb'.block k hk⟩)) HGR.out.len (by have := HGR.out.cnt; have h1 := HN.out.1; have h2 := HRR.out.1; omega) HZ.out)
                go_upto_region 32 with fail
                have hH0 := KEEP.out wy.drew (Below.drew (Below.refl _ _))
                refine AnyX.start (fun wx => wx.cell? ⟨w.heap.size + 1 + 1 + 1, 0, none⟩ = some (.int .i64 t.kind) ∧ wx.cell? ⟨w.heap.size + 1 + 1 + 1, 1, none⟩ = some (.string t.pkg) ∧ wx.cell? ⟨w.heap.size + 1 + 1 + 1, 2, none⟩ = some (.int .i64 t.major) ∧ wx.cell? ⟨w.heap.size + 1 + 1 + 1, 3, none⟩ = some (.string t.mod) ∧ wx.cell? ⟨w.heap.size + 1 + 1 + 1, 4, none⟩ = some (.string t.name) ∧ wx.cell? ⟨w.heap.size + 1 + 1 + 1, 5, none⟩ = some (.slice Pn t.names.length cP) ∧ wx.cell? ⟨w.heap.size + 1 + 1 + 1, 6, none⟩ = some (.slice Ps t.subs.length dP) ∧ wx.cell? ⟨w.heap.size, 5, none⟩ = some (.slice (some ⟨gn, on, none⟩) n cA) ∧ wx.cell? ⟨gn, on + k, none⟩ = some (.string s) ∧ wx.cell? ⟨b0, 0, none⟩ = some (.int .i64 v.kind) ∧ wx.cell? ⟨b0, 1, none⟩ = some (.string v.pkg) ∧ wx.cell? ⟨b0, 2, none⟩ = some (.int .i64 v.major) ∧ wx.cell? ⟨b0, 3, none⟩ = some (.string v.mod) ∧ wx.cell? ⟨b0, 4, none⟩ = some (.string v.name) ∧ wx.cell? ⟨b0, 5, none⟩ = some (.slice Hn v.names.length cH) ∧ wx.cell? ⟨b0, 6, none⟩ = some (.slice Hs v.subs.length dH)) (fun k => k == 8) (by kernel_rfl) ?_
                refine AnyX.take (i := 0) (v := ?_) rfl (by kernel_rfl) (by kernel_rfl) (by kernel_rfl) (by kernel_rfl) (by kernel_rfl) (fun _ _ _ h => h) hH0 (Or.inl ⟨by rfl, ?_⟩) ?_
                rotate_left
                · (intro wS hS; (try obtain ⟨b0', b1, b2, b3, b4, b5, b6, m0, n0, c0, c1, c2, c3, c4, c5', c6'⟩ := hS); go_simp; try with_reducible rfl)
                simp only [List.getElem_toArray, List.getElem_cons_succ, List.getElem_cons_zero]
                simp only [Act.put, List.setIfInBounds_toArray]
                simp only [List.set_cons_zero, List.set_cons_succ]
                refine AnyX.move (i := 1) (v := ?_) rfl (by kernel_rfl) (by kernel_rfl) (by kernel_rfl) (by kernel_rfl) (fun _ _ _ h => h) (Or.inl ⟨by rfl, ?_⟩) ?_
                rotate_left
                · (intro wS _; go_simp; try with_reducible rfl)
                simp only [List.getElem_toArray, List.getElem_cons_succ, List.getElem_cons_zero]
                simp only [Act.put, List.setIfInBounds_toArray]
                simp only [List.set_cons_zero, List.set_cons_succ]
                refine AnyX.take (i := 2) (v := ?_) rfl (by kernel_rfl) (by kernel_rfl) (by kernel_rfl) (by kernel_rfl) (by kernel_rfl) (fun _ _ _ h => h) hH0 (Or.inl ⟨by rfl, ?_⟩) ?_
                rotate_left
                · (intro wS hS; (try obtain ⟨b0', b1, b2, b3, b4, b5, b6, m0, n0, c0, c1, c2, c3, c4, c5', c6'⟩ := hS); go_simp; try with_reducible rfl)
                simp only [List.getElem_toArray, List.getElem_cons_succ, List.getElem_cons_zero]
                simp only [Act.put, List.setIfInBounds_toArray]
                simp only [List.set_cons_zero, List.set_cons_succ]
                refine AnyX.move (i := 3) (v := ?_) rfl (by kernel_rfl) (by kernel_rfl) (by kernel_rfl) (by kernel_rfl) (fun _ _ _ h => h) (Or.inl ⟨by rfl, ?_⟩) ?_
                rotate_left
                · (intro wS _; go_simp; try with_reducible rfl)
                simp only [List.getElem_toArray, List.getElem_cons_succ, List.getElem_cons_zero]
                simp only [Act.put, List.setIfInBounds_toArray]
                simp only [List.set_cons_zero, List.set_cons_succ]
                refine AnyX.move (i := 4) (v := ?_) rfl (by kernel_rfl) (by kernel_rfl) (by kernel_rfl) (by kernel_rfl) (fun _ _ _ h => h) (Or.inl ⟨by rfl, ?_⟩) ?_
                rotate_left
                · (intro wS _; go_simp; try with_reducible rfl)
                simp only [List.getElem_toArray, List.getElem_cons_succ, List.getElem_cons_zero]
                simp only [Act.put, List.setIfInBounds_toArray]
                simp only [List.set_cons_zero, List.set_cons_succ]
                refine AnyX.take (i := 5) (v := ?_) rfl (by kernel_rfl) (by kernel_rfl) (by kernel_rfl) (by kernel_rfl) (by kernel_rfl) (fun _ _ _ h => h) hH0 (Or.inl ⟨by rfl, ?_⟩) ?_
                rotate_left
                · (intro wS hS; (try obtain ⟨b0', b1, b2, b3, b4, b5, b6, m0, n0, c0, c1, c2, c3, c4, c5', c6'⟩ := hS); go_simp; try with_reducible rfl)
                simp only [List.getElem_toArray, List.getElem_cons_succ, List.getElem_cons_zero]
                simp only [Act.put, List.setIfInBounds_toArray]
                simp only [List.set_cons_zero, List.set_cons_succ]
                refine AnyX.take (i := 6) (v := ?_) rfl (by kernel_rfl) (by kernel_rfl) (by kernel_rfl) (by kernel_rfl) (by kernel_rfl) (fun _ _ _ h => h) hH0 (Or.inl ⟨by rfl, ?_⟩) ?_
                rotate_left
                · (intro wS hS; (try obtain ⟨b0', b1, b2, b3, b4, b5, b6, m0, n0, c0, c1, c2, c3, c4, c5', c6'⟩ := hS); go_simp; try with_reducible rfl)
                simp only [List.getElem_toArray, List.getElem_cons_succ, List.getElem_cons_zero]
                simp only [Act.put, List.setIfInBounds_toArray]
                simp only [List.set_cons_zero, List.set_cons_succ]
                refine AnyX.go 7 (by kernel_rfl) rfl rfl (fun K hK => ?_)
                simp only [List.getElem_toArray, List.getElem_cons_succ, List.getElem_cons_zero]
                go_simp
                refine (CT.out wy.drew (Below.drew (Below.refl _ _))).mono ?_
                rintro e w2 ⟨l2, rfl, hT2, hb2⟩
                have hB2 : Below wy.heap.size wy w2 := Below.trans (Below.drew (Below.refl wy.heap.size wy)) hb2
                have X2 := (HIY.out.keep hB2).box
                have NEW := Lib.hid (HIY.out.put HS3.out hB2 hT2 hw00)
                obtain ⟨Qn, cQ, Qs, dQ, rfl, -⟩ := hT2.parts
                simp only []
                refine hK.out _ _ (fun hoff _ => KEEP.out w2 hB2) ?_
                clear hK
                try simp only [Act.put, List.setIfInBounds_toArray]
                try simp only [List.set_cons_zero, List.set_cons_succ]
                refine AnyX.go 8 (by kernel_rfl) rfl rfl (fun K hK => ?_)
                simp only [List.getElem_toArray, List.getElem_cons_succ, List.getElem_cons_zero]
                refine wp_store_row 25 (.tmp 8) (.tmp 154) rfl (w.heap.size + 1 + 1 + 1) #[.int .i64 (putT t s z).kind, .string (putT t s z).pkg, .int .i64 (putT t s z).major, .string (putT t s z).mod, .string (putT t s z).name, .slice Qn (putT t s z).names.length cQ, .slice Qs (putT t s z).subs.length dQ] rfl rfl _ _ X2 tySize rfl tyOne ?_
                refine hK.out _ _ (fun hoff _ => absurd hoff (by decide)) ?_
                clear hK
                try simp only [Act.put, List.setIfInBounds_toArray]
                try simp only [List.set_cons_zero, List.set_cons_succ]
                refine AnyX.done (by kernel_rfl) ?_ _
                clear CT KEEP X2 hH0
                have HPN := Lib.hid (HP.out.put GA.out HS.out (.inl ⟨x, y, HAX.out, HAY.out, HBZ.out⟩))
                go_wp2_with fail
                go_roundw
                case rel => exact ⟨k + 1, _, _, by omega, by go_num, NEW, HPN⟩
                case measure => simp [intOf]; omega
              | false =>
                have HNO : Hid (NoBnd up x y) := Lib.hid (by
                  rcases hres with ⟨h, -⟩ | ⟨-, h⟩
                  · cases h
                  · exact h)
                clear hXb hbb hres hBx
                cases al with
                | true =>
                  have FIN := Lib.hid (RbOut.zero (w0 := w0) (b := w.heap.size + 1 + 1) (below_over HB3.out HIY.out.below) hrb (no_union (HAL.out.1 rfl) HK.out HAX.out HAY.out HNO.out))
                  have X7 := HR.out wy HIY.out.below
                  have HX8 := Lib.hid X7
                  go_upto_region 30 with fail
                  go_wp2_with (first | ((with_reducible refine wpList_putRow 25 (w.heap.size + 1 + 1) #[.int .i64 0, .string ⟨#[]⟩, .int .i64 0, .string ⟨#[]⟩, .string ⟨#[]⟩, .slice none 0 0, .slice none 0 0] _ _ X7 ?_ ?_ ?_ ?_ ?_ ?_); exact tySize; rfl; exact tyOne; (focus (first | (go_simp; done) | rfl)); (focus (first | (go_simp; done) | rfl))))
                  exact ret_agg (fn := Try.f17) (vs := [.int .i64 0, .string ⟨#[]⟩, .int .i64 0, .string ⟨#[]⟩, .string ⟨#[]⟩, .slice none 0 0, .slice none 0 0]) (b := w.heap.size + 1 + 1) rfl rfl rfl Try.underlying25 (by kernel_rfl) (cell7 (setRow_heap _ (w.heap.size + 1 + 1) _ _ _ _ HX8.out)) rfl FIN.out
                | false =>
                  have HPN := Lib.hid (HP.out.skip HS.out rfl (fun x' y' hx' hy' => by
                    obtain rfl := GA.out.one hx' HAX.out
                    obtain rfl := GB.out.one hy' HAY.out
                    exact HNO.out))
                  go_wp2_with fail
                  go_roundw
                  case rel => exact ⟨k + 1, t, _, by omega, by go_num, HIY, HPN⟩
                  case measure => simp [intOf]; omega
      · have HKN : Hid (RbI up al a b a.names.length t) := Lib.hid (by have e : k = n := by omega
                                                                       rw [← HN.out.1, ← e]; exact HP.out)
        have HJ0 := Lib.hid HKN.out.next
        clear HP HKN
        obtain ⟨wq, rfl⟩ : ∃ wq : World, wq = wo := ⟨_, rfl⟩
        clear x6 y6
        go_wp2_with fail
        clear x5 y5
        go_loopw [18] (fun s18 wr => ∃ (k : Nat) (t : Ty) (l : List Value), k ≤ r ∧ s18 = .int .i64 k ∧ Hid (RbW w0 w W3 t l wr) ∧ Hid (RbJ up al a b k t)) (fun s18 _ => r - (intOf s18).toNat)
        case atStart => exact ⟨0, t, l, by omega, rfl, HI, HJ0⟩
        case round =>
          obtain ⟨k, t, l, hkn, rfl, HI, HP⟩ := hrel
          obtain ⟨wo, rfl⟩ : ∃ wo : World, wo = wr := ⟨_, rfl⟩
          obtain ⟨x5, x6⟩ := HCA.out wo HI.out.below
          obtain ⟨y5, y6⟩ := HCB.out wo HI.out.below
          by_cases hlt : k < r
          · obtain ⟨s, hs⟩ : ∃ s, b.names[k]? = some s := at_some (by rw [← HRR.out.1]; exact hlt)
            obtain ⟨y, hy⟩ : ∃ y, b.subs[k]? = some y := at_some (by rw [← HRR.out.2]; exact hlt)
            have HS := Lib.hid hs
            have HYI := Lib.hid hy
            have HB0 : Hid (Below w0.heap.size w0 wo) := Lib.hid (below_over HW0.out (below_over HB3.out HI.out.below))
            have HGR : Hid (Gro a.kind (a.names.length + k) t) := Lib.hid HP.out.gro
            obtain ⟨gn, on, rfl, hgn, hcn, hzs⟩ := HNB.out k s hs
            have HZ := Lib.hid hzs
            obtain ⟨g1, o1, v0, v1, v2, v3, v4, v5, v6, rfl, hg1, h0, h1, h2, h3, h4, h5, h6, hx7⟩ := HSB.out k y hy
            obtain ⟨Gn, cG, Gs, dG, rfl, rfl, rfl, rfl, rfl, rfl, rfl⟩ := hx7.seven
            have HY7 := Lib.hid hx7
            have HEL : Hid (∀ wx, Below wo.heap.size wo wx → wx.cell? ⟨gn, on + k, none⟩ = some (.string s) ∧ wx.cell? ⟨g1, o1 + k * 7, none⟩ = some (.int .i64 y.kind) ∧ wx.cell? ⟨g1, o1 + k * 7 + 1, none⟩ = some (.string y.pkg) ∧ wx.cell? ⟨g1, o1 + k * 7 + 2, none⟩ = some (.int .i64 y.major) ∧ wx.cell? ⟨g1, o1 + k * 7 + 3, none⟩ = some (.string y.mod) ∧ wx.cell? ⟨g1, o1 + k * 7 + 4, none⟩ = some (.string y.name) ∧ wx.cell? ⟨g1, o1 + k * 7 + 5, none⟩ = some (.slice Gn y.names.length cG) ∧ wx.cell? ⟨g1, o1 + k * 7 + 6, none⟩ = some (.slice Gs y.subs.length dG)) := Lib.hid (fun wx hb => by
              have hb0 := below_over HB0.out hb
              have t1 := fun (q : Nat) (v : Value) (hv : w0.cell? ⟨g1, q, none⟩ = some v) => (hb0.cell (p := ⟨g1, q, none⟩) hg1).trans hv
              exact ⟨(hb0.cell (p := ⟨gn, _, none⟩) hgn).trans hcn, t1 _ _ h0, t1 _ _ h1, t1 _ _ h2, t1 _ _ h3, t1 _ _ h4, t1 _ _ h5, t1 _ _ h6⟩)
            obtain ⟨Pn, cP, Ps, dP, rfl, -⟩ := HI.out.typ.parts
            obtain ⟨J, hJ⟩ : ∃ J, J = optN (ofB a.names s) := ⟨_, rfl⟩
            have HJ := Lib.hid hJ
            have hk0 : (0 : Int) ≤ k := by omega
            have hk1 : (k : Int) < r := by omega
            have cnm := (HEL.out wo (Below.refl _ _)).1
            clear h0 h1 h2 h3 h4 h5 h6 hx7 hy hs hg1 hgn hcn hzs hJ x6 y6
            cases al with
            | false =>
              have HPN := Lib.hid (HP.out.skip HS.out (fun h => by cases h))
              have cO : ∀ dd os, Calls Try.prog 25 #[.slice An n cA, .string s] (Sort.grow (redrawn wo dd) os) fun e w'' => e = .returned (.int .i64 J) ∧ ∃ pp : Regrown, w'' = Sort.grow (redrawn wo pp.d) pp.os := fun dd os => Calls.regrown_of (by
                rw [HJ.out]; exact rof9_any An n cA a.names s _ HN.out.1 (by omega) (HNA.out.below (below_over HB0.out (below_regrown wo dd os))))
              go_upto_region 36 with fail
              have e1 := cell_regrown x5
              have e2 := cell_regrown y5
              have e3 := cell_regrown cnm
              clear x5 y5 cnm
              refine wp_region_quiet_below (by kernel_rfl) (by kernel_rfl) ?_
              repeat (any_goals (first | go_big_quiet_step (with_reducible exact cO _ _) | quiet_step (with_reducible exact cO _ _)))
              refine wpQuiet_nil ?_
              intro wp hw'
              have HIP := Lib.hid (HI.out.keep (wr' := wp) (by
                obtain ⟨⟨dq, osq⟩, hw''⟩ := hw'
                rw [hw'']
                exact below_regrown wo dq osq))
              have HBP : Hid (Below wo.heap.size wo wp) := Lib.hid (by
                obtain ⟨⟨dq, osq⟩, hw''⟩ := hw'
                rw [hw'']
                exact below_regrown wo dq osq)
              clear hw' cO
              clear e1 e2 e3
              go_wp2_with fail
              go_roundw
              case rel => exact ⟨k + 1, t, _, by omega, by go_num, HIP, HPN⟩
              case measure => simp [intOf]; omega
            | true =>
              have cO : ∀ dd os, Calls Try.prog 25 #[.slice An n cA, .string s] (Sort.grow (redrawn wo dd) os) fun e w'' => e = .returned (.int .i64 J) ∧ ∃ pp : Regrown, w'' = Sort.grow (redrawn wo pp.d) pp.os := fun dd os => Calls.regrown_of (by
                rw [HJ.out]; exact rof9_any An n cA a.names s _ HN.out.1 (by omega) (HNA.out.below (below_over HB0.out (below_regrown wo dd os))))
              go_upto_region 36 with fail
              have e1 := cell_regrown x5
              have e2 := cell_regrown y5
              have e3 := cell_regrown cnm
              clear x5 y5 cnm
              refine wp_region_quiet_below (by kernel_rfl) (by kernel_rfl) ?_
              repeat (any_goals (first | go_big_quiet_step (with_reducible exact cO _ _) | quiet_step (with_reducible exact cO _ _)))
              refine wpQuiet_nil ?_
              intro wp hw'
              have HIP := Lib.hid (HI.out.keep (wr' := wp) (by
                obtain ⟨⟨dq, osq⟩, hw''⟩ := hw'
                rw [hw'']
                exact below_regrown wo dq osq))
              have HBP : Hid (Below wo.heap.size wo wp) := Lib.hid (by
                obtain ⟨⟨dq, osq⟩, hw''⟩ := hw'
                rw [hw'']
                exact below_regrown wo dq osq)
              clear hw' cO
              clear e1 e2 e3
              cases hj : ofB a.names s with
              | none =>
                as_aux_lemma =>
                  have HNOX : Hid (∀ x, ¬ AtN a s x) := Lib.hid (fun x hx => ofB_none hj hx.name)
                  obtain rfl : J = -1 := by rw [HJ.out, hj]; rfl
                  clear hj
                  have KEEP : Hid (∀ wx : World, Below wp.heap.size wp wx → wx.cell? ⟨w.heap.size + 1 + 1 + 1, 0, none⟩ = some (.int .i64 t.kind) ∧ wx.cell? ⟨w.heap.size + 1 + 1 + 1, 1, none⟩ = some (.string t.pkg) ∧ wx.cell? ⟨w.heap.size + 1 + 1 + 1, 2, none⟩ = some (.int .i64 t.major) ∧ wx.cell? ⟨w.heap.size + 1 + 1 + 1, 3, none⟩ = some (.string t.mod) ∧ wx.cell? ⟨w.heap.size + 1 + 1 + 1, 4, none⟩ = some (.string t.name) ∧ wx.cell? ⟨w.heap.size + 1 + 1 + 1, 5, none⟩ = some (.slice Pn t.names.length cP) ∧ wx.cell? ⟨w.heap.size + 1 + 1 + 1, 6, none⟩ = some (.slice Ps t.subs.length dP) ∧ wx.cell? ⟨w.heap.size + 1, 5, none⟩ = some (.slice (some ⟨gn, on, none⟩) r cB) ∧ wx.cell? ⟨w.heap.size + 1, 6, none⟩ = some (.slice (some ⟨g1, o1, none⟩) r cD) ∧ wx.cell? ⟨gn, on + k, none⟩ = some (.string s) ∧ wx.cell? ⟨g1, o1 + k * 7, none⟩ = some (.int .i64 y.kind) ∧ wx.cell? ⟨g1, o1 + k * 7 + 1, none⟩ = some (.string y.pkg) ∧ wx.cell? ⟨g1, o1 + k * 7 + 2, none⟩ = some (.int .i64 y.major) ∧ wx.cell? ⟨g1, o1 + k * 7 + 3, none⟩ = some (.string y.mod) ∧ wx.cell? ⟨g1, o1 + k * 7 + 4, none⟩ = some (.string y.name) ∧ wx.cell? ⟨g1, o1 + k * 7 + 5, none⟩ = some (.slice Gn y.names.length cG) ∧ wx.cell? ⟨g1, o1 + k * 7 + 6, none⟩ = some (.slice Gs y.subs.length dG)) := Lib.hid (fun wx hb => by
                    have hI := HIP.out.keep hb
                    have hE := HEL.out wx (below_over HBP.out hb)
                    have hA := HCB.out wx hI.below
                    have z0 := Lib.cell_of_heap hI.box 0
                    have z1 := Lib.cell_of_heap hI.box 1
                    have z2 := Lib.cell_of_heap hI.box 2
                    have z3 := Lib.cell_of_heap hI.box 3
                    have z4 := Lib.cell_of_heap hI.box 4
                    have z5 := Lib.cell_of_heap hI.box 5
                    have z6 := Lib.cell_of_heap hI.box 6
                    exact ⟨z0, z1, z2, z3, z4, z5, z6, hA.1, hA.2, hE⟩)
                  have CT := Lib.hid (fun (w' : World) (hb' : Below wp.heap.size wp w') => put_any (fun k => w0.heap.size ≤ k ∧ k < w.heap.size + 1 + 1 + 1 + 1) t s y [.int .i64 t.kind, .string t.pkg, .int .i64 t.major, .string t.mod, .string t.name, .slice Pn t.names.length cP, .slice Ps t.subs.length dP] [.int .i64 y.kind, .string y.pkg, .int .i64 y.major, .string y.mod, .string y.name, .slice Gn y.names.length cG, .slice Gs y.subs.length dG] w' (fun k hk => by have h1 := HIP.out.size; have h2 := hb'.size; omega) (HIP.out.keep hb').typ ((HY7.out.base (below_over HB0.out (below_over HBP.out hb')) (fun k hk => hk.1))) HGR.out.len (by have := HGR.out.cnt; have h1 := HN.out.1; have h2 := HRR.out.1; omega) HZ.out)
                  go_upto_region 37 with fail
                  have hH0 := KEEP.out wp.drew (Below.drew (Below.refl _ _))
                  refine AnyX.start (fun wx => wx.cell? ⟨w.heap.size + 1 + 1 + 1, 0, none⟩ = some (.int .i64 t.kind) ∧ wx.cell? ⟨w.heap.size + 1 + 1 + 1, 1, none⟩ = some (.string t.pkg) ∧ wx.cell? ⟨w.heap.size + 1 + 1 + 1, 2, none⟩ = some (.int .i64 t.major) ∧ wx.cell? ⟨w.heap.size + 1 + 1 + 1, 3, none⟩ = some (.string t.mod) ∧ wx.cell? ⟨w.heap.size + 1 + 1 + 1, 4, none⟩ = some (.string t.name) ∧ wx.cell? ⟨w.heap.size + 1 + 1 + 1, 5, none⟩ = some (.slice Pn t.names.length cP) ∧ wx.cell? ⟨w.heap.size + 1 + 1 + 1, 6, none⟩ = some (.slice Ps t.subs.length dP) ∧ wx.cell? ⟨w.heap.size + 1, 5, none⟩ = some (.slice (some ⟨gn, on, none⟩) r cB) ∧ wx.cell? ⟨w.heap.size + 1, 6, none⟩ = some (.slice (some ⟨g1, o1, none⟩) r cD) ∧ wx.cell? ⟨gn, on + k, none⟩ = some (.string s) ∧ wx.cell? ⟨g1, o1 + k * 7, none⟩ = some (.int .i64 y.kind) ∧ wx.cell? ⟨g1, o1 + k * 7 + 1, none⟩ = some (.string y.pkg) ∧ wx.cell? ⟨g1, o1 + k * 7 + 2, none⟩ = some (.int .i64 y.major) ∧ wx.cell? ⟨g1, o1 + k * 7 + 3, none⟩ = some (.string y.mod) ∧ wx.cell? ⟨g1, o1 + k * 7 + 4, none⟩ = some (.string y.name) ∧ wx.cell? ⟨g1, o1 + k * 7 + 5, none⟩ = some (.slice Gn y.names.length cG) ∧ wx.cell? ⟨g1, o1 + k * 7 + 6, none⟩ = some (.slice Gs y.subs.length dG)) (fun k => k == 12) (by kernel_rfl) ?_
                  refine AnyX.take (i := 0) (v := ?_) rfl (by kernel_rfl) (by kernel_rfl) (by kernel_rfl) (by kernel_rfl) (by kernel_rfl) (fun _ _ _ h => h) hH0 (Or.inl ⟨by rfl, ?_⟩) ?_
                  rotate_left
                  · (intro wS hS; (try obtain ⟨b0, b1, b2, b3, b4, b5, b6, m0, m1, n0, c0, c1, c2, c3, c4, c5', c6'⟩ := hS); go_simp; try with_reducible rfl)
                  simp only [List.getElem_toArray, List.getElem_cons_succ, List.getElem_cons_zero]
                  simp only [Act.put, List.setIfInBounds_toArray]
                  simp only [List.set_cons_zero, List.set_cons_succ]
                  refine AnyX.move (i := 1) (v := ?_) rfl (by kernel_rfl) (by kernel_rfl) (by kernel_rfl) (by kernel_rfl) (fun _ _ _ h => h) (Or.inl ⟨by rfl, ?_⟩) ?_
                  rotate_left
                  · (intro wS _; go_simp; try with_reducible rfl)
                  simp only [List.getElem_toArray, List.getElem_cons_succ, List.getElem_cons_zero]
                  simp only [Act.put, List.setIfInBounds_toArray]
                  simp only [List.set_cons_zero, List.set_cons_succ]
                  refine AnyX.take (i := 2) (v := ?_) rfl (by kernel_rfl) (by kernel_rfl) (by kernel_rfl) (by kernel_rfl) (by kernel_rfl) (fun _ _ _ h => h) hH0 (Or.inl ⟨by rfl, ?_⟩) ?_
                  rotate_left
                  · (intro wS hS; (try obtain ⟨b0, b1, b2, b3, b4, b5, b6, m0, m1, n0, c0, c1, c2, c3, c4, c5', c6'⟩ := hS); go_simp; try with_reducible rfl)
                  simp only [List.getElem_toArray, List.getElem_cons_succ, List.getElem_cons_zero]
                  simp only [Act.put, List.setIfInBounds_toArray]
                  simp only [List.set_cons_zero, List.set_cons_succ]
                  refine AnyX.move (i := 3) (v := ?_) rfl (by kernel_rfl) (by kernel_rfl) (by kernel_rfl) (by kernel_rfl) (fun _ _ _ h => h) (Or.inl ⟨by rfl, ?_⟩) ?_
                  rotate_left
                  · (intro wS _; go_simp; try with_reducible rfl)
                  simp only [List.getElem_toArray, List.getElem_cons_succ, List.getElem_cons_zero]
                  simp only [Act.put, List.setIfInBounds_toArray]
                  simp only [List.set_cons_zero, List.set_cons_succ]
                  refine AnyX.move (i := 4) (v := ?_) rfl (by kernel_rfl) (by kernel_rfl) (by kernel_rfl) (by kernel_rfl) (fun _ _ _ h => h) (Or.inl ⟨by rfl, ?_⟩) ?_
                  rotate_left
                  · (intro wS _; go_simp; try with_reducible rfl)
                  simp only [List.getElem_toArray, List.getElem_cons_succ, List.getElem_cons_zero]
                  simp only [Act.put, List.setIfInBounds_toArray]
                  simp only [List.set_cons_zero, List.set_cons_succ]
                  refine AnyX.take (i := 5) (v := ?_) rfl (by kernel_rfl) (by kernel_rfl) (by kernel_rfl) (by kernel_rfl) (by kernel_rfl) (fun _ _ _ h => h) hH0 (Or.inl ⟨by rfl, ?_⟩) ?_
                  rotate_left
                  · (intro wS hS; (try obtain ⟨b0, b1, b2, b3, b4, b5, b6, m0, m1, n0, c0, c1, c2, c3, c4, c5', c6'⟩ := hS); go_simp; try with_reducible rfl)
                  simp only [List.getElem_toArray, List.getElem_cons_succ, List.getElem_cons_zero]
                  simp only [Act.put, List.setIfInBounds_toArray]
                  simp only [List.set_cons_zero, List.set_cons_succ]
                  refine AnyX.move (i := 6) (v := ?_) rfl (by kernel_rfl) (by kernel_rfl) (by kernel_rfl) (by kernel_rfl) (fun _ _ _ h => h) (Or.inl ⟨by rfl, ?_⟩) ?_
                  rotate_left
                  · (intro wS _; go_simp; try with_reducible rfl)
                  simp only [List.getElem_toArray, List.getElem_cons_succ, List.getElem_cons_zero]
                  simp only [Act.put, List.setIfInBounds_toArray]
                  simp only [List.set_cons_zero, List.set_cons_succ]
                  refine AnyX.take (i := 7) (v := ?_) rfl (by kernel_rfl) (by kernel_rfl) (by kernel_rfl) (by kernel_rfl) (by kernel_rfl) (fun _ _ _ h => h) hH0 (Or.inl ⟨by rfl, ?_⟩) ?_
                  rotate_left
                  · (intro wS hS; (try obtain ⟨b0, b1, b2, b3, b4, b5, b6, m0, m1, n0, c0, c1, c2, c3, c4, c5', c6'⟩ := hS); go_simp; try with_reducible rfl)
                  simp only [List.getElem_toArray, List.getElem_cons_succ, List.getElem_cons_zero]
                  simp only [Act.put, List.setIfInBounds_toArray]
                  simp only [List.set_cons_zero, List.set_cons_succ]
                  refine AnyX.move (i := 8) (v := ?_) rfl (by kernel_rfl) (by kernel_rfl) (by kernel_rfl) (by kernel_rfl) (fun _ _ _ h => h) (Or.inl ⟨by rfl, ?_⟩) ?_
                  rotate_left
                  · (intro wS _; go_simp; try with_reducible rfl)
                  simp only [List.getElem_toArray, List.getElem_cons_succ, List.getElem_cons_zero]
                  simp only [Act.put, List.setIfInBounds_toArray]
                  simp only [List.set_cons_zero, List.set_cons_succ]
                  refine AnyX.move (i := 9) (v := ?_) rfl (by kernel_rfl) (by kernel_rfl) (by kernel_rfl) (by kernel_rfl) (fun _ _ _ h => h) (Or.inl ⟨by rfl, ?_⟩) ?_
                  rotate_left
                  · (intro wS _; go_simp; try with_reducible rfl)
                  simp only [List.getElem_toArray, List.getElem_cons_succ, List.getElem_cons_zero]
                  simp only [Act.put, List.setIfInBounds_toArray]
                  simp only [List.set_cons_zero, List.set_cons_succ]
                  refine AnyX.take (i := 10) (v := ?_) rfl (by kernel_rfl) (by kernel_rfl) (by kernel_rfl) (by kernel_rfl) (by kernel_rfl) (fun _ _ _ h => h) hH0 (Or.inl ⟨by rfl, ?_⟩) ?_
                  rotate_left
                  · (intro wS hS; (try obtain ⟨b0, b1, b2, b3, b4, b5, b6, m0, m1, n0, c0, c1, c2, c3, c4, c5', c6'⟩ := hS); go_simp; try with_reducible rfl)
                  simp only [List.getElem_toArray, List.getElem_cons_succ, List.getElem_cons_zero]
                  simp only [Act.put, List.setIfInBounds_toArray]
                  simp only [List.set_cons_zero, List.set_cons_succ]
                  refine AnyX.go 11 (by kernel_rfl) rfl rfl (fun K hK => ?_)
                  simp only [List.getElem_toArray, List.getElem_cons_succ, List.getElem_cons_zero]
                  go_simp
                  refine (CT.out wp.drew (Below.drew (Below.refl _ _))).mono ?_
                  rintro e w2 ⟨l2, rfl, hT2, hb2⟩
                  have hB2 : Below wp.heap.size wp w2 := Below.trans (Below.drew (Below.refl wp.heap.size wp)) hb2
                  have X2 := (HIP.out.keep hB2).box
                  have NEW := Lib.hid (HIP.out.put HS3.out hB2 hT2 hw00)
                  obtain ⟨Qn, cQ, Qs, dQ, rfl, -⟩ := hT2.parts
                  simp only []
                  refine hK.out _ _ (fun hoff _ => KEEP.out w2 hB2) ?_
                  clear hK
                  try simp only [Act.put, List.setIfInBounds_toArray]
                  try simp only [List.set_cons_zero, List.set_cons_succ]
                  refine AnyX.go 12 (by kernel_rfl) rfl rfl (fun K hK => ?_)
                  simp only [List.getElem_toArray, List.getElem_cons_succ, List.getElem_cons_zero]
                  refine wp_store_row 25 (.tmp 8) (.tmp 185) rfl (w.heap.size + 1 + 1 + 1) #[.int .i64 (putT t s y).kind, .string (putT t s y).pkg, .int .i64 (putT t s y).major, .string (putT t s y).mod, .string (putT t s y).name, .slice Qn (putT t s y).names.length cQ, .slice Qs (putT t s y).subs.length dQ] rfl rfl _ _ X2 tySize rfl tyOne ?_
                  refine hK.out _ _ (fun hoff _ => absurd hoff (by decide)) ?_
                  clear hK
                  try simp only [Act.put, List.setIfInBounds_toArray]
                  try simp only [List.set_cons_zero, List.set_cons_succ]
                  refine AnyX.done (by kernel_rfl) ?_ _
                  clear CT KEEP X2 hH0
                  have HPN := Lib.hid (HP.out.put GB.out HS.out HYI.out rfl HNOX.out)
                  go_wp2_with fail
                  go_roundw
                  case rel => exact ⟨k + 1, _, _, by omega, by go_num, NEW, HPN⟩
                  case measure => simp [intOf]; omega
              | some j =>
                as_aux_lemma =>
                  have hjs := ofB_some hj
                  have hjl := (List.getElem?_eq_some_iff.1 hjs).1
                  obtain ⟨x', hx'⟩ : ∃ x', a.subs[j]? = some x' := at_some (by rw [← HN.out.2, HN.out.1]; exact hjl)
                  have HPN := Lib.hid (HP.out.skip HS.out (fun _ => ⟨x', j, hjs, hx'⟩))
                  obtain rfl : J = (j : Int) := by rw [HJ.out, hj]; rfl
                  have hj2 : ¬ (j : Int) < 0 := by omega
                  clear hj hjs hjl hx'
                  go_wp2_with fail
                  go_roundw
                  case rel => exact ⟨k + 1, t, _, by omega, by go_num, HIP, HPN⟩
                  case measure => simp [intOf]; omega
          · have HJE : Hid (RbJ up al a b b.names.length t) := Lib.hid (by have e : k = r := by omega
                                                                           rw [← HRR.out.1, ← e]; exact HP.out)
            have HEND := Lib.hid (HJE.out.end_ GA.out GB.out H56.out HK.out HAL.out.1 HAL.out.2)
            obtain ⟨Pn, cP, Ps, dP, rfl, -⟩ := HI.out.typ.parts
            clear HP HJE x5 x6 y6
            obtain ⟨qq, hqq⟩ : ∃ qq : Bool, qq = decide ((0 : Int) < t.names.length) := ⟨_, rfl⟩
            have HQT : Hid (RbOut w0 up a b w (.returned (.tuple #[.agg #[.int .i64 t.kind, .string t.pkg, .int .i64 t.major, .string t.mod, .string t.name, .slice Pn t.names.length cP, .slice Ps t.subs.length dP], .bool qq])) (wo.drew.setRow (w.heap.size + 1 + 1) #[.int .i64 t.kind, .string t.pkg, .int .i64 t.major, .string t.mod, .string t.name, .slice Pn t.names.length cP, .slice Ps t.subs.length dP])) := Lib.hid ((HI.out.keep (Below.drew (Below.refl _ _))).done HB3.out hw00 qq (fun e => HEND.out.1 (.inr (fun hn => by rw [hqq, hn] at e; simp at e))) (fun e => HEND.out.2 (fun hor => by
              rcases hor with h | h
              · have := HQ5.out; rw [h] at this; simp at this
              · have := List.length_pos_iff.2 h
                rw [hqq] at e
                have := of_decide_eq_false e
                omega)))
            have HQQ : Hid (decide (0 < t.names.length) = qq) := Lib.hid (by rw [hqq]; exact decide_eq_decide.2 (by omega))
            clear hqq
            have X7 := HR.out wo.drew (below_over HI.out.below (Below.drew (Below.refl _ _)))
            have hH0 : (fun wx : World => wx.cell? ⟨w.heap.size + 1 + 1 + 1, 0, none⟩ = some (.int .i64 t.kind) ∧ wx.cell? ⟨w.heap.size + 1 + 1 + 1, 1, none⟩ = some (.string t.pkg) ∧ wx.cell? ⟨w.heap.size + 1 + 1 + 1, 2, none⟩ = some (.int .i64 t.major) ∧ wx.cell? ⟨w.heap.size + 1 + 1 + 1, 3, none⟩ = some (.string t.mod) ∧ wx.cell? ⟨w.heap.size + 1 + 1 + 1, 4, none⟩ = some (.string t.name) ∧ wx.cell? ⟨w.heap.size + 1 + 1 + 1, 5, none⟩ = some (.slice Pn t.names.length cP) ∧ wx.cell? ⟨w.heap.size + 1 + 1 + 1, 6, none⟩ = some (.slice Ps t.subs.length dP) ∧ wx.cell? ⟨w.heap.size, 0, none⟩ = some (.int .i64 a.kind)) wo.drew := by
              have hI := HI.out.keep (Below.drew (Below.refl _ _))
              have z0 := Lib.cell_of_heap hI.box 0
              have z1 := Lib.cell_of_heap hI.box 1
              have z2 := Lib.cell_of_heap hI.box 2
              have z3 := Lib.cell_of_heap hI.box 3
              have z4 := Lib.cell_of_heap hI.box 4
              have z5 := Lib.cell_of_heap hI.box 5
              have z6 := Lib.cell_of_heap hI.box 6
              exact ⟨z0, z1, z2, z3, z4, z5, z6, HXK.out _ hI.below⟩
            have hB38 : (fun wx : World => wx.cell? ⟨w.heap.size + 1 + 1 + 1, 0, none⟩ = some (.int .i64 t.kind) ∧ wx.cell? ⟨w.heap.size + 1 + 1 + 1, 1, none⟩ = some (.string t.pkg) ∧ wx.cell? ⟨w.heap.size + 1 + 1 + 1, 2, none⟩ = some (.int .i64 t.major) ∧ wx.cell? ⟨w.heap.size + 1 + 1 + 1, 3, none⟩ = some (.string t.mod) ∧ wx.cell? ⟨w.heap.size + 1 + 1 + 1, 4, none⟩ = some (.string t.name) ∧ wx.cell? ⟨w.heap.size + 1 + 1 + 1, 5, none⟩ = some (.slice Pn t.names.length cP) ∧ wx.cell? ⟨w.heap.size + 1 + 1 + 1, 6, none⟩ = some (.slice Ps t.subs.length dP) ∧ wx.cell? ⟨w.heap.size, 0, none⟩ = some (.int .i64 a.kind)) (wo.drew.setRow (w.heap.size + 1 + 1) #[.int .i64 t.kind, .string t.pkg, .int .i64 t.major, .string t.mod, .string t.name, .slice Pn t.names.length cP, .slice Ps t.subs.length dP]) := by
              have hI := (HI.out.keep (Below.drew (Below.refl _ _)))
              have hx : (wo.drew.setRow (w.heap.size + 1 + 1) #[.int .i64 t.kind, .string t.pkg, .int .i64 t.major, .string t.mod, .string t.name, .slice Pn t.names.length cP, .slice Ps t.subs.length dP]).heap[w.heap.size + 1 + 1 + 1]? = some (.cells #[.int .i64 t.kind, .string t.pkg, .int .i64 t.major, .string t.mod, .string t.name, .slice Pn t.names.length cP, .slice Ps t.subs.length dP] 25 (0, 0)) := (setRow_other _ _ _ _ (by omega)).trans hI.box
              have hy : (wo.drew.setRow (w.heap.size + 1 + 1) #[.int .i64 t.kind, .string t.pkg, .int .i64 t.major, .string t.mod, .string t.name, .slice Pn t.names.length cP, .slice Ps t.subs.length dP]).heap[w.heap.size]? = wo.drew.heap[w.heap.size]? := setRow_other _ _ _ _ (by omega)
              exact ⟨Lib.cell_of_heap hx 0, Lib.cell_of_heap hx 1, Lib.cell_of_heap hx 2, Lib.cell_of_heap hx 3, Lib.cell_of_heap hx 4, Lib.cell_of_heap hx 5, Lib.cell_of_heap hx 6, (World.cell?_of_block (a := ⟨w.heap.size, 0, none⟩) hy).trans (HXK.out _ hI.below)⟩
            have HX8 := Lib.hid X7
            go_upto_region 38 with fail
            clear y5
            go_cut [7] (fun s7 wx => s7 = .bool qq ∧ wx = wo.drew.setRow (w.heap.size + 1 + 1) #[.int .i64 t.kind, .string t.pkg, .int .i64 t.major, .string t.mod, .string t.name, .slice Pn t.names.length cP, .slice Ps t.subs.length dP])
            case first =>
              refine AnyX.start (fun wx => wx.cell? ⟨w.heap.size + 1 + 1 + 1, 0, none⟩ = some (.int .i64 t.kind) ∧ wx.cell? ⟨w.heap.size + 1 + 1 + 1, 1, none⟩ = some (.string t.pkg) ∧ wx.cell? ⟨w.heap.size + 1 + 1 + 1, 2, none⟩ = some (.int .i64 t.major) ∧ wx.cell? ⟨w.heap.size + 1 + 1 + 1, 3, none⟩ = some (.string t.mod) ∧ wx.cell? ⟨w.heap.size + 1 + 1 + 1, 4, none⟩ = some (.string t.name) ∧ wx.cell? ⟨w.heap.size + 1 + 1 + 1, 5, none⟩ = some (.slice Pn t.names.length cP) ∧ wx.cell? ⟨w.heap.size + 1 + 1 + 1, 6, none⟩ = some (.slice Ps t.subs.length dP) ∧ wx.cell? ⟨w.heap.size, 0, none⟩ = some (.int .i64 a.kind)) (fun _ => false) (by kernel_rfl) ?_
              refine AnyX.take (i := 0) (v := ?_) rfl (by kernel_rfl) (by kernel_rfl) (by kernel_rfl) (by kernel_rfl) (by kernel_rfl) (fun _ _ _ h => h) hH0 (Or.inl ⟨by rfl, ?_⟩) ?_
              rotate_left
              · (intro wS hS; (try obtain ⟨b0, b1, b2, b3, b4, b5, b6, m0⟩ := hS); go_simp; try with_reducible rfl)
              simp only [List.getElem_toArray, List.getElem_cons_succ, List.getElem_cons_zero]
              simp only [Act.put, List.setIfInBounds_toArray]
              simp only [List.set_cons_zero, List.set_cons_succ]
              refine AnyX.move (i := 1) (v := ?_) rfl (by kernel_rfl) (by kernel_rfl) (by kernel_rfl) (by kernel_rfl) (fun _ _ _ h => h) (Or.inl ⟨by rfl, ?_⟩) ?_
              rotate_left
              · (intro wS _; go_simp; try with_reducible rfl)
              simp only [List.getElem_toArray, List.getElem_cons_succ, List.getElem_cons_zero]
              simp only [Act.put, List.setIfInBounds_toArray]
              simp only [List.set_cons_zero, List.set_cons_succ]
              refine AnyX.take (i := 2) (v := ?_) rfl (by kernel_rfl) (by kernel_rfl) (by kernel_rfl) (by kernel_rfl) (by kernel_rfl) (fun _ _ _ h => h) hH0 (Or.inl ⟨by rfl, ?_⟩) ?_
              rotate_left
              · (intro wS hS; (try obtain ⟨b0, b1, b2, b3, b4, b5, b6, m0⟩ := hS); go_simp; try with_reducible rfl)
              simp only [List.getElem_toArray, List.getElem_cons_succ, List.getElem_cons_zero]
              simp only [Act.put, List.setIfInBounds_toArray]
              simp only [List.set_cons_zero, List.set_cons_succ]
              refine AnyX.move (i := 3) (v := ?_) rfl (by kernel_rfl) (by kernel_rfl) (by kernel_rfl) (by kernel_rfl) (fun _ _ _ h => h) (Or.inl ⟨by rfl, ?_⟩) ?_
              rotate_left
              · (intro wS _; go_simp; try with_reducible rfl)
              simp only [List.getElem_toArray, List.getElem_cons_succ, List.getElem_cons_zero]
              simp only [Act.put, List.setIfInBounds_toArray]
              simp only [List.set_cons_zero, List.set_cons_succ]
              refine AnyX.move (i := 4) (v := ?_) rfl (by kernel_rfl) (by kernel_rfl) (by kernel_rfl) (by kernel_rfl) (fun _ _ _ h => h) (Or.inl ⟨by rfl, ?_⟩) ?_
              rotate_left
              · (intro wS _; go_simp; try with_reducible rfl)
              simp only [List.getElem_toArray, List.getElem_cons_succ, List.getElem_cons_zero]
              simp only [Act.put, List.setIfInBounds_toArray]
              simp only [List.set_cons_zero, List.set_cons_succ]
              refine AnyX.move (i := 5) (v := ?_) rfl (by kernel_rfl) (by kernel_rfl) (by kernel_rfl) (by kernel_rfl) (fun _ _ _ h => h) (Or.inl ⟨by rfl, ?_⟩) ?_
              rotate_left
              · (intro wS _; go_simp; try with_reducible rfl)
              simp only [List.getElem_toArray, List.getElem_cons_succ, List.getElem_cons_zero]
              simp only [Act.put, List.setIfInBounds_toArray]
              simp only [List.set_cons_zero, List.set_cons_succ]
              refine AnyX.take (i := 6) (v := ?_) rfl (by kernel_rfl) (by kernel_rfl) (by kernel_rfl) (by kernel_rfl) (by kernel_rfl) (fun _ _ _ h => h) hH0 (Or.inl ⟨by rfl, ?_⟩) ?_
              rotate_left
              · (intro wS hS; (try obtain ⟨b0, b1, b2, b3, b4, b5, b6, m0⟩ := hS); go_simp; try with_reducible rfl)
              simp only [List.getElem_toArray, List.getElem_cons_succ, List.getElem_cons_zero]
              simp only [Act.put, List.setIfInBounds_toArray]
              simp only [List.set_cons_zero, List.set_cons_succ]
              refine AnyX.move (i := 7) (v := ?_) rfl (by kernel_rfl) (by kernel_rfl) (by kernel_rfl) (by kernel_rfl) (fun _ _ _ h => h) (Or.inl ⟨by rfl, ?_⟩) ?_
              rotate_left
              · (intro wS _; go_simp; try with_reducible rfl)
              simp only [List.getElem_toArray, List.getElem_cons_succ, List.getElem_cons_zero]
              simp only [Act.put, List.setIfInBounds_toArray]
              simp only [List.set_cons_zero, List.set_cons_succ]
              refine AnyX.move (i := 8) (v := ?_) rfl (by kernel_rfl) (by kernel_rfl) (by kernel_rfl) (by kernel_rfl) (fun _ _ _ h => h) (Or.inl ⟨by rfl, ?_⟩) ?_
              rotate_left
              · (intro wS _; go_simp; try with_reducible rfl)
              simp only [List.getElem_toArray, List.getElem_cons_succ, List.getElem_cons_zero]
              simp only [Act.put, List.setIfInBounds_toArray]
              simp only [List.set_cons_zero, List.set_cons_succ]
              refine AnyX.move (i := 9) (v := ?_) rfl (by kernel_rfl) (by kernel_rfl) (by kernel_rfl) (by kernel_rfl) (fun _ _ _ h => h) (Or.inl ⟨by rfl, ?_⟩) ?_
              rotate_left
              · (intro wS _; go_simp; try with_reducible rfl)
              simp only [List.getElem_toArray, List.getElem_cons_succ, List.getElem_cons_zero]
              simp only [Act.put, List.setIfInBounds_toArray]
              simp only [List.set_cons_zero, List.set_cons_succ]
              refine AnyX.go 10 (by kernel_rfl) rfl rfl (fun K hK => ?_)
              simp only [List.getElem_toArray, List.getElem_cons_succ, List.getElem_cons_zero]
              refine wp_store_row 25 (.tmp 6) (.tmp 186) rfl (w.heap.size + 1 + 1) #[.int .i64 t.kind, .string t.pkg, .int .i64 t.major, .string t.mod, .string t.name, .slice Pn t.names.length cP, .slice Ps t.subs.length dP] rfl rfl _ _ X7 tySize rfl tyOne ?_
              refine hK.out _ _ (fun hoff _ => hB38) ?_
              clear hK
              try simp only [Act.put, List.setIfInBounds_toArray]
              try simp only [List.set_cons_zero, List.set_cons_succ]
              refine AnyX.move (i := 11) (v := ?_) rfl (by kernel_rfl) (by kernel_rfl) (by kernel_rfl) (by kernel_rfl) (fun _ _ _ h => h) (Or.inl ⟨by rfl, ?_⟩) ?_
              rotate_left
              · (intro wS _; go_simp; try with_reducible rfl)
              simp only [List.getElem_toArray, List.getElem_cons_succ, List.getElem_cons_zero]
              simp only [Act.put, List.setIfInBounds_toArray]
              simp only [List.set_cons_zero, List.set_cons_succ]
              refine AnyX.done (by kernel_rfl) ?_ _
              go_wp2_with fail
              go_meet
              exact ⟨by first | rfl | rw [HQQ.out], rfl⟩
            case rest =>
              obtain ⟨rfl, rfl⟩ := hcut
              go_wp2_with fail
              exact ret_agg (fn := Try.f17) (vs := [.int .i64 t.kind, .string t.pkg, .int .i64 t.major, .string t.mod, .string t.name, .slice Pn t.names.length cP, .slice Ps t.subs.length dP]) (b := w.heap.size + 1 + 1) rfl rfl rfl Try.underlying25 (by kernel_rfl) (cell7 (setRow_heap _ (w.heap.size + 1 + 1) _ _ _ _ HX8.out)) rfl HQT.out
end Go.Proofs.Ytcdmgcgjonndpaa
