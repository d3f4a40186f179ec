/-
  Several texts in one: The code's Parse of a module's text. · The reference's reader of modules: what it asks of a token, and takes. · The reference's Major, of modules. · The reference's Type, of modules. · The reference's Import, of modules. · The reference's declaration. · The reference's Parse of modules: what its loops stand on. · The walk of the reference's Parse of modules. · Plain mathematics for layer 4: whether two types are alike, field by field.
-/
import Derived.Test.YtpfoclpgcbjjoaaGreatDoorJ16
import Derived.Test.YtpfoclpgcbjjoaaGreatDoorJ01
import Derived.LoopTactic
import Derived.Test.YtpfoclpgcbjjoaaGreatDoorJ05
import Derived.Test.YtpfoclpgcbjjoaaGreatDoorJ14
import Derived.Test.YtpfoclpgcbjjoaaGreatDoorJ00
/- The code's Parse of a module's text. -/
namespace Go.Proofs.YtpfoclpgcbjjoaaGreatDoor
open Go.RowKit
open Go.Sort
open M

theorem tkS_big {ts : List Tok} (h : ts.length ≤ 20000) : (tkS ts).n ≤ 9223372036854775806 := by show ts.length ≤ _; omega
/-- What Parse leaves. -/
def PmOut (w : World) (R : Res Mo) (e : Ending) (w' : World) : Prop :=
  Below w.heap.size w w' ∧
  ((∃ (l : List Value) (m : Mo) (j : Nat), R = .ok m j 0 ∧ e = .returned (.tuple #[.agg l.toArray, .nilIface]) ∧ MoAt (strike (· < w.heap.size) w') l m) ∨
   (∃ (b j g : Nat), R = .err b j ∧ b ≠ 0 ∧ e = .returned (.tuple #[.agg #[.string ⟨#[]⟩, .slice none 0 0, .slice none 0 0], .iface 99 (.pointer (some ⟨g, 0, none⟩))]) ∧ SpC g j b w'))

set_option maxRecDepth 100000 in
set_option maxHeartbeats 4000000 in
theorem cmparse_large (s : ByteArray) (w : World) (hs : 20000 < s.size) : Calls Tryz.prog 16 #[.string s] w fun e w' => e = .returned (.tuple #[.agg #[.string ⟨#[]⟩, .slice none 0 0, .slice none 0 0], .iface 32 (.int .i64 3)]) ∧ Below w.heap.size w w' := by
  obtain ⟨w0, hw0⟩ : ∃ w0, w0 = w.alloc (.cells #[.string ⟨#[]⟩, .slice none 0 0, .slice none 0 0] 25) := ⟨_, rfl⟩
  have B0 : Below w.heap.size w w0 := by rw [hw0]; exact below_new (Below.refl _ _) _
  have X0 : w0.heap[w.heap.size]? = some (.cells #[.string ⟨#[]⟩, .slice none 0 0, .slice none 0 0] 25 (0, 0)) := by rw [hw0]; exact heap_alloc_new w _
  have FIN : Hid (Below w.heap.size w (w0.setRow w.heap.size #[.string ⟨#[]⟩, .slice none 0 0, .slice none 0 0])) := Lib.hid (setRow_below B0 (Nat.le_refl _) _)
  have HX0 := Lib.hid X0
  have HW0 := Lib.hid hw0
  have TK := Lib.hid (tokens_large s w0 hs)
  clear hw0 B0
  go_enter Tryz.func16, Tryz.ntmps16
  go_upto_region 1 with fail
  rw [← HW0.out]
  go_wp2_with fail
  refine TK.out.mono ?_; rintro e w1 ⟨rfl, rfl⟩
  go_upto_region 3 with fail
  go_wp2_with (first | ((with_reducible refine wpList_putRow 25 (w.heap.size) #[.string ⟨#[]⟩, .slice none 0 0, .slice none 0 0] _ _ X0 ?_ ?_ ?_ ?_ ?_ ?_); exact modSize; rfl; exact modOne; (focus (first | (go_simp; done) | rfl)); (focus (first | (go_simp; done) | rfl))))
  exact ret_agg (fn := Tryz.f16) (vs := [.string ⟨#[]⟩, .slice none 0 0, .slice none 0 0]) (b := w.heap.size) rfl rfl rfl Tryz.underlying25 (by kernel_rfl) (cell3 (setRow_heap w0 w.heap.size _ _ _ _ HX0.out)) rfl ⟨rfl, FIN.out⟩

set_option maxRecDepth 100000 in
set_option maxHeartbeats 4000000 in
theorem cmparse_any (s : ByteArray) (w : World) (hs : s.size ≤ 20000) (he : CEnv w) : Calls Tryz.prog 16 #[.string s] w (PmOut w (parM s)) := by
  obtain ⟨w0, hw0⟩ : ∃ w0, w0 = w.alloc (.cells #[.string ⟨#[]⟩, .slice none 0 0, .slice none 0 0] 25) := ⟨_, rfl⟩
  have B0 : Below w.heap.size w w0 := by rw [hw0]; exact below_new (Below.refl _ _) _
  have X0 : w0.heap[w.heap.size]? = some (.cells #[.string ⟨#[]⟩, .slice none 0 0, .slice none 0 0] 25 (0, 0)) := by rw [hw0]; exact heap_alloc_new w _
  have s0 : w.heap.size < w0.heap.size := by rw [hw0]; simp
  have HX0 := Lib.hid X0
  have HB0 := Lib.hid B0
  have HW0 := Lib.hid hw0
  have HE := Lib.hid he
  clear hw0 B0 X0 he
  rcases toks_cases s with ⟨ts, hf⟩ | ⟨k, hf⟩
  rotate_left
  · have TK := Lib.hid (tokens_no s k w0 hs hf)
    have HP := Lib.hid (parM_no hf)
    clear hf
    go_enter Tryz.func16, Tryz.ntmps16
    go_upto_region 1 with fail
    rw [← HW0.out]
    go_wp2_with fail
    refine TK.out.mono ?_; rintro e w1 ⟨b, rfl, hb0, hb1, c0, c1, B1⟩
    have X1 := (B1.block _ s0).trans HX0.out
    have FIN : Hid (PmOut w (parM s) (.returned (.tuple #[.agg #[.string ⟨#[]⟩, .slice none 0 0, .slice none 0 0], .iface 99 (.pointer (some ⟨b, 0, none⟩))])) (w1.setRow w.heap.size #[.string ⟨#[]⟩, .slice none 0 0, .slice none 0 0])) := Lib.hid
      ⟨setRow_below (below_over HB0.out B1) (Nat.le_refl _) _, .inr ⟨2, k, b, HP.out, by decide, rfl, SpC.row (show SpC b (k : Int) 2 w1 from ⟨hb1, c0, c1⟩) (by omega) _⟩⟩
    have HX1 := Lib.hid X1
    clear hb0 hb1 c0 c1 B1 TK
    go_upto_region 3 with fail
    go_wp2_with (first | ((with_reducible refine wpList_putRow 25 (w.heap.size) #[.string ⟨#[]⟩, .slice none 0 0, .slice none 0 0] _ _ X1 ?_ ?_ ?_ ?_ ?_ ?_); exact modSize; rfl; exact modOne; (focus (first | (go_simp; done) | rfl)); (focus (first | (go_simp; done) | rfl))))
    exact ret_agg (fn := Tryz.f16) (vs := [.string ⟨#[]⟩, .slice none 0 0, .slice none 0 0]) (b := w.heap.size) rfl rfl rfl Tryz.underlying25 (by kernel_rfl) (cell3 (setRow_heap w1 w.heap.size _ _ _ _ HX1.out)) rfl FIN.out
  have hsz : ∀ t ∈ ts, t.text.size ≤ 20000 := fun t ht => Nat.le_trans (fin_size s hf t ht) hs
  have TK := Lib.hid (tokens_yes s ts w0 hs hf)
  have hlen : ts.length ≤ 20000 := Nat.le_trans (fin_len s hf) hs
  have HP := Lib.hid (parM_yes hf)
  have HSZ := Lib.hid hsz
  clear hf hsz
  go_enter Tryz.func16, Tryz.ntmps16
  go_upto_region 1 with fail
  rw [← HW0.out]
  go_wp2_with fail
  refine TK.out.mono ?_; rintro e w1 ⟨A, cn, rfl, hlen', hrow, B1⟩
  have B01 := below_over HB0.out B1
  have s1 : w.heap.size < w1.heap.size := Nat.lt_of_lt_of_le s0 B1.size
  have NW := Lib.hid (new_any A (tkS ts).n cn 0 w1)
  obtain ⟨w2, hw2⟩ : ∃ w2, w2 = w1.alloc (.cells #[.slice A (tkS ts).n cn, .int .i64 0, .nilIface] 126) := ⟨_, rfl⟩
  have B2 : Below w1.heap.size w1 w2 := by rw [hw2]; exact below_new (Below.refl _ _) _
  have s2 : w2.heap.size = w1.heap.size + 1 := by rw [hw2]; simp
  have G2 : CSt w1.heap.size A (tkS ts).n cn 0 0 w2 := .inl ⟨rfl, by unfold CGd; rw [hw2]; exact heap_alloc_new w1 _⟩
  have C2 : CdCtx w1 w1.heap.size A (tkS ts) w2 := ⟨hrow.toks HSZ.out, B2, Nat.le_refl _, tkS_big hlen, tkS_small HSZ.out⟩
  have RE := Lib.hid (cmod_any C2 G2 (HE.out.on B01))
  have HX2 := Lib.hid ((B2.block w.heap.size s1).trans ((B1.block _ s0).trans HX0.out))
  have HB02 := Lib.hid (below_over B01 B2)
  have HW2 := Lib.hid hw2
  clear hrow B1 B01 hw2 B2 G2 C2 TK HX0 HB0
  go_upto_region 4 with fail
  go_wp2_with fail
  refine NW.out.mono ?_; rintro e wz ⟨rfl, rfl⟩
  go_upto_region 5 with fail
  rw [← HW2.out]
  go_wp2_with fail
  refine RE.out.mono ?_
  rintro e w3 ⟨l, m, i3, b3, rfl, hM, k3, h3, hres⟩
  obtain ⟨Ai, ci, Ad, cd, rfl, -⟩ := hM.free
  have hs3 := k3.size
  obtain ⟨w4, hw4⟩ : ∃ w4, w4 = w3.alloc (.cells #[.string m.name, .slice Ai m.imps.length ci, .slice Ad m.decs.length cd] 25) := ⟨_, rfl⟩
  have B4 : Below w3.heap.size w3 w4 := by rw [hw4]; exact below_new (Below.refl _ _) _
  have O4 : w4.heap[w3.heap.size]? = some (.cells #[.string m.name, .slice Ai m.imps.length ci, .slice Ad m.decs.length cd] 25 (0, 0)) := by rw [hw4]; exact heap_alloc_new w3 _
  have h4 := h3.below B4
  have X4 := (B4.block w.heap.size (by omega)).trans ((k3.blk (show w.heap.size < w2.heap.size by omega) (by omega)).trans HX2.out)
  have B24 : Below w.heap.size w w4 := HB02.out.trans (((k3.trans (Kp.of_below B4)).below (by omega)).mono (by omega))
  have M4 : MoAt (strike (· < w2.heap.size) w4) [.string m.name, .slice Ai m.imps.length ci, .slice Ad m.decs.length cd] m := hM.move B4.size fun b hb hS => ⟨hS, B4.block b hb⟩
  have HW4 := Lib.hid hw4
  have HM4 := Lib.hid M4
  have HB4 := Lib.hid B24
  have H4 := Lib.hid h4
  have HX4 := Lib.hid X4
  have HO4 := Lib.hid O4
  have HRS := Lib.hid hres
  have hs24 : w2.heap.size ≤ w4.heap.size := by have := B4.size; omega
  clear hM k3 h3 hres B4 O4 h4 X4 B24 M4 hw4 RE HX2 HB02 NW
  go_upto_region 6 with fail
  rw [← HW4.out]
  by_cases hb : b3 = 0
  · subst hb
    have CE := Lib.hid (cerr_no H4.out)
    have hok : parM s = .ok m i3 0 := by rw [HP.out, ← HRS.out]; rfl
    have O4 := HO4.out
    have x0 := Lib.cell_of_heap O4 0
    have x1 := Lib.cell_of_heap O4 1
    have x2 := Lib.cell_of_heap O4 2
    simp at x0 x1 x2
    have X4 := HX4.out
    have FIN : Hid (PmOut w (parM s) (.returned (.tuple #[.agg #[.string m.name, .slice Ai m.imps.length ci, .slice Ad m.decs.length cd], .nilIface])) (w4.setRow w.heap.size #[.string m.name, .slice Ai m.imps.length ci, .slice Ad m.decs.length cd])) := Lib.hid
      ⟨setRow_below HB4.out (Nat.le_refl _) _, .inl ⟨_, m, i3, hok, rfl, HM4.out.move (by simp) fun b hb hS => ⟨fun e => hS (by omega), setRow_other w4 w.heap.size b _ (by omega)⟩⟩⟩
    clear hok O4
    go_wp2_with fail
    refine CE.out.mono ?_; rintro e w5 ⟨rfl, rfl⟩
    go_upto_region 9 with fail
    go_wp2_with (first | ((with_reducible refine wpList_putRow 25 (w.heap.size) #[.string m.name, .slice Ai m.imps.length ci, .slice Ad m.decs.length cd] _ _ X4 ?_ ?_ ?_ ?_ ?_ ?_); exact modSize; rfl; exact modOne; (focus (first | (go_simp; done) | rfl)); (focus (first | (go_simp; done) | rfl))))
    exact ret_agg (fn := Tryz.f16) (vs := [.string m.name, .slice Ai m.imps.length ci, .slice Ad m.decs.length cd]) (b := w.heap.size) rfl rfl rfl Tryz.underlying25 (by kernel_rfl) (cell3 (setRow_heap w4 w.heap.size _ _ _ _ HX4.out)) rfl FIN.out
  · have CE := Lib.hid (cerr_yes H4.out hb)
    have herr : parM s = .err b3 i3 := by rw [HP.out, ← HRS.out]; exact badR_ne _ _ hb
    have X4 := HX4.out
    have FIN : Hid (∀ g, w4.heap[g]? = some (.cells #[.int .i64 i3, .iface 32 (.int .i64 b3)] 91 (0, 0)) → PmOut w (parM s) (.returned (.tuple #[.agg #[.string ⟨#[]⟩, .slice none 0 0, .slice none 0 0], .iface 99 (.pointer (some ⟨g, 0, none⟩))])) (w4.setRow w.heap.size #[.string ⟨#[]⟩, .slice none 0 0, .slice none 0 0])) := Lib.hid (fun g hg =>
      ⟨setRow_below HB4.out (Nat.le_refl _) _, .inr ⟨b3, i3, g, herr, hb, rfl, (SpAt.cells hg).row (two_types hg HX4.out (by decide)) _⟩⟩)
    clear herr
    go_wp2_with fail
    refine CE.out.mono ?_; rintro e w5 ⟨g, rfl, rfl, hg⟩
    have HFG := Lib.hid (FIN.out g hg)
    clear hg FIN CE
    go_upto_region 8 with fail
    go_wp2_with (first | ((with_reducible refine wpList_putRow 25 (w.heap.size) #[.string ⟨#[]⟩, .slice none 0 0, .slice none 0 0] _ _ X4 ?_ ?_ ?_ ?_ ?_ ?_); exact modSize; rfl; exact modOne; (focus (first | (go_simp; done) | rfl)); (focus (first | (go_simp; done) | rfl))))
    exact ret_agg (fn := Tryz.f16) (vs := [.string ⟨#[]⟩, .slice none 0 0, .slice none 0 0]) (b := w.heap.size) rfl rfl rfl Tryz.underlying25 (by kernel_rfl) (cell3 (setRow_heap w4 w.heap.size _ _ _ _ HX4.out)) rfl HFG.out

end Go.Proofs.YtpfoclpgcbjjoaaGreatDoor

/- The reference's reader of modules: what it asks of a token, and takes. -/
namespace Go.Proofs.YtpfoclpgcbjjoaaGreatDoor
open Go.RowKit
open Go.Sort
open M

/-- What Word asks. -/
def okW (S : Toks) (i : Nat) (kd : Int) (q : ByteArray → Bool) : Bool := decide (i < S.n) && ((S.K i == kd) && q (S.T i))
/-- Does a declaration begin? -/
def decAt (S : Toks) (i : Nat) : Bool := keyS S i [111, 112, 97, 113, 117, 101] || (keyS S i [104, 105, 100, 100, 101, 110] || (keyS S i [97, 108, 105, 97, 115] || keyS S i [118, 97, 108]))
end Go.Proofs.YtpfoclpgcbjjoaaGreatDoor

/- The reference's Major, of modules. -/
namespace Go.Proofs.YtpfoclpgcbjjoaaGreatDoor
open Go.RowKit
open Go.Sort
open M

theorem major_nought {l : List UInt8} (h : bt l 0 = 48) : majorOk l = false := by
  rw [Bool.eq_false_iff]; intro e
  have := ((majorOk_iff l).1 e).2.2.2
  omega

end Go.Proofs.YtpfoclpgcbjjoaaGreatDoor

/- The reference's Type, of modules. -/
namespace Go.Proofs.YtpfoclpgcbjjoaaGreatDoor
open Go.RowKit
open Go.Sort
open M

/-- What the reference's At leaves, in a box beside it. -/
def RdC6 (S : Toks) (i : Nat) (wb : World) (s3 s4 s5 s6 : Value) (wx : World) : Prop :=
  Below wb.heap.size wb wx ∧ ∃ g3 : Nat, s3 = .pointer (some ⟨g3, 0, none⟩) ∧ wb.heap.size ≤ g3 ∧
    ((∃ (l : List Value) (t : Ty) (j c : Nat), atR S i = .ok t j c ∧ s4 = .int .i64 j ∧ s5 = .int .i64 0 ∧ wx.heap[g3]? = some (.cells l.toArray 42 (0, 0)) ∧ TyAt (strike (fun b => b < wb.heap.size ∨ b = g3) wx) l t) ∨
     (∃ b j : Nat, atR S i = .err b j ∧ b ≠ 0 ∧ s5 = .int .i64 b ∧ s6 = .int .i64 j))
theorem RdC6.afterOk {S : Toks} {i : Nat} {wb w2 w4 : World} {l : List Value} {t : Ty} {j c g3 : Nat} {s6 : Value} (hb : Below wb.heap.size wb w2) (hg : wb.heap.size ≤ g3) (hok : atR S i = .ok t j c) (hT : TyAt (strike (fun b => b < wb.heap.size ∨ b = g3) w2) l t)
    (hz : w2.heap.size ≤ w4.heap.size) (hrow : w4.heap[g3]? = some (.cells l.toArray 42 (0, 0))) (ho : ∀ b, b < w2.heap.size → b ≠ g3 → w4.heap[b]? = w2.heap[b]?) (h1 : w4.os = w2.os) (h2 : w4.tape = w2.tape) (h3 : w4.output = w2.output) :
    RdC6 S i wb (.pointer (some ⟨g3, 0, none⟩)) (.int .i64 j) (.int .i64 0) s6 w4 :=
  ⟨⟨h1.trans hb.os, h2.trans hb.tape, h3.trans hb.output, Nat.le_trans hb.size hz, fun k hk => (ho k (Nat.lt_of_lt_of_le hk hb.size) (by omega)).trans (hb.block k hk)⟩, g3, rfl, hg, .inl ⟨l, t, j, c, hok, rfl, rfl, hrow, hT.move hz fun b hlt hS => ⟨hS, ho b hlt (fun e => hS (.inr e))⟩⟩⟩
theorem RdC6.afterErr {S : Toks} {i : Nat} {wb w2 w4 : World} {b j g3 : Nat} {s4 : Value} (hb : Below wb.heap.size wb w2) (hg : wb.heap.size ≤ g3) (herr : atR S i = .err b j) (hb0 : b ≠ 0)
    (hz : w2.heap.size ≤ w4.heap.size) (ho : ∀ b, b < w2.heap.size → b ≠ g3 → w4.heap[b]? = w2.heap[b]?) (h1 : w4.os = w2.os) (h2 : w4.tape = w2.tape) (h3 : w4.output = w2.output) :
    RdC6 S i wb (.pointer (some ⟨g3, 0, none⟩)) s4 (.int .i64 b) (.int .i64 j) w4 :=
  ⟨⟨h1.trans hb.os, h2.trans hb.tape, h3.trans hb.output, Nat.le_trans hb.size hz, fun k hk => (ho k (Nat.lt_of_lt_of_le hk hb.size) (by omega)).trans (hb.block k hk)⟩, g3, rfl, hg, .inr ⟨b, j, herr, hb0, rfl, rfl⟩⟩

end Go.Proofs.YtpfoclpgcbjjoaaGreatDoor

/- The reference's Import, of modules. -/
namespace Go.Proofs.YtpfoclpgcbjjoaaGreatDoor
open Go.RowKit
open Go.Sort
open M

theorem okW_small (S : Toks) (i : Nat) : okW S i 1 (fun s => smallB s.data.toList) = (decide (i < S.n) && smallK (S.K i) (S.T i)) := rfl
theorem okW_great (S : Toks) (i : Nat) : okW S i 2 (fun s => greatB s.data.toList) = (decide (i < S.n) && greatK (S.K i) (S.T i)) := rfl
theorem okW_key (S : Toks) (i : Nat) (l : ByteArray) : okW S i 1 (fun s => s.data.toList == l.data.toList) = keyS S i l.data.toList := by unfold okW keyS; rw [Bool.and_assoc]
theorem okW_sign (S : Toks) (i : Nat) (l : ByteArray) : okW S i 4 (fun s => s.data.toList == l.data.toList) = S.sign i l.data.toList := by unfold okW Toks.sign; rw [Bool.and_assoc]
theorem nameOut_ps {S : Toks} {q : Bool} {i b : Nat} {s : ByteArray} {i' b' : Nat} (h : NameOut S q i b s i' b') : i' = psI b q i ∧ b' = psB b q := by
  rcases h with ⟨rfl, rfl, rfl, rfl, rfl⟩ | ⟨rfl, rfl, rfl, rfl⟩ | ⟨hb, rfl, rfl⟩
  · exact ⟨rfl, rfl⟩
  · exact ⟨rfl, rfl⟩
  · rw [psI_bad _ _ hb, psB_bad _ hb]; exact ⟨rfl, rfl⟩

/-- An import's box. -/
def Ix (d : Nat) (p : ByteArray) (m : Int) (q a : ByteArray) (w : World) : Prop := w.heap[d]? = some (.cells #[.string p, .int .i64 m, .string q, .string a] 67 (0, 0))
end Go.Proofs.YtpfoclpgcbjjoaaGreatDoor

/- The reference's declaration. -/
namespace Go.Proofs.YtpfoclpgcbjjoaaGreatDoor
open Go.RowKit
open Go.Sort
open M

theorem Dx.kinded {d : Nat} {k k' : Int} {s : ByteArray} {v0 v1 v2 v3 v4 v5 v6 : Value} {w : World} (h : Dx d k s [v0, v1, v2, v3, v4, v5, v6] w) : Dx d k' s [v0, v1, v2, v3, v4, v5, v6] (w.setCell ⟨d, 0, none⟩ (.int .i64 k')) := by
  have h0 := Joins.block_setCell (i := 0) h (.int .i64 k')
  simpa [Dx] using h0
theorem declK_cases {l : List UInt8} (h : declK l ≠ 0) : (l = [111, 112, 97, 113, 117, 101] ∧ declK l = 1) ∨ (l = [104, 105, 100, 100, 101, 110] ∧ declK l = 2) ∨ (l = [97, 108, 105, 97, 115] ∧ declK l = 3) ∨ (l = [118, 97, 108] ∧ declK l = 4) := by
  unfold declK at h ⊢
  split at h
  · exact .inl ⟨by assumption, if_pos (by assumption)⟩
  split at h
  · rename_i h1 h2; subst h2; exact .inr (.inl ⟨rfl, by decide⟩)
  split at h
  · rename_i h1 h2 h3; subst h3; exact .inr (.inr (.inl ⟨rfl, by decide⟩))
  split at h
  · rename_i h1 h2 h3 h4; subst h4; exact .inr (.inr (.inr ⟨rfl, by decide⟩))
  · exact absurd rfl h

end Go.Proofs.YtpfoclpgcbjjoaaGreatDoor

/- The reference's Parse of modules: what its loops stand on. -/
namespace Go.Proofs.YtpfoclpgcbjjoaaGreatDoor
open Go.RowKit
open Go.Sort
open M

/-- A row more in a module's box, at its cell k: 1 imports, 2 declarations. -/
theorem row_more {α : Type} {R : Reads α} {lo d g cap c B : Nat} {xs : List α} {A : Option Addr} {w1 w3 : World} {o : Obj} {l : List Value} {x : α} {C : List (List Value)} {old : Array Value} {T : TypeId} {k : Nat}
    (h : Row R lo xs A c w1) (hlo : lo ≤ B) (hB1 : B ≤ w1.heap.size) (hwo : ∀ b, (Value.slice A xs.length c).ownBlock = some b → b < B)
    (hC1 : C.length = xs.length) (hC4 : ∀ (i : Nat) (l : List Value) (x : α), C[i]? = some l → xs[i]? = some x → R.E (strike (fun b => b < lo ∨ (Value.slice A xs.length c).ownBlock = some b) w1) l x)
    (hE : R.E (strike (· < B) w1) l x) (hown : w3.ownsRow lo R.T R.k (.slice (some ⟨g, 0, none⟩) (xs.length + 1) cap) (xs.length + 1) (C.flatten ++ l)) (hgrow : (w1.alloc o).grownBy w3 (Value.slice A xs.length c).ownBlock)
    (hat : (Value.slice A xs.length c).ownBlock = some g ∨ g = (w1.alloc o).heap.size) (hd : d < lo) (hbox : w1.heap[d]? = some (.cells old T (0, 0))) (hk : old[k]? = some (.slice A xs.length c)) :
    Row R lo (xs ++ [x]) (some ⟨g, 0, none⟩) cap (w3.setCell ⟨d, k, none⟩ (.slice (some ⟨g, 0, none⟩) (xs.length + 1) cap)) ∧
    (w3.setCell ⟨d, k, none⟩ (.slice (some ⟨g, 0, none⟩) (xs.length + 1) cap)).heap[d]? = some (.cells (old.setIfInBounds k (.slice (some ⟨g, 0, none⟩) (xs.length + 1) cap)) T (0, 0)) ∧
    (∀ b, b < lo → b ≠ d → (w3.setCell ⟨d, k, none⟩ (.slice (some ⟨g, 0, none⟩) (xs.length + 1) cap)).heap[b]? = w1.heap[b]?) ∧
    (∀ m, m ≤ d → Below m w1 (w3.setCell ⟨d, k, none⟩ (.slice (some ⟨g, 0, none⟩) (xs.length + 1) cap))) ∧
    w3.cell? ⟨d, k, none⟩ = some (.slice A xs.length c) ∧ w3.frozen? ⟨d, k, none⟩ = false ∧ w1.heap.size ≤ (w3.setCell ⟨d, k, none⟩ (.slice (some ⟨g, 0, none⟩) (xs.length + 1) cap)).heap.size := by
  obtain ⟨R3, old3, hs3⟩ := Row.more h hlo hwo hC1 hC4 hE hown hgrow hat
  have hlow : ∀ b, (Value.slice A xs.length c).ownBlock = some b → lo ≤ b := fun b e => (h.lt e).1
  have hd1 : d < w1.heap.size := (Array.getElem?_eq_some_iff.1 hbox).1
  have B3 := (old3 d (fun e => by have := hlow d e; omega) hd1).trans hbox
  have ot : ∀ b, b ≠ d → (w3.setCell ⟨d, k, none⟩ (.slice (some ⟨g, 0, none⟩) (xs.length + 1) cap)).heap[b]? = w3.heap[b]? := fun b hb => Below.heap_setCell _ _ _ _ (by show b ≠ d; exact hb)
  have of : ∀ b, b < lo → b ≠ d → (w3.setCell ⟨d, k, none⟩ (.slice (some ⟨g, 0, none⟩) (xs.length + 1) cap)).heap[b]? = w1.heap[b]? := fun b hb hne => (ot b hne).trans (old3 b (fun e => by have := hlow b e; omega) (by omega))
  refine ⟨R3.keep (by simp) (fun b hb hlt => ot b (by omega)), Joins.block_setCell (i := k) B3 _, of, fun m hm => ?_, ?_, Lib.frozen_of_heap B3 k, by simp; omega⟩
  · have hgw := hgrow
    exact ⟨hgw.os.trans rfl, hgw.tape.trans rfl, hgw.output.trans rfl, by simp; omega, fun j hj => of j (by omega) (by omega)⟩
  · rw [Lib.cell_of_heap B3 k]; exact hk

theorem imp6_yes {S : Toks} {nm : ByteArray} {i i5 b5 : Nat} {xs : List Im} {x : Im} (hn : xs.length < 20) (hk : keyS S i kImport = true) (h : badR b5 i5 (.ok x i5 0) = impR S (i + 1)) :
    restM S nm (impsR S (21 - xs.length) i xs) = badR b5 i5 (restM S nm (impsR S (21 - (xs ++ [x]).length) i5 (xs ++ [x]))) ∧ (b5 = 0 → i < i5) := by
  have e0 : ∀ f, impsR S (f + 1) i xs = if keyS S i kImport = false then .ok xs i 0 else if 20 ≤ xs.length then .err 3 i else match impR S (i + 1) with
      | .err b j => .err b j
      | .ok x j _ => impsR S f j (xs ++ [x]) := fun f => rfl
  have e1 : (xs ++ [x]).length = xs.length + 1 := by simp
  rw [show 21 - xs.length = (20 - xs.length) + 1 by omega, e0, if_neg (by rw [hk]; decide), if_neg (by omega), ← h, e1, show 21 - (xs.length + 1) = 20 - xs.length by omega]
  by_cases hb : b5 = 0
  · subst hb
    have h6 := impR_ok h.symm
    rw [badR_0, badR_0]
    exact ⟨rfl, fun _ => by omega⟩
  · rw [badR_ne _ _ hb, badR_ne _ _ hb]
    exact ⟨rfl, fun e => absurd e hb⟩
theorem imp6_many {S : Toks} {nm : ByteArray} {i : Nat} {xs : List Im} (hn : xs.length = 20) (hk : keyS S i kImport = true) : restM S nm (impsR S (21 - xs.length) i xs) = .err 3 i := by
  rw [hn]
  have e0 : impsR S (0 + 1) i xs = if keyS S i kImport = false then .ok xs i 0 else if 20 ≤ xs.length then .err 3 i else match impR S (i + 1) with
      | .err b j => .err b j
      | .ok x j _ => impsR S 0 j (xs ++ [x]) := rfl
  rw [show 21 - 20 = 0 + 1 by omega, e0, if_neg (by rw [hk]; decide), if_pos (by omega)]
  rfl
theorem imp6_no {S : Toks} {nm : ByteArray} {i b : Nat} {xs : List Im} (hn : xs.length ≤ 20) (h : (decide (b = 0) && keyS S i kImport) = false) : badR b i (restM S nm (impsR S (21 - xs.length) i xs)) = badR b i (restD S nm xs i []) := by
  by_cases hb : b = 0
  · subst hb
    rw [badR_0, badR_0, show 21 - xs.length = (20 - xs.length) + 1 by omega]
    unfold impsR
    rw [if_pos (by simpa using h)]
    rfl
  · rw [badR_ne _ _ hb, badR_ne _ _ hb]
/-- Keys are words of small letters. -/
def Keyed (S : Toks) : Prop := ∀ i, i < S.n → declK (S.T i).data.toList ≠ 0 → S.K i = 1
theorem decAt_yes {S : Toks} {i : Nat} (h : decAt S i = true) : i < S.n ∧ declK (S.T i).data.toList ≠ 0 := by
  have hk : ∀ {l : List UInt8}, keyS S i l = true → i < S.n ∧ (S.T i).data.toList = l := fun {l} h => by
    unfold keyS at h
    simp only [Bool.and_eq_true, decide_eq_true_eq, beq_iff_eq] at h
    exact ⟨h.1.1, h.2⟩
  unfold decAt at h
  simp only [Bool.or_eq_true] at h
  rcases h with h | h | h | h
  all_goals (obtain ⟨h1, h2⟩ := hk h; refine ⟨h1, ?_⟩; rw [h2]; decide)
theorem decAt_no {S : Toks} (hK : Keyed S) {i : Nat} (h : decAt S i = false) (hi : i < S.n) : declAt S i = 0 := by
  unfold declAt
  rw [if_pos hi]
  by_cases hd : declK (S.T i).data.toList = 0
  · exact hd
  · have h1 := hK i hi hd
    have hk : ∀ {l : List UInt8}, (S.T i).data.toList = l → keyS S i l = true := fun {l} e => by
      unfold keyS
      rw [e, h1, decide_eq_true hi]
      simp
    unfold decAt at h
    simp only [Bool.or_eq_false_iff] at h
    rcases declK_cases hd with ⟨e, -⟩ | ⟨e, -⟩ | ⟨e, -⟩ | ⟨e, -⟩
    · rw [hk e] at h; exact absurd h.1 (by decide)
    · rw [hk e] at h; exact absurd h.2.1 (by decide)
    · rw [hk e] at h; exact absurd h.2.2.1 (by decide)
    · rw [hk e] at h; exact absurd h.2.2.2 (by decide)
theorem oneD_at {S : Toks} {i n : Nat} (hi : i < S.n) (hd : declK (S.T i).data.toList ≠ 0) (hn : n < 60) : oneD S i n = decR S (declK (S.T i).data.toList) (i + 1) := by
  have e : declAt S i = declK (S.T i).data.toList := if_pos hi
  unfold oneD
  rw [e, if_neg hd, if_neg (by omega)]
theorem oneD_many {S : Toks} {i n : Nat} (hi : i < S.n) (hd : declK (S.T i).data.toList ≠ 0) (hn : 60 ≤ n) : oneD S i n = .err 3 i := by
  have e : declAt S i = declK (S.T i).data.toList := if_pos hi
  unfold oneD
  rw [e, if_neg hd, if_pos hn]
theorem rest_err {S : Toks} {s : ByteArray} {l : List Im} {i b j : Nat} {xs : List De} (hn : xs.length ≤ 60) (hi : i < S.n) (h : oneD S i xs.length = .err b j) : restD S s l i xs = .err b j := by
  unfold restD
  rw [show 61 - xs.length = (60 - xs.length) + 1 by omega]
  unfold decsR
  rw [if_neg (by omega), h]
theorem oneD_none {S : Toks} {i n : Nat} (h : declAt S i = 0) : oneD S i n = .err 2 i := by unfold oneD; rw [if_pos h]
theorem mod_start {S : Toks} {s : ByteArray} {i2 b2 : Nat}
    (h1 : NameOut S (decide (psI 0 (keyS S 0 kModule) 0 < S.n) && smallK (S.K (psI 0 (keyS S 0 kModule) 0)) (S.T (psI 0 (keyS S 0 kModule) 0))) (psI 0 (keyS S 0 kModule) 0) (psB 0 (keyS S 0 kModule)) s i2 b2) : badR b2 i2 (restM S s (impsR S 21 i2 [])) = modR S := by
  have a := nameOut_res h1 (fun s j => restM S s (impsR S 21 j []))
  rw [small_k] at a
  have b := sign_res (keyS S 0 kModule) 0 0 (fun j => if S.small j = false then Res.err 2 j else restM S (S.T j) (impsR S 21 (j + 1) []))
  rw [a, b, badR_0]
  rfl

/-- What a lexer's tokens are of. -/
theorem finN_from (s : ByteArray) : ∀ (n i : Nat) (acc : List Tok), (∀ t ∈ acc, ∃ k, t.kind = (item s.data.toList k).1 ∧ t.text = s.extract k (item s.data.toList k).2) → ∀ t ∈ (finN s n i acc).1, ∃ k, t.kind = (item s.data.toList k).1 ∧ t.text = s.extract k (item s.data.toList k).2
  | 0, _, acc, h => h
  | n + 1, i, acc, h => by
    unfold finN
    split
    · exact h
    split
    · intro t ht; simp at ht
    split
    · exact finN_from s n _ acc h
    · refine finN_from s n _ _ fun t ht => ?_
      rcases List.mem_append.1 ht with ht | ht
      · exact h t ht
      · rw [List.mem_singleton.1 ht]
        exact ⟨i, rfl, rfl⟩
theorem keyed_fin {s : ByteArray} {ts : List Tok} (h : fin s 0 [] = (ts, -1)) : Keyed (tkS ts) := by
  intro i hi hd
  have hi' : i < ts.length := hi
  have ht : ts[i]? = some ts[i] := List.getElem?_eq_getElem hi'
  have eK : (tkS ts).K i = (ts[i].kind : Int) := by unfold tkS; simp [ht]
  have eT : (tkS ts).T i = ts[i].text := by unfold tkS; simp [ht]
  rw [eT] at hd
  rw [eK]
  have hf := finN_from s (s.size - 0) 0 [] (fun t ht => by simp at ht)
  unfold fin at h
  rw [h] at hf
  obtain ⟨k, e1, e2⟩ := hf ts[i] (List.getElem_mem hi')
  rw [e2] at hd
  have hx : (s.extract k (item s.data.toList k).2).data.toList = (s.data.toList.drop k).take ((item s.data.toList k).2 - k) := by
    rw [ByteArray.data_extract, Array.toList_extract, List.extract_eq_take_drop]
  have hb : ∀ c r, (s.extract k (item s.data.toList k).2).data.toList = c :: r → bt s.data.toList k = (c.toNat : Int) := fun c r e => by
    rw [hx] at e
    unfold bt
    cases hdr : s.data.toList.drop k with
    | nil => rw [hdr] at e; simp at e
    | cons c' r' =>
      rw [hdr] at e
      cases hm : (item s.data.toList k).2 - k with
      | zero => rw [hm] at e; simp at e
      | succ m =>
        rw [hm] at e
        simp at e
        have : s.data.toList[k]? = some c' := by
          have := congrArg (fun l => l[0]?) hdr
          simpa using this
        rw [List.getD_eq_getElem?_getD, this]
        simp [e.1]
  have hlow : ∀ x : Int, bt s.data.toList k = x → lowC x = true → blankC x = false → x ≠ 35 → (item s.data.toList k).1 = 1 := fun x e h1 h2 h3 => by
    unfold item
    rw [e, h2, if_neg (by decide), if_neg h3, if_pos h1]
  rw [e1]
  rcases declK_cases hd with ⟨e, -⟩ | ⟨e, -⟩ | ⟨e, -⟩ | ⟨e, -⟩
  · rw [hlow 111 (by rw [hb _ _ e]; rfl) (by decide) (by decide) (by decide)]; rfl
  · rw [hlow 104 (by rw [hb _ _ e]; rfl) (by decide) (by decide) (by decide)]; rfl
  · rw [hlow 97 (by rw [hb _ _ e]; rfl) (by decide) (by decide) (by decide)]; rfl
  · rw [hlow 118 (by rw [hb _ _ e]; rfl) (by decide) (by decide) (by decide)]; rfl

end Go.Proofs.YtpfoclpgcbjjoaaGreatDoor

/- The walk of the reference's Parse of modules. -/
namespace Go.Proofs.YtpfoclpgcbjjoaaGreatDoor
open Go.RowKit
open Go.Sort
open M

/-- What the reference's Parse leaves. -/
def RmOut (w : World) (R : Res Mo) (e : Ending) (w' : World) : Prop :=
  Below w.heap.size w w' ∧
  ((∃ (l : List Value) (m : Mo) (j : Nat), R = .ok m j 0 ∧ e = .returned (.tuple #[.agg l.toArray, .int .i64 0, .int .i64 (-1)]) ∧ MoAt w' l m) ∨
   (∃ (b j : Nat), R = .err b j ∧ b ≠ 0 ∧ e = .returned (.tuple #[.agg #[.string ⟨#[]⟩, .slice none 0 0, .slice none 0 0], .int .i64 b, .int .i64 j])))

/-- How far the reader is from its end. -/
def rmM (r n : Nat) (w : World) : Nat :=
  match w.heap[r]? with
  | some (Obj.cells cs _ _) => (match cs[1]?, cs[2]? with
    | some (Value.int _ i), some (Value.int _ b) => if b = 0 then n + 3 - i.toNat + 1 else 0
    | _, _ => 0)
  | _ => 0
theorem RdCtx.to {W w : World} {r : Nat} {A : Option Addr} {S : Toks} (hT : TokAt W A S) (hb : Below W.heap.size W w) (hr : W.heap.size ≤ r) (hn : S.n ≤ 20000) : RdCtx W r A S w := ⟨hT, hb, hr, by omega⟩

end Go.Proofs.YtpfoclpgcbjjoaaGreatDoor

/- Plain mathematics for layer 4: whether two types are alike, field by field. -/
namespace Go.Proofs.YtpfoclpgcbjjoaaGreatDoor.M

-- the same, field by field
mutual
def sameT : Ty → Ty → Bool
  | .mk k p m d n ns ss, .mk k' p' m' d' n' ns' ss' => decide (k = k') && decide (p = p') && decide (m = m') && decide (d = d') && decide (n = n') && decide (ns = ns') && sameL ss ss'
def sameL : List Ty → List Ty → Bool
  | [], [] => true
  | [], _ :: _ => false
  | _ :: _, [] => false
  | a :: r, b :: q => sameT a b && sameL r q
end
mutual
theorem sameT_iff : ∀ a b : Ty, sameT a b = true ↔ a = b
  | .mk k p m d n ns ss, .mk k' p' m' d' n' ns' ss' => by
    have := sameL_iff ss ss'
    unfold sameT
    simp only [Bool.and_eq_true, decide_eq_true_eq, this, Ty.mk.injEq]
    simp only [and_assoc]
theorem sameL_iff : ∀ a b : List Ty, sameL a b = true ↔ a = b
  | [], [] => by simp [sameL]
  | [], _ :: _ => by simp [sameL]
  | _ :: _, [] => by simp [sameL]
  | a :: r, b :: q => by
    have h1 := sameT_iff a b
    have h2 := sameL_iff r q
    unfold sameL
    simp only [Bool.and_eq_true, h1, h2, List.cons.injEq]
end
theorem sameT_no {a b : Ty} (h : a ≠ b) : sameT a b = false := by
  rw [Bool.eq_false_iff, ne_eq, sameT_iff]; exact h
theorem ty_ext {a b : Ty} (h1 : a.kind = b.kind) (h2 : a.pkg = b.pkg) (h3 : a.major = b.major) (h4 : a.mod = b.mod) (h5 : a.name = b.name) (h6 : a.names = b.names) (h7 : a.subs = b.subs) : a = b := by
  cases a; cases b
  simp only [Ty.kind, Ty.pkg, Ty.major, Ty.mod, Ty.name, Ty.names, Ty.subs] at *
  subst h1 h2 h3 h4 h5 h6 h7
  rfl
theorem bytes_list {a b : ByteArray} : a.data.toList = b.data.toList ↔ a = b := by
  constructor
  · intro h
    cases a; cases b; simp at h; simpa using h
  · rintro rfl; rfl
theorem list_ext' {α : Type} {a b : List α} (hl : a.length = b.length) (h : ∀ (i : Nat) (x y : α), a[i]? = some x → b[i]? = some y → x = y) : a = b := by
  apply List.ext_getElem? 
  intro i
  rcases Nat.lt_or_ge i a.length with hi | hi
  · rw [List.getElem?_eq_getElem hi, List.getElem?_eq_getElem (by omega)]
    exact congrArg some (h i _ _ (List.getElem?_eq_getElem hi) (List.getElem?_eq_getElem (by omega)))
  · rw [List.getElem?_eq_none hi, List.getElem?_eq_none (by omega)]

end Go.Proofs.YtpfoclpgcbjjoaaGreatDoor.M
