/-
  Several texts in one.
-/
import Derived.Test.YtcdmgcgjonndpaaGreatDoorK32
open List (getElem_toArray getElem_cons_succ getElem_cons_zero set_cons_zero set_cons_succ setIfInBounds_toArray)
set_option maxRecDepth 100000
set_option maxHeartbeats 32000000
namespace Go.Proofs.YtcdmgcgjonndpaaGreatDoor
open Go Go.RowKit Go.Shelf
open Go.Sort
open M
def EvIs (c j : Int) (v : Value) (w : World) : Prop :=
 (c = 0 /\ v = .nilIface) \/ (c ≠ 0 /\ j = -1 /\ v = .iface 54 (.int .i64 c)) \/ (∃ g i b : Nat, c ≠ 0 /\ j = i /\ c = b /\ v = .iface 59 (.pointer (some ⟨g, 0, none⟩)) /\ SpC g i b w)
theorem EvIs.below {c j : Int} {v : Value} {w w' : World} (h : EvIs c j v w) (hb : Below w.heap.size w w') : EvIs c j v w' := by
 rcases h with h | h | ⟨g, i, b, h1, h2, h3, h4, h5, h6, h7⟩
 ·exact .inl h
 ·exact .inr (.inl h)
 ·exact .inr (.inr ⟨g, i, b, h1, h2, h3, h4, Nat.lt_of_lt_of_le h5 hb.size, (hb.cell (p := ⟨g, 0, none⟩) h5).trans h6, (hb.cell (p := ⟨g, 1, none⟩) h5).trans h7⟩)
def BdOut10 (m : Mo) (pkg : ByteArray) (major : Int) (env : List If) (w : World) (e : Ending) (w' : World) : Prop :=
 ∃ (c j : Int) (x : If) (l : List Value) (v : Value), BdIs m pkg major env c j x /\ e = .returned (.tuple #[.agg l.toArray, v]) /\ EvIs c j v w' /\ ifE w' l x /\ Below w.heap.size w w'
theorem zIf_at (w : World) : ifE w [.string ⟨#[]⟩, .int .i64 0, .string ⟨#[]⟩, .slice none 0 0, .slice none 0 0] zIf := ⟨none, 0, none, 0, rfl, by decide, by decide, by decide, by decide, fun i x h => by simp [zIf] at h, fun i x h => by simp [zIf] at h⟩
theorem ck7_at {m : Mo} {i c : Int} (h : check7 m = some (i, c)) : ∃ i' b : Nat, i = i' /\ c = b /\ c ≠ 0 := by
 have h1 := List.find?_some h
 have h2 := List.mem_of_find?_eq_some h
 have h0 : 0 <= i := by simpa using h1
 have hc : c = 5 \/ c = 4 \/ c = 6 \/ c = 10 := by
  unfold faults7 at h2
  simp at h2;omega
 exact ⟨i.toNat, c.toNat, by omega, by omega, by omega⟩
theorem ck10 {w : World} {m : Mo} {e : Ending} {w' : World} (h : CkAny w m e w') : (mayM m = true /\ Ok7 m /\ e = .returned .nilIface) \/ ∃ (c j : Int) (T : TypeId) (y : Value), RkOut m c j /\ c ≠ 0 /\ e = .returned (.iface T y) /\ EvIs c j (.iface T y) w' := by
 rcases h with ⟨h1, h2⟩ | ⟨h1, h2⟩
 ·exact .inr ⟨1, -1, _, _, .inl ⟨h1, rfl, rfl⟩, by decide, h2, .inr (.inl ⟨by decide, rfl, rfl⟩)⟩
 ·unfold CkOut at h2
  cases hc : check7 m with
  | none => rw [hc] at h2; exact .inl ⟨h1, check7_none.1 hc, h2⟩
  | some x =>
   obtain ⟨i, c⟩ := x;rw [hc] at h2;obtain ⟨g, he, -, hg⟩ := h2;obtain ⟨i', b, rfl, rfl, h0⟩ := ck7_at hc;refine .inr ⟨b, i', _, _, .inr ⟨h1, ?_⟩, h0, he, .inr (.inr ⟨g, i', b, h0, rfl, rfl, rfl, (Array.getElem?_eq_some_iff.1 hg).1, cZ hg 0, cZ hg 1⟩)⟩;rw [hc]; exact ⟨rfl, rfl⟩
theorem ep_nat {m : Mo} {pkg : ByteArray} {major : Int} {env : List If} {t u : Ty} {c : Int} (h : EpIs m pkg major env t c u) : ∃ b : Nat, c = b := by
 rcases h with ⟨rfl, -⟩ | ⟨-, -, ⟨rfl, -⟩ | ⟨-, ⟨rfl, -⟩ | ⟨-, -, -, -, ⟨rfl, -⟩ | ⟨rfl, -⟩⟩⟩⟩
 ·exact ⟨1, rfl⟩
 ·exact ⟨4, rfl⟩
 ·exact ⟨9, rfl⟩
 ·exact ⟨3, rfl⟩
 ·exact ⟨0, rfl⟩
theorem errV_0 : errV 0 = .nilIface := by unfold errV; rw [if_pos rfl]
theorem errV_ne {c : Int} (h : c ≠ 0) : errV c = .iface 54 (.int .i64 c) := by unfold errV; rw [if_neg h]
theorem fin_ty {wc w1 w2 : World} {B b : Nat} {l : List Value} {u : Ty} (h : TyAt (strike (· < wc.heap.size) w1) l u) (hB : B <= wc.heap.size) (hb : Below w1.heap.size w1 w2) (hbb : b < wc.heap.size \/ w1.heap.size <= b) (c : Array Value) : TyAt (strike (· < B) (w2.setRow b c)) l u :=
 h.move (by rw [size_setRow]; exact hb.size) fun k hk hS => ⟨fun e => hS (by show k < wc.heap.size; omega), (setRow_other _ _ _ _ (fun e => by subst e; rcases hbb with x | x; exact hS x; omega)).trans (hb.block k hk)⟩
theorem grown_at {w w' : World} {r : Option Nat} (h : w.grownBy w' r) (b : Nat) (hb : b < w.heap.size) (hne : r ≠ some b) : w'.heap[b]? = w.heap[b]? := h.block b hb (fun e => hne e.symm)
theorem BuI.fin {w0 : World} {bx : Nat} {p : ByteArray} {j : Int} {d : ByteArray} {T V : List Nm} {At : Option Addr} {ct : Nat} {Av : Option Addr} {cv : Nat} {wr w5 w6 : World} {xs ys : List Nm} (h : BuI w0 bx p j d T V At ct Av cv wr)
  (g1 : wr.grownBy w5 (Value.slice At T.length ct).ownBlock) (R1 : RowIn nmR (strike (fun k => k < bx + 1 \/ (Value.slice Av V.length cv).ownBlock = some k) w5) At xs)
  (g2 : w5.grownBy w6 (Value.slice Av V.length cv).ownBlock) (R2 : RowIn nmR (strike (fun k => k < bx + 1 \/ (Value.slice At T.length ct).ownBlock = some k) w6) Av ys) (hw : w0.heap.size <= bx) :
  RowIn nmR (strike (fun k => k < bx + 1) w6) At xs /\ RowIn nmR (strike (fun k => k < bx + 1) w6) Av ys /\ Below w0.heap.size w0 w6 /\ w6.heap[bx]? = some (.cells #[.string p, .int .i64 j, .string d, .slice At T.length ct, .slice Av V.length cv] 32 (0, 0)) := by
 have hz := h.size
 have z1 := g1.size
 have z2 := g2.size
 have n1 : ∀ k, k < bx + 1 -> (Value.slice At T.length ct).ownBlock ≠ some k := fun k hk e => by have := (h.types.lt e).1; omega
 have n2 : ∀ k, k < bx + 1 -> (Value.slice Av V.length cv).ownBlock ≠ some k := fun k hk e => by have := (h.vals.lt e).1; omega
 have old : ∀ k, k < bx + 1 -> w6.heap[k]? = wr.heap[k]? := fun k hk => (grown_at g2 k (by omega) (n2 k hk)).trans (grown_at g1 k (by omega) (n1 k hk))
 refine ⟨R1.move z2 fun b hb hS => ⟨fun e => hS (.inl e), grown_at g2 b hb (fun e => hS (.inr e))⟩, R2.move (Nat.le_refl _) fun b hb hS => ⟨fun e => hS (.inl e), rfl⟩, ?_, (old bx (by omega)).trans h.box⟩
 have hb := h.below
 exact ⟨g2.os.trans (g1.os.trans hb.os), g2.tape.trans (g1.tape.trans hb.tape), g2.output.trans (g1.output.trans hb.output), by have := hb.size; omega, fun k hk => (old k (by omega)).trans (hb.block k hk)⟩
theorem mayD_len {d : De} (h : mayD d = true) : d.name.size <= 281474976710656 := by
 unfold mayD at h
 split at h
 ·have := great_len ((Bool.and_eq_true _ _).mp h).1; omega
 ·split at h
  ·have := great_len ((Bool.and_eq_true _ _).mp h).1; omega
  ·split at h
   ·have := small_len ((Bool.and_eq_true _ _).mp h).1; omega
   ·cases h
theorem build10_any (m : Mo) (pkg : ByteArray) (major : Int) (env : List If) (Ai : Option Addr) (ci : Nat) (Ad : Option Addr) (cd : Nat) (Ae : Option Addr) (ce : Nat) (w : World) (hMo : MoAt w [.string m.name, .slice Ai m.imps.length ci, .slice Ad m.decs.length cd] m) (hcap : CapsAt [.string m.name, .slice Ai m.imps.length ci, .slice Ad m.decs.length cd] m)
  (hpk : pkg.size <= 9223372036854775807) (hE : RowIn ifR w Ae env) (hel : env.length <= 9223372036854775807) (hM : ∀ d ∈ m.decs, many d.typ <= 9000) :
  Calls Tryz.prog 7 #[.agg #[.string m.name, .slice Ai m.imps.length ci, .slice Ad m.decs.length cd], .string pkg, .int .i64 major, .slice Ae env.length ce] w (BdOut10 m pkg major env w) := by
 have HMo := hZ hMo
 have HCAP := hZ hcap
 have HE := hZ hE
 have HM := hZ hM
 have HDE : Hid (RowIn deR w Ad m.decs) := hZ (by
  obtain ⟨A1, c1, A2, c2, e, z1, z2, z3, hi, hd⟩ := hMo;simp at e;obtain ⟨-, e3, -⟩ := e;rw [e3]; exact hd)
 have HSZ : Hid (m.name.size <= 9223372036854775807 /\ m.decs.length <= 9223372036854775807) := hZ (by
  obtain ⟨A1, c1, A2, c2, e, z1, z2, z3, hi, hd⟩ := hMo;exact ⟨z1, z3⟩)
 have CX := hZ (fun (wx : World) (hb : Below w.heap.size w wx) (t : Ty) (lt : List Value) (hT : TyAt wx lt t) => expand8_any m pkg major env Ai ci Ad cd Ae ce t lt wx (hMo.below hb) hcap hpk (hE.below hb) hel hT hM)
 obtain ⟨n, hn⟩ : ∃ n, n = m.decs.length := ⟨_, rfl⟩
 obtain ⟨ni, hni⟩ : ∃ ni, ni = m.imps.length := ⟨_, rfl⟩
 have HN := hZ hn
 obtain ⟨ne, hne⟩ : ∃ ne, ne = env.length := ⟨_, rfl⟩
 have HNE := hZ hne
 rw [<- hn, <- hni, <- hne] at CX ⊢
 rw [<- hn, <- hni] at HMo HCAP
 have hn63 : n <= 9223372036854775807 := by rw [hn]; exact HSZ.out.2
 obtain ⟨W2, hW2, B2, O0, O1, hl2⟩ := two_boxes w #[.string m.name, .slice Ai ni ci, .slice Ad n cd] #[.string ⟨#[]⟩, .int .i64 0, .string ⟨#[]⟩, .slice none 0 0, .slice none 0 0] 25 32
 have HXM : Hid (∀ wx, Below W2.heap.size W2 wx -> wx.heap[w.heap.size]? = some (.cells #[.string m.name, .slice Ai ni ci, .slice Ad n cd] 25 (0, 0))) := hZ (fun wx hb => (hb.block _ (by omega)).trans O0)
 have HXR : Hid (∀ wx, Below W2.heap.size W2 wx -> wx.heap[w.heap.size + 1]? = some (.cells #[.string ⟨#[]⟩, .int .i64 0, .string ⟨#[]⟩, .slice none 0 0, .slice none 0 0] 32 (0, 0))) := hZ (fun wx hb => (hb.block _ (by omega)).trans O1)
 have s2 : W2.heap.size = w.heap.size + 1 + 1 := by rw [hW2]; simp
 have HS2 := hZ s2
 have HB2 := hZ B2
 have HW := hZ hW2
 have CK := hZ (check7_any m _ W2 (HMo.out.below B2) hM HCAP.out)
 have PUTR : Hid (∀ wx, Below W2.heap.size W2 wx -> ∀ cs, Below w.heap.size w (wx.setRow (w.heap.size + 1) cs)) := hZ (fun wx hb cs => setRow_below (below_over HB2.out hb) (by omega) cs)
 obtain ⟨x0, x1, x2⟩ := cq3 O0
 simp at x0 x1 x2
 clear hMo hcap hE hM hn hni hne hW2 B2 O0 O1 hl2 s2 hel
 go_enter Tryz.func7, Tryz.ntmps7
 go_upto_region 1 with fail
 rw [<- HW.out]
 clear HW
 go_wp2_with fail
 refine CK.out.mono ?_; rintro e w3 ⟨hck, hb3⟩
 clear CK x0 x1 x2
 have HB3 := hZ hb3
 rcases ck10 hck with ⟨hmay, hok, rfl⟩ | ⟨c, j, T, y, hrk, hc0, rfl, hev⟩
 rotate_left
 ·have X3 := HXR.out w3 HB3.out
  have HX3 := hZ X3
  have FIN : Hid (BdOut10 m pkg major env w (.returned (.tuple #[.agg #[.string ⟨#[]⟩, .int .i64 0, .string ⟨#[]⟩, .slice none 0 0, .slice none 0 0], .iface T y])) (w3.setRow (w.heap.size + 1) #[.string ⟨#[]⟩, .int .i64 0, .string ⟨#[]⟩, .slice none 0 0, .slice none 0 0])) := hZ (by
   refine ⟨c, j, zIf, [.string ⟨#[]⟩, .int .i64 0, .string ⟨#[]⟩, .slice none 0 0, .slice none 0 0], _, .inl ⟨hrk, hc0, rfl⟩, rfl, ?_, zIf_at _, PUTR.out w3 HB3.out _⟩;have hev' := hev
   rcases hev' with h | h | ⟨g, i, b, h1, h2, h3, h4, h5, h6, h7⟩
   ·exact .inl h
   ·exact .inr (.inl h)
   ·have hg : g ≠ w.heap.size + 1 := fun e => by
     subst e;rw [cZ HX3.out 0] at h6;simp at h6
    refine .inr (.inr ⟨g, i, b, h1, h2, h3, h4, by rw [size_setRow]; exact h5, ?_, ?_⟩)
    ·exact (World.cell?_of_block (a := ⟨g, 0, none⟩) (setRow_other _ _ _ _ hg)).trans h6
    ·exact (World.cell?_of_block (a := ⟨g, 1, none⟩) (setRow_other _ _ _ _ hg)).trans h7)
  clear hck hrk hc0 hev hb3;go_wp2_with (first | ((with_reducible refine wpList_putRow 32 (w.heap.size + 1) #[.string ⟨#[]⟩, .int .i64 0, .string ⟨#[]⟩, .slice none 0 0, .slice none 0 0] _ _ X3 ?_ ?_ ?_ ?_ ?_ ?_); exact ifSize; rfl; exact ifOne; (focus (first | (go_simp; done) | rfl)); (focus (first | (go_simp; done) | rfl))))
  exact ret_agg (fn := Tryz.f7) (vs := [.string ⟨#[]⟩, .int .i64 0, .string ⟨#[]⟩, .slice none 0 0, .slice none 0 0]) (b := w.heap.size + 1) rfl rfl rfl Tryz.underlying32 (by kernel_rfl) (cell5 (setRow_heap _ (w.heap.size + 1) _ _ _ _ HX3.out)) rfl FIN.out
 have HMAY := hZ hmay
 have HOK := hZ hok
 have X3 := HXM.out w3 hb3
 have x0 := cZ X3 0
 simp at x0
 clear hck hmay hok hb3 X3
 go_wp2_with fail
 refine (open10_any _ _ _ _ _).mono ?_; rintro e w4 ⟨rfl, hb4⟩
 have HB4 := hZ (below_over HB3.out hb4)
 clear x0 hb4
 obtain ⟨q1, hq1⟩ : ∃ q, q = mayT (opT pkg major m.name ⟨#[84]⟩) := ⟨_, rfl⟩
 have CMY := hZ (mayK_any _ _ w4 (opV pkg major m.name ⟨#[84]⟩ w4 hpk HSZ.out.1 (by decide)))
 rw [<- hq1] at CMY
 go_wp2_with fail
 refine CMY.out.mono ?_; rintro e w5 ⟨rfl, hb5⟩
 have HB5 := hZ (below_over HB4.out hb5)
 have HQ1 := hZ hq1
 clear hb5 hq1 CMY
 have ARG : Hid (¬ (mayT (openT m pkg major nT) = true /\ env.length <= 100) -> BdOut10 m pkg major env w (.returned (.tuple #[.agg #[.string ⟨#[]⟩, .int .i64 0, .string ⟨#[]⟩, .slice none 0 0, .slice none 0 0], .iface 54 (.int .i64 1)])) (w5.setRow (w.heap.size + 1) #[.string ⟨#[]⟩, .int .i64 0, .string ⟨#[]⟩, .slice none 0 0, .slice none 0 0])) := hZ (fun h => ⟨1, -1, zIf, [.string ⟨#[]⟩, .int .i64 0, .string ⟨#[]⟩, .slice none 0 0, .slice none 0 0], _, .inr (.inl ⟨HMAY.out, HOK.out, rfl, rfl, rfl, h⟩), rfl, .inr (.inl ⟨by decide, rfl, rfl⟩), zIf_at _, PUTR.out w5 HB5.out _⟩)
 cases q1 with
 | false =>
  have FIN := hZ (ARG.out (fun h => by
   have h1 : mayT (opT pkg major m.name ⟨#[84]⟩) = true := h.1;rw [<- HQ1.out] at h1; cases h1))
  have X5 := HXR.out w5 HB5.out;have HX5 := hZ X5;go_wp2_with (first | ((with_reducible refine wpList_putRow 32 (w.heap.size + 1) #[.string ⟨#[]⟩, .int .i64 0, .string ⟨#[]⟩, .slice none 0 0, .slice none 0 0] _ _ X5 ?_ ?_ ?_ ?_ ?_ ?_); exact ifSize; rfl; exact ifOne; (focus (first | (go_simp; done) | rfl)); (focus (first | (go_simp; done) | rfl))))
  exact ret_agg (fn := Tryz.f7) (vs := [.string ⟨#[]⟩, .int .i64 0, .string ⟨#[]⟩, .slice none 0 0, .slice none 0 0]) (b := w.heap.size + 1) rfl rfl rfl Tryz.underlying32 (by kernel_rfl) (cell5 (setRow_heap _ (w.heap.size + 1) _ _ _ _ HX5.out)) rfl FIN.out
 | true =>
 by_cases h100 : ne <= 100
 rotate_left
 ·have FIN := hZ (ARG.out (fun h => by have := h.2; have := HNE.out; omega))
  have X5 := HXR.out w5 HB5.out;have HX5 := hZ X5;have hgt : decide ((100 : Int) < (ne : Int)) = true := by simp; omega
  go_wp2_with (first | ((with_reducible refine wpList_putRow 32 (w.heap.size + 1) #[.string ⟨#[]⟩, .int .i64 0, .string ⟨#[]⟩, .slice none 0 0, .slice none 0 0] _ _ X5 ?_ ?_ ?_ ?_ ?_ ?_); exact ifSize; rfl; exact ifOne; (focus (first | (go_simp; done) | rfl)); (focus (first | (go_simp; done) | rfl))))
  exact ret_agg (fn := Tryz.f7) (vs := [.string ⟨#[]⟩, .int .i64 0, .string ⟨#[]⟩, .slice none 0 0, .slice none 0 0]) (b := w.heap.size + 1) rfl rfl rfl Tryz.underlying32 (by kernel_rfl) (cell5 (setRow_heap _ (w.heap.size + 1) _ _ _ _ HX5.out)) rfl FIN.out
 have HMN : Hid (MayN m pkg major env) := hZ ⟨⟨HMAY.out, HOK.out⟩, HQ1.out.symm, by have := HNE.out; omega⟩
 have hlt100 : decide ((100 : Int) < (ne : Int)) = false := by simp; omega
 have HPN : Hid (pkg.size <= 281474976710656 /\ m.name.size <= 281474976710656) := hZ (by
  have h1 := HQ1.out.symm;rw [may_open] at h1;simp only [Bool.and_eq_true] at h1;have a := small_len h1.1.1;have b := small_len h1.1.2;omega)
 have hn60 : n <= 60 := by rw [HN.out]; exact (mayM_parts HMAY.out).2.1
 clear ARG
 have X5 := HXM.out w5 HB5.out
 have KEEP6 : Hid (∀ wx, Below w5.heap.size w5 wx -> wx.cell? ⟨w.heap.size, 0, none⟩ = some (.string m.name)) := hZ (fun wx hb => cZ (HXM.out wx (below_over HB5.out hb)) 0)
 have x0 := cZ X5 0
 simp at x0
 clear X5
 go_upto_region 6 with fail
 go_cut [11] (fun s11 wx => ∃ b : Nat, s11 = .pointer (some ⟨b, 0, none⟩) /\ wx.heap[b]? = some (.cells #[.string pkg, .int .i64 major, .string m.name, .slice none 0 0, .slice none 0 0] 32 (0, 0)) /\ Below w5.heap.size w5 wx /\ w5.heap.size <= b)
 case first =>
  have hH0 := KEEP6.out w5.drew (Below.drew (Below.refl _ _));refine AnyX.start (fun wx => wx.cell? ⟨w.heap.size, 0, none⟩ = some (.string m.name)) (fun _ => false) (by kernel_rfl) ?_;refine AnyX.mv (i := 0) (v := ?_) rfl (fun _ _ _ h => h) (Or.inl ⟨by rfl, ?_⟩) ?_;rotate_left
  ·(intro wS _; go_simp; try with_reducible rfl)
  simp only [getElem_toArray, getElem_cons_succ, getElem_cons_zero];simp only [Act.put, setIfInBounds_toArray];simp only [set_cons_zero, set_cons_succ];refine AnyX.mv (i := 2) (v := ?_) rfl (fun _ _ _ h => h) (Or.inl ⟨by rfl, ?_⟩) ?_;rotate_left
  ·(intro wS _; go_simp; try with_reducible rfl)
  simp only [getElem_toArray, getElem_cons_succ, getElem_cons_zero];simp only [Act.put, setIfInBounds_toArray];simp only [set_cons_zero, set_cons_succ];refine AnyX.mv (i := 3) (v := ?_) rfl (fun _ _ _ h => h) (Or.inl ⟨by rfl, ?_⟩) ?_;rotate_left
  ·(intro wS _; go_simp; try with_reducible rfl)
  simp only [getElem_toArray, getElem_cons_succ, getElem_cons_zero];simp only [Act.put, setIfInBounds_toArray];simp only [set_cons_zero, set_cons_succ];refine AnyX.tk (i := 4) (v := ?_) rfl (fun _ _ _ h => h) hH0 (Or.inl ⟨by rfl, ?_⟩) ?_;rotate_left
  ·(intro wS hS; (try obtain n1 := hS); go_simp; try with_reducible rfl)
  simp only [getElem_toArray, getElem_cons_succ, getElem_cons_zero];simp only [Act.put, setIfInBounds_toArray];simp only [set_cons_zero, set_cons_succ];refine AnyX.go2 1 7 (by kernel_rfl) rfl rfl (by rfl) (by rfl) (fun K hK => ?_) (fun K hK => ?_)
  ·skip
   simp only [getElem_toArray, getElem_cons_succ, getElem_cons_zero];go_simp
   refine (cln_any pkg (w5.drew) HPN.out.1).mono ?_;rintro e v1 ⟨rfl, hb⟩;have hB1 : Below w5.heap.size w5 v1 := below_over (Below.drew (Below.refl w5.heap.size w5)) hb;simp only [];refine hK.out _ _ (fun hoff _ => KEEP6.out _ hB1) ?_;clear hK;(try simp only [Act.put, setIfInBounds_toArray]);(try simp only [set_cons_zero, set_cons_succ]);refine AnyX.go2 5 7 (by kernel_rfl) rfl rfl (by rfl) (by rfl) (fun K hK => ?_) (fun K hK => ?_)
   ·skip
    simp only [getElem_toArray, getElem_cons_succ, getElem_cons_zero];go_simp
    refine (cln_any m.name (v1) HPN.out.2).mono ?_;rintro e v2 ⟨rfl, hb⟩;have hB2 : Below w5.heap.size w5 v2 := below_over hB1 hb;simp only [];refine hK.out _ _ (fun hoff _ => KEEP6.out _ hB2) ?_;clear hK;(try simp only [Act.put, setIfInBounds_toArray]);(try simp only [set_cons_zero, set_cons_succ]);have hH2 := KEEP6.out _ hB2;refine AnyX.mv (i := 6) (v := ?_) rfl (fun _ _ _ h => h) (Or.inl ⟨by rfl, ?_⟩) ?_;rotate_left
    ·(intro wS _; go_simp; try with_reducible rfl)
    simp only [getElem_toArray, getElem_cons_succ, getElem_cons_zero];simp only [Act.put, setIfInBounds_toArray];simp only [set_cons_zero, set_cons_succ];refine AnyX.go 7 (by kernel_rfl) rfl rfl (fun K hK => ?_);simp only [getElem_toArray, getElem_cons_succ, getElem_cons_zero];go_simp
    obtain ⟨v3, hv3⟩ : ∃ wa, wa = v2.alloc (.cells #[.string ⟨#[]⟩, .int .i64 0, .string ⟨#[]⟩, .slice none 0 0, .slice none 0 0] 32) := ⟨_, rfl⟩;have hB3 : Below w5.heap.size w5 v3 := by rw [hv3]; exact below_new hB2 _
    have al3 : Below v2.heap.size v2 v3 := by rw [hv3]; exact below_new (Below.refl _ _) _
    have X3 : v3.heap[v2.heap.size]? = some (.cells #[.string ⟨#[]⟩, .int .i64 0, .string ⟨#[]⟩, .slice none 0 0, .slice none 0 0] 32 (0, 0)) := by rw [hv3]; exact heap_alloc_new v2 _
    have lt3 : v2.heap.size < v3.heap.size := by rw [hv3]; simp
    have bl3 : w5.heap.size <= v2.heap.size := hB2.size;have hHa3 := KEEP6.out v3 hB3;rw [hv3] at hHa3;refine hK.out _ _ (fun hoff _ => hHa3) ?_;clear hK;(try simp only [Act.put, setIfInBounds_toArray]);(try simp only [set_cons_zero, set_cons_succ]);rw [<- hv3];clear hHa3 hv3;refine AnyX.go 8 (by kernel_rfl) rfl rfl (fun K hK => ?_);simp only [getElem_toArray, getElem_cons_succ, getElem_cons_zero];refine wp_store_row 32 (.tmp 11) (.tmp 42) rfl (v2.heap.size) #[.string pkg, .int .i64 major, .string m.name, .slice none 0 0, .slice none 0 0] rfl rfl _ _ X3 ifSize rfl ifOne ?_;have hBs := setRow_below hB3 bl3 #[.string pkg, .int .i64 major, .string m.name, .slice none 0 0, .slice none 0 0];refine hK.out _ _ (fun hoff _ => KEEP6.out _ hBs) ?_;clear hK;(try simp only [Act.put, setIfInBounds_toArray]);(try simp only [set_cons_zero, set_cons_succ]);refine AnyX.done (by kernel_rfl) ?_ _;go_wp2_with fail
    go_meet
    exact ⟨_, rfl, setRow_heap _ _ _ _ _ _ X3, hBs, bl3⟩
   ·skip
    simp only [getElem_toArray, getElem_cons_succ, getElem_cons_zero];go_simp
    obtain ⟨v4, hv4⟩ : ∃ wa, wa = v1.alloc (.cells #[.string ⟨#[]⟩, .int .i64 0, .string ⟨#[]⟩, .slice none 0 0, .slice none 0 0] 32) := ⟨_, rfl⟩;have hB4 : Below w5.heap.size w5 v4 := by rw [hv4]; exact below_new hB1 _
    have al4 : Below v1.heap.size v1 v4 := by rw [hv4]; exact below_new (Below.refl _ _) _
    have X4 : v4.heap[v1.heap.size]? = some (.cells #[.string ⟨#[]⟩, .int .i64 0, .string ⟨#[]⟩, .slice none 0 0, .slice none 0 0] 32 (0, 0)) := by rw [hv4]; exact heap_alloc_new v1 _
    have lt4 : v1.heap.size < v4.heap.size := by rw [hv4]; simp
    have bl4 : w5.heap.size <= v1.heap.size := hB1.size;have hHa4 := KEEP6.out v4 hB4;rw [hv4] at hHa4;refine hK.out _ _ (fun hoff _ => hHa4) ?_;clear hK;(try simp only [Act.put, setIfInBounds_toArray]);(try simp only [set_cons_zero, set_cons_succ]);rw [<- hv4];clear hHa4 hv4;refine AnyX.go 5 (by kernel_rfl) rfl rfl (fun K hK => ?_);simp only [getElem_toArray, getElem_cons_succ, getElem_cons_zero];go_simp
    refine (cln_any m.name (v4) HPN.out.2).mono ?_;rintro e v5 ⟨rfl, hb⟩;have hB5 : Below w5.heap.size w5 v5 := below_over hB4 hb;have X5 := (hb.block _ lt4).trans X4;have lt5 := Nat.lt_of_lt_of_le lt4 hb.size;simp only [];refine hK.out _ _ (fun hoff _ => KEEP6.out _ hB5) ?_;clear hK;(try simp only [Act.put, setIfInBounds_toArray]);(try simp only [set_cons_zero, set_cons_succ]);have hH5 := KEEP6.out _ hB5;refine AnyX.mv (i := 6) (v := ?_) rfl (fun _ _ _ h => h) (Or.inl ⟨by rfl, ?_⟩) ?_;rotate_left
    ·(intro wS _; go_simp; try with_reducible rfl)
    simp only [getElem_toArray, getElem_cons_succ, getElem_cons_zero];simp only [Act.put, setIfInBounds_toArray];simp only [set_cons_zero, set_cons_succ];refine AnyX.go 8 (by kernel_rfl) rfl rfl (fun K hK => ?_);simp only [getElem_toArray, getElem_cons_succ, getElem_cons_zero];refine wp_store_row 32 (.tmp 11) (.tmp 42) rfl (v1.heap.size) #[.string pkg, .int .i64 major, .string m.name, .slice none 0 0, .slice none 0 0] rfl rfl _ _ X5 ifSize rfl ifOne ?_;have hBs := setRow_below hB5 bl4 #[.string pkg, .int .i64 major, .string m.name, .slice none 0 0, .slice none 0 0];refine hK.out _ _ (fun hoff _ => KEEP6.out _ hBs) ?_;clear hK;(try simp only [Act.put, setIfInBounds_toArray]);(try simp only [set_cons_zero, set_cons_succ]);refine AnyX.done (by kernel_rfl) ?_ _;go_wp2_with fail
    go_meet
    exact ⟨_, rfl, setRow_heap _ _ _ _ _ _ X5, hBs, bl4⟩
  ·skip
   simp only [getElem_toArray, getElem_cons_succ, getElem_cons_zero];go_simp
   obtain ⟨v6, hv6⟩ : ∃ wa, wa = (w5.alloc (.cells #[.string ⟨#[]⟩, .int .i64 0, .string ⟨#[]⟩, .slice none 0 0, .slice none 0 0] 32)).drew := ⟨_, rfl⟩;have hB6 : Below w5.heap.size w5 v6 := by rw [hv6]; exact Below.drew (below_new (Below.refl _ _) _)
   have X6 : v6.heap[w5.heap.size]? = some (.cells #[.string ⟨#[]⟩, .int .i64 0, .string ⟨#[]⟩, .slice none 0 0, .slice none 0 0] 32 (0, 0)) := by rw [hv6]; exact heap_alloc_new w5 _
   have lt6 : w5.heap.size < v6.heap.size := by rw [hv6]; simp
   have bl6 : w5.heap.size <= w5.heap.size := Nat.le_refl _;have hHa6 := KEEP6.out v6 hB6;rw [hv6] at hHa6;refine hK.out _ _ (fun hoff _ => hHa6) ?_;clear hK;(try simp only [Act.put, setIfInBounds_toArray]);(try simp only [set_cons_zero, set_cons_succ]);rw [<- hv6];clear hHa6 hv6;refine AnyX.go 1 (by kernel_rfl) rfl rfl (fun K hK => ?_);simp only [getElem_toArray, getElem_cons_succ, getElem_cons_zero];go_simp
   refine (cln_any pkg (v6) HPN.out.1).mono ?_;rintro e v7 ⟨rfl, hb⟩;have hB7 : Below w5.heap.size w5 v7 := below_over hB6 hb;have X7 := (hb.block _ lt6).trans X6;have lt7 := Nat.lt_of_lt_of_le lt6 hb.size;simp only [];refine hK.out _ _ (fun hoff _ => KEEP6.out _ hB7) ?_;clear hK;(try simp only [Act.put, setIfInBounds_toArray]);(try simp only [set_cons_zero, set_cons_succ]);refine AnyX.go 5 (by kernel_rfl) rfl rfl (fun K hK => ?_);simp only [getElem_toArray, getElem_cons_succ, getElem_cons_zero];go_simp
   refine (cln_any m.name (v7) HPN.out.2).mono ?_;rintro e v8 ⟨rfl, hb⟩;have hB8 : Below w5.heap.size w5 v8 := below_over hB7 hb;have X8 := (hb.block _ lt7).trans X7;have lt8 := Nat.lt_of_lt_of_le lt7 hb.size;simp only [];refine hK.out _ _ (fun hoff _ => KEEP6.out _ hB8) ?_;clear hK;(try simp only [Act.put, setIfInBounds_toArray]);(try simp only [set_cons_zero, set_cons_succ]);have hH8 := KEEP6.out _ hB8;refine AnyX.mv (i := 6) (v := ?_) rfl (fun _ _ _ h => h) (Or.inl ⟨by rfl, ?_⟩) ?_;rotate_left
   ·(intro wS _; go_simp; try with_reducible rfl)
   simp only [getElem_toArray, getElem_cons_succ, getElem_cons_zero];simp only [Act.put, setIfInBounds_toArray];simp only [set_cons_zero, set_cons_succ];refine AnyX.go 8 (by kernel_rfl) rfl rfl (fun K hK => ?_);simp only [getElem_toArray, getElem_cons_succ, getElem_cons_zero];refine wp_store_row 32 (.tmp 11) (.tmp 42) rfl (w5.heap.size) #[.string pkg, .int .i64 major, .string m.name, .slice none 0 0, .slice none 0 0] rfl rfl _ _ X8 ifSize rfl ifOne ?_;have hBs := setRow_below hB8 bl6 #[.string pkg, .int .i64 major, .string m.name, .slice none 0 0, .slice none 0 0];refine hK.out _ _ (fun hoff _ => KEEP6.out _ hBs) ?_;clear hK;(try simp only [Act.put, setIfInBounds_toArray]);(try simp only [set_cons_zero, set_cons_succ]);refine AnyX.done (by kernel_rfl) ?_ _;go_wp2_with fail
   go_meet
   exact ⟨_, rfl, setRow_heap _ _ _ _ _ _ X8, hBs, bl6⟩
 case rest =>
  obtain ⟨bx, rfl, hXb, hBb, hlb⟩ := hcut;obtain ⟨wy, rfl⟩ : ∃ wy : World, wy = wc := ⟨_, rfl⟩;have hbl := (Array.getElem?_eq_some_iff.1 hXb).1;have START : Hid (BuI w5 bx pkg major m.name [] [] none 0 none 0 wy) := hZ ⟨hBb, by omega, hXb, RowB.start _ _ _ _, RowB.start _ _ _ _, fun b hb => by simp [Value.ownBlock] at hb⟩;have Xy := HXM.out wy (below_over HB5.out hBb);have x2 := cZ Xy 2;simp at x2;clear x0 hXb hBb Xy KEEP6 hbl;go_wp2_with fail
  clear x2;go_loopw [46] (fun s46 wr => ∃ (k : Nat) (us : List Ty) (At : Option Addr) (ct : Nat) (Av : Option Addr) (cv : Nat), k <= n /\ s46 = .int .i64 k /\ Hid (us.length = k /\ ∀ (i : Nat) (e : De) (v : Ty), m.decs[i]? = some e -> us[i]? = some v -> EpIs m pkg major env (meantD e) 0 v) /\ Hid (BuI w5 bx pkg major m.name (tysOf ((m.decs.take k).zip us)) (valsOf ((m.decs.take k).zip us)) At ct Av cv wr)) (fun s46 _ => n - (intOf s46).toNat)
  case atStart => exact ⟨0, [], none, 0, none, 0, by omega, rfl, hZ ⟨rfl, fun i e v _ h => by simp at h⟩, START⟩
  case round =>
   obtain ⟨k, us, At, ct, Av, cv, hk, rfl, HU, HI⟩ := hrel;obtain ⟨wo, rfl⟩ : ∃ wo : World, wo = wr := ⟨_, rfl⟩;obtain ⟨T, hT⟩ : ∃ T, T = tysOf ((m.decs.take k).zip us) := ⟨_, rfl⟩;obtain ⟨V, hV⟩ : ∃ V, V = valsOf ((m.decs.take k).zip us) := ⟨_, rfl⟩;rw [<- hT, <- hV] at HI
   have hTl : T.length <= 60 := by
    have h1 := tysOf_len ((m.decs.take k).zip us);rw [List.length_zip, List.length_take, <- hT] at h1;omega
   have hVl : V.length <= 60 := by
    have h1 := valsOf_len ((m.decs.take k).zip us);rw [List.length_zip, List.length_take, <- hV] at h1;omega
   have HTV := hZ (And.intro hT hV);clear hT hV;have HWo : Hid (Below W2.heap.size W2 wo) := hZ (below_over HB5.out HI.out.below);have HWow : Hid (Below w.heap.size w wo) := hZ (below_over HB2.out HWo.out);by_cases hlt : k < n
   ·obtain ⟨d, hd⟩ : ∃ d, m.decs[k]? = some d := ⟨_, List.getElem?_eq_getElem (by rw [<- HN.out]; exact hlt)⟩
    have HDK := hZ hd;obtain ⟨gd, od, v0, v1, v2, v3, v4, v5, v6, rfl, hgd, c0, c1, c2, c3, c4, c5, c6, c7, c8, hTd, hds⟩ := (HDE.out.below HWow.out).de hd;obtain ⟨Dn, cD, Ds, dD, rfl, rfl, rfl, rfl, rfl, rfl, rfl⟩ := hTd.seven;obtain ⟨W9, hW9⟩ : ∃ W9, W9 = wo.alloc (.cells #[.int .i64 d.kind, .string d.name, .int .i64 d.typ.kind, .string d.typ.pkg, .int .i64 d.typ.major, .string d.typ.mod, .string d.typ.name, .slice Dn d.typ.names.length cD, .slice Ds d.typ.subs.length dD] 47) := ⟨_, rfl⟩;have B9 : Below wo.heap.size wo W9 := by rw [hW9]; exact below_new (Below.refl _ _) _
    have Y9 : W9.heap[wo.heap.size]? = some (.cells #[.int .i64 d.kind, .string d.name, .int .i64 d.typ.kind, .string d.typ.pkg, .int .i64 d.typ.major, .string d.typ.mod, .string d.typ.name, .slice Dn d.typ.names.length cD, .slice Ds d.typ.subs.length dD] 47 (0, 0)) := by rw [hW9]; exact heap_alloc_new wo _
    have s9 : W9.heap.size = wo.heap.size + 1 := by rw [hW9]; simp
    have HB9 := hZ B9;have HS9 := hZ s9;have HW9 := hZ hW9;have HY9 : Hid (∀ wx, Below W9.heap.size W9 wx -> wx.heap[wo.heap.size]? = some (.cells #[.int .i64 d.kind, .string d.name, .int .i64 d.typ.kind, .string d.typ.pkg, .int .i64 d.typ.major, .string d.typ.mod, .string d.typ.name, .slice Dn d.typ.names.length cD, .slice Ds d.typ.subs.length dD] 47 (0, 0))) := hZ (fun wx hb => (hb.block _ (by omega)).trans Y9);have HM9 : Hid (∀ wx, Below W9.heap.size W9 wx -> wx.heap[w.heap.size]? = some (.cells #[.string m.name, .slice Ai ni ci, .slice (some ⟨gd, od, none⟩) n cd] 25 (0, 0))) := hZ (fun wx hb => HXM.out wx (below_over HWo.out (below_over HB9.out hb)));have CM := hZ (fun (wx : World) (hb : Below W9.heap.size W9 wx) => meant10_any d Dn cD Ds dD wx hds (hTd.keep (below_over HB9.out hb)));have CE := hZ (fun (wx : World) (hb : Below W9.heap.size W9 wx) (lt : List Value) (hT : TyAt wx lt (meantD d)) => CX.out wx (below_over HWow.out (below_over HB9.out hb)) (meantD d) lt hT)
    have KEEP : Hid (∀ wx, Below W9.heap.size W9 wx -> (wx.cell? ⟨w.heap.size, 0, none⟩ = some (.string m.name) /\ wx.cell? ⟨w.heap.size, 1, none⟩ = some (.slice Ai ni ci) /\ wx.cell? ⟨w.heap.size, 2, none⟩ = some (.slice (some ⟨gd, od, none⟩) n cd)) /\ wx.cell? ⟨wo.heap.size, 0, none⟩ = some (.int .i64 d.kind) /\ wx.cell? ⟨wo.heap.size, 1, none⟩ = some (.string d.name) /\ wx.cell? ⟨wo.heap.size, 2, none⟩ = some (.int .i64 d.typ.kind) /\ wx.cell? ⟨wo.heap.size, 3, none⟩ = some (.string d.typ.pkg) /\ wx.cell? ⟨wo.heap.size, 4, none⟩ = some (.int .i64 d.typ.major) /\ wx.cell? ⟨wo.heap.size, 5, none⟩ = some (.string d.typ.mod) /\ wx.cell? ⟨wo.heap.size, 6, none⟩ = some (.string d.typ.name) /\ wx.cell? ⟨wo.heap.size, 7, none⟩ = some (.slice Dn d.typ.names.length cD) /\ wx.cell? ⟨wo.heap.size, 8, none⟩ = some (.slice Ds d.typ.subs.length dD)) := hZ (fun wx hb => by
     have X0 := HM9.out wx hb;have X1 := HY9.out wx hb;exact ⟨⟨cZ X0 0, cZ X0 1, cZ X0 2⟩, cZ X1 0, cZ X1 1, cZ X1 2, cZ X1 3, cZ X1 4, cZ X1 5, cZ X1 6, cZ X1 7, cZ X1 8⟩)
    have hk0 : (0 : Int) <= k := by omega
    have hk1 : (k : Int) < n := by omega
    clear hd hgd hTd hds hW9 B9 Y9 s9;go_upto_region 10 with fail
    rw [<- HW9.out];clear HW9 c0 c1 c2 c3 c4 c5 c6 c7 c8;go_cut [14, 15] (fun s14 s15 wx => ∃ (b14 : Nat) (c : Int) (u : Ty) (Un : Option Addr) (cU : Nat) (Us : Option Addr) (dU : Nat), s14 = .pointer (some ⟨b14, 0, none⟩) /\ s15 = errV c /\ wx.heap[b14]? = some (.cells #[.int .i64 u.kind, .string u.pkg, .int .i64 u.major, .string u.mod, .string u.name, .slice Un u.names.length cU, .slice Us u.subs.length dU] 45 (0, 0)) /\ EpIs m pkg major env (meantD d) c u /\ TyAt (strike (· < W9.heap.size) wx) [.int .i64 u.kind, .string u.pkg, .int .i64 u.major, .string u.mod, .string u.name, .slice Un u.names.length cU, .slice Us u.subs.length dU] u /\ Below W9.heap.size W9 wx)
    case first =>
     have hH0 := KEEP.out W9.drew (Below.drew (Below.refl _ _));refine AnyX.start (fun wx => (wx.cell? ⟨w.heap.size, 0, none⟩ = some (.string m.name) /\ wx.cell? ⟨w.heap.size, 1, none⟩ = some (.slice Ai ni ci) /\ wx.cell? ⟨w.heap.size, 2, none⟩ = some (.slice (some ⟨gd, od, none⟩) n cd)) /\ wx.cell? ⟨wo.heap.size, 0, none⟩ = some (.int .i64 d.kind) /\ wx.cell? ⟨wo.heap.size, 1, none⟩ = some (.string d.name) /\ wx.cell? ⟨wo.heap.size, 2, none⟩ = some (.int .i64 d.typ.kind) /\ wx.cell? ⟨wo.heap.size, 3, none⟩ = some (.string d.typ.pkg) /\ wx.cell? ⟨wo.heap.size, 4, none⟩ = some (.int .i64 d.typ.major) /\ wx.cell? ⟨wo.heap.size, 5, none⟩ = some (.string d.typ.mod) /\ wx.cell? ⟨wo.heap.size, 6, none⟩ = some (.string d.typ.name) /\ wx.cell? ⟨wo.heap.size, 7, none⟩ = some (.slice Dn d.typ.names.length cD) /\ wx.cell? ⟨wo.heap.size, 8, none⟩ = some (.slice Ds d.typ.subs.length dD)) (fun _ => false) (by kernel_rfl) ?_;refine AnyX.tk (i := 0) (v := ?_) rfl (fun _ _ _ h => h) hH0 (Or.inl ⟨by rfl, ?_⟩) ?_;rotate_left
     ·(intro wS hS; (try obtain ⟨⟨n0, n1, n2⟩, m0, m1, m2, m3, m4, m5, m6, m7, m8⟩ := hS); go_simp; try with_reducible rfl)
     simp only [getElem_toArray, getElem_cons_succ, getElem_cons_zero];simp only [Act.put, setIfInBounds_toArray];simp only [set_cons_zero, set_cons_succ];refine AnyX.mv (i := 1) (v := ?_) rfl (fun _ _ _ h => h) (Or.inl ⟨by rfl, ?_⟩) ?_;rotate_left
     ·(intro wS _; go_simp; try with_reducible rfl)
     simp only [getElem_toArray, getElem_cons_succ, getElem_cons_zero];simp only [Act.put, setIfInBounds_toArray];simp only [set_cons_zero, set_cons_succ];refine AnyX.mv (i := 2) (v := ?_) rfl (fun _ _ _ h => h) (Or.inl ⟨by rfl, ?_⟩) ?_;rotate_left
     ·(intro wS _; go_simp; try with_reducible rfl)
     simp only [getElem_toArray, getElem_cons_succ, getElem_cons_zero];simp only [Act.put, setIfInBounds_toArray];simp only [set_cons_zero, set_cons_succ];refine AnyX.mv (i := 3) (v := ?_) rfl (fun _ _ _ h => h) (Or.inl ⟨by rfl, ?_⟩) ?_;rotate_left
     ·(intro wS _; go_simp; try with_reducible rfl)
     simp only [getElem_toArray, getElem_cons_succ, getElem_cons_zero];simp only [Act.put, setIfInBounds_toArray];simp only [set_cons_zero, set_cons_succ];refine AnyX.tk (i := 4) (v := ?_) rfl (fun _ _ _ h => h) hH0 (Or.inl ⟨by rfl, ?_⟩) ?_;rotate_left
     ·(intro wS hS; (try obtain ⟨⟨n0, n1, n2⟩, m0, m1, m2, m3, m4, m5, m6, m7, m8⟩ := hS); go_simp; try with_reducible rfl)
     simp only [getElem_toArray, getElem_cons_succ, getElem_cons_zero];simp only [Act.put, setIfInBounds_toArray];simp only [set_cons_zero, set_cons_succ];refine AnyX.go2 5 10 (by kernel_rfl) rfl rfl (by rfl) (by rfl) (fun K hK => ?_) (fun K hK => ?_)
     ·skip
      simp only [getElem_toArray, getElem_cons_succ, getElem_cons_zero];go_simp
      refine (CM.out (W9.drew) (Below.drew (Below.refl W9.heap.size W9))).mono ?_;rintro e v1 ⟨lm, rfl, hTm, hb⟩;have hB1 : Below W9.heap.size W9 v1 := below_over (Below.drew (Below.refl W9.heap.size W9)) hb;simp only [];refine hK.out _ _ (fun hoff _ => KEEP.out _ hB1) ?_;clear hK;(try simp only [Act.put, setIfInBounds_toArray]);(try simp only [set_cons_zero, set_cons_succ]);refine AnyX.go2 6 10 (by kernel_rfl) rfl rfl (by rfl) (by rfl) (fun K hK => ?_) (fun K hK => ?_)
      ·skip
       simp only [getElem_toArray, getElem_cons_succ, getElem_cons_zero];go_simp
       refine (CE.out (v1) hB1 lm (by first | exact hTm | exact hTm.keep (by assumption))).mono ?_;rintro e v2 ⟨c, u, lu, hep, rfl, hTu, hb⟩;have hB2 : Below W9.heap.size W9 v2 := below_over hB1 hb;obtain ⟨Un, cU, Us, dU, rfl, -⟩ := hTu.parts;have hBc : Below W9.heap.size W9 (v1) := hB1;simp only [];refine hK.out _ _ (fun hoff _ => KEEP.out _ hB2) ?_;clear hK;(try simp only [Act.put, setIfInBounds_toArray]);(try simp only [set_cons_zero, set_cons_succ]);have hH2 := KEEP.out _ hB2;refine AnyX.mv (i := 7) (v := ?_) rfl (fun _ _ _ h => h) (Or.inl ⟨by rfl, ?_⟩) ?_;rotate_left
       ·(intro wS _; go_simp; try with_reducible rfl)
       simp only [getElem_toArray, getElem_cons_succ, getElem_cons_zero];simp only [Act.put, setIfInBounds_toArray];simp only [set_cons_zero, set_cons_succ];refine AnyX.mv (i := 8) (v := ?_) rfl (fun _ _ _ h => h) (Or.inl ⟨by rfl, ?_⟩) ?_;rotate_left
       ·(intro wS _; go_simp; try with_reducible rfl)
       simp only [getElem_toArray, getElem_cons_succ, getElem_cons_zero];simp only [Act.put, setIfInBounds_toArray];simp only [set_cons_zero, set_cons_succ];refine AnyX.mv (i := 9) (v := ?_) rfl (fun _ _ _ h => h) (Or.inl ⟨by rfl, ?_⟩) ?_;rotate_left
       ·(intro wS _; go_simp; try with_reducible rfl)
       simp only [getElem_toArray, getElem_cons_succ, getElem_cons_zero];simp only [Act.put, setIfInBounds_toArray];simp only [set_cons_zero, set_cons_succ];refine AnyX.go 10 (by kernel_rfl) rfl rfl (fun K hK => ?_);simp only [getElem_toArray, getElem_cons_succ, getElem_cons_zero];go_simp
       obtain ⟨v3, hv3⟩ : ∃ wa, wa = v2.alloc (.cells #[.int .i64 0, .string ⟨#[]⟩, .int .i64 0, .string ⟨#[]⟩, .string ⟨#[]⟩, .slice none 0 0, .slice none 0 0] 45) := ⟨_, rfl⟩;have hB3 : Below W9.heap.size W9 v3 := by rw [hv3]; exact below_new hB2 _
       have al3 : Below v2.heap.size v2 v3 := by rw [hv3]; exact below_new (Below.refl _ _) _
       have X3 : v3.heap[v2.heap.size]? = some (.cells #[.int .i64 0, .string ⟨#[]⟩, .int .i64 0, .string ⟨#[]⟩, .string ⟨#[]⟩, .slice none 0 0, .slice none 0 0] 45 (0, 0)) := by rw [hv3]; exact heap_alloc_new v2 _
       have lt3 : v2.heap.size < v3.heap.size := by rw [hv3]; simp
       have bl3 : W9.heap.size <= v2.heap.size := hB2.size;have hHa3 := KEEP.out v3 hB3;rw [hv3] at hHa3;refine hK.out _ _ (fun hoff _ => hHa3) ?_;clear hK;(try simp only [Act.put, setIfInBounds_toArray]);(try simp only [set_cons_zero, set_cons_succ]);rw [<- hv3];clear hHa3 hv3;refine AnyX.go 11 (by kernel_rfl) rfl rfl (fun K hK => ?_);simp only [getElem_toArray, getElem_cons_succ, getElem_cons_zero];refine wp_store_row 45 (.tmp 14) (.tmp 59) rfl (v2.heap.size) #[.int .i64 u.kind, .string u.pkg, .int .i64 u.major, .string u.mod, .string u.name, .slice Un u.names.length cU, .slice Us u.subs.length dU] rfl rfl _ _ X3 tySize rfl tyOne ?_;have hBs := setRow_below hB3 bl3 #[.int .i64 u.kind, .string u.pkg, .int .i64 u.major, .string u.mod, .string u.name, .slice Un u.names.length cU, .slice Us u.subs.length dU];refine hK.out _ _ (fun hoff _ => KEEP.out _ hBs) ?_;clear hK;(try simp only [Act.put, setIfInBounds_toArray]);(try simp only [set_cons_zero, set_cons_succ]);refine AnyX.mv (i := 12) (v := ?_) rfl (fun _ _ _ h => h) (Or.inl ⟨by rfl, ?_⟩) ?_;rotate_left
       ·(intro wS _; go_simp; try with_reducible rfl)
       simp only [getElem_toArray, getElem_cons_succ, getElem_cons_zero];simp only [Act.put, setIfInBounds_toArray];simp only [set_cons_zero, set_cons_succ];refine AnyX.done (by kernel_rfl) ?_ _;go_wp2_with fail
       go_meet
       exact ⟨_, c, u, Un, cU, Us, dU, rfl, rfl, setRow_heap _ _ _ _ _ _ X3, hep, fin_ty hTu hBc.size (by first | exact Below.refl _ _ | assumption) (by first | (left; assumption) | (right; exact Nat.le_refl _) | (left; omega) | (right; omega)) _, hBs⟩
      ·skip
       simp only [getElem_toArray, getElem_cons_succ, getElem_cons_zero];go_simp
       obtain ⟨v4, hv4⟩ : ∃ wa, wa = v1.alloc (.cells #[.int .i64 0, .string ⟨#[]⟩, .int .i64 0, .string ⟨#[]⟩, .string ⟨#[]⟩, .slice none 0 0, .slice none 0 0] 45) := ⟨_, rfl⟩;have hB4 : Below W9.heap.size W9 v4 := by rw [hv4]; exact below_new hB1 _
       have al4 : Below v1.heap.size v1 v4 := by rw [hv4]; exact below_new (Below.refl _ _) _
       have X4 : v4.heap[v1.heap.size]? = some (.cells #[.int .i64 0, .string ⟨#[]⟩, .int .i64 0, .string ⟨#[]⟩, .string ⟨#[]⟩, .slice none 0 0, .slice none 0 0] 45 (0, 0)) := by rw [hv4]; exact heap_alloc_new v1 _
       have lt4 : v1.heap.size < v4.heap.size := by rw [hv4]; simp
       have bl4 : W9.heap.size <= v1.heap.size := hB1.size;have hHa4 := KEEP.out v4 hB4;rw [hv4] at hHa4;refine hK.out _ _ (fun hoff _ => hHa4) ?_;clear hK;(try simp only [Act.put, setIfInBounds_toArray]);(try simp only [set_cons_zero, set_cons_succ]);rw [<- hv4];clear hHa4 hv4;refine AnyX.go 6 (by kernel_rfl) rfl rfl (fun K hK => ?_);simp only [getElem_toArray, getElem_cons_succ, getElem_cons_zero];go_simp
       refine (CE.out (v4) hB4 lm (by first | exact hTm | exact hTm.keep (by assumption))).mono ?_;rintro e v5 ⟨c, u, lu, hep, rfl, hTu, hb⟩;have hB5 : Below W9.heap.size W9 v5 := below_over hB4 hb;have X5 := (hb.block _ lt4).trans X4;have lt5 := Nat.lt_of_lt_of_le lt4 hb.size;obtain ⟨Un, cU, Us, dU, rfl, -⟩ := hTu.parts;have hBc : Below W9.heap.size W9 (v4) := hB4;simp only [];refine hK.out _ _ (fun hoff _ => KEEP.out _ hB5) ?_;clear hK;(try simp only [Act.put, setIfInBounds_toArray]);(try simp only [set_cons_zero, set_cons_succ]);have hH5 := KEEP.out _ hB5;refine AnyX.mv (i := 7) (v := ?_) rfl (fun _ _ _ h => h) (Or.inl ⟨by rfl, ?_⟩) ?_;rotate_left
       ·(intro wS _; go_simp; try with_reducible rfl)
       simp only [getElem_toArray, getElem_cons_succ, getElem_cons_zero];simp only [Act.put, setIfInBounds_toArray];simp only [set_cons_zero, set_cons_succ];refine AnyX.mv (i := 8) (v := ?_) rfl (fun _ _ _ h => h) (Or.inl ⟨by rfl, ?_⟩) ?_;rotate_left
       ·(intro wS _; go_simp; try with_reducible rfl)
       simp only [getElem_toArray, getElem_cons_succ, getElem_cons_zero];simp only [Act.put, setIfInBounds_toArray];simp only [set_cons_zero, set_cons_succ];refine AnyX.mv (i := 9) (v := ?_) rfl (fun _ _ _ h => h) (Or.inl ⟨by rfl, ?_⟩) ?_;rotate_left
       ·(intro wS _; go_simp; try with_reducible rfl)
       simp only [getElem_toArray, getElem_cons_succ, getElem_cons_zero];simp only [Act.put, setIfInBounds_toArray];simp only [set_cons_zero, set_cons_succ];refine AnyX.go 11 (by kernel_rfl) rfl rfl (fun K hK => ?_);simp only [getElem_toArray, getElem_cons_succ, getElem_cons_zero];refine wp_store_row 45 (.tmp 14) (.tmp 59) rfl (v1.heap.size) #[.int .i64 u.kind, .string u.pkg, .int .i64 u.major, .string u.mod, .string u.name, .slice Un u.names.length cU, .slice Us u.subs.length dU] rfl rfl _ _ X5 tySize rfl tyOne ?_;have hBs := setRow_below hB5 bl4 #[.int .i64 u.kind, .string u.pkg, .int .i64 u.major, .string u.mod, .string u.name, .slice Un u.names.length cU, .slice Us u.subs.length dU];refine hK.out _ _ (fun hoff _ => KEEP.out _ hBs) ?_;clear hK;(try simp only [Act.put, setIfInBounds_toArray]);(try simp only [set_cons_zero, set_cons_succ]);refine AnyX.mv (i := 12) (v := ?_) rfl (fun _ _ _ h => h) (Or.inl ⟨by rfl, ?_⟩) ?_;rotate_left
       ·(intro wS _; go_simp; try with_reducible rfl)
       simp only [getElem_toArray, getElem_cons_succ, getElem_cons_zero];simp only [Act.put, setIfInBounds_toArray];simp only [set_cons_zero, set_cons_succ];refine AnyX.done (by kernel_rfl) ?_ _;go_wp2_with fail
       go_meet
       exact ⟨_, c, u, Un, cU, Us, dU, rfl, rfl, setRow_heap _ _ _ _ _ _ X5, hep, fin_ty hTu hBc.size (by first | exact Below.refl _ _ | assumption) (by first | (left; assumption) | (right; exact Nat.le_refl _) | (left; omega) | (right; omega)) _, hBs⟩
     ·skip
      simp only [getElem_toArray, getElem_cons_succ, getElem_cons_zero];go_simp
      obtain ⟨v6, hv6⟩ : ∃ wa, wa = (W9.alloc (.cells #[.int .i64 0, .string ⟨#[]⟩, .int .i64 0, .string ⟨#[]⟩, .string ⟨#[]⟩, .slice none 0 0, .slice none 0 0] 45)).drew := ⟨_, rfl⟩;have hB6 : Below W9.heap.size W9 v6 := by rw [hv6]; exact Below.drew (below_new (Below.refl _ _) _)
      have X6 : v6.heap[W9.heap.size]? = some (.cells #[.int .i64 0, .string ⟨#[]⟩, .int .i64 0, .string ⟨#[]⟩, .string ⟨#[]⟩, .slice none 0 0, .slice none 0 0] 45 (0, 0)) := by rw [hv6]; exact heap_alloc_new W9 _
      have lt6 : W9.heap.size < v6.heap.size := by rw [hv6]; simp
      have bl6 : W9.heap.size <= W9.heap.size := Nat.le_refl _;have hHa6 := KEEP.out v6 hB6;rw [hv6] at hHa6;refine hK.out _ _ (fun hoff _ => hHa6) ?_;clear hK;(try simp only [Act.put, setIfInBounds_toArray]);(try simp only [set_cons_zero, set_cons_succ]);rw [<- hv6];clear hHa6 hv6;refine AnyX.go 5 (by kernel_rfl) rfl rfl (fun K hK => ?_);simp only [getElem_toArray, getElem_cons_succ, getElem_cons_zero];go_simp
      refine (CM.out (v6) hB6).mono ?_;rintro e v7 ⟨lm, rfl, hTm, hb⟩;have hB7 : Below W9.heap.size W9 v7 := below_over hB6 hb;have X7 := (hb.block _ lt6).trans X6;have lt7 := Nat.lt_of_lt_of_le lt6 hb.size;simp only [];refine hK.out _ _ (fun hoff _ => KEEP.out _ hB7) ?_;clear hK;(try simp only [Act.put, setIfInBounds_toArray]);(try simp only [set_cons_zero, set_cons_succ]);refine AnyX.go 6 (by kernel_rfl) rfl rfl (fun K hK => ?_);simp only [getElem_toArray, getElem_cons_succ, getElem_cons_zero];go_simp
      refine (CE.out (v7) hB7 lm (by first | exact hTm | exact hTm.keep (by assumption))).mono ?_;rintro e v8 ⟨c, u, lu, hep, rfl, hTu, hb⟩;have hB8 : Below W9.heap.size W9 v8 := below_over hB7 hb;have X8 := (hb.block _ lt7).trans X7;have lt8 := Nat.lt_of_lt_of_le lt7 hb.size;obtain ⟨Un, cU, Us, dU, rfl, -⟩ := hTu.parts;have hBc : Below W9.heap.size W9 (v7) := hB7;simp only [];refine hK.out _ _ (fun hoff _ => KEEP.out _ hB8) ?_;clear hK;(try simp only [Act.put, setIfInBounds_toArray]);(try simp only [set_cons_zero, set_cons_succ]);have hH8 := KEEP.out _ hB8;refine AnyX.mv (i := 7) (v := ?_) rfl (fun _ _ _ h => h) (Or.inl ⟨by rfl, ?_⟩) ?_;rotate_left
      ·(intro wS _; go_simp; try with_reducible rfl)
      simp only [getElem_toArray, getElem_cons_succ, getElem_cons_zero];simp only [Act.put, setIfInBounds_toArray];simp only [set_cons_zero, set_cons_succ];refine AnyX.mv (i := 8) (v := ?_) rfl (fun _ _ _ h => h) (Or.inl ⟨by rfl, ?_⟩) ?_;rotate_left
      ·(intro wS _; go_simp; try with_reducible rfl)
      simp only [getElem_toArray, getElem_cons_succ, getElem_cons_zero];simp only [Act.put, setIfInBounds_toArray];simp only [set_cons_zero, set_cons_succ];refine AnyX.mv (i := 9) (v := ?_) rfl (fun _ _ _ h => h) (Or.inl ⟨by rfl, ?_⟩) ?_;rotate_left
      ·(intro wS _; go_simp; try with_reducible rfl)
      simp only [getElem_toArray, getElem_cons_succ, getElem_cons_zero];simp only [Act.put, setIfInBounds_toArray];simp only [set_cons_zero, set_cons_succ];refine AnyX.go 11 (by kernel_rfl) rfl rfl (fun K hK => ?_);simp only [getElem_toArray, getElem_cons_succ, getElem_cons_zero];refine wp_store_row 45 (.tmp 14) (.tmp 59) rfl (W9.heap.size) #[.int .i64 u.kind, .string u.pkg, .int .i64 u.major, .string u.mod, .string u.name, .slice Un u.names.length cU, .slice Us u.subs.length dU] rfl rfl _ _ X8 tySize rfl tyOne ?_;have hBs := setRow_below hB8 bl6 #[.int .i64 u.kind, .string u.pkg, .int .i64 u.major, .string u.mod, .string u.name, .slice Un u.names.length cU, .slice Us u.subs.length dU];refine hK.out _ _ (fun hoff _ => KEEP.out _ hBs) ?_;clear hK;(try simp only [Act.put, setIfInBounds_toArray]);(try simp only [set_cons_zero, set_cons_succ]);refine AnyX.mv (i := 12) (v := ?_) rfl (fun _ _ _ h => h) (Or.inl ⟨by rfl, ?_⟩) ?_;rotate_left
      ·(intro wS _; go_simp; try with_reducible rfl)
      simp only [getElem_toArray, getElem_cons_succ, getElem_cons_zero];simp only [Act.put, setIfInBounds_toArray];simp only [set_cons_zero, set_cons_succ];refine AnyX.done (by kernel_rfl) ?_ _;go_wp2_with fail
      go_meet
      exact ⟨_, c, u, Un, cU, Us, dU, rfl, rfl, setRow_heap _ _ _ _ _ _ X8, hep, fin_ty hTu hBc.size (by first | exact Below.refl _ _ | assumption) (by first | (left; assumption) | (right; exact Nat.le_refl _) | (left; omega) | (right; omega)) _, hBs⟩
    case rest =>
     obtain ⟨b14, c, u, Un, cU, Us, dU, rfl, rfl, hX14, hep, hTu, hB14⟩ := hcut;obtain ⟨wz, rfl⟩ : ∃ wz : World, wz = wc := ⟨_, rfl⟩;have HBz := hZ hB14;have HBzo : Hid (Below wo.heap.size wo wz) := hZ (below_over HB9.out hB14);have HBz2 : Hid (Below W2.heap.size W2 wz) := hZ (below_over HWo.out HBzo.out);have HEP := hZ hep;by_cases hc0 : c = 0
     ·subst hc0
      rw [errV_0];have HIz := hZ (HI.out.keep HBzo.out);have hoT : ∀ b, (Value.slice At T.length ct).ownBlock = some b -> b < W9.heap.size := fun b e => by have := (HI.out.types.lt e).2; have := HS9.out; omega
      have hoV : ∀ b, (Value.slice Av V.length cv).ownBlock = some b -> b < W9.heap.size := fun b e => by have := (HI.out.vals.lt e).2; have := HS9.out; omega
      have CT := hZ (tell10_any w5 bx W9.heap.size pkg major m.name T V At ct Av cv d u Dn cD Ds dD Un cU Us dU wz HIz.out hlb (mayD_len ((mayM_parts HMAY.out).2.2.2 d (List.mem_of_getElem? HDK.out))) hTu (by have := HI.out.size; have := HS9.out; omega) HBz.out.size hoT hoV (by omega) (by omega))
      have NXU : Hid ((us ++ [u]).length = k + 1 /\ ∀ (i : Nat) (e : De) (v : Ty), m.decs[i]? = some e -> (us ++ [u])[i]? = some v -> EpIs m pkg major env (meantD e) 0 v) := hZ ⟨by rw [List.length_append, HU.out.1]; rfl, fun i e v he hv => by
       rcases Nat.lt_or_ge i us.length with q | q
       ·rw [List.getElem?_append_left q] at hv
        exact HU.out.2 i e v he hv
       ·have hi := (List.getElem?_eq_some_iff.1 hv).1
        have hik : i = k := by have := HU.out.1; simp at hi; omega
        subst hik;rw [List.getElem?_append_right q, HU.out.1, Nat.sub_self] at hv;simp at hv;subst hv;rw [HDK.out] at he;cases he
        exact HEP.out⟩
      have X1 := HY9.out wz HBz.out;obtain ⟨m0, m1, m2, m3, m4, m5, m6, m7, m8⟩ := cq9 X1;obtain ⟨t0, t1, t2, t3, t4, t5, t6⟩ := cq7 hX14;simp at m0 m1 m2 m3 m4 m5 m6 m7 m8 t0 t1 t2 t3 t4 t5 t6;clear X1 hX14 hep hTu hB14 hoT hoV KEEP CM CE;go_wp2_with fail
      refine CT.out.mono ?_; rintro e w7 ⟨rfl, At', ct', Av', cv', hI'⟩
      have HI' : Hid (BuI w5 bx pkg major m.name (tysOf ((m.decs.take (k + 1)).zip (us ++ [u]))) (valsOf ((m.decs.take (k + 1)).zip (us ++ [u]))) At' ct' Av' cv' w7) := hZ (by
       rw [zip_snoc HU.out.1 HDK.out, tysOf_snoc, valsOf_snoc, <- HTV.out.1, <- HTV.out.2];exact hI')
      clear hI' CT m0 m1 m2 m3 m4 m5 m6 m7 m8 t0 t1 t2 t3 t4 t5 t6;go_wp2_with fail
      go_roundw
      case rel => exact ⟨k + 1, us ++ [u], At', ct', Av', cv', by omega, by go_num, NXU, HI'⟩
      case measure => simp [intOf]; omega
     ·rw [errV_ne hc0]
      obtain ⟨b, hb⟩ := ep_nat hep;obtain ⟨ws, hws⟩ : ∃ ws, ws = wz.alloc (.cells #[.int .i64 k, .iface 54 (.int .i64 c)] 61) := ⟨_, rfl⟩;have Bs : Below wz.heap.size wz ws := by rw [hws]; exact below_new (Below.refl _ _) _
      have Ys : ws.heap[wz.heap.size]? = some (.cells #[.int .i64 k, .iface 54 (.int .i64 c)] 61 (0, 0)) := by rw [hws]; exact heap_alloc_new wz _
      have HBs2 : Hid (Below W2.heap.size W2 ws) := hZ (below_over HBz2.out Bs);have Xs := HXR.out ws HBs2.out;have HXs := hZ Xs;have ss : ws.heap.size = wz.heap.size + 1 := by rw [hws]; simp
      have FIN : Hid (BdOut10 m pkg major env w (.returned (.tuple #[.agg #[.string ⟨#[]⟩, .int .i64 0, .string ⟨#[]⟩, .slice none 0 0, .slice none 0 0], .iface 59 (.pointer (some ⟨wz.heap.size, 0, none⟩))])) (ws.setRow (w.heap.size + 1) #[.string ⟨#[]⟩, .int .i64 0, .string ⟨#[]⟩, .slice none 0 0, .slice none 0 0])) := hZ (by
       have hne : wz.heap.size ≠ w.heap.size + 1 := by have := HBz2.out.size; have := HS2.out; omega
       refine ⟨c, k, zIf, [.string ⟨#[]⟩, .int .i64 0, .string ⟨#[]⟩, .slice none 0 0, .slice none 0 0], _, .inr (.inr ⟨HMN.out, .inl ⟨k, d, u, HDK.out, rfl, hc0, rfl, hep, fun i e hi he => ?_⟩⟩), rfl, .inr (.inr ⟨wz.heap.size, k, b, hc0, rfl, hb, rfl, by rw [size_setRow]; omega, ?_, ?_⟩), zIf_at _, PUTR.out ws HBs2.out _⟩
       ·have hl : i < us.length := by have := HU.out.1; omega
        exact ⟨us[i], HU.out.2 i e us[i] he (List.getElem?_eq_getElem hl)⟩
       ·exact (World.cell?_of_block (a := ⟨wz.heap.size, 0, none⟩) (setRow_other _ _ _ _ hne)).trans (cZ Ys 0)
       ·rw [<- hb]
        exact (World.cell?_of_block (a := ⟨wz.heap.size, 1, none⟩) (setRow_other _ _ _ _ hne)).trans (cZ Ys 1))
      have HWS := hZ hws;have hie : (Value.iface 54 (.int .i64 c)) ≠ .nilIface := by intro h; cases h
      clear hX14 hep hTu hB14 KEEP CM CE hws Bs Ys ss hb hie;rw [HWS.out] at Xs;go_wp2_with (first | ((with_reducible refine wpList_putRow 32 (w.heap.size + 1) #[.string ⟨#[]⟩, .int .i64 0, .string ⟨#[]⟩, .slice none 0 0, .slice none 0 0] _ _ Xs ?_ ?_ ?_ ?_ ?_ ?_); exact ifSize; rfl; exact ifOne; (focus (first | (go_simp; done) | rfl)); (focus (first | (go_simp; done) | rfl))))
      rw [<- HWS.out];exact ret_agg (fn := Tryz.f7) (vs := [.string ⟨#[]⟩, .int .i64 0, .string ⟨#[]⟩, .slice none 0 0, .slice none 0 0]) (b := w.heap.size + 1) rfl rfl rfl Tryz.underlying32 (by kernel_rfl) (cell5 (setRow_heap _ (w.heap.size + 1) _ _ _ _ HXs.out)) rfl FIN.out
   ·have hkn : k = n := by omega
    subst hkn;have e1 : m.decs.take k = m.decs := List.take_of_length_le (by rw [HN.out]; exact Nat.le_refl _);have hTT : T = tysOf (m.decs.zip us) := by have := HTV.out.1; rw [e1] at this; exact this
    have hVV : V = valsOf (m.decs.zip us) := by have := HTV.out.2; rw [e1] at this; exact this
    have hul : us.length = m.decs.length := by rw [HU.out.1]; exact HN.out
    have nT : (T.map (·.name)).Nodup := by
     rw [hTT];have h1 := tysOf_names (m.decs.zip us);rw [zip_fst hul] at h1;exact h1.nodup (ok7_nodup HOK.out)
    have nV : (V.map (·.name)).Nodup := by
     rw [hVV];have h1 := valsOf_names (m.decs.zip us);rw [zip_fst hul] at h1;exact h1.nodup (ok7_nodup HOK.out)
    have HNT := hZ (And.intro nT nV);have HTT := hZ (And.intro hTT hVV);have HUL := hZ hul
    have C1 := hZ (sortB_any HI.out.types (fun b e h => by
     rcases h with h | h
     ·have := (HI.out.types.lt e).1; omega
     ·exact HI.out.apart b e h) (by omega))
    have y3 := cZ HI.out.box 3;simp at y3;clear e1 hTT hVV hul nT nV;go_wp2_with fail
    refine C1.out.mono ?_; rintro e w6 ⟨rfl, xs, hp1, hs1, hg1, hR1⟩
    have V6 : RowB nmR (fun k => k < bx + 1 \/ (Value.slice At T.length ct).ownBlock = some k) (bx + 1) V Av cv w6 := HI.out.vals.keep hg1.size (fun b hb => grown_at hg1 b (HI.out.vals.lt hb).2 (fun e => HI.out.apart b e hb)) (fun b h1 h2 h3 => ⟨h1, grown_at hg1 b h3 (fun e => h1 (.inr e))⟩)
    have C2 := hZ (sortB_any V6 (fun b e h => by
     rcases h with h | h
     ·have := (HI.out.vals.lt e).1; omega
     ·exact HI.out.apart b h e) (by omega))
    have hbx6 : w6.heap[bx]? = wo.heap[bx]? := grown_at hg1 bx (by have := HI.out.size; omega) (fun e => by have := (HI.out.types.lt e).1; omega);have y4 := cZ (hbx6.trans HI.out.box) 4;simp at y4;have HP1 := hZ hp1;have HS1 := hZ hs1;have HG1 := hZ hg1;have HR1 := hZ hR1;clear y3 C1 hp1 hs1 hg1 hR1 V6 hbx6;go_wp2_with fail
    refine C2.out.mono ?_; rintro e w7 ⟨rfl, ys, hp2, hs2, hg2, hR2⟩
    obtain ⟨RT, RV, B7, X7⟩ := HI.out.fin HG1.out HR1.out hg2 hR2 hlb;have H7 : Hid (Below W2.heap.size W2 w7) := hZ (below_over HB5.out B7);have Z7 := HXR.out w7 H7.out;have HZ7 := hZ Z7;have ex : xs = srtN (tysOf (m.decs.zip us)) := by rw [<- HTT.out.1]; exact srtN_one HP1.out HS1.out HNT.out.1
    have ey : ys = srtN (valsOf (m.decs.zip us)) := by rw [<- HTT.out.2]; exact srtN_one hp2 hs2 HNT.out.2
    have lx : T.length = (ifOf m pkg major us).types.length := by
     show T.length = (srtN (tysOf (m.decs.zip us))).length
     rw [<- ex]; exact HP1.out.length_eq.symm
    have ly : V.length = (ifOf m pkg major us).vals.length := by
     show V.length = (srtN (valsOf (m.decs.zip us))).length
     rw [<- ey]; exact hp2.length_eq.symm
    have FIN : Hid (BdOut10 m pkg major env w (.returned (.tuple #[.agg #[.string pkg, .int .i64 major, .string m.name, .slice At T.length ct, .slice Av V.length cv], .nilIface])) (w7.setRow (w.heap.size + 1) #[.string pkg, .int .i64 major, .string m.name, .slice At T.length ct, .slice Av V.length cv])) := hZ (by
     have hrb : w.heap.size + 1 < bx + 1 := by have := HS2.out; have := HB5.out.size; omega
     have mv : ∀ (A : Option Addr) (l : List Nm), RowIn nmR (strike (fun k => k < bx + 1) w7) A l -> RowIn nmR (w7.setRow (w.heap.size + 1) #[.string pkg, .int .i64 major, .string m.name, .slice At T.length ct, .slice Av V.length cv]) A l := fun A l h =>
      RowIn.free (S := fun k => k < bx + 1) (h.move (by rw [size_setRow]; exact Nat.le_refl _) fun b hb hS => ⟨hS, setRow_other _ _ _ _ (fun e => hS (by omega))⟩)
     refine ⟨0, -1, ifOf m pkg major us, [.string pkg, .int .i64 major, .string m.name, .slice At T.length ct, .slice Av V.length cv], _, .inr (.inr ⟨HMN.out, .inr ⟨rfl, rfl, us, HUL.out, HU.out.2, rfl⟩⟩), rfl, .inl ⟨rfl, rfl⟩, ?_, PUTR.out w7 H7.out _⟩;refine ⟨At, ct, Av, cv, by rw [<- lx, <- ly]; rfl, hpk, HSZ.out.1, by rw [<- lx]; omega, by rw [<- ly]; omega, ?_, ?_⟩
     ·show RowIn nmR _ At (srtN (tysOf (m.decs.zip us)))
      rw [<- ex]; exact mv _ _ RT
     ·show RowIn nmR _ Av (srtN (valsOf (m.decs.zip us)))
      rw [<- ey]; exact mv _ _ RV)
    obtain ⟨y0, y1, y2, y3⟩ := cq4 X7;have y5 := cZ X7 4;simp at y0 y1 y2 y3 y5;clear y4 C2 hp2 hs2 hg2 hR2 RT RV B7 X7 ex ey lx ly;go_wp2_with (first | ((with_reducible refine wpList_putRow 32 (w.heap.size + 1) #[.string pkg, .int .i64 major, .string m.name, .slice At T.length ct, .slice Av V.length cv] _ _ Z7 ?_ ?_ ?_ ?_ ?_ ?_); exact ifSize; rfl; exact ifOne; (focus (first | (go_simp; done) | rfl)); (focus (first | (go_simp; done) | rfl))))
    exact ret_agg (fn := Tryz.f7) (vs := [.string pkg, .int .i64 major, .string m.name, .slice At T.length ct, .slice Av V.length cv]) (b := w.heap.size + 1) rfl rfl rfl Tryz.underlying32 (by kernel_rfl) (cell5 (setRow_heap _ (w.heap.size + 1) _ _ _ _ HZ7.out)) rfl FIN.out
end Go.Proofs.YtcdmgcgjonndpaaGreatDoor
