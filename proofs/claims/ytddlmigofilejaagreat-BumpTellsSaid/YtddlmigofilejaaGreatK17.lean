/-
  Several texts in one.
-/
import Derived.Test.YtddlmigofilejaaGreatK16
open List (getElem_toArray getElem_cons_succ getElem_cons_zero set_cons_zero set_cons_succ setIfInBounds_toArray)
set_option maxRecDepth 100000
set_option maxHeartbeats 64000000
namespace Go.Proofs.YtddlmigofilejaaGreat
open Go Go.RowKit Go.Shelf
open Go.Sort
open M
theorem risesP_app (l xs ys : List ByteArray) : risesP l (xs ++ ys) = risesP (risesP l xs) ys := by unfold risesP; rw [List.foldl_append]
theorem risesP_snoc (l xs : List ByteArray) (y : ByteArray) : risesP l (xs ++ [y]) = riseP y (risesP l xs) := by rw [risesP_app]; rfl
theorem take_snoc {α β : Type} {l : List α} {k : Nat} {x : α} (f : α -> β) (hx : l[k]? = some x) : (l.take (k + 1)).map f = (l.take k).map f ++ [f x] := by
 rw [List.take_add_one, hx]; simp
theorem names_strike {S : Nat -> Prop} {w w' : World} {A : Option Addr} {l : List ByteArray} (h : NamesAt (strike S w) A l) (hb : Below w.heap.size w w') : NamesAt (strike S w') A l := fun i s hs => by
 obtain ⟨g, o, hA, hg, hc, hz⟩ := h i s hs
 obtain ⟨h1, h2⟩ := strike_cell.1 hc
 rw [strike_size] at hg
 exact ⟨g, o, hA, by rw [strike_size]; exact Nat.lt_of_lt_of_le hg hb.size, strike_cell.2 ⟨h1, (hb.cell (p := ⟨g, _, none⟩) hg).trans h2⟩, hz⟩
structure NmZ (lo : Nat) (w : World) (A : Option Addr) (n c : Nat) (l : List ByteArray) : Prop where
 len : n = l.length
 at_ : NamesAt (strike (fun k => k < lo) w) A l
 cap : n <= c
 nil : (A = none /\ c = 0) \/ 0 < n
theorem NmZ.below {lo : Nat} {w w' : World} {A : Option Addr} {n c : Nat} {l : List ByteArray} (h : NmZ lo w A n c l) (hb : Below w.heap.size w w') : NmZ lo w' A n c l := ⟨h.len, names_strike h.at_ hb, h.cap, h.nil⟩
theorem NmZ.start (lo : Nat) (w : World) : NmZ lo w none 0 0 [] := ⟨rfl, fun i s h => by simp at h, Nat.le_refl _, .inl ⟨rfl, rfl⟩⟩
theorem rise_nms {lo : Nat} {w : World} {A : Option Addr} {n c : Nat} {l : List ByteArray} (h : NmZ lo w A n c l) (hlo : lo <= w.heap.size) (x : ByteArray) (hx : x.size <= 9223372036854775807) (hn : n <= 100000) :
  Calls Tryz.prog 27 #[.slice A n c, .string x] w fun e w' => ∃ (A' : Option Addr) (n' c' : Nat), e = .returned (.slice A' n' c') /\ NmZ lo w' A' n' c' (riseP x l) /\ n' <= n + 1 /\ Below w.heap.size w w' := by
 have h1 := h.len
 subst h1
 refine (rise_any lo l A c x w hlo h.at_ hx hn h.cap h.nil).mono ?_
 rintro e w' ⟨A', c', rfl, hN, hc, hb⟩
 have := riseP_len x l
 exact ⟨A', _, c', rfl, ⟨rfl, hN, hc, .inr this.1⟩, this.2, hb⟩
theorem rchanges_any (A : Option Addr) (ca : Nat) (B : Option Addr) (cb : Nat) (a b : List If) (w : World) (hA : RowIn ifR w A a) (hB : RowIn ifR w B b) (ma : mayPk a = true) (mb : mayPk b = true) (hfa : FewIf a) (hfb : FewIf b) :
  Calls Tryz.prog 12 #[.slice A a.length ca, .slice B b.length cb] w fun e w' => ∃ (A' : Option Addr) (c' : Nat), e = .returned (.slice A' (chP a b).length c') /\ RowIn chR w' A' (chP a b) /\ Below w.heap.size w w' := by
 have HA := hZ hA
 have HB := hZ hB
 have h20a := (mayPk_at ma).1
 have h20b := (mayPk_at mb).1
 have OKA := hZ (fun s t => (by rw [<- gI_row]; cases t; exact (gI_ok ma hfa s).2; exact (gI_ok ma hfa s).1 : OkN (rowP a s t)))
 have OKB := hZ (fun s t => (by rw [<- gI_row]; cases t; exact (gI_ok mb hfb s).2; exact (gI_ok mb hfb s).1 : OkN (rowP b s t)))
 have CRA : Hid (∀ (s : ByteArray) (t : Bool) (wx : World), Below w.heap.size w wx -> Calls Tryz.prog 28 #[.slice A a.length ca, .string s, .bool t] wx fun e w' => ∃ (A' : Option Addr) (c' : Nat), e = .returned (.slice A' (rowP a s t).length c') /\ RowIn nmR w A' (rowP a s t) /\ (rowP a s t).length <= 9223372036854775807 /\ wx = w') := hZ (fun s t wx hb => rrow_any A ca a s t w wx hA hb (by omega))
 have CRB : Hid (∀ (s : ByteArray) (t : Bool) (wx : World), Below w.heap.size w wx -> Calls Tryz.prog 28 #[.slice B b.length cb, .string s, .bool t] wx fun e w' => ∃ (A' : Option Addr) (c' : Nat), e = .returned (.slice A' (rowP b s t).length c') /\ RowIn nmR w A' (rowP b s t) /\ (rowP b s t).length <= 9223372036854775807 /\ wx = w') := hZ (fun s t wx hb => rrow_any B cb b s t w wx hB hb (by omega))
 obtain ⟨na, hna⟩ : ∃ k, k = a.length := ⟨_, rfl⟩
 obtain ⟨nb, hnb⟩ : ∃ k, k = b.length := ⟨_, rfl⟩
 have HNA := hZ hna
 have HNB := hZ hnb
 rw [<- hna] at h20a CRA
 rw [<- hnb] at h20b CRB
 rw [<- hna, <- hnb]
 clear hA hB ma mb hfa hfb hna hnb
 go_enter Tryz.func12, Tryz.ntmps12
 go_wp2_with fail
 go_loopw [5, 6] (fun s5 s6 wr => ∃ (k n5 c5 : Nat) (A5 : Option Addr), k <= na /\ n5 <= k /\ s6 = .int .i64 k /\ s5 = .slice A5 n5 c5 /\ Hid (NmZ w.heap.size wr A5 n5 c5 (risesP [] ((a.take k).map (·.mod)))) /\ Hid (Below w.heap.size w wr)) (fun _ s6 _ => na - (intOf s6).toNat)
 case atStart => exact ⟨0, 0, 0, none, by omega, by omega, rfl, rfl, hZ (NmZ.start _ _), hZ (Below.refl _ _)⟩
 case round =>
 obtain ⟨k, n5, c5, A5, hk, hn5, rfl, rfl, HS, HBw⟩ := hrel
 obtain ⟨wo, rfl⟩ : ∃ wo : World, wo = wr := ⟨_, rfl⟩
 by_cases hlt : k < na
 ·obtain ⟨x, hx⟩ : ∃ x, a[k]? = some x := ⟨_, List.getElem?_eq_getElem (by rw [<- HNA.out]; exact hlt)⟩
  obtain ⟨g, o, A1, c1, A2, c2, rfl, hg, a0, a1, a2, a3, a4, z1, z2, -⟩ := (HA.out.below HBw.out).ifc hx;have RC0 := hZ (rise_nms HS.out HBw.out.size x.mod z2 (by omega));have STEP := hZ (take_snoc (·.mod) hx);have hk0 : (0 : Int) <= k := by omega
  have hk1 : (k : Int) < na := by omega
  clear hx hg z1 z2;go_wp2_with fail
  refine RC0.out.mono ?_; rintro e w1 ⟨A5', n5', c5', rfl, hS1, hle, hb1⟩
  have HB1 := hZ (below_over HBw.out hb1);have HS1 : Hid (NmZ w.heap.size w1 A5' n5' c5' (risesP [] ((a.take (k + 1)).map (·.mod)))) := hZ (by rw [STEP.out, risesP_snoc]; exact hS1);clear a0 a1 a2 a3 a4 hS1 hb1 RC0;go_wp2_with fail
  go_roundw
  case rel => exact ⟨k + 1, n5', c5', A5', by omega, by omega, by go_num, rfl, HS1, HB1⟩
  case measure => simp [intOf]; omega
 have HSA : Hid (NmZ w.heap.size wo A5 n5 c5 (risesP [] (a.map (·.mod)))) := hZ (by have h := HS.out; rwa [List.take_of_length_le (by rw [<- HNA.out]; omega)] at h)
 clear HS
 go_wp2_with fail
 go_loopw [5, 7] (fun s5 s7 wr => ∃ (k2 n5 c5 : Nat) (A5 : Option Addr), k2 <= nb /\ n5 <= na + k2 /\ s7 = .int .i64 k2 /\ s5 = .slice A5 n5 c5 /\ Hid (NmZ w.heap.size wr A5 n5 c5 (risesP (risesP [] (a.map (·.mod))) ((b.take k2).map (·.mod)))) /\ Hid (Below w.heap.size w wr)) (fun _ s7 _ => nb - (intOf s7).toNat)
 case atStart => exact ⟨0, n5, c5, A5, by omega, by omega, rfl, rfl, HSA, HBw⟩
 case round =>
 obtain ⟨k2, m5, d5, D5, hk2, hm5, rfl, rfl, HS, HBw2⟩ := hrel
 obtain ⟨wo2, rfl⟩ : ∃ wo : World, wo = wr := ⟨_, rfl⟩
 by_cases hlt2 : k2 < nb
 ·obtain ⟨x, hx⟩ : ∃ x, b[k2]? = some x := ⟨_, List.getElem?_eq_getElem (by rw [<- HNB.out]; exact hlt2)⟩
  obtain ⟨g, o, A1, c1, A2, c2, rfl, hg, a0, a1, a2, a3, a4, z1, z2, -⟩ := (HB.out.below HBw2.out).ifc hx;have RC0 := hZ (rise_nms HS.out HBw2.out.size x.mod z2 (by omega));have STEP := hZ (take_snoc (·.mod) hx);have hk0 : (0 : Int) <= k2 := by omega
  have hk1 : (k2 : Int) < nb := by omega
  clear hx hg z1 z2;go_wp2_with fail
  refine RC0.out.mono ?_; rintro e w1 ⟨A5', n5', c5', rfl, hS1, hle, hb1⟩
  have HB1 := hZ (below_over HBw2.out hb1);have HS1 : Hid (NmZ w.heap.size w1 A5' n5' c5' (risesP (risesP [] (a.map (·.mod))) ((b.take (k2 + 1)).map (·.mod)))) := hZ (by rw [STEP.out, risesP_snoc]; exact hS1);clear a0 a1 a2 a3 a4 hS1 hb1 RC0;go_wp2_with fail
  go_roundw
  case rel => exact ⟨k2 + 1, n5', c5', A5', by omega, by omega, by go_num, rfl, HS1, HB1⟩
  case measure => simp [intOf]; omega
 obtain ⟨ms, hms⟩ : ∃ ms, ms = uniN (a.map (·.mod) ++ b.map (·.mod)) := ⟨_, rfl⟩
 have HSM : Hid (NmZ w.heap.size wo2 D5 m5 d5 ms) := hZ (by
  have h := HS.out;rw [List.take_of_length_le (by rw [<- HNB.out]; omega), <- risesP_app, risesP_uni, <- hms] at h;exact h)
 have HCP : Hid (chP a b = ms.flatMap (chMod a b)) := hZ (by rw [hms]; rfl)
 have hm40 : m5 <= 40 := by omega
 clear HS HSA hms HBw hlt hk hk2 hn5
 obtain ⟨wl, rfl⟩ : ∃ wl : World, wl = wo2 := ⟨_, rfl⟩
 have HBL := HBw2
 clear HBw2
 go_wp2_with fail
 go_loopw [8, 9] (fun s8 s9 wr => ∃ (k q : Nat) (A8 : Option Addr) (c8 : Nat), k <= m5 /\ q <= 80000 * k /\ s9 = .int .i64 k /\ s8 = .slice A8 q c8 /\ Hid (q = ((ms.take k).flatMap (chMod a b)).length) /\ Hid (wr.ownsRow wl.heap.size 54 4 (.slice A8 q c8) q (((ms.take k).flatMap (chMod a b)).map chL).flatten) /\ Hid (Below wl.heap.size wl wr)) (fun _ s9 _ => m5 - (intOf s9).toNat)
 case atStart => exact ⟨0, 0, none, 0, by omega, by omega, rfl, rfl, hZ rfl, hZ (World.ownsRow_nil _ _ _ _), hZ (Below.refl _ _)⟩
 case round =>
 obtain ⟨k, q, A8, c8, hk, hq, rfl, rfl, HQ, HO, HBx⟩ := hrel
 obtain ⟨wo, rfl⟩ : ∃ wo : World, wo = wr := ⟨_, rfl⟩
 by_cases hlt : k < m5
 rotate_left
 ·obtain rfl : k = m5 := by omega
  have ET : Hid (ms.take k = ms) := hZ (List.take_of_length_le (by rw [<- HSM.out.len]; exact Nat.le_refl _))
  have FIN : Hid (q = (chP a b).length /\ RowIn chR wo A8 (chP a b) /\ Below w.heap.size w wo) := hZ (by
   have h1 := HQ.out;have h2 := HO.out;rw [ET.out, <- HCP.out] at h1 h2;exact ⟨h1, chs_row h1 h2, below_over HBL.out HBx.out⟩)
  clear HQ HO;go_wp2_with fail
  go_ret;exact ⟨A8, c8, by (rw [<- FIN.out.1]; try rfl), FIN.out.2.1, FIN.out.2.2⟩
 obtain ⟨m, hm⟩ : ∃ m, ms[k]? = some m := ⟨_, List.getElem?_eq_getElem (by rw [<- HSM.out.len]; exact hlt)⟩
 obtain ⟨gm, om, rfl, hgm, -⟩ := HSM.out.at_ k m hm
 have HMC : Hid (∀ wx, Below wl.heap.size wl wx -> wx.cell? ⟨gm, om + k, none⟩ = some (.string m)) := hZ (fun wx hb => by
  obtain ⟨g', o', e, hg', hc, -⟩ := (HSM.out.below hb).at_ k m hm;cases e
  exact (strike_cell.1 hc).2)
 have HMZ : Hid (m.size <= 9223372036854775807) := hZ (by
  obtain ⟨g', o', -, -, -, h⟩ := HSM.out.at_ k m hm;exact h)
 obtain ⟨cs, hcs⟩ : ∃ cs, cs = (ms.take k).flatMap (chMod a b) := ⟨_, rfl⟩
 have STEPM : Hid ((ms.take (k + 1)).flatMap (chMod a b) = cs ++ (chRow m true (rowP a m true) (rowP b m true) ++ chRow m false (rowP a m false) (rowP b m false))) := hZ (by rw [List.take_add_one, hm, hcs]; simp [chMod])
 rw [<- hcs] at HQ HO
 have hk0 : (0 : Int) <= k := by omega
 have hk1 : (k : Int) < m5 := by omega
 clear hm hgm hcs
 go_wp2_with fail
 go_loopw [8, 10] (fun s8 s10 wr => ∃ (so q8 : Nat) (A8 : Option Addr) (c8 : Nat) (xs : List Ch), so <= 2 /\ q8 <= 80000 * k + 40000 * so /\ s10 = .int .i64 so /\ s8 = .slice A8 q8 c8 /\ Hid (xs = cs ++ ((if so = 0 then [] else chRow m true (rowP a m true) (rowP b m true)) ++ (if so = 2 then chRow m false (rowP a m false) (rowP b m false) else []))) /\ Hid (q8 = xs.length) /\ Hid (wr.ownsRow wl.heap.size 54 4 (.slice A8 q8 c8) q8 (xs.map chL).flatten) /\ Hid (Below wl.heap.size wl wr)) (fun _ s10 _ => 2 - (intOf s10).toNat)
 case atStart => exact ⟨0, q, A8, c8, cs, by omega, by omega, rfl, rfl, hZ (by simp), HQ, HO, HBx⟩
 case round =>
 obtain ⟨so, q8, B8, d8, xs, hso, hq8, rfl, rfl, HXS, HQ8, HO8, HBy⟩ := hrel
 obtain ⟨wy, rfl⟩ : ∃ wo : World, wo = wr := ⟨_, rfl⟩
 by_cases hs2 : so = 2
 ·subst hs2
  have NQ : Hid (q8 = ((ms.take (k + 1)).flatMap (chMod a b)).length) := hZ (by rw [HQ8.out, HXS.out, STEPM.out]; rfl)
  have NO : Hid (wy.ownsRow wl.heap.size 54 4 (.slice B8 q8 d8) q8 (((ms.take (k + 1)).flatMap (chMod a b)).map chL).flatten) := hZ (by
   have h := HO8.out;rw [HXS.out] at h;rw [STEPM.out]; exact h)
  go_wp2_with fail
  go_roundw
  case rel => exact ⟨k + 1, q8, B8, d8, by omega, by omega, by go_num, rfl, NQ, NO, HBy⟩
  case measure => simp [intOf]; omega
 obtain ⟨t, ht⟩ : ∃ t : Bool, t = decide (so = 0) := ⟨_, rfl⟩
 have hso2 : so < 2 := by omega
 have hsoI : (so : Int) < 2 := by omega
 have hbt : ((so : Int) == 0) = t := by
  rw [ht];by_cases h : so = 0
  ·subst h; rfl
  ·rw [decide_eq_false h]; simp; omega
 have NEXT : Hid (∀ ys, ys = chRow m t (rowP a m t) (rowP b m t) -> xs ++ ys = cs ++ ((if so + 1 = 0 then [] else chRow m true (rowP a m true) (rowP b m true)) ++ (if so + 1 = 2 then chRow m false (rowP a m false) (rowP b m false) else []))) := hZ (fun ys hys => by
  rw [HXS.out, hys, ht];have h01 : so = 0 \/ so = 1 := by omega
  rcases h01 with rfl | rfl <;> simp)
 obtain ⟨ra, hra⟩ : ∃ r, r = rowP a m t := ⟨_, rfl⟩
 obtain ⟨rb, hrb⟩ : ∃ r, r = rowP b m t := ⟨_, rfl⟩
 have OA : Hid (OkN ra) := hZ (by rw [hra]; exact OKA.out m t)
 have OB : Hid (OkN rb) := hZ (by rw [hrb]; exact OKB.out m t)
 have C1 := hZ (CRA.out m t wy (below_over HBL.out HBy.out))
 rw [<- hra] at C1 NEXT
 rw [<- hrb] at NEXT
 have HRB := hZ hrb
 have c0 := HMC.out wy HBy.out
 clear ht hs2 HQ HO HBx HXS hra hrb
 go_wp2_with fail
 refine C1.out.mono ?_; rintro e w2 ⟨Ax, cx, rfl, hRx, zx, rfl⟩
 have HRX := hZ hRx
 have C2 := hZ (CRB.out m t wy (below_over HBL.out HBy.out))
 rw [<- HRB.out] at C2
 obtain ⟨nx, hnx⟩ : ∃ k, k = ra.length := ⟨_, rfl⟩
 rw [<- hnx] at zx ⊢
 have HNX := hZ hnx
 clear hRx C1 hnx
 go_wp2_with fail
 refine C2.out.mono ?_; rintro e w2 ⟨Ay, cy, rfl, hRy, zy, rfl⟩
 have HRY := hZ hRy
 obtain ⟨ny, hny⟩ : ∃ k, k = rb.length := ⟨_, rfl⟩
 rw [<- hny] at zy ⊢
 have HNY := hZ hny
 have hnx2 : nx <= 20000 := by rw [HNX.out]; exact OA.out.len
 have hny2 : ny <= 20000 := by rw [hny]; exact OB.out.len
 clear hRy C2 hny c0
 go_wp2_with fail
 go_loopw [13, 14] (fun s13 s14 wr => ∃ (i n13 c13 : Nat) (A13 : Option Addr), i <= nx /\ n13 <= i /\ s14 = .int .i64 i /\ s13 = .slice A13 n13 c13 /\ Hid (NmZ wy.heap.size wr A13 n13 c13 (risesP [] ((ra.take i).map (·.name)))) /\ Hid (Below wy.heap.size wy wr)) (fun _ s14 _ => nx - (intOf s14).toNat)
 case atStart => exact ⟨0, 0, 0, none, by omega, by omega, rfl, rfl, hZ (NmZ.start _ _), hZ (Below.refl _ _)⟩
 case round =>
 obtain ⟨i, n13, c13, A13, hi, hn13, rfl, rfl, HS, HBz⟩ := hrel
 obtain ⟨wz, rfl⟩ : ∃ wo : World, wo = wr := ⟨_, rfl⟩
 by_cases hlti : i < nx
 ·obtain ⟨x, hx⟩ : ∃ x, ra[i]? = some x := ⟨_, List.getElem?_eq_getElem (by rw [<- HNX.out]; exact hlti)⟩
  obtain ⟨g, o, A1, c1, A2, c2, rfl, hg, a0, a1, a2, a3, a4, a5, a6, a7, -, z2⟩ := (HRX.out.below (below_over HBL.out (HBy.out.trans (HBz.out.mono HBy.out.size)))).nm hx;have RC0 := hZ (rise_nms HS.out HBz.out.size x.name z2 (by omega));have STEP := hZ (take_snoc (·.name) hx);have hi0 : (0 : Int) <= i := by omega
  have hi1 : (i : Int) < nx := by omega
  clear hx hg z2;go_wp2_with fail
  refine RC0.out.mono ?_; rintro e w1 ⟨A5', n5', c5', rfl, hS1, hle, hb1⟩
  have HB1 := hZ (below_over HBz.out hb1);have HS1 : Hid (NmZ wy.heap.size w1 A5' n5' c5' (risesP [] ((ra.take (i + 1)).map (·.name)))) := hZ (by rw [STEP.out, risesP_snoc]; exact hS1);clear a0 a1 a2 a3 a4 a5 a6 a7 hS1 hb1 RC0;go_wp2_with fail
  go_roundw
  case rel => exact ⟨i + 1, n5', c5', A5', by omega, by omega, by go_num, rfl, HS1, HB1⟩
  case measure => simp [intOf]; omega
 have HSX : Hid (NmZ wy.heap.size wz A13 n13 c13 (risesP [] (ra.map (·.name)))) := hZ (by have h := HS.out; rwa [List.take_of_length_le (by rw [<- HNX.out]; omega)] at h)
 clear HS
 go_wp2_with fail
 go_loopw [13, 15] (fun s13 s15 wr => ∃ (i2 n13 c13 : Nat) (A13 : Option Addr), i2 <= ny /\ n13 <= nx + i2 /\ s15 = .int .i64 i2 /\ s13 = .slice A13 n13 c13 /\ Hid (NmZ wy.heap.size wr A13 n13 c13 (risesP (risesP [] (ra.map (·.name))) ((rb.take i2).map (·.name)))) /\ Hid (Below wy.heap.size wy wr)) (fun _ s15 _ => ny - (intOf s15).toNat)
 case atStart => exact ⟨0, n13, c13, A13, by omega, by omega, rfl, rfl, HSX, HBz⟩
 case round =>
 obtain ⟨i2, m13, d13, D13, hi2, hm13, rfl, rfl, HS, HBz2⟩ := hrel
 obtain ⟨wz2, rfl⟩ : ∃ wo : World, wo = wr := ⟨_, rfl⟩
 by_cases hlti2 : i2 < ny
 ·obtain ⟨x, hx⟩ : ∃ x, rb[i2]? = some x := ⟨_, List.getElem?_eq_getElem (by rw [<- HNY.out]; exact hlti2)⟩
  obtain ⟨g, o, A1, c1, A2, c2, rfl, hg, a0, a1, a2, a3, a4, a5, a6, a7, -, z2⟩ := (HRY.out.below (below_over HBL.out (HBy.out.trans (HBz2.out.mono HBy.out.size)))).nm hx;have RC0 := hZ (rise_nms HS.out HBz2.out.size x.name z2 (by omega));have STEP := hZ (take_snoc (·.name) hx);have hi0 : (0 : Int) <= i2 := by omega
  have hi1 : (i2 : Int) < ny := by omega
  clear hx hg z2;go_wp2_with fail
  refine RC0.out.mono ?_; rintro e w1 ⟨A5', n5', c5', rfl, hS1, hle, hb1⟩
  have HB1 := hZ (below_over HBz2.out hb1);have HS1 : Hid (NmZ wy.heap.size w1 A5' n5' c5' (risesP (risesP [] (ra.map (·.name))) ((rb.take (i2 + 1)).map (·.name)))) := hZ (by rw [STEP.out, risesP_snoc]; exact hS1);clear a0 a1 a2 a3 a4 a5 a6 a7 hS1 hb1 RC0;go_wp2_with fail
  go_roundw
  case rel => exact ⟨i2 + 1, n5', c5', A5', by omega, by omega, by go_num, rfl, HS1, HB1⟩
  case measure => simp [intOf]; omega
 obtain ⟨ns, hns⟩ : ∃ ns, ns = uniN (ra.map (·.name) ++ rb.map (·.name)) := ⟨_, rfl⟩
 have HSN : Hid (NmZ wy.heap.size wz2 D13 m13 d13 ns) := hZ (by
  have h := HS.out;rw [List.take_of_length_le (by rw [<- HNY.out]; omega), <- risesP_app, risesP_uni, <- hns] at h;exact h)
 have HROW : Hid (chRow m t ra rb = ns.flatMap (chOne m t ra rb)) := hZ (by rw [hns]; rfl)
 have HMEM : Hid (∀ s ∈ ns, s ∈ ra.map (·.name) \/ s ∈ rb.map (·.name)) := hZ (fun s hs => by
  rw [hns, uniN_mem, List.mem_append] at hs; exact hs)
 have hm40k : m13 <= 40000 := by omega
 have HO9 : Hid (wz2.ownsRow wl.heap.size 54 4 (.slice B8 q8 d8) q8 (xs.map chL).flatten) := hZ (own_block11 HO8.out (fun b hb => HBz2.out.block b (HO8.out.lt b hb).2))
 have HOY : Hid (∀ bq, (Value.slice B8 q8 d8).ownBlock = some bq -> bq < wy.heap.size) := hZ (fun bq e => (HO8.out.lt bq e).2)
 have HB9 : Hid (Below wl.heap.size wl wz2) := hZ (HBy.out.trans (HBz2.out.mono HBy.out.size))
 clear HS HSX hns HBz hlti hi hi2 hn13 HO8
 obtain ⟨wb, rfl⟩ : ∃ wb : World, wb = wz2 := ⟨_, rfl⟩
 go_wp2_with fail
 go_loopw [8, 16] (fun s8 s16 wr => ∃ (i q9 : Nat) (A9 : Option Addr) (c9 : Nat), i <= m13 /\ q9 <= q8 + i /\ s16 = .int .i64 i /\ s8 = .slice A9 q9 c9 /\ Hid (q9 = (xs ++ (ns.take i).flatMap (chOne m t ra rb)).length) /\ Hid (wr.ownsRow wl.heap.size 54 4 (.slice A9 q9 c9) q9 ((xs ++ (ns.take i).flatMap (chOne m t ra rb)).map chL).flatten) /\ Hid (wb.heap.size <= wr.heap.size /\ (∀ bq, wy.heap.size <= bq -> bq < wb.heap.size -> wr.heap[bq]? = wb.heap[bq]?) /\ ∀ bq, (Value.slice A9 q9 c9).ownBlock = some bq -> bq < wy.heap.size \/ wb.heap.size <= bq) /\ Hid (Below wl.heap.size wl wr)) (fun _ s16 _ => m13 - (intOf s16).toNat)
 case atStart => exact ⟨0, q8, B8, d8, by omega, by omega, rfl, rfl, hZ (by simpa using HQ8.out), hZ (by simpa using HO9.out), hZ ⟨Nat.le_refl _, fun _ _ _ => rfl, fun bq e => .inl (HOY.out bq e)⟩, HB9⟩
 case round =>
 obtain ⟨i, q9, A9, c9, hi, hq9, rfl, rfl, HQ9, HOO, HKK, HBB⟩ := hrel
 obtain ⟨wv, rfl⟩ : ∃ wo : World, wo = wr := ⟨_, rfl⟩
 by_cases hltv : i < m13
 rotate_left
 ·obtain rfl : m13 = i := by omega
  have ET : Hid (ns.take m13 = ns) := hZ (List.take_of_length_le (by rw [<- HSN.out.len]; exact Nat.le_refl _));have NX := hZ (NEXT.out _ HROW.out.symm);have NQ : Hid (q9 = (xs ++ ns.flatMap (chOne m t ra rb)).length) := hZ (by have h := HQ9.out; rwa [ET.out] at h);have NO : Hid (wv.ownsRow wl.heap.size 54 4 (.slice A9 q9 c9) q9 ((xs ++ ns.flatMap (chOne m t ra rb)).map chL).flatten) := hZ (by have h := HOO.out; rwa [ET.out] at h);clear HQ9 HOO HKK;go_wp2_with fail
  go_roundw
  case rel => exact ⟨so + 1, q9, A9, c9, xs ++ ns.flatMap (chOne m t ra rb), by omega, by omega, by go_num, rfl, NX, NQ, NO, HBB⟩
  case measure => simp [intOf]; omega
 obtain ⟨s, hs⟩ : ∃ s, ns[i]? = some s := ⟨_, List.getElem?_eq_getElem (by rw [<- HSN.out.len]; exact hltv)⟩
 obtain ⟨gn, on, rfl, hgn0, hc0', hsz⟩ := HSN.out.at_ i s hs
 obtain ⟨hgl, hc1'⟩ := strike_cell.1 hc0'
 rw [strike_size] at hgn0
 have hgl' : wy.heap.size <= gn := Nat.le_of_not_lt hgl
 have hgn : gn < wv.heap.size := Nat.lt_of_lt_of_le hgn0 HKK.out.1
 have hc : wv.cell? ⟨gn, on + i, none⟩ = some (.string s) := by rw [World.cell?_of_block (w := wb) (a := ⟨gn, _, none⟩) (HKK.out.2.1 gn hgl' hgn0)]; exact hc1'
 have hmv := HMC.out wv HBB.out
 have OC := hZ (rone_any t s Ax cx Ay cy ra rb wv (HRX.out.below (below_over HBL.out HBB.out)) (HRY.out.below (below_over HBL.out HBB.out)) OA.out OB.out (HMEM.out s (List.mem_of_getElem? hs)))
 rw [<- HNX.out, <- HNY.out] at OC
 have STEP : Hid ((ns.take (i + 1)).flatMap (chOne m t ra rb) = (ns.take i).flatMap (chOne m t ra rb) ++ chOne m t ra rb s) := hZ (by rw [List.take_add_one, hs]; simp)
 obtain ⟨v, hv⟩ : ∃ v, v = oneP t s ra rb := ⟨_, rfl⟩
 rw [<- hv] at OC
 have HVV := hZ hv
 have hi0 : (0 : Int) <= i := by omega
 have hi1 : (i : Int) < m13 := by omega
 clear hs hv hsz hgl hc0' hc1' hgl'
 go_wp2_with fail
 refine OC.out.mono ?_; rintro e w3 ⟨rfl, hb3⟩
 have hc3 := (hb3.cell (p := ⟨gn, on + i, none⟩) hgn).trans hc
 have hm3 : w3.cell? ⟨gm, om + k, none⟩ = some (.string m) := (hb3.cell (p := ⟨gm, om + k, none⟩) (World.block_lt_of_cell? _ _ hmv)).trans hmv
 have HC3 := hZ (And.intro hm3 hc3)
 have HB3 := hZ (HBB.out.trans (hb3.mono HBB.out.size))
 have HO3 : Hid (w3.ownsRow wl.heap.size 54 4 (.slice A9 q9 c9) q9 ((xs ++ (ns.take i).flatMap (chOne m t ra rb)).map chL).flatten) := hZ (own_block11 HOO.out (fun b hb => hb3.block b (HOO.out.lt b hb).2))
 have HK3 : Hid (wb.heap.size <= w3.heap.size /\ (∀ bq, wy.heap.size <= bq -> bq < wb.heap.size -> w3.heap[bq]? = wb.heap[bq]?) /\ ∀ bq, (Value.slice A9 q9 c9).ownBlock = some bq -> bq < wy.heap.size \/ wb.heap.size <= bq) := hZ ⟨Nat.le_trans HKK.out.1 hb3.size, fun bq h1 h2 => (hb3.block bq (by have := HKK.out.1; omega)).trans (HKK.out.2.1 bq h1 h2), HKK.out.2.2⟩
 clear hb3 OC hc hc3 hm3 hgn hgn0 hmv HKK HOO
 by_cases h0 : v = 0
 ·have e1 : (v != 0) = false := by simpa using h0
  have CN : Hid (chOne m t ra rb s = []) := hZ (by unfold chOne; rw [if_pos (by rw [<- HVV.out]; exact h0)]);have NQ : Hid (q9 = (xs ++ (ns.take (i + 1)).flatMap (chOne m t ra rb)).length) := hZ (by rw [STEP.out, CN.out, List.append_nil]; exact HQ9.out);have NO : Hid (w3.ownsRow wl.heap.size 54 4 (.slice A9 q9 c9) q9 ((xs ++ (ns.take (i + 1)).flatMap (chOne m t ra rb)).map chL).flatten) := hZ (by rw [STEP.out, CN.out, List.append_nil]; exact HO3.out);clear h0;go_wp2_with fail
  go_roundw
  case rel => exact ⟨i + 1, q9, A9, c9, by omega, by omega, by go_num, rfl, NQ, NO, HK3, HB3⟩
  case measure => simp [intOf]; omega
 have e1 : (v != 0) = true := by simpa using h0
 have CN : Hid (chOne m t ra rb s = [⟨v, m, s, t⟩]) := hZ (by unfold chOne; rw [if_neg (by rw [<- HVV.out]; exact h0), <- HVV.out])
 have NQ : Hid (q9 + 1 = (xs ++ (ns.take (i + 1)).flatMap (chOne m t ra rb)).length) := hZ (by rw [STEP.out, CN.out, <- List.append_assoc, List.length_append, <- HQ9.out]; rfl)
 have KU : Hid (∀ wx : World, Below w3.heap.size w3 wx -> wx.cell? ⟨gm, om + k, none⟩ = some (.string m) /\ wx.cell? ⟨gn, on + i, none⟩ = some (.string s)) := hZ (fun wx hb => ⟨(hb.cell (p := ⟨gm, _, none⟩) (World.block_lt_of_cell? _ _ HC3.out.1)).trans HC3.out.1, (hb.cell (p := ⟨gn, _, none⟩) (World.block_lt_of_cell? _ _ HC3.out.2)).trans HC3.out.2⟩)
 have hq9b : q9 <= 4000000 := by omega
 clear h0
 go_upto_region 33 with fail
 have hH0 := KU.out w3.drew (Below.drew (Below.refl _ _))
 refine AnyX.start (fun wx => wx.cell? ⟨gm, om + k, none⟩ = some (.string m) /\ wx.cell? ⟨gn, on + i, none⟩ = some (.string s)) (fun k => decide (13 <= k)) (by kernel_rfl) ?_
 refine AnyX.mv (i := 0) (v := ?_) rfl (fun _ _ _ h => h) (Or.inl ⟨by rfl, ?_⟩) ?_
 rotate_left
 ·(intro wS _; go_simp; try with_reducible rfl)
 simp only [getElem_toArray, getElem_cons_succ, getElem_cons_zero]
 simp only [Act.put, setIfInBounds_toArray, set_cons_zero, set_cons_succ]
 refine AnyX.mv (i := 1) (v := ?_) rfl (fun _ _ _ h => h) (Or.inl ⟨by rfl, ?_⟩) ?_
 rotate_left
 ·(intro wS _; go_simp; try with_reducible rfl)
 simp only [getElem_toArray, getElem_cons_succ, getElem_cons_zero]
 simp only [Act.put, setIfInBounds_toArray, set_cons_zero, set_cons_succ]
 refine AnyX.mv (i := 2) (v := ?_) rfl (fun _ _ _ h => h) (Or.inl ⟨by rfl, ?_⟩) ?_
 rotate_left
 ·(intro wS _; go_simp; try with_reducible rfl)
 simp only [getElem_toArray, getElem_cons_succ, getElem_cons_zero]
 simp only [Act.put, setIfInBounds_toArray, set_cons_zero, set_cons_succ]
 refine AnyX.mv (i := 3) (v := ?_) rfl (fun _ _ _ h => h) (Or.inl ⟨by rfl, ?_⟩) ?_
 rotate_left
 ·(intro wS _; go_simp; try with_reducible rfl)
 simp only [getElem_toArray, getElem_cons_succ, getElem_cons_zero]
 simp only [Act.put, setIfInBounds_toArray, set_cons_zero, set_cons_succ]
 refine AnyX.mv (i := 4) (v := ?_) rfl (fun _ _ _ h => h) (Or.inl ⟨by rfl, ?_⟩) ?_
 rotate_left
 ·(intro wS _; go_simp; try with_reducible rfl)
 simp only [getElem_toArray, getElem_cons_succ, getElem_cons_zero]
 simp only [Act.put, setIfInBounds_toArray, set_cons_zero, set_cons_succ]
 refine AnyX.tk (i := 5) (v := ?_) rfl (fun _ _ _ h => h) hH0 (Or.inl ⟨by rfl, ?_⟩) ?_
 rotate_left
 ·(intro wS hS; (try obtain ⟨p0, p1⟩ := hS); go_simp; try with_reducible rfl)
 simp only [getElem_toArray, getElem_cons_succ, getElem_cons_zero]
 simp only [Act.put, setIfInBounds_toArray, set_cons_zero, set_cons_succ]
 refine AnyX.mv (i := 6) (v := ?_) rfl (fun _ _ _ h => h) (Or.inl ⟨by rfl, ?_⟩) ?_
 rotate_left
 ·(intro wS _; go_simp; try with_reducible rfl)
 simp only [getElem_toArray, getElem_cons_succ, getElem_cons_zero]
 simp only [Act.put, setIfInBounds_toArray, set_cons_zero, set_cons_succ]
 refine AnyX.mv (i := 7) (v := ?_) rfl (fun _ _ _ h => h) (Or.inl ⟨by rfl, ?_⟩) ?_
 rotate_left
 ·(intro wS _; go_simp; try with_reducible rfl)
 simp only [getElem_toArray, getElem_cons_succ, getElem_cons_zero]
 simp only [Act.put, setIfInBounds_toArray, set_cons_zero, set_cons_succ]
 refine AnyX.mv (i := 8) (v := ?_) rfl (fun _ _ _ h => h) (Or.inl ⟨by rfl, ?_⟩) ?_
 rotate_left
 ·(intro wS _; go_simp; try with_reducible rfl)
 simp only [getElem_toArray, getElem_cons_succ, getElem_cons_zero]
 simp only [Act.put, setIfInBounds_toArray, set_cons_zero, set_cons_succ]
 refine AnyX.tk (i := 9) (v := ?_) rfl (fun _ _ _ h => h) hH0 (Or.inl ⟨by rfl, ?_⟩) ?_
 rotate_left
 ·(intro wS hS; (try obtain ⟨p0, p1⟩ := hS); go_simp; try with_reducible rfl)
 simp only [getElem_toArray, getElem_cons_succ, getElem_cons_zero]
 simp only [Act.put, setIfInBounds_toArray, set_cons_zero, set_cons_succ]
 refine AnyX.mv (i := 10) (v := ?_) rfl (fun _ _ _ h => h) (Or.inl ⟨by rfl, ?_⟩) ?_
 rotate_left
 ·(intro wS _; go_simp; try with_reducible rfl)
 simp only [getElem_toArray, getElem_cons_succ, getElem_cons_zero]
 simp only [Act.put, setIfInBounds_toArray, set_cons_zero, set_cons_succ]
 refine AnyX.mv (i := 11) (v := ?_) rfl (fun _ _ _ h => h) (Or.inl ⟨by rfl, ?_⟩) ?_
 rotate_left
 ·(intro wS _; go_simp; try with_reducible rfl)
 simp only [getElem_toArray, getElem_cons_succ, getElem_cons_zero]
 simp only [Act.put, setIfInBounds_toArray, set_cons_zero, set_cons_succ]
 refine AnyX.mv (i := 12) (v := ?_) rfl (fun _ _ _ h => h) (Or.inl ⟨by rfl, ?_⟩) ?_
 rotate_left
 ·(intro wS _; go_simp; try with_reducible rfl)
 simp only [getElem_toArray, getElem_cons_succ, getElem_cons_zero]
 simp only [Act.put, setIfInBounds_toArray, set_cons_zero, set_cons_succ]
 clear hH0
 obtain ⟨inf, hi1', hy0, hy1, hy2⟩ := info_parts chInfo12
 refine AnyX.go 13 (by kernel_rfl) rfl rfl (fun K hK => ?_)
 simp only [getElem_toArray, getElem_cons_succ, getElem_cons_zero]
 go_simp
 obtain ⟨v1, hv1⟩ : ∃ wa, wa = (w3.alloc (.cells #[.int .i64 v, .string m, .string s, .bool t] 54)).drew := ⟨_, rfl⟩
 have hB1 : Below w3.heap.size w3 v1 := by rw [hv1]; exact Below.drew (below_new (Below.refl _ _) _)
 have X1 : v1.heap[w3.heap.size]? = some (.cells #[.int .i64 v, .string m, .string s, .bool t] 54 (0, 0)) := by rw [hv1]; exact heap_alloc_new w3 _
 have own1 : v1.ownsRow wl.heap.size 54 4 (.slice A9 q9 c9) q9 ((xs ++ (ns.take i).flatMap (chOne m t ra rb)).map chL).flatten := by rw [hv1]; exact World.ownsRow.alloc HO3.out _
 have hlo : wl.heap.size <= v1.heap.size := by have := HB3.out.size; have := hB1.size; omega
 refine hK.out _ _ (fun hoff _ => absurd hoff (by decide)) ?_
 clear hK
 try simp only [Act.put, setIfInBounds_toArray, set_cons_zero, set_cons_succ]
 rw [<- hv1]
 clear hv1
 refine AnyX.go 14 (by kernel_rfl) rfl rfl (fun K hK => ?_)
 simp only [getElem_toArray, getElem_cons_succ, getElem_cons_zero]
 refine wp_append_own _ (.tmp 113) (.tmp 126) 25 rfl (wl.heap.size) 54 inf _ 4 48 Tryz.underlying25 hi1' hy0 hy1 hy2 (by rfl) (Nat.zero_lt_succ 3) (.slice A9 q9 c9) q9 _ rfl own1 ⟨w3.heap.size, 0, none⟩ 1 1 [.int .i64 v, .string m, .string s, .bool t] rfl rfl (fun j v hv => by rw [WideShapes.add_plain, Nat.zero_add, cZ X1, <- hv, <- List.getElem?_toArray]) (fun u hu => by simp at hu; rcases hu with rfl | rfl | rfl | rfl <;> rfl) (by unfold maxLen; omega) (by omega) hlo ?_
 intro V6 w6 own6 gr6 at6
 have hB6 : Below wl.heap.size wl w6 := below_grown (HB3.out.trans (hB1.mono HB3.out.size)) hlo own1 gr6
 obtain ⟨A6, c6, rfl⟩ := own_slice own6
 have NO : Hid (w6.ownsRow wl.heap.size 54 4 (.slice A6 (q9 + 1) c6) (q9 + 1) ((xs ++ (ns.take (i + 1)).flatMap (chOne m t ra rb)).map chL).flatten) := hZ (by
  rw [STEP.out, CN.out, <- List.append_assoc, List.map_append, List.flatten_append];simpa [chL] using own6)
 have NK : Hid (wb.heap.size <= w6.heap.size /\ (∀ bq, wy.heap.size <= bq -> bq < wb.heap.size -> w6.heap[bq]? = wb.heap[bq]?) /\ ∀ bq, (Value.slice A6 (q9 + 1) c6).ownBlock = some bq -> bq < wy.heap.size \/ wb.heap.size <= bq) := hZ (by
  have k1 := HK3.out.1;have k2 := hB1.size;have k3 := gr6.size;refine ⟨by omega, fun bq h1 h2 => ?_, fun bq e => ?_⟩
  ·rw [gr6.block bq (by omega) (fun e => by rcases HK3.out.2.2 bq e.symm with h | h <;> omega)]
   exact (hB1.block bq (by omega)).trans (HK3.out.2.1 bq h1 h2)
  ·rcases at6 with h | h
   ·exact HK3.out.2.2 bq (h.symm.trans e)
   ·rw [h] at e
    cases e
    exact .inr (by omega))
 have NB := hZ hB6
 refine hK.out _ _ (fun hoff _ => absurd hoff (by decide)) ?_
 clear hK
 try simp only [Act.put, setIfInBounds_toArray, set_cons_zero, set_cons_succ]
 refine AnyX.mv (i := 15) (v := ?_) rfl (fun _ _ _ h => h) (Or.inl ⟨by rfl, ?_⟩) ?_
 rotate_left
 ·(intro wS _; go_simp; try with_reducible rfl)
 simp only [getElem_toArray, getElem_cons_succ, getElem_cons_zero]
 simp only [Act.put, setIfInBounds_toArray, set_cons_zero, set_cons_succ]
 refine AnyX.done (by kernel_rfl) ?_ _
 go_wp2_with fail
 go_roundw
 case rel => exact ⟨i + 1, q9 + 1, A6, c6, by omega, by omega, by go_num, rfl, NQ, NO, NK, NB⟩
 case measure => simp [intOf]; omega
def exF12 : Nm := ⟨⟨#[102]⟩, leafK 1⟩
def exG12 : Nm := ⟨⟨#[103]⟩, leafK 1⟩
def exA12 : If := ⟨⟨#[112]⟩, 1, ⟨#[109]⟩, [], [exF12]⟩
def exB12 : If := ⟨⟨#[112]⟩, 1, ⟨#[109]⟩, [], [exF12, exG12]⟩
theorem ex12_fair : fairP [exA12] [exB12] = true := by decide +kernel
theorem ex12_not : fairP [zIf] [exB12] = false := by decide +kernel
theorem ex12_mods : uniN (([exA12].map (·.mod)) ++ [exB12].map (·.mod)) = [⟨#[109]⟩] := by
  refine rising_one _ _ (uniN_rise _) (List.pairwise_singleton _ _) fun s => ?_
  rw [uniN_mem];simp [exA12, exB12]
theorem uniN_nil : uniN ([] ++ []) = [] := by
  refine rising_one _ _ (uniN_rise _) List.Pairwise.nil fun s => ?_
  rw [uniN_mem]; simp
theorem ex12_vals : uniN (([exF12].map (·.name)) ++ [exF12, exG12].map (·.name)) = [⟨#[102]⟩, ⟨#[103]⟩] := by
  refine rising_one _ _ (uniN_rise _) ?_ fun s => ?_
  · refine List.pairwise_cons.2 ⟨fun s hs => ?_, List.pairwise_singleton _ _⟩
    obtain rfl := List.mem_singleton.1 hs;show LtS _ _
    unfold LtS
    decide +kernel
  · rw [uniN_mem]
    simp [exF12, exG12]
theorem ex12_f : oneP false ⟨#[102]⟩ [exF12] [exF12, exG12] = 0 := by
  unfold oneP
  rw [show valAt [exF12, exG12] ⟨#[102]⟩ = some (leafK 1) from rfl, show valAt [exF12] ⟨#[102]⟩ = some (leafK 1) from rfl];dsimp only
  rw [if_pos ((sameT_iff _ _).2 rfl)]
theorem ex12_g : oneP false ⟨#[103]⟩ [exF12] [exF12, exG12] = 4 := by
  unfold oneP
  rw [show valAt [exF12, exG12] ⟨#[103]⟩ = some (leafK 1) from rfl, show valAt [exF12] ⟨#[103]⟩ = none from rfl]
theorem ex12_ch : chP [exA12] [exB12] = [⟨4, ⟨#[109]⟩, ⟨#[103]⟩, false⟩] := by
  unfold chP
  rw [ex12_mods, List.flatMap_cons, List.flatMap_nil, List.append_nil];unfold chMod
  rw [show rowP [exA12] ⟨#[109]⟩ true = [] from rfl, show rowP [exB12] ⟨#[109]⟩ true = [] from rfl, show rowP [exA12] ⟨#[109]⟩ false = [exF12] from rfl, show rowP [exB12] ⟨#[109]⟩ false = [exF12, exG12] from rfl];unfold chRow
  rw [ex12_vals, show (List.map (·.name) ([] : List Nm)) = [] from rfl, uniN_nil, List.flatMap_nil, List.flatMap_cons, List.flatMap_cons, List.flatMap_nil, List.append_nil, List.nil_append];unfold chOne
  rw [ex12_f, ex12_g, if_pos rfl, if_neg (by decide)];rfl
theorem ex12_of : ofP (chP [exA12] [exB12]) = 2 := by rw [ex12_ch]; rfl
theorem ex12_few {x : If} {l : List If} (h : x = exA12 \/ x = exB12 \/ x = zIf) : FewIf [x] := fun y hy => by
  obtain rfl := List.mem_singleton.1 hy;rcases h with rfl | rfl | rfl <;> decide
theorem nm_lit {w : World} {d k : Nat} {cs : List Value} {x : Nm} (hd : w.heap[d]? = some (.cells cs.toArray 52 (0, 0))) (hs : x.name.size <= 9223372036854775807) (h : ∀ j v, ([.string x.name, .int .i64 1, .string ⟨#[]⟩, .int .i64 0, .string ⟨#[]⟩, .string ⟨#[]⟩, .slice none 0 0, .slice none 0 0] : List Value)[j]? = some v -> cs[k * 8 + j]? = some v) (ht : x.typ = leafK 1) :
    ∃ (g o : Nat) (l : List Value), some (⟨d, 0, none⟩ : Addr) = some ⟨g, o, none⟩ /\ g < w.heap.size /\ (∀ j v, l[j]? = some v -> w.cell? ⟨g, o + k * nmR.k + j, none⟩ = some v) /\ nmR.E w l x := by
  refine ⟨d, 0, [.string x.name, .int .i64 1, .string ⟨#[]⟩, .int .i64 0, .string ⟨#[]⟩, .string ⟨#[]⟩, .slice none 0 0, .slice none 0 0], rfl, (Array.getElem?_eq_some_iff.1 hd).1, fun j v hv => ?_, hs, _, rfl, ?_⟩
  · rw [cZ hd, List.getElem?_toArray, show 0 + k * nmR.k + j = k * 8 + j by show 0 + k * 8 + j = _; omega]
    exact h j v hv
  · rw [ht]
    exact .mk 1 ⟨#[]⟩ 0 ⟨#[]⟩ ⟨#[]⟩ [] [] none 0 none 0 (fun _ => [.int .i64 1, .string ⟨#[]⟩, .int .i64 0, .string ⟨#[]⟩, .string ⟨#[]⟩, .slice none 0 0, .slice none 0 0]) (by decide) (by decide) (by decide) (by decide) (by decide) (by decide) (fun i s h => by simp at h) (fun _ => rfl) (fun i t h => by simp at h) (fun i t h => by simp at h)
theorem ex12_a {w : World} {d g : Nat} (hd : w.heap[d]? = some (.cells #[.string ⟨#[102]⟩, .int .i64 1, .string ⟨#[]⟩, .int .i64 0, .string ⟨#[]⟩, .string ⟨#[]⟩, .slice none 0 0, .slice none 0 0] 52 (0, 0))) (hg : w.heap[g]? = some (.cells #[.string ⟨#[112]⟩, .int .i64 1, .string ⟨#[109]⟩, .slice none 0 0, .slice (some ⟨d, 0, none⟩) 1 1] 44 (0, 0))) : RowIn ifR w (some ⟨g, 0, none⟩) [exA12] := fun i x hx => by
  match i, hx with
  | 0, hx =>
    cases hx
    refine ⟨g, 0, [.string ⟨#[112]⟩, .int .i64 1, .string ⟨#[109]⟩, .slice none 0 0, .slice (some ⟨d, 0, none⟩) 1 1], rfl, (Array.getElem?_eq_some_iff.1 hg).1, fun j v hv => ?_, none, 0, some ⟨d, 0, none⟩, 1, rfl, by decide, by decide, by decide, by decide, fun i x h => by simp [exA12] at h, fun i x h => ?_⟩
    · rw [cZ hg, show 0 + 0 * ifR.k + j = j by omega, <- hv, <- List.getElem?_toArray]
    · match i, h with
      | 0, h =>
        cases h
        exact nm_lit (k := 0) (cs := [.string ⟨#[102]⟩, .int .i64 1, .string ⟨#[]⟩, .int .i64 0, .string ⟨#[]⟩, .string ⟨#[]⟩, .slice none 0 0, .slice none 0 0]) hd (by decide) (fun j v hv => by rw [show 0 * 8 + j = j by omega]; exact hv) rfl
      | i + 1, h => simp [exA12] at h
  | i + 1, hx => simp at hx
theorem ex12_b {w : World} {d g : Nat} (hd : w.heap[d]? = some (.cells #[.string ⟨#[102]⟩, .int .i64 1, .string ⟨#[]⟩, .int .i64 0, .string ⟨#[]⟩, .string ⟨#[]⟩, .slice none 0 0, .slice none 0 0, .string ⟨#[103]⟩, .int .i64 1, .string ⟨#[]⟩, .int .i64 0, .string ⟨#[]⟩, .string ⟨#[]⟩, .slice none 0 0, .slice none 0 0] 52 (0, 0))) (hg : w.heap[g]? = some (.cells #[.string ⟨#[112]⟩, .int .i64 1, .string ⟨#[109]⟩, .slice none 0 0, .slice (some ⟨d, 0, none⟩) 2 2] 44 (0, 0))) : RowIn ifR w (some ⟨g, 0, none⟩) [exB12] := fun i x hx => by
  match i, hx with
  | 0, hx =>
    cases hx
    refine ⟨g, 0, [.string ⟨#[112]⟩, .int .i64 1, .string ⟨#[109]⟩, .slice none 0 0, .slice (some ⟨d, 0, none⟩) 2 2], rfl, (Array.getElem?_eq_some_iff.1 hg).1, fun j v hv => ?_, none, 0, some ⟨d, 0, none⟩, 2, rfl, by decide, by decide, by decide, by decide, fun i x h => by simp [exB12] at h, fun i x h => ?_⟩
    · rw [cZ hg, show 0 + 0 * ifR.k + j = j by omega, <- hv, <- List.getElem?_toArray]
    · match i, h with
      | 0, h =>
        cases h
        exact nm_lit (k := 0) (cs := [.string ⟨#[102]⟩, .int .i64 1, .string ⟨#[]⟩, .int .i64 0, .string ⟨#[]⟩, .string ⟨#[]⟩, .slice none 0 0, .slice none 0 0, .string ⟨#[103]⟩, .int .i64 1, .string ⟨#[]⟩, .int .i64 0, .string ⟨#[]⟩, .string ⟨#[]⟩, .slice none 0 0, .slice none 0 0]) hd (by decide) (fun j v hv => by
          rw [show 0 * 8 + j = j by omega];exact List.getElem?_append_left (l₁ := ([.string ⟨#[102]⟩, .int .i64 1, .string ⟨#[]⟩, .int .i64 0, .string ⟨#[]⟩, .string ⟨#[]⟩, .slice none 0 0, .slice none 0 0] : List Value)) (l₂ := [.string ⟨#[103]⟩, .int .i64 1, .string ⟨#[]⟩, .int .i64 0, .string ⟨#[]⟩, .string ⟨#[]⟩, .slice none 0 0, .slice none 0 0]) (List.getElem?_eq_some_iff.1 hv).1 |>.trans hv) rfl
      | 1, h =>
        cases h
        exact nm_lit (k := 1) (cs := [.string ⟨#[102]⟩, .int .i64 1, .string ⟨#[]⟩, .int .i64 0, .string ⟨#[]⟩, .string ⟨#[]⟩, .slice none 0 0, .slice none 0 0, .string ⟨#[103]⟩, .int .i64 1, .string ⟨#[]⟩, .int .i64 0, .string ⟨#[]⟩, .string ⟨#[]⟩, .slice none 0 0, .slice none 0 0]) hd (by decide) (fun j v hv => by
          rw [show 1 * 8 + j = 8 + j by omega];exact ((List.getElem?_append_right (l₁ := ([.string ⟨#[102]⟩, .int .i64 1, .string ⟨#[]⟩, .int .i64 0, .string ⟨#[]⟩, .string ⟨#[]⟩, .slice none 0 0, .slice none 0 0] : List Value)) (l₂ := [.string ⟨#[103]⟩, .int .i64 1, .string ⟨#[]⟩, .int .i64 0, .string ⟨#[]⟩, .string ⟨#[]⟩, .slice none 0 0, .slice none 0 0]) (i := 8 + j) (Nat.le_add_right _ _)).trans (by rw [show 8 + j - ([.string ⟨#[102]⟩, .int .i64 1, .string ⟨#[]⟩, .int .i64 0, .string ⟨#[]⟩, .string ⟨#[]⟩, .slice none 0 0, .slice none 0 0] : List Value).length = j by show 8 + j - 8 = j; omega]; rfl)).trans hv) rfl
      | i + 2, h => simp [exB12] at h
  | i + 1, hx => simp at hx
theorem ex12_z {w : World} {g : Nat} (hg : w.heap[g]? = some (.cells #[.string ⟨#[]⟩, .int .i64 0, .string ⟨#[]⟩, .slice none 0 0, .slice none 0 0] 44 (0, 0))) : RowIn ifR w (some ⟨g, 0, none⟩) [zIf] := fun i x hx => by
  match i, hx with
  | 0, hx =>
    cases hx
    refine ⟨g, 0, [.string ⟨#[]⟩, .int .i64 0, .string ⟨#[]⟩, .slice none 0 0, .slice none 0 0], rfl, (Array.getElem?_eq_some_iff.1 hg).1, fun j v hv => ?_, zero_if w⟩;rw [cZ hg, show 0 + 0 * ifR.k + j = j by omega, <- hv, <- List.getElem?_toArray]
  | i + 1, hx => simp at hx
theorem up12_any (w : World) : Calls Tryz.prog 5 #[] w fun e w' => e = .returned (.bool true) /\ Below w.heap.size w w' := by
  obtain ⟨w1, hw1⟩ : ∃ wz, wz = w.alloc (.cells #[.string ⟨#[102]⟩, .int .i64 1, .string ⟨#[]⟩, .int .i64 0, .string ⟨#[]⟩, .string ⟨#[]⟩, .slice none 0 0, .slice none 0 0] 52) := ⟨_, rfl⟩;obtain ⟨w2, hw2⟩ : ∃ wz, wz = w1.alloc (.cells #[.string ⟨#[103]⟩, .int .i64 1, .string ⟨#[]⟩, .int .i64 0, .string ⟨#[]⟩, .string ⟨#[]⟩, .slice none 0 0, .slice none 0 0] 52) := ⟨_, rfl⟩;obtain ⟨w3, hw3⟩ : ∃ wz, wz = w2.alloc (.cells #[.string ⟨#[102]⟩, .int .i64 1, .string ⟨#[]⟩, .int .i64 0, .string ⟨#[]⟩, .string ⟨#[]⟩, .slice none 0 0, .slice none 0 0] 52) := ⟨_, rfl⟩;obtain ⟨w4, hw4⟩ : ∃ wz, wz = w3.alloc (.cells #[.string ⟨#[112]⟩, .int .i64 1, .string ⟨#[109]⟩, .slice none 0 0, .slice (some ⟨w.heap.size + 1 + 1, 0, none⟩) 1 1] 44) := ⟨_, rfl⟩;obtain ⟨w5, hw5⟩ : ∃ wz, wz = w4.alloc (.cells #[.string ⟨#[102]⟩, .int .i64 1, .string ⟨#[]⟩, .int .i64 0, .string ⟨#[]⟩, .string ⟨#[]⟩, .slice none 0 0, .slice none 0 0, .string ⟨#[103]⟩, .int .i64 1, .string ⟨#[]⟩, .int .i64 0, .string ⟨#[]⟩, .string ⟨#[]⟩, .slice none 0 0, .slice none 0 0] 52) := ⟨_, rfl⟩;obtain ⟨w6, hw6⟩ : ∃ wz, wz = w5.alloc (.cells #[.string ⟨#[112]⟩, .int .i64 1, .string ⟨#[109]⟩, .slice none 0 0, .slice (some ⟨w.heap.size + 1 + 1 + 1 + 1, 0, none⟩) 2 2] 44) := ⟨_, rfl⟩;have B1 : Below w.heap.size w w1 := by rw [hw1]; exact below_new (Below.refl _ _) _
  have l1 : w.heap.size < w1.heap.size := by rw [hw1]; simp
  have sz1 : w1.heap.size = w.heap.size + 1 := by rw [hw1]; simp
  have Z1 : w1.heap[w.heap.size]? = some (.cells #[.string ⟨#[102]⟩, .int .i64 1, .string ⟨#[]⟩, .int .i64 0, .string ⟨#[]⟩, .string ⟨#[]⟩, .slice none 0 0, .slice none 0 0] 52 (0, 0)) := by rw [hw1]; exact heap_alloc_new w _
  have B2 : Below w1.heap.size w1 w2 := by rw [hw2]; exact below_new (Below.refl _ _) _
  have l2 : w1.heap.size < w2.heap.size := by rw [hw2]; simp
  have sz2 : w2.heap.size = w.heap.size + 1 + 1 := by rw [hw2]; simp [sz1]
  have Z2 : w2.heap[w.heap.size + 1]? = some (.cells #[.string ⟨#[103]⟩, .int .i64 1, .string ⟨#[]⟩, .int .i64 0, .string ⟨#[]⟩, .string ⟨#[]⟩, .slice none 0 0, .slice none 0 0] 52 (0, 0)) := by rw [hw2, <- sz1]; exact heap_alloc_new w1 _
  have B3 : Below w2.heap.size w2 w3 := by rw [hw3]; exact below_new (Below.refl _ _) _
  have l3 : w2.heap.size < w3.heap.size := by rw [hw3]; simp
  have sz3 : w3.heap.size = w.heap.size + 1 + 1 + 1 := by rw [hw3]; simp [sz2]
  have Z3 : w3.heap[w.heap.size + 1 + 1]? = some (.cells #[.string ⟨#[102]⟩, .int .i64 1, .string ⟨#[]⟩, .int .i64 0, .string ⟨#[]⟩, .string ⟨#[]⟩, .slice none 0 0, .slice none 0 0] 52 (0, 0)) := by rw [hw3, <- sz2]; exact heap_alloc_new w2 _
  have B4 : Below w3.heap.size w3 w4 := by rw [hw4]; exact below_new (Below.refl _ _) _
  have l4 : w3.heap.size < w4.heap.size := by rw [hw4]; simp
  have sz4 : w4.heap.size = w.heap.size + 1 + 1 + 1 + 1 := by rw [hw4]; simp [sz3]
  have Z4 : w4.heap[w.heap.size + 1 + 1 + 1]? = some (.cells #[.string ⟨#[112]⟩, .int .i64 1, .string ⟨#[109]⟩, .slice none 0 0, .slice (some ⟨w.heap.size + 1 + 1, 0, none⟩) 1 1] 44 (0, 0)) := by rw [hw4, <- sz3]; exact heap_alloc_new w3 _
  have B5 : Below w4.heap.size w4 w5 := by rw [hw5]; exact below_new (Below.refl _ _) _
  have l5 : w4.heap.size < w5.heap.size := by rw [hw5]; simp
  have sz5 : w5.heap.size = w.heap.size + 1 + 1 + 1 + 1 + 1 := by rw [hw5]; simp [sz4]
  have Z5 : w5.heap[w.heap.size + 1 + 1 + 1 + 1]? = some (.cells #[.string ⟨#[102]⟩, .int .i64 1, .string ⟨#[]⟩, .int .i64 0, .string ⟨#[]⟩, .string ⟨#[]⟩, .slice none 0 0, .slice none 0 0, .string ⟨#[103]⟩, .int .i64 1, .string ⟨#[]⟩, .int .i64 0, .string ⟨#[]⟩, .string ⟨#[]⟩, .slice none 0 0, .slice none 0 0] 52 (0, 0)) := by rw [hw5, <- sz4]; exact heap_alloc_new w4 _
  have B6 : Below w5.heap.size w5 w6 := by rw [hw6]; exact below_new (Below.refl _ _) _
  have l6 : w5.heap.size < w6.heap.size := by rw [hw6]; simp
  have sz6 : w6.heap.size = w.heap.size + 1 + 1 + 1 + 1 + 1 + 1 := by rw [hw6]; simp [sz5]
  have Z6 : w6.heap[w.heap.size + 1 + 1 + 1 + 1 + 1]? = some (.cells #[.string ⟨#[112]⟩, .int .i64 1, .string ⟨#[109]⟩, .slice none 0 0, .slice (some ⟨w.heap.size + 1 + 1 + 1 + 1, 0, none⟩) 2 2] 44 (0, 0)) := by rw [hw6, <- sz5]; exact heap_alloc_new w5 _
  have B36 := below_over B4 (below_over B5 B6);have RA := ex12_a ((B36.block _ (by omega)).trans Z3) (((below_over B5 B6).block _ (by omega)).trans Z4);have RB := ex12_b ((B6.block _ (by omega)).trans Z5) Z6;have B06 := below_over B1 (below_over B2 (below_over B3 B36));have OF1 : Hid (Calls Tryz.prog 8 #[.slice (some ⟨w.heap.size + 1 + 1 + 1, 0, none⟩) 1 1, .slice (some ⟨w.heap.size + 1 + 1 + 1 + 1 + 1, 0, none⟩) 1 1] w6 (BoOut [exA12] [exB12] w6)) := hZ (bumpOf_any (some ⟨w.heap.size + 1 + 1 + 1, 0, none⟩) 1 (some ⟨w.heap.size + 1 + 1 + 1 + 1 + 1, 0, none⟩) 1 [exA12] [exB12] w6 RA RB (by decide) (by decide) (ex12_few (l := []) (.inl rfl)) (ex12_few (l := []) (.inr (.inl rfl))));have CH1 : Hid (∀ wx, Below w6.heap.size w6 wx -> Calls Tryz.prog 7 #[.slice (some ⟨w.heap.size + 1 + 1 + 1, 0, none⟩) 1 1, .slice (some ⟨w.heap.size + 1 + 1 + 1 + 1 + 1, 0, none⟩) 1 1] wx (CgOut [exA12] [exB12] wx)) := hZ (fun wx hb => changes_any (some ⟨w.heap.size + 1 + 1 + 1, 0, none⟩) 1 (some ⟨w.heap.size + 1 + 1 + 1 + 1 + 1, 0, none⟩) 1 [exA12] [exB12] wx (RA.below hb) (RB.below hb) (by decide) (by decide) (ex12_few (l := []) (.inl rfl)) (ex12_few (l := []) (.inr (.inl rfl))));have RBH := hZ RB;have HB06 := hZ B06;have HW1 := hZ hw1;have HW2 := hZ hw2;have HW3 := hZ hw3;have HW4 := hZ hw4;have HW5 := hZ hw5;have HW6 := hZ hw6;clear hw1 hw2 hw3 hw4 hw5 hw6 B1 B2 B3 B4 B5 B6 B36 B06 Z1 Z2 Z3 Z4 Z5 Z6 RA RB l1 l2 l3 l4 l5 l6 sz1 sz2 sz3 sz4 sz5 sz6;go_enter Tryz.func5, Tryz.ntmps5
  go_upto_region 5 with fail
  rw [<- HW1.out, <- HW2.out, <- HW3.out, <- HW4.out, <- HW5.out, <- HW6.out];clear HW1 HW2 HW3 HW4 HW5 HW6;go_wp2_with fail
  refine OF1.out.mono ?_; rintro e w7 ⟨hb7, ⟨hf, -⟩ | ⟨-, rfl⟩⟩
  · rw [ex12_fair] at hf; cases hf
  rw [ex12_of];have HB7 := hZ hb7;clear hb7 OF1;go_wp2_with fail
  refine (CH1.out w7 HB7.out).mono ?_; rintro e w8 ⟨hb8, ⟨hf, -⟩ | ⟨-, -, A8, c8, rfl, hR8⟩⟩
  · rw [ex12_fair] at hf; cases hf
  rw [ex12_ch] at hR8 ⊢;have HB8 := hZ (below_over HB7.out hb8);have HR8 := hZ hR8;obtain ⟨w9, hw9⟩ : ∃ wz, wz = w8.alloc (.cells #[.string ⟨#[]⟩, .int .i64 0, .string ⟨#[]⟩, .slice none 0 0, .slice none 0 0] 44) := ⟨_, rfl⟩;have B9 : Below w8.heap.size w8 w9 := by rw [hw9]; exact below_new (Below.refl _ _) _
  have Z9 : w9.heap[w8.heap.size]? = some (.cells #[.string ⟨#[]⟩, .int .i64 0, .string ⟨#[]⟩, .slice none 0 0, .slice none 0 0] 44 (0, 0)) := by rw [hw9]; exact heap_alloc_new w8 _
  have HB9 := hZ (below_over HB8.out B9);have HR9 := hZ (HR8.out.below B9);have OF2 : Hid (Calls Tryz.prog 8 #[.slice (some ⟨w8.heap.size, 0, none⟩) 1 1, .slice (some ⟨w.heap.size + 1 + 1 + 1 + 1 + 1, 0, none⟩) 1 1] w9 (BoOut [zIf] [exB12] w9)) := hZ (bumpOf_any (some ⟨w8.heap.size, 0, none⟩) 1 (some ⟨w.heap.size + 1 + 1 + 1 + 1 + 1, 0, none⟩) 1 [zIf] [exB12] w9 (ex12_z Z9) (RBH.out.below HB9.out) (by decide) (by decide) (ex12_few (l := []) (.inr (.inr rfl))) (ex12_few (l := []) (.inr (.inl rfl))));have HW9 := hZ hw9;clear hb8 hR8 CH1 hw9 B9 Z9;simp only [List.length_cons, List.length_nil];go_wp2_with fail
  rw [<- HW9.out];refine OF2.out.mono ?_; rintro e w10 ⟨hb10, ⟨-, rfl⟩ | ⟨hf, -⟩⟩
  rotate_left
  · rw [ex12_not] at hf; cases hf
  obtain ⟨g, o, rfl, hg, a0, -⟩ := (HR9.out.below hb10).ch (i := 0) (x := ⟨4, ⟨#[109]⟩, ⟨#[103]⟩, false⟩) rfl;simp at a0;have FIN := hZ (below_over HB06.out (below_over HB9.out hb10));have heq := eqErr 1 1 w10;clear OF2 hg hb10;go_wp2_with fail
  go_ret;exact ⟨rfl, FIN.out⟩
theorem fewE_few {l : List If} (h : fewE l = true) : FewIf l := fun x hx => by
  unfold fewE at h
  simp only [Bool.and_eq_true, List.all_eq_true] at h;have h1 := h.2 x hx;unfold fewI at h1
  simp only [Bool.and_eq_true, decide_eq_true_eq] at h1;omega
end Go.Proofs.YtddlmigofilejaaGreat
