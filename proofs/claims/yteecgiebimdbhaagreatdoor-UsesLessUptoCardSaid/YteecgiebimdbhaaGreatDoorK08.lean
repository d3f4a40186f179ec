/-
  Several texts in one.
-/
import Derived.Test.YteecgiebimdbhaaGreatDoorK07
set_option maxRecDepth 100000
set_option maxHeartbeats 4000000
namespace Go.Proofs.YteecgiebimdbhaaGreatDoor
open Go.RowKit
open Go.Sort
open M
theorem impSize : (Tryz.prog.info? 71).map (·.size) = some 4 := by kernel_rfl
theorem impOne {a c d : ByteArray} {b : Int} : (#[.string a, .int .i64 b, .string c, .string d] : Array Value).all (·.oneCell') = true := Array.all_eq_true_iff_forall_mem.2 (fun v hv => by simp at hv; rcases hv with rfl | rfl | rfl | rfl <;> rfl)
theorem imp_info : (Tryz.prog.info? 71).map (fun i => (i.zero, i.size, i.bytes)) = some (some (.agg #[.string ⟨#[]⟩, .int .i64 0, .string ⟨#[]⟩, .string ⟨#[]⟩]), 4, 56) := by kernel_rfl
theorem cell4 {w : World} {b : Nat} {v0 v1 v2 v3 : Value} {T : TypeId} {fr : Nat × Nat} (h : w.heap[b]? = some (.cells #[v0, v1, v2, v3] T fr)) : ∀ i v, ([v0, v1, v2, v3] : List Value)[i]? = some v -> w.cell? ⟨b, i, none⟩ = some v := fun i v hv => by
  rw [cZ h, <- hv, <- List.getElem?_toArray]
theorem imp_chain {S : Toks} {i b : Nat} {s1 s3 s5 : ByteArray} {v : Int} {i1 b1 i2 b2 i3 b3 i5 b5 : Nat}
    (h1 : NameOut S (decide (i < S.n) && smallK (S.K i) (S.T i)) i b s1 i1 b1) (h2 : NumOut S i1 b1 v i2 b2) (h3 : NameOut S (decide (i2 < S.n) && smallK (S.K i2) (S.T i2)) i2 b2 s3 i3 b3)
    (h5 : NameOut S (decide (psI b3 (keyS S i3 kAs) i3 < S.n) && smallK (S.K (psI b3 (keyS S i3 kAs) i3)) (S.T (psI b3 (keyS S i3 kAs) i3))) (psI b3 (keyS S i3 kAs) i3) (psB b3 (keyS S i3 kAs)) s5 i5 b5) :
    badR b5 i5 (.ok (⟨s1, v, s3, s5⟩ : Im) i5 0) = badR b i (impR S i) := by
  have a := nameOut_res h5 (fun s i => Res.ok (⟨s1, v, s3, s⟩ : Im) i 0);rw [small_k] at a;have d := sign_res (keyS S i3 kAs) b3 i3 (fun j => if S.small j = false then Res.err 2 j else .ok (⟨s1, v, s3, S.T j⟩ : Im) (j + 1) 0);have e := nameOut_res h3 (fun s j => if keyS S j kAs = false then Res.err 2 j else if S.small (j + 1) = false then .err 2 (j + 1) else .ok (⟨s1, v, s, S.T (j + 1)⟩ : Im) (j + 1 + 1) 0);rw [small_k] at e;have f := numOut_res h2 (fun v j => if S.small j = false then Res.err 2 j else if keyS S (j + 1) kAs = false then Res.err 2 (j + 1) else if S.small (j + 1 + 1) = false then .err 2 (j + 1 + 1) else .ok (⟨s1, v, S.T j, S.T (j + 1 + 1)⟩ : Im) (j + 1 + 1 + 1) 0);have g := nameOut_res h1 (fun s j => if S.major j = false then Res.err 2 j else if S.small (j + 1) = false then Res.err 2 (j + 1) else if keyS S (j + 1 + 1) kAs = false then Res.err 2 (j + 1 + 1) else if S.small (j + 1 + 1 + 1) = false then .err 2 (j + 1 + 1 + 1) else .ok (⟨s, digs (S.T j).data.toList 0, S.T (j + 1), S.T (j + 1 + 1 + 1)⟩ : Im) (j + 1 + 1 + 1 + 1) 0);rw [small_k] at g;exact a.trans (d.trans (e.trans (f.trans g)))
def ImOut (w : World) (q : Nat) (A : Option Addr) (n cn : Nat) (R : Res Im) (e : Ending) (w' : World) : Prop :=
  ∃ (x : Im) (i' b' : Nat), e = .returned (.agg #[.string x.pkg, .int .i64 x.major, .string x.mod, .string x.asn]) /\ x.pkg.size <= 9223372036854775807 /\ x.mod.size <= 9223372036854775807 /\ x.asn.size <= 9223372036854775807 /\ Kp q w w' /\ CSt q A n cn i' b' w' /\ badR b' i' (.ok x i' 0) = R
theorem cimp_any {W : World} {q : Nat} {A : Option Addr} {S : Toks} {cn i b : Nat} {w : World} (hc : CdCtx W q A S w) (h : CSt q A S.n cn i b w) (he : CEnv W) :
    Calls Tryz.prog 108 #[.pointer (some ⟨q, 0, none⟩)] w (ImOut w q A S.n cn (badR b i (impR S i))) := by
  have hq := h.lt;obtain ⟨w0, hw0⟩ : ∃ w0, w0 = w.alloc (.cells #[.string ⟨#[]⟩, .int .i64 0, .string ⟨#[]⟩, .string ⟨#[]⟩] 71) := ⟨_, rfl⟩;have B0 : Below w.heap.size w w0 := by rw [hw0]; exact below_new (Below.refl _ _) _
  have s0 : w0.heap.size = w.heap.size + 1 := by rw [hw0]; simp
  have X0 : w0.heap[w.heap.size]? = some (.cells #[.string ⟨#[]⟩, .int .i64 0, .string ⟨#[]⟩, .string ⟨#[]⟩] 71 (0, 0)) := by rw [hw0]; exact heap_alloc_new w _
  have K0 := Kp.of_below (r := q) B0;have C0 := hc.on K0 hq;have WD := hZ (cword_any C0 (h.below B0) _ _ asksSmall (by decide));have HC0 := hZ C0;have HX0 := hZ X0;have HK0 := hZ K0;have HW0 := hZ hw0;have HE := hZ he;have hl0 : w.heap.size < w0.heap.size := by omega
  have hq0 : q < w0.heap.size := by omega
  clear hc h he hw0 B0 X0 K0 C0 s0;go_enter Tryz.func108, Tryz.ntmps108
  go_upto_region 1 with fail
  rw [<- HW0.out];go_wp2_with fail
  refine WD.out.mono ?_; rintro e w1 ⟨s1, i1, b1, rfl, z1, h1, k1, hN1⟩
  have C1 := HC0.out.on k1 hq0;have NM := hZ (cmajor_any C1 h1 HE.out);have HC1 := hZ C1;have HX1 := hZ ((k1.blk hl0 (by omega)).trans HX0.out);have HK1 := hZ (HK0.out.trans k1);have HN1 := hZ hN1;have hl1 := Nat.lt_of_lt_of_le hl0 k1.size;have hq1 := Nat.lt_of_lt_of_le hq0 k1.size;clear h1 k1 C1 hN1 WD HC0 HX0 HK0;go_wp2_with fail
  refine NM.out.mono ?_; rintro e w2 ⟨v, i2, b2, rfl, h2, k2, hN2⟩
  have C2 := HC1.out.on k2 hq1;have WD := hZ (cword_any C2 h2 _ _ asksSmall (by decide));have HC2 := hZ C2;have HX2 := hZ ((k2.blk hl1 (by omega)).trans HX1.out);have HK2 := hZ (HK1.out.trans k2);have HN2 := hZ hN2;have hl2 := Nat.lt_of_lt_of_le hl1 k2.size;have hq2 := Nat.lt_of_lt_of_le hq1 k2.size;clear h2 k2 C2 hN2 NM HC1 HX1 HK1;go_wp2_with fail
  refine WD.out.mono ?_; rintro e w3 ⟨s3, i3, b3, rfl, z3, h3, k3, hN3⟩
  have C3 := HC2.out.on k3 hq2;have KY := hZ (ckey_any C3 h3 ⟨#[97, 115]⟩);have HC3 := hZ C3;have HX3 := hZ ((k3.blk hl2 (by omega)).trans HX2.out);have HK3 := hZ (HK2.out.trans k3);have HN3 := hZ hN3;have hl3 := Nat.lt_of_lt_of_le hl2 k3.size;have hq3 := Nat.lt_of_lt_of_le hq2 k3.size;clear h3 k3 C3 hN3 WD HC2 HX2 HK2;go_wp2_with fail
  refine KY.out.mono ?_; rintro e w4 ⟨rfl, h4, k4⟩
  have C4 := HC3.out.on k4 hq3;have WD := hZ (cword_any C4 h4 _ _ asksSmall (by decide));have HX4 := hZ ((k4.blk hl3 (by omega)).trans HX3.out);have HK4 := hZ (HK3.out.trans k4);have hl4 := Nat.lt_of_lt_of_le hl3 k4.size;clear h4 k4 C4 KY HC3 HX3 HK3;go_wp2_with fail
  refine WD.out.mono ?_; rintro e w5 ⟨s5, i5, b5, rfl, z5, h5, k5, hN5⟩
  have X5 := (k5.blk hl4 (by omega)).trans HX4.out;have K5 := HK4.out.trans k5
  have SEAL : Hid (ImOut w q A S.n cn (badR b i (impR S i)) (.returned (.agg #[.string s1, .int .i64 v, .string s3, .string s5])) (w5.setRow w.heap.size #[.string s1, .int .i64 v, .string s3, .string s5])) := hZ
    ⟨⟨s1, v, s3, s5⟩, i5, b5, rfl, by show s1.size <= _; omega, by show s3.size <= _; omega, by show s5.size <= _; omega,
      ⟨K5.os, K5.tape, K5.output, by have := K5.size; simpa using this, fun k hk hne => (setRow_other w5 w.heap.size k _ (by omega)).trans (K5.block k hk hne)⟩,
      h5.keep (setRow_other w5 w.heap.size q _ (by omega)) (fun g vs fr hg => setRow_other w5 w.heap.size g _ (two_types hg X5 (by decide))), imp_chain HN1.out HN2.out HN3.out hN5⟩
  have HX5 := hZ X5;clear h5 k5 K5 hN5 WD HX4 HK4;go_wp2_with (first | ((with_reducible refine wpList_putRow 71 (w.heap.size) #[.string s1, .int .i64 v, .string s3, .string s5] _ _ X5 ?_ ?_ ?_ ?_ ?_ ?_); exact impSize; rfl; exact impOne; iterate 2 (focus (first | (go_simp; done) | rfl))))
  exact ret_agg1 (fn := Tryz.f108) (vs := [.string s1, .int .i64 v, .string s3, .string s5]) (b := w.heap.size) rfl rfl Tryz.underlying71 (by kernel_rfl) (cell4 (setRow_heap w5 w.heap.size _ _ _ _ HX5.out)) rfl SEAL.out
theorem impR_ok {S : Toks} {i j c : Nat} {x : Im} (h : impR S i = .ok x j c) : j = i + 5 := by
  unfold impR at h
  split at h
  · cases h
  split at h
  · cases h
  split at h
  · cases h
  split at h
  · cases h
  split at h
  · cases h
  · cases h; rfl
theorem imps_no {S : Toks} {b i n : Nat} {xs : List Im} (hn : xs.length <= 20 \/ b ≠ 0) (h : (decide (b = 0) && keyS S i kImport) = false) : badR b i (impsR S (21 - xs.length) i xs) = badR b i (.ok xs i 0) := by
  by_cases hb : b = 0
  · subst hb
    rw [badR_0, badR_0, show 21 - xs.length = (20 - xs.length) + 1 by omega];unfold impsR
    rw [if_pos (by simpa using h)]
  · rw [badR_ne _ _ hb, badR_ne _ _ hb]
theorem imps_yes {S : Toks} {i i5 b5 : Nat} {xs : List Im} {x : Im} (hn : xs.length <= 20) (hk : keyS S i kImport = true)
    (h : badR b5 i5 (.ok x i5 0) = badR (mustB 0 (decide ((xs.length : Int) < 20)) 3) (upI (mustB 0 (decide ((xs.length : Int) < 20)) 3) i) (impR S (upI (mustB 0 (decide ((xs.length : Int) < 20)) 3) i))) :
    impsR S (21 - xs.length) i xs = badR b5 i5 (impsR S (21 - (xs ++ [x]).length) i5 (xs ++ [x])) /\ (b5 = 0 -> xs.length < 20 /\ i < i5) := by
  rw [show 21 - xs.length = (20 - xs.length) + 1 by omega]
  have e0 : ∀ f, impsR S (f + 1) i xs = if keyS S i kImport = false then .ok xs i 0 else if 20 <= xs.length then .err 3 i else match impR S (i + 1) with
      | .err b j => .err b j
      | .ok x j _ => impsR S f j (xs ++ [x]) := fun f => rfl
  rw [e0, if_neg (by rw [hk]; decide)];have e1 : (xs ++ [x]).length = xs.length + 1 := by simp
  rw [e1, show 21 - (xs.length + 1) = 20 - xs.length by omega];by_cases hl : xs.length < 20
  · have hd : decide ((xs.length : Int) < 20) = true := by simp; omega
    rw [hd, mustB_yes, upI_0, badR_0] at h;rw [if_neg (by omega), <- h];by_cases hb : b5 = 0
    · subst hb
      have h6 := impR_ok h.symm;exact ⟨rfl, fun _ => ⟨hl, by omega⟩⟩
    · rw [badR_ne _ _ hb, badR_ne _ _ hb]
      exact ⟨rfl, fun e => absurd e hb⟩
  · have hd : decide ((xs.length : Int) < 20) = false := by simp; omega
    have h3 : (3 : Nat) ≠ 0 := by decide
    rw [hd, mustB_no, upI_ne _ h3, badR_ne _ _ h3] at h;rw [if_pos (by omega)];by_cases hb : b5 = 0
    · subst hb; cases h
    · rw [badR_ne _ _ hb] at h
      rw [badR_ne _ _ hb];refine ⟨?_, fun e => absurd e hb⟩;cases h
      rfl
structure IpI (w : World) (q : Nat) (A : Option Addr) (S : Toks) (cn : Nat) (F : Res (List Im)) (xs : List Im) (A3 : Option Addr) (c3 i b : Nat) (wr : World) : Prop where
  kp : Kp q w wr
  rows : Row imR w.heap.size xs A3 c3 wr
  cur : CSt q A S.n cn i b wr
  fin : F = badR b i (impsR S (21 - xs.length) i xs)
  some : xs.length <= 21
  most : b = 0 -> xs.length <= 20
def IpOut (w : World) (q : Nat) (A : Option Addr) (S : Toks) (cn : Nat) (F : Res (List Im)) (e : Ending) (w' : World) : Prop :=
  ∃ (xs : List Im) (A3 : Option Addr) (c3 i b : Nat), e = .returned (.slice A3 xs.length c3) /\ Kp q w w' /\ Row imR w.heap.size xs A3 c3 w' /\ CSt q A S.n cn i b w' /\ F = badR b i (.ok xs i 0) /\ xs.length <= 21
theorem cimps_any {W : World} {q : Nat} {A : Option Addr} {S : Toks} {cn i b : Nat} {w : World} (hc : CdCtx W q A S w) (h : CSt q A S.n cn i b w) (he : CEnv W) :
    Calls Tryz.prog 67 #[.pointer (some ⟨q, 0, none⟩)] w (IpOut w q A S cn (badR b i (impsR S 21 i []))) := by
  have hq := h.lt;have hbig := hc.big;obtain ⟨F, hF⟩ : ∃ F, badR b i (impsR S 21 i []) = F := ⟨_, rfl⟩;rw [hF];have INV : Hid (IpI w q A S cn F [] none 0 i b w) := hZ ⟨Kp.refl _ _, Row.start _ _ _, h, hF.symm, by simp, fun _ => by simp⟩;have HC := hZ hc;have HE := hZ he;clear hF h hc he;go_enter Tryz.func67, Tryz.ntmps67
  go_wp2_with fail
  go_loopw [3] (fun m wr => ∃ (xs : List Im) (A3 : Option Addr) (c3 i b : Nat), m = .slice A3 xs.length c3 /\ Hid (IpI w q A S cn F xs A3 c3 i b wr)) (fun _ wr => cuM q S.n wr)
  case atStart => exact ⟨[], none, 0, i, b, rfl, INV⟩
  case round =>
    obtain ⟨xs, A3, c3, i, b, rfl, HI⟩ := hrel;obtain ⟨wo, rfl⟩ : ∃ wo : World, wo = wr := ⟨_, rfl⟩;have C0 := HC.out.on HI.out.kp hq;have AK := hZ (catKey_any C0 HI.out.cur ⟨#[105, 109, 112, 111, 114, 116]⟩);have hso := HI.out.kp.size;clear C0;go_wp2_with fail
    refine AK.out.mono ?_; rintro e w1 ⟨rfl, hb1⟩
    obtain ⟨v, hv⟩ : ∃ v, (decide (b = 0) && keyS S i (ByteArray.mk #[105, 109, 112, 111, 114, 116]).data.toList) = v := ⟨_, rfl⟩;rw [hv];have HV : Hid ((decide (b = 0) && keyS S i kImport) = v) := hZ hv;have hs1 := hb1.size;have K1 := HI.out.kp.trans (Kp.of_below (r := q) hb1);have ROW1 := HI.out.rows.keep hs1 (fun b' hb hlt => hb1.block b' hlt);have h1 := HI.out.cur.below hb1;clear hv AK;cases v with
    | false =>
      have OUT : Hid (IpOut w q A S cn F (.returned (.slice A3 xs.length c3)) w1) := hZ ⟨xs, A3, c3, i, b, rfl, K1, ROW1, h1, (by rw [HI.out.fin]; exact imps_no (n := 0) (Classical.byCases (fun hb : b = 0 => .inl (HI.out.most hb)) (fun hb => .inr hb)) HV.out), HI.out.some⟩;clear h1 K1 ROW1 HI hb1;go_wp2_with fail
      go_ret;exact OUT.out
    | true =>
      have hbk : b = 0 /\ keyS S i kImport = true := by have := HV.out; simpa using this
      obtain ⟨hb0, hk⟩ := hbk;subst hb0;have hin := key_lt hk;have h20 := HI.out.most rfl;have MI := hZ HI.out.cur.m;have HF : Hid (F = impsR S (21 - xs.length) i xs) := hZ (by rw [HI.out.fin, badR_0]);have hn63 : ¬ ((xs.length : Int) > 9223372036854775807) := by omega
      have MU := hZ (must_any h1 (decide ((xs.length : Int) < 20)) 3 (by decide));have HK1 := hZ K1;have HR1 := hZ ROW1;have YES : Hid (∀ i5 b5 x, badR b5 i5 (.ok x i5 0) = badR (mustB 0 (decide ((xs.length : Int) < 20)) 3) (upI (mustB 0 (decide ((xs.length : Int) < 20)) 3) i) (impR S (upI (mustB 0 (decide ((xs.length : Int) < 20)) 3) i)) -> _) := hZ (fun i5 b5 x h => imps_yes (x := x) h20 hk h);obtain ⟨u, hu⟩ : ∃ u, decide ((xs.length : Int) < 20) = u := ⟨_, rfl⟩;rw [hu] at YES MU;clear h1 K1 ROW1 HI hb1 hk;go_wp2_with fail
      refine MU.out.mono ?_; rintro e w2 ⟨rfl, h2, k2⟩
      have PS := hZ (cpass_any h2 (fun _ => hin) hbig);have hs2 := k2.size;have HK2 := hZ (HK1.out.trans k2);have HR2 := hZ (HR1.out.keep hs2 (fun b' hb hlt => k2.blk hlt (by omega)));clear h2 k2 MU hu HK1 HR1;go_wp2_with fail
      refine PS.out.mono ?_; rintro e w3 ⟨rfl, h3, k3⟩
      have hs3 := k3.size;have HK3 := hZ (HK2.out.trans k3);have HR3 := hZ (HR2.out.keep hs3 (fun b' hb hlt => k3.blk hlt (by omega)));have RE := hZ (cimp_any (HC.out.on HK3.out hq) h3 HE.out);clear h3 k3 PS HK2 HR2;go_wp2_with fail
      refine RE.out.mono ?_; rintro e w4 ⟨x, i4, b4, rfl, z1, z2, z3, k4, h4, hres⟩
      have hs4 := k4.size;have ROW4 := HR3.out.keep hs4 (fun b' hb hlt => k4.blk hlt (by omega));have K4 := HK3.out.trans k4;obtain ⟨C, hC1, hown, hC4⟩ := ROW4.cells;obtain ⟨inf, hi1', hy0, hy1, hy2⟩ := info_parts imp_info;have hMX : xs.length + 1 <= maxLen := by unfold maxLen; omega
      have hwo : ∀ b, (Value.slice A3 xs.length c3).ownBlock = some b -> b < w3.heap.size := fun b e => (HR3.out.lt e).2
      have hlow : ∀ b, (Value.slice A3 xs.length c3).ownBlock = some b -> w.heap.size <= b := fun b e => (HR3.out.lt e).1
      have hAL : w.heap.size <= (w4.alloc (.cells #[.string x.pkg, .int .i64 x.major, .string x.mod, .string x.asn] 71)).heap.size := by have e1 : (w4.alloc (.cells #[.string x.pkg, .int .i64 x.major, .string x.mod, .string x.asn] 71)).heap.size = w4.heap.size + 1 := (by simp); omega
      have hNW : ∀ j u, ([.string x.pkg, .int .i64 x.major, .string x.mod, .string x.asn] : List Value)[j]? = some u -> (w4.alloc (.cells #[.string x.pkg, .int .i64 x.major, .string x.mod, .string x.asn] 71)).cell? ((⟨w4.heap.size, 0, none⟩ : Addr).add j) = some u := fun q u hq => by rw [WideShapes.add_plain, Nat.zero_add, cZ (heap_alloc_new w4 _), <- hq, <- List.getElem?_toArray]
      go_wp2_with (first | (refine wpList_append_lies _ rfl (.tmp 13) (.tmp 16) 22 rfl w.heap.size 71 inf _ 4 56 Tryz.underlying22 hi1' hy0 hy1 hy2 (by rfl) (Nat.zero_lt_succ 3) (.slice A3 xs.length c3) xs.length _ rfl (hown.alloc _) ⟨w4.heap.size, 0, none⟩ 1 1 [.string x.pkg, .int .i64 x.major, .string x.mod, .string x.asn] rfl rfl hNW (fun u hu => by simp at hu; rcases hu with rfl | rfl | rfl | rfl <;> rfl) Nat.one_pos hMX (by omega) hAL _ rfl ?_; intro gb cap w5 hown5 hgrow hat hlt5))
      obtain ⟨ROW5, old5, hs5⟩ := Row.more ROW4 (B := w3.heap.size) (by omega) hwo hC1 hC4 (x := x) ⟨rfl, z1, z2, z3⟩ hown5 hgrow hat;have K5 : Kp q w w5 := (K4.alloc _).grow hgrow hlow;obtain ⟨hF5, hlim⟩ := YES.out i4 b4 x hres
      have h5 : CSt q A S.n cn i4 b4 w5 := h4.keep (old5 q (fun e => by have := hlow q e; omega) h4.lt) (fun g vs fr hg => old5 g (fun e => by
        rcases hown.2 with ⟨e1, -⟩ | ⟨g6, cap6, cur6, hv, -, hg6, -⟩
        · rw [e1] at e; simp [Value.ownBlock] at e
        · rw [hv] at e; simp [Value.ownBlock] at e
          subst e;exact two_types hg hg6 (by decide) rfl) (Array.getElem?_eq_some_iff.1 hg).1)
      have INV5 : Hid (IpI w q A S cn F (xs ++ [x]) (some ⟨gb, 0, none⟩) cap i4 b4 w5) := hZ
        ⟨K5, ROW5, h5, by rw [HF.out]; exact hF5, by simp; omega, fun e => by have := (hlim e).1; simp; omega⟩
      have MEAS : Hid (cuM q S.n w5 < cuM q S.n wo) := hZ (by
        rw [MI.out, h5.m];simp only [if_true];split
        · rename_i e
          have := hlim e
          omega
        · omega)
      have hlen : (xs ++ [x]).length = xs.length + 1 := by simp
      clear k4 h4 hres ROW4 K4 hC1 hown hC4 hi1' hy0 hy1 hy2 hNW hown5 hgrow hat hlt5 ROW5 K5 old5 hs5 h5 hlim hF5 RE HR3 HK3 hwo hlow hAL;go_wp2_with fail
      go_roundw
      case rel => exact ⟨xs ++ [x], some ⟨gb, 0, none⟩, cap, i4, b4, by rw [hlen], INV5⟩
      case measure => exact MEAS.out
theorem name_sign_le {S : Toks} {b1 i5 i6 b6 : Nat} {s : ByteArray} {p : Int -> ByteArray -> Bool} {l : List UInt8} (_ : b1 = 0 -> i5 <= S.n) (h : NameOut S (decide (i5 < S.n) && p (S.K i5) (S.T i5)) i5 b1 s i6 b6) (e : psB b6 (S.sign i6 l) = 0) : psI b6 (S.sign i6 l) i6 <= S.n := by
  have h6 := psB_0 e;subst h6;cases hs : S.sign i6 l with
  | true => have := sign_lt hs; rw [psI_yes]; omega
  | false => rw [hs] at e; cases e
def restD (S : Toks) (s : ByteArray) (l : List Im) (i : Nat) (xs : List De) : Res Mo :=
  match decsR S (61 - xs.length) i xs with
  | .err b i => .err b i
  | .ok ds i _ => .ok ⟨s, l, ds⟩ i 0
def Mx (d : Nat) (nm : ByteArray) (Ai : Option Addr) (ni ci : Nat) (Ad : Option Addr) (nd cd : Nat) (w : World) : Prop := w.heap[d]? = some (.cells #[.string nm, .slice Ai ni ci, .slice Ad nd cd] 139 (0, 0))
structure MpI (w : World) (q : Nat) (A : Option Addr) (S : Toks) (cn : Nat) (F : Res Mo) (d lo B6 : Nat) (nm : ByteArray) (l : List Im) (Ai : Option Addr) (ci : Nat) (xs : List De) (Ad : Option Addr) (cd i b : Nat) (wr : World) : Prop where
  kp : Kp q w wr
  box : Mx d nm Ai l.length ci Ad xs.length cd wr
  res : wr.heap[w.heap.size]? = some (.cells #[.string ⟨#[]⟩, .slice none 0 0, .slice none 0 0] 139 (0, 0))
  ims : RowIn imR (strike (fun b => b < B6 \/ lo <= b) wr) Ai l
  rows : Row deR lo xs Ad cd wr
  cur : CSt q A S.n cn i b wr
  fin : F = badR b i (restD S nm l i xs)
  most : b = 0 -> xs.length <= 60
  some : xs.length <= 61
  lole : lo <= wr.heap.size
theorem tkS_big {ts : List Tok} (h : ts.length <= 20000) : (tkS ts).n <= 9223372036854775806 := by show ts.length <= _; omega
def Rm (r : Nat) (A : Option Addr) (n cn : Nat) (i b : Nat) (w : World) : Prop := w.heap[r]? = some (.cells #[.slice A n cn, .int .i64 i, .int .i64 b] 85 (0, 0))
theorem row_more {α : Type} {R : Reads α} {lo d g cap c B : Nat} {xs : List α} {A : Option Addr} {w1 w3 : World} {o : Obj} {l : List Value} {x : α} {C : List (List Value)} {old : Array Value} {T : TypeId} {k : Nat}
    (h : Row R lo xs A c w1) (hlo : lo <= B) (hB1 : B <= w1.heap.size) (hwo : ∀ b, (Value.slice A xs.length c).ownBlock = some b -> b < B)
    (hC1 : C.length = xs.length) (hC4 : ∀ (i : Nat) (l : List Value) (x : α), C[i]? = some l -> xs[i]? = some x -> R.E (strike (fun b => b < lo \/ (Value.slice A xs.length c).ownBlock = some b) w1) l x)
    (hE : R.E (strike (· < B) w1) l x) (hown : w3.ownsRow lo R.T R.k (.slice (some ⟨g, 0, none⟩) (xs.length + 1) cap) (xs.length + 1) (C.flatten ++ l)) (hgrow : (w1.alloc o).grownBy w3 (Value.slice A xs.length c).ownBlock)
    (hat : (Value.slice A xs.length c).ownBlock = some g \/ g = (w1.alloc o).heap.size) (hd : d < lo) (hbox : w1.heap[d]? = some (.cells old T (0, 0))) (hk : old[k]? = some (.slice A xs.length c)) :
    Row R lo (xs ++ [x]) (some ⟨g, 0, none⟩) cap (w3.setCell ⟨d, k, none⟩ (.slice (some ⟨g, 0, none⟩) (xs.length + 1) cap)) /\
    (w3.setCell ⟨d, k, none⟩ (.slice (some ⟨g, 0, none⟩) (xs.length + 1) cap)).heap[d]? = some (.cells (old.setIfInBounds k (.slice (some ⟨g, 0, none⟩) (xs.length + 1) cap)) T (0, 0)) /\
    (∀ b, b < lo -> b ≠ d -> (w3.setCell ⟨d, k, none⟩ (.slice (some ⟨g, 0, none⟩) (xs.length + 1) cap)).heap[b]? = w1.heap[b]?) /\
    (∀ m, m <= d -> Below m w1 (w3.setCell ⟨d, k, none⟩ (.slice (some ⟨g, 0, none⟩) (xs.length + 1) cap))) /\
    w3.cell? ⟨d, k, none⟩ = some (.slice A xs.length c) /\ w3.frozen? ⟨d, k, none⟩ = false /\ w1.heap.size <= (w3.setCell ⟨d, k, none⟩ (.slice (some ⟨g, 0, none⟩) (xs.length + 1) cap)).heap.size := by
  obtain ⟨R3, old3, hs3⟩ := Row.more h hlo hwo hC1 hC4 hE hown hgrow hat;have hlow : ∀ b, (Value.slice A xs.length c).ownBlock = some b -> lo <= b := fun b e => (h.lt e).1
  have hd1 : d < w1.heap.size := (Array.getElem?_eq_some_iff.1 hbox).1;have B3 := (old3 d (fun e => by have := hlow d e; omega) hd1).trans hbox;have ot : ∀ b, b ≠ d -> (w3.setCell ⟨d, k, none⟩ (.slice (some ⟨g, 0, none⟩) (xs.length + 1) cap)).heap[b]? = w3.heap[b]? := fun b hb => Below.heap_setCell _ _ _ _ (by show b ≠ d; exact hb)
  have of : ∀ b, b < lo -> b ≠ d -> (w3.setCell ⟨d, k, none⟩ (.slice (some ⟨g, 0, none⟩) (xs.length + 1) cap)).heap[b]? = w1.heap[b]? := fun b hb hne => (ot b hne).trans (old3 b (fun e => by have := hlow b e; omega) (by omega))
  refine ⟨R3.keep (by simp) (fun b hb hlt => ot b (by omega)), Joins.block_setCell (i := k) B3 _, of, fun m hm => ?_, ?_, Lib.frozen_of_heap B3 k, by simp; omega⟩
  · have hgw := hgrow
    exact ⟨hgw.os.trans rfl, hgw.tape.trans rfl, hgw.output.trans rfl, by simp; omega, fun j hj => of j (by omega) (by omega)⟩
  · rw [cZ B3 k]; exact hk
structure J1 (W w : World) (r d lo : Nat) (A : Option Addr) (S : Toks) (cn : Nat) (F : Res Mo) (nm : ByteArray) (xs : List Im) (Ai : Option Addr) (ci i b : Nat) (wr : World) : Prop where
  kb : Below W.heap.size W wr
  box : Mx d nm Ai xs.length ci none 0 0 wr
  rows : Row imR lo xs Ai ci wr
  cur : Rm r A S.n cn i b wr
  fin : F = badR b i (restM S nm (impsR S (21 - xs.length) i xs))
  most : xs.length <= 20
  lole : lo <= wr.heap.size
structure J2 (W w : World) (r d lo l2 : Nat) (A : Option Addr) (S : Toks) (cn : Nat) (F : Res Mo) (nm : ByteArray) (l : List Im) (Ai : Option Addr) (ci : Nat) (xs : List De) (Ad : Option Addr) (cd i b : Nat) (wr : World) : Prop where
  kb : Below W.heap.size W wr
  box : Mx d nm Ai l.length ci Ad xs.length cd wr
  ims : RowIn imR (strike (fun b => b < lo \/ l2 <= b) wr) Ai l
  rows : Row deR l2 xs Ad cd wr
  cur : Rm r A S.n cn i b wr
  fin : F = badR b i (restD S nm l i xs)
  most : xs.length <= 60
  lole : l2 <= wr.heap.size
end Go.Proofs.YteecgiebimdbhaaGreatDoor
