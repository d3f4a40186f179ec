/-
  Several texts in one.
-/
import Derived.Test.YtddlmigofilejaaGreatDoorK17
set_option maxRecDepth 100000
set_option maxHeartbeats 4000000
namespace Go.Proofs.YtddlmigofilejaaGreatDoor
open Go.RowKit
open Go.Sort
open M
theorem impSize : (Tryz.prog.info? 57).map (·.size) = some 4 := by kernel_rfl
theorem impOne {a c d : ByteArray} {b : Int} : (#[.string a, .int .i64 b, .string c, .string d] : Array Value).all (·.oneCell') = true := Array.all_eq_true_iff_forall_mem.2 (fun v hv => by simp at hv; rcases hv with rfl | rfl | rfl | rfl <;> rfl)
theorem imp_info : (Tryz.prog.info? 57).map (fun i => (i.zero, i.size, i.bytes)) = some (some (.agg #[.string ⟨#[]⟩, .int .i64 0, .string ⟨#[]⟩, .string ⟨#[]⟩]), 4, 56) := by kernel_rfl
theorem cell4 {w : World} {b : Nat} {v0 v1 v2 v3 : Value} {T : TypeId} {fr : Nat × Nat} (h : w.heap[b]? = some (.cells #[v0, v1, v2, v3] T fr)) : ∀ i v, ([v0, v1, v2, v3] : List Value)[i]? = some v -> w.cell? ⟨b, i, none⟩ = some v := fun i v hv => by
  rw [cZ h, <- hv, <- List.getElem?_toArray]
theorem imp_chain {S : Toks} {i b : Nat} {s1 s3 s5 : ByteArray} {v : Int} {i1 b1 i2 b2 i3 b3 i5 b5 : Nat}
    (h1 : NameOut S (decide (i < S.n) && smallK (S.K i) (S.T i)) i b s1 i1 b1) (h2 : NumOut S i1 b1 v i2 b2) (h3 : NameOut S (decide (i2 < S.n) && smallK (S.K i2) (S.T i2)) i2 b2 s3 i3 b3)
    (h5 : NameOut S (decide (psI b3 (keyS S i3 kAs) i3 < S.n) && smallK (S.K (psI b3 (keyS S i3 kAs) i3)) (S.T (psI b3 (keyS S i3 kAs) i3))) (psI b3 (keyS S i3 kAs) i3) (psB b3 (keyS S i3 kAs)) s5 i5 b5) :
    badR b5 i5 (.ok (⟨s1, v, s3, s5⟩ : Im) i5 0) = badR b i (impR S i) := by
  have a := nameOut_res h5 (fun s i => Res.ok (⟨s1, v, s3, s⟩ : Im) i 0);rw [small_k] at a;have d := sign_res (keyS S i3 kAs) b3 i3 (fun j => if S.small j = false then Res.err 2 j else .ok (⟨s1, v, s3, S.T j⟩ : Im) (j + 1) 0);have e := nameOut_res h3 (fun s j => if keyS S j kAs = false then Res.err 2 j else if S.small (j + 1) = false then .err 2 (j + 1) else .ok (⟨s1, v, s, S.T (j + 1)⟩ : Im) (j + 1 + 1) 0);rw [small_k] at e;have f := numOut_res h2 (fun v j => if S.small j = false then Res.err 2 j else if keyS S (j + 1) kAs = false then Res.err 2 (j + 1) else if S.small (j + 1 + 1) = false then .err 2 (j + 1 + 1) else .ok (⟨s1, v, S.T j, S.T (j + 1 + 1)⟩ : Im) (j + 1 + 1 + 1) 0);have g := nameOut_res h1 (fun s j => if S.major j = false then Res.err 2 j else if S.small (j + 1) = false then Res.err 2 (j + 1) else if keyS S (j + 1 + 1) kAs = false then Res.err 2 (j + 1 + 1) else if S.small (j + 1 + 1 + 1) = false then .err 2 (j + 1 + 1 + 1) else .ok (⟨s, digs (S.T j).data.toList 0, S.T (j + 1), S.T (j + 1 + 1 + 1)⟩ : Im) (j + 1 + 1 + 1 + 1) 0);rw [small_k] at g;exact a.trans (d.trans (e.trans (f.trans g)))
def ImOut (w : World) (q : Nat) (A : Option Addr) (n cn : Nat) (R : Res Im) (e : Ending) (w' : World) : Prop :=
  ∃ (x : Im) (i' b' : Nat), e = .returned (.agg #[.string x.pkg, .int .i64 x.major, .string x.mod, .string x.asn]) /\ x.pkg.size <= 9223372036854775807 /\ x.mod.size <= 9223372036854775807 /\ x.asn.size <= 9223372036854775807 /\ Kp q w w' /\ CSt q A n cn i' b' w' /\ badR b' i' (.ok x i' 0) = R
theorem cimp_any {W : World} {q : Nat} {A : Option Addr} {S : Toks} {cn i b : Nat} {w : World} (hc : CdCtx W q A S w) (h : CSt q A S.n cn i b w) (he : CEnv W) :
    Calls Tryz.prog 73 #[.pointer (some ⟨q, 0, none⟩)] w (ImOut w q A S.n cn (badR b i (impR S i))) := by
  have hq := h.lt;obtain ⟨w0, hw0⟩ : ∃ w0, w0 = w.alloc (.cells #[.string ⟨#[]⟩, .int .i64 0, .string ⟨#[]⟩, .string ⟨#[]⟩] 57) := ⟨_, rfl⟩;have B0 : Below w.heap.size w w0 := by rw [hw0]; exact below_new (Below.refl _ _) _
  have s0 : w0.heap.size = w.heap.size + 1 := by rw [hw0]; simp
  have X0 : w0.heap[w.heap.size]? = some (.cells #[.string ⟨#[]⟩, .int .i64 0, .string ⟨#[]⟩, .string ⟨#[]⟩] 57 (0, 0)) := by rw [hw0]; exact heap_alloc_new w _
  have K0 := Kp.of_below (r := q) B0;have C0 := hc.on K0 hq;have WD := zH (cword_any C0 (h.below B0) _ _ asksSmall (by decide));have HC0 := zH C0;have HX0 := zH X0;have HK0 := zH K0;have HW0 := zH hw0;have HE := zH he;have hl0 : w.heap.size < w0.heap.size := by omega
  have hq0 : q < w0.heap.size := by omega
  clear hc h he hw0 B0 X0 K0 C0 s0;go_enter Tryz.func73, Tryz.ntmps73
  go_upto_region 1 with fail
  rw [<- HW0.out];go_wp2_with fail
  refine WD.out.mono ?_; rintro e w1 ⟨s1, i1, b1, rfl, z1, h1, k1, hN1⟩
  have C1 := HC0.out.on k1 hq0;have NM := zH (cmajor_any C1 h1 HE.out);have HC1 := zH C1;have HX1 := zH ((k1.blk hl0 (by omega)).trans HX0.out);have HK1 := zH (HK0.out.trans k1);have HN1 := zH hN1;have hl1 := Nat.lt_of_lt_of_le hl0 k1.size;have hq1 := Nat.lt_of_lt_of_le hq0 k1.size;clear h1 k1 C1 hN1 WD HC0 HX0 HK0;go_wp2_with fail
  refine NM.out.mono ?_; rintro e w2 ⟨v, i2, b2, rfl, h2, k2, hN2⟩
  have C2 := HC1.out.on k2 hq1;have WD := zH (cword_any C2 h2 _ _ asksSmall (by decide));have HC2 := zH C2;have HX2 := zH ((k2.blk hl1 (by omega)).trans HX1.out);have HK2 := zH (HK1.out.trans k2);have HN2 := zH hN2;have hl2 := Nat.lt_of_lt_of_le hl1 k2.size;have hq2 := Nat.lt_of_lt_of_le hq1 k2.size;clear h2 k2 C2 hN2 NM HC1 HX1 HK1;go_wp2_with fail
  refine WD.out.mono ?_; rintro e w3 ⟨s3, i3, b3, rfl, z3, h3, k3, hN3⟩
  have C3 := HC2.out.on k3 hq2;have KY := zH (ckey_any C3 h3 ⟨#[97, 115]⟩);have HC3 := zH C3;have HX3 := zH ((k3.blk hl2 (by omega)).trans HX2.out);have HK3 := zH (HK2.out.trans k3);have HN3 := zH hN3;have hl3 := Nat.lt_of_lt_of_le hl2 k3.size;have hq3 := Nat.lt_of_lt_of_le hq2 k3.size;clear h3 k3 C3 hN3 WD HC2 HX2 HK2;go_wp2_with fail
  refine KY.out.mono ?_; rintro e w4 ⟨rfl, h4, k4⟩
  have C4 := HC3.out.on k4 hq3;have WD := zH (cword_any C4 h4 _ _ asksSmall (by decide));have HX4 := zH ((k4.blk hl3 (by omega)).trans HX3.out);have HK4 := zH (HK3.out.trans k4);have hl4 := Nat.lt_of_lt_of_le hl3 k4.size;clear h4 k4 C4 KY HC3 HX3 HK3;go_wp2_with fail
  refine WD.out.mono ?_; rintro e w5 ⟨s5, i5, b5, rfl, z5, h5, k5, hN5⟩
  have X5 := (k5.blk hl4 (by omega)).trans HX4.out;have K5 := HK4.out.trans k5
  have SEAL : Hid (ImOut w q A S.n cn (badR b i (impR S i)) (.returned (.agg #[.string s1, .int .i64 v, .string s3, .string s5])) (w5.setRow w.heap.size #[.string s1, .int .i64 v, .string s3, .string s5])) := zH
    ⟨⟨s1, v, s3, s5⟩, i5, b5, rfl, by show s1.size <= _; omega, by show s3.size <= _; omega, by show s5.size <= _; omega,
      ⟨K5.os, K5.tape, K5.output, by have := K5.size; simpa using this, fun k hk hne => (setRow_other w5 w.heap.size k _ (by omega)).trans (K5.block k hk hne)⟩,
      h5.keep (setRow_other w5 w.heap.size q _ (by omega)) (fun g vs fr hg => setRow_other w5 w.heap.size g _ (two_types hg X5 (by decide))), imp_chain HN1.out HN2.out HN3.out hN5⟩
  have HX5 := zH X5;clear h5 k5 K5 hN5 WD HX4 HK4;go_wp2_with (first | ((with_reducible refine wpList_putRow 57 (w.heap.size) #[.string s1, .int .i64 v, .string s3, .string s5] _ _ X5 ?_ ?_ ?_ ?_ ?_ ?_); exact impSize; rfl; exact impOne; iterate 2 (focus (first | (go_simp; done) | rfl))))
  exact ret_agg1 (fn := Tryz.f73) (vs := [.string s1, .int .i64 v, .string s3, .string s5]) (b := w.heap.size) rfl rfl Tryz.underlying57 (by kernel_rfl) (cell4 (setRow_heap w5 w.heap.size _ _ _ _ HX5.out)) rfl SEAL.out
theorem impR_ok {S : Toks} {i j c : Nat} {x : Im} (h : impR S i = .ok x j c) : j = i + 5 := by
  unfold impR at h
  split at h
  · cases h
  split at h
  · cases h
  split at h
  · cases h
  split at h
  · cases h
  split at h
  · cases h
  · cases h; rfl
theorem imps_no {S : Toks} {b i n : Nat} {xs : List Im} (hn : xs.length <= 20 \/ b ≠ 0) (h : (decide (b = 0) && keyS S i kImport) = false) : badR b i (impsR S (21 - xs.length) i xs) = badR b i (.ok xs i 0) := by
  by_cases hb : b = 0
  · subst hb
    rw [badR_0, badR_0, show 21 - xs.length = (20 - xs.length) + 1 by omega];unfold impsR
    rw [if_pos (by simpa using h)]
  · rw [badR_ne _ _ hb, badR_ne _ _ hb]
theorem imps_yes {S : Toks} {i i5 b5 : Nat} {xs : List Im} {x : Im} (hn : xs.length <= 20) (hk : keyS S i kImport = true)
    (h : badR b5 i5 (.ok x i5 0) = badR (mustB 0 (decide ((xs.length : Int) < 20)) 3) (upI (mustB 0 (decide ((xs.length : Int) < 20)) 3) i) (impR S (upI (mustB 0 (decide ((xs.length : Int) < 20)) 3) i))) :
    impsR S (21 - xs.length) i xs = badR b5 i5 (impsR S (21 - (xs ++ [x]).length) i5 (xs ++ [x])) /\ (b5 = 0 -> xs.length < 20 /\ i < i5) := by
  rw [show 21 - xs.length = (20 - xs.length) + 1 by omega]
  have e0 : ∀ f, impsR S (f + 1) i xs = if keyS S i kImport = false then .ok xs i 0 else if 20 <= xs.length then .err 3 i else match impR S (i + 1) with
      | .err b j => .err b j
      | .ok x j _ => impsR S f j (xs ++ [x]) := fun f => rfl
  rw [e0, if_neg (by rw [hk]; decide)];have e1 : (xs ++ [x]).length = xs.length + 1 := by simp
  rw [e1, show 21 - (xs.length + 1) = 20 - xs.length by omega];by_cases hl : xs.length < 20
  · have hd : decide ((xs.length : Int) < 20) = true := by simp; omega
    rw [hd, mustB_yes, upI_0, badR_0] at h;rw [if_neg (by omega), <- h];by_cases hb : b5 = 0
    · subst hb
      have h6 := impR_ok h.symm;exact ⟨rfl, fun _ => ⟨hl, by omega⟩⟩
    · rw [badR_ne _ _ hb, badR_ne _ _ hb]
      exact ⟨rfl, fun e => absurd e hb⟩
  · have hd : decide ((xs.length : Int) < 20) = false := by simp; omega
    have h3 : (3 : Nat) ≠ 0 := by decide
    rw [hd, mustB_no, upI_ne _ h3, badR_ne _ _ h3] at h;rw [if_pos (by omega)];by_cases hb : b5 = 0
    · subst hb; cases h
    · rw [badR_ne _ _ hb] at h
      rw [badR_ne _ _ hb];refine ⟨?_, fun e => absurd e hb⟩;cases h
      rfl
structure IpI (w : World) (q : Nat) (A : Option Addr) (S : Toks) (cn : Nat) (F : Res (List Im)) (xs : List Im) (A3 : Option Addr) (c3 i b : Nat) (wr : World) : Prop where
  kp : Kp q w wr
  rows : Row imR w.heap.size xs A3 c3 wr
  cur : CSt q A S.n cn i b wr
  fin : F = badR b i (impsR S (21 - xs.length) i xs)
  some : xs.length <= 21
  most : b = 0 -> xs.length <= 20
def IpOut (w : World) (q : Nat) (A : Option Addr) (S : Toks) (cn : Nat) (F : Res (List Im)) (e : Ending) (w' : World) : Prop :=
  ∃ (xs : List Im) (A3 : Option Addr) (c3 i b : Nat), e = .returned (.slice A3 xs.length c3) /\ Kp q w w' /\ Row imR w.heap.size xs A3 c3 w' /\ CSt q A S.n cn i b w' /\ F = badR b i (.ok xs i 0) /\ xs.length <= 21
theorem cimps_any {W : World} {q : Nat} {A : Option Addr} {S : Toks} {cn i b : Nat} {w : World} (hc : CdCtx W q A S w) (h : CSt q A S.n cn i b w) (he : CEnv W) :
    Calls Tryz.prog 35 #[.pointer (some ⟨q, 0, none⟩)] w (IpOut w q A S cn (badR b i (impsR S 21 i []))) := by
  have hq := h.lt;have hbig := hc.big;obtain ⟨F, hF⟩ : ∃ F, badR b i (impsR S 21 i []) = F := ⟨_, rfl⟩;rw [hF];have INV : Hid (IpI w q A S cn F [] none 0 i b w) := zH ⟨Kp.refl _ _, Row.start _ _ _, h, hF.symm, by simp, fun _ => by simp⟩;have HC := zH hc;have HE := zH he;clear hF h hc he;go_enter Tryz.func35, Tryz.ntmps35
  go_wp2_with fail
  go_loopw [3] (fun m wr => ∃ (xs : List Im) (A3 : Option Addr) (c3 i b : Nat), m = .slice A3 xs.length c3 /\ Hid (IpI w q A S cn F xs A3 c3 i b wr)) (fun _ wr => cuM q S.n wr)
  case atStart => exact ⟨[], none, 0, i, b, rfl, INV⟩
  case round =>
    obtain ⟨xs, A3, c3, i, b, rfl, HI⟩ := hrel;obtain ⟨wo, rfl⟩ : ∃ wo : World, wo = wr := ⟨_, rfl⟩;have C0 := HC.out.on HI.out.kp hq;have AK := zH (catKey_any C0 HI.out.cur ⟨#[105, 109, 112, 111, 114, 116]⟩);have hso := HI.out.kp.size;clear C0;go_wp2_with fail
    refine AK.out.mono ?_; rintro e w1 ⟨rfl, hb1⟩
    obtain ⟨v, hv⟩ : ∃ v, (decide (b = 0) && keyS S i (ByteArray.mk #[105, 109, 112, 111, 114, 116]).data.toList) = v := ⟨_, rfl⟩;rw [hv];have HV : Hid ((decide (b = 0) && keyS S i kImport) = v) := zH hv;have hs1 := hb1.size;have K1 := HI.out.kp.trans (Kp.of_below (r := q) hb1);have ROW1 := HI.out.rows.keep hs1 (fun b' hb hlt => hb1.block b' hlt);have h1 := HI.out.cur.below hb1;clear hv AK;cases v with
    | false =>
      have OUT : Hid (IpOut w q A S cn F (.returned (.slice A3 xs.length c3)) w1) := zH ⟨xs, A3, c3, i, b, rfl, K1, ROW1, h1, (by rw [HI.out.fin]; exact imps_no (n := 0) (Classical.byCases (fun hb : b = 0 => .inl (HI.out.most hb)) (fun hb => .inr hb)) HV.out), HI.out.some⟩;clear h1 K1 ROW1 HI hb1;go_wp2_with fail
      go_ret;exact OUT.out
    | true =>
      have hbk : b = 0 /\ keyS S i kImport = true := by have := HV.out; simpa using this
      obtain ⟨hb0, hk⟩ := hbk;subst hb0;have hin := key_lt hk;have h20 := HI.out.most rfl;have MI := zH HI.out.cur.m;have HF : Hid (F = impsR S (21 - xs.length) i xs) := zH (by rw [HI.out.fin, badR_0]);have hn63 : ¬ ((xs.length : Int) > 9223372036854775807) := by omega
      have MU := zH (must_any h1 (decide ((xs.length : Int) < 20)) 3 (by decide));have HK1 := zH K1;have HR1 := zH ROW1;have YES : Hid (∀ i5 b5 x, badR b5 i5 (.ok x i5 0) = badR (mustB 0 (decide ((xs.length : Int) < 20)) 3) (upI (mustB 0 (decide ((xs.length : Int) < 20)) 3) i) (impR S (upI (mustB 0 (decide ((xs.length : Int) < 20)) 3) i)) -> _) := zH (fun i5 b5 x h => imps_yes (x := x) h20 hk h);obtain ⟨u, hu⟩ : ∃ u, decide ((xs.length : Int) < 20) = u := ⟨_, rfl⟩;rw [hu] at YES MU;clear h1 K1 ROW1 HI hb1 hk;go_wp2_with fail
      refine MU.out.mono ?_; rintro e w2 ⟨rfl, h2, k2⟩
      have PS := zH (cpass_any h2 (fun _ => hin) hbig);have hs2 := k2.size;have HK2 := zH (HK1.out.trans k2);have HR2 := zH (HR1.out.keep hs2 (fun b' hb hlt => k2.blk hlt (by omega)));clear h2 k2 MU hu HK1 HR1;go_wp2_with fail
      refine PS.out.mono ?_; rintro e w3 ⟨rfl, h3, k3⟩
      have hs3 := k3.size;have HK3 := zH (HK2.out.trans k3);have HR3 := zH (HR2.out.keep hs3 (fun b' hb hlt => k3.blk hlt (by omega)));have RE := zH (cimp_any (HC.out.on HK3.out hq) h3 HE.out);clear h3 k3 PS HK2 HR2;go_wp2_with fail
      refine RE.out.mono ?_; rintro e w4 ⟨x, i4, b4, rfl, z1, z2, z3, k4, h4, hres⟩
      have hs4 := k4.size;have ROW4 := HR3.out.keep hs4 (fun b' hb hlt => k4.blk hlt (by omega));have K4 := HK3.out.trans k4;obtain ⟨C, hC1, hown, hC4⟩ := ROW4.cells;obtain ⟨inf, hi1', hy0, hy1, hy2⟩ := info_parts imp_info;have hMX : xs.length + 1 <= maxLen := by unfold maxLen; omega
      have hwo : ∀ b, (Value.slice A3 xs.length c3).ownBlock = some b -> b < w3.heap.size := fun b e => (HR3.out.lt e).2
      have hlow : ∀ b, (Value.slice A3 xs.length c3).ownBlock = some b -> w.heap.size <= b := fun b e => (HR3.out.lt e).1
      have hAL : w.heap.size <= (w4.alloc (.cells #[.string x.pkg, .int .i64 x.major, .string x.mod, .string x.asn] 57)).heap.size := by have e1 : (w4.alloc (.cells #[.string x.pkg, .int .i64 x.major, .string x.mod, .string x.asn] 57)).heap.size = w4.heap.size + 1 := (by simp); omega
      have hNW : ∀ j u, ([.string x.pkg, .int .i64 x.major, .string x.mod, .string x.asn] : List Value)[j]? = some u -> (w4.alloc (.cells #[.string x.pkg, .int .i64 x.major, .string x.mod, .string x.asn] 57)).cell? ((⟨w4.heap.size, 0, none⟩ : Addr).add j) = some u := fun q u hq => by rw [WideShapes.add_plain, Nat.zero_add, cZ (heap_alloc_new w4 _), <- hq, <- List.getElem?_toArray]
      go_wp2_with (first | (refine wpList_append_lies _ rfl (.tmp 13) (.tmp 16) 23 rfl w.heap.size 57 inf _ 4 56 Tryz.underlying23 hi1' hy0 hy1 hy2 (by rfl) (Nat.zero_lt_succ 3) (.slice A3 xs.length c3) xs.length _ rfl (hown.alloc _) ⟨w4.heap.size, 0, none⟩ 1 1 [.string x.pkg, .int .i64 x.major, .string x.mod, .string x.asn] rfl rfl hNW (fun u hu => by simp at hu; rcases hu with rfl | rfl | rfl | rfl <;> rfl) Nat.one_pos hMX (by omega) hAL _ rfl ?_; intro gb cap w5 hown5 hgrow hat hlt5))
      obtain ⟨ROW5, old5, hs5⟩ := Row.more ROW4 (B := w3.heap.size) (by omega) hwo hC1 hC4 (x := x) ⟨rfl, z1, z2, z3⟩ hown5 hgrow hat;have K5 : Kp q w w5 := (K4.alloc _).grow hgrow hlow;obtain ⟨hF5, hlim⟩ := YES.out i4 b4 x hres
      have h5 : CSt q A S.n cn i4 b4 w5 := h4.keep (old5 q (fun e => by have := hlow q e; omega) h4.lt) (fun g vs fr hg => old5 g (fun e => by
        rcases hown.2 with ⟨e1, -⟩ | ⟨g6, cap6, cur6, hv, -, hg6, -⟩
        · rw [e1] at e; simp [Value.ownBlock] at e
        · rw [hv] at e; simp [Value.ownBlock] at e
          subst e;exact two_types hg hg6 (by decide) rfl) (Array.getElem?_eq_some_iff.1 hg).1)
      have INV5 : Hid (IpI w q A S cn F (xs ++ [x]) (some ⟨gb, 0, none⟩) cap i4 b4 w5) := zH
        ⟨K5, ROW5, h5, by rw [HF.out]; exact hF5, by simp; omega, fun e => by have := (hlim e).1; simp; omega⟩
      have MEAS : Hid (cuM q S.n w5 < cuM q S.n wo) := zH (by
        rw [MI.out, h5.m];simp only [if_true];split
        · rename_i e
          have := hlim e
          omega
        · omega)
      have hlen : (xs ++ [x]).length = xs.length + 1 := by simp
      clear k4 h4 hres ROW4 K4 hC1 hown hC4 hi1' hy0 hy1 hy2 hNW hown5 hgrow hat hlt5 ROW5 K5 old5 hs5 h5 hlim hF5 RE HR3 HK3 hwo hlow hAL;go_wp2_with fail
      go_roundw
      case rel => exact ⟨xs ++ [x], some ⟨gb, 0, none⟩, cap, i4, b4, by rw [hlen], INV5⟩
      case measure => exact MEAS.out
theorem name_sign_le {S : Toks} {b1 i5 i6 b6 : Nat} {s : ByteArray} {p : Int -> ByteArray -> Bool} {l : List UInt8} (_ : b1 = 0 -> i5 <= S.n) (h : NameOut S (decide (i5 < S.n) && p (S.K i5) (S.T i5)) i5 b1 s i6 b6) (e : psB b6 (S.sign i6 l) = 0) : psI b6 (S.sign i6 l) i6 <= S.n := by
  have h6 := psB_0 e;subst h6;cases hs : S.sign i6 l with
  | true => have := sign_lt hs; rw [psI_yes]; omega
  | false => rw [hs] at e; cases e
def restD (S : Toks) (s : ByteArray) (l : List Im) (i : Nat) (xs : List De) : Res Mo :=
  match decsR S (61 - xs.length) i xs with
  | .err b i => .err b i
  | .ok ds i _ => .ok ⟨s, l, ds⟩ i 0
def Mx (d : Nat) (nm : ByteArray) (Ai : Option Addr) (ni ci : Nat) (Ad : Option Addr) (nd cd : Nat) (w : World) : Prop := w.heap[d]? = some (.cells #[.string nm, .slice Ai ni ci, .slice Ad nd cd] 113 (0, 0))
structure MpI (w : World) (q : Nat) (A : Option Addr) (S : Toks) (cn : Nat) (F : Res Mo) (d lo B6 : Nat) (nm : ByteArray) (l : List Im) (Ai : Option Addr) (ci : Nat) (xs : List De) (Ad : Option Addr) (cd i b : Nat) (wr : World) : Prop where
  kp : Kp q w wr
  box : Mx d nm Ai l.length ci Ad xs.length cd wr
  res : wr.heap[w.heap.size]? = some (.cells #[.string ⟨#[]⟩, .slice none 0 0, .slice none 0 0] 113 (0, 0))
  ims : RowIn imR (strike (fun b => b < B6 \/ lo <= b) wr) Ai l
  rows : Row deR lo xs Ad cd wr
  cur : CSt q A S.n cn i b wr
  fin : F = badR b i (restD S nm l i xs)
  most : b = 0 -> xs.length <= 60
  some : xs.length <= 61
  lole : lo <= wr.heap.size
theorem tkS_big {ts : List Tok} (h : ts.length <= 20000) : (tkS ts).n <= 9223372036854775806 := by show ts.length <= _; omega
def Rm (r : Nat) (A : Option Addr) (n cn : Nat) (i b : Nat) (w : World) : Prop := w.heap[r]? = some (.cells #[.slice A n cn, .int .i64 i, .int .i64 b] 66 (0, 0))
theorem Rm.lt {r : Nat} {A : Option Addr} {n cn i b : Nat} {w : World} (h : Rm r A n cn i b w) : r < w.heap.size := (Array.getElem?_eq_some_iff.1 h).1
theorem Rm.on {r : Nat} {A : Option Addr} {n cn i b : Nat} {w w' : World} (h : Rm r A n cn i b w) (hb : Below w.heap.size w w') : Rm r A n cn i b w' := (hb.block r h.lt).trans h
theorem Rm.c0 {r : Nat} {A : Option Addr} {n cn i b : Nat} {w : World} (h : Rm r A n cn i b w) : w.cell? ⟨r, 0, none⟩ = some (.slice A n cn) := cZ h 0
theorem Rm.c1 {r : Nat} {A : Option Addr} {n cn i b : Nat} {w : World} (h : Rm r A n cn i b w) : w.cell? ⟨r, 1, none⟩ = some (.int .i64 i) := cZ h 1
theorem Rm.c2 {r : Nat} {A : Option Addr} {n cn i b : Nat} {w : World} (h : Rm r A n cn i b w) : w.cell? ⟨r, 2, none⟩ = some (.int .i64 b) := cZ h 2
theorem Rm.f {r : Nat} {A : Option Addr} {n cn i b : Nat} {w : World} (h : Rm r A n cn i b w) (j : Nat) : w.frozen? ⟨r, j, none⟩ = false := Lib.frozen_of_heap h j
theorem Rm.at {r : Nat} {A : Option Addr} {n cn i b : Nat} {w : World} (h : Rm r A n cn i b w) (j : Nat) : Rm r A n cn j b (w.setCell ⟨r, 1, none⟩ (.int .i64 j)) := by
 have := Joins.block_setCell (i := 1) h (.int .i64 j); unfold Rm; simpa using this
theorem Rm.bad {r : Nat} {A : Option Addr} {n cn i b : Nat} {w : World} (h : Rm r A n cn i b w) (j : Nat) : Rm r A n cn i j (w.setCell ⟨r, 2, none⟩ (.int .i64 j)) := by
 have := Joins.block_setCell (i := 2) h (.int .i64 j); unfold Rm; simpa using this
def okW (S : Toks) (i : Nat) (kd : Int) (q : ByteArray -> Bool) : Bool := decide (i < S.n) && ((S.K i == kd) && q (S.T i))
def RwOut (w : World) (r : Nat) (A : Option Addr) (S : Toks) (cn i b : Nat) (ok : Bool) (e : Ending) (w' : World) : Prop :=
 ∃ s i' b', e = .returned (.string s) /\ s.size <= 9223372036854775807 /\ Rm r A S.n cn i' b' w' /\ Kp r w w' /\ NameOut S ok i b s i' b'
theorem rwK_any {W : World} {r : Nat} {A : Option Addr} {S : Toks} {cn i b : Nat} {w : World} (hc : RdCtx W r A S w) (h : Rm r A S.n cn i b w) (kd : Int) (t : ByteArray) :
  Calls Tryz.prog 21 #[.pointer (some ⟨r, 0, none⟩), .int .i64 kd, .int .i64 0, .string t] w (RwOut w r A S cn i b (okW S i kd (fun s => (s.data.toList == t.data.toList)))) := by
 have hbig := hc.big
 have c0 := h.c0
 have c1 := h.c1
 have c2 := h.c2
 have HR := zH h
 by_cases hb : b = 0
 rotate_left
 ·have b1 : (((b : Nat) : Int) == 0) = false := by simp; omega
  have b2 : (((b : Nat) : Int) != 0) = true := by simp; omega
  have OUT : Hid (RwOut w r A S cn i b (okW S i kd (fun s => (s.data.toList == t.data.toList))) (.returned (.string ⟨#[]⟩)) w) := zH ⟨⟨#[]⟩, i, b, rfl, by decide, h, Kp.refl _ _, .inr (.inr ⟨hb, rfl, rfl⟩)⟩;clear hb hc h;as_aux_lemma =>
  go_enter Tryz.func21, Tryz.ntmps21
  go_wp2_with fail
  go_ret;exact OUT.out
 subst hb
 simp at c2
 have f2 := h.f 2
 have NO : okW S i kd (fun s => (s.data.toList == t.data.toList)) = false -> Hid (∀ w1, Below w.heap.size w w1 -> RwOut w r A S cn i 0 (okW S i kd (fun s => (s.data.toList == t.data.toList))) (.returned (.string ⟨#[]⟩)) (w1.setCell ⟨r, 2, none⟩ (.int .i64 2))) := fun e => zH (fun w1 hb =>
  ⟨⟨#[]⟩, i, 2, rfl, by decide, (h.on hb).bad 2, ((Kp.of_below hb)).put 2 _, .inr (.inl ⟨rfl, e, rfl, rfl⟩)⟩)
 by_cases hlt : i < S.n
 rotate_left
 ·have R := NO (by unfold okW; simp [hlt])
  have hle : S.n <= i := by omega
  clear NO hc h;as_aux_lemma =>
  go_enter Tryz.func21, Tryz.ntmps21
  go_wp2_with fail
  go_quiet (fail)
  go_wp2_with fail
  go_ret;exact R.out _ (below_drewN (Below.refl _ _) _)
 obtain ⟨g, o, y, rfl, hg, k0w, k1w, k2w, hz⟩ := hc.toks i hlt
 have hgr : g < r := Nat.lt_of_lt_of_le hg hc.le
 have hrw := h.lt
 have k0 : w.cell? ⟨g, o + i * 3, none⟩ = some (.int .i64 (S.K i)) := (hc.below.cell (p := ⟨g, _, none⟩) hg).trans k0w
 have k2 : w.cell? ⟨g, o + i * 3 + 2, none⟩ = some (.string (S.T i)) := (hc.below.cell (p := ⟨g, _, none⟩) hg).trans k2w
 clear k0w k1w k2w
 rcases hid_or (S.K i == kd) with hk | hk
 ·have R := NO (by unfold okW; rw [hk.out]; simp)
  have hk1 := hk.out;clear NO hc h;as_aux_lemma =>
  go_enter Tryz.func21, Tryz.ntmps21
  go_wp2_with fail
  go_quiet (fail)
  go_wp2_with fail
  go_ret;exact R.out _ (below_drewN (Below.refl _ _) _)
 have hk1 := hk.out
 have SM := zH (fun w => refSmall_any (S.T i) w hz)
 have GT := zH (fun w => refGreat_any (S.T i) w hz)
 have HK2 := zH k2
 have HQ : ∀ v, ((S.T i).data.toList == t.data.toList) = v -> Hid (((S.T i).toList == t.toList) = v) := fun v e => zH (by rw [Lib.toList_data, Lib.toList_data]; exact e)
 have OKV : Hid (∀ v, ((S.T i).data.toList == t.data.toList) = v -> okW S i kd (fun s => (s.data.toList == t.data.toList)) = v) := zH (fun v e => by unfold okW; rw [hk1, decide_eq_true hlt]; simp only [Bool.true_and]; exact e)
 clear hc h
 rcases hid_or (((S.T i).data.toList == t.data.toList)) with hq | hq
 ·have hq1 := (HQ _ hq.out).out
  have R := NO (OKV.out _ hq.out);clear NO HQ OKV;as_aux_lemma =>
  go_enter Tryz.func21, Tryz.ntmps21
  go_wp2_with fail
  go_quiet (fail)
  generalize nq = n0
  go_wp2_with fail
  go_quiet (fail)
  go_wp2_with fail
  obtain ⟨w1, hw1⟩ : ∃ w1, w1 = w.drewN (n0 + nq) := ⟨_, rfl⟩;rw [<- hw1];have hb1 : Below w.heap.size w w1 := by rw [hw1]; exact below_drewN (Below.refl _ _) _
  clear hw1 c0 c1 c2 k0 k2 f2;refine (SM.out w1).mono ?_; rintro e w2 ⟨rfl, hb2⟩
  go_wp2_with fail
  refine (GT.out w2).mono ?_; rintro e w3 ⟨rfl, rfl⟩
  have B3 := below_over hb1 hb2;have OUT := zH (R.out _ B3);have H3 := HR.out.on B3;have f2 := H3.f 2;have c2 := H3.c2;simp at c2;clear hb1 hb2 B3 H3;go_wp2_with fail
  go_ret;exact OUT.out
 ·have hq1 := (HQ _ hq.out).out
  have OK := zH (OKV.out _ hq.out);clear NO HQ OKV;go_enter Tryz.func21, Tryz.ntmps21
  go_wp2_with fail
  go_quiet (fail)
  generalize nq = n0
  go_wp2_with fail
  go_quiet (fail)
  go_wp2_with fail
  obtain ⟨w1, hw1⟩ : ∃ w1, w1 = w.drewN (n0 + nq) := ⟨_, rfl⟩;rw [<- hw1];have hb1 : Below w.heap.size w w1 := by rw [hw1]; exact below_drewN (Below.refl _ _) _
  clear hw1 c0 c1 c2 k0 k2 f2;refine (SM.out w1).mono ?_; rintro e w2 ⟨rfl, hb2⟩
  go_wp2_with fail
  refine (GT.out w2).mono ?_; rintro e w3 ⟨rfl, rfl⟩
  have B3 := below_over hb1 hb2;have H3 := HR.out.on B3;obtain ⟨w4, hw4⟩ : ∃ w4, w4 = w2.setCell ⟨r, 1, none⟩ (.int .i64 ((i : Int) + 1)) := ⟨_, rfl⟩;have H4 : Rm r (some ⟨g, o, none⟩) S.n cn (i + 1) 0 w4 := by rw [hw4]; have := H3.at (i + 1); simpa using this
  have K4 : Kp r w w4 := by rw [hw4]; exact (Kp.of_below B3).put 1 _
  have q2 : w4.cell? ⟨g, o + i * 3 + 2, none⟩ = some (.string (S.T i)) := by
   have hgw : g < w.heap.size := Nat.lt_trans hgr hrw;rw [hw4, World.cell?_setCell_other _ _ _ _ (fun e => by simp only [Addr.mk.injEq] at e; omega)];exact (B3.cell (p := ⟨g, _, none⟩) hgw).trans HK2.out
  have d0 := H4.c0;have d1 : w4.cell? ⟨r, 1, none⟩ = some (.int .i64 ((i : Int) + 1)) := by have := H4.c1; simpa using this
  have c1 := H3.c1;have f1 := H3.f 1;have HW4 := zH hw4;have HH4 := zH H4;have HK4 := zH K4;clear hb1 hb2 B3 H3 hw4 H4 K4;go_upto_region 13 with fail
  rw [<- HW4.out];clear c1 f1;go_quiet (fail)
  obtain ⟨w5, hw5⟩ : ∃ w5, w5 = w4.drewN nq := ⟨_, rfl⟩;go_wp2_with fail
  go_ret;have hb5 : Below w4.heap.size w4 w5 := by rw [hw5]; exact below_drewN (Below.refl _ _) _
  rw [<- hw5];exact ⟨S.T i, i + 1, 0, rfl, hz, HH4.out.on hb5, HK4.out.trans (Kp.of_below hb5), .inl ⟨rfl, OK.out, rfl, rfl, rfl⟩⟩
theorem rwS_any {W : World} {r : Nat} {A : Option Addr} {S : Toks} {cn i b : Nat} {w : World} (hc : RdCtx W r A S w) (h : Rm r A S.n cn i b w) (kd : Int) :
  Calls Tryz.prog 21 #[.pointer (some ⟨r, 0, none⟩), .int .i64 kd, .int .i64 1, .string ⟨#[]⟩] w (RwOut w r A S cn i b (okW S i kd (fun s => smallB s.data.toList))) := by
 have hbig := hc.big
 have c0 := h.c0
 have c1 := h.c1
 have c2 := h.c2
 have HR := zH h
 by_cases hb : b = 0
 rotate_left
 ·have b1 : (((b : Nat) : Int) == 0) = false := by simp; omega
  have b2 : (((b : Nat) : Int) != 0) = true := by simp; omega
  have OUT : Hid (RwOut w r A S cn i b (okW S i kd (fun s => smallB s.data.toList)) (.returned (.string ⟨#[]⟩)) w) := zH ⟨⟨#[]⟩, i, b, rfl, by decide, h, Kp.refl _ _, .inr (.inr ⟨hb, rfl, rfl⟩)⟩;clear hb hc h;as_aux_lemma =>
  go_enter Tryz.func21, Tryz.ntmps21
  go_wp2_with fail
  go_ret;exact OUT.out
 subst hb
 simp at c2
 have f2 := h.f 2
 have NO : okW S i kd (fun s => smallB s.data.toList) = false -> Hid (∀ w1, Below w.heap.size w w1 -> RwOut w r A S cn i 0 (okW S i kd (fun s => smallB s.data.toList)) (.returned (.string ⟨#[]⟩)) (w1.setCell ⟨r, 2, none⟩ (.int .i64 2))) := fun e => zH (fun w1 hb =>
  ⟨⟨#[]⟩, i, 2, rfl, by decide, (h.on hb).bad 2, ((Kp.of_below hb)).put 2 _, .inr (.inl ⟨rfl, e, rfl, rfl⟩)⟩)
 by_cases hlt : i < S.n
 rotate_left
 ·have R := NO (by unfold okW; simp [hlt])
  have hle : S.n <= i := by omega
  clear NO hc h;as_aux_lemma =>
  go_enter Tryz.func21, Tryz.ntmps21
  go_wp2_with fail
  go_quiet (fail)
  go_wp2_with fail
  go_ret;exact R.out _ (below_drewN (Below.refl _ _) _)
 obtain ⟨g, o, y, rfl, hg, k0w, k1w, k2w, hz⟩ := hc.toks i hlt
 have hgr : g < r := Nat.lt_of_lt_of_le hg hc.le
 have hrw := h.lt
 have k0 : w.cell? ⟨g, o + i * 3, none⟩ = some (.int .i64 (S.K i)) := (hc.below.cell (p := ⟨g, _, none⟩) hg).trans k0w
 have k2 : w.cell? ⟨g, o + i * 3 + 2, none⟩ = some (.string (S.T i)) := (hc.below.cell (p := ⟨g, _, none⟩) hg).trans k2w
 clear k0w k1w k2w
 rcases hid_or (S.K i == kd) with hk | hk
 ·have R := NO (by unfold okW; rw [hk.out]; simp)
  have hk1 := hk.out;clear NO hc h;as_aux_lemma =>
  go_enter Tryz.func21, Tryz.ntmps21
  go_wp2_with fail
  go_quiet (fail)
  go_wp2_with fail
  go_ret;exact R.out _ (below_drewN (Below.refl _ _) _)
 have hk1 := hk.out
 have SM := zH (fun w => refSmall_any (S.T i) w hz)
 have GT := zH (fun w => refGreat_any (S.T i) w hz)
 have HK2 := zH k2
 have HQ : ∀ v, smallB (S.T i).data.toList = v -> Hid (smallB (S.T i).data.toList = v) := fun v e => zH (by exact e)
 have OKV : Hid (∀ v, smallB (S.T i).data.toList = v -> okW S i kd (fun s => smallB s.data.toList) = v) := zH (fun v e => by unfold okW; rw [hk1, decide_eq_true hlt]; simp only [Bool.true_and]; exact e)
 clear hc h
 rcases hid_or (smallB (S.T i).data.toList) with hq | hq
 ·have hq1 := (HQ _ hq.out).out
  have R := NO (OKV.out _ hq.out);clear NO HQ OKV;as_aux_lemma =>
  go_enter Tryz.func21, Tryz.ntmps21
  go_wp2_with fail
  go_quiet (fail)
  generalize nq = n0
  go_wp2_with fail
  go_quiet (fail)
  go_wp2_with fail
  obtain ⟨w1, hw1⟩ : ∃ w1, w1 = w.drewN (n0 + nq) := ⟨_, rfl⟩;rw [<- hw1];have hb1 : Below w.heap.size w w1 := by rw [hw1]; exact below_drewN (Below.refl _ _) _
  clear hw1 c0 c1 c2 k0 k2 f2;refine (SM.out w1).mono ?_; rintro e w2 ⟨rfl, hb2⟩
  go_wp2_with fail
  refine (GT.out w2).mono ?_; rintro e w3 ⟨rfl, rfl⟩
  have B3 := below_over hb1 hb2;have OUT := zH (R.out _ B3);have H3 := HR.out.on B3;have f2 := H3.f 2;have c2 := H3.c2;simp at c2;clear hb1 hb2 B3 H3;go_wp2_with fail
  go_ret;exact OUT.out
 ·have hq1 := (HQ _ hq.out).out
  have OK := zH (OKV.out _ hq.out);clear NO HQ OKV;go_enter Tryz.func21, Tryz.ntmps21
  go_wp2_with fail
  go_quiet (fail)
  generalize nq = n0
  go_wp2_with fail
  go_quiet (fail)
  go_wp2_with fail
  obtain ⟨w1, hw1⟩ : ∃ w1, w1 = w.drewN (n0 + nq) := ⟨_, rfl⟩;rw [<- hw1];have hb1 : Below w.heap.size w w1 := by rw [hw1]; exact below_drewN (Below.refl _ _) _
  clear hw1 c0 c1 c2 k0 k2 f2;refine (SM.out w1).mono ?_; rintro e w2 ⟨rfl, hb2⟩
  go_wp2_with fail
  refine (GT.out w2).mono ?_; rintro e w3 ⟨rfl, rfl⟩
  have B3 := below_over hb1 hb2;have H3 := HR.out.on B3;obtain ⟨w4, hw4⟩ : ∃ w4, w4 = w2.setCell ⟨r, 1, none⟩ (.int .i64 ((i : Int) + 1)) := ⟨_, rfl⟩;have H4 : Rm r (some ⟨g, o, none⟩) S.n cn (i + 1) 0 w4 := by rw [hw4]; have := H3.at (i + 1); simpa using this
  have K4 : Kp r w w4 := by rw [hw4]; exact (Kp.of_below B3).put 1 _
  have q2 : w4.cell? ⟨g, o + i * 3 + 2, none⟩ = some (.string (S.T i)) := by
   have hgw : g < w.heap.size := Nat.lt_trans hgr hrw;rw [hw4, World.cell?_setCell_other _ _ _ _ (fun e => by simp only [Addr.mk.injEq] at e; omega)];exact (B3.cell (p := ⟨g, _, none⟩) hgw).trans HK2.out
  have d0 := H4.c0;have d1 : w4.cell? ⟨r, 1, none⟩ = some (.int .i64 ((i : Int) + 1)) := by have := H4.c1; simpa using this
  have c1 := H3.c1;have f1 := H3.f 1;have HW4 := zH hw4;have HH4 := zH H4;have HK4 := zH K4;clear hb1 hb2 B3 H3 hw4 H4 K4;go_upto_region 13 with fail
  rw [<- HW4.out];clear c1 f1;go_quiet (fail)
  obtain ⟨w5, hw5⟩ : ∃ w5, w5 = w4.drewN nq := ⟨_, rfl⟩;go_wp2_with fail
  go_ret;have hb5 : Below w4.heap.size w4 w5 := by rw [hw5]; exact below_drewN (Below.refl _ _) _
  rw [<- hw5];exact ⟨S.T i, i + 1, 0, rfl, hz, HH4.out.on hb5, HK4.out.trans (Kp.of_below hb5), .inl ⟨rfl, OK.out, rfl, rfl, rfl⟩⟩
theorem rwG_any {W : World} {r : Nat} {A : Option Addr} {S : Toks} {cn i b : Nat} {w : World} (hc : RdCtx W r A S w) (h : Rm r A S.n cn i b w) (kd : Int) :
  Calls Tryz.prog 21 #[.pointer (some ⟨r, 0, none⟩), .int .i64 kd, .int .i64 2, .string ⟨#[]⟩] w (RwOut w r A S cn i b (okW S i kd (fun s => greatB s.data.toList))) := by
 have hbig := hc.big
 have c0 := h.c0
 have c1 := h.c1
 have c2 := h.c2
 have HR := zH h
 by_cases hb : b = 0
 rotate_left
 ·have b1 : (((b : Nat) : Int) == 0) = false := by simp; omega
  have b2 : (((b : Nat) : Int) != 0) = true := by simp; omega
  have OUT : Hid (RwOut w r A S cn i b (okW S i kd (fun s => greatB s.data.toList)) (.returned (.string ⟨#[]⟩)) w) := zH ⟨⟨#[]⟩, i, b, rfl, by decide, h, Kp.refl _ _, .inr (.inr ⟨hb, rfl, rfl⟩)⟩;clear hb hc h;as_aux_lemma =>
  go_enter Tryz.func21, Tryz.ntmps21
  go_wp2_with fail
  go_ret;exact OUT.out
 subst hb
 simp at c2
 have f2 := h.f 2
 have NO : okW S i kd (fun s => greatB s.data.toList) = false -> Hid (∀ w1, Below w.heap.size w w1 -> RwOut w r A S cn i 0 (okW S i kd (fun s => greatB s.data.toList)) (.returned (.string ⟨#[]⟩)) (w1.setCell ⟨r, 2, none⟩ (.int .i64 2))) := fun e => zH (fun w1 hb =>
  ⟨⟨#[]⟩, i, 2, rfl, by decide, (h.on hb).bad 2, ((Kp.of_below hb)).put 2 _, .inr (.inl ⟨rfl, e, rfl, rfl⟩)⟩)
 by_cases hlt : i < S.n
 rotate_left
 ·have R := NO (by unfold okW; simp [hlt])
  have hle : S.n <= i := by omega
  clear NO hc h;as_aux_lemma =>
  go_enter Tryz.func21, Tryz.ntmps21
  go_wp2_with fail
  go_quiet (fail)
  go_wp2_with fail
  go_ret;exact R.out _ (below_drewN (Below.refl _ _) _)
 obtain ⟨g, o, y, rfl, hg, k0w, k1w, k2w, hz⟩ := hc.toks i hlt
 have hgr : g < r := Nat.lt_of_lt_of_le hg hc.le
 have hrw := h.lt
 have k0 : w.cell? ⟨g, o + i * 3, none⟩ = some (.int .i64 (S.K i)) := (hc.below.cell (p := ⟨g, _, none⟩) hg).trans k0w
 have k2 : w.cell? ⟨g, o + i * 3 + 2, none⟩ = some (.string (S.T i)) := (hc.below.cell (p := ⟨g, _, none⟩) hg).trans k2w
 clear k0w k1w k2w
 rcases hid_or (S.K i == kd) with hk | hk
 ·have R := NO (by unfold okW; rw [hk.out]; simp)
  have hk1 := hk.out;clear NO hc h;as_aux_lemma =>
  go_enter Tryz.func21, Tryz.ntmps21
  go_wp2_with fail
  go_quiet (fail)
  go_wp2_with fail
  go_ret;exact R.out _ (below_drewN (Below.refl _ _) _)
 have hk1 := hk.out
 have SM := zH (fun w => refSmall_any (S.T i) w hz)
 have GT := zH (fun w => refGreat_any (S.T i) w hz)
 have HK2 := zH k2
 have HQ : ∀ v, greatB (S.T i).data.toList = v -> Hid (greatB (S.T i).data.toList = v) := fun v e => zH (by exact e)
 have OKV : Hid (∀ v, greatB (S.T i).data.toList = v -> okW S i kd (fun s => greatB s.data.toList) = v) := zH (fun v e => by unfold okW; rw [hk1, decide_eq_true hlt]; simp only [Bool.true_and]; exact e)
 clear hc h
 rcases hid_or (greatB (S.T i).data.toList) with hq | hq
 ·have hq1 := (HQ _ hq.out).out
  have R := NO (OKV.out _ hq.out);clear NO HQ OKV;as_aux_lemma =>
  go_enter Tryz.func21, Tryz.ntmps21
  go_wp2_with fail
  go_quiet (fail)
  generalize nq = n0
  go_wp2_with fail
  go_quiet (fail)
  go_wp2_with fail
  obtain ⟨w1, hw1⟩ : ∃ w1, w1 = w.drewN (n0 + nq) := ⟨_, rfl⟩;rw [<- hw1];have hb1 : Below w.heap.size w w1 := by rw [hw1]; exact below_drewN (Below.refl _ _) _
  clear hw1 c0 c1 c2 k0 k2 f2;refine (SM.out w1).mono ?_; rintro e w2 ⟨rfl, hb2⟩
  go_wp2_with fail
  refine (GT.out w2).mono ?_; rintro e w3 ⟨rfl, rfl⟩
  have B3 := below_over hb1 hb2;have OUT := zH (R.out _ B3);have H3 := HR.out.on B3;have f2 := H3.f 2;have c2 := H3.c2;simp at c2;clear hb1 hb2 B3 H3;go_wp2_with fail
  go_ret;exact OUT.out
 ·have hq1 := (HQ _ hq.out).out
  have OK := zH (OKV.out _ hq.out);clear NO HQ OKV;go_enter Tryz.func21, Tryz.ntmps21
  go_wp2_with fail
  go_quiet (fail)
  generalize nq = n0
  go_wp2_with fail
  go_quiet (fail)
  go_wp2_with fail
  obtain ⟨w1, hw1⟩ : ∃ w1, w1 = w.drewN (n0 + nq) := ⟨_, rfl⟩;rw [<- hw1];have hb1 : Below w.heap.size w w1 := by rw [hw1]; exact below_drewN (Below.refl _ _) _
  clear hw1 c0 c1 c2 k0 k2 f2;refine (SM.out w1).mono ?_; rintro e w2 ⟨rfl, hb2⟩
  go_wp2_with fail
  refine (GT.out w2).mono ?_; rintro e w3 ⟨rfl, rfl⟩
  have B3 := below_over hb1 hb2;have H3 := HR.out.on B3;obtain ⟨w4, hw4⟩ : ∃ w4, w4 = w2.setCell ⟨r, 1, none⟩ (.int .i64 ((i : Int) + 1)) := ⟨_, rfl⟩;have H4 : Rm r (some ⟨g, o, none⟩) S.n cn (i + 1) 0 w4 := by rw [hw4]; have := H3.at (i + 1); simpa using this
  have K4 : Kp r w w4 := by rw [hw4]; exact (Kp.of_below B3).put 1 _
  have q2 : w4.cell? ⟨g, o + i * 3 + 2, none⟩ = some (.string (S.T i)) := by
   have hgw : g < w.heap.size := Nat.lt_trans hgr hrw;rw [hw4, World.cell?_setCell_other _ _ _ _ (fun e => by simp only [Addr.mk.injEq] at e; omega)];exact (B3.cell (p := ⟨g, _, none⟩) hgw).trans HK2.out
  have d0 := H4.c0;have d1 : w4.cell? ⟨r, 1, none⟩ = some (.int .i64 ((i : Int) + 1)) := by have := H4.c1; simpa using this
  have c1 := H3.c1;have f1 := H3.f 1;have HW4 := zH hw4;have HH4 := zH H4;have HK4 := zH K4;clear hb1 hb2 B3 H3 hw4 H4 K4;go_upto_region 13 with fail
  rw [<- HW4.out];clear c1 f1;go_quiet (fail)
  obtain ⟨w5, hw5⟩ : ∃ w5, w5 = w4.drewN nq := ⟨_, rfl⟩;go_wp2_with fail
  go_ret;have hb5 : Below w4.heap.size w4 w5 := by rw [hw5]; exact below_drewN (Below.refl _ _) _
  rw [<- hw5];exact ⟨S.T i, i + 1, 0, rfl, hz, HH4.out.on hb5, HK4.out.trans (Kp.of_below hb5), .inl ⟨rfl, OK.out, rfl, rfl, rfl⟩⟩
theorem ris6_any {W : World} {r : Nat} {A : Option Addr} {S : Toks} {cn i b : Nat} {w : World} (hc : RdCtx W r A S w) (h : Rm r A S.n cn i b w) (t : ByteArray) :
  Calls Tryz.prog 19 #[.pointer (some ⟨r, 0, none⟩), .string t] w fun e w' => e = .returned (.bool (decide (b = 0) && keyS S i t.data.toList)) /\ Below w.heap.size w w' := by
 have hbig := hc.big
 have c0 := h.c0
 have c1 := h.c1
 have c2 := h.c2
 have HT := zH hc.toksAt
 clear hc h
 by_cases hb : b = 0
 rotate_left
 ·have R : Hid ((decide (b = 0) && keyS S i t.data.toList) = false) := zH (by simp [hb])
  rw [R.out];have b1 : (((b : Nat) : Int) == 0) = false := by simp; omega
  clear hb R HT;as_aux_lemma =>
  go_enter Tryz.func19, Tryz.ntmps19
  go_wp2_with fail
  go_quiet (fail)
  go_wp2_with fail
  go_ret;exact ⟨rfl, below_drewN (Below.refl _ _) _⟩
 subst hb
 simp at c2
 by_cases hlt : i < S.n
 rotate_left
 ·have R : Hid ((decide (0 = 0) && keyS S i t.data.toList) = false) := zH (by unfold keyS; simp [hlt])
  rw [R.out];clear R HT;as_aux_lemma =>
  go_enter Tryz.func19, Tryz.ntmps19
  go_wp2_with fail
  go_quiet (fail)
  go_wp2_with fail
  go_ret;exact ⟨rfl, below_drewN (Below.refl _ _) _⟩
 obtain ⟨g, o, y, rfl, hg, k0, k1, k2, hz⟩ := HT.out i hlt
 rcases hid_or (S.K i == 1) with hk | hk
 ·have R : Hid ((decide (0 = 0) && keyS S i t.data.toList) = false) := zH (by unfold keyS; rw [hk.out]; simp)
  have hk1 := hk.out;rw [R.out];clear R HT;as_aux_lemma =>
  go_enter Tryz.func19, Tryz.ntmps19
  go_wp2_with fail
  go_quiet (fail)
  go_wp2_with fail
  go_ret;exact ⟨rfl, below_drewN (Below.refl _ _) _⟩
 have hk1 := hk.out
 have R : Hid ((decide (0 = 0) && keyS S i t.data.toList) = ((S.T i).toList == t.toList)) := zH (by unfold keyS; rw [hk1, Lib.toList_data, Lib.toList_data]; simp [hlt])
 rw [R.out]
 clear R HT
 go_enter Tryz.func19, Tryz.ntmps19
 go_wp2_with fail
 go_quiet (fail)
 go_wp2_with fail
 go_ret
 exact ⟨rfl, below_drewN (Below.refl _ _) _⟩
def RjOut (w : World) (r : Nat) (A : Option Addr) (S : Toks) (cn i b : Nat) (e : Ending) (w' : World) : Prop :=
 ∃ (v : Int) (i' b' : Nat), e = .returned (.int .i64 v) /\ Rm r A S.n cn i' b' w' /\ Kp r w w' /\ NumOut S i b v i' b'
theorem major_nought {l : List UInt8} (h : bt l 0 = 48) : majorOk l = false := by
 rw [Bool.eq_false_iff]; intro e
 have := ((majorOk_iff l).1 e).2.2.2
 omega
theorem rmaj6_three {W : World} {r : Nat} {S : Toks} {cn i g o : Nat} {w : World} (hc : RdCtx W r (some ⟨g, o, none⟩) S w) (h : Rm r (some ⟨g, o, none⟩) S.n cn i 0 w) (hlt : i < S.n) (hk : Hid ((S.K i == 3) = true)) (hz : (S.T i).size <= 9223372036854775807)
  (k0 : w.cell? ⟨g, o + i * 3, none⟩ = some (.int .i64 (S.K i))) (k2 : w.cell? ⟨g, o + i * 3 + 2, none⟩ = some (.string (S.T i))) :
  Calls Tryz.prog 40 #[.pointer (some ⟨r, 0, none⟩)] w (RjOut w r (some ⟨g, o, none⟩) S cn i 0) := by
 have hbig := hc.big
 have c0 := h.c0
 have c1 := h.c1
 have c2 := h.c2
 have HR := zH h
 simp at c2
 have hk1 := hk.out
 have MQ : Hid (S.major i = majorOk (S.T i).data.toList) := zH (by unfold Toks.major; rw [hk.out, decide_eq_true hlt]; rfl)
 have ESZ : Hid ((S.T i).data.toList.length = (S.T i).size) := zH (by rw [Array.length_toList]; rfl)
 have NO : Hid (majorOk (S.T i).data.toList = false -> ∀ w1, Below w.heap.size w w1 -> RjOut w r (some ⟨g, o, none⟩) S cn i 0 (.returned (.int .i64 0)) (w1.setCell ⟨r, 2, none⟩ (.int .i64 2))) := zH (fun e w1 hb =>
  ⟨0, i, 2, rfl, (h.on hb).bad 2, ((Kp.of_below hb)).put 2 _, .inr (.inl ⟨rfl, by rw [MQ.out]; exact e, rfl, rfl⟩)⟩)
 have YES : Hid (majorOk (S.T i).data.toList = true -> ∀ w1, Below w.heap.size w w1 -> RjOut w r (some ⟨g, o, none⟩) S cn i 0 (.returned (.int .i64 (digs (S.T i).data.toList 0))) (w1.setCell ⟨r, 1, none⟩ (.int .i64 ((i : Int) + 1)))) := zH (fun e w1 hb =>
  ⟨_, i + 1, 0, rfl, by have := (h.on hb).at (i + 1); simpa using this, ((Kp.of_below hb)).put 1 _, .inl ⟨rfl, by rw [MQ.out]; exact e, rfl, rfl, rfl⟩⟩)
 clear hc h hk MQ
 generalize hT : S.T i = T at k2 hz ESZ NO YES
 obtain ⟨l, hL⟩ : ∃ l, l = T.data.toList := ⟨_, rfl⟩
 have BT : Hid (∀ k (hk : k < T.size), (T[k].toNat : Int) = bt l k) := zH (fun k hk => by rw [hL]; exact bt_eq T k hk)
 rw [<- hL] at ESZ NO YES
 clear hT hL
 have CASES : (T.size = 0 \/ 9 < T.size) \/ (1 <= T.size /\ T.size <= 9) := by omega
 rcases CASES with hl | hl
 ·have R := zH (NO.out (major_len _ (by rw [ESZ.out]; omega)))
  clear NO YES ESZ BT;rcases hl with h0 | h0
  ·have h1 : (T.size : Int) < 1 := by omega
   have h2 : ¬ 9 < (T.size : Int) := by omega
   have h3 : (T.size : Int) <= 9 := by omega
   have h4 : ¬ 1 <= (T.size : Int) := by omega
   clear h0;as_aux_lemma =>
   go_enter Tryz.func40, Tryz.ntmps40
   go_wp2_with fail
   go_quiet (fail)
   generalize nq = n0
   go_wp2_with fail
   go_quiet (fail)
   go_wp2_with fail
   obtain ⟨w1, hw1⟩ : ∃ w1, w1 = w.drewN (n0 + nq) := ⟨_, rfl⟩;rw [<- hw1];have hb1 : Below w.heap.size w w1 := by rw [hw1]; exact below_drewN (Below.refl _ _) _
   have H1 := HR.out.on hb1;have f2 := H1.f 2;have d2 := H1.c2;simp at d2;have OUT := zH (R.out _ hb1);clear hb1 hw1 H1 c0 c1 c2 k0 k2;go_loop [3, 4, 6] (fun qv nv iv => nv = .int .i64 0 /\ qv = .bool false /\ iv = .int .i64 0) (fun _ _ iv => (intOf iv).toNat)
   case atStart => exact ⟨rfl, by first | rfl | rw [decide_eq_false (by omega)], rfl⟩
   case round =>
    obtain ⟨rfl, rfl, rfl⟩ := hrel;go_wp2_with fail
    go_ret;exact OUT.out
  ·have h1 : ¬ (T.size : Int) < 1 := by omega
   have h2 : 9 < (T.size : Int) := by omega
   have h3 : ¬ (T.size : Int) <= 9 := by omega
   have h4 : 1 <= (T.size : Int) := by omega
   clear h0;as_aux_lemma =>
   go_enter Tryz.func40, Tryz.ntmps40
   go_wp2_with fail
   go_quiet (fail)
   generalize nq = n0
   go_wp2_with fail
   go_quiet (fail)
   go_wp2_with fail
   obtain ⟨w1, hw1⟩ : ∃ w1, w1 = w.drewN (n0 + nq) := ⟨_, rfl⟩;rw [<- hw1];have hb1 : Below w.heap.size w w1 := by rw [hw1]; exact below_drewN (Below.refl _ _) _
   have H1 := HR.out.on hb1;have f2 := H1.f 2;have d2 := H1.c2;simp at d2;have OUT := zH (R.out _ hb1);clear hb1 hw1 H1 c0 c1 c2 k0 k2;go_loop [3, 4, 6] (fun qv nv iv => nv = .int .i64 0 /\ qv = .bool false /\ iv = .int .i64 0) (fun _ _ iv => (intOf iv).toNat)
   case atStart => exact ⟨rfl, by first | rfl | rw [decide_eq_false (by omega)], rfl⟩
   case round =>
    obtain ⟨rfl, rfl, rfl⟩ := hrel;go_wp2_with fail
    go_ret;exact OUT.out
 obtain ⟨hl1, hl2⟩ := hl
 have h1 : ¬ (T.size : Int) < 1 := by omega
 have h2 : 1 <= (T.size : Int) := by omega
 have h3 : ¬ 9 < (T.size : Int) := by omega
 have h4 : (T.size : Int) <= 9 := by omega
 have h00 : 0 < T.size := by omega
 have HLL : Hid (1 <= l.length /\ l.length <= 9) := zH (by rw [ESZ.out]; exact ⟨hl1, hl2⟩)
 by_cases hx : (T[0].toNat : Int) = 48
 ·have R := zH (NO.out (major_nought (by rw [<- BT.out 0 h00]; exact hx)))
  have e1 : ((T[0].toNat : Int) == 48) = true := by simp [hx]
  have e2 : ((T[0].toNat : Int) != 48) = false := by simp [hx]
  clear NO YES ESZ BT hx HLL;as_aux_lemma =>
  go_enter Tryz.func40, Tryz.ntmps40
  go_wp2_with fail
  go_quiet (fail)
  generalize nq = n0
  go_wp2_with fail
  go_quiet (fail)
  go_wp2_with fail
  obtain ⟨w1, hw1⟩ : ∃ w1, w1 = w.drewN (n0 + nq) := ⟨_, rfl⟩;rw [<- hw1];have hb1 : Below w.heap.size w w1 := by rw [hw1]; exact below_drewN (Below.refl _ _) _
  have H1 := HR.out.on hb1;have f2 := H1.f 2;have d2 := H1.c2;simp at d2;have OUT := zH (R.out _ hb1);clear hb1 hw1 H1 c0 c1 c2 k0 k2;go_loop [3, 4, 6] (fun qv nv iv => nv = .int .i64 0 /\ qv = .bool false /\ iv = .int .i64 0) (fun _ _ iv => (intOf iv).toNat)
  case atStart => exact ⟨rfl, by first | rfl | rw [decide_eq_false (by omega)], rfl⟩
  case round =>
   obtain ⟨rfl, rfl, rfl⟩ := hrel;go_wp2_with fail
   go_ret;exact OUT.out
 have e1 : ((T[0].toNat : Int) == 48) = false := by simp [hx]
 have e2 : ((T[0].toNat : Int) != 48) = true := by simp [hx]
 have HX0 := zH hx
 clear hx
 go_enter Tryz.func40, Tryz.ntmps40
 go_wp2_with fail
 go_quiet (fail)
 generalize nq = n0
 go_wp2_with fail
 go_quiet (fail)
 go_wp2_with fail
 obtain ⟨w1, hw1⟩ : ∃ w1, w1 = w.drewN (n0 + nq) := ⟨_, rfl⟩
 rw [<- hw1]
 have hb1 : Below w.heap.size w w1 := by rw [hw1]; exact below_drewN (Below.refl _ _) _
 have H1 := HR.out.on hb1
 have f2 := H1.f 2
 have d2 := H1.c2
 simp at d2
 have d1 := H1.c1
 have f1 := H1.f 1
 have NO1 : Hid (majorOk l = false -> RjOut w r (some ⟨g, o, none⟩) S cn i 0 (.returned (.int .i64 0)) (w1.setCell ⟨r, 2, none⟩ (.int .i64 2))) := zH (fun e => NO.out e w1 hb1)
 have YES1 : Hid (majorOk l = true -> RjOut w r (some ⟨g, o, none⟩) S cn i 0 (.returned (.int .i64 (digs l 0))) (w1.setCell ⟨r, 1, none⟩ (.int .i64 ((i : Int) + 1)))) := zH (fun e => YES.out e w1 hb1)
 clear H1 hb1 hw1 c0 c1 c2 k0 k2 HR NO YES e1 e2
 go_loop [3, 4, 6] (fun qv nv iv => ∃ (k : Nat) (m : Int) (q : Bool), k <= T.size /\ iv = .int .i64 k /\ nv = .int .i64 m /\ qv = .bool q /\ Hid (Maj l k m q)) (fun _ _ iv => T.size - (intOf iv).toNat)
 case atStart => exact ⟨0, 0, true, by omega, rfl, rfl, rfl, zH (.start HLL.out)⟩
 case round =>
  obtain ⟨k, m, q, hk, rfl, rfl, rfl, HM⟩ := hrel;cases HM.out with
  | no _ hno =>
   have OUT := zH (NO1.out hno);clear hno HM;by_cases hlt1 : k < T.size
   all_goals
    go_wp2_with fail
    go_ret;exact OUT.out
  | yes _ ha h0 hbd =>
   have HA := zH ha;have H0 := zH h0;have HB := zH hbd;clear ha h0 hbd HM;by_cases hlt1 : k < T.size
   ·have BK := zH (BT.out k hlt1)
    have HP : (10 ^ k : Nat) <= 100000000 := Nat.le_trans (Nat.pow_le_pow_right (by omega) (show k <= 8 by omega)) (by decide);have m0 : 0 <= digs (l.take k) 0 := HB.out.1;have m1 : digs (l.take k) 0 < 100000000 := by have := HB.out.2; omega
    clear HP;obtain ⟨m, hm⟩ : ∃ m, m = digs (l.take k) 0 := ⟨_, rfl⟩;rw [<- hm] at m0 m1 ⊢;have HMM := zH hm;clear hm;by_cases x1 : (T[k].toNat : Int) < 48
    ·have x2 : ¬ 48 <= (T[k].toNat : Int) := by omega
     go_wp2_with fail
     go_round
     case rel =>
      refine ⟨k + 1, _, _, by omega, (by first | rfl | go_num), rfl, rfl, zH ?_⟩;exact .no _ (major_byte (by rw [ESZ.out]; exact hlt1) BK.out (by omega))
     case measure => simp [intOf] <;> omega
    by_cases x3 : 57 < (T[k].toNat : Int)
    ·have x2 : 48 <= (T[k].toNat : Int) := by omega
     have x4 : ¬ (T[k].toNat : Int) <= 57 := by omega
     go_wp2_with fail
     go_round
     case rel =>
      refine ⟨k + 1, _, _, by omega, (by first | rfl | go_num), rfl, rfl, zH ?_⟩;exact .no _ (major_byte (by rw [ESZ.out]; exact hlt1) BK.out (by omega))
     case measure => simp [intOf] <;> omega
    have y1 : 48 <= (T[k].toNat : Int) := by omega
    have y2 : (T[k].toNat : Int) <= 57 := by omega
    have y3 : 0 < k \/ 48 < (T[k].toNat : Int) := by
     by_cases hk0 : k = 0
     ·subst hk0
      have := HX0.out
      exact .inr (by omega)
     ·exact .inl (by omega)
    have Y3 := zH y3;clear y3;go_wp2_with fail
    go_round
    case rel =>
     refine ⟨k + 1, _, _, by omega, (by first | rfl | go_num), rfl, rfl, zH ?_⟩;exact .step_yes HLL.out HA.out H0.out HB.out (by rw [ESZ.out]; exact hlt1) BK.out (by omega) (by omega) Y3.out (by rw [<- HMM.out])
    case measure => simp [intOf] <;> omega
   ·have q := Maj.all HLL.out HA.out H0.out (by rw [ESZ.out]; omega)
    have OUT := YES1.out q;have e : l.take k = l := List.take_of_length_le (by rw [ESZ.out]; omega);rw [e];have HO := zH OUT;clear OUT q e HA H0 HB;go_wp2_with fail
    go_ret;exact HO.out
theorem rmaj6_any {W : World} {r : Nat} {A : Option Addr} {S : Toks} {cn i b : Nat} {w : World} (hc : RdCtx W r A S w) (h : Rm r A S.n cn i b w) :
  Calls Tryz.prog 40 #[.pointer (some ⟨r, 0, none⟩)] w (RjOut w r A S cn i b) := by
 have hbig := hc.big
 have c0 := h.c0
 have c1 := h.c1
 have c2 := h.c2
 have HR := zH h
 by_cases hb : b = 0
 rotate_left
 ·have b1 : (((b : Nat) : Int) == 0) = false := by simp; omega
  have b2 : (((b : Nat) : Int) != 0) = true := by simp; omega
  have OUT : Hid (RjOut w r A S cn i b (.returned (.int .i64 0)) w) := zH ⟨0, i, b, rfl, h, Kp.refl _ _, .inr (.inr ⟨hb, rfl, rfl⟩)⟩;clear hb hc h;as_aux_lemma =>
  go_enter Tryz.func40, Tryz.ntmps40
  go_wp2_with fail
  go_ret;exact OUT.out
 subst hb
 simp at c2
 have f2 := h.f 2
 have NO : S.major i = false -> Hid (∀ w1, Below w.heap.size w w1 -> RjOut w r A S cn i 0 (.returned (.int .i64 0)) (w1.setCell ⟨r, 2, none⟩ (.int .i64 2))) := fun e => zH (fun w1 hb =>
  ⟨0, i, 2, rfl, (h.on hb).bad 2, ((Kp.of_below hb)).put 2 _, .inr (.inl ⟨rfl, e, rfl, rfl⟩)⟩)
 by_cases hlt : i < S.n
 rotate_left
 ·have R := NO (by unfold Toks.major; simp [hlt])
  have hle : S.n <= i := by omega
  clear NO hc h;as_aux_lemma =>
  go_enter Tryz.func40, Tryz.ntmps40
  go_wp2_with fail
  go_quiet (fail)
  go_wp2_with fail
  go_ret;exact R.out _ (below_drewN (Below.refl _ _) _)
 obtain ⟨g, o, y, rfl, hg, k0, k1, k2, hz⟩ := hc.toksAt i hlt
 rcases hid_or (S.K i == 3) with hk | hk
 ·have R := NO (by unfold Toks.major; rw [hk.out]; simp)
  have hk1 := hk.out;clear NO hc h;as_aux_lemma =>
  go_enter Tryz.func40, Tryz.ntmps40
  go_wp2_with fail
  go_quiet (fail)
  go_wp2_with fail
  go_ret;exact R.out _ (below_drewN (Below.refl _ _) _)
 exact rmaj6_three hc h hlt hk hz k0 k2
end Go.Proofs.YtddlmigofilejaaGreatDoor
